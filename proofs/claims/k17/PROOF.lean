import PyProof.Rows.All
import Wide.All
import OpenK.AllK
import Wide.FinOn
import HandS.ForMost
import HandS.SortInts
import HandS.TupAny
import HandS.Conv
import KE.KIndexOf
import PyProof.ReprRoads
import PyProof.ReprLen
import HandS.Comp
import HandS.Strs
import HandS.SetBool
import HandS.IsInst
import HandS.Rev
import HandS.Style
import HandS.TupLe
import HandS.Zip
import HandS.SetFor
import HandS.TupMul
import HandS.More
import HandS.ForExc
import HandS.ExcInit
import HandS.ExcValue
import KE.KExcSuper
import KE.KExcIs
import KE.KIsAll
import HandS.Exc
import KE.KExcInit
import KE.KSuper
import HandS.WordsExc
import HandS.ExcOwn
import PyProof.CallFns
import PyProof.WalksMore
import HandS.TryOnly
import HandS.Codes
import KE.DataFind
import HandS.Defaults
import HandS.MakeKwOnly
import HandS.MakeKw
import HandS.Flow
import KE.KExcLine
import KE.RegKTryMore
import PyProof.ExcBaseAll.ValueError
import PyProof.InstStoreFacts
import PySem.Challenge.RW_surehand_k17_runs_looked_at
set_option Elab.async false
set_option linter.all false
set_option maxRecDepth 100000
set_option maxHeartbeats 4000000
/-! ### B0: what every law's text uses: a def by its name, calls, the end where nothing is being written out -/
namespace Su
open PySem PySem.Spec PyProof.Rows L2
/-- a def of the text stands under its name -/
structure At (K : PySem.W.Frag) (mg : Str → Option Value) (x : Str) (st : Stmt) (ps : List Str) : Prop where
  ex : ∃ (f : Addr) (fd : FuncData), Fun K x x st f fd ∧ mg x = some (.ref f) ∧ Binds K fd ps []
/-- a def that keeps a promise may be called by its name -/
structure Cal (P : Program) (w : World) (K : PySem.W.Frag) (mg : Str → Option Value) (base : Heap) (k : Nat) (x : Str) (ps : List Str) (sp : Sp) : Prop where
  ex : ∃ (f : Addr) (fd : FuncData), FnOk P w K mg base CX0 k f fd ps sp ∧ mg x = some (.ref f) ∧ PySem.W.keepIn K (.ref f) = true ∧ Binds K fd ps [] ∧ ∃ o : Obj, K.lookup f = some o ∧ o.data = .func fd
section
variable {P : Program} {w : World} {K : PySem.W.Frag} {mg : Str → Option Value} {base : Heap}
theorem cal_of {x : Str} {st : Stmt} {N ps : List Str} {k : Nat} {sp : Sp} (T : At K mg x st ps) (S : FnScope N ps (defScope st)) (len : ∀ vs H Q E, sp vs H Q E → vs.length = ps.length)
    (hb : ∀ (f : Addr) (cdv : Value) (A : Around) (outer : List Env) (s : Shared) (H : Hp) (vs : List V) (Q : VK) (E : XK), Room k (A.deeper (envOfC x (defScope st) s.heap.objs.size f cdv)) → sp vs H Q E →
      ∃ t, PSs (cxOf CX0 P w K mg base N x (defScope st) f cdv A outer s H E).nox (defBody st) t ∧ t { nx := fun _ H' => Q .non H', rt := Q } (start N vs) H) : Cal P w K mg base (k + 1) x ps sp := by
  obtain ⟨f, fd, F, hm, b⟩ := T.ex
  have z : ∃ o : Obj, K.lookup f = some o ∧ o.data = .func fd := by
    obtain ⟨oc, od, kV, doc, pm, an, cdv, ct, osl, _, lk, _⟩ := F.ex
    exact ⟨_, lk, rfl⟩
  exact ⟨f, fd, F.ok S len (fun cdv A outer s H vs Q E => hb f cdv A outer s H vs Q E), hm, F.kp, b, z⟩
end
section
variable {X : Cx} {k j : Nat} {x : Str} {ps : List Str} {sp : Sp} {p pos : Pos} {e : Expr} {es : List Expr} {t : TA}
theorem pe_own (C : Cal X.prog X.w X.K X.mg X.base k x ps sp) (hr : Room j X.A) (hk : k ≤ j) (hg : Gl X x) (ha : PA X (e :: es) t)
    (hdb : (x == ("__debug__" : Str)) = false := by decide) (he : starEach (e :: es) X.env = (false, eval e X.env) :: starEach es X.env := by rfl) (hpl : (backTo pos (starEach es X.env)).any (·.1) = false := by rfl) :
    PE X (.Call (.Name x p) (e :: es) [] pos) (tCall sp [] E0 t) := by
  obtain ⟨f, fd, F, hm, kp, b, _⟩ := C.ex
  exact pe_call F (hr.mono hk) hg hm kp b .nil (fun _ _ _ _ _ _ _ h => h.elim) ha hdb he hpl
theorem pe_own0 (C : Cal X.prog X.w X.K X.mg X.base k x ps sp) (hr : Room j X.A) (hk : k ≤ j) (hg : Gl X x) (hdb : (x == ("__debug__" : Str)) = false := by decide) :
    PE X (.Call (.Name x p) [] [] pos) (tCall sp [] E0 tNil) := by
  obtain ⟨f, fd, F, hm, kp, b, _⟩ := C.ex
  exact pe_call0 F (hr.mono hk) hg hm kp b .nil (fun _ _ _ _ _ _ _ h => h.elim) hdb
end
/-- the same promise, asked only where no object is being written out -/
structure FnG (P : Program) (w : World) (K : PySem.W.Frag) (mg : Str → Option Value) (base : Heap) (CX : CXT) (k : Nat) (f : Addr) (fd : FuncData) (ps : List Str) (sp : Sp) : Prop where
  len : ∀ vs H Q E, sp vs H Q E → vs.length = ps.length
  run : ∀ (A : Around) (outer : List Env) (s : Shared) (H : Hp) (args : Args) (us : List Value) (vs : List V) (Q : VK) (E : XK), A.guards = some [] → Room k A → Env0 P w K mg base A outer s H →
    BindsTo s fd args (ps.zip us) → Vals vs us → sp vs H Q E → codeAny (model P w) A (.call (.ref f) args) (CR CX outer P w H s Q E) s
theorem deeper_guards {A : Around} {e : Env} (h : A.guards = some []) : (A.deeper e).guards = some [] := by
  first
    | exact h
    | simpa [Around.deeper, Around.under, pushGuards, Code.guards, Code.isGuard] using h
theorem fnG_of {CX : CXT} {P : Program} {w : World} {K : PySem.W.Frag} {mg : Str → Option Value} {base : Heap} {k : Nat} {f : Addr} {nm ql : Str} {pr : Arguments} {bd : List Stmt} {sc : Scope} {dv kv dc pm cd ct oc : Value} {an od : Option Addr}
    {sl : Array (Option Value)} {N ps : List Str} {sp : Sp}
    (lk : K.lookup f = some ⟨oc, od, .func (PySem.W.fnOf nm ql pr bd sc dv kv dc pm an cd ct), sl⟩)
    (hcd : PySem.W.codeIn K cd ql = true) (S : FnScope N ps sc) (len : ∀ vs H Q E, sp vs H Q E → vs.length = ps.length)
    (hb : ∀ (A : Around) (outer : List Env) (s : Shared) (H : Hp) (vs : List V) (Q : VK) (E : XK), (A.deeper (envOfC ql sc s.heap.objs.size f cd)).guards = some [] → Room k (A.deeper (envOfC ql sc s.heap.objs.size f cd)) → sp vs H Q E →
      ∃ t, PSs (cxOf CX P w K mg base N ql sc f cd A outer s H E) bd t ∧ t { nx := fun _ H' => Q .non H', rt := Q } (start N vs) H) :
    FnG P w K mg base CX (k + 1) f (PySem.W.fnOf nm ql pr bd sc dv kv dc pm an cd ct) ps sp := by
  refine ⟨len, fun A outer s H args us vs Q E hgd hr e0 hbi rv hs => ?_⟩
  obtain ⟨t, ht, hq⟩ := hb A outer s H vs Q E (deeper_guards hgd) (hr.deeper _) hs
  -- the very same body, as a promise that asks for this surrounding alone
  have kin : K.In s.heap := e0.mod.kin.keeps fun b o z => (e0.bs b o z).1
  have nol : s.heap.NoLimit := e0.mod.nolimit.keeps fun b o z => (e0.bs b o z).1
  refine codeAny_call_function hr.depth (kin _ _ lk) rfl S.co S.gen rfl (PySem.W.codeRec_of kin hcd) (hbi _ _ _ _ ?_)
  refine wpAny_newFunctionEnv_cells S.kind (fun y hy => ?_) fun env he s1 x => ?_
  · rcases S.par y.1 (List.of_mem_zip (show (y.1, y.2) ∈ ps.zip us from hy)).1 with z | z
    · exact Or.inl z
    · exact Or.inr ⟨z, PySem.W.cellsFrom_some _ _ _ (Or.inl z)⟩
  · subst he
    refine ⟨nol.keeps x.toInCall.keep, codeAny_func (wpAny_mono (ht.run [] s1 (start N vs) H _ (inv_start S hr.hd e0 (len _ _ _ _ hs) rv x) hq) (fun fl s' z => ?_) fun _ _ z => z)⟩
    cases fl with
    | ret u =>
      obtain ⟨v, σ', H', J, r', q'⟩ := z
      exact ⟨v, H', J.os, J.bare, J.base, J.hok, r', q'⟩
    | next =>
      obtain ⟨σ', H', J, q'⟩ := z
      exact ⟨V.non, H', J.os, J.bare, J.base, J.hok, rfl, q'⟩
    | brk => exact (z.elim fun _ z => z.elim fun _ z => False.elim z.2)
    | cont => exact (z.elim fun _ z => z.elim fun _ z => False.elim z.2)
theorem hid_ns {h : Heap} {H : Hp} {b : Addr} {m : Str → Option Value} (no : ∀ (o : Obj) (es : Array DictEntry) (ep : Nat), h.get? b = some o → o.data = .dict es ep → H b = none) (n : h.Ns b m) : (hidT h H).Ns b m := by
  obtain ⟨o, es, ep, e, d, r⟩ := n
  exact ⟨o, es, ep, hidT_get e (no o es ep e d), d, r⟩
/-- the law's call, from a promise that is asked only where no object is being written out -/
theorem law_callG {P : Program} {w : World} {K : PySem.W.Frag} {mg mb : Str → Option Value} {CX : CXT} {k : Nat} {fa a : Addr} {fd : FuncData} {x : Str} {sp : Sp} {t : Shared} {vs : List Value} {ns : List Int}
    (KX : K.In t.heap) (g1 : t.heap.Ns mainGlobals mg) (g2 : t.heap.Ns builtinsNs mb) (g3 : ∀ y : Str, y ≠ "__name__" → mb y = bootBuiltins y) (g4 : t.heap.NoLimit) (g5 : t.gens = #[])
    (ha : t.heap.get? a = some { cls := .type "list", data := .seq vs.toArray }) (hi : IntsAre vs ns) (hl : ns.length ≤ sizeLine) (hr : Room k callerA)
    (F : ∀ bs : Heap, K.In bs → bs.Ns mainGlobals mg → FnG P w K mg bs CX k fa fd [x] sp) (hbi : ∀ (s : Shared) (u : Value), BindsTo s fd ⟨[u], []⟩ [(x, u)])
    (hsp : ∀ H : Hp, Only H → SqL K H a (ns.map V.int) → sp [.ref a] H (fun v _ => v = .bl true) fun _ _ _ => False)
    (hCX : ∀ H e s', CX [] H t (fun _ _ _ => False) e s' → False) :
    codeAny (model P w) callerA (.call (.ref fa) ⟨[.ref a], []⟩) (fun r s' => r = .ok (.ret (.bool true)) ∧ OldK t.heap s'.heap ∧ s'.os = t.os ∧ AllBare s'.gens) t := by
  have rv := vals_ints hi
  have main : ∀ H : Hp, Only H → SqL K H a (ns.map V.int) → HOk P w H t.heap → (∀ b, H b ≠ none → b = a) → (H a ≠ none → K.lookup a = none) →
      codeAny (model P w) callerA (.call (.ref fa) ⟨[.ref a], []⟩) (fun r s' => r = .ok (.ret (.bool true)) ∧ OldK t.heap s'.heap ∧ s'.os = t.os ∧ AllBare s'.gens) t := by
    intro H only hS hok one out
    have no : ∀ (b : Addr) (o : Obj) (es : Array DictEntry) (ep : Nat), t.heap.get? b = some o → o.data = .dict es ep → H b = none := by
      intro b o es ep e d
      cases z : H b with
      | none => rfl
      | some u =>
        obtain rfl : b = a := one b (by rw [z]; simp)
        rw [ha] at e
        cases e
        exact absurd d (by simp)
    have kb : K.In (hidT t.heap H) := by
      intro b o e
      refine hidT_get (KX b o e) ?_
      cases z : H b with
      | none => rfl
      | some u =>
        obtain rfl : b = a := one b (by rw [z]; simp)
        rw [out (by rw [z]; simp)] at e
        cases e
    have ng : (hidT t.heap H).Ns mainGlobals mg := hid_ns (no _) g1
    have md : Mod K mg (hidT t.heap H) := ⟨kb, ng, ⟨mb, hid_ns (no _) g2, g3⟩, g4.elim fun mc h => ⟨mc, hid_ns (no _) h.1, h.2⟩⟩
    have ev : Env0 P w K mg (hidT t.heap H) callerA [] t H :=
      ⟨rfl, md, fun b o e => of_hidT e, Nat.le_of_eq (hidT_size _ _), trivial, fun b z => (List.not_mem_nil z).elim, hok, .of_eq g5⟩
    refine codeAny_mono ((F _ kb ng).run callerA [] t H ⟨[.ref a], []⟩ [.ref a] [.ref a] _ _ rfl hr ev (hbi t (.ref a)) (.cons rfl .nil) (hsp H only hS)) fun r s' h => ?_
    match r, h with
    | .error e, h => exact (hCX H e s' h).elim
    | .ok .next, h => exact False.elim h
    | .ok .brk, h => exact False.elim h
    | .ok .cont, h => exact False.elim h
    | .ok (.ret u), h =>
      obtain ⟨v, H', os, bare, un, hok2, r2, q⟩ := h
      obtain rfl : v = .bl true := q
      obtain rfl : u = Value.bool true := r2
      refine ⟨rfl, OldK.of_keep fun b o e => ?_, os, bare⟩
      rcases only b with z | ⟨ob, xs, z⟩
      · exact un.keep b o e z (fun y => (List.not_mem_nil y).elim) (by simp)
      · have y1 := (hok b _ z).1
        have y2 := (hok2 b _ (un.frzs b ob _ z)).1
        rw [e] at y1
        cases y1
        exact y2
  cases hk : K.lookup a with
  | some o =>
    have e := KX a o hk
    rw [ha] at e
    cases e
    refine main (fun _ => none) (fun _ => .inl rfl) (.inr ⟨_, vs.toArray, _, hk, rfl, rfl, rfl, ?_, ?_⟩) (fun b u z => nomatch (show (none : Option HO) = some u from z)) (fun b z => absurd rfl z) fun z => absurd rfl z
    · rw [List.size_toArray, hi.length]
      exact hl
    · simpa using rv
  | none =>
    have at1 : (fun b => if b = a then some (HO.frz { cls := .type "list", data := .seq vs.toArray } (.lst (ns.map V.int))) else none : Hp) a = some (HO.frz { cls := .type "list", data := .seq vs.toArray } (.lst (ns.map V.int))) := if_pos rfl
    refine main (fun b => if b = a then some (.frz { cls := .type "list", data := .seq vs.toArray } (.lst (ns.map V.int))) else none) (fun b => ?_) (.inl (.inr ⟨_, at1⟩)) (fun b u z => ?_) (fun b z => ?_) fun _ => hk
    · by_cases e : b = a
      · exact .inr ⟨_, _, if_pos e⟩
      · exact .inl (if_neg e)
    · by_cases e : b = a
      · subst e
        have y := at1.symm.trans z
        cases y
        exact ⟨ha, by rw [List.length_map]; exact hl, vs, _, rv, ha⟩
      · exact nomatch ((if_neg e).symm.trans z)
    · by_cases e : b = a
      · exact e
      · exact absurd (if_neg e) z
theorem walk_ofG {l : PySem.W.OpenLaw} {n k : Nat} {q : Program} {loose : List Str} {XP : (Str → Option Value) → Heap → Prop} {YP : World → Heap → Prop} {d : DefRec} {K : Params → PySem.W.Frag} {CX : CXT} {sp : PySem.W.Frag → Sp} {x : Str}
    (hn : l.most = some n) (hn2 : n ≤ sizeLine) (hdf : d.params.defaults = []) (hr : Room k callerA) (hY : ∀ (w : World) (h : Heap), YP w h → (K w.params).In h)
    (F : ∀ (w : World) (mg : Str → Option Value) (fa : Addr) (h : Heap), (K w.params).In h → h.Ns mainGlobals mg → mg d.name = some (.ref fa) →
      ∃ fd : FuncData, (∀ (s : Shared) (u : Value), BindsTo s fd ⟨[u], []⟩ [(x, u)]) ∧
        ∀ bs : Heap, (K w.params).In bs → bs.Ns mainGlobals mg → FnG l.prog w (K w.params) mg bs CX k fa fd [x] (sp (K w.params)))
    (hsp : ∀ (K : PySem.W.Frag) (H : Hp) (a : Addr) (ns : List Int), ns.length ≤ n → SqL K H a (ns.map V.int) → sp K [.ref a] H (fun v _ => v = .bl true) fun _ _ _ => False)
    (hCX : ∀ (H : Hp) (s : Shared) (e : Value) (s' : Shared), CX [] H s (fun _ _ _ => False) e s' → False) :
    PySem.W.WalkO q loose XP YP l.row.toRowW d [] (fun f vs => PySem.call f vs) := by
  refine Att.attach_call hn hdf fun w s₀ t mg mb fa o pm cd doc a vs ns G Y ho hd hcd hmg hobj hints hlen hg => ?_
  have KX := hY w _ Y
  obtain ⟨fd, hb, hF⟩ := F w mg fa _ KX G.T.g hmg
  exact law_callG KX G.T.g G.T.b G.T.builtins G.T.nolimit hg hobj hints (Nat.le_trans hlen hn2) hr hF hb (fun H _ hS => hsp (K w.params) H a ns hlen hS) fun H e s' => hCX H t e s'
end Su
/-! ### B1: repr of data, t.index(n), a call by keywords alone, data that is small enough -/
namespace Su
open PySem PySem.Spec PyProof.Rows L2
/-- data of small numbers, of depth n at most, of weight m at most -/
structure Fine (d : PyData) (n m : Nat) : Prop where
  sh : d.showable = true
  nd : d.hasDict = false
  dp : d.depth ≤ n
  lv : d.leavesShort 13 = true
  wt : d.weight ≤ m
  cl : d.canLay0 = true
structure FineL (ds : List PyData) (n m : Nat) : Prop where
  sh : PyData.showableAll ds = true
  nd : PyData.hasDictAll ds = false
  dp : PyData.depthAll ds ≤ n
  lv : PyData.leavesShortAll 13 ds = true
  wt : PyData.weightAll ds ≤ m
  cl : PyData.canLayAll0 ds = true
theorem Fine.int {i : Int} (h1 : -1000000 ≤ i) (h2 : i ≤ 1000000) : Fine (.int i) 0 40 := by
  have hb : i.natAbs < 10 ^ 12 := by omega
  have e : i.natAbs < 2 ^ 20 := by omega
  have hl : i.natAbs.log2 < 39 := by
    by_cases z : i.natAbs = 0
    · rw [z]
      decide
    · exact (Nat.log2_lt z).mpr (by omega)
  refine ⟨?_, by simp [PyData.hasDict], by simp [PyData.depth], ?_, ?_, by first | rfl | simp [PyData.canLay0]⟩
  · simp only [PyData.showable, decide_eq_true_eq]
    omega
  · simp only [PyData.leavesShort, decide_eq_true_eq]
    exact PyData.shown_int_le hb
  · simp only [PyData.weight]
    split <;> omega
theorem Fine.bool (b : Bool) : Fine (.bool b) 0 0 := ⟨by simp [PyData.showable], by simp [PyData.hasDict], by simp [PyData.depth], by simp [PyData.leavesShort], by simp [PyData.weight], by first | rfl | simp [PyData.canLay0]⟩
theorem Fine.none : Fine .none 0 0 := ⟨by simp [PyData.showable], by simp [PyData.hasDict], by simp [PyData.depth], by simp [PyData.leavesShort], by simp [PyData.weight], by first | rfl | simp [PyData.canLay0]⟩
theorem FineL.nil {n : Nat} : FineL [] n 0 := ⟨by simp [PyData.showableAll], by simp [PyData.hasDictAll], by simp [PyData.depthAll], by simp [PyData.leavesShortAll], by simp [PyData.weightAll], by first | rfl | simp [PyData.canLayAll0]⟩
theorem FineL.cons {d : PyData} {ds : List PyData} {n m k : Nat} (h : Fine d n m) (t : FineL ds n k) : FineL (d :: ds) n (m + 1 + k) := by
  refine ⟨?_, ?_, ?_, ?_, ?_, ?_⟩
  · simp only [PyData.showableAll, h.sh, t.sh, Bool.and_self]
  · simp only [PyData.hasDictAll, h.nd, t.nd, Bool.or_self]
  · simp only [PyData.depthAll]
    have := h.dp
    have := t.dp
    omega
  · simp only [PyData.leavesShortAll, h.lv, t.lv, Bool.and_self]
  · simp only [PyData.weightAll]
    have := h.wt
    have := t.wt
    omega
  · simp only [PyData.canLayAll0, h.cl, t.cl, Bool.and_self]
theorem Fine.tuple {ds : List PyData} {n m : Nat} (t : FineL ds n m) : Fine (.tuple ds) (n + 1) m :=
  ⟨by simpa only [PyData.showable] using t.sh, by simpa only [PyData.hasDict] using t.nd, by simp only [PyData.depth]; have := t.dp; omega, by simpa only [PyData.leavesShort] using t.lv, by simpa only [PyData.weight] using t.wt, by simpa only [PyData.canLay0] using t.cl⟩
theorem Fine.list {ds : List PyData} {n m : Nat} (t : FineL ds n m) : Fine (.list ds) (n + 1) m :=
  ⟨by simpa only [PyData.showable] using t.sh, by simpa only [PyData.hasDict] using t.nd, by simp only [PyData.depth]; have := t.dp; omega, by simpa only [PyData.leavesShort] using t.lv, by simpa only [PyData.weight] using t.wt, by simpa only [PyData.canLay0] using t.cl⟩
theorem Fine.up {d : PyData} {n m n' m' : Nat} (h : Fine d n m) (a : n ≤ n') (b : m ≤ m') : Fine d n' m' := ⟨h.sh, h.nd, Nat.le_trans h.dp a, h.lv, Nat.le_trans h.wt b, h.cl⟩
theorem FineL.ints : ∀ ns : List Int, (∀ z ∈ ns, -1000000 ≤ z ∧ z ≤ 1000000) → FineL (ns.map PyData.int) 0 (41 * ns.length)
  | [], _ => FineL.nil
  | z :: ns, h => by
    have a := FineL.cons (Fine.int (h z List.mem_cons_self).1 (h z List.mem_cons_self).2) (FineL.ints ns fun y hy => h y (List.mem_cons_of_mem _ hy))
    have e : 40 + 1 + 41 * ns.length = 41 * (z :: ns).length := by
      rw [List.length_cons]
      omega
    rw [e] at a
    exact a
theorem Fine.len {d : PyData} {n m : Nat} (h : Fine d n m) (hm : m ≤ 1000000) : d.shown.length ≤ sizeLine := PyData.shown_fits (B := 13) (by decide) (by decide) h.lv (by have := h.wt; omega)
theorem Fine.shaped {d : PyData} {n m : Nat} (h : Fine d n m) (hn : n ≤ 64) : SeqAt.shaped d = true := by
  unfold SeqAt.shaped
  rw [h.cl, Bool.true_and, decide_eq_true_eq]
  exact Nat.le_trans h.dp hn
theorem Fine.eqv {d : PyData} {n m : Nat} (h : Fine d n m) : PyData.eqv d d = true := SeqAt.eqv_refl d h.cl
section
variable {X : Cx}
/-- repr(x), x a list or tuple of data -/
def rReprD (K : PySem.W.Frag) : List V → Hp → VK → Prop := fun xs H Q => ∃ (a : Addr) (d : PyData) (n m : Nat), xs = [.ref a] ∧ Dp K H (.ref a) d ∧ Fine d n m ∧ n ≤ 60 ∧ m ≤ 1000000 ∧ Q (.str d.shown) H
theorem call_reprD (hg : X.A.guards = some []) (hu : X.A.units + 64 < cLine) : CallR X (.builtin "repr") (rReprD X.K) := by
  intro pins s σ H xs us Q I r h
  obtain ⟨a, d, n, m, rfl, hd, hf, hn, hm, q⟩ := h
  rw [Vals.ref1 r]
  obtain ⟨as, rd⟩ := Dp.reads I d _ (.ref a) hd rfl
  refine repr_of_reads' rd hf.sh (PyData.noDict_hsm hf.nd) hg (by have := hf.dp; omega) (fun _ _ z => z) (fun h' u tk hk => ⟨.str d.shown, H, I.kept hk, ⟨u, rfl⟩, q⟩) (hf.len hm)
/-- t.index(n), t a tuple of ints that has n -/
def rTIndex (K : PySem.W.Frag) : V → List V → Hp → VK → Prop := fun x xs H Q => ∃ (p : Addr) (ns : List Int) (k : Int), x = .ref p ∧ xs = [.int k] ∧ SqT K H p (ns.map V.int) ∧ k ∈ ns ∧ Q (.int (ns.idxOf k : Nat)) H
theorem ints_of : ∀ {ns : List Int} {vs : List Value}, Vals (ns.map V.int) vs → IntsAre vs ns
  | [], _, r => by
    cases r
    exact .nil
  | n :: ns, _, r => by
    cases r with
    | cons r1 r2 =>
      obtain ⟨t, rfl⟩ := r1
      exact .cons _ _ (ints_of r2)
theorem mt_tindex : MtR X "tuple.index" (rTIndex X.K) := by
  intro pins s σ H x xs v us Q I rx rs h
  obtain ⟨p, ns, k, rfl, rfl, hq, hk, q⟩ := h
  cases rx
  obtain ⟨u, rfl, t, rfl⟩ := vals1 rs
  obtain ⟨its, r, pl, hz⟩ := I.tuple hq
  exact PySem.SeqAt.tuple_index_ints (l := p) (vs := its) pl (ints_of r) hk ⟨.int (ns.idxOf k : Nat), H, I.tok _, ⟨_, rfl⟩, q⟩
end
section
variable {X : Cx} {k j : Nat} {x : Str} {ps ks : List Str} {sp : Sp} {p pos : Pos} {kws : List Keyword} {tk : TA}
/-- a def that keeps a promise, called by keywords alone -/
structure KCal (P : Program) (w : World) (K : PySem.W.Frag) (mg : Str → Option Value) (base : Heap) (k : Nat) (x : Str) (ks : List Str) (gV : List V → List V → List V) (sp : Sp) : Prop where
  ex : ∃ (f : Addr) (fd : FuncData) (ps : List Str) (g : List Value → List Value → List Value), FnOk P w K mg base CX0 k f fd ps sp ∧ mg x = some (.ref f) ∧ PySem.W.keepIn K (.ref f) = true ∧ KBinds K fd ps ks g gV
variable {gV : List V → List V → List V}
def tKws (sp : Sp) (gV : List V → List V → List V) (tk : TA) : TE := fun σ H Q => tk σ H fun zs H2 => sp (gV [] zs) H2 Q E0
theorem pe_ownK (C : KCal X.prog X.w X.K X.mg X.base k x ks gV sp) (hr : Room j X.A) (hk : k ≤ j) (hg : Gl X x) (hkw : PK X kws tk)
    (hall : (backToKw pos (keywordEach kws X.env)).all (·.1.isSome) = true := by rfl) (hks : (backToKw pos (keywordEach kws X.env)).filterMap (·.1) = ks := by rfl) (hdb : (x == ("__debug__" : Str)) = false := by decide)
    (hpl : ((backTo pos (starEach [] X.env)).any (·.1) || (backToKw pos (keywordEach kws X.env)).any (·.1.isNone)) = false := by rfl) : PE X (.Call (.Name x p) [] kws pos) (tKws sp gV tk) := by
  obtain ⟨f, fd, ps, g, F, hm, kp, b⟩ := C.ex
  refine ⟨fun pins s σ H Q I h => ?_⟩
  refine wpAny_Call_Name_kw (ld_glob I hg hm ?_ hdb)
  refine PySem.W.callWith_KW0 (h₀ := X.base) I.ok.mod.kin kp hall (thn (hkw.run pos pins s σ H _ I h) fun ws s2 ⟨zs, H2, I2, rz, q2⟩ => ⟨I2.kIn, ?_⟩) hpl
  rw [hks]
  exact run_fnk F (hr.mono hk) b (fun _ _ _ _ _ _ _ z => z.elim) I2 .nil rz q2
end
end Su
/-! ### B2: tuples whose object is known to have no dict: their methods may be called -/
namespace Su
open PySem PySem.Spec PyProof.Rows L2
def PTup (H : Hp) (a : Addr) (xs : List V) : Prop := ∃ o : Obj, H a = some (.frz o (.tup xs)) ∧ o.dict = none
theorem PTup.sq {K : PySem.W.Frag} {H : Hp} {a : Addr} {xs : List V} (h : PTup H a xs) : SqT K H a xs := by
  obtain ⟨o, e, _⟩ := h
  exact .inl (.inr ⟨o, e⟩)
theorem PTup.same {H H' : Hp} {a : Addr} {xs : List V} (h : PTup H a xs) (s : Same H H') : PTup H' a xs := by
  obtain ⟨o, e, d⟩ := h
  exact ⟨o, s _ _ e, d⟩
theorem same_upd {H : Hp} {p : Addr} {o : HO} (h : H p = none) : Same H (upd H p o) := fun b x e => by
  rw [upd_ne (ne_of_none e h)]
  exact e
section
variable {X : Cx} {pins : List (Addr × Obj)} {σ : L2.St} {H : Hp} {s : Shared}
/-- a new tuple's object -/
abbrev tupO (its : List Value) : Obj := { cls := .type "tuple", data := .seq its.toArray }
theorem laidF {xs : List V} {its : List Value} (I : Inv X pins σ H s) (r : Vals xs its) (hz : xs.length ≤ sizeLine) (t' : Tok) :
    Inv X pins σ (upd H s.heap.objs.size (.frz (tupO its) (.tup xs))) { s with heap := s.heap.push (tupO its), toks := t' } := by
  refine I.laid (t' := t') (o := .frz (tupO its) (.tup xs)) (fun b ob q => Heap.get?_push_of_some _ q) (Nat.le_refl _) ?_
  exact ⟨Heap.get?_push_size _ rfl, hz, its, r, IsTup.new _ _⟩
theorem newF {xs : List V} {its : List Value} {Q : VK} (I : Inv X pins σ H s) (r : Vals xs its) (hz : xs.length ≤ sizeLine) (q : ∀ v H', Same H H' → H v = none → PTup H' v xs → Q (.ref v) H') (t' : Tok) :
    EP X pins σ Q (.ref s.heap.objs.size) { s with heap := s.heap.push (tupO its), toks := t' } :=
  have hf : H s.heap.objs.size = none := I.hok.fresh (Nat.le_refl _)
  ⟨.ref s.heap.objs.size, _, laidF I r hz t', rfl, q _ _ (same_upd hf) hf ⟨_, upd_same, rfl⟩⟩
end
section
variable {X : Cx} {es : List Expr} {t : TA} {pos : Pos}
def tTupF (t : TA) : TE := fun σ H Q => t σ H fun xs H1 => xs.length ≤ sizeLine ∧ ∀ v H', Same H1 H' → H1 v = none → PTup H' v xs → Q (.ref v) H'
theorem pe_tupF {x1} (h : PA X es t) : PE X (.Tuple es x1 pos) (tTupF t) := by
  refine ⟨fun pins s σ H Q I hq => ?_⟩
  refine wpAny_Tuple_spliced (thn (h.run pos pins s σ H _ I hq) fun us s1 ⟨xs, H1, I1, r, z, q⟩ => ⟨by rw [← r.length]; exact z, ?_⟩)
  exact newF I1 r z q s1.toks
def rTupL (K : PySem.W.Frag) : List V → Hp → VK → Prop := fun xs H Q => ∃ p ys, xs = [.ref p] ∧ SqL K H p ys ∧ ∀ v H', Same H H' → H v = none → PTup H' v ys → Q (.ref v) H'
theorem call_tupleF : CallR X (.type "tuple") (rTupL X.K) := by
  intro pins s σ H xs us Q I r h
  obtain ⟨p, ys, rfl, hq, q⟩ := h
  obtain ⟨u, rfl, rx⟩ := vals1 r
  cases rx
  obtain ⟨its, r', pl, hz⟩ := I.list hq
  have hlen := r'.length
  refine call_tuple_list pl.isList (fun h' kp => ?_) (by simp only [List.size_toArray] <;> omega)
  exact newF (s := { s with heap := h' }) (I.kept (t' := s.toks) kp) r' hz q s.toks
def rCatF : R2 := fun x y H Q => ∃ a b xs ys, x = .ref a ∧ y = .ref b ∧ PTup H a xs ∧ PTup H b ys ∧ xs.length + ys.length ≤ sizeLine ∧ ∀ v H', Same H H' → PTup H' v (xs ++ ys) → Q (.ref v) H'
theorem op_catF : OpR X (binaryOp .Add) rCatF := by
  intro pins s σ H x y v u Q I rx ry h
  obtain ⟨a, b, xs, ys, rfl, rfl, ha, hb, hz, q⟩ := h
  cases rx
  cases ry
  obtain ⟨its, r1, p1, _⟩ := I.tuple (ha.sq (K := X.K))
  obtain ⟨its2, r2, p2, _⟩ := I.tuple (hb.sq (K := X.K))
  by_cases hx : xs = []
  · subst hx
    cases r1
    exact cat_tup0 p1 p2 ⟨.ref b, H, I, rfl, q b H (Same.refl H) hb⟩
  · refine HT.cat_tup p1 p2 (fun z => hx (r1.nil_iff.mp z)) (fun z => ⟨.ref a, H, I, rfl, q a H (Same.refl H) ?_⟩) (fun z => ?_) (by rw [← r1.length, ← r2.length]; exact hz)
    · rw [r2.nil_iff.mp z, List.append_nil]
      exact ha
    · exact newF I (r1.append r2) (by rw [List.length_append]; exact hz) (fun v H' s' _ h => q v H' s' h) s.toks
def rSlF : V → Option Int → Option Int → Hp → VK → Prop := fun x lo hi H Q => ∃ a xs, x = .ref a ∧ PTup H a xs ∧ ∀ v H', Same H H' → PTup H' v (cutV xs lo hi) → Q (.ref v) H'
theorem sl_tupF : SlR X rSlF := by
  intro pins s σ H x v vl vu lo hi sl Q I rx hs pl pu h
  obtain ⟨a, xs, rfl, hx, q⟩ := h
  cases rx
  obtain ⟨its, r, ht, hz⟩ := I.tuple (hx.sq (K := X.K))
  have hlen : its.toArray.size = xs.length := by rw [List.size_toArray]; exact r.length.symm
  refine ⟨"tuple", _, PyProof.Rows.slot_tuple_getitem.lookup, ht.typeIs, ?_⟩
  by_cases hw : HT.sIx xs.length 0 lo = 0 ∧ HT.sIx xs.length xs.length hi = xs.length
  · refine getItem_tuple_whole ht hs pl pu (by rw [hlen]; exact hw) ⟨.ref a, H, I, rfl, q a H (Same.refl H) ?_⟩
    have z : cutV xs lo hi = xs := by
      unfold cutV
      rw [hw.1, hw.2, Nat.sub_zero, List.drop_zero, List.take_length]
    rw [z]
    exact hx
  · refine HT.getItem_tuple_cut ht hs pl pu (by rw [hlen]; exact hw) ?_ (by rw [hlen]; exact hz)
    rw [hlen]
    exact newF I ((r.drop (HT.sIx xs.length 0 lo)).take (HT.sIx xs.length xs.length hi - HT.sIx xs.length 0 lo)) (Nat.le_trans (cutV_length xs lo hi) hz) (fun v H' s' _ h => q v H' s' h) s.toks
/-- t.m(e, ..), t such a tuple -/
def tMT (r : V → List V → Hp → VK → Prop) (to : TE) (t : TA) : TE := fun σ H Q => to σ H fun x H1 => (∃ a xs, x = .ref a ∧ PTup H1 a xs) ∧ t σ H1 fun xs H2 => r x xs H2 Q
variable {o e : Expr} {to : TE} {name : Str} {apos cpos : Pos} {id : String} {r : V → List V → Hp → VK → Prop}
theorem pe_mT (slot : Slot "tuple" name id) (hty : typeOf (.builtin id) = pure (.type "method_descriptor")) (hm : MtR X id r) (ho : PE X o to) (ha : PA X (e :: es) t)
    (hbase : attributeBase o name X.env (eval o X.env) = eval o X.env := by rfl)
    (hfew : ((backTo cpos (starEach (e :: es) X.env)).all (fun x => !x.1) && (backToKw cpos (keywordEach [] X.env)).all (fun x => x.1.isSome) && decide ((e :: es).length + ([] : List Keyword).length + (if ([] : List Keyword).isEmpty then 0 else 1) < 30)) = true := by rfl)
    (hline : (apos.endLine == cpos.line) = true := by rfl) (hs : starEach (e :: es) X.env = (false, eval e X.env) :: starEach es X.env := by rfl) (hplain : (backTo cpos (starEach es X.env)).any (·.1) = false := by rfl) :
    PE X (.Call (.Attribute o name apos) (e :: es) [] cpos) (tMT r to t) := by
  refine ⟨fun pins s σ H Q I h => ?_⟩
  refine wpAny_Call_method_late hbase hfew hline rfl (thn (ho.run pins s σ H _ I h) fun v s1 ⟨x, H1, I1, r1, ⟨a, xs, ex, pt⟩, q1⟩ => ?_)
  subst ex
  cases r1
  obtain ⟨its, rv, tp, _⟩ := I1.tuple (pt.sq (K := X.K))
  obtain ⟨ob, eo, ed⟩ := pt
  have g1 := (I1.hok a _ eo).1
  refine ⟨"tuple", id, PySem.F.plainAttrs_tuple, slot, hty, tp.typeIs, fun b eb => ?_, ?_⟩
  · cases eb
    exact ⟨ob, g1, ed⟩
  have hA := ha.run cpos pins s1 σ H1 _ I1 q1
  rw [hs] at hA ⊢
  refine Calls.callWith_builtin (by show (false || (backTo cpos (starEach es X.env)).any (·.1)) = false; rw [hplain] <;> rfl) (Calls.evalArgs_plain ?_)
  exact thn hA fun us s2 ⟨vs, H2, I2, r2, q2⟩ => hm pins s2 σ H2 (.ref a) vs _ us Q I2 rfl r2 q2
end
end Su
/-! ### SC: a set of ints by a comprehension with two clauses -/
namespace Su
open PySem PySem.Spec PyProof.Rows L2
abbrev sc2 (e a b c d : Expr) (sp : Scope) (po : Pos) : Expr := .SetComp e [⟨a, b, [], 0⟩, ⟨c, d, [], 0⟩] sp po
section
variable {prog : Program} {w : World} {A : Around} {R : Result → Shared → Prop} {s : Shared} {e a b c d : Expr} {sp : Scope} {po : Pos} {it acc : Value} {env : Env}
theorem sc2_out : compTurn (sc2 e a b c d sp po) 0 it acc env = (do
      standAt b.pos
      match ← pyNext it with
      | none => pure (.done .next)
      | some v =>
        letOwnedTupleGo a it v
        assign a env v
        let x ← eval d env
        standAt d.pos
        let y ← foldedSetIterable d env x
        let _ ← runOwn (.compStart (sc2 e a b c d sp po) 1 (← holding [y] (pyIter y)) acc env) env
        again (.compLoop (sc2 e a b c d sp po) 0 it acc env)) := by rfl
theorem sc2_in : compTurn (sc2 e a b c d sp po) 1 it acc env = (do
      standAt d.pos
      match ← pyNext it with
      | none => pure (.done .next)
      | some v =>
        letOwnedTupleGo c it v
        assign c env v
        (do let x ← eval e env; standAt e.pos; let _ ← call (.builtin "set.add") [acc, x])
        again (.compLoop (sc2 e a b c d sp po) 1 it acc env)) := by rfl
/-- the tail of a turn that raises: the frame is noted -/
abbrev nb (prog : Program) (w : World) (A : Around) (env : Env) (R : Result → Shared → Prop) : Value → Shared → Prop := notedBy (model prog w) A env fun x u => R (.error x) u
theorem sc2_loop0 (hf : ∀ x, foldedSetIterable d env x = pure x) (J : Nat → Shared → Prop)
    (one : ∀ n u, J n u → wpAny (model prog w) A (pyNext it) (fun r u1 => match r with
      | none => R (.ok .next) u1
      | some v => wpAny (model prog w) A (letOwnedTupleGo a it v) (fun _ u2 => wpAny (model prog w) A (assign a env v) (fun _ u3 =>
          wpAny (model prog w) A (eval d env) (fun x u4 => wpAny (model prog w) A (pyIter x) (fun jt u5 =>
            codeAny (model prog w) A (.compStart (sc2 e a b c d sp po) 1 jt acc env) (fun r u6 => match r with
              | .ok _ => ∃ m, m < n ∧ J m u6
              | .error _ => False) u5) (nb prog w A env R) u4) (nb prog w A env R) u3) (nb prog w A env R) u2) (nb prog w A env R) u1) (nb prog w A env R) u)
    (n : Nat) (h : J n s) : codeAny (model prog w) A (.compLoop (sc2 e a b c d sp po) 0 it acc env) R s := by
  refine codeAny_loop rfl J (fun n u hJ => ?_) n h
  show wpAny _ A ((compTurn (sc2 e a b c d sp po) 0 it acc env).onRaise (fun x => do noteFrame x env; theTreesLotGoes x)) _ _ u
  refine wpAny_noted ?_
  rw [sc2_out]
  refine wpAny_bind (wpAny_standAt (wpAny_bind (wpAny_mono (one n u hJ) (fun r u1 h1 => ?_) fun _ _ k => k)))
  cases r with
  | none => exact wpAny_pure h1
  | some v =>
    refine wpAny_bind (wpAny_mono h1 (fun _ u2 h2 => wpAny_bind (wpAny_mono h2 (fun _ u3 h3 => ?_) fun _ _ k => k)) fun _ _ k => k)
    refine wpAny_bind (wpAny_mono h3 (fun x u4 h4 => ?_) fun _ _ k => k)
    refine wpAny_bind (wpAny_standAt (wpAny_bind (wpAny_of_eq (hf x) (wpAny_bind (wpAny_holding (wpAny_mono h4 (fun jt u5 h5 => ?_) fun _ _ k => k))))))
    refine wpAny_bind (wpAny_runOwn ?_)
    rw [Around.mark_none]
    refine codeAny_mono h5 fun r u6 hr => ?_
    cases r with
    | error x => exact hr.elim
    | ok f =>
      first
        | exact wpAny_pure ⟨rfl, hr⟩
        | exact wpAny_bind (wpAny_pure (wpAny_pure ⟨rfl, hr⟩))
theorem sc2_loop1 (J : Nat → Shared → Prop)
    (one : ∀ n u, J n u → wpAny (model prog w) A (pyNext it) (fun r u1 => match r with
      | none => R (.ok .next) u1
      | some v => wpAny (model prog w) A (letOwnedTupleGo c it v) (fun _ u2 => wpAny (model prog w) A (assign c env v) (fun _ u3 =>
          wpAny (model prog w) A (eval e env) (fun x u4 => wpAny (model prog w) A (call (.builtin "set.add") [acc, x]) (fun _ u5 => ∃ m, m < n ∧ J m u5) (nb prog w A env R) u4) (nb prog w A env R) u3)
            (nb prog w A env R) u2) (nb prog w A env R) u1) (nb prog w A env R) u)
    (n : Nat) (h : J n s) : codeAny (model prog w) A (.compLoop (sc2 e a b c d sp po) 1 it acc env) R s := by
  refine codeAny_loop rfl J (fun n u hJ => ?_) n h
  show wpAny _ A ((compTurn (sc2 e a b c d sp po) 1 it acc env).onRaise (fun x => do noteFrame x env; theTreesLotGoes x)) _ _ u
  refine wpAny_noted ?_
  rw [sc2_in]
  refine wpAny_bind (wpAny_standAt (wpAny_bind (wpAny_mono (one n u hJ) (fun r u1 h1 => ?_) fun _ _ k => k)))
  cases r with
  | none => exact wpAny_pure h1
  | some v =>
    refine wpAny_bind (wpAny_mono h1 (fun _ u2 h2 => wpAny_bind (wpAny_mono h2 (fun _ u3 h3 => ?_) fun _ _ k => k)) fun _ _ k => k)
    refine wpAny_bind (wpAny_bind (wpAny_mono h3 (fun x u4 h4 => wpAny_bind (wpAny_standAt (wpAny_bind (wpAny_mono h4 (fun _ u5 h5 => ?_) fun _ _ k => k)))) fun _ _ k => k))
    first
      | exact wpAny_pure (wpAny_pure ⟨rfl, h5⟩)
      | exact wpAny_pure ⟨rfl, h5⟩
theorem sc2_begin (h0 : codeAny (model prog w) A (.compLoop (sc2 e a b c d sp po) 1 it acc env) R s)
    (h : wpAny (model prog w) A (pyIter it) (fun jt u => codeAny (model prog w) A (.compLoop (sc2 e a b c d sp po) 1 jt acc env) R u) (nb prog w A env R) s) :
    codeAny (model prog w) A (.compStart (sc2 e a b c d sp po) 1 it acc env) R s := by
  refine codeAny_of_tree ?_
  show wpAny _ _ ((compStart (sc2 e a b c d sp po) 1 it acc env).onRaise (fun x => do noteFrame x env; standAt theWindowsPlace)) _ _ s
  refine wpAny_notedAt ?_
  unfold compStart
  show wpAny _ _ (ask >>= _) _ _ s
  refine wpAny_bind (wpAny_askSetting (wpAny_ite ?_))
  split
  · first
      | exact wpAny_pure ⟨rfl, h0⟩
      | exact wpAny_bind (wpAny_pure (wpAny_pure ⟨rfl, h0⟩))
  · refine wpAny_bind (wpAny_rule ?_)
    show wpAny _ _ (standAt d.pos >>= _) _ _ s
    exact wpAny_bind (wpAny_standAt (wpAny_bind (wpAny_mono h (fun jt u k => wpAny_pure ⟨rfl, k⟩) fun _ _ k => k)))
end
end Su
namespace Su
open PySem PySem.Spec PyProof.Rows L2
section
variable {X : Cx}
/-- what the comprehension asks: the outer walk, in each of its turns the inner one, and each int put into the set -/
def tSC (w : World) (wo : TI) (go : TG) (wn : TI) (gn : TG) (te : TE) (vs vs1 : List Nat) : TE := fun σ H Q => wo σ H fun J H1 => ∀ D, H1 D = none →
  ∃ W : Nat → Nat → Hp → Prop, (∃ m, W 0 m (upd H1 D (SetO w D (fun _ => false) 0))) ∧ ∀ i m H, W i m H →
    (J.stop i H ∧ Q (.ref D) H) ∨
    (J.go i H ∧ ∃ Nx : Hp → Prop, (∀ H', Nx H' → ∃ m', m' < m ∧ W (i + 1) m' H') ∧ ∀ x H', J.yld i H x H' → go x (wipe σ vs) H' fun σ2 H2 => wipe σ2 vs = wipe σ vs ∧
      wn σ2 H2 fun L H3 => ∃ U : Nat → Nat → Hp → Prop, (∃ m, U 0 m H3) ∧ ∀ j k H, U j k H →
        (L.stop j H ∧ Nx H) ∨
        (L.go j H ∧ ∃ Ny : Hp → Prop, (∀ H', Ny H' → ∃ k', k' < k ∧ U (j + 1) k' H') ∧ ∀ y H', L.yld j H y H' → gn y (wipe σ2 vs1) H' fun σ3 H4 => wipe σ3 vs1 = wipe σ2 vs1 ∧
          te σ3 H4 fun z H5 => ∃ (c : Int) (S : Int → Bool) (n : Nat), z = .int c ∧ H5 D = some (SetO w D S n) ∧ n + 1 < scanBound ∧
            Ny (upd H5 D (SetO w D (fun j => S j || decide (j = c)) (if S c = true then n else n + 1)))))
abbrev setE (w : World) : Obj := { cls := .type "set", dict := none, data := .set #[] 0 (.fresh 0 0 (!w.params.followText "set-order")) }
theorem put_int {pins : List (Addr × Obj)} {σ : L2.St} {H : Hp} {s : Shared} {E : Value → Shared → Prop} {D : Addr} {S : Int → Bool} {n : Nat} {k : Int} {v : Value} {Q : Value → Shared → Prop}
    (I : Inv X pins σ H s) (hD : H D = some (SetO X.w D S n)) (few : n + 1 < scanBound) (r : RelV (.int k) v)
    (h : ∀ t, Inv X pins σ (upd H D (SetO X.w D (fun j => S j || decide (j = k)) (if S k = true then n else n + 1))) t → Q .none t) :
    wpAny (model X.prog X.w) X.A (call (.builtin "set.add") [.ref D, v]) Q E s := by
  obtain ⟨tk, rfl⟩ := r
  refine setR_add (setO_get I hD) few fun g sb new => ?_
  have there : ∃ u, g.get? D = some u := by
    have ⟨o, _, _, _, ho, _⟩ := new
    exact ⟨o, ho⟩
  refine h _ (I.write (e := D) (t' := s.toks + 1) (by rw [hD]; trivial) (.inl rfl) (fun b u hb hu => ?_) there (setO_new new))
  exact (sb.2 b hb).trans hu
theorem pe_sc2 {e a b c d : Expr} {sp : Scope} {own : List (Str × Nat)} {vs1 : List Nat} {pos : Pos} {wo wn : TI} {go gn : TG} {te : TE} (hc : X.calm = true) (hN : X.N.Nodup) (pio : PI X a b wo)
    (ok : BlkOk X.N X.env.scope sp own) (hv : ∀ i ∈ vs1, i ∈ own.map (·.2))
    (pgo : ∀ (s : Shared) (H : Hp) (C : Addr) (cl : List (Str × Addr)) (fp : List Addr), PG (X.blk s H sp (compEnvC sp cl C X.env) fp) a go)
    (pin : ∀ (s : Shared) (H : Hp) (C : Addr) (cl : List (Str × Addr)) (fp : List Addr), PI (X.blk s H sp (compEnvC sp cl C X.env) fp) c d wn)
    (pgn : ∀ (s : Shared) (H : Hp) (C : Addr) (cl : List (Str × Addr)) (fp : List Addr), PG (X.blk s H sp (compEnvC sp cl C X.env) fp) c gn)
    (pe : ∀ (s : Shared) (H : Hp) (C : Addr) (cl : List (Str × Addr)) (fp : List Addr), PE (X.blk s H sp (compEnvC sp cl C X.env) fp) e te)
    (fo : ∀ x, foldedSetIterable b X.env x = pure x := by intro _; rfl) (fn : ∀ env x, foldedSetIterable d env x = pure x := by intro _ _; rfl) :
    PE X (sc2 e a b c d sp pos) (tSC X.w wo go wn gn te (own.map (·.2)) vs1) := by
  refine ⟨fun pins s σ H Q I hq => ?_⟩
  rw [PpSet.eval_SetComp]
  have cl0 : ∀ y ∈ sp.names, y.2 = .free → ∃ k, X.env.cells.lookup y.1 = some k := by
    intro y hy z
    rcases ok.free y hy z with k | k
    · exact I.ok.has _ (.inl k)
    · exact I.ok.has _ (.inr k)
  refine wpAny_comprehension_free (use := none) rfl fo (closure_ok cl0) ok.kind (fun y hy z => by rw [ok.uniq y hy, z]) ?_
  refine thn (pio.run pins s σ H _ I hq) fun xv s1 hx => thn hx fun iv s2 h2 => ?_
  obtain ⟨it, fa, tn, J, Hb, rfl, Ib, T, stb, fb, q⟩ := h2
  refine PpSet.newSet_ok (newEnv_comp ?_)
  generalize eD : s2.heap.objs.size = D
  obtain ⟨W, ⟨m0, w0⟩, turn⟩ := q D (Ib.hok.fresh (Nat.le_of_eq eD))
  generalize e3 : ({ s2 with heap := s2.heap.push (setE X.w) } : Shared) = s3
  have hp3 : s3.heap = s2.heap.push (setE X.w) := by rw [← e3]
  have Ic : Inv X pins σ (upd Hb D (SetO X.w D (fun _ => false) 0)) s3 := by
    rw [← e3]
    refine Ib.laid (t' := s2.toks) (fun _ _ z => Heap.get?_push_of_some _ z) (Nat.le_of_eq eD) ?_
    rw [← eD]
    exact setO_new (setR_fresh X.w)
  have small : ∀ x ∈ fa, x < s2.heap.objs.size := by
    intro x hx
    obtain ⟨o, z, _⟩ := T.obj _ _ stb x hx
    exact Heap.lt_size z
  have fc : ∀ x ∈ fa, FpOk X pins (upd Hb D (SetO X.w D (fun _ => false) 0)) x ∧ x < s3.heap.objs.size := by
    intro x hx
    have lt := small x hx
    constructor
    · refine ⟨?_, (fb x hx).2⟩
      rw [upd_ne (by rw [← eD]; exact Nat.ne_of_lt lt)]
      exact (fb x hx).1
    · rw [hp3, Heap.size_push]
      exact Nat.lt_succ_of_lt lt
  have stc : tn 0 s3.heap := T.keep _ _ _ stb fun _ _ _ z => by
    rw [hp3]
    exact Heap.get?_push_of_some _ z
  have Id := block_start Ic ok hN fc
  have qgo := pgo s3 (upd Hb D (SetO X.w D (fun _ => false) 0)) s3.heap.objs.size (cellsFrom (s3.heap.objs.size + 1) sp.names (cloFrom X.env.cells sp.names [])) fa
  have qin := pin s3 (upd Hb D (SetO X.w D (fun _ => false) 0)) s3.heap.objs.size (cellsFrom (s3.heap.objs.size + 1) sp.names (cloFrom X.env.cells sp.names [])) fa
  have qgn := pgn s3 (upd Hb D (SetO X.w D (fun _ => false) 0)) s3.heap.objs.size (cellsFrom (s3.heap.objs.size + 1) sp.names (cloFrom X.env.cells sp.names [])) fa
  have qe := pe s3 (upd Hb D (SetO X.w D (fun _ => false) 0)) s3.heap.objs.size (cellsFrom (s3.heap.objs.size + 1) sp.names (cloFrom X.env.cells sp.names [])) fa
  have nofa : ∀ x ∈ fa, (upd Hb D (SetO X.w D (fun _ => false) 0)) x = none := fun x hx => (fc x hx).1.1
  show codeAny _ _ (.compStart (sc2 e a b c d sp pos) 0 (.ref it) (.ref D) (compEnvC sp (cellsFrom (s3.heap.objs.size + 1) sp.names (cloFrom X.env.cells sp.names [])) s3.heap.objs.size X.env)) _ { s3 with heap := pushCells (s3.heap.push { cls := .type "dict", data := .dict #[] }) sp.names }
  generalize eE : compEnvC sp (cellsFrom (s3.heap.objs.size + 1) sp.names (cloFrom X.env.cells sp.names [])) s3.heap.objs.size X.env = en at Id qgo qin qgn qe ⊢
  have locE : en.locals = s3.heap.objs.size := by
    subst eE
    rfl
  generalize eH : upd Hb D (SetO X.w D (fun _ => false) 0) = Hc at Ic Id qgo qin qgn qe w0 nofa fc
  generalize e4 : ({ s3 with heap := pushCells (s3.heap.push { cls := .type "dict", data := .dict #[] }) sp.names } : Shared) = s4 at Id ⊢
  have std : tn 0 s4.heap := T.keep _ _ _ stc fun _ _ _ z => by
    rw [← e4]
    exact pushCells_keeps _ _ _ _ (Heap.get?_push_of_some _ z)
  have foot : ∀ {τ : L2.St} {G : Hp} {t : Shared}, Inv (X.blk s3 Hc sp en fa) [] τ G t → (∀ x ∈ fa, G x = none) → ∀ x ∈ fa, FpOk (X.blk s3 Hc sp en fa) [] G x := by
    intro τ G t It hn x hx
    refine ⟨hn x hx, (It.ok.exf x hx).1, It.ok.exfs x hx, .inl hx, fun y k z => (It.ok.exf x hx).2 y k z, fun p hp => ?_⟩
    exact absurd (show p ∈ ([] : List (Addr × Obj)) ++ [] from hp) (by simp)
  have main : codeAny (model X.prog X.w) X.A (.compLoop (sc2 e a b c d sp pos) 0 (.ref it) (.ref D) en) (compPost (model X.prog X.w) X.A X.xe none (fun u t => EP X pins σ Q u t) (.ref D) s3.heap.objs.size) s4 := by
    refine sc2_loop0 (fn en) (fun n t => ∃ i G, Inv (X.blk s3 Hc sp en fa) [] (wipe σ (own.map (·.2))) G t ∧ tn i t.heap ∧ (∀ x ∈ fa, G x = none) ∧ W i n G) ?_ m0 ⟨0, Hc, Id, std, nofa, w0⟩
    rintro n s5 ⟨i, H5, I5, st5, n5, w5⟩
    rcases turn i n H5 w5 with ⟨stop, qq⟩ | ⟨hgo, Nx, hNx, step⟩
    · refine thnF (T.done (X.blk s3 Hc sp en fa) rfl rfl rfl hc i [] s5 _ H5 (fun _ _ => False) I5 (foot I5 n5) st5 stop) fun r s6 ⟨hr, I6⟩ => ?_
      subst hr
      have I7 : Inv X pins σ H5 s6 := by
        refine Ic.call' (ch := fa) I6.os I6.base I6.hok I6.bare fun x hx => ?_
        have z := (fc x hx).1.2
        exact ⟨z.2.2.1, z.1, z.2.2.2.1, z.2.2.2.2⟩
      have nl : H5 s3.heap.objs.size = none := by
        have z : H5 en.locals = none := I6.free
        rwa [locE] at z
      obtain ⟨m, hn, _⟩ := I6.loc
      have hn2 : s6.heap.Ns en.locals m := hn
      rw [locE] at hn2
      obtain ⟨f0, f1, f2, f3, f4, f5⟩ := Ic.fpOk (Nat.le_refl _) nl
      refine ⟨m, hn2, fun g sb => ?_⟩
      exact ⟨.ref D, H5, I7.turned (t' := s6.toks) (fun y o hy z => (sb.2 y hy).trans z) f0 f1 f3 f4 f5, rfl, qq⟩
    · refine thnF (T.item (X.blk s3 Hc sp en fa) rfl rfl rfl hc i [] s5 _ H5 (fun _ _ => False) I5 (foot I5 n5) st5 hgo) fun r s6 ⟨u, hr, h6⟩ => ?_
      subst hr
      refine thnF h6 fun _ s7 ⟨x, H7, I7, r7, y7, st7, n7⟩ => ?_
      refine thnF (qgo.run _ s7 _ H7 x u _ (I7.pinned (foot I7 n7) (T.obj _ _ st7)) r7 (step x H7 y7)) fun _ s8 ⟨σ8, H8, I8, hw8, q8⟩ => ?_
      have shut : ∀ {τ : L2.St} {t : Shared} {G : Hp}, Inv (X.blk s3 Hc sp en fa) ([] ++ pinsAt fa s7.heap) τ G t → (wipe σ (own.map (·.2))).length = τ.length →
          (∀ (j : Nat) v, (wipe σ (own.map (·.2)))[j]? = some (some v) → τ[j]? = some (some v)) → Nx G →
          ∃ m, m < n ∧ ∃ i G, Inv (X.blk s3 Hc sp en fa) [] (wipe σ (own.map (·.2))) G t ∧ tn i t.heap ∧ (∀ x ∈ fa, G x = none) ∧ W i m G := by
        intro τ t G It hl hk nx
        obtain ⟨m', lt, w'⟩ := hNx G nx
        have held : ∀ y ∈ fa, ∀ o, s7.heap.get? y = some o → t.heap.get? y = some o ∧ G y = none := by
          intro y hy o z
          have k := It.pin (y, o) (List.mem_append_right _ (List.mem_append_right _ (mem_pinsAt hy z)))
          exact ⟨k.1, k.2.1⟩
        refine ⟨m', lt, i + 1, G, (It.unpinned (pins := [])).weak hl hk, T.keep _ _ _ st7 fun y hy o z => (held y hy o z).1, fun y hy => ?_, w'⟩
        obtain ⟨o, z, _⟩ := T.obj _ _ st7 y hy
        exact (held y hy o z).2
      have len8 : (wipe σ (own.map (·.2))).length = σ8.length := by
        rw [← hw8, wipe_length]
      have keep8 : ∀ (j : Nat) v, (wipe σ (own.map (·.2)))[j]? = some (some v) → (wipe σ8 vs1)[j]? = some (some v) := by
        intro j v z
        rw [← hw8] at z
        obtain ⟨z1, z2⟩ := wipe_some z
        rw [wipe_out fun k => z2 (hv j k)]
        exact z1
      refine thnF (qin.run _ s8 σ8 H8 _ I8 q8) fun xv s9 hx => thnF hx fun iw s10 h10 => ?_
      obtain ⟨jt, fi, tm, L, H10, rfl, I10, T1, st10, f10, U, ⟨m1, u1⟩, turn1⟩ := h10
      have foot1 : ∀ {G : Hp}, (∀ y ∈ fi, G y = none) → ∀ y ∈ fi, FpOk (X.blk s3 Hc sp en fa) ([] ++ pinsAt fa s7.heap) G y := fun hn y hy => ⟨hn y hy, (f10 y hy).2⟩
      have inner : codeAny (model X.prog X.w) X.A (.compLoop (sc2 e a b c d sp pos) 1 (.ref jt) (.ref D) en)
          (fun r t => match r with
            | .ok _ => ∃ m, m < n ∧ ∃ i G, Inv (X.blk s3 Hc sp en fa) [] (wipe σ (own.map (·.2))) G t ∧ tn i t.heap ∧ (∀ x ∈ fa, G x = none) ∧ W i m G
            | .error _ => False) s10 := by
        refine sc2_loop1 (fun k t => ∃ j G, Inv (X.blk s3 Hc sp en fa) ([] ++ pinsAt fa s7.heap) (wipe σ8 vs1) G t ∧ tm j t.heap ∧ (∀ y ∈ fi, G y = none) ∧ U j k G) ?_ m1
          ⟨0, H10, I10.weak (wipe_length _ _) (fun j v z => (wipe_some z).1), st10, fun y hy => (f10 y hy).1, u1⟩
        rintro k s11 ⟨j, H11, I11, st11, n11, w11⟩
        rcases turn1 j k H11 w11 with ⟨stop1, nx1⟩ | ⟨go1, Ny, hNy, step1⟩
        · refine thnF (T1.done (X.blk s3 Hc sp en fa) rfl rfl rfl hc j _ s11 (wipe σ8 vs1) H11 (fun _ _ => False) I11 (foot1 n11) st11 stop1) fun r s12 ⟨hr, I12⟩ => ?_
          subst hr
          exact shut I12 (len8.trans (wipe_length σ8 vs1).symm) keep8 nx1
        · refine thnF (T1.item (X.blk s3 Hc sp en fa) rfl rfl rfl hc j _ s11 (wipe σ8 vs1) H11 (fun _ _ => False) I11 (foot1 n11) st11 go1) fun r s12 ⟨v1, hr, h12⟩ => ?_
          subst hr
          refine thnF h12 fun _ s13 ⟨x1, H13, I13, r13, y13, st13, n13⟩ => ?_
          refine thnF (qgn.run _ s13 (wipe σ8 vs1) H13 x1 v1 _ (I13.pinned (foot1 n13) (T1.obj _ _ st13)) r13 (step1 x1 H13 y13)) fun _ s14 ⟨σ14, H14, I14, hw14, q14⟩ => ?_
          refine thnF (qe.run _ s14 σ14 H14 _ I14 q14) fun z s15 ⟨yv, H15, I15, r15, cc, S, nn, ey, hD15, few, nx⟩ => ?_
          subst ey
          refine put_int (X := X.blk s3 Hc sp en fa) I15 hD15 few r15 fun s16 I16 => ?_
          obtain ⟨m', lt, w'⟩ := hNy _ nx
          have held : ∀ y ∈ fi, ∀ o, s13.heap.get? y = some o → s16.heap.get? y = some o ∧ (upd H15 D (SetO X.w D (fun j => S j || decide (j = cc)) (if S cc = true then nn else nn + 1))) y = none := by
            intro y hy o z
            have k := I16.pin (y, o) (List.mem_append_right _ (List.mem_append_right _ (mem_pinsAt hy z)))
            exact ⟨k.1, k.2.1⟩
          refine ⟨m', lt, j + 1, _, I16.unpinned.weak (by rw [← hw14, wipe_length]) (fun j v z => by rw [← hw14] at z; exact (wipe_some z).1), T1.keep _ _ _ st13 fun y hy o z => (held y hy o z).1, fun y hy => ?_, w'⟩
          obtain ⟨o, z, _⟩ := T1.obj _ _ st13 y hy
          exact (held y hy o z).2
      exact sc2_begin inner (T1.self X.A 0 _ _ _ st10 inner)
  exact PpSet.codeAny_compStart_set main (T.self X.A 0 _ _ _ std main)
end
end Su
/-! ### PL: the pool from which a law draws -/
namespace Su
open PySem PySem.Spec PyProof.Rows L2
/-- the built-in names that the text does not bind -/
structure Bt (mg : Str → Option Value) : Prop where
  len : mg "len" = none
  sum : mg "sum" = none
  abs : mg "abs" = none
  int : mg "int" = none
  min : mg "min" = none
  max : mg "max" = none
  range : mg "range" = none
  sorted : mg "sorted" = none
  list : mg "list" = none
  tuple : mg "tuple" = none
  repr : mg "repr" = none
  set : mg "set" = none
  all : mg "all" = none
  isinstance : mg "isinstance" = none
  str : mg "str" = none
  bool : mg "bool" = none
  reversed : mg "reversed" = none
  enumerate : mg "enumerate" = none
  zip : mg "zip" = none
  any : mg "any" = none
  dict : mg "dict" = none
theorem cutV_ints (ns : List Int) (lo hi : Option Int) : ∃ ms : List Int, cutV (ns.map V.int) lo hi = ms.map V.int := by
  unfold cutV
  exact ⟨_, by rw [← List.map_drop, ← List.map_take]⟩
theorem atI_int {α : Type} {xs : List α} {i : Int} {v : α} (h0 : 0 ≤ i) (h : xs[i.toNat]? = some v) : atI xs i = some v := by
  have e := atI_nat h
  rw [Int.toNat_of_nonneg h0] at e
  exact e
theorem b01 (b : Bool) : -(2 ^ 64) < (if b = true then (1 : Int) else 0) ∧ (if b = true then (1 : Int) else 0) < 2 ^ 64 := by
  cases b <;> exact ⟨by decide, by decide⟩
/-! the pool -/
def PoolO (o : HO) : Prop := ∃ g m : Int, o = .lst [.int g, .int m] ∧ 0 ≤ g ∧ 0 ≤ m ∧ m < 2147483647
def PoolAt (H : Hp) (p : Addr) : Prop := ∃ o, H p = some o ∧ PoolO o
def spTake : Sp := fun vs H Q _ => ∃ (p : Addr) (many : Int), vs = [.ref p, .int many] ∧ PoolAt H p ∧ 1 ≤ many ∧ many < 1000000 ∧
  ∀ (r : Int) (o : HO), 0 ≤ r → r < many → PoolO o → Q (.int r) (upd H p o)
def spPool (K : PySem.W.Frag) : Sp := fun vs H Q _ => ∃ (a : Addr) (ns : List Int) (k : Int), vs = [.ref a, .int k] ∧ SqL K H a (ns.map V.int) ∧ 0 ≤ k ∧ k < 1000 ∧
  ∀ (p : Addr) (H' : Hp), Same H H' → H p = none → PoolAt H' p → Q (.ref p) H'
/-- all but what stands at p is as it was -/
def Kept (p : Addr) (H H' : Hp) : Prop := ∀ b o, H b = some o → b ≠ p → H' b = some o
theorem Kept.refl (p : Addr) (H : Hp) : Kept p H H := fun _ _ h _ => h
theorem Kept.trans {p : Addr} {H H1 H2 : Hp} (a : Kept p H H1) (b : Kept p H1 H2) : Kept p H H2 := fun c o h n => b c o (a c o h n) n
theorem Kept.same {p : Addr} {H H1 : Hp} (a : Same H H1) : Kept p H H1 := fun c o h _ => a c o h
theorem Kept.upd (p : Addr) (H : Hp) (o : HO) : Kept p H (upd H p o) := fun b x e n => by
  rw [upd_ne n]
  exact e
theorem Kept.set {p b : Addr} {H H1 : Hp} {o : HO} (a : Kept p H H1) (hb : H b = none) : Kept p H (L2.upd H1 b o) := fun c x e n => by
  rw [upd_ne (ne_of_none e hb)]
  exact a c x e n
theorem Kept.free {p b : Addr} {H H' : Hp} (a : Kept p H H') (n : b ≠ p) (h : H' b = none) : H b = none := by
  cases z : H b with
  | none => rfl
  | some o =>
    rw [a b o z n] at h
    cases h
theorem pool_ne {H : Hp} {p b : Addr} (h : PoolAt H p) (n : H b = none) : b ≠ p := by
  obtain ⟨o, e, _⟩ := h
  exact (ne_of_none e n).symm
theorem PoolAt.upd {H : Hp} {p b : Addr} {o : HO} (h : PoolAt H p) (n : p ≠ b) : PoolAt (upd H b o) p := by
  obtain ⟨x, e, z⟩ := h
  exact ⟨x, by rw [upd_ne n]; exact e, z⟩
theorem PoolAt.same {H H' : Hp} {p : Addr} (h : PoolAt H p) (s : Same H H') : PoolAt H' p := by
  obtain ⟨o, e, z⟩ := h
  exact ⟨o, s _ _ e, z⟩
theorem PTup.kept {p a : Addr} {H H' : Hp} {xs : List V} (h : PTup H a xs) (k : Kept p H H') (hp : PoolAt H p) : PTup H' a xs := by
  obtain ⟨o, e, d⟩ := h
  obtain ⟨x, e2, g, m, rfl, _⟩ := hp
  refine ⟨o, k _ _ e (fun z => ?_), d⟩
  subst z
  rw [e] at e2
  cases e2
theorem seq_kept {K : PySem.W.Frag} {p a : Addr} {H H' : Hp} {xs : List V} (k : Kept p H H') (n : a ≠ p) (h : SqL K H a xs) : SqL K H' a xs := by
  rcases h with (h | ⟨o, h⟩) | h
  · exact .inl (.inl (k _ _ h n))
  · exact .inl (.inr ⟨o, k _ _ h n⟩)
  · exact .inr h
theorem tyes {σ : L2.St} {H : Hp} {A B : Hp → Prop} (h : A H) : tYes σ H (fun b H3 => if b = true then A H3 else B H3) := (iteT h : if true = true then A H else B H)
theorem erase_map (f : Int → V) : ∀ (l : List Int) (j : Nat), (l.map f).eraseIdx j = (l.eraseIdx j).map f
  | [], _ => rfl
  | _ :: _, 0 => rfl
  | x :: l, j + 1 => by
    show f x :: (l.map f).eraseIdx j = f x :: (l.eraseIdx j).map f
    rw [erase_map f l j]
theorem free_upd {H : Hp} {a b : Addr} {o : HO} (h : upd H a o b = none) : b ≠ a ∧ H b = none := by
  by_cases e : b = a
  · subst e
    rw [upd_same] at h
    cases h
  · rw [upd_ne e] at h
    exact ⟨e, h⟩
theorem seqIx {i : Int} {n : Nat} (h0 : 0 ≤ i) (h : i < n) : seqIndex? i n = some i.toNat :=
  (ixN_seq (n := n) (i := i) (j := i.toNat) (by unfold ixN; rw [if_pos h0, if_pos h])).1
theorem erase_perm : ∀ (l : List Int) (j : Nat) (y : Int), l[j]? = some y → (y :: l.eraseIdx j).Perm l
  | [], j, y, h => by simp at h
  | x :: l, 0, y, h => by
    have e : x = y := by simpa using h
    rw [e]
    exact List.Perm.refl _
  | x :: l, j + 1, y, h => by
    have e : l[j]? = some y := by simpa using h
    exact (List.Perm.swap x y (l.eraseIdx j)).trans ((erase_perm l j y e).cons x)
abbrev rLenK (K : PySem.W.Frag) : List V → Hp → VK → Prop := fun xs H Q => ∃ p ys, xs = [.ref p] ∧ (SqL K H p ys ∨ SqT K H p ys) ∧ Q (.int ys.length) H
def spPicked (K : PySem.W.Frag) : Sp := fun vs H Q _ => ∃ (p b : Addr) (ns : List Int) (many : Int), vs = [.ref p, .ref b, .int many] ∧ PoolAt H p ∧ SqL K H b (ns.map V.int) ∧ b ≠ p ∧ ns.Nodup ∧ ns.length ≤ 1000 ∧ 0 ≤ many ∧
  ∀ (q : Addr) (H' : Hp) (ms : List Int), H q = none → Kept p H H' → PoolAt H' p → H' q = some (.lst (ms.map V.int)) → ms.Nodup → (∀ x ∈ ms, x ∈ ns) → ms.length = min many.toNat ns.length → ms.Pairwise (· ≤ ·) → Q (.ref q) H'
def hundred : List Int := (List.range 100).map fun i => ((i : Nat) : Int)
theorem hundred_rg : rgV 0 100 = hundred.map V.int := by
  unfold rgV hundred
  rw [List.map_map]
  rfl
theorem hundred_nd : hundred.Nodup := by decide +kernel
theorem hundred_len : hundred.length = 100 := rfl
theorem hundred_mem {x : Int} (h : x ∈ hundred) : 0 ≤ x ∧ x < 100 := by
  unfold hundred at h
  obtain ⟨i, hi, rfl⟩ := List.mem_map.mp h
  have := List.mem_range.mp hi
  omega
theorem cons_nil_fin {α : Type} {xs : List α} {r : Int} (n : Nat) (h : xs.length = n) (r0 : 0 ≤ r) (r1 : r < n) : ∃ v ∈ xs, atI xs r = some v := by
  have hr : r.toNat < xs.length := by omega
  exact ⟨xs[r.toNat], List.getElem_mem hr, atI_int r0 (List.getElem?_eq_getElem hr)⟩
theorem iteB {c : Bool} {A B : Prop} (h1 : c = true → A) (h2 : c = false → B) : if c = true then A else B := by
  cases c
  · exact iteF (h2 rfl)
  · exact iteT (h1 rfl)
theorem sorted_one : ∀ {xs ys : List Int}, xs.Pairwise (· < ·) → ys.Pairwise (· < ·) → (∀ k, k ∈ xs ↔ k ∈ ys) → xs = ys
  | [], [], _, _, _ => rfl
  | [], y :: ys, _, _, h => (List.not_mem_nil ((h y).mpr List.mem_cons_self)).elim
  | x :: xs, [], _, _, h => (List.not_mem_nil ((h x).mp List.mem_cons_self)).elim
  | x :: xs, y :: ys, hx, hy, h => by
    have px := List.pairwise_cons.mp hx
    have py := List.pairwise_cons.mp hy
    have e : x = y := by
      rcases List.mem_cons.mp ((h x).mp List.mem_cons_self) with z | z
      · exact z
      · rcases List.mem_cons.mp ((h y).mpr List.mem_cons_self) with z2 | z2
        · exact z2.symm
        · have h1 := py.1 x z
          have h2 := px.1 y z2
          omega
    subst e
    have r : xs = ys := sorted_one px.2 py.2 fun k => by
      constructor
      · intro hk
        rcases List.mem_cons.mp ((h k).mp (List.mem_cons_of_mem _ hk)) with z | z
        · have h1 := px.1 k hk
          omega
        · exact z
      · intro hk
        rcases List.mem_cons.mp ((h k).mpr (List.mem_cons_of_mem _ hk)) with z | z
        · have h1 := py.1 k hk
          omega
        · exact z
    rw [r]
theorem nodup_few {S : List Int} : ∀ {ms : List Int}, ms.Nodup → (∀ k ∈ ms, k ∈ S) → ms.length ≤ S.length := by
  induction S with
  | nil =>
    intro ms _ h
    cases ms with
    | nil => exact Nat.le_refl _
    | cons x l => exact (List.not_mem_nil (h x List.mem_cons_self)).elim
  | cons y S ih =>
    intro ms nd h
    have z := ih (ms := ms.erase y) (nd.erase y) fun k hk => by
      have h1 := (nd.mem_erase_iff.mp hk)
      rcases List.mem_cons.mp (h k h1.2) with e | e
      · exact absurd e h1.1
      · exact e
    rw [List.length_cons]
    by_cases hy : y ∈ ms
    · rw [List.length_erase_of_mem hy] at z
      omega
    · rw [List.erase_of_not_mem hy] at z
      omega
theorem fnG_fun {P : Program} {w : World} {K : PySem.W.Frag} {mg : Str → Option Value} {base : Heap} {x ql : Str} {st : Stmt} {f : Addr} {fd : FuncData} {N ps : List Str} {k : Nat} {sp : Sp} (F : Fun K x ql st f fd) (S : FnScope N ps (defScope st)) (len : ∀ vs H Q E, sp vs H Q E → vs.length = ps.length)
    (hb : ∀ (cdv : Value) (A : Around) (outer : List Env) (s : Shared) (H : Hp) (vs : List V) (Q : VK) (E : XK), (A.deeper (envOfC ql (defScope st) s.heap.objs.size f cdv)).guards = some [] → Room k (A.deeper (envOfC ql (defScope st) s.heap.objs.size f cdv)) → sp vs H Q E →
      ∃ t, PSs (cxOf CX0 P w K mg base N ql (defScope st) f cdv A outer s H E).nox (defBody st) t ∧ t { nx := fun _ H' => Q .non H', rt := Q } (start N vs) H) : FnG P w K mg base CX0 (k + 1) f fd ps sp := by
  obtain ⟨oc, od, kV, doc, pm, an, cdv, ct, osl, rfl, lk, hcd⟩ := F.ex
  refine fnG_of lk hcd S len fun A outer s H vs Q E hg hr hsp => ?_
  obtain ⟨t, h, q⟩ := hb cdv A outer s H vs Q E hg hr hsp
  exact ⟨t, h.nox, q⟩
section
variable {X : Cx} {e : Expr}
/-- a test that is never asked, an expression that is never reckoned -/
def tNo : TT := fun _ _ _ => False
theorem pt_never : PT X e tNo := ⟨fun _ _ _ _ _ _ h => h.elim⟩
def tNoE : TE := fun _ _ _ => False
theorem pe_never : PE X e tNoE := ⟨fun _ _ _ _ _ _ h => h.elim⟩
end
end Su
/-! ### SE: sets of ints: set(l), sorted(s) of any size -/
namespace Su
open PySem PySem.Spec PyProof.Rows L2
/-- the set that set(..) begins with -/
abbrev set0 (w : World) : Obj := { cls := .type "set", dict := none, data := .set #[] 0 (.fresh 0 0 (!w.params.followText "set-order")) }
section
variable {P : Program} {w : World} {A : Around} {E : Value → Shared → Prop} {s : Shared}
theorem set_of_list {l : Addr} {its : Array Value} (ns : List Int) {Q : Value → Shared → Prop} (hh : A.handled = none) (hl : s.heap.IsList l its) (ia : IntsAre its.toList ns) (few : ns.length + 1 < scanBound)
    (q : ∀ (h' : Heap) (tk c : Nat), SetR w h' s.heap.objs.size (fun j => decide (j ∈ ns)) c → c ≤ ns.length → (∀ b o, s.heap.get? b = some o → h'.get? b = some o) → Q (.ref s.heap.objs.size) { s with heap := h', toks := tk }) :
    wpAny (model P w) A (call (.type "set") [.ref l]) Q E s := by
  have sz : its.size = ns.length := by
    have z := IntsAre.length ia
    rwa [Array.length_toList] at z
  obtain ⟨c0, tl0, m0⟩ := F.called_set.mro
  have m1 := F.called_set.made
  have m2 := F.called_set.sub
  have m3 := F.called_set.notType
  have m4 := F.called_set.canCreate
  have m5 := F.typeCall_set_1 (.ref l)
  refine wpAny_call (codeAny_of_tree ?_)
  show wpAny _ _ (callAny (.type "set") _) _ _ _
  refine wpAny_pure ⟨Code.quiet_builtin _ (by decide +kernel), codeAny_builtin F.entry_type_call ?_⟩
  rw [Around.under_plain (weight_type_call_type "set" [.ref l] []) rfl]
  repeat (any_goals (first | assumption | wp_step))
  refine codeAny_mono (code_set_led1 (.ref l) (E := E) (Q₁ := fun x t => x = .ref s.heap.objs.size ∧ t = { s with heap := s.heap.push (set0 w) }) ⟨rfl, rfl⟩) fun r t hr => ?_
  match r, hr with
  | .error e, hr => exact hr
  | .ok .next, hr => exact hr.elim
  | .ok .brk, hr => exact hr.elim
  | .ok .cont, hr => exact hr.elim
  | .ok (.ret x), hr =>
    obtain ⟨rfl, rfl⟩ := hr
    have at0 : (s.heap.push (set0 w)).get? s.heap.objs.size = some (set0 w) := Heap.get?_push_size _ rfl
    have ty0 : Shared.TypeIs { s with heap := s.heap.push (set0 w) } (.ref s.heap.objs.size) "set" := ⟨_, at0, rfl⟩
    have n1 := F.called_set.init.lookup
    have n2 := F.called_set.init.bind (.ref s.heap.objs.size)
    repeat (any_goals (first | assumption | wp_step))
    refine codeAny_mono (codeAny_call_builtin (R := wants (fun r t => r = .none ∧ ∃ h' tk c, t = { s with heap := h', toks := tk } ∧ SetR w h' s.heap.objs.size (fun j => decide (j ∈ ns)) c ∧ c ≤ ns.length ∧ ∀ b o, s.heap.get? b = some o → h'.get? b = some o) E)
      F.called_set.init.plain F.entry_set_init (check_set_init_1 ty0 ?_)) fun r2 t2 hr2 => ?_
    · obtain ⟨⟨oc, od, odt, os⟩, ho, hc, nl, hd⟩ := hl
      simp only at hc hd
      subst hc hd
      have lt : l < s.heap.objs.size := Heap.lt_size ho
      have ho1 : (s.heap.push (set0 w)).get? l = some { cls := .type "list", dict := od, data := .seq its nl, slots := os } := Heap.get?_push_of_some _ ho
      have isl : (s.heap.push (set0 w)).IsList l its := ⟨_, ho1, rfl, nl, rfl⟩
      have p1 := F.sub_list_set
      have p2 := F.sub_list_frozenset
      have p3 : (Value.type "list" == Value.type "dict") = false := by decide
      unfold Builtin.«set.__init__» noKeywords Builtin.Frozenset.updateFrom
      generalize hPI : pyIter = PI
      wp_walk
      subst hPI
      refine wpAny_pyIter_list isl (wpAny_bind (wpAny_runValue ?_))
      have size1 : (s.heap.push (set0 w)).objs.size = s.heap.objs.size + 1 := Heap.size_push ..
      have ap : l ≠ (s.heap.push (set0 w)).objs.size := by
        rw [size1]
        exact Nat.ne_of_lt (Nat.lt_succ_of_lt lt)
      have ap2 : s.heap.objs.size ∉ [(s.heap.push (set0 w)).objs.size, l] := by
        rw [size1]
        simp only [List.mem_cons, List.not_mem_nil, or_false, not_or]
        exact ⟨Nat.ne_of_lt (Nat.lt_succ_self _), Nat.ne_of_gt lt⟩
      refine set_update_ints ((Walks.list (by simp [hh]) _ l ap its).toS) s.heap.objs.size ap2 ns sz few (fun i v hv => ?_) (its.size - 0) 0 _ (by omega) (Nat.zero_le _) ⟨⟨_, Heap.get?_push_size _ rfl, rfl, rfl⟩, isl.push _⟩ ⟨0, Nat.le_refl 0, setR_new_at (Heap.get?_push_of_some _ at0)⟩ fun t3 c3 mv hc3 hS3 => ?_
      · have hi : i < ns.length := by
          rw [← sz]
          exact (Array.getElem?_eq_some_iff.mp hv).1
        obtain ⟨tk, e⟩ := PyProof.Rows.IntsAre.int_at ia i v (by rw [Array.getElem?_toList]; exact hv)
        refine ⟨ns[i], tk, List.getElem?_eq_getElem hi, ?_⟩
        rw [e, List.getD_eq_getElem?_getD, List.getElem?_eq_getElem hi] <;> rfl
      · obtain ⟨h3, g3, d3, tk3, os3⟩ := t3
        obtain rfl : g3 = s.gens := mv.gens
        obtain rfl : d3 = s.drawn := mv.drawn
        obtain rfl : os3 = s.os := mv.os
        show wpAny _ _ _ _ _ _
        refine wpAny_pure ?_
        show wpAny _ _ (ret Value.none) _ _ _
        refine wpAny_pure ⟨rfl, h3, tk3, c3, rfl, hS3, by omega, fun b o e => ?_⟩
        have bl : b < s.heap.objs.size := Heap.lt_size e
        refine mv.heap b o ?_ (Heap.get?_push_of_some _ (Heap.get?_push_of_some _ e))
        rw [size1]
        simp only [List.mem_cons, List.not_mem_nil, or_false, not_or]
        exact ⟨Nat.ne_of_lt bl, Nat.ne_of_lt (Nat.lt_succ_of_lt bl)⟩
    · match r2, hr2 with
      | .error e, hr2 => exact hr2
      | .ok .next, hr2 => exact hr2.elim
      | .ok .brk, hr2 => exact hr2.elim
      | .ok .cont, hr2 => exact hr2.elim
      | .ok (.ret y), hr2 =>
        obtain ⟨rfl, h', tk, c, rfl, hS, hc, hk⟩ := hr2
        repeat (any_goals (first | assumption | wp_step))
        exact q _ _ _ hS hc hk
end
/-- a set of ints whose members are those of l -/
def SetIs (w : World) (H : Hp) (D : Addr) (l : List Int) : Prop := ∃ (S : Int → Bool) (n : Nat) (d : List Int), H D = some (SetO w D S n) ∧ d.Nodup ∧ d.length = n ∧ (∀ k, S k = true ↔ k ∈ d) ∧ ∀ k, k ∈ d ↔ k ∈ l
theorem SetIs.add {w : World} {H : Hp} {D : Addr} {l : List Int} (h : SetIs w H D l) {A : List Int} (hA : A.length < 1000) (hl : ∀ k ∈ l, k ∈ A) (c : Int) :
    ∃ (S : Int → Bool) (n : Nat), H D = some (SetO w D S n) ∧ n + 1 < scanBound ∧ ∀ (H' : Hp), H' D = some (SetO w D (fun j => S j || decide (j = c)) (if S c = true then n else n + 1)) → SetIs w H' D (l ++ [c]) := by
  obtain ⟨S, n, d, e, nd, hn, hS, hd⟩ := h
  have z := nodup_few (S := A) nd fun k hk => hl k ((hd k).mp hk)
  refine ⟨S, n, e, by unfold scanBound; omega, fun H' e' => ?_⟩
  by_cases hc : S c = true
  · rw [if_pos hc] at e'
    refine ⟨_, n, d, e', nd, hn, fun k => ?_, fun k => ?_⟩
    · rw [Bool.or_eq_true, decide_eq_true_eq, hS k]
      constructor
      · rintro (h | rfl)
        · exact h
        · exact (hS k).mp hc
      · exact .inl
    · rw [List.mem_append, List.mem_singleton, hd k]
      constructor
      · exact .inl
      · rintro (h | rfl)
        · exact h
        · exact (hd k).mp ((hS k).mp hc)
  · rw [if_neg hc] at e'
    refine ⟨_, n + 1, c :: d, e', List.nodup_cons.mpr ⟨fun h => hc ((hS c).mpr h), nd⟩, by rw [List.length_cons, hn], fun k => ?_, fun k => ?_⟩
    · rw [Bool.or_eq_true, decide_eq_true_eq, hS k, List.mem_cons]
      exact Or.comm
    · rw [List.mem_append, List.mem_singleton, List.mem_cons, hd k]
      exact Or.comm
theorem SetIs.of {w : World} {h : Heap} {H : Hp} {D : Addr} {S : Int → Bool} {c : Nat} {l : List Int} (R : SetR w h D S c) (e : H D = some (SetO w D S c)) (hl : ∀ k, S k = true ↔ k ∈ l) : SetIs w H D l := by
  obtain ⟨o, es, ep, t, ho, hex, hd, g, nd, hm, hb, hf, hn, _⟩ := R
  exact ⟨S, c, es.toList.map keyOf, e, nd, by rw [List.length_map, Array.length_toList]; exact hn, hm, fun k => (hm k).symm.trans (hl k)⟩
section
variable {X : Cx}
/-- set(l), l a list of ints -/
def rSetL (w : World) (K : PySem.W.Frag) : List V → Hp → VK → Prop := fun xs H Q => ∃ (l : Addr) (ns : List Int), xs = [.ref l] ∧ SqL K H l (ns.map V.int) ∧ ns.length ≤ 4000 ∧ ∀ (p : Addr) (H' : Hp), Same H H' → H p = none → SetIs w H' p ns → Q (.ref p) H'
theorem cr_setL (hc : X.calm = true) : CallR X (.type "set") (rSetL X.w X.K) := by
  intro pins s σ H xs us Q I r h
  obtain ⟨l, ns, rfl, hq, hl, q⟩ := h
  rw [Vals.ref1 r]
  obtain ⟨its, rv, pl, hz⟩ := I.list hq
  refine set_of_list ns (I.ok.hd hc) pl.isList (by simpa using ints_of rv) (by unfold scanBound; omega) fun h' tk c hR hc' hk => ?_
  have new : H s.heap.objs.size = none := I.hok.fresh (Nat.le_refl _)
  refine ⟨.ref s.heap.objs.size, _, I.laid (t' := tk) hk (Nat.le_refl _) (setO_new hR), rfl, q _ _ (same_upd new) new ?_⟩
  exact SetIs.of hR upd_same fun k => decide_eq_true_iff
/-- sorted(s), s a set of ints -/
theorem sorted_setA {P : Program} {w : World} {A : Around} {E : Value → Shared → Prop} {s : Shared} {a : Addr} {S : Int → Bool} {n : Nat} {Q : Value → Shared → Prop} (R : SetR w s.heap a S n) (hh : A.handled = none)
    (q : ∀ (t : Shared) (p : Addr) (out : Array Value) (c : Nat) (ns : List Int), (∀ b o, s.heap.get? b = some o → t.heap.get? b = some o) → t.gens = s.gens → t.os = s.os → s.heap.objs.size ≤ p →
      t.heap.get? p = some (seqObj "list" out c) → IntsAre out.toList ns → ns.Pairwise (· < ·) → (∀ k, k ∈ ns ↔ S k = true) → ns.length < 4096 → Q (.ref p) t) :
    wpAny (model P w) A (call (.builtin "sorted") [.ref a]) Q E s := by
  obtain ⟨o, es, ep, t, ho, hex, hd, g, nd, hm, hb, hf, hn, hr, hl⟩ := R
  refine Calls.call_function_entry kind_sorted plain_sorted entry_sorted (args_sorted1 _) ?_
  unfold Builtin.«sorted»
  refine wpAny_bind (m := checkCount "sorted" 1 1 _) (wpAny_pure (wpAny_bind (collect_set (A := A.in1) hh ⟨o, ho, hex.1, hd⟩ hf hb hr hl fun s1 vs k1 hz g1 o1 pm => ?_)))
  have len : vs.length = es.size := by
    rw [pm.length_eq, List.length_map, Array.length_toList]
  have hI : IntsAre vs (vs.map Builtin.Re.reRawOf) := L2.ints_of vs fun v hv => by
    obtain ⟨x, hx, z⟩ := List.mem_map.mp (pm.mem_iff.mp hv)
    obtain ⟨k, tk, h1, _⟩ := g x hx
    exact ⟨k, tk, z ▸ h1⟩
  have pk : (vs.map Builtin.Re.reRawOf).Perm (es.toList.map keyOf) := by
    have z := pm.map Builtin.Re.reRawOf
    rwa [List.map_map] at z
  have small : vs.length ≤ sizeLine := by
    have : es.size < 4096 := hb
    rw [len, sizeLine_eq]
    omega
  refine wpAny_bind (wpAny_newList ?_ small)
  have at1 : (s1.heap.push (seqObj "list" vs.toArray 0)).get? s1.heap.objs.size = some (seqObj "list" vs.toArray 0) := Heap.get?_push_size _ rfl
  refine wpAny_bind (wpAny_holding (wpAny_call_entry slot_list_sort ⟨_, at1, rfl⟩ entry_list_sort (SrtO.list_sort_ord SrtO.swo_int at1 small (fun h2 => SrtO.ints_sortable hI h2) fun out h1 h2 => ⟨_, rfl, ?_⟩) (args_list_sort _)))
  obtain ⟨k3, k4, k5⟩ := SrtO.ints_out hI h1 h2
  obtain ⟨c, hc⟩ := sortedHeap_at (vs := vs) (out := out.toArray) at1
  have pn := k4.trans pk
  refine wpAny_pure ⟨_, rfl, q _ s1.heap.objs.size out.toArray c (out.map SrtO.iv) (fun b u z => ?_) g1 o1 hz hc k3 (lt_of_le_nodup _ k5 (pn.nodup_iff.mpr nd)) (fun k => by rw [pn.mem_iff, ← hm k]) ?_⟩
  · have y := k1 b u z
    have lt := Heap.lt_size y
    show (sortedHeap (s1.heap.push (seqObj "list" vs.toArray 0)) s1.heap.objs.size vs out.toArray).get? b = some u
    rw [sortedHeap_old (Nat.ne_of_lt lt) (by rw [size_push']; exact Nat.lt_succ_of_lt lt)]
    exact Heap.get?_push_of_some _ y
  · rw [pn.length_eq, List.length_map, Array.length_toList]
    exact hb
def rSortedS (w : World) : List V → Hp → VK → Prop := fun vs H Q => ∃ (a : Addr) (l : List Int), vs = [.ref a] ∧ SetIs w H a l ∧ ∀ (ns : List Int) (p : Addr), ns.Pairwise (· < ·) → (∀ k : Int, k ∈ ns ↔ k ∈ l) → H p = none → Q (.ref p) (upd H p (.lst (ns.map V.int)))
theorem cr_sortedS (hc : X.calm = true) : CallR X (.builtin "sorted") (rSortedS X.w) := by
  intro pins s σ H vs us Q I r h
  obtain ⟨a, l, rfl, ⟨S, n, d, ha, nd, hn, hS, hd⟩, q⟩ := h
  rw [Vals.ref1 r]
  refine sorted_setA (setO_get I ha) (I.ok.hd hc) fun t p out c ns k g o hp hg hi hs hm hl => ?_
  have len : (ns.map V.int).length ≤ sizeLine := by
    rw [List.length_map, sizeLine_eq]
    omega
  have new : H p = none := I.hok.fresh hp
  have J : Inv X pins σ (upd H p (.lst (ns.map V.int))) { s with heap := t.heap, gens := t.gens, drawn := t.drawn, toks := t.toks } :=
    I.call (ch := []) (Un.laid k hp new) (I.hok.laid k hp ⟨len, out.toList, c, vals_of_ints hi, hg⟩) (by rw [g]; exact I.bare) (fun _ z => nomatch z)
  have et : t = { s with heap := t.heap, gens := t.gens, drawn := t.drawn, toks := t.toks } := by
    cases t
    cases s
    cases o
    rfl
  rw [et]
  exact ⟨.ref p, _, J, rfl, q ns p hs (fun k => (hm k).trans ((hS k).trans (hd k))) new⟩
end
end Su
/-! ### WA: webs in the heap -/
namespace Su
open PySem PySem.Spec PyProof.Rows L2
/-- a tuple, by whatever it was made -/
def T2 (H : Hp) (a : Addr) (xs : List V) : Prop := PTup H a xs ∨ H a = some (.tup xs)
theorem T2.sq {K : PySem.W.Frag} {H : Hp} {a : Addr} {xs : List V} (h : T2 H a xs) : SqT K H a xs := by
  rcases h with h | h
  · exact h.sq
  · exact .inl (.inl h)
theorem T2.same {H H' : Hp} {a : Addr} {xs : List V} (h : T2 H a xs) (s : Same H H') : T2 H' a xs := by
  rcases h with h | h
  · exact .inl (h.same s)
  · exact .inr (s _ _ h)
theorem T2.ty {K : PySem.W.Frag} {H : Hp} {a : Addr} {xs : List V} (h : T2 H a xs) : TyX K H (.ref a) (.type "tuple") := by
  rcases h with ⟨o, h, _⟩ | h
  · exact .fTuple h
  · exact .base (.tup h)
/-- all tuples stay -/
def K2 (H H' : Hp) : Prop := ∀ a xs, T2 H a xs → T2 H' a xs
theorem K2.same {H H' : Hp} (s : Same H H') : K2 H H' := fun _ _ h => h.same s
theorem K2.trans {H H1 H2 : Hp} (a : K2 H H1) (b : K2 H1 H2) : K2 H H2 := fun x xs h => b x xs (a x xs h)
/-- what is no tuple may be changed -/
theorem K2.upd {H : Hp} {a : Addr} {o u : HO} (e : H a = some o) (n : ∀ xs, o ≠ .tup xs) (n2 : ∀ b xs, o ≠ .frz b (.tup xs)) : K2 H (upd H a u) := by
  rintro b xs (⟨ob, h, d⟩ | h)
  · refine .inl ⟨ob, ?_, d⟩
    rw [upd_ne]
    · exact h
    · rintro rfl
      rw [e] at h
      cases h
      exact n2 _ _ rfl
  · refine .inr ?_
    rw [upd_ne]
    · exact h
    · rintro rfl
      rw [e] at h
      cases h
      exact n _ rfl
theorem K2.lst {H : Hp} {a : Addr} {xs : List V} {u : HO} (e : H a = some (.lst xs)) : K2 H (L2.upd H a u) := K2.upd e (fun _ z => nomatch z) (fun _ _ z => nomatch z)
abbrev Rw := List Int × List Int
def RowAt (H : Hp) (v : V) (r : Rw) : Prop := ∃ a b c, v = .ref a ∧ T2 H a [.ref b, .ref c] ∧ T2 H b (r.1.map V.int) ∧ T2 H c (r.2.map V.int)
theorem RowAt.keep {H H' : Hp} {v : V} {r : Rw} (k : K2 H H') (h : RowAt H v r) : RowAt H' v r := by
  obtain ⟨a, b, c, e, h1, h2, h3⟩ := h
  exact ⟨a, b, c, e, k _ _ h1, k _ _ h2, k _ _ h3⟩
def RowsAt (H : Hp) : List V → List Rw → Prop
  | [], [] => True
  | v :: vs, r :: rs => RowAt H v r ∧ RowsAt H vs rs
  | _, _ => False
theorem RowsAt.keep {H H' : Hp} (k : K2 H H') : ∀ {vs : List V} {rs : List Rw}, RowsAt H vs rs → RowsAt H' vs rs
  | [], [], _ => trivial
  | _ :: _, _ :: _, h => ⟨h.1.keep k, RowsAt.keep k h.2⟩
  | [], _ :: _, h => h.elim
  | _ :: _, [], h => h.elim
theorem RowsAt.len {H : Hp} : ∀ {vs : List V} {rs : List Rw}, RowsAt H vs rs → vs.length = rs.length
  | [], [], _ => rfl
  | _ :: _, _ :: _, h => by rw [List.length_cons, List.length_cons, RowsAt.len h.2]
  | [], _ :: _, h => h.elim
  | _ :: _, [], h => h.elim
theorem RowsAt.get {H : Hp} : ∀ {vs : List V} {rs : List Rw}, RowsAt H vs rs → ∀ {i : Nat} {v : V}, vs[i]? = some v → ∃ r, rs[i]? = some r ∧ RowAt H v r
  | [], [], _, i, v, e => by simp at e
  | _ :: _, _ :: _, h, 0, v, e => by
    obtain rfl := (by simpa using e : _ = v)
    exact ⟨_, rfl, h.1⟩
  | _ :: _, _ :: _, h, i + 1, v, e => RowsAt.get h.2 (i := i) (by simpa using e)
  | [], _ :: _, h, _, _, _ => h.elim
  | _ :: _, [], h, _, _, _ => h.elim
theorem RowsAt.app {H : Hp} : ∀ {vs ws : List V} {rs qs : List Rw}, RowsAt H vs rs → RowsAt H ws qs → RowsAt H (vs ++ ws) (rs ++ qs)
  | [], _, [], _, _, h => h
  | _ :: _, _, _ :: _, _, g, h => ⟨g.1, RowsAt.app g.2 h⟩
  | [], _, _ :: _, _, g, _ => g.elim
  | _ :: _, _, [], _, g, _ => g.elim
theorem RowsAt.snoc {H : Hp} {vs : List V} {rs : List Rw} {v : V} {r : Rw} (g : RowsAt H vs rs) (h : RowAt H v r) : RowsAt H (vs ++ [v]) (rs ++ [r]) := g.app ⟨h, trivial⟩
theorem RowsAt.of {H : Hp} : ∀ {vs : List V} {rs : List Rw}, vs.length = rs.length → (∀ (i : Nat) (v : V) (r : Rw), vs[i]? = some v → rs[i]? = some r → RowAt H v r) → RowsAt H vs rs
  | [], [], _, _ => trivial
  | v :: vs, r :: rs, e, h => ⟨h 0 v r rfl rfl, RowsAt.of (by simpa using e) fun i x y h1 h2 => h (i + 1) x y h1 h2⟩
  | [], _ :: _, e, _ => by simp at e
  | _ :: _, [], e, _ => by simp at e
/-- a web in the heap -/
def WebAt (H : Hp) (p : Addr) (rs : List Rw) : Prop := ∃ ws, H p = some (.lst ws) ∧ RowsAt H ws rs
theorem WebAt.same {H H' : Hp} {p : Addr} {rs : List Rw} (h : WebAt H p rs) (s : Same H H') : WebAt H' p rs := by
  obtain ⟨ws, e, r⟩ := h
  exact ⟨ws, s _ _ e, r.keep (K2.same s)⟩
/-- rising numbers within a bound -/
structure Ris (lo hi : Int) (ns : List Int) : Prop where
  pw : ns.Pairwise (· < ·)
  lo : ∀ k ∈ ns, lo ≤ k
  hi : ∀ k ∈ ns, k ≤ hi
structure RowOk (n : Nat) (r : Rw) : Prop where
  rooms : Ris 0 99 r.1
  few : r.1.length ≤ 6
  tos : Ris 0 ((n : Int) - 1) r.2
def allRooms (rs : List Rw) : List Int := (rs.map Prod.fst).flatten
structure WebOk (rs : List Rw) : Prop where
  pos : 1 ≤ rs.length
  few : rs.length ≤ 80
  row : ∀ r ∈ rs, RowOk rs.length r
  all : ∃ S : List Int, S.length ≤ 12 ∧ ∀ k ∈ allRooms rs, k ∈ S
theorem ris_len {ns : List Int} {n : Nat} : Ris 0 ((n : Int) - 1) ns → ns.length ≤ n := by
  induction n generalizing ns with
  | zero =>
    intro h
    cases ns with
    | nil => exact Nat.le_refl _
    | cons a l =>
      have h1 := h.lo a List.mem_cons_self
      have h2 := h.hi a List.mem_cons_self
      omega
  | succ n ih =>
    intro h
    rcases List.eq_nil_or_concat ns with e | ⟨l, a, e⟩
    · rw [e]
      exact Nat.zero_le _
    · rw [List.concat_eq_append] at e
      subst e
      have pw := List.pairwise_append.mp h.pw
      have ha := h.hi a (List.mem_append_right _ List.mem_cons_self)
      have z := ih (ns := l) ⟨pw.1, fun k hk => h.lo k (List.mem_append_left _ hk), fun k hk => by
        have := pw.2.2 k hk a List.mem_cons_self
        omega⟩
      rw [List.length_append]
      show l.length + 1 ≤ n + 1
      omega
section
variable {X : Cx}
/-- a slice of a tuple, whatever it is -/
def rSl2 : V → Option Int → Option Int → Hp → VK → Prop := fun x lo hi H Q => ∃ a xs, x = .ref a ∧ T2 H a xs ∧ ∀ v H', Same H H' → T2 H' v (cutV xs lo hi) → Q (.ref v) H'
theorem sl_tup2 : SlR X rSl2 := by
  intro pins s σ H x v vl vu lo hi sl Q I rx hs pl pu h
  obtain ⟨a, xs, rfl, hx, q⟩ := h
  refine sl_tupA pins s σ H _ v vl vu lo hi sl Q I rx hs pl pu ⟨a, xs, rfl, hx.sq, fun hw => q a H (Same.refl H) ?_, fun _ p np => q p _ (same_upd np) (.inr upd_same)⟩
  have z : cutV xs lo hi = xs := by
    unfold cutV
    rw [hw.1, hw.2, Nat.sub_zero, List.drop_zero, List.take_length]
  rw [z]
  exact hx
end
theorem cut_tail (xs : List V) : cutV xs (some 1) none = xs.drop 1 := by
  cases xs with
  | nil => rfl
  | cons x l =>
    have e1 : HT.sIx (x :: l).length 0 (some 1) = 1 := by
      have z := HT.sIx_nat (x :: l).length 0 1
      have z2 : HT.sIx (x :: l).length 0 (some (1 : Int)) = min 1 (x :: l).length := z
      rw [z2, List.length_cons]
      omega
    unfold cutV
    rw [e1, HT.sIx_none, List.take_of_length_le]
    rw [List.length_drop]
    exact Nat.le_refl _
theorem rep_all (n : Nat) : (List.replicate n true).all id = true := by
  rw [List.all_eq_true]
  intro x hx
  rw [List.eq_of_mem_replicate hx]
  rfl
theorem rep_snoc (n : Nat) : (List.replicate n (V.bl true)) ++ [V.bl true] = List.replicate (n + 1) (V.bl true) := by
  rw [← List.replicate_succ']
theorem rep_map (n : Nat) : (List.replicate n true).map V.bl = List.replicate n (V.bl true) := List.map_replicate
/-! a comprehension over zip of two tuples -/
open RZ in
theorem lc_zipT {K : PySem.W.Frag} {a b : Addr} {xs ys : List V} {g : TG} {tt : TT} {te : TE} {vs : List Nat} {σ : L2.St} {H1 : Hp} {D : Addr} {Qd : Hp → Prop} (hl : ys.length ≤ xs.length) (Pv : Nat → Hp → Prop) (h0 : Pv 0 (upd H1 D (.lst [])))
    (hq : ∀ i H, i ≤ ys.length → Pv i H → SqT K H a xs ∧ SqT K H b ys)
    (hs : ∀ (i : Nat) (x y : V) (T : Addr) (H : Hp), xs[i]? = some x → ys[i]? = some y → Pv i H → H T = none → g (.ref T) (wipe σ vs) (upd H T (.tup [x, y])) fun σ2 H2 => wipe σ2 vs = wipe σ vs ∧ tt σ2 H2 fun b H3 =>
      if b = true then te σ2 H3 fun y H4 => ∃ acc, H4 D = some (.lst acc) ∧ acc.length < sizeLine ∧ Pv (i + 1) (upd H4 D (.lst (acc ++ [y]))) else Pv (i + 1) H3) (hd : ∀ H, Pv ys.length H → Qd H) :
    ∃ W : Nat → Nat → Hp → Prop, (∃ m, W 0 m (upd H1 D (.lst []))) ∧ ∀ i m H, W i m H →
      ((ItzT K a b).stop i H ∧ Qd H) ∨ ((ItzT K a b).go i H ∧ ∃ Nx : Hp → Prop, (∀ H', Nx H' → ∃ m', m' < m ∧ W (i + 1) m' H') ∧ ∀ x H', (ItzT K a b).yld i H x H' → g x (wipe σ vs) H' fun σ2 H2 => wipe σ2 vs = wipe σ vs ∧ tt σ2 H2 fun b H3 =>
        if b = true then te σ2 H3 fun y H4 => ∃ acc, H4 D = some (.lst acc) ∧ acc.length < sizeLine ∧ Nx (upd H4 D (.lst (acc ++ [y]))) else Nx H3) := by
  refine ⟨fun i m H => m = ys.length - i ∧ i ≤ ys.length ∧ Pv i H, ⟨ys.length, (Nat.sub_zero _).symm, Nat.zero_le _, h0⟩, ?_⟩
  rintro i m H ⟨rfl, hi, p⟩
  obtain ⟨qx, qy⟩ := hq i H hi p
  by_cases hlt : i < ys.length
  · have hy : ys[i]? = some ys[i] := List.getElem?_eq_getElem hlt
    have hx : xs[i]? = some xs[i] := List.getElem?_eq_getElem (by omega)
    refine .inr ⟨⟨xs, ys, _, _, qx, qy, hx, hy⟩, Pv (i + 1), fun H' p' => ⟨ys.length - (i + 1), by omega, rfl, hlt, p'⟩, fun v H' y => ?_⟩
    obtain ⟨T, x', y', rfl, nT, rfl, f1, f2⟩ := y
    exact hs i x' y' T H (f1 xs qx) (f2 ys qy) p nT
  · have e : i = ys.length := by omega
    subst e
    exact .inl ⟨⟨xs, ys, qx, qy, .inr (Nat.le_refl _)⟩, hd H p⟩
section
variable {K : PySem.W.Frag} {a : Addr} {xs : List V}
theorem lc_enumS {g : TG} {tt : TT} {te : TE} {vs : List Nat} {σ : L2.St} {H1 : Hp} {D : Addr} {Qd : Hp → Prop} (Pv : Nat → Hp → Prop) (h0 : Pv 0 (upd H1 D (.lst []))) (hl : ∀ i H, i ≤ xs.length → Pv i H → SqL K H a xs)
    (hs : ∀ i x H T, xs[i]? = some x → Pv i H → H T = none → g (.ref T) (wipe σ vs) (upd H T (.tup [.int (i : Nat), x])) fun σ2 H2 => wipe σ2 vs = wipe σ vs ∧ tt σ2 H2 fun b H3 =>
      if b = true then te σ2 H3 fun y H4 => ∃ acc, H4 D = some (.lst acc) ∧ acc.length < sizeLine ∧ Pv (i + 1) (upd H4 D (.lst (acc ++ [y]))) else Pv (i + 1) H3) (hd : ∀ H, Pv xs.length H → Qd H) :
    ∃ W : Nat → Nat → Hp → Prop, (∃ m, W 0 m (upd H1 D (.lst []))) ∧ ∀ i m H, W i m H →
      ((Ite K a).stop i H ∧ Qd H) ∨ ((Ite K a).go i H ∧ ∃ Nx : Hp → Prop, (∀ H', Nx H' → ∃ m', m' < m ∧ W (i + 1) m' H') ∧ ∀ x H', (Ite K a).yld i H x H' → g x (wipe σ vs) H' fun σ2 H2 => wipe σ2 vs = wipe σ vs ∧ tt σ2 H2 fun b H3 =>
        if b = true then te σ2 H3 fun y H4 => ∃ acc, H4 D = some (.lst acc) ∧ acc.length < sizeLine ∧ Nx (upd H4 D (.lst (acc ++ [y]))) else Nx H3) := by
  refine ⟨fun i m H => m = xs.length - i ∧ i ≤ xs.length ∧ Pv i H, ⟨xs.length, (Nat.sub_zero _).symm, Nat.zero_le _, h0⟩, ?_⟩
  rintro i m H ⟨rfl, hi, p⟩
  have q := hl i H hi p
  by_cases hlt : i < xs.length
  · refine .inr ⟨⟨xs, xs[i], q, List.getElem?_eq_getElem hlt⟩, Pv (i + 1), fun H' p' => ⟨xs.length - (i + 1), by omega, rfl, hlt, p'⟩, fun v H' y => ?_⟩
    obtain ⟨T, x, rfl, nT, rfl, y⟩ := y
    exact hs i x H T (y xs q) p nT
  · have e : i = xs.length := by omega
    subst e
    exact .inl ⟨⟨xs, q, Nat.le_refl _⟩, hd H p⟩
theorem for_enumS {g : TG} {tb : TS} {D : Ends} {σ : L2.St} {H : Hp} (Pv : Nat → L2.St → Hp → Prop) (h0 : Pv 0 σ H) (hl : ∀ i σ H, i ≤ xs.length → Pv i σ H → SqL K H a xs)
    (hs : ∀ i x σ H T, xs[i]? = some x → Pv i σ H → H T = none → g (.ref T) σ (upd H T (.tup [.int (i : Nat), x])) fun σ2 H2 => tb { D with nx := Pv (i + 1), ct := Pv (i + 1), bk := D.nx } σ2 H2) (hd : ∀ σ H, Pv xs.length σ H → D.nx σ H) :
    ∃ W : Nat → Nat → L2.St → Hp → Prop, (∃ m, W 0 m σ H) ∧ ∀ i m σ H, W i m σ H →
      ((Ite K a).stop i H ∧ D.nx σ H) ∨ ((Ite K a).go i H ∧ ∃ N : L2.St → Hp → Prop, (∀ σ' H', N σ' H' → ∃ m', m' < m ∧ W (i + 1) m' σ' H') ∧ ∀ v H', (Ite K a).yld i H v H' → g v σ H' fun σ2 H2 => tb { D with nx := N, ct := N, bk := D.nx } σ2 H2) := by
  refine ⟨fun i m σ H => m = xs.length - i ∧ i ≤ xs.length ∧ Pv i σ H, ⟨xs.length, (Nat.sub_zero _).symm, Nat.zero_le _, h0⟩, ?_⟩
  rintro i m σ H ⟨rfl, hi, p⟩
  have q := hl i σ H hi p
  by_cases hlt : i < xs.length
  · refine .inr ⟨⟨xs, xs[i], q, List.getElem?_eq_getElem hlt⟩, Pv (i + 1), fun σ' H' p' => ⟨xs.length - (i + 1), by omega, rfl, hlt, p'⟩, fun v H' y => ?_⟩
    obtain ⟨T, x, rfl, nT, rfl, y⟩ := y
    exact hs i x σ H T (y xs q) p nT
  · have e : i = xs.length := by omega
    subst e
    exact .inl ⟨⟨xs, q, Nat.le_refl _⟩, hd σ H p⟩
end
theorem K2.of {p : Addr} {H H' : Hp} (k : Kept p H H') (hp : PoolAt H p) : K2 H H' := by
  rintro a xs (h | h)
  · exact .inl (h.kept k hp)
  · refine .inr (k _ _ h fun z => ?_)
    subst z
    obtain ⟨o, e, g, m, rfl, _⟩ := hp
    rw [e] at h
    cases h
theorem cut_to (xs : List V) (k : Nat) : cutV xs none (some (k : Int)) = xs.take k := by
  have e1 : HT.sIx xs.length xs.length (some (k : Int)) = min k xs.length := HT.sIx_nat xs.length xs.length k
  unfold cutV
  rw [e1, HT.sIx_none, Nat.sub_zero, List.drop_zero]
  by_cases h : k ≤ xs.length
  · rw [Nat.min_eq_left h]
  · rw [Nat.min_eq_right (by omega), List.take_length, List.take_of_length_le (by omega)]
theorem cut_from (xs : List V) (k : Nat) : cutV xs (some (k : Int)) none = xs.drop k := by
  have e1 : HT.sIx xs.length 0 (some (k : Int)) = min k xs.length := HT.sIx_nat xs.length 0 k
  unfold cutV
  rw [e1, HT.sIx_none]
  by_cases h : k ≤ xs.length
  · rw [Nat.min_eq_left h, List.take_of_length_le (by rw [List.length_drop]; exact Nat.le_refl _)]
  · rw [Nat.min_eq_right (by omega), List.drop_of_length_le (Nat.le_refl _), List.take_nil, List.drop_of_length_le (by omega)]
theorem pw_lt {ms : List Int} (h : ms.Pairwise (· ≤ ·)) (nd : ms.Nodup) : ms.Pairwise (· < ·) := by
  have z := h.and nd
  exact z.imp fun ⟨a, b⟩ => by omega
/-! a web as data, for repr -/
theorem dp_intsS {K : PySem.W.Frag} {H : Hp} : ∀ ns : List Int, DpAll K H (ns.map V.int) (ns.map PyData.int)
  | [] => .nil
  | n :: ns => .cons (.int n) (dp_intsS ns)
def rowD (r : Rw) : PyData := .tuple [.tuple (r.1.map PyData.int), .tuple (r.2.map PyData.int)]
def webD (rs : List Rw) : PyData := .list (rs.map rowD)
theorem rows_dp {K : PySem.W.Frag} {H : Hp} : ∀ {ws : List V} {rs : List Rw}, RowsAt H ws rs → DpAll K H ws (rs.map rowD)
  | [], [], _ => .nil
  | w :: ws, r :: rs, h => by
    obtain ⟨⟨a, b, c, rfl, h1, h2, h3⟩, t⟩ := h
    exact .cons (.tup h1.sq (.cons (.tup h2.sq (dp_intsS _)) (.cons (.tup h3.sq (dp_intsS _)) .nil))) (rows_dp t)
  | [], _ :: _, h => h.elim
  | _ :: _, [], h => h.elim
theorem WebAt.dp {K : PySem.W.Frag} {H : Hp} {p : Addr} {rs : List Rw} (h : WebAt H p rs) : Dp K H (.ref p) (webD rs) := by
  obtain ⟨ws, e, r⟩ := h
  exact .lst (SqL.of e) (rows_dp r)
theorem FineL.up {ds : List PyData} {n m n' m' : Nat} (h : FineL ds n m) (a : n ≤ n') (b : m ≤ m') : FineL ds n' m' := ⟨h.sh, h.nd, Nat.le_trans h.dp a, h.lv, Nat.le_trans h.wt b, h.cl⟩
theorem row_fine {n : Nat} {r : Rw} (ok : RowOk n r) (hn : n ≤ 80) : Fine (rowD r) 2 3600 := by
  have h1 := FineL.ints r.1 fun z hz => by
    have a := ok.rooms.lo z hz
    have b := ok.rooms.hi z hz
    omega
  have h2 := FineL.ints r.2 fun z hz => by
    have a := ok.tos.lo z hz
    have b := ok.tos.hi z hz
    omega
  have l1 := ok.few
  have l2 := ris_len ok.tos
  have z := Fine.tuple (FineL.cons (Fine.tuple h1) (FineL.cons (Fine.tuple h2) FineL.nil))
  exact z.up (Nat.le_refl _) (by omega)
theorem rows_fine {n : Nat} (hn : n ≤ 80) : ∀ {rs : List Rw}, (∀ r ∈ rs, RowOk n r) → FineL (rs.map rowD) 2 (3601 * rs.length)
  | [], _ => FineL.nil
  | r :: rs, h => by
    have a := FineL.cons (row_fine (h r List.mem_cons_self) hn) (rows_fine hn fun y hy => h y (List.mem_cons_of_mem _ hy))
    exact a.up (Nat.le_refl _) (by rw [List.length_cons]; omega)
theorem WebOk.fine {rs : List Rw} (ok : WebOk rs) : Fine (webD rs) 3 300000 := by
  have h := ok.few
  exact (Fine.list (rows_fine h ok.row)).up (Nat.le_refl _) (by omega)
end Su
/-! ### SF: a tuple times 0 or 1, the sorted keys of a dict -/
namespace Su
open PySem PySem.Spec PyProof.Rows L2
theorem tuple_mul0 (l : Addr) (items : Array Value) (n : Nat) (dd : Option Addr) (sl : Array (Option Value)) (u : Tok) (ne : items.isEmpty = false) :
    Meets (Builtin.«tuple.__mul__» ⟨[.ref l, .int 0 u], []⟩) (fun _ R s => s.heap.get? l = some { cls := .type "tuple", dict := dd, data := .seq items n, slots := sl } ∧ R (.ok (.ret (Value.ref s.heap.objs.size))) { s with heap := s.heap.push (tupO []) }) :=
  .of_wp fun prog w A R s h => by
    obtain ⟨hp, g, d, tk, os⟩ := s
    obtain ⟨hl, h⟩ := h
    have f1 := AutoSeq1.idx_int
    wp_walk using wpAny_loadPart' hl
    repeat (first
      | (refine wpAny_ite_false (by rw [ne]; rfl) ?_; wp_walk using wpAny_loadPart' hl)
      | (refine wpAny_ite_true rfl ?_; wp_walk using wpAny_loadPart' hl))
    exact ⟨_, rfl, h⟩
theorem tuple_mul1 (l : Addr) (items : Array Value) (n : Nat) (dd : Option Addr) (sl : Array (Option Value)) (u : Tok) :
    Meets (Builtin.«tuple.__mul__» ⟨[.ref l, .int 1 u], []⟩) (fun _ R s => s.heap.get? l = some { cls := .type "tuple", dict := dd, data := .seq items n, slots := sl } ∧ R (.ok (.ret (Value.ref l))) s) :=
  .of_wp fun prog w A R s h => by
    obtain ⟨hp, g, d, tk, os⟩ := s
    obtain ⟨hl, h⟩ := h
    have f1 := AutoSeq1.idx_int
    wp_walk using wpAny_loadPart' hl
    exact ⟨_, rfl, h⟩
section
variable {X : Cx}
/-- (x, ..) * k, k 0 or 1 -/
def rMul01 : R2 := fun x y H Q => ∃ (a : Addr) (k : Int) (xs : List V), x = .ref a ∧ y = .int k ∧ T2 H a xs ∧ xs ≠ [] ∧ (k = 0 ∨ k = 1) ∧ ∀ v H', Same H H' → T2 H' v (if k = 1 then xs else []) → Q (.ref v) H'
theorem op_mul01 : OpR X (binaryOp .Mult) rMul01 := by
  intro pins s σ H x y v u Q I rx ry h
  obtain ⟨a, k, xs, rfl, rfl, ha, ne, hk, q⟩ := h
  cases rx
  obtain ⟨t, rfl⟩ := ry
  obtain ⟨its, r, ⟨⟨cls, dd, data, sl⟩, ho, hc, n, hd⟩, hs⟩ := I.tuple (ha.sq (K := X.K))
  simp only at hc hd
  subst hc hd
  have ni : its.toArray.isEmpty = false := by
    cases its with
    | nil =>
      cases r
      exact absurd rfl ne
    | cons _ _ => rfl
  rcases hk with rfl | rfl
  · refine wpAny_binaryOp_repeat_ref (T := "tuple") (U := "int") (by decide) ⟨_, ho, rfl⟩ (fun s' => typeIs_int s' 0 t) noFill_tuple_mul F.fills_int_mul F.slot_int_rmul repeat_tuple F.slot_int_index.lookup
      (call_meets F.slot_int_rmul (typeIs_int s 0 t) F.entry_int_rmul (F.args_int_rmul_2 _ _) (int_rmul_tuple 0 t a its.toArray n dd sl)
        ⟨ho, rfl, ⟨_, ho, rfl⟩, call_meets F.slot_tuple_mul ⟨_, ho, rfl⟩ F.entry_tuple_mul (F.args_tuple_mul_2 _ _) (tuple_mul0 a its.toArray n dd sl t ni) ⟨ho, ?_⟩⟩)
    exact newF I .nil (Nat.zero_le _) (fun v H' s' _ h => q v H' s' (.inl h)) s.toks
  · refine wpAny_binaryOp_repeat_ref (T := "tuple") (U := "int") (by decide) ⟨_, ho, rfl⟩ (fun s' => typeIs_int s' 1 t) noFill_tuple_mul F.fills_int_mul F.slot_int_rmul repeat_tuple F.slot_int_index.lookup
      (call_meets F.slot_int_rmul (typeIs_int s 1 t) F.entry_int_rmul (F.args_int_rmul_2 _ _) (int_rmul_tuple 1 t a its.toArray n dd sl)
        ⟨ho, rfl, ⟨_, ho, rfl⟩, call_meets F.slot_tuple_mul ⟨_, ho, rfl⟩ F.entry_tuple_mul (F.args_tuple_mul_2 _ _) (tuple_mul1 a its.toArray n dd sl t) ⟨ho, ?_⟩⟩)
    exact ⟨.ref a, H, I, rfl, q a H (Same.refl H) ha⟩
/-- the keys of a dict, all ints -/
def KeysI (kvs : List (Key × V)) (ks : List Int) : Prop := kvs.map (·.1) = ks.map Sum.inl
theorem KeysI.len {kvs : List (Key × V)} {ks : List Int} (h : KeysI kvs ks) : kvs.length = ks.length := by
  have z := congrArg List.length h
  rwa [List.length_map, List.length_map] at z
theorem KeysI.put {kvs : List (Key × V)} {ks : List Int} (h : KeysI kvs ks) (nd : ks.Nodup) (k : Int) (v : V) : ∃ ks', KeysI (putK kvs (Sum.inl k) v) ks' ∧ ks'.Nodup ∧ ∀ j, j ∈ ks' ↔ j ∈ ks ∨ j = k := by
  unfold putK
  by_cases hk : (kvs.any fun kv => decide (kv.1 = Sum.inl k)) = true
  · rw [if_pos hk]
    refine ⟨ks, ?_, nd, fun j => ⟨.inl, ?_⟩⟩
    · unfold KeysI at h ⊢
      rw [← h, List.map_map]
      refine List.map_congr_left fun q _ => ?_
      show (if q.1 = Sum.inl k then (q.1, v) else q).1 = q.1
      split <;> rfl
    · rintro (z | rfl)
      · exact z
      · obtain ⟨q, hq, e⟩ := List.any_eq_true.mp hk
        have z : (Sum.inl j : Key) ∈ kvs.map (·.1) := by
          rw [← of_decide_eq_true e]
          exact List.mem_map_of_mem hq
        rw [h] at z
        obtain ⟨i, hi, e2⟩ := List.mem_map.mp z
        rw [← Sum.inl.inj e2]
        exact hi
  · rw [if_neg hk]
    have nk : k ∉ ks := fun hm => hk (by
      have z : (Sum.inl k : Key) ∈ kvs.map (·.1) := by
        rw [h]
        exact List.mem_map_of_mem hm
      obtain ⟨q, hq, e⟩ := List.mem_map.mp z
      exact List.any_eq_true.mpr ⟨q, hq, decide_eq_true e⟩)
    refine ⟨ks ++ [k], ?_, ?_, fun j => by rw [List.mem_append, List.mem_singleton]⟩
    · unfold KeysI at h ⊢
      rw [List.map_append, List.map_append, h]
      rfl
    · rw [List.nodup_append]
      refine ⟨nd, by simp, fun a ha b hb => ?_⟩
      rw [List.mem_singleton.mp hb]
      rintro rfl
      exact nk ha
/-- sorted(d), all keys ints -/
def rSortedDI : List V → Hp → VK → Prop := fun xs H Q => ∃ (a : Addr) (kvs : List (Key × V)) (ks : List Int), xs = [.ref a] ∧ H a = some (.dK kvs) ∧ KeysI kvs ks ∧ ks.length ≤ 4000 ∧
  ∀ (ys : List Int) (p : Addr), ys.Perm ks → ys.Pairwise (· ≤ ·) → H p = none → Q (.ref p) (upd H p (.lst (ys.map V.int)))
theorem cr_sortedDI (hc : X.calm = true) : CallR X (.builtin "sorted") rSortedDI := by
  intro pins s σ H xs us Q I r h
  obtain ⟨a, kvs, ks, rfl, hd, hks, few, q⟩ := h
  rw [Vals.ref1 r]
  obtain ⟨z, lo, vs, rel, dd⟩ := dk_rd I.hok (.inl hd)
  obtain ⟨ep, hat⟩ := dd.dictAt
  have keys : vs.map (·.1) = ks.map Sum.inl := rel.keys.symm.trans hks
  have len : vs.length = ks.length := by
    have y := congrArg List.length keys
    rwa [List.length_map, List.length_map] at y
  have small : vs.length ≤ sizeLine := by
    rw [len, sizeLine_eq]
    omega
  refine Calls.call_function_entry kind_sorted plain_sorted entry_sorted (args_sorted1 _) ?_
  unfold Builtin.«sorted»
  refine wpAny_bind (m := checkCount "sorted" 1 1 _) (wpAny_pure (wpAny_bind (PySem.W.kdu_collect (A := X.A.in1) (PySem.W.kdl_dict (knd := mixKind X.prog X.w) (kvs := vs) (ep := ep) lo) (I.ok.hd hc) hat small fun h' tk acc hk hacc => ?_)))
  have rv : Vals (vs.map fun p => kV p.1) acc.toList := keys_at (by rw [Array.length_toList, hacc.1]) fun j v e => hacc.2 j v (by rw [← Array.getElem?_toList]; exact e)
  have rv2 : Vals (ks.map V.int) acc.toList := by
    have y : (vs.map fun p => kV p.1) = ks.map V.int := by
      have y1 : (vs.map fun p => kV p.1) = (vs.map (·.1)).map kV := by rw [List.map_map]; rfl
      rw [y1, keys, List.map_map]
      rfl
    rwa [y] at rv
  have hI := rv2.ints
  have alen : acc.toList.length ≤ sizeLine := by
    rw [Array.length_toList, hacc.1]
    exact small
  have I1 : Inv X pins σ H { s with heap := h', toks := tk } := I.kept hk
  refine wpAny_bind (wpAny_newList ?_ alen)
  have at1 : (h'.push (seqObj "list" acc.toList.toArray 0)).get? h'.objs.size = some (seqObj "list" acc.toList.toArray 0) := Heap.get?_push_size _ rfl
  show wpAny _ _ _ _ _ { s with heap := h'.push (seqObj "list" acc.toList.toArray 0), toks := tk }
  refine wpAny_bind (wpAny_holding (wpAny_call_entry slot_list_sort ⟨_, at1, rfl⟩ entry_list_sort (SrtO.list_sort_ord SrtO.swo_int (s := { s with heap := h'.push (seqObj "list" acc.toList.toArray 0), toks := tk }) at1 alen (fun h2 => SrtO.ints_sortable hI h2) fun out h1 h2 => ⟨_, rfl, ?_⟩) (args_list_sort _)))
  obtain ⟨k3, k4, k5⟩ := SrtO.ints_out hI h1 h2
  obtain ⟨c, hcc⟩ := sortedHeap_at (vs := acc.toList) (out := out.toArray) at1
  have olen : ((out.map SrtO.iv).map V.int).length ≤ sizeLine := by
    rw [List.length_map, k4.length_eq, sizeLine_eq]
    omega
  refine wpAny_pure ⟨_, rfl, .ref h'.objs.size, upd H h'.objs.size (.lst ((out.map SrtO.iv).map V.int)), I1.laid (t' := tk) (fun b u e => ?_) (Nat.le_refl _) (show ObjOk X.prog X.w _ _ _ (.lst _) from ⟨olen, out, c, vals_of_ints k3, hcc⟩), rfl, q _ _ k4 k5 (I1.hok.fresh (Nat.le_refl _))⟩
  have lt : b < h'.objs.size := Heap.lt_size e
  rw [sortedHeap_old (Nat.ne_of_lt lt) (by rw [size_push']; exact Nat.lt_succ_of_lt lt)]
  exact Heap.get?_push_of_some _ e
end
end Su
/-! ### SG: l.extend(t), t a tuple; rows that are written -/
namespace Su
open PySem PySem.Spec PyProof.Rows L2
theorem ext_tup (l : Addr) (items : Array Value) (n : Nat) (b : Addr) (more : Array Value) (m : Nat) (dd : Option Addr) (sl : Array (Option Value)) (h0 : ¬(!items.isEmpty && Builtin.List.listTooLong (items.size + more.size)) = true) (h1 : items.size ≤ sizeLine) (h2 : items.size + more.size ≤ sizeLine + 1) :
    Meets (Builtin.«list.extend» ⟨[.ref l, .ref b], []⟩) (fun _ R s => s.heap.get? l = some { cls := .type "list", data := .seq items n } ∧ s.heap.get? b = some { cls := .type "tuple", dict := dd, data := .seq more m, slots := sl } ∧
      R (.ok (.ret .none)) { s with heap := s.heap.update l (Obj.mapSeq fun x => x ++ more) }) :=
  .of_wp fun prog w A R s h => by
    obtain ⟨hp, g, d, tk, os⟩ := s
    obtain ⟨hl, hb, h⟩ := h
    have f1 := AutoSeq1.idx_int
    have f2 := F.sub_tuple_tuple
    have f3 := F.sub_list_list
    have f4 := F.sub_tuple_list
    have f5 := F.sub_list_tuple
    have fits : (items ++ more).size ≤ sizeLine + 1 := by
      rw [Array.size_append]
      exact h2
    wp_walk using (wpAny_updateSeq hl rfl (hz := h1) (_hz' := fits)), wpAny_loadPart' hl, wpAny_loadPart' hb
    exact ⟨_, rfl, h⟩
section
variable {X : Cx}
def rExtT (K : PySem.W.Frag) : V → List V → Hp → VK → Prop := fun x vs H Q => ∃ l b xs zs, x = .ref l ∧ vs = [.ref b] ∧ H l = some (.lst xs) ∧ SqT K H b zs ∧ xs.length + zs.length ≤ sizeLine ∧ Q .non (upd H l (.lst (xs ++ zs)))
theorem mt_extT : MtM X "list.extend" (rExtT X.K) := by
  intro pins s σ H x vs v us Q I rx rv h
  obtain ⟨l, b, xs, zs, rfl, rfl, hH, hB, hz, q⟩ := h
  cases rx
  obtain ⟨u, rfl, ru⟩ := rv.one
  cases ru
  obtain ⟨z, its, n, r, hl, e⟩ := I.lstM hH
  obtain ⟨it2, r2, ⟨⟨cls, dd, data, sl⟩, ho, hc, m, hd⟩, _⟩ := I.tuple hB
  simp only at hc hd
  subst hc hd
  have hl2 := r2.length
  have fit : its.toArray.size + it2.toArray.size ≤ sizeLine := by
    rw [List.size_toArray, List.size_toArray]
    omega
  have short : ¬ (!its.toArray.isEmpty && Builtin.List.listTooLong (its.toArray.size + it2.toArray.size)) = true := by
    rw [notLongL fit, Bool.and_false]
    exact Bool.false_ne_true
  refine call_meets F.slot_list_extend ⟨_, e, rfl⟩ F.entry_list_extend (F.args_list_extend_2 _ _) (ext_tup l its.toArray n b it2.toArray m dd sl short (by rw [List.size_toArray]; omega) (by omega)) ⟨e, ho, ?_⟩
  refine ⟨.non, _, I.lset (its' := its ++ it2) hH e (by simp) (r.append r2) ?_, rfl, q⟩
  rw [List.length_append]
  omega
end
/-! written rows -/
def risB (hi : Int) : Int → List Int → Bool
  | _, [] => true
  | lo, k :: r => decide (lo ≤ k) && decide (k ≤ hi) && risB hi (k + 1) r
theorem ris_of {hi : Int} : ∀ {lo : Int} {l : List Int}, risB hi lo l = true → Ris lo hi l
  | _, [], _ => ⟨List.Pairwise.nil, fun _ h => (List.not_mem_nil h).elim, fun _ h => (List.not_mem_nil h).elim⟩
  | lo, k :: r, h => by
    unfold risB at h
    rw [Bool.and_eq_true, Bool.and_eq_true, decide_eq_true_eq, decide_eq_true_eq] at h
    have z := ris_of h.2
    refine ⟨List.pairwise_cons.mpr ⟨fun x hx => by have := z.lo x hx; omega, z.pw⟩, fun x hx => ?_, fun x hx => ?_⟩
    · rcases List.mem_cons.mp hx with e | e
      · rw [e]
        exact h.1.1
      · have := z.lo x e
        omega
    · rcases List.mem_cons.mp hx with e | e
      · rw [e]
        exact h.1.2
      · exact z.hi x e
def rowB (n : Nat) (r : Rw) : Bool := risB 99 0 r.1 && decide (r.1.length ≤ 6) && risB ((n : Int) - 1) 0 r.2
theorem row_of {n : Nat} {r : Rw} (h : rowB n r = true) : RowOk n r := by
  unfold rowB at h
  rw [Bool.and_eq_true, Bool.and_eq_true, decide_eq_true_eq] at h
  exact ⟨ris_of h.1.1, h.1.2, ris_of h.2⟩
def webB (A : List Int) (rs : List Rw) : Bool := decide (1 ≤ rs.length) && decide (rs.length ≤ 80) && rs.all (rowB rs.length) && decide (A.length ≤ 12) && (allRooms rs).all (fun k => decide (k ∈ A))
theorem web_of {A : List Int} {rs : List Rw} (h : webB A rs = true) : WebOk rs := by
  unfold webB at h
  simp only [Bool.and_eq_true, decide_eq_true_eq, List.all_eq_true] at h
  exact ⟨h.1.1.1.1, h.1.1.1.2, fun r hr => row_of (h.1.1.2 r hr), A, h.1.2, h.2⟩
def upto (n : Nat) : List Int := (List.range n).map fun i => ((i : Nat) : Int)
theorem upto_rg (n : Nat) : rgV 0 (n : Int) = (upto n).map V.int := by
  unfold rgV upto
  rw [List.map_map, show ((n : Int) - 0).toNat = n by omega]
  refine List.map_congr_left fun i _ => ?_
  show V.int (0 + (i : Nat)) = V.int (i : Int)
  rw [Int.zero_add]
theorem upto_mem {n : Nat} {k : Int} : k ∈ upto n ↔ 0 ≤ k ∧ k < n := by
  unfold upto
  rw [List.mem_map]
  constructor
  · rintro ⟨i, hi, rfl⟩
    have := List.mem_range.mp hi
    omega
  · intro h
    exact ⟨k.toNat, List.mem_range.mpr (by omega), by omega⟩
theorem upto_pw (n : Nat) : (upto n).Pairwise (· < ·) := by
  unfold upto
  rw [List.pairwise_map]
  exact List.pairwise_lt_range.imp fun h => by omega
end Su
/-! ### SI: a comprehension within another one -/
namespace Su
open PySem PySem.Spec PyProof.Rows L2
theorem blkOk_in {N : List Str} {sc scope : Scope} {own : List (Str × Nat)} (fr : List Str) (h : blkC N { kind := .function, names := fr.map fun x => (x, NameKind.cell), isGenerator := false, isCoroutine := false } scope own = true)
    (h2 : ∀ x ∈ fr, sc.names.lookup x = some .cell ∨ sc.names.lookup x = some .free) : BlkOk N sc scope own := by
  have b := blkOk_by h
  refine ⟨b.kind, b.uniq, b.ix, fun y hy e => ?_, b.own⟩
  refine h2 y.1 ?_
  have key : ∀ (l : List Str) (x : Str) (k : NameKind), (l.map fun x => (x, NameKind.cell)).lookup x = some k → x ∈ l := by
    intro l
    induction l with
    | nil =>
      intro x k e
      simp at e
    | cons a l ih =>
      intro x k e
      rw [List.map_cons, List.lookup_cons] at e
      by_cases hx : (x == a) = true
      · rw [eq_of_beq hx]
        exact List.mem_cons_self
      · rw [Bool.not_eq_true] at hx
        rw [hx] at e
        exact List.mem_cons_of_mem _ (ih x k e)
  rcases b.free y hy e with z | z
  · exact key _ _ _ z
  · exact key _ _ _ z
end Su
/-! ### XA: an exception that is caught and kept -/
namespace Su
open PySem PySem.Spec PyProof.Rows L2
/-- at a: an exception of the class cls, its dict at d -/
def exK (a : Addr) (cls : Value) (d : Option Addr) : HO := .ext fun h => ∃ (oe : Obj) (vs : Array Value), h.get? a = some oe ∧ Zc cls d oe ∧ oe.data = .fields vs
theorem exK_ok {P : Program} {w : World} {H : Hp} {h : Heap} {a : Addr} {cls : Value} {d : Option Addr} {oe : Obj} {vs : Array Value} (e : h.get? a = some oe) (z : Zc cls d oe) (hd : oe.data = .fields vs) : ObjOk P w H h a (exK a cls d) := by
  refine ⟨⟨oe, vs, e, z, hd⟩, ⟨oe, e⟩, fun h1 h2 p k => ?_⟩
  obtain ⟨o, v, e1, z1, d1⟩ := p
  exact ⟨o, v, k _ e1, z1, d1⟩
section
variable {X : Cx} {pins : List (Addr × Obj)} {σ : L2.St} {H : Hp} {s : Shared}
/-- what is new since the entry may be tracked from now on -/
theorem track {a : Addr} {o : HO} (I : Inv X pins σ H s) (ha : H a = none) (h0 : X.s_0.heap.get? a = none) (nl : a ≠ X.env.locals) (nc : ∀ x c, X.env.cells.lookup x = some c → c ≠ a) (np : ∀ p ∈ X.pn ++ pins, p.1 ≠ a)
    (new : ObjOk X.prog X.w (upd H a o) s.heap a o) : Inv X pins σ (upd H a o) s where
  ok := I.ok
  os := I.os
  bare := I.bare
  base := {
    keep := I.base.keep
    slot := I.base.slot
    free := fun b u q n x => by
      rw [upd_ne fun z => by rw [z, h0] at q; cases q]
      exact I.base.free b u q n x
    there := I.base.there
    tups := fun b xs q => by
      have z := I.base.tups b xs q
      rw [upd_ne (ne_of_none z ha)]
      exact z
    frzs := fun b u v q => by
      have z := I.base.frzs b u v q
      rw [upd_ne (ne_of_none z ha)]
      exact z
    tbls := fun b ps q => by
      obtain ⟨more, z⟩ := I.base.tbls b ps q
      exact ⟨more, by rw [upd_ne (ne_of_none z ha)]; exact z⟩ }
  loc := I.loc
  cell := I.cell
  free := by
    rw [upd_ne nl.symm]
    exact I.free
  freeC := fun x c e => by
    rw [upd_ne (nc x c e)]
    exact I.freeC x c e
  pin := fun p hp => by
    obtain ⟨p1, p2, p3⟩ := I.pin p hp
    exact ⟨p1, by rw [upd_ne (np p hp)]; exact p2, p3⟩
  hok := HOk.laidN I.hok (fun _ _ q => q) ha new
  len := I.len
end
def wKeep (K : PySem.W.Frag) (c : Value) (i : Nat) (ts : Addr → TS) (Wo : WX) (D : Ends) : WX := fun cls d σ H =>
  ∃ b, PySem.W.exmOne K cls c = some b ∧
    (b = true → ∀ a, H a = none → ts a { nx := fun σ' H' => D.nx (σ'.set i none) (upd H' a (exK a cls d)), rt := fun _ _ => False, bk := fun _ _ => False, ct := fun _ _ => False } (σ.set i (some (.ref a))) H) ∧
    (b = false → Wo cls d σ H)
section
variable {X : Cx} {x n : Str} {c : Value} {i : Nat} {body suite : List Stmt} {b0 : Stmt} {np pos pos' : Pos} {tb : WX → TS} {ts : Addr → TS} {Wo : WX}
/-- try: .. except x as n: suite, the exception tracked behind the suite -/
theorem ps_try_keep (hex : X.ex = []) (hs : X.stack = X.env :: X.outer) (hf : X.env.frame = some X.env.locals) (hN : X.N.Nodup) (hi : X.N[i]? = some n) (hln : X.env.kindOf n = some .local) (hc : Names X x c) (tk : Takes X Wo)
    (hb : ∀ (W : WX) (pn : List (Addr × Obj)) (xe : Value → Shared → Prop), Takes (X.tr pn xe) W → PassesOwn (model X.prog X.w) X.A X.env xe → PSs (X.tr pn xe) body (tb W))
    (hsu : ∀ (a : Addr) (oe : Obj) (pn : List (Addr × Obj)), PSs (X.suite a ((a, oe) :: pn)) (b0 :: suite) (ts a)) :
    PS X (.Try body [.ExceptHandler (some (.Name x np)) (some n) (b0 :: suite) pos'] [] [] pos) (fun D σ H => tb (wKeep X.K c i ts Wo D) D σ H) := by
  refine ⟨fun pins s σ H D I h => ?_⟩
  have ok := I.ok
  have frm : X.A.frames = some (X.env :: X.outer) := by
    rw [ok.frames, hs]
  refine wpAny_Try_except ?_
  refine wpAny_mono ((hb (wKeep X.K c i ts Wo D) (X.pn ++ pins) (fun u t => wpAny (model X.prog X.w) X.A (noteFrame u X.env) (fun _ t2 => wpAny (model X.prog X.w) X.A (setFlight u none) (fun _ t3 =>
    wpAny (model X.prog X.w) X.A (handleBy u X.env [.ExceptHandler (some (.Name x np)) (some n) (b0 :: suite) pos']) (SP X pins D) X.xe t3) X.xe t2) X.xe t) (fun u t xx => ?_) PassesOwn.looking).run [] s σ H D (I.toTry _) h) (fun fl t hsp => ?_) (fun _ _ z => z)
  · obtain ⟨a, B, sI, pins2, τ, G, cls, d, rfl, Jt, nb, up, sky, na, os, ag, b, hb1, hyes, hno⟩ := xx
    have J : Inv X pins τ G sI := Jt.ofTry ok
    have sky2 : Sky B (X.env :: X.outer) a (Zc cls d) X.env.locals t.heap := by
      rw [← hs]
      exact sky
    show wpAny (model X.prog X.w) X.A (noteFrame (.ref a) X.env) _ _ _
    refine Sky.land Zc.steady frm hf sky2 fun g3 fl3 up3 => ?_
    have J3 : Inv X pins τ G { t with heap := g3 } := J.landed nb fl3.1 (up.trans up3) os ag
    obtain ⟨oe3, vs3, at3, zc3, dt3⟩ := fl3.there
    have nofr : a ∉ frs (X.env :: X.outer) := by
      intro hm
      obtain ⟨_, o', e', hnf⟩ := fl3.2.2.1.mem hm
      rw [at3] at e'
      cases e'
      exact hnf _ dt3
    have nL : a ≠ X.env.locals := fun z => nofr (List.mem_filterMap.mpr ⟨X.env, List.mem_cons_self, by rw [hf, z]⟩)
    have nF : a ∉ X.fs := by
      intro hm
      obtain ⟨e, he, q⟩ := List.mem_filterMap.mp hm
      exact nofr (List.mem_filterMap.mpr ⟨e, List.mem_cons_of_mem _ he, q⟩)
    -- it wasn't there ahead
    have gone : sI.heap.get? a = none := by
      cases z : sI.heap.get? a with
      | none => rfl
      | some o =>
        have y := nb a o z (by rw [hs]; exact nofr)
        rw [fl3.2.1] at y
        cases y
    have gone0 : X.s_0.heap.get? a = none := by
      cases z : X.s_0.heap.get? a with
      | none => rfl
      | some o =>
        obtain ⟨o', y⟩ := J.base.there a o z (by rw [hex]; simp)
        rw [gone] at y
        cases y
    have noc : ∀ y k, X.env.cells.lookup y = some k → k ≠ a := by
      rintro y k e rfl
      obtain ⟨v, o, e1, _⟩ := J.cell y k e
      rw [gone] at e1
      cases e1
    have nop : ∀ q ∈ X.pn ++ pins, q.1 ≠ a := by
      intro q hq e
      have y := (J.pin q hq).1
      rw [e, gone] at y
      cases y
    have S3 := J3.suite at3 dt3 na nL nF
    refine wpAny_handleBy_cons (codeAny_handlers_test ?_) (by intro q; cases q)
    have LT : PySem.W.Looks (model X.prog X.w) g3 (typeOf (.ref a)) cls := fun A Q E s k q => wpAny_typeOf_ref (k _ _ at3) (by rw [zc3.1]; exact q)
    have LM := PySem.W.exm_one (M := model X.prog X.w) (J3.kIn) LT hb1
    have asked : ∀ {Q : Value → Shared → Prop} {E : Value → Shared → Prop}, Q c { t with heap := g3 } → wpAny (model X.prog X.w) (X.A.mark (some (.ref a))) (eval (.Name x np) X.env) Q E { t with heap := g3 } := by
      intro Q E q
      obtain ⟨hg, hdbg, hm | ⟨hm, hv, hnn⟩⟩ := hc
      · exact ld_glob (X := X.suite a ((a, oe3) :: (X.pn ++ pins))) S3 hg hm q hdbg
      · exact ld_blt (X := X.suite a ((a, oe3) :: (X.pn ++ pins))) S3 hg hm hv q hnn hdbg
    refine asked (LM.here ?_)
    cases b with
    | true =>
      refine codeAny_handlers_suite_as (HandSPX.lands_againZ fl3 fun g4 fl4 up4 => ?_)
      have J4 : Inv X pins τ G { t with heap := g4 } := J.landed nb fl4.1 ((up.trans up3).trans up4) os ag
      obtain ⟨oe4, vs4, at4, zc4, dt4⟩ := fl4.there
      have S4 := J4.suite at4 dt4 na nL nF
      refine store_ok (X := X.suite a ((a, oe4) :: (X.pn ++ pins))) (v := .ref a) S4 hN hi (.inl hln) rfl (fun t5 S5 => ?_) (.inr hln)
      refine wpAny_mono ((hsu a oe4 (X.pn ++ pins)).run [] t5 _ G _ S5 (hyes rfl a na)) (fun fl t6 hsp => ?_) (fun _ _ z => False.elim z)
      cases fl with
      | next =>
        obtain ⟨τ6, G6, S6, q6⟩ := hsp
        obtain ⟨p1, p2, _⟩ := S6.pin (a, oe4) (List.mem_append_left _ List.mem_cons_self)
        have J6 : Inv X pins τ6 (upd G6 a (exK a cls d)) t6 := track (S6.unsuite ok) p2 gone0 nL noc nop (exK_ok p1 zc4 dt4)
        exact gone_ok J6 hN hi hln fun t7 J7 => ⟨_, _, J7, q6⟩
      | brk =>
        obtain ⟨_, _, _, q6⟩ := hsp
        exact False.elim q6
      | cont =>
        obtain ⟨_, _, _, q6⟩ := hsp
        exact False.elim q6
      | ret u =>
        obtain ⟨_, _, _, _, _, q6⟩ := hsp
        exact False.elim q6
    | false =>
      show wpAny _ X.A (handleBy (.ref a) X.env []) _ _ _
      refine wpAny_handleBy_nil ?_
      obtain ⟨k1, k2, k3, oe, vs, T, oT, ts', he, hz, hd, h1, hr⟩ := id fl3
      unfold PySem.passOn
      refine wpAny_bind (wpAny_field he hd h1 ?_)
      rw [if_neg (show ¬ ((Value.ref T == Value.none) = true) from by simp)]
      have away : wpAny (model X.prog X.w) X.A (setFlight (.ref a) X.env.frame) (fun _ t4 => wpAny (model X.prog X.w) X.A (throw (.ref a) : Sem Flow) (SP X pins D) X.xe t4) X.xe { t with heap := g3 } := by
        rw [hf]
        refine HandSPX.setFlight_upZ fl3 fun g4 hh4 up4 => wpAny_throw (tk _ _ ?_)
        exact ⟨a, B, sI, pins, τ, G, cls, d, rfl, J, nb, (up.trans up3).trans up4, .inr (.inr (by rw [hs]; exact hh4)), na, os, ag, hno rfl⟩
      first
        | exact wpAny_bind (wpAny_pure (wpAny_bind away))
        | exact wpAny_bind away
  · cases fl with
    | next =>
      obtain ⟨τ, G, J, q⟩ := hsp
      exact wpAny_execs_nil ⟨τ, G, J.ofTry ok, q⟩
    | brk =>
      obtain ⟨τ, G, J, q⟩ := hsp
      exact ⟨τ, G, J.ofTry ok, q⟩
    | cont =>
      obtain ⟨τ, G, J, q⟩ := hsp
      exact ⟨τ, G, J.ofTry ok, q⟩
    | ret u =>
      obtain ⟨v, τ, G, J, r, q⟩ := hsp
      exact ⟨v, τ, G, J.ofTry ok, r, q⟩
end
end Su
/-! ### XB: what is asked of a kept exception: isinstance, a field -/
namespace Su
open PySem PySem.Spec PyProof.Rows L2
/-- what the written part says of an own exception class -/
structure ExcT (K : PySem.W.Frag) (C : Addr) : Prop where
  cl : (PySem.W.clsIn K C).isSome = true
  ga : PySem.W.findIn K (.ref C) "__getattribute__" = some (some (.builtin "BaseException.__getattribute__"))
  gg : PySem.W.findIn K (.ref C) "__getattr__" = some none
  sub : PySem.W.subIn K (.ref C) (.type "BaseException") = some true
  cc : PySem.W.findIn K (.ref C) "__class__" = some (some (.builtin "object.__class__"))
  sp : PySem.W.specialIn K (.builtin "object.__class__") "__get__" = some (some (.builtin "getset_descriptor.__get__"))
  tk : PySem.W.takesIn K (.builtin "object.__class__") = some true
  mr : PySem.W.mroIn K C (.type "object") = some true
  hd : PySem.W.hasDictIn K C = true
/-- its dict, if it has one, is told -/
def XdAt (H : Hp) (d : Option Addr) : Prop := ∀ dd, d = some dd → ∃ fs, H dd = some (.xd fs)
section
variable {X : Cx} {pins : List (Addr × Obj)} {σ : L2.St} {H : Hp} {s : Shared}
theorem exK_inst {a C : Addr} {d : Option Addr} (I : Inv X pins σ H s) (e : H a = some (exK a (.ref C) d)) (hd : XdAt H d) : ∃ (ox : Obj) (od : Option Obj), PySem.W.InstAt s.heap a ox C od := by
  obtain ⟨oe, vs, e1, z, dt⟩ := (I.hok a _ e).1
  have no : PySem.W.notCls oe = true := by
    unfold PySem.W.notCls
    rw [dt]
  cases d with
  | none => exact ⟨oe, none, e1, z.1, no, by rw [z.2]; trivial⟩
  | some dd =>
    obtain ⟨fs, hx⟩ := hd dd rfl
    obtain ⟨mA, hns, _⟩ := (show ObjOk X.prog X.w H s.heap dd (.xd fs) from I.hok dd _ hx)
    obtain ⟨od, ho, _⟩ := lookIn_ns hns
    exact ⟨oe, some od, e1, z.1, no, by rw [z.2]; exact ho⟩
theorem exK_kit {a C : Addr} {d : Option Addr} (T : ExcT X.K C) (I : Inv X pins σ H s) (e : H a = some (exK a (.ref C) d)) (hd : XdAt H d) : ∃ P : Heap → Prop, PySem.W.KitX X.K (.ref a) (.ref C) P ∧ P s.heap := by
  obtain ⟨ox, od, J⟩ := exK_inst I e hd
  exact ⟨_, PySem.W.kitx_exc T.cl T.ga T.gg T.sub T.cc T.sp T.tk T.mr, J⟩
/-- isinstance(e, c) -/
def rIsiE (K : PySem.W.Frag) : List V → Hp → VK → Prop := fun xs H Q => ∃ (a C : Addr) (d : Option Addr) (c : V) (u : Value) (b : Bool), xs = [.ref a, c] ∧ ClsV c u ∧ ExcT K C ∧ H a = some (exK a (.ref C) d) ∧ XdAt H d ∧ PySem.W.kitOne K (.ref C) u = some b ∧ Q (.bl b) H
theorem call_isiE : CallR X (.builtin "isinstance") (rIsiE X.K) := by
  intro pins s σ H xs us Q I r h
  obtain ⟨a, C, d, c, u, b, rfl, k, T, e, hd, ek, q⟩ := h
  obtain ⟨u1, u2, rfl, r1, r2⟩ := vals2 r
  cases r1
  have e2 := k.eq r2
  subst e2
  obtain ⟨P, Z, p⟩ := exK_kit T I e hd
  exact PySem.W.kia_one Z I.kIn p ek (fun z => nomatch z) fun tk => ⟨.bl b, H, I.tok tk, rfl, q⟩
/-- isinstance(e, (c, ..)) -/
def rIsiET (K : PySem.W.Frag) : List V → Hp → VK → Prop := fun xs H Q => ∃ (a C tp : Addr) (d : Option Addr) (cs : List V) (us : List Value) (b : Bool), xs = [.ref a, .ref tp] ∧ T2 H tp cs ∧ Paired ClsV cs us ∧ ExcT K C ∧ H a = some (exK a (.ref C) d) ∧ XdAt H d ∧
  PySem.W.kitAny K (.ref C) us = some b ∧ Q (.bl b) H
theorem call_isiET : CallR X (.builtin "isinstance") (rIsiET X.K) := by
  intro pins s σ H xs us Q I r h
  obtain ⟨a, C, tp, d, cs, ws, b, rfl, hT, k, T, e, hd, ek, q⟩ := h
  obtain ⟨u1, u2, rfl, r1, r2⟩ := vals2 r
  cases r1
  cases r2
  obtain ⟨P, Z, p⟩ := exK_kit T I e hd
  obtain ⟨its, rv, ⟨⟨oc, od, dt, sl⟩, h1, h2, n, h3⟩, _⟩ := I.tuple (hT.sq (K := X.K))
  have e3 := ClsV.all k rv
  subst e3
  simp only at h2 h3
  subst h2 h3
  exact PySem.W.kia_tup Z I.kIn p h1 ek (fun z => nomatch z) fun tk => ⟨.bl b, H, I.tok tk, rfl, q⟩
/-- e.f -/
def tXfld (K : PySem.W.Frag) (f : Str) (te : TE) : TE := fun σ H Q => te σ H fun x H1 => ∃ (a C dd : Addr) (fs : List (Str × V)) (v : V), x = .ref a ∧ ExcT K C ∧ PySem.W.findIn K (.ref C) f = some none ∧ H1 a = some (exK a (.ref C) (some dd)) ∧ H1 dd = some (.xd fs) ∧ fs.lookup f = some v ∧ Q v H1
theorem pe_xfld {e : Expr} {f : Str} {te : TE} {pos : Pos} (he : PE X e te) (hb : attributeBase e f X.env (eval e X.env) = eval e X.env := by rfl) : PE X (.Attribute e f pos) (tXfld X.K f te) := by
  refine ⟨fun pins s σ H Q I h => ?_⟩
  refine attr_of hb (thn (he.run pins s σ H _ I h) fun u s1 ⟨x, H1, I1, rx, a, C, dd, fs, v, ex, T, no, ea, ed, ef, q⟩ => ?_)
  subst ex
  cases rx
  obtain ⟨oe, vs, e1, z, dt⟩ := (I1.hok a _ ea).1
  obtain ⟨mA, hns, hr⟩ := (show ObjOk X.prog X.w H1 s1.heap dd (.xd fs) from I1.hok dd _ ed)
  obtain ⟨od, ho, hl⟩ := lookIn_ns hns
  obtain ⟨u, hu, ru⟩ := RelO.some_of (v := v) (o := mA f) (by rw [← ef]; exact hr f)
  have J : PySem.W.InstAt s1.heap a oe C (some od) := ⟨e1, z.1, by unfold PySem.W.notCls; rw [dt], by rw [z.2]; exact ho⟩
  exact HandSPX.exc_get I1.kIn J T.ga T.gg T.sub (PySem.W.findObj_own T.hd no rfl (by rw [hl, hu])) (handed_of ru) ⟨v, H1, I1.tok _, ru, q⟩
end
end Su
/-! ### XC: an own exception class, over another one, whose __init__ calls that of the built-in above and keeps a field -/
namespace Su
namespace XC
open PySem PySem.W PySem.Calls PyProof.Rows PySem.HandSPX Builtin Builtin.ObjectAttr
def inA (f : Str) (p1 p2 : Pos) : Arguments :=
  { posonlyargs := [], args := [{ arg := "self", annotation := none, pos := p1 }, { arg := f, annotation := none, pos := p2 }], vararg := none, kwonlyargs := [], kw_defaults := [], kwarg := none, defaults := [] }
def inB (f t : Str) (r1 r2 r3 r4 r5 r6 q1 q2 q3 q4 : Pos) : List Stmt :=
  [.Expr (.Call (.Attribute (.Call (.Name "super" r1) [] [] r2) "__init__" r3) [.Constant (.str t) 0 r4] [] r5) r6, .Assign [.Attribute (.Name "self" q1) f q2] (.Name f q3) q4]
def inS (f : Str) : Scope :=
  { kind := .function, names := [(PySem.Str.ofString "self", .local), (f, .local), (PySem.Str.ofString "__class__", .free), (PySem.Str.ofString "super", .globalImplicit)], isGenerator := false, isCoroutine := false, more := [] }
/-- a field's name -/
structure Fld (f : Str) : Prop where
  self : f ≠ "self"
  cl : f ≠ "__class__"
  su : f ≠ "super"
  db : (f == ("__debug__" : Str)) = false
  bnd : ∀ (q : Str) (p1 p2 : Pos) (bd : List Stmt) (doc pm : Value) (an : Option Addr) (cd ct : Value) (cc : Addr) (a b : Value), bindArgs (ksFn "__init__" q (inA f p1 p2) bd (inS f) .none .none doc pm an cd ct cc) ⟨[a, b], []⟩ = pure ([("self", a), (f, b)] : List (Str × Value))
  sw : ∀ (q : Str) (L a : Addr) (cd : Value) (cc : Addr) (t : Str) (r1 r2 r3 r4 r5 : Pos) (k : Nat), swapsWith (.Call (.Attribute (.Call (.Name "super" r1) [] [] r2) "__init__" r3) [.Constant (.str t) 0 r4] [] r5) none k (ksEnv q (inS f) L a cd cc) = pure false
  sx : ∀ (q : Str) (L a : Addr) (cd : Value) (cc : Addr) (q1 q2 q3 : Pos) (k : Nat), swapsWith (.Name f q3) (some (.Attribute (.Name "self" q1) f q2)) k (ksEnv q (inS f) L a cd cc) = pure false
theorem fld_row : Fld "row" := ⟨by decide, by decide, by decide, by decide, fun _ _ _ _ _ _ _ _ _ _ _ _ => by first | rfl | with_unfolding_all rfl, fun _ _ _ _ _ _ _ _ _ _ _ _ => by first | rfl | with_unfolding_all rfl, fun _ _ _ _ _ _ _ _ _ => by first | rfl | with_unfolding_all rfl⟩
theorem fld_number : Fld "number" := ⟨by decide, by decide, by decide, by decide, fun _ _ _ _ _ _ _ _ _ _ _ _ => by first | rfl | with_unfolding_all rfl, fun _ _ _ _ _ _ _ _ _ _ _ _ => by first | rfl | with_unfolding_all rfl, fun _ _ _ _ _ _ _ _ _ => by first | rfl | with_unfolding_all rfl⟩
theorem fld_part : Fld "part" := ⟨by decide, by decide, by decide, by decide, fun _ _ _ _ _ _ _ _ _ _ _ _ => by first | rfl | with_unfolding_all rfl, fun _ _ _ _ _ _ _ _ _ _ _ _ => by first | rfl | with_unfolding_all rfl, fun _ _ _ _ _ _ _ _ _ => by first | rfl | with_unfolding_all rfl⟩
theorem fld_room : Fld "room" := ⟨by decide, by decide, by decide, by decide, fun _ _ _ _ _ _ _ _ _ _ _ _ => by first | rfl | with_unfolding_all rfl, fun _ _ _ _ _ _ _ _ _ _ _ _ => by first | rfl | with_unfolding_all rfl, fun _ _ _ _ _ _ _ _ _ => by first | rfl | with_unfolding_all rfl⟩
theorem fld_to : Fld "to" := ⟨by decide, by decide, by decide, by decide, fun _ _ _ _ _ _ _ _ _ _ _ _ => by first | rfl | with_unfolding_all rfl, fun _ _ _ _ _ _ _ _ _ _ _ _ => by first | rfl | with_unfolding_all rfl, fun _ _ _ _ _ _ _ _ _ => by first | rfl | with_unfolding_all rfl⟩
theorem fld_name : Fld "name" := ⟨by decide, by decide, by decide, by decide, fun _ _ _ _ _ _ _ _ _ _ _ _ => by first | rfl | with_unfolding_all rfl, fun _ _ _ _ _ _ _ _ _ _ _ _ => by first | rfl | with_unfolding_all rfl, fun _ _ _ _ _ _ _ _ _ => by first | rfl | with_unfolding_all rfl⟩
/-- what the written part says of the class n at C, over the built-in B, with the field f, its __init__ at fI -/
structure Own (P : Program) (K : Frag) (mg : Str → Option Value) (n f : Str) (C fI : Addr) (B newId initId : String) (bmB : List Value) : Prop where
  fld : Fld f
  gC : mg n = some (.ref C)
  ini : excInitIn K C bmB newId = true
  ovr : excOver K C bmB = true
  base : ExcBaseFacts B newId initId bmB
  stor : StoreFacts B bmB "object.__setattr__" "object"
  kx : KxsFacts B initId
  sa : findIn K (.ref C) "__setattr__" = some (some (.builtin "object.__setattr__"))
  noN : findIn K (.ref C) f = some none
  iC : findIn K (.ref C) "__init__" = some (some (.ref fI))
  fC : isFn K (.ref fI) = true
  kC : keepIn K (.ref C) = true
  exC : subIn K (.ref C) (.type "BaseException") = some true
  tyC : typeIn K (.ref C) = some (.type "type")
  hdC : hasDictIn K C = true
  isB : subIn K (.ref C) (.type B) = some true
  sup : ks_superIn K C C "__init__" = some (some (.builtin initId))
  own : mroIn K C (.ref C) = some true
  nos : mg "super" = none
  opq : nsIn K cStatics "thirdparty.any" = some none
  ntop : (P.main.scope.names.lookup ("super" : Str)).isSome = false
  fn : ∃ (oc : Value) (od : Option Addr) (q : Str) (doc pm : Value) (an : Option Addr) (cda cc : Addr) (ct : Value) (osl : Array (Option Value)) (t : Str) (p1 p2 r1 r2 r3 r4 r5 r6 q1 q2 q3 q4 : Pos)
      (ccl : Value) (cdd : Option Addr) (vs : Array Value) (ccs : Array (Option Value)) (file : Str) (tf : Tok) (cl : Value) (cld : Option Addr) (csl : Array (Option Value)),
    K.lookup fI = some ⟨oc, od, .func (ksFn "__init__" q (inA f p1 p2) (inB f t r1 r2 r3 r4 r5 r6 q1 q2 q3 q4) (inS f) .none .none doc pm an (.ref cda) ct cc), osl⟩ ∧ codeIn K (.ref cda) q = true ∧
    K.lookup cda = some ⟨ccl, cdd, .fields vs, ccs⟩ ∧ vs[2]? = some (.str file tf) ∧ ((P.main.file : Str) == file) = true ∧ (r3.endLine == r5.line) = true ∧ K.lookup cc = some ⟨cl, cld, .cell (some (.ref C)), csl⟩
/-- what __init__ leaves of a fresh exception at x -/
structure Left (h h' : Heap) (x C dx t1 : Addr) (f : Str) (v : Value) : Prop where
  keep : ∀ b o, b ≠ x → h.get? b = some o → h'.get? b = some o
  obj : h'.get? x = some { cls := .ref C, dict := some dx, data := .fields #[.ref t1, .none, .none, .none, .bool false, .none] }
  dbig : h.objs.size ≤ dx
  dne : dx ≠ x
  ns : h'.Ns1 dx (fun y => if y = f then some v else none)
section
variable {P : Program} {w : World} {A : Around} {E : Value → Shared → Prop} {R : Result → Shared → Prop} {s : Shared} {K : Frag} {mg : Str → Option Value} {n f : Str} {C fI : Addr} {B newId initId : String} {bmB : List Value}
theorem ev_init {env : Env} {o : Expr} {m : Str} {t : Str} {r3 r4 r5 : Pos} (hl : (r3.endLine == r5.line) = true) : ∃ pl, eval (.Call (.Attribute o m r3) [.Constant (.str t) 0 r4] [] r5) env = (do
    let ov ← attributeBase o m env (eval o env); standAt r3.atName
    let (g, first) ← holding [ov] (getMethod ov m pl); callWith r5 g first (backTo r5 (starEach [.Constant (.str t) 0 r4] env)) []) := by
  have e1 : methodCallForm 1 (backTo r5 (starEach [.Constant (.str t) 0 r4] env)) (backToKw r5 (keywordEach [] env)) = true := rfl
  have e2 : methodCallPos true o env r3 r5 = pure r5 := by
    unfold methodCallPos
    rw [hl]
    rfl
  refine ⟨do return (← importBound o env).getD true, ?_⟩
  rw [arm_eval_Call]
  show (do let ov ← attributeBase o m env (eval o env); standAt r3.atName; methodCall o m r3 r5 env ov 1 (backTo r5 (starEach [.Constant (.str t) 0 r4] env)) (backToKw r5 (keywordEach [] env))) = _
  unfold methodCall
  rw [e1, e2]
  simp only [calleeOf, if_true, pure_bind]
  rfl
theorem put_new {x t1 : Addr} {v : Value} {tk : Tok} (T : Own P K mg n f C fI B newId initId bmB) (X : K.In s.heap) (hx : s.heap.get? x = some (excO C t1))
    (hq : ∀ h' tk' dx, (∀ b o, b ≠ x → s.heap.get? b = some o → h'.get? b = some o) → s.heap.objs.size ≤ dx → dx ≠ x → h'.get? x = some { cls := .ref C, dict := some dx, data := .fields #[.ref t1, .none, .none, .none, .bool false, .none] } →
      h'.Ns1 dx (fun y => if y = f then some v else none) → R (.ok (.ret .none)) { s with heap := h', toks := tk' }) :
    codeAny (model P w) A (.call (.builtin "object.__setattr__") ⟨[.ref x, .str f tk, v], []⟩) R s := by
  obtain ⟨cd, hc, hd⟩ := any_some T.hdC
  have hxs : x ≠ s.heap.objs.size := Nat.ne_of_lt (Heap.lt_size hx)
  refine osa_openX (od := none) (r := none) T.stor X ⟨hx, rfl, rfl, trivial⟩ T.ovr (by unfold takerIn; rw [T.noN]; rfl) fun b => ?_
  obtain ⟨hp, g, d, t, os⟩ := s
  refine wpAny_bind (wpAny_pure (wpAny_bind (instanceDict_exc hx (looks_clsIn X hc) hd ?_)))
  show wpAny _ _ (storeInDict hp.objs.size (.str f tk) f v) _ _ _
  refine store_in_new ?_ fun h' tk' hn' hs => ?_
  · exact ⟨_, #[], _, (Heap.get?_update_ne _ _ _ _ hxs.symm).trans (Heap.get?_push_at rfl rfl), rfl, fun e he => absurd he (by simp), fun _ => rfl⟩
  · have e1 : (hp.push (dictOf [] 0)).get? x = some (excO C t1) := Heap.get?_push_of_some _ hx
    exact hq h' tk' hp.objs.size (fun b o hb ho => (hs.2 b (Nat.ne_of_lt (Heap.lt_size ho))).trans ((Heap.get?_update_ne _ _ _ _ hb).trans (Heap.get?_push_of_some _ ho))) (Nat.le_refl _) hxs.symm ((hs.2 x hxs).trans (Heap.get?_update_self _ e1 rfl)) hn'
theorem kind_f (F : Fld f) : (inS f).names.lookup f = some .local := by
  show List.lookup f ((PySem.Str.ofString "self", NameKind.local) :: (f, NameKind.local) :: _) = _
  rw [List.lookup_cons, show (f == PySem.Str.ofString "self") = false from by simpa using F.self, List.lookup_cons, beq_self_eq_true]
theorem kind_c (F : Fld f) : (inS f).names.lookup ("__class__" : Str) = some .free := by
  show List.lookup ("__class__" : Str) ((PySem.Str.ofString "self", NameKind.local) :: (f, NameKind.local) :: (PySem.Str.ofString "__class__", NameKind.free) :: _) = _
  rw [List.lookup_cons, show (("__class__" : Str) == PySem.Str.ofString "self") = false from by decide, List.lookup_cons, show (("__class__" : Str) == f) = false from by simpa using Ne.symm F.cl, List.lookup_cons, show (("__class__" : Str) == PySem.Str.ofString "__class__") = true from by decide]
theorem kind_s (F : Fld f) : (inS f).names.lookup ("super" : Str) = some .globalImplicit := by
  show List.lookup ("super" : Str) ((PySem.Str.ofString "self", NameKind.local) :: (f, NameKind.local) :: (PySem.Str.ofString "__class__", NameKind.free) :: (PySem.Str.ofString "super", NameKind.globalImplicit) :: _) = _
  rw [List.lookup_cons, show (("super" : Str) == PySem.Str.ofString "self") = false from by decide, List.lookup_cons, show (("super" : Str) == f) = false from by simpa using Ne.symm F.su, List.lookup_cons, show (("super" : Str) == PySem.Str.ofString "__class__") = false from by decide, List.lookup_cons, show (("super" : Str) == PySem.Str.ofString "super") = true from by decide]
/-- the built-in's __init__, bound to x, called: its args are laid anew -/
theorem call_mw {u x t0 : Addr} {a : Value} {Q : Value → Shared → Prop} (T : Own P K mg n f C fI B newId initId bmB) (X : K.In s.heap) (hx : s.heap.get? x = some (excO C t0)) (hu : s.heap.get? u = some (kxs_mw initId x))
    (hq : ∀ h' t1, (∀ b o, b ≠ x → s.heap.get? b = some o → h'.get? b = some o) → h'.get? x = some (excO C t1) → Q .none { s with heap := h' }) : wpAny (model P w) A (call (.ref u) [a]) Q E s := by
  obtain ⟨nm, N', qn, bs, bm, hdct, sn, sub, ab, col, dd, k0, k1, k2, k3, k5, hC, hT⟩ := excInit_of X T.ini
  obtain ⟨hp, g, d, tk, os⟩ := s
  have z1 : (Value.type "method-wrapper" == Value.type "method" || Value.type "method-wrapper" == Value.type "builtin_function_or_method" || Value.type "method-wrapper" == Value.type "method-wrapper") = true := by decide
  refine wpAny_call (codeAny_of_tree (show wpAny _ A.in1 (callAny (.ref u) ⟨[a], []⟩) _ _ _ from ?_))
  simp only [callAny]
  refine wpAny_bind (wpAny_load hu (by simp only [kxs_mw, z1, if_true]; refine KFB.if_so (by decide) (wpAny_bind (check_bound_init T.base.toExcCallFacts hC hx rfl (wpAny_bind (wpAny_pure (wpAny_pure ?_))))); exact ⟨plainId_quiet T.base.init.plain _, codeAny_builtin T.base.initEntry (exc_init_tree (cls := .ref C) (t0 := t0) (dv := none) (c2 := .none) (c3 := .none) (b4 := .bool false) hx (by rw [sizeLine_eq]; exact (by decide : 1 ≤ 16777216)) fun h' k e _ => hq h' _ k e)⟩))
theorem x_init (T : Own P K mg n f C fI B newId initId bmB) {x t0 : Addr} {v : Value} (X : K.In s.heap) (hG : s.heap.Ns mainGlobals mg) (hB : ∃ mb, s.heap.Ns builtinsNs mb ∧ ∀ y : Str, y ≠ "__name__" → mb y = bootBuiltins y) (hlim : s.heap.NoLimit)
    (hx : s.heap.get? x = some (excO C t0)) (hnx : K.lookup x = none) (hroom : A.depth < recursionLimit) (hq : ∀ h' tk dx t1, Left s.heap h' x C dx t1 f v → R (.ok (.ret .none)) { s with heap := h', toks := tk }) :
    codeAny (model P w) A (.call (.ref fI) ⟨[.ref x, v], []⟩) R s := by
  obtain ⟨oc, od, q, doc, pm, an, cda, cc, ct, osl, t, p1, p2, r1, r2, r3, r4, r5, r6, q1, q2, q3, q4, ccl, cdd, vs, ccs, file, tf, cl, cld, csl, ho, hcd, hcode, hvs, hfile, hln, hcell⟩ := T.fn
  obtain ⟨hp, g, d, tk0, os⟩ := s
  refine ks_codeAny_call_defAt (fd := ksFn "__init__" q (inA f p1 p2) (inB f t r1 r2 r3 r4 r5 r6 q1 q2 q3 q4) (inS f) .none .none doc pm an (.ref cda) ct cc) (body := inB f t r1 r2 r3 r4 r5 r6 q1 q2 q3 q4) (binds := [("self", .ref x), (f, v)]) hroom (X _ _ ho) rfl hlim (codeRec_of X hcd) rfl
    (BindsTo.of_eq ?b) ?c ?l (fun h₁ hns k₁ => ?_) rfl rfl rfl
  case b => exact T.fld.bnd _ _ _ _ _ _ _ _ _ _ _ _
  case c =>
    intro y hy e
    rcases List.mem_cons.mp hy with rfl | hy
    · cases e
    rcases List.mem_cons.mp hy with rfl | hy
    · cases e
    rcases List.mem_cons.mp hy with rfl | hy
    · cases e
    rcases List.mem_cons.mp hy with rfl | hy
    · cases e
    cases hy
  case l =>
    intro y hy
    rcases List.mem_cons.mp hy with rfl | hy
    · rfl
    rcases List.mem_cons.mp hy with rfl | hy
    · exact kind_f T.fld
    cases hy
  have X1 : K.In h₁ := X.keeps k₁
  have hx1 := k₁ _ _ hx
  obtain ⟨mb, hb1, hb2⟩ := hB
  obtain ⟨cd, hc, hd⟩ := any_some T.hdC
  have lself : (fun y => List.lookup y ([("self", .ref x), (f, v)] : List (Str × Value)).reverse) "self" = some (.ref x) := by
    show List.lookup ("self" : Str) [(f, v), ("self", .ref x)] = _
    rw [List.lookup_cons, show (("self" : Str) == f) = false from by simpa using Ne.symm T.fld.self, List.lookup_cons, beq_self_eq_true]
  have lf : (fun y => List.lookup y ([("self", .ref x), (f, v)] : List (Str × Value)).reverse) f = some v := by
    show List.lookup f [(f, v), ("self", .ref x)] = _
    rw [List.lookup_cons, beq_self_eq_true]
  obtain ⟨oD, hD1, hD2⟩ : ∃ oD, h₁.get? C = some oD ∧ oD.data = .cls cd := by
    unfold clsIn at hc
    split at hc
    · rename_i c d cd' sl ho
      cases hc
      exact ⟨_, X1 _ _ ho, rfl⟩
    · cases hc
  show _root_.PySem.wpAt _ _ (.func _ (ksEnv q (inS f) hp.objs.size fI (.ref cda) cc)) (execs _ (ksEnv q (inS f) hp.objs.size fI (.ref cda) cc)) _ _ _
  obtain ⟨pl, ev⟩ := ev_init (env := ksEnv q (inS f) hp.objs.size fI (.ref cda) cc) (o := .Call (.Name "super" r1) [] [] r2) (m := "__init__") (t := t) (r4 := r4) hln
  refine ks_wpAt_execs_cons (ks_wpAt_Expr_any (ks_wpAt_MethodCall (pl := pl) ?_ ev) rfl (T.fld.sw _ _ _ _ _ _ _ _ _ _ _ _))
  refine ks_wpAt_super_base (env := ksEnv q (inS f) hp.objs.size fI (.ref cda) cc) (kind_s T.fld) (kind_c T.fld) (by decide) rfl (X1 _ _ ho) rfl rfl rfl (X1 _ _ hcode) rfl hvs hfile T.ntop ?_
  refine ks_loadName_global rfl (kind_s T.fld) (loadGlobal_builtin (env := ksEnv q (inS f) hp.objs.size fI (.ref cda) cc) (hG.keeps k₁) T.nos (hb1.keeps k₁) ((hb2 _ (by decide)).trans (show bootBuiltins "super" = some (.type "super") from by first | rfl | decide +kernel)) ⟨rfl, ?_⟩)
  refine wpAny_loadName_free rfl (kind_c T.fld) rfl ⟨_, X1 _ _ hcell, rfl⟩ (wpAny_loadName_local rfl rfl hns lself (ks_wpAny_isType_cls hD1 hD2 ⟨rfl, ?_⟩))
  refine ks_wpAny_call_super hD1 hD2 hx1 rfl (fun c e => by cases e) (looks_mroIn X1 T.own) (fun h2 e2 k2 => ?_)
  have X2 : K.In h2 := X1.keeps k2
  have hx2 := k2 _ _ hx1
  have Ix : InstAt h2 x (excO C t0) C none := ⟨hx2, rfl, rfl, trivial⟩
  have hm := T.sup
  unfold ks_superIn at hm
  rw [hc] at hm
  refine kxs_getMethod T.kx e2 (looks_opaque X2 T.opq) (l₀ := cd.mro) (fun A Q E s k q => wpAny_bind ((looks_clsIn X2 hc) A _ E s k (wpAny_pure q))) rfl X2 hm (Ix.type.andThen (looks_subIn X2 T.isB)) (ks_ne X2 Ix hc) (by decide) ?_
  have k3 : ∀ b o, h2.get? b = some o → (h2.push (kxs_mw initId x)).get? b = some o := fun b o e => Heap.get?_push_of_some _ e
  refine kxs_callWith (i := initId) (x := x) rfl (evalArgs_plain (spliced_more (wpAny_Constant_str (spliced_none ⟨Heap.get?_push_at rfl rfl, ?_⟩))))
  refine call_mw T (X2.keeps k3) (k3 _ _ hx2) (Heap.get?_push_at rfl rfl) fun h4 t1 k4 hx4 => ?_
  have kk : ∀ b o, h₁.get? b = some o → (h2.push (kxs_mw initId x)).get? b = some o := fun b o e => k3 _ _ (k2 _ _ e)
  have hxL : hp.objs.size ≠ x := Nat.ne_of_gt (Heap.lt_size hx)
  have n4 : h4.Ns hp.objs.size (fun y => List.lookup y ([("self", .ref x), (f, v)] : List (Str × Value)).reverse) := by
    obtain ⟨oL, es, ep, hL, r⟩ := hns.keeps kk
    exact ⟨oL, es, ep, k4 _ _ hxL hL, r⟩
  have X4 : K.In h4 := fun b o e => k4 b o (fun z => by rw [z, hnx] at e; cases e) (X2.keeps k3 b o e)
  have lt : hp.objs.size < h4.objs.size := n4.lt
  show _root_.PySem.wpAt _ _ _ (execs _ (ksEnv q (inS f) hp.objs.size fI (.ref cda) cc)) _ _ _
  refine ks_wpAt_execs_cons (ks_wpAt_Assign_Attr (wpAt_of_wpAny ?_) (T.fld.sx _ _ _ _ _ _ _ _ _))
  refine wpAny_Name (wpAny_loadName_local rfl (kind_f T.fld) n4 lf (wpAny_Name (wpAny_loadName_local rfl rfl n4 lself ?_) (by decide))) T.fld.db
  refine set_plain X4 (ox := excO C t1) (od := none) ⟨hx4, rfl, rfl, trivial⟩ T.sa (put_new T X4 hx4 fun h5 tk5 dx k5 dn dne hx5 hn5 => ?_)
  show _root_.PySem.wpAt _ _ _ (execs [] _) _ _ _
  refine wpAt_of_wpAny (wpAny_execs_nil (hq h5 tk5 dx t1 ⟨fun b o hb e => k5 b o hb (k4 b o hb (kk _ _ (k₁ _ _ e))), hx5, Nat.le_trans (Nat.le_of_lt lt) dn, dne, hn5⟩))
/-- n(v), made: its own dict at d holds the field -/
structure Made (h h' : Heap) (e C d : Addr) (f : Str) (v : Value) : Prop where
  keep : ∀ b o, h.get? b = some o → h'.get? b = some o
  new : h.objs.size ≤ e
  obj : ∃ oe us, h'.get? e = some oe ∧ oe.cls = .ref C ∧ oe.dict = some d ∧ oe.data = .fields us ∧ us[1]? = some .none
  dbig : h.objs.size ≤ d
  dne : d ≠ e
  ns : h'.Ns1 d (fun y => if y = f then some v else none)
theorem x_made (T : Own P K mg n f C fI B newId initId bmB) {v : Value} (X : K.In s.heap) (hG : s.heap.Ns mainGlobals mg) (hB : ∃ mb, s.heap.Ns builtinsNs mb ∧ ∀ y : Str, y ≠ "__name__" → mb y = bootBuiltins y) (hlim : s.heap.NoLimit) (hroom : A.depth + 1 < recursionLimit)
    (hq : ∀ h' tk e d, Made s.heap h' e C d f v → R (.ok (.ret (.ref e))) { s with heap := h', toks := tk }) : codeAny (model P w) A (.call (.ref C) ⟨[v], []⟩) R s := by
  obtain ⟨nm, N', qn, bs, bm, hdct, sn, sub, ab, col, dd, k0, k1, k2, k3, k5, hC, hT⟩ := excInit_of X T.ini
  obtain ⟨oI, hoI, hcI⟩ : ∃ oI, s.heap.get? fI = some oI ∧ oI.cls = .type "function" := by
    obtain ⟨o, ho, hc⟩ := Option.map_eq_some_iff.mp (show (K.lookup fI).map (fun z => z.cls) = some (.type "function") from beq_iff_eq.mp T.fC)
    exact ⟨o, X _ _ ho, hc⟩
  obtain ⟨hp, g, dr, tk, os⟩ := s
  have k : ∀ b o, hp.get? b = some o → ((hp.push (kdv_tup [v])).push (excO C hp.objs.size)).get? b = some o := fun b o e => Heap.get?_push_of_some _ (Heap.get?_push_of_some _ e)
  have hnx : K.lookup (hp.objs.size + 1) = none := by
    cases e : K.lookup (hp.objs.size + 1) with
    | none => rfl
    | some o => exact absurd (Nat.lt_of_succ_lt (Heap.lt_size (show hp.get? (hp.objs.size + 1) = some o from X _ _ e))) (Nat.lt_irrefl _)
  refine call_own T.base hT hC (looks_findIn X T.iC) (fun self => exc_bind hoI hcI self) (by rw [sizeLine_eq]; exact (by decide : 1 ≤ 16777216)) ?_
  obtain ⟨mb, hb1, hb2⟩ := hB
  refine x_init (s := ⟨(hp.push (kdv_tup [v])).push (excO C hp.objs.size), g, dr, tk, os⟩) T (X.keeps k) (hG.keeps k) ⟨mb, hb1.keeps k, hb2⟩ (hlim.keeps k) (by heap_get) hnx (show A.depth + 1 < recursionLimit from hroom) fun h' tk' dx t1 L => ?_
  have z : hp.objs.size + 1 + 1 ≤ dx := by
    have q := L.dbig
    first
      | (simpa only [Heap.size_push] using q)
      | exact q
      | (rw [Heap.size_push, Heap.size_push] at q; exact q)
  refine ⟨rfl, hq h' tk' (hp.objs.size + 1) dx ⟨fun b o e => L.keep b o (Nat.ne_of_lt (Nat.lt_succ_of_lt (Heap.lt_size e))) (k b o e), Nat.le_succ _, ⟨_, _, L.obj, rfl, rfl, rfl, rfl⟩, Nat.le_trans (Nat.le_trans (Nat.le_succ _) (Nat.le_succ _)) z, L.dne, L.ns⟩⟩
end
end XC
open PySem PySem.Spec PyProof.Rows L2
theorem relO_fld {f : Str} {v : V} {u : Value} (r : RelV v u) (y : Str) : RelO (List.lookup y [(f, v)]) (if y = f then some u else none) := by
  by_cases e : y = f
  · subst e
    rw [if_pos rfl, List.lookup_cons, beq_self_eq_true]
    exact r
  · rw [if_neg e, List.lookup_cons, show (y == f) = false from by simpa using e]
    trivial
section
variable {X : Cx} {n f : Str} {C fI : Addr} {B newId initId : String} {bmB : List Value}
/-- n(e): a new exception, its dict at d -/
def tMkX (C : Addr) (f : Str) (ta : TA) : L2.St → Hp → XK → Prop := fun σ H Q => ta σ H fun vs H1 => ∃ v, vs = [v] ∧ ∀ d, H1 d = none → Q (.ref C) (some d) (upd H1 d (.xd [(f, v)]))
theorem pmk_x {a : Expr} {ta : TA} {p pos : Pos} {k : Nat} (T : XC.Own X.prog X.K X.mg n f C fI B newId initId bmB) (hr : Room k X.A) (ha : PA X [a] ta) (hg : Gl X n := by rfl)
    (he : starEach (a :: []) X.env = (false, eval a X.env) :: starEach [] X.env := by rfl) (hpl : (backTo pos (starEach [] X.env)).any (·.1) = false := by rfl) (hdb : (n == ("__debug__" : Str)) = false := by decide) : PMk X (.Call (.Name n p) [a] [] pos) (tMkX C f ta) := by
  intro pins s σ H Q I h
  refine wpAny_Call_Name_kw (ld_glob I hg T.gC (PySem.W.callWith_K (h₀ := X.base) I.ok.mod.kin T.kC (thn (ha.run pos pins s σ H _ I h) fun us s1 ⟨vs, H1, I1, r1, v, ev, q1⟩ => ?_) he hpl) hdb)
  subst ev
  refine ⟨I1.kIn, ?_⟩
  obtain ⟨u1, rfl, rv⟩ := vals1 r1
  show wpAny _ _ (call (.ref C) [u1]) _ _ _
  have hlim := I1.nolimit
  obtain ⟨mb, hb1, hb2⟩ := I1.mod.blt
  have hG := I1.mod.glob.keeps I1.bk
  have hb := hb1.keeps I1.bk
  obtain ⟨hp, g, dr, tk, os⟩ := s1
  refine wpAny_call (XC.x_made T I1.kIn hG ⟨mb, hb, hb2⟩ hlim (by have := hr.dp; omega) fun h' tk' e d M => ?_)
  show MkP X pins σ Q (.ref e) ⟨h', g, dr, tk', os⟩
  obtain ⟨oe, fv, hoe, hc, hd, hdat, h1⟩ := M.obj
  obtain ⟨G', g1, g2⟩ := restrict h' fun b => decide (b ≠ e)
  have gk : ∀ b, b ≠ e → G'.get? b = h'.get? b := fun b hb => g1 b (decide_eq_true hb)
  have ge : G'.get? e = none := g2 e (by simp)
  have ob : ObjOk X.prog X.w (upd H1 d (.xd [(f, v)])) G' d (.xd [(f, v)]) := ⟨_, M.ns.at (fun o q => (gk d M.dne).trans q), fun y => relO_fld rv y⟩
  have J : Inv X pins σ (upd H1 d (.xd [(f, v)])) ⟨G', g, dr, tk', os⟩ := I1.laid (t' := tk') (fun b o q => (gk b (Nat.ne_of_lt (Nat.lt_of_lt_of_le (Heap.lt_size q) M.new))).trans (M.keep b o q)) M.dbig ob
  refine ⟨e, oe, fv, ⟨G', g, dr, tk', os⟩, _, .ref C, some d, rfl, J, fun b o q => ?_, ge, hoe, ⟨hc, hd⟩, hdat, h1, by rw [upd_ne (Ne.symm M.dne)]; exact I1.hok.fresh M.new, rfl, I1.bare, raises_own T.exC T.tyC, q1 d (I1.hok.fresh M.dbig)⟩
  by_cases hb : b = e
  · rw [hb] at q
    cases ge.symm.trans (show G'.get? e = some o from q)
  · exact (gk b hb).symm.trans q
/-- raise n(e) -/
def tRaiseX (C : Addr) (f : Str) (W : WX) (ta : TA) : TS := fun _ σ H => tMkX C f ta σ H fun cls d H' => W cls d σ H'
theorem ps_raiseX {a : Expr} {ta : TA} {W : WX} {p pos pos2 : Pos} {k : Nat} (hc : X.calm = true) (T : XC.Own X.prog X.K X.mg n f C fI B newId initId bmB) (hr : Room k X.A) (tk : Takes X W) (ha : PA X [a] ta) (hg : Gl X n := by rfl)
    (he : starEach (a :: []) X.env = (false, eval a X.env) :: starEach [] X.env := by rfl) (hpl : (backTo pos (starEach [] X.env)).any (·.1) = false := by rfl) (hdb : (n == ("__debug__" : Str)) = false := by decide) :
    PS X (.Raise (some (.Call (.Name n p) [a] [] pos)) none pos2) (tRaiseX C f W ta) := ps_raise hc tk (pmk_x T hr ha hg he hpl hdb)
end
end Su
/-! ### XD: defs that may let an exception out -/
namespace Su
open PySem PySem.Spec PyProof.Rows L2
structure CalX (P : Program) (w : World) (K : PySem.W.Frag) (mg : Str → Option Value) (base : Heap) (k : Nat) (x : Str) (ps : List Str) (sp : Sp) : Prop where
  ex : ∃ (f : Addr) (fd : FuncData), FnOk P w K mg base (L2.CX P w) k f fd ps sp ∧ mg x = some (.ref f) ∧ PySem.W.keepIn K (.ref f) = true ∧ Binds K fd ps [] ∧ ∃ o : Obj, K.lookup f = some o ∧ o.data = .func fd
section
variable {P : Program} {w : World} {K : PySem.W.Frag} {mg : Str → Option Value} {base : Heap}
theorem cal_ofX {x : Str} {st : Stmt} {N ps : List Str} {k : Nat} {sp : Sp} (T : At K mg x st ps) (S : FnScope N ps (defScope st)) (len : ∀ vs H Q E, sp vs H Q E → vs.length = ps.length)
    (hb : ∀ (f : Addr) (cdv : Value) (A : Around) (outer : List Env) (s : Shared) (H : Hp) (vs : List V) (Q : VK) (E : XK), Room k (A.deeper (envOfC x (defScope st) s.heap.objs.size f cdv)) → sp vs H Q E →
      ∃ t, PSs (cxOf (L2.CX P w) P w K mg base N x (defScope st) f cdv A outer s H E) (defBody st) t ∧ t { nx := fun _ H' => Q .non H', rt := Q } (start N vs) H) : CalX P w K mg base (k + 1) x ps sp := by
  obtain ⟨f, fd, F, hm, b⟩ := T.ex
  have z : ∃ o : Obj, K.lookup f = some o ∧ o.data = .func fd := by
    obtain ⟨oc, od, kV, doc, pm, an, cdv, ct, osl, _, lk, _⟩ := F.ex
    exact ⟨_, lk, rfl⟩
  exact ⟨f, fd, F.okX S len (fun cdv A outer s H vs Q E => hb f cdv A outer s H vs Q E), hm, F.kp, b, z⟩
end
section
variable {X : Cx} {x : Str} {ps : List Str} {sp : Sp} {k j : Nat} {e : Expr} {es : List Expr} {t : TA} {p pos : Pos} {W : WX}
theorem pe_ownX (tk : Takes X W) (C : CalX X.prog X.w X.K X.mg X.base k x ps sp) (hr : Room j X.A) (hk : k ≤ j) (hg : Gl X x) (ha : PA X (e :: es) t)
    (hdb : (x == ("__debug__" : Str)) = false := by decide) (he : starEach (e :: es) X.env = (false, eval e X.env) :: starEach es X.env := by rfl) (hpl : (backTo pos (starEach es X.env)).any (·.1) = false := by rfl) :
    PE X (.Call (.Name x p) (e :: es) [] pos) (tCallS sp (WE W) t) := by
  obtain ⟨f, fd, F, hm, kp, b, _⟩ := C.ex
  exact pe_callS F (hr.mono hk) hg hm kp b (fun σ => passAt tk σ) ha hdb he hpl
end
end Su
/-! ### XE: raise X('..'), X an own exception class without own __init__ -/
namespace Su
open PySem PySem.Spec PyProof.Rows L2
/-- what the written part says of the class n at C, over the built-in B -/
structure Own0 (K : PySem.W.Frag) (mg : Str → Option Value) (n : Str) (C : Addr) (B newId initId : String) (bmB : List Value) : Prop where
  base : ExcBaseFacts B newId initId bmB
  ini : PySem.W.excIn K C bmB newId = true
  gC : mg n = some (.ref C)
  kC : PySem.W.keepIn K (.ref C) = true
  exC : PySem.W.subIn K (.ref C) (.type "BaseException") = some true
  tyC : PySem.W.typeIn K (.ref C) = some (.type "type")
def tRaiseT (C : Addr) (W : WX) : TS := fun _ σ H => W (.ref C) none σ H
theorem ps_raiseT {X : Cx} {n m : Str} {C : Addr} {B newId initId : String} {bmB : List Value} {W : WX} {j : Nat} {p p2 pos pos2 : Pos} (hc : X.calm = true) (T : Own0 X.K X.mg n C B newId initId bmB) (tk : Takes X W) (hg : Gl X n := by rfl)
    (hdb : (n == ("__debug__" : Str)) = false := by decide) : PS X (.Raise (some (.Call (.Name n p) [.Constant (.str m) j p2] [] pos)) none pos2) (tRaiseT C W) :=
  ps_raise hc tk (pmk_own T.base T.ini T.gC T.kC (raises_own T.exC T.tyC) hg hdb)
end Su
/-! ### GA: things of any kind -/
namespace Su
open PySem PySem.Spec PyProof.Rows L2
inductive G where
  | non
  | bl (b : Bool)
  | int (i : Int)
  | str (s : Str)
  | lst (l : List G)
  | tup (l : List G)
  | dct
mutual
/-- the value is such a thing; its lists stand apart from p -/
inductive Tg (p : Addr) (H : Hp) : V → G → Prop
  | non : Tg p H .non .non
  | bl (b : Bool) : Tg p H (.bl b) (.bl b)
  | int (i : Int) : Tg p H (.int i) (.int i)
  | str (s : Str) : Tg p H (.str s) (.str s)
  | lst {a : Addr} {vs : List V} {ds : List G} (n : a ≠ p) (e : H a = some (.lst vs)) (t : TgL p H vs ds) : Tg p H (.ref a) (.lst ds)
  | tup {a : Addr} {vs : List V} {ds : List G} (e : T2 H a vs) (t : TgL p H vs ds) : Tg p H (.ref a) (.tup ds)
  | dct {a : Addr} (e : H a = some (.dK [])) : Tg p H (.ref a) .dct
inductive TgL (p : Addr) (H : Hp) : List V → List G → Prop
  | nil : TgL p H [] []
  | cons {v : V} {vs : List V} {d : G} {ds : List G} (h : Tg p H v d) (t : TgL p H vs ds) : TgL p H (v :: vs) (d :: ds)
end
/-- what keeps such things -/
structure Keeps (p : Addr) (H H' : Hp) : Prop where
  ls : ∀ a vs, a ≠ p → H a = some (.lst vs) → H' a = some (.lst vs)
  tw : ∀ a vs, T2 H a vs → T2 H' a vs
  dk : ∀ a kvs, H a = some (.dK kvs) → H' a = some (.dK kvs)
theorem Keeps.of {p : Addr} {H H' : Hp} (k : Kept p H H') (hp : PoolAt H p) : Keeps p H H' := by
  refine ⟨fun a vs n z => k _ _ z n, fun a vs h => K2.of k hp _ _ h, fun a kvs z => ?_⟩
  obtain ⟨o, e, g, m, rfl, _⟩ := hp
  exact k _ _ z (ne_of z e (by intro y; cases y))
theorem Keeps.same {p : Addr} {H H' : Hp} (s : Same H H') : Keeps p H H' := ⟨fun a vs n z => s _ _ z, fun a vs h => h.same s, fun a kvs z => s _ _ z⟩
mutual
theorem Tg.keep {p : Addr} {H H' : Hp} (k : Keeps p H H') : ∀ {v : V} {g : G}, Tg p H v g → Tg p H' v g
  | _, _, .non => .non
  | _, _, .bl b => .bl b
  | _, _, .int i => .int i
  | _, _, .str s => .str s
  | _, _, .lst n e t => .lst n (k.ls _ _ n e) (TgL.keep k t)
  | _, _, .tup e t => .tup (k.tw _ _ e) (TgL.keep k t)
  | _, _, .dct e => .dct (k.dk _ _ e)
theorem TgL.keep {p : Addr} {H H' : Hp} (k : Keeps p H H') : ∀ {vs : List V} {gs : List G}, TgL p H vs gs → TgL p H' vs gs
  | _, _, .nil => .nil
  | _, _, .cons h t => .cons (Tg.keep k h) (TgL.keep k t)
end
theorem TgL.len {p : Addr} {H : Hp} : ∀ {vs : List V} {gs : List G}, TgL p H vs gs → vs.length = gs.length
  | _, _, .nil => rfl
  | _, _, .cons _ t => by
    rw [List.length_cons, List.length_cons, TgL.len t]
theorem TgL.get {p : Addr} {H : Hp} : ∀ {vs : List V} {gs : List G}, TgL p H vs gs → ∀ {i : Nat} {v : V}, vs[i]? = some v → ∃ g, gs[i]? = some g ∧ Tg p H v g
  | _, _, .nil, i, v, e => by simp at e
  | _, _, .cons h t, 0, v, e => by
    obtain rfl := (by simpa using e : _ = v)
    exact ⟨_, rfl, h⟩
  | _, _, .cons h t, i + 1, v, e => TgL.get t (i := i) (by simpa using e)
theorem TgL.ints {p : Addr} {H : Hp} : ∀ ns : List Int, TgL p H (ns.map V.int) (ns.map G.int)
  | [] => .nil
  | n :: ns => .cons (.int n) (TgL.ints ns)
theorem TgL.app {p : Addr} {H : Hp} : ∀ {vs ws : List V} {gs hs : List G}, TgL p H vs gs → TgL p H ws hs → TgL p H (vs ++ ws) (gs ++ hs)
  | _, _, _, _, .nil, h => h
  | _, _, _, _, .cons x t, h => .cons x (TgL.app t h)
/-! kinds -/
def tyG : G → String
  | .non => "NoneType"
  | .bl _ => "bool"
  | .int _ => "int"
  | .str _ => "str"
  | .lst _ => "list"
  | .tup _ => "tuple"
  | .dct => "dict"
theorem Tg.ty {K : PySem.W.Frag} {p : Addr} {H : Hp} {v : V} {g : G} (h : Tg p H v g) : TyX K H v (.type (tyG g)) := by
  cases h with
  | non => exact .base .non
  | bl b => exact .base (.bl b)
  | int i => exact .base (.int i)
  | str s => exact .base (.str s)
  | lst n e t => exact .base (.lst e)
  | tup e t => exact e.ty
  | dct e => exact .base (.dK e)
def isInt : G → Bool
  | .non => false
  | .bl _ => true
  | .int _ => true
  | .str _ => false
  | .lst _ => false
  | .tup _ => false
  | .dct => false
theorem kit_int {K : PySem.W.Frag} (g : G) : PySem.W.kitOne K (.type (tyG g)) (.type "int") = some (isInt g) := by
  refine kit_ty ?_
  cases g
  · exact (by decide +kernel : kitB "NoneType" "int" = some false)
  · exact (by decide +kernel : kitB "bool" "int" = some true)
  · exact (by decide +kernel : kitB "int" "int" = some true)
  · exact (by decide +kernel : kitB "str" "int" = some false)
  · exact (by decide +kernel : kitB "list" "int" = some false)
  · exact (by decide +kernel : kitB "tuple" "int" = some false)
  · exact (by decide +kernel : kitB "dict" "int" = some false)
def isBool : G → Bool
  | .non => false
  | .bl _ => true
  | .int _ => false
  | .str _ => false
  | .lst _ => false
  | .tup _ => false
  | .dct => false
theorem kit_bool {K : PySem.W.Frag} (g : G) : PySem.W.kitOne K (.type (tyG g)) (.type "bool") = some (isBool g) := by
  refine kit_ty ?_
  cases g
  · exact (by decide +kernel : kitB "NoneType" "bool" = some false)
  · exact (by decide +kernel : kitB "bool" "bool" = some true)
  · exact (by decide +kernel : kitB "int" "bool" = some false)
  · exact (by decide +kernel : kitB "str" "bool" = some false)
  · exact (by decide +kernel : kitB "list" "bool" = some false)
  · exact (by decide +kernel : kitB "tuple" "bool" = some false)
  · exact (by decide +kernel : kitB "dict" "bool" = some false)
def isStr : G → Bool
  | .non => false
  | .bl _ => false
  | .int _ => false
  | .str _ => true
  | .lst _ => false
  | .tup _ => false
  | .dct => false
theorem kit_str {K : PySem.W.Frag} (g : G) : PySem.W.kitOne K (.type (tyG g)) (.type "str") = some (isStr g) := by
  refine kit_ty ?_
  cases g
  · exact (by decide +kernel : kitB "NoneType" "str" = some false)
  · exact (by decide +kernel : kitB "bool" "str" = some false)
  · exact (by decide +kernel : kitB "int" "str" = some false)
  · exact (by decide +kernel : kitB "str" "str" = some true)
  · exact (by decide +kernel : kitB "list" "str" = some false)
  · exact (by decide +kernel : kitB "tuple" "str" = some false)
  · exact (by decide +kernel : kitB "dict" "str" = some false)
def isTuple : G → Bool
  | .non => false
  | .bl _ => false
  | .int _ => false
  | .str _ => false
  | .lst _ => false
  | .tup _ => true
  | .dct => false
theorem kit_tuple {K : PySem.W.Frag} (g : G) : PySem.W.kitOne K (.type (tyG g)) (.type "tuple") = some (isTuple g) := by
  refine kit_ty ?_
  cases g
  · exact (by decide +kernel : kitB "NoneType" "tuple" = some false)
  · exact (by decide +kernel : kitB "bool" "tuple" = some false)
  · exact (by decide +kernel : kitB "int" "tuple" = some false)
  · exact (by decide +kernel : kitB "str" "tuple" = some false)
  · exact (by decide +kernel : kitB "list" "tuple" = some false)
  · exact (by decide +kernel : kitB "tuple" "tuple" = some true)
  · exact (by decide +kernel : kitB "dict" "tuple" = some false)
def isList : G → Bool
  | .non => false
  | .bl _ => false
  | .int _ => false
  | .str _ => false
  | .lst _ => true
  | .tup _ => false
  | .dct => false
theorem kit_list {K : PySem.W.Frag} (g : G) : PySem.W.kitOne K (.type (tyG g)) (.type "list") = some (isList g) := by
  refine kit_ty ?_
  cases g
  · exact (by decide +kernel : kitB "NoneType" "list" = some false)
  · exact (by decide +kernel : kitB "bool" "list" = some false)
  · exact (by decide +kernel : kitB "int" "list" = some false)
  · exact (by decide +kernel : kitB "str" "list" = some false)
  · exact (by decide +kernel : kitB "list" "list" = some true)
  · exact (by decide +kernel : kitB "tuple" "list" = some false)
  · exact (by decide +kernel : kitB "dict" "list" = some false)
end Su
/-! ### GB: such things as data -/
namespace Su
open PySem PySem.Spec PyProof.Rows L2
mutual
def toD : G → PyData
  | .non => .none
  | .bl b => .bool b
  | .int i => .int i
  | .str s => .str s
  | .lst l => .list (toDs l)
  | .tup l => .tuple (toDs l)
  | .dct => .dict []
def toDs : List G → List PyData
  | [] => []
  | g :: gs => toD g :: toDs gs
end
mutual
def okD : G → Bool
  | .dct => false
  | .lst l => okDs l
  | .tup l => okDs l
  | _ => true
def okDs : List G → Bool
  | [] => true
  | g :: gs => okD g && okDs gs
end
mutual
theorem Tg.dp {K : PySem.W.Frag} {p : Addr} {H : Hp} : ∀ {v : V} {g : G}, Tg p H v g → okD g = true → Dp K H v (toD g)
  | _, _, .non, _ => .non
  | _, _, .bl b, _ => .bl b
  | _, _, .int i, _ => .int i
  | _, _, .str s, _ => .str s
  | _, _, .lst n e t, h => .lst (SqL.of e) (TgL.dp t (by simpa only [okD] using h))
  | _, _, .tup e t, h => .tup e.sq (TgL.dp t (by simpa only [okD] using h))
  | _, _, .dct _, h => by simp [okD] at h
theorem TgL.dp {K : PySem.W.Frag} {p : Addr} {H : Hp} : ∀ {vs : List V} {gs : List G}, TgL p H vs gs → okDs gs = true → DpAll K H vs (toDs gs)
  | _, _, .nil, _ => .nil
  | _, _, .cons x t, h => by
    simp only [okDs, Bool.and_eq_true] at h
    exact .cons (Tg.dp x h.1) (TgL.dp t h.2)
end
theorem toDs_map : ∀ gs : List G, toDs gs = gs.map toD
  | [] => rfl
  | g :: gs => by
    show toD g :: toDs gs = toD g :: gs.map toD
    rw [toDs_map gs]
theorem okDs_all : ∀ gs : List G, okDs gs = gs.all okD
  | [] => rfl
  | g :: gs => by
    show (okD g && okDs gs) = (okD g && gs.all okD)
    rw [okDs_all gs]
theorem eqv_nilD (ds : List PyData) : PyData.eqv (.list ds) (.list []) = ds.isEmpty := by
  cases ds with
  | nil => rfl
  | cons x l => rfl
/-- a thing that may stand in a tuple -/
structure OkE (g : G) : Prop where
  ok : okD g = true
  cl : (toD g).canLay0 = true
  dp : (toD g).depth ≤ 4
theorem lay_all : ∀ {gs : List G}, (∀ g ∈ gs, OkE g) → PyData.canLayAll0 (toDs gs) = true ∧ PyData.depthAll (toDs gs) ≤ 4
  | [], _ => ⟨by simp [toDs, PyData.canLayAll0], by simp [toDs, PyData.depthAll]⟩
  | g :: gs, h => by
    obtain ⟨a, b⟩ := lay_all fun x hx => h x (List.mem_cons_of_mem _ hx)
    have c := h g List.mem_cons_self
    refine ⟨?_, ?_⟩
    · simp only [toDs, PyData.canLayAll0, c.cl, a, Bool.and_self]
    · simp only [toDs, PyData.depthAll]
      have := c.dp
      omega
/-- a list of such things beside [] -/
theorem OkE.list {gs : List G} (h : ∀ g ∈ gs, OkE g) : okDs gs = true ∧ SeqAt.shaped (.list (toDs gs)) = true := by
  obtain ⟨a, b⟩ := lay_all h
  refine ⟨?_, ?_⟩
  · rw [okDs_all, List.all_eq_true]
    exact fun g hg => (h g hg).ok
  · unfold SeqAt.shaped
    rw [Bool.and_eq_true, decide_eq_true_eq]
    refine ⟨by simp only [PyData.canLay0, a], ?_⟩
    simp only [PyData.depth]
    omega
theorem shaped_nil : SeqAt.shaped (.list []) = true := by
  have f2 : Fine (.list []) 1 0 := Fine.list FineL.nil
  exact f2.shaped (by decide)
end Su
/-! ### GC: repr of such things -/
namespace Su
open PySem PySem.Spec PyProof.Rows L2
structure Fz (g : G) (n m : Nat) : Prop where
  sh : (toD g).showable = true
  dp : (toD g).depth ≤ n
  lv : (toD g).leavesShort 30 = true
  wt : (toD g).weight ≤ m
structure FzL (gs : List G) (n m : Nat) : Prop where
  sh : PyData.showableAll (toDs gs) = true
  dp : PyData.depthAll (toDs gs) ≤ n
  lv : PyData.leavesShortAll 30 (toDs gs) = true
  wt : PyData.weightAll (toDs gs) ≤ m
theorem Fz.up {g : G} {n m n' m' : Nat} (h : Fz g n m) (a : n ≤ n') (b : m ≤ m') : Fz g n' m' := ⟨h.sh, Nat.le_trans h.dp a, h.lv, Nat.le_trans h.wt b⟩
theorem FzL.up {g : List G} {n m n' m' : Nat} (h : FzL g n m) (a : n ≤ n') (b : m ≤ m') : FzL g n' m' := ⟨h.sh, Nat.le_trans h.dp a, h.lv, Nat.le_trans h.wt b⟩
theorem Fz.int {i : Int} (h1 : -1000000 ≤ i) (h2 : i ≤ 1000000) : Fz (.int i) 0 40 := by
  have hb : i.natAbs < 10 ^ 12 := by omega
  have hl : i.natAbs.log2 < 39 := by
    by_cases z : i.natAbs = 0
    · rw [z]
      decide
    · exact (Nat.log2_lt z).mpr (by omega)
  refine ⟨?_, by simp [toD, PyData.depth], ?_, ?_⟩
  · simp only [toD, PyData.showable, decide_eq_true_eq]
    omega
  · simp only [toD, PyData.leavesShort, decide_eq_true_eq]
    exact Nat.le_trans (PyData.shown_int_le hb) (by decide)
  · simp only [toD, PyData.weight]
    split <;> omega
theorem Fz.none : Fz .non 0 0 := ⟨by simp [toD, PyData.showable], by simp [toD, PyData.depth], by simp [toD, PyData.leavesShort], by simp [toD, PyData.weight]⟩
theorem Fz.bool (b : Bool) : Fz (.bl b) 0 0 := ⟨by simp [toD, PyData.showable], by simp [toD, PyData.depth], by simp [toD, PyData.leavesShort], by simp [toD, PyData.weight]⟩
theorem Fz.dct : Fz .dct 1 0 := ⟨by simp [toD, PyData.showable, PyData.showableKv], by simp [toD, PyData.depth, PyData.depthKv], by simp [toD, PyData.leavesShort, PyData.leavesShortKv], by simp [toD, PyData.weight, PyData.weightKv]⟩
theorem FzL.nil {n : Nat} : FzL [] n 0 := ⟨by simp [toDs, PyData.showableAll], by simp [toDs, PyData.depthAll], by simp [toDs, PyData.leavesShortAll], by simp [toDs, PyData.weightAll]⟩
theorem FzL.cons {g : G} {gs : List G} {n m k : Nat} (h : Fz g n m) (t : FzL gs n k) : FzL (g :: gs) n (m + 1 + k) := by
  refine ⟨?_, ?_, ?_, ?_⟩
  · simp only [toDs, PyData.showableAll, h.sh, t.sh, Bool.and_self]
  · simp only [toDs, PyData.depthAll]
    have := h.dp
    have := t.dp
    omega
  · simp only [toDs, PyData.leavesShortAll, h.lv, t.lv, Bool.and_self]
  · simp only [toDs, PyData.weightAll]
    have := h.wt
    have := t.wt
    omega
theorem Fz.tup {gs : List G} {n m : Nat} (t : FzL gs n m) : Fz (.tup gs) (n + 1) m :=
  ⟨by simpa only [toD, PyData.showable] using t.sh, by simp only [toD, PyData.depth]; have := t.dp; omega, by simpa only [toD, PyData.leavesShort] using t.lv, by simpa only [toD, PyData.weight] using t.wt⟩
theorem Fz.lst {gs : List G} {n m : Nat} (t : FzL gs n m) : Fz (.lst gs) (n + 1) m :=
  ⟨by simpa only [toD, PyData.showable] using t.sh, by simp only [toD, PyData.depth]; have := t.dp; omega, by simpa only [toD, PyData.leavesShort] using t.lv, by simpa only [toD, PyData.weight] using t.wt⟩
theorem FzL.all {n m : Nat} : ∀ {gs : List G}, (∀ g ∈ gs, Fz g n m) → FzL gs n ((m + 1) * gs.length)
  | [], _ => FzL.nil
  | g :: gs, h => by
    have a := FzL.cons (h g List.mem_cons_self) (FzL.all fun y hy => h y (List.mem_cons_of_mem _ hy))
    have e : m + 1 + (m + 1) * gs.length = (m + 1) * (g :: gs).length := by
      rw [List.length_cons, Nat.mul_add, Nat.mul_one, Nat.add_comm]
    rw [e] at a
    exact a
theorem Fz.len {g : G} {n m : Nat} (h : Fz g n m) (hm : m ≤ 500000) : (toD g).shown.length ≤ sizeLine := by
  have a := PyData.shown_le 30 (by decide) (toD g) h.lv
  have b := h.wt
  rw [sizeLine_eq]
  omega
mutual
theorem okD_nd : ∀ g : G, okD g = true → (toD g).hasDict = false
  | .non, _ => by simp [toD, PyData.hasDict]
  | .bl _, _ => by simp [toD, PyData.hasDict]
  | .int _, _ => by simp [toD, PyData.hasDict]
  | .str _, _ => by simp [toD, PyData.hasDict]
  | .lst l, h => by
    simp only [toD, PyData.hasDict]
    exact okDs_nd l (by simpa only [okD] using h)
  | .tup l, h => by
    simp only [toD, PyData.hasDict]
    exact okDs_nd l (by simpa only [okD] using h)
  | .dct, h => by simp [okD] at h
theorem okDs_nd : ∀ gs : List G, okDs gs = true → PyData.hasDictAll (toDs gs) = false
  | [], _ => by simp [toDs, PyData.hasDictAll]
  | g :: gs, h => by
    simp only [okDs, Bool.and_eq_true] at h
    simp only [toDs, PyData.hasDictAll, okD_nd g h.1, okDs_nd gs h.2, Bool.or_self]
end
/-- a thing without a dict, or an empty dict -/
def Flat (g : G) : Prop := okD g = true ∨ g = .dct
section
variable {X : Cx} {pins : List (Addr × Obj)} {σ : L2.St} {H : Hp} {s : Shared} {p : Addr}
theorem flat_reads (I : Inv X pins σ H s) {v : V} {g : G} {u : Value} (h : Tg p H v g) (r : RelV v u) (fl : Flat g) : ∃ as, Reads s.heap u (toD g) as ∧ ((toD g).hasDict = true → sysModules ∉ as) := by
  rcases fl with ok | rfl
  · obtain ⟨as, rd⟩ := Dp.reads I (toD g) v u (h.dp ok) r
    exact ⟨as, rd, PyData.noDict_hsm (okD_nd g ok)⟩
  · cases h with
    | @dct a e =>
      cases r
      obtain ⟨_, lo, vs, kv, o, es, ep, ho, hx, hd, _, pr, _⟩ := dk_of I.hok e
      cases kv
      have ee : es.toList = [] := by
        cases hz : es.toList with
        | nil => rfl
        | cons x l =>
          rw [hz] at pr
          cases pr
      refine ⟨_, Reads.dict (kvs := []) ho hx.1 hd (by rw [ee]; exact .nil) (by rw [ee]; exact .nil), fun _ hm => ?_⟩
      rcases List.mem_append.mp hm with z | z
      · rcases List.mem_cons.mp z with y | y
        · rw [← y] at lo
          simp at lo
        · cases y
      · cases z
theorem rows_reads (I : Inv X pins σ H s) : ∀ {vs : List V} {gs : List G} {us : List Value}, TgL p H vs gs → Vals vs us → (∀ g ∈ gs, Flat g) → PyData.showableAll (toDs gs) = true → (∀ t ∈ PyData.shownAll (toDs gs), t.length ≤ sizeLine) →
    (∃ as, ReadsAll s.heap us (toDs gs) as) ∧ ∃ bs, ReadAtMost s.heap (PyData.depthAll (toDs gs)) bs ∧ ReprAllK X.prog X.w bs s.heap (PyData.depthAll (toDs gs)) us (PyData.shownAll (toDs gs))
  | _, _, _, .nil, r, _, _, _ => by
    cases r
    exact ⟨⟨_, .nil⟩, [], (fun _ h => nomatch h), by simp only [toDs, PyData.shownAll]; exact .nil⟩
  | _, _, _, .cons (d := d) (ds := ds) h t, r, fl, sh, hz => by
    cases r with
    | cons r1 r2 =>
      have sh' : (toD d).showable = true ∧ PyData.showableAll (toDs ds) = true := by simpa [toDs, PyData.showableAll] using sh
      obtain ⟨as, rd, hsm⟩ := flat_reads I h r1 (fl d List.mem_cons_self)
      obtain ⟨b1, hb1, k1⟩ := ReprK.of_reads (prog := X.prog) (w := X.w) rd sh'.1 hsm (hz _ (by simp only [toDs, PyData.shownAll]; exact List.mem_cons_self ..))
      obtain ⟨⟨as2, rd2⟩, b2, hb2, k2⟩ := rows_reads I t r2 (fun g hg => fl g (List.mem_cons_of_mem _ hg)) sh'.2 (fun t ht => hz t (by simp only [toDs, PyData.shownAll]; exact List.mem_cons_of_mem _ ht))
      refine ⟨⟨_, .cons rd rd2⟩, b1 ++ b2, ?_, ?_⟩
      · intro b hm
        simp only [toDs, PyData.depthAll]
        rcases List.mem_append.mp hm with hm | hm
        · obtain ⟨d', as', r', hd'⟩ := hb1 b hm
          exact ⟨d', as', r', Nat.le_trans hd' (Nat.le_max_left _ _)⟩
        · obtain ⟨d', as', r', hd'⟩ := hb2 b hm
          exact ⟨d', as', r', Nat.le_trans hd' (Nat.le_max_right _ _)⟩
      · simp only [toDs, PyData.depthAll, PyData.shownAll]
        exact .cons ((k1.more fun b hb => List.mem_append_left _ hb).level_le (Nat.le_max_left _ _)) (k2.more_le (fun b hb => List.mem_append_right _ hb) (Nat.le_max_right _ _))
end
/-- what may be shown: flat, or a list of flat things -/
structure Shw (g : G) : Prop where
  fz : Fz g 8 500000
  fl : Flat g ∨ ∃ gs, g = .lst gs ∧ ∀ x ∈ gs, Flat x
section
variable {X : Cx}
def rReprG : List V → Hp → VK → Prop := fun xs H Q => ∃ (p : Addr) (v : V) (g : G), xs = [v] ∧ Tg p H v g ∧ Shw g ∧ Q (.str (toD g).shown) H
theorem call_reprG (hg : X.A.guards = some []) (hu : X.A.units + 64 < cLine) : CallR X (.builtin "repr") rReprG := by
  intro pins s σ H xs us Q I r h
  obtain ⟨p, v, g, rfl, ht, sw, q⟩ := h
  obtain ⟨u, rfl, ru⟩ := vals1 r
  have hz := sw.fz.len (Nat.le_refl _)
  have hdp := sw.fz.dp
  have ht0 := ht
  rcases sw.fl with fl | ⟨gs, rfl, fl⟩
  · cases ht with
    | non =>
      cases ru
      simp only [toD, PyData.shown] at q
      exact PySem.P.repr_of_none ⟨.str _, H, I.tok _, ⟨_, rfl⟩, q⟩
    | bl b =>
      cases ru
      simp only [toD, PyData.shown] at q
      exact PySem.P.repr_of_bool ⟨.str _, H, I.tok _, ⟨_, rfl⟩, q⟩
    | int i =>
      obtain ⟨t, rfl⟩ := ru
      simp only [toD, PyData.shown] at q
      have z := sw.fz.sh
      simp only [toD, PyData.showable, decide_eq_true_eq] at z
      exact PySem.P.repr_of_int z ⟨.str _, H, I.tok _, ⟨_, rfl⟩, q⟩
    | str x =>
      obtain ⟨t, rfl⟩ := ru
      simp only [toD, PyData.shown] at q hz
      exact PySem.P.repr_of_str ⟨.str _, H, I.tok _, ⟨_, rfl⟩, q⟩ hz
    | @lst a vs ds n e t =>
      cases ru
      obtain ⟨as, rd, hsm⟩ := flat_reads I ht0 rfl fl
      exact repr_of_reads' rd sw.fz.sh hsm hg (by omega) (fun _ _ z => z) (fun h' u tk hk => ⟨.str _, H, I.kept hk, ⟨u, rfl⟩, q⟩) hz
    | @tup a vs ds e t =>
      cases ru
      obtain ⟨as, rd, hsm⟩ := flat_reads I ht0 rfl fl
      exact repr_of_reads' rd sw.fz.sh hsm hg (by omega) (fun _ _ z => z) (fun h' u tk hk => ⟨.str _, H, I.kept hk, ⟨u, rfl⟩, q⟩) hz
    | @dct a e =>
      cases ru
      obtain ⟨as, rd, hsm⟩ := flat_reads I ht0 rfl fl
      exact repr_of_reads' rd sw.fz.sh hsm hg (by omega) (fun _ _ z => z) (fun h' u tk hk => ⟨.str _, H, I.kept hk, ⟨u, rfl⟩, q⟩) hz
  · cases ht with
    | @lst a vs _ n e t =>
      cases ru
      obtain ⟨its, rv, ⟨o, na, ho, hc, _, hd⟩, _⟩ := I.list (SqL.of e)
      have hz' : (listText (PyData.shownAll (toDs gs))).length ≤ sizeLine := by simpa only [toD, PyData.shown] using hz
      have sh' : PyData.showableAll (toDs gs) = true := by simpa only [toD, PyData.showable] using sw.fz.sh
      obtain ⟨⟨as, rda⟩, bs, hb, hk⟩ := rows_reads I t rv fl sh' (fun t ht => Nat.le_trans (listText_mem_le ht) hz')
      have rd : Reads s.heap (.ref a) (.list (toDs gs)) (a :: as) := Reads.list ho hc hd (by simpa using rda)
      have hna : a ∉ bs := not_mem_of_deeper rd (by simp only [PyData.depth]; omega) hb
      have q2 : Q (.str (listText (PyData.shownAll (toDs gs)))) H := by simpa only [toD, PyData.shown] using q
      simp only [toD, PyData.depth] at hdp
      refine call_repr_slot (by omega) ⟨o, ho, hc⟩ F.slot_list_repr.toG ?_
      cases its with
      | nil =>
        have e0 : toDs gs = [] := by
          clear q q2 hz hz' hdp sw sh' hk hb hna rd ht0 fl
          generalize toDs gs = ds at rda ⊢
          cases rda
          rfl
        rw [e0] at q2
        simp only [PyData.shownAll, listText_nil] at q2
        exact call_list_repr_empty ⟨o, ho, hc⟩ ho hd ⟨_, _, rfl, .str _, H, I.kept fun _ _ e => e, ⟨_, rfl⟩, q2⟩
      | cons x l =>
        exact call_list_reprK ho hc hd hna (by simpa using hk.length_eq) (fun i y e => hk.item i y (by simpa using e)) hg (fun b _ => Clear.nil b) (by show X.A.units + 1 + (_ + 1) < cLine; omega) (fun _ _ z => z) (fun h' u tk hk => ⟨_, _, rfl, .str _, H, I.kept hk, ⟨u, rfl⟩, q2⟩) hz'
end
end Su
/-! ### SH: set(t), t a tuple of ints -/
namespace Su
open PySem PySem.Spec PyProof.Rows L2
section
variable {P : Program} {w : World} {A : Around} {E : Value → Shared → Prop} {s : Shared}
theorem set_of_tup {l : Addr} {its : Array Value} (ns : List Int) {Q : Value → Shared → Prop} (hh : A.handled = none) (hl : s.heap.IsTuple l its) (ia : IntsAre its.toList ns) (few : ns.length + 1 < scanBound)
    (q : ∀ (h' : Heap) (tk c : Nat), SetR w h' s.heap.objs.size (fun j => decide (j ∈ ns)) c → c ≤ ns.length → (∀ b o, s.heap.get? b = some o → h'.get? b = some o) → Q (.ref s.heap.objs.size) { s with heap := h', toks := tk }) :
    wpAny (model P w) A (call (.type "set") [.ref l]) Q E s := by
  have sz : its.size = ns.length := by
    have z := IntsAre.length ia
    rwa [Array.length_toList] at z
  obtain ⟨c0, tl0, m0⟩ := F.called_set.mro
  have m1 := F.called_set.made
  have m2 := F.called_set.sub
  have m3 := F.called_set.notType
  have m4 := F.called_set.canCreate
  have m5 := F.typeCall_set_1 (.ref l)
  refine wpAny_call (codeAny_of_tree ?_)
  show wpAny _ _ (callAny (.type "set") _) _ _ _
  refine wpAny_pure ⟨Code.quiet_builtin _ (by decide +kernel), codeAny_builtin F.entry_type_call ?_⟩
  rw [Around.under_plain (weight_type_call_type "set" [.ref l] []) rfl]
  repeat (any_goals (first | assumption | wp_step))
  refine codeAny_mono (code_set_led1 (.ref l) (E := E) (Q₁ := fun x t => x = .ref s.heap.objs.size ∧ t = { s with heap := s.heap.push (set0 w) }) ⟨rfl, rfl⟩) fun r t hr => ?_
  match r, hr with
  | .error e, hr => exact hr
  | .ok .next, hr => exact hr.elim
  | .ok .brk, hr => exact hr.elim
  | .ok .cont, hr => exact hr.elim
  | .ok (.ret x), hr =>
    obtain ⟨rfl, rfl⟩ := hr
    have at0 : (s.heap.push (set0 w)).get? s.heap.objs.size = some (set0 w) := Heap.get?_push_size _ rfl
    have ty0 : Shared.TypeIs { s with heap := s.heap.push (set0 w) } (.ref s.heap.objs.size) "set" := ⟨_, at0, rfl⟩
    have n1 := F.called_set.init.lookup
    have n2 := F.called_set.init.bind (.ref s.heap.objs.size)
    repeat (any_goals (first | assumption | wp_step))
    refine codeAny_mono (codeAny_call_builtin (R := wants (fun r t => r = .none ∧ ∃ h' tk c, t = { s with heap := h', toks := tk } ∧ SetR w h' s.heap.objs.size (fun j => decide (j ∈ ns)) c ∧ c ≤ ns.length ∧ ∀ b o, s.heap.get? b = some o → h'.get? b = some o) E)
      F.called_set.init.plain F.entry_set_init (check_set_init_1 ty0 ?_)) fun r2 t2 hr2 => ?_
    · obtain ⟨⟨oc, od, odt, os⟩, ho, hc, nl, hd⟩ := hl
      simp only at hc hd
      subst hc hd
      have lt : l < s.heap.objs.size := Heap.lt_size ho
      have ho1 : (s.heap.push (set0 w)).get? l = some { cls := .type "tuple", dict := od, data := .seq its nl, slots := os } := Heap.get?_push_of_some _ ho
      have isl : (s.heap.push (set0 w)).IsTuple l its := ⟨_, ho1, rfl, nl, rfl⟩
      have p1 := F.sub_tuple_set
      have p2 := F.sub_tuple_frozenset
      have p3 : (Value.type "tuple" == Value.type "dict") = false := by decide
      unfold Builtin.«set.__init__» noKeywords Builtin.Frozenset.updateFrom
      generalize hPI : pyIter = PI
      wp_walk
      subst hPI
      refine wpAny_pyIter_tuple isl (wpAny_bind (wpAny_runValue ?_))
      have size1 : (s.heap.push (set0 w)).objs.size = s.heap.objs.size + 1 := Heap.size_push ..
      have ap : l ≠ (s.heap.push (set0 w)).objs.size := by
        rw [size1]
        exact Nat.ne_of_lt (Nat.lt_succ_of_lt lt)
      have ap2 : s.heap.objs.size ∉ [(s.heap.push (set0 w)).objs.size, l] := by
        rw [size1]
        simp only [List.mem_cons, List.not_mem_nil, or_false, not_or]
        exact ⟨Nat.ne_of_lt (Nat.lt_succ_self _), Nat.ne_of_gt lt⟩
      refine set_update_ints ((Walks.tuple (by simp [hh]) _ l ap its).toS) s.heap.objs.size ap2 ns sz few (fun i v hv => ?_) (its.size - 0) 0 _ (by omega) (Nat.zero_le _) ⟨⟨_, Heap.get?_push_size _ rfl, rfl, rfl⟩, (isl.extBut (b := (s.heap.push (set0 w)).objs.size) (fun b o hb e => Heap.get?_push_of_some _ e) ap)⟩ ⟨0, Nat.le_refl 0, setR_new_at (Heap.get?_push_of_some _ at0)⟩ fun t3 c3 mv hc3 hS3 => ?_
      · have hi : i < ns.length := by
          rw [← sz]
          exact (Array.getElem?_eq_some_iff.mp hv).1
        obtain ⟨tk, e⟩ := PyProof.Rows.IntsAre.int_at ia i v (by rw [Array.getElem?_toList]; exact hv)
        refine ⟨ns[i], tk, List.getElem?_eq_getElem hi, ?_⟩
        rw [e, List.getD_eq_getElem?_getD, List.getElem?_eq_getElem hi] <;> rfl
      · obtain ⟨h3, g3, d3, tk3, os3⟩ := t3
        obtain rfl : g3 = s.gens := mv.gens
        obtain rfl : d3 = s.drawn := mv.drawn
        obtain rfl : os3 = s.os := mv.os
        show wpAny _ _ _ _ _ _
        refine wpAny_pure ?_
        show wpAny _ _ (ret Value.none) _ _ _
        refine wpAny_pure ⟨rfl, h3, tk3, c3, rfl, hS3, by omega, fun b o e => ?_⟩
        have bl : b < s.heap.objs.size := Heap.lt_size e
        refine mv.heap b o ?_ (Heap.get?_push_of_some _ (Heap.get?_push_of_some _ e))
        rw [size1]
        simp only [List.mem_cons, List.not_mem_nil, or_false, not_or]
        exact ⟨Nat.ne_of_lt bl, Nat.ne_of_lt (Nat.lt_succ_of_lt bl)⟩
    · match r2, hr2 with
      | .error e, hr2 => exact hr2
      | .ok .next, hr2 => exact hr2.elim
      | .ok .brk, hr2 => exact hr2.elim
      | .ok .cont, hr2 => exact hr2.elim
      | .ok (.ret y), hr2 =>
        obtain ⟨rfl, h', tk, c, rfl, hS, hc, hk⟩ := hr2
        repeat (any_goals (first | assumption | wp_step))
        exact q _ _ _ hS hc hk
end
section
variable {X : Cx}
def rSetT (w : World) (K : PySem.W.Frag) : List V → Hp → VK → Prop := fun xs H Q => ∃ (l : Addr) (ns : List Int), xs = [.ref l] ∧ SqT K H l (ns.map V.int) ∧ ns.length ≤ 4000 ∧ ∀ (p : Addr) (H' : Hp), Same H H' → H p = none → SetIs w H' p ns → Q (.ref p) H'
theorem cr_setT (hc : X.calm = true) : CallR X (.type "set") (rSetT X.w X.K) := by
  intro pins s σ H xs us Q I r h
  obtain ⟨l, ns, rfl, hq, hl, q⟩ := h
  rw [Vals.ref1 r]
  obtain ⟨its, rv, pl, hz⟩ := I.tuple hq
  refine set_of_tup ns (I.ok.hd hc) pl (by simpa using ints_of rv) (by unfold scanBound; omega) fun h' tk c hR hc' hk => ?_
  have new : H s.heap.objs.size = none := I.hok.fresh (Nat.le_refl _)
  exact ⟨.ref s.heap.objs.size, _, I.laid (t' := tk) hk (Nat.le_refl _) (setO_new hR), rfl, q _ _ (same_upd new) new (SetIs.of hR upd_same fun k => decide_eq_true_iff)⟩
end
end Su
/-! ### SK: a tuple so many times -/
namespace Su
open PySem PySem.Spec PyProof.Rows L2
section
variable {X : Cx}
def rRepA : R2 := fun x y H Q => ∃ (a : Addr) (k : Int) (xs : List V), x = .ref a ∧ y = .int k ∧ T2 H a xs ∧ xs ≠ [] ∧ 0 ≤ k ∧ k ≤ 1000 ∧ xs.length ≤ 1000 ∧ ∀ v H', Same H H' → T2 H' v (List.replicate k.toNat xs).flatten → Q (.ref v) H'
theorem op_repA : OpR X (binaryOp .Mult) rRepA := by
  intro pins s σ H x y v u Q I rx ry h
  obtain ⟨a, k, xs, rfl, rfl, ha, ne, k0, k1, hl, q⟩ := h
  by_cases h2 : 2 ≤ k
  · exact op_repT pins s σ H _ _ v u Q I rx ry ⟨a, k, xs, rfl, rfl, ha.sq, ne, h2, k1, hl, fun p np => q p _ (same_upd np) (.inr upd_same)⟩
  · refine op_mul01 pins s σ H _ _ v u Q I rx ry ⟨a, k, xs, rfl, rfl, ha, ne, by omega, fun v H' s' ht => q v H' s' ?_⟩
    have e : k = 0 ∨ k = 1 := by omega
    rcases e with rfl | rfl
    · exact ht
    · rw [show (List.replicate (1 : Int).toNat xs).flatten = xs from by simp]
      exact ht
end
end Su
/-! ### SL: a tuple so many times, its methods may be called -/
namespace Su
open PySem PySem.Spec PyProof.Rows L2
section
variable {X : Cx}
def rRepF : R2 := fun x y H Q => ∃ (a : Addr) (k : Int) (xs : List V), x = .ref a ∧ y = .int k ∧ PTup H a xs ∧ xs ≠ [] ∧ 0 ≤ k ∧ k ≤ 1000 ∧ xs.length ≤ 1000 ∧ ∀ v H', Same H H' → PTup H' v (List.replicate k.toNat xs).flatten → Q (.ref v) H'
theorem rep_flat_len {α : Type} (l : List α) : ∀ n : Nat, (List.replicate n l).flatten.length = n * l.length
  | 0 => by simp
  | n + 1 => by
    rw [List.replicate_succ, List.flatten_cons, List.length_append, rep_flat_len l n, Nat.add_mul, Nat.one_mul, Nat.add_comm]
theorem op_repF : OpR X (binaryOp .Mult) rRepF := by
  intro pins s σ H x y v u Q I rx ry h
  obtain ⟨a, k, xs, rfl, rfl, ha, ne, k0, k1, hl, q⟩ := h
  cases rx
  obtain ⟨t, rfl⟩ := ry
  obtain ⟨its, r, ⟨⟨cls, dv, data, sl⟩, ho, hc, n, hd⟩, hs⟩ := I.tuple (ha.sq (K := X.K))
  simp only at hc hd
  subst hc hd
  have le : its.length = xs.length := r.length.symm
  have pos : 0 < its.length := by
    rw [le]
    exact List.length_pos_iff.mpr ne
  have full : its.toArray.isEmpty = false := by
    cases its with
    | nil => simp at pos
    | cons _ _ => rfl
  have prod : k.toNat * xs.length ≤ 1000 * 1000 := Nat.mul_le_mul (by omega) hl
  have ty := fun (s' : Shared) => typeIs_int s' k t
  by_cases h2 : 2 ≤ k
  · have sz : its.toArray.size = its.length := List.size_toArray ..
    have small : ((its.toArray.size : Nat) : Int) * k ≤ 1000000 := by
      rw [sz, le]
      have z : ((xs.length : Nat) : Int) * k ≤ 1000 * k := Int.mul_le_mul_of_nonneg_right (by omega) k0
      omega
    have g0 : (decide (k < -(2 ^ 63)) || decide (k ≥ 2 ^ 63)) = false := by
      rw [Bool.or_eq_false_iff]
      exact ⟨decide_eq_false (by omega), decide_eq_false (by omega)⟩
    have g1 : (its.toArray.isEmpty || k == 1) = false := by
      rw [full]
      simpa using (by omega : ¬ k = 1)
    have g2 : (decide (k ≤ 0) || its.toArray.isEmpty) = false := by
      rw [full, Bool.or_false]
      exact decide_eq_false (by omega)
    have g4 : Builtin.Tuple.tupleTooMany (((its.toArray.size : Nat) : Int) * k) = false := by
      unfold Builtin.Tuple.tupleTooMany
      exact decide_eq_false (by rw [sizeLine_eq]; omega)
    have fl : (List.replicate k.toNat its).flatten.length ≤ sizeLine := by
      rw [rep_flat_len, le, sizeLine_eq]
      omega
    have M := tuple_mulW a its.toArray n dv sl k t g0 g1 g2 (by omega) g4 (by rw [size_rep, List.size_toArray]; exact fl)
    refine wpAny_binaryOp_repeat_ref (T := "tuple") (U := "int") (by decide) ⟨_, ho, rfl⟩ ty noFill_tuple_mul F.fills_int_mul F.slot_int_rmul repeat_tuple F.slot_int_index.lookup (call_meets F.slot_int_rmul (ty s) F.entry_int_rmul (F.args_int_rmul_2 _ _) (int_rmul_tuple k t a its.toArray n dv sl) ⟨ho, rfl, ⟨_, ho, rfl⟩, call_meets F.slot_tuple_mul ⟨_, ho, rfl⟩ F.entry_tuple_mul (F.args_tuple_mul_2 _ _) M ⟨ho, ?_⟩⟩)
    rw [size_rep]
    exact newF I (r.rep k.toNat) (by rw [rep_flat_len, sizeLine_eq]; omega) (fun v H' s' _ h => q v H' s' h) s.toks
  · have e : k = 0 ∨ k = 1 := by omega
    rcases e with rfl | rfl
    · refine wpAny_binaryOp_repeat_ref (T := "tuple") (U := "int") (by decide) ⟨_, ho, rfl⟩ ty noFill_tuple_mul F.fills_int_mul F.slot_int_rmul repeat_tuple F.slot_int_index.lookup (call_meets F.slot_int_rmul (ty s) F.entry_int_rmul (F.args_int_rmul_2 _ _) (int_rmul_tuple 0 t a its.toArray n dv sl) ⟨ho, rfl, ⟨_, ho, rfl⟩, call_meets F.slot_tuple_mul ⟨_, ho, rfl⟩ F.entry_tuple_mul (F.args_tuple_mul_2 _ _) (tuple_mul0 a its.toArray n dv sl t full) ⟨ho, ?_⟩⟩)
      exact newF I .nil (Nat.zero_le _) (fun v H' s' _ h => q v H' s' h) s.toks
    · refine wpAny_binaryOp_repeat_ref (T := "tuple") (U := "int") (by decide) ⟨_, ho, rfl⟩ ty noFill_tuple_mul F.fills_int_mul F.slot_int_rmul repeat_tuple F.slot_int_index.lookup (call_meets F.slot_int_rmul (ty s) F.entry_int_rmul (F.args_int_rmul_2 _ _) (int_rmul_tuple 1 t a its.toArray n dv sl) ⟨ho, rfl, ⟨_, ho, rfl⟩, call_meets F.slot_tuple_mul ⟨_, ho, rfl⟩ F.entry_tuple_mul (F.args_tuple_mul_2 _ _) (tuple_mul1 a its.toArray n dv sl t) ⟨ho, ?_⟩⟩)
      refine ⟨.ref a, H, I, rfl, q a H (Same.refl H) ?_⟩
      rw [show (List.replicate (1 : Int).toNat xs).flatten = xs from by simp]
      exact ha
end
end Su
/-! ### TX: what is shown of data is a text of code points -/
namespace Su
open PySem PySem.Spec PyProof.Rows L2
theorem sok_app {a b : Str} (h1 : PyData.strOk a = true) (h2 : PyData.strOk b = true) : PyData.strOk (a ++ b) = true := by
  show (a.cps ++ b.cps).all _ = true
  rw [Array.all_append, Bool.and_eq_true]
  exact ⟨h1, h2⟩
theorem sok_of (s : String) : PyData.strOk (Str.ofString s) = true := by
  unfold PyData.strOk
  rw [Str.ofString_eq_toList, List.all_toArray, List.all_eq_true]
  intro c hc
  obtain ⟨d, _, rfl⟩ := List.mem_map.mp hc
  rw [decide_eq_true_eq]
  have := d.valid
  unfold UInt32.isValidChar Nat.isValidChar at this
  show d.val.toNat < _
  omega
theorem sok_from : ∀ (ts : List Str) (k : Nat) (acc : Str), PyData.strOk acc = true → (∀ t ∈ ts, PyData.strOk t = true) → PyData.strOk (textFrom k acc ts) = true
  | [], _, _, h, _ => h
  | t :: ts, k, acc, h, ht => sok_from ts (k + 1) _ (sok_app (sok_app h (sok_of _)) (ht t List.mem_cons_self)) fun x hx => ht x (List.mem_cons_of_mem _ hx)
theorem sok_list {ts : List Str} (h : ∀ t ∈ ts, PyData.strOk t = true) : PyData.strOk (listText ts) = true := sok_app (sok_from ts 0 _ (sok_of _) h) (sok_of _)
theorem sok_join (sep : Str) (hs : PyData.strOk sep = true) : ∀ (ts : List Str), (∀ t ∈ ts, PyData.strOk t = true) → PyData.strOk (Str.join sep ts) = true
  | [], _ => by show PyData.strOk Str.empty = true; decide +kernel
  | [x], h => h x List.mem_cons_self
  | x :: y :: r, h => sok_app (sok_app (h x List.mem_cons_self) hs) (sok_join sep hs (y :: r) fun t ht => h t (List.mem_cons_of_mem _ ht))
theorem sok_tuple {ts : List Str} (h : ∀ t ∈ ts, PyData.strOk t = true) : PyData.strOk (tupleText ts) = true := sok_app (sok_app (sok_of _) (sok_join _ (sok_of _) ts h)) (sok_of _)
mutual
/-- no text in it, no dict -/
def noStr : PyData → Bool
  | .str _ => false
  | .dict _ => false
  | .list xs => noStrs xs
  | .tuple xs => noStrs xs
  | _ => true
def noStrs : List PyData → Bool
  | [] => true
  | d :: ds => noStr d && noStrs ds
end
mutual
theorem sok_shown : ∀ d : PyData, noStr d = true → PyData.strOk d.shown = true
  | .none, _ => by simp only [PyData.shown]; exact sok_of _
  | .bool b, _ => by cases b <;> simp only [PyData.shown] <;> exact sok_of _
  | .int i, _ => by simp only [PyData.shown]; exact sok_of _
  | .list xs, h => by simp only [PyData.shown]; exact sok_list (sok_all xs (by simpa only [noStr] using h))
  | .tuple xs, h => by simp only [PyData.shown]; exact sok_tuple (sok_all xs (by simpa only [noStr] using h))
  | .str _, h => by simp [noStr] at h
  | .dict _, h => by simp [noStr] at h
theorem sok_all : ∀ ds : List PyData, noStrs ds = true → ∀ t ∈ PyData.shownAll ds, PyData.strOk t = true
  | [], _, t, ht => by simp [PyData.shownAll] at ht
  | d :: ds, h, t, ht => by
    simp only [noStrs, Bool.and_eq_true] at h
    simp only [PyData.shownAll, List.mem_cons] at ht
    rcases ht with rfl | ht
    · exact sok_shown d h.1
    · exact sok_all ds h.2 t ht
end
theorem noStrs_all : ∀ ds : List PyData, noStrs ds = ds.all noStr
  | [] => rfl
  | d :: ds => by simp only [noStrs, List.all_cons, noStrs_all ds]
theorem noStr_ints (ns : List Int) : noStr (.tuple (ns.map PyData.int)) = true := by
  simp only [noStr, noStrs_all, List.all_eq_true]
  intro d hd
  obtain ⟨i, _, rfl⟩ := List.mem_map.mp hd
  simp only [noStr]
theorem noStr_web (rs : List Rw) : noStr (webD rs) = true := by
  simp only [webD, noStr, noStrs_all, List.all_eq_true]
  intro d hd
  obtain ⟨r, _, rfl⟩ := List.mem_map.mp hd
  unfold rowD
  simp only [noStr, noStrs, Bool.and_true, Bool.and_eq_true]
  exact ⟨by simpa only [noStr] using noStr_ints r.1, by simpa only [noStr] using noStr_ints r.2⟩
end Su
/-! ### XF: an exception that is caught, seen from the begin of its suite on -/
namespace Su
open PySem PySem.Spec PyProof.Rows L2
def wIn (K : PySem.W.Frag) (c : Value) (i : Nat) (ts : Addr → List (Addr × Obj) → TS) (Wo : WX) (D : Ends) : WX := fun cls d σ H =>
  ∃ b, PySem.W.exmOne K cls c = some b ∧
    (b = true → ∀ a pn, H a = none → ts a pn { nx := fun σ' H' => D.nx (σ'.set i none) H', rt := D.rt, bk := fun σ' H' => D.bk (σ'.set i none) H', ct := fun σ' H' => D.ct (σ'.set i none) H' } (σ.set i (some (.ref a))) (upd H a (exK a cls d))) ∧
    (b = false → Wo cls d σ H)
def tTryIn (K : PySem.W.Frag) (c : Value) (i : Nat) (ts : Addr → List (Addr × Obj) → TS) (Wo : WX) (tb : WX → TS) : TS := fun D σ H => tb (wIn K c i ts Wo D) D σ H
section
variable {X : Cx} {x n : Str} {c : Value} {i : Nat} {body suite : List Stmt} {b0 : Stmt} {np pos pos' : Pos} {tb : WX → TS} {ts : Addr → List (Addr × Obj) → TS} {Wo : WX}
/-- try: .. except x as n: suite, the exception tracked in the suite -/
theorem ps_try_in (hex : X.ex = []) (hs : X.stack = X.env :: X.outer) (hf : X.env.frame = some X.env.locals) (hN : X.N.Nodup) (hi : X.N[i]? = some n) (hln : X.env.kindOf n = some .local) (hc : Names X x c) (tk : Takes X Wo)
    (hb : ∀ (W : WX) (pn : List (Addr × Obj)) (xe : Value → Shared → Prop), Takes (X.tr pn xe) W → PassesOwn (model X.prog X.w) X.A X.env xe → PSs (X.tr pn xe) body (tb W))
    (hsu : ∀ (a : Addr) (pn : List (Addr × Obj)), PSs (X.suite a pn) (b0 :: suite) (ts a pn)) :
    PS X (.Try body [.ExceptHandler (some (.Name x np)) (some n) (b0 :: suite) pos'] [] [] pos) (tTryIn X.K c i ts Wo tb) := by
  refine ⟨fun pins s σ H D I h => ?_⟩
  have ok := I.ok
  have frm : X.A.frames = some (X.env :: X.outer) := by
    rw [ok.frames, hs]
  refine wpAny_Try_except ?_
  refine wpAny_mono ((hb (wIn X.K c i ts Wo D) (X.pn ++ pins) (fun u t => wpAny (model X.prog X.w) X.A (noteFrame u X.env) (fun _ t2 => wpAny (model X.prog X.w) X.A (setFlight u none) (fun _ t3 =>
    wpAny (model X.prog X.w) X.A (handleBy u X.env [.ExceptHandler (some (.Name x np)) (some n) (b0 :: suite) pos']) (SP X pins D) X.xe t3) X.xe t2) X.xe t) (fun u t xx => ?_) PassesOwn.looking).run [] s σ H D (I.toTry _) h) (fun fl t hsp => ?_) (fun _ _ z => z)
  · obtain ⟨a, B, sI, pins2, τ, G, cls, d, rfl, Jt, nb, up, sky, na, os, ag, b, hb1, hyes, hno⟩ := xx
    have J : Inv X pins τ G sI := Jt.ofTry ok
    have sky2 : Sky B (X.env :: X.outer) a (Zc cls d) X.env.locals t.heap := by
      rw [← hs]
      exact sky
    show wpAny (model X.prog X.w) X.A (noteFrame (.ref a) X.env) _ _ _
    refine Sky.land Zc.steady frm hf sky2 fun g3 fl3 up3 => ?_
    have J3 : Inv X pins τ G { t with heap := g3 } := J.landed nb fl3.1 (up.trans up3) os ag
    obtain ⟨oe3, vs3, at3, zc3, dt3⟩ := fl3.there
    have nofr : a ∉ frs (X.env :: X.outer) := by
      intro hm
      obtain ⟨_, o', e', hnf⟩ := fl3.2.2.1.mem hm
      rw [at3] at e'
      cases e'
      exact hnf _ dt3
    have nL : a ≠ X.env.locals := fun z => nofr (List.mem_filterMap.mpr ⟨X.env, List.mem_cons_self, by rw [hf, z]⟩)
    have nF : a ∉ X.fs := by
      intro hm
      obtain ⟨e, he, q⟩ := List.mem_filterMap.mp hm
      exact nofr (List.mem_filterMap.mpr ⟨e, List.mem_cons_of_mem _ he, q⟩)
    -- it wasn't there ahead
    have gone : sI.heap.get? a = none := by
      cases z : sI.heap.get? a with
      | none => rfl
      | some o =>
        have y := nb a o z (by rw [hs]; exact nofr)
        rw [fl3.2.1] at y
        cases y
    have gone0 : X.s_0.heap.get? a = none := by
      cases z : X.s_0.heap.get? a with
      | none => rfl
      | some o =>
        obtain ⟨o', y⟩ := J.base.there a o z (by rw [hex]; simp)
        rw [gone] at y
        cases y
    have noc : ∀ y k, X.env.cells.lookup y = some k → k ≠ a := by
      rintro y k e rfl
      obtain ⟨v, o, e1, _⟩ := J.cell y k e
      rw [gone] at e1
      cases e1
    have nop : ∀ q ∈ X.pn ++ pins, q.1 ≠ a := by
      intro q hq e
      have y := (J.pin q hq).1
      rw [e, gone] at y
      cases y
    have S3 := J3.suite at3 dt3 na nL nF
    refine wpAny_handleBy_cons (codeAny_handlers_test ?_) (by intro q; cases q)
    have LT : PySem.W.Looks (model X.prog X.w) g3 (typeOf (.ref a)) cls := fun A Q E s k q => wpAny_typeOf_ref (k _ _ at3) (by rw [zc3.1]; exact q)
    have LM := PySem.W.exm_one (M := model X.prog X.w) (J3.kIn) LT hb1
    have asked : ∀ {Q : Value → Shared → Prop} {E : Value → Shared → Prop}, Q c { t with heap := g3 } → wpAny (model X.prog X.w) (X.A.mark (some (.ref a))) (eval (.Name x np) X.env) Q E { t with heap := g3 } := by
      intro Q E q
      obtain ⟨hg, hdbg, hm | ⟨hm, hv, hnn⟩⟩ := hc
      · exact ld_glob (X := X.suite a ((a, oe3) :: (X.pn ++ pins))) S3 hg hm q hdbg
      · exact ld_blt (X := X.suite a ((a, oe3) :: (X.pn ++ pins))) S3 hg hm hv q hnn hdbg
    refine asked (LM.here ?_)
    cases b with
    | true =>
      refine codeAny_handlers_suite_as (HandSPX.lands_againZ fl3 fun g4 fl4 up4 => ?_)
      have J4 : Inv X pins τ G { t with heap := g4 } := J.landed nb fl4.1 ((up.trans up3).trans up4) os ag
      obtain ⟨oe4, vs4, at4, zc4, dt4⟩ := fl4.there
      have J5 : Inv X pins τ (upd G a (exK a cls d)) { t with heap := g4 } := track J4 na gone0 nL noc nop (exK_ok at4 zc4 dt4)
      have S4 : Inv (X.suite a (X.pn ++ pins)) [] τ (upd G a (exK a cls d)) { t with heap := g4 } := ⟨J5.ok.suite _ _, J5.os, J5.bare, J5.base, J5.loc, J5.cell, J5.free, J5.freeC, fun p hp => J5.pin p (by rw [List.append_nil] at hp; exact hp), J5.hok, J5.len⟩
      refine store_ok (X := X.suite a (X.pn ++ pins)) (v := .ref a) S4 hN hi (.inl hln) rfl (fun t5 S5 => ?_) (.inr hln)
      refine wpAny_mono ((hsu a (X.pn ++ pins)).run [] t5 _ _ _ S5 (hyes rfl a _ na)) (fun fl t6 hsp => ?_) (fun _ _ z => False.elim z)
      have end_ : ∀ {σ6 : L2.St} {H6 : Hp} {Q : Shared → Prop}, Inv (X.suite a (X.pn ++ pins)) [] σ6 H6 t6 → (∀ t7, Inv X pins (σ6.set i none) H6 t7 → Q t7) →
          wpAny (model X.prog X.w) X.A (do bindName X.env n .none; unbindBehindTheSuite X.env n pos') (fun _ t7 => Q t7) X.xe t6 := fun {σ6 H6 Q} S6 hq => by
        have J6 : Inv X pins σ6 H6 t6 := ⟨ok, S6.os, S6.bare, S6.base, S6.loc, S6.cell, S6.free, S6.freeC, fun p hp => S6.pin p (List.mem_append_left _ hp), S6.hok, S6.len⟩
        exact gone_ok J6 hN hi hln hq
      cases fl with
      | next =>
        obtain ⟨σ6, H6, S6, q6⟩ := hsp
        exact end_ S6 fun t7 J7 => ⟨_, _, J7, q6⟩
      | brk =>
        obtain ⟨σ6, H6, S6, q6⟩ := hsp
        exact end_ S6 fun t7 J7 => ⟨_, _, J7, q6⟩
      | cont =>
        obtain ⟨σ6, H6, S6, q6⟩ := hsp
        exact end_ S6 fun t7 J7 => ⟨_, _, J7, q6⟩
      | ret u =>
        obtain ⟨v6, σ6, H6, S6, r6, q6⟩ := hsp
        exact end_ S6 fun t7 J7 => ⟨_, _, _, J7, r6, q6⟩
    | false =>
      show wpAny _ X.A (handleBy (.ref a) X.env []) _ _ _
      refine wpAny_handleBy_nil ?_
      obtain ⟨k1, k2, k3, oe, vs, T, oT, ts', he, hz, hd, h1, hr⟩ := id fl3
      unfold PySem.passOn
      refine wpAny_bind (wpAny_field he hd h1 ?_)
      rw [if_neg (show ¬ ((Value.ref T == Value.none) = true) from by simp)]
      have away : wpAny (model X.prog X.w) X.A (setFlight (.ref a) X.env.frame) (fun _ t4 => wpAny (model X.prog X.w) X.A (throw (.ref a) : Sem Flow) (SP X pins D) X.xe t4) X.xe { t with heap := g3 } := by
        rw [hf]
        refine HandSPX.setFlight_upZ fl3 fun g4 hh4 up4 => wpAny_throw (tk _ _ ?_)
        exact ⟨a, B, sI, pins, τ, G, cls, d, rfl, J, nb, (up.trans up3).trans up4, .inr (.inr (by rw [hs]; exact hh4)), na, os, ag, hno rfl⟩
      first
        | exact wpAny_bind (wpAny_pure (wpAny_bind away))
        | exact wpAny_bind away
  · cases fl with
    | next =>
      obtain ⟨τ, G, J, q⟩ := hsp
      exact wpAny_execs_nil ⟨τ, G, J.ofTry ok, q⟩
    | brk =>
      obtain ⟨τ, G, J, q⟩ := hsp
      exact ⟨τ, G, J.ofTry ok, q⟩
    | cont =>
      obtain ⟨τ, G, J, q⟩ := hsp
      exact ⟨τ, G, J.ofTry ok, q⟩
    | ret u =>
      obtain ⟨v, τ, G, J, r, q⟩ := hsp
      exact ⟨v, τ, G, J.ofTry ok, r, q⟩
end
section
variable {X : Cx}
/-- repr of a scalar, wherever -/
def rReprS : List V → Hp → VK → Prop := fun xs H Q => (xs = [.non] ∧ Q (.str "None") H) ∨ (∃ b : Bool, xs = [.bl b] ∧ Q (.str (if b then "True" else "False")) H) ∨ ∃ i : Int, xs = [.int i] ∧ i.natAbs.log2 < 1920 ∧ Q (.str (toString i)) H
theorem call_reprS : CallR X (.builtin "repr") rReprS := by
  intro pins s σ H xs us Q I r h
  rcases h with ⟨rfl, q⟩ | ⟨b, rfl, q⟩ | ⟨i, rfl, hz, q⟩
  · obtain ⟨u, rfl, ru⟩ := vals1 r
    cases ru
    exact PySem.P.repr_of_none ⟨.str _, H, I.tok _, ⟨_, rfl⟩, q⟩
  · obtain ⟨u, rfl, ru⟩ := vals1 r
    cases ru
    exact PySem.P.repr_of_bool ⟨.str _, H, I.tok _, ⟨_, rfl⟩, q⟩
  · obtain ⟨u, rfl, t, rfl⟩ := vals1 r
    exact PySem.P.repr_of_int hz ⟨.str _, H, I.tok _, ⟨_, rfl⟩, q⟩
end
end Su
namespace Su
open PySem PySem.Spec PyProof.Rows L2
def topS (i : Nat) : Stmt := PySem.Challenge.pw_surehand_k17_runs_looked_at.main.body.getD i (.Pass ⟨0, 0, 0, 0⟩)
abbrev s_wall : Stmt := topS 0
abbrev s_HandError : Stmt := topS 2
abbrev s_NoShelf : Stmt := topS 3
abbrev s_NoWeb : Stmt := topS 4
abbrev s_NoRun : Stmt := topS 5
abbrev s_NoText : Stmt := topS 6
abbrev s_NoRoom : Stmt := topS 7
abbrev s_is_whole : Stmt := topS 14
abbrev sIsWhole : Stmt := topS 14
abbrev s_is_room : Stmt := topS 15
abbrev sIsRoom : Stmt := topS 15
abbrev s_are_rising : Stmt := topS 16
abbrev s_are_rooms : Stmt := topS 17
abbrev s_is_way : Stmt := topS 18
abbrev sIsWay : Stmt := topS 18
abbrev s_is_size : Stmt := topS 19
abbrev sIsSize : Stmt := topS 19
abbrev s_how_many_bits : Stmt := topS 20
abbrev sHowMany : Stmt := topS 20
abbrev s_is_slot : Stmt := topS 21
abbrev sIsSlot : Stmt := topS 21
abbrev s_is_bit : Stmt := topS 22
abbrev sIsBit : Stmt := topS 22
abbrev s_are_slots : Stmt := topS 23
abbrev sAreSlots : Stmt := topS 23
abbrev s_are_bits : Stmt := topS 24
abbrev sAreBits : Stmt := topS 24
abbrev s_put_first : Stmt := topS 25
abbrev sPutFirst : Stmt := topS 25
abbrev s_slot_led_to : Stmt := topS 26
abbrev sLed : Stmt := topS 26
abbrev s_led_away : Stmt := topS 27
abbrev sAway : Stmt := topS 27
abbrev s_asked_by_tree : Stmt := topS 28
abbrev sByTree : Stmt := topS 28
abbrev s_asked : Stmt := topS 29
abbrev sAsked : Stmt := topS 29
abbrev s_are_tos : Stmt := topS 33
abbrev s_is_row : Stmt := topS 34
abbrev s_rooms_in : Stmt := topS 35
abbrev s_look_at_web : Stmt := topS 36
abbrev s_is_ask_of : Stmt := topS 39
abbrev s_is_step : Stmt := topS 40
abbrev s_look_at_run : Stmt := topS 41
abbrev s_is_run : Stmt := topS 42
abbrev s_along : Stmt := topS 43
abbrev s_wrong_part : Stmt := topS 45
abbrev s_look_at_room : Stmt := topS 46
abbrev s_Shelf : Stmt := topS 47
abbrev s_law_pool : Stmt := topS 49
abbrev sPool : Stmt := topS 49
abbrev s_law_take : Stmt := topS 50
abbrev sTake : Stmt := topS 50
abbrev s_law_picked : Stmt := topS 51
abbrev sPicked : Stmt := topS 51
abbrev s_law_tos : Stmt := topS 52
abbrev s_law_web : Stmt := topS 53
abbrev s_law_whole : Stmt := topS 54
abbrev sWhole : Stmt := topS 54
abbrev s_law_run : Stmt := topS 55
abbrev s_law_number : Stmt := topS 56
abbrev s_law_bent : Stmt := topS 57
abbrev s_law_refused : Stmt := topS 58
abbrev s_law_no_web : Stmt := topS 59
abbrev s_law_doors : Stmt := topS 60
abbrev s_law : Stmt := topS 61
abbrev sLaw : Stmt := topS 61
def bodyOf (s : Stmt) : List Stmt := match s with
  | .ClassDef (body := b) .. => b
  | _ => []
def cSB (i : Nat) : Stmt := (bodyOf (topS 47)).getD i (.Pass ⟨0, 0, 0, 0⟩)
abbrev sS_init : Stmt := cSB 0
abbrev sS_ask : Stmt := cSB 1
abbrev sS_size : Stmt := cSB 2
abbrev sS_way : Stmt := cSB 3
abbrev sS_lay : Stmt := cSB 4
abbrev sS_holds : Stmt := cSB 5
abbrev sS_counts : Stmt := cSB 6
abbrev sS_twin : Stmt := cSB 7
abbrev sS_eq : Stmt := cSB 8
abbrev sS_len : Stmt := cSB 9
abbrev sS_str : Stmt := cSB 10
abbrev sS_repr : Stmt := cSB 11
end Su
namespace Su
open PySem PySem.Spec PyProof.Rows L2
theorem sc_law_take : FnScope ["_law_pool_here", "_law_many", "_law_found"] ["_law_pool_here", "_law_many"] (defScope s_law_take) := ⟨rfl, rfl, rfl, by decide +kernel, rfl, by decide +kernel, by decide +kernel⟩
theorem sc_law_pool : FnScope ["_law_script", "_law_k", "_law_cell", "_law_great", "_law_mixed"] ["_law_script", "_law_k"] (defScope s_law_pool) := ⟨rfl, rfl, rfl, by decide +kernel, rfl, by decide +kernel, by decide +kernel⟩
section
variable {P : Program} {w : World} {K : PySem.W.Frag} {mg : Str → Option Value} {base : Heap}
theorem ok_take (T : At K mg "_law_take" s_law_take ["_law_pool_here", "_law_many"]) : Cal P w K mg base 1 "_law_take" ["_law_pool_here", "_law_many"] spTake := by
  refine cal_of T sc_law_take (fun vs H Q E h => ?_) (fun f cdv A outer s H vs Q E hr h => ?_)
  · obtain ⟨p, many, rfl, _⟩ := h
    rfl
  · obtain ⟨p, many, rfl, ⟨o, hp, g, m, rfl, g0, m0, m1⟩, n1, n2, q⟩ := h
    refine ⟨_, (pss_cons (ps_if (pt_cmpR op_gt (pe_ix ix_list (pv 0) pe_int (fun _ _ => rfl)) pe_int (nomark _)) (pss_cons (ps_set (i := 2) sc_law_take.nd rfl (Or.inl rfl) (pe_op op_mod (pe_ix ix_list (pv 0) pe_int (fun _ _ => rfl)) (pv 1)))
      (pss_cons (ps_asg (pe_op op_fdiv (pe_ix ix_list (pv 0) pe_int (fun _ _ => rfl)) (pv 1)) (pg_sub (pv 0) pe_int set_list))
      (pss_one (ps_ret (pv 2))))) pss_nil)
      (pss_cons (ps_asg (pe_op op_mod (pe_op op_add (pe_op op_mul (pe_ix ix_list (pv 0) pe_int (fun _ _ => rfl)) pe_int) pe_int) pe_int) (pg_sub (pv 0) pe_int set_list))
      (pss_one (ps_ret (pe_op op_mod (pe_op op_fdiv (pe_op op_mod (pe_op op_mul (pe_ix ix_list (pv 0) pe_int (fun _ _ => rfl)) (pe_ix ix_list (pv 0) pe_int (fun _ _ => rfl))) pe_int) pe_int) (pv 1)))))), ?_⟩
    refine ⟨_, rfl, p, _, _, _, rfl, rfl, SqL.of hp, atI_nat (j := 0) rfl, _, _, rfl, rfl, _, rfl, ite2 (fun e => ?_) (fun e => ?_)⟩
    · refine ⟨_, rfl, p, _, _, _, rfl, rfl, SqL.of hp, atI_nat (j := 0) rfl, _, rfl, _, _, rfl, rfl, (by omega), ?_⟩
      refine ⟨_, rfl, p, _, _, _, rfl, rfl, SqL.of hp, atI_nat (j := 0) rfl, _, rfl, _, _, rfl, rfl, ⟨by omega, by omega⟩, ?_⟩
      refine ⟨_, rfl, p, _, _, 0, rfl, rfl, hp, rfl, ?_⟩
      refine ⟨_, rfl, q _ _ (Int.emod_nonneg _ (by omega)) (Int.emod_lt_of_pos _ (by omega)) ⟨_, _, rfl, Int.ediv_nonneg g0 (by omega), m0, m1⟩⟩
    · refine ⟨_, rfl, p, _, _, _, rfl, rfl, SqL.of hp, atI_nat (j := 1) rfl, _, _, rfl, rfl, .inl ⟨by omega, by omega⟩, _, _, rfl, rfl, _, _, rfl, rfl, (by show (0 : Int) < 2147483647; decide), ?_⟩
      refine ⟨_, rfl, p, _, _, 1, rfl, rfl, hp, rfl, ?_⟩
      have e0 : 0 ≤ (m * 48271 + 11) % 2147483647 := Int.emod_nonneg _ (by decide)
      have e1 : (m * 48271 + 11) % 2147483647 < 2147483647 := Int.emod_lt_of_pos _ (by decide)
      refine ⟨_, rfl, p, _, _, _, rfl, rfl, SqL.of upd_same, atI_nat (j := 1) rfl, _, rfl, p, _, _, _, rfl, rfl, SqL.of upd_same, atI_nat (j := 1) rfl, _, _, rfl, rfl, .inl ⟨by omega, by omega⟩, _, _, rfl, rfl, (by show (0 : Int) < 2147483629; decide), _, _, rfl, rfl, ⟨by decide, by decide⟩, _, rfl, _, _, rfl, rfl, (by omega), ?_⟩
      exact q _ _ (Int.emod_nonneg _ (by omega)) (Int.emod_lt_of_pos _ (by omega)) ⟨_, _, rfl, g0, e0, e1⟩
theorem ok_pool (T : At K mg "_law_pool" s_law_pool ["_law_script", "_law_k"]) (B : Bt mg) : Cal P w K mg base 1 "_law_pool" ["_law_script", "_law_k"] (spPool K) := by
  refine cal_of T sc_law_pool (fun vs H Q E h => ?_) (fun f cdv A outer s H vs Q E hr h => ?_)
  · obtain ⟨a, ns, k, rfl, _⟩ := h
    rfl
  · obtain ⟨a, ns, k, rfl, hS, k0, k1, q⟩ := h
    refine ⟨_, (pss_cons (ps_set (i := 2) sc_law_pool.nd rfl (Or.inl rfl) (pe_op op_add (pe_op op_mul pe_int (pe_callB (cr_sum rfl) (by rfl) B.sum (by decide +kernel) (pa_cons (pe_slice sl_list (pv 0) po_none (po_some pe_int)) pa_nil))) (pv 1)))
      (pss_cons (ps_if (pt_cmpR op_lt (pv 1) (pe_callB call_len_seq (by rfl) B.len PySem.boot_len (pa_cons (pv 0) pa_nil)) (nomark _)) (pss_one (ps_set (i := 2) sc_law_pool.nd rfl (Or.inl rfl) (pe_ix ix_list (pv 0) (pv 1) (fun _ _ => rfl)))) pss_nil)
      (pss_cons (ps_set (i := 3) sc_law_pool.nd rfl (Or.inl rfl) (pe_callB call_abs (by rfl) B.abs (by decide +kernel) (pa_cons (pv 2) pa_nil)))
      (pss_cons (ps_set (i := 4) sc_law_pool.nd rfl (Or.inl rfl) (pe_op op_mod (pe_op op_mul (pe_op op_add (pe_op op_add (pe_op op_add (pe_op op_mod (pv 3) pe_int) (pe_op op_mul (pe_op op_mul pe_int (pv 1)) (pv 1))) (pe_op op_mul pe_int (pv 1))) pe_int) pe_int) pe_int))
      (pss_one (ps_ret (pe_lst (pa_cons (pe_op op_mul (pv 3) (pe_callTy call_int1 (by rfl) B.int (by decide +kernel) (pa_cons (pe_cmpR op_ge (pv 3) (pe_op op_pow pe_int pe_int) (nomark _)) pa_nil))) (pa_cons (pe_op op_mod (pe_op op_mul (pv 4) (pv 4)) pe_int) pa_nil))))))))), ?_⟩
    obtain ⟨ms, ems⟩ := cutV_ints ns none (some 63)
    refine ⟨_, rfl, 63, rfl, a, _, rfl, hS, fun c nc => ?_⟩
    rw [ems]
    have s1 : Same H (upd H c (.lst (ms.map V.int))) := same_upd nc
    refine ⟨c, ms, rfl, SqL.of upd_same, _, _, rfl, rfl, .inl ⟨by decide, by decide⟩, _, rfl, _, _, rfl, rfl, ?_⟩
    refine ⟨_, rfl, _, rfl, a, _, rfl, .inl (s1.seq hS), _, _, rfl, rfl, _, rfl, ite2 (fun e => ?_) (fun e => ?_)⟩
    rw [decide_eq_true_eq, List.length_map] at e
    obtain ⟨z, g⟩ : ∃ z : Int, atI (ns.map V.int) k = some (V.int z) := by
      have hk : k.toNat < ns.length := by omega
      exact ⟨_, atI_int (v := V.int ns[k.toNat]) k0 (by rw [List.getElem?_map, List.getElem?_eq_getElem hk]; rfl)⟩
    refine ⟨_, rfl, _, rfl, a, _, k, .int z, rfl, rfl, s1.seq hS, g, ?_⟩
    all_goals
      refine ⟨_, rfl, _, rfl, ?_⟩
      refine ⟨_, rfl, _, _, rfl, rfl, (by show (0 : Int) < 2147483629; decide), _, rfl, _, _, rfl, rfl, .inl ⟨by decide, by decide⟩, _, rfl, _, _, rfl, rfl, .inr ⟨by omega, by omega⟩, _, _, rfl, rfl, _, rfl, _, _, rfl, rfl, .inl ⟨by decide, by decide⟩, _, _, rfl, rfl, _, _, rfl, rfl, _, _, rfl, rfl, .inr ⟨by decide, by decide⟩, _, _, rfl, rfl, (by show (0 : Int) < 2147483647; decide), ?_⟩
      refine ⟨_, rfl, _, rfl, _, _, rfl, rfl, ⟨by decide, by decide, by decide⟩, _, _, rfl, rfl, .inr ⟨_, rfl, _, _, rfl, rfl, .inr ?_, ?_⟩⟩
      · exact b01 _
      refine ⟨_, rfl, _, rfl, _, _, rfl, rfl, .inl ?_, _, _, rfl, rfl, (by show (0 : Int) < 2147483629; decide), (by show 2 ≤ sizeLine; decide), fun p np => ?_⟩
      · refine ⟨Int.lt_of_lt_of_le (by decide) (Int.emod_nonneg _ (by decide)), Int.lt_trans (Int.emod_lt_of_pos _ (by decide)) (by decide)⟩
      refine q p _ (s1.trans (same_upd np)) (s1.free np) ⟨_, upd_same, _, _, rfl, ?_, Int.emod_nonneg _ (by decide), Int.lt_trans (Int.emod_lt_of_pos _ (by decide)) (by decide)⟩
      refine Int.mul_nonneg ?_ ?_ <;> split <;> omega
end
theorem sc_law_picked : FnScope ["_law_pool_here", "_law_some", "_law_many", "_law_left", "_law_k"] ["_law_pool_here", "_law_some", "_law_many"] (defScope s_law_picked) := ⟨rfl, rfl, rfl, by decide +kernel, rfl, by decide +kernel, by decide +kernel⟩
section
variable {P : Program} {w : World} {K : PySem.W.Frag} {mg : Str → Option Value} {base : Heap}
theorem ok_picked (T : At K mg "_law_picked" s_law_picked ["_law_pool_here", "_law_some", "_law_many"]) (B : Bt mg) (c_take : Cal P w K mg base 1 "_law_take" ["_law_pool_here", "_law_many"] spTake) :
    Cal P w K mg base 2 "_law_picked" ["_law_pool_here", "_law_some", "_law_many"] (spPicked K) := by
  refine cal_of T sc_law_picked (fun vs H Q E h => ?_) (fun f cdv A outer s H vs Q E hr h => ?_)
  · obtain ⟨p, b, ns, many, rfl, _⟩ := h
    rfl
  · obtain ⟨p, b, ns, many, rfl, hp, hS, hbp, nd, hl, m0, q⟩ := h
    refine ⟨_, (pss_cons (ps_set (i := 3) sc_law_picked.nd rfl (Or.inr rfl) (pe_callTy call_list_of (by rfl) B.list (by decide +kernel) (pa_cons (pv 1) pa_nil)))
      (pss_one (ps_ret (pe_callB cr_sortedI (by rfl) B.sorted (by decide +kernel) (pa_cons (pe_lc (own := [("_law_k", 4)]) (g := (gName 4)) (tt := tYes) (te := (tBM K "list" rPopAt (tVar 3) (tCons (tCall spTake [] E0 (tCons (tVar 0) (tCons (tCB (rLenK K) (tCons (tVar 3) tNil)) tNil))) tNil))) (by rfl) sc_law_picked.nd (pi_range1 (by rfl) B.range (pa_cons (pe_callB (call_min2 rfl) (by rfl) B.min (by decide +kernel) (pa_cons (pv 2) (pa_cons (pe_callB call_len_seq (by rfl) B.len PySem.boot_len (pa_cons (pv 3) pa_nil)) pa_nil))) pa_nil)) (blkOk_by (own := [("_law_k", 4)]) (N := ["_law_pool_here", "_law_some", "_law_many", "_law_left", "_law_k"]) (sc := defScope s_law_picked) (by decide +kernel)) (fun _ _ _ _ _ => (pg_name (i := 4) sc_law_picked.nd rfl (Or.inl rfl))) (fun _ _ _ _ _ => pts_nil) (fun _ _ _ _ _ => (pe_bm PySem.F.plainAttrs_list PySem.F.slot_list_pop PySem.F.type_list_pop mt_popAt (pv 3) (pa_cons (pe_own c_take hr (by decide) (by rfl) (pa_cons (pv 0) (pa_cons (pe_callB call_len_seq (by rfl) B.len PySem.boot_len (pa_cons (pv 3) pa_nil)) pa_nil))) pa_nil)))) pa_nil))))), ?_⟩
    refine ⟨_, rfl, b, _, rfl, .inl hS, fun l nl => ?_⟩
    have elp : l ≠ p := pool_ne hp nl
    have hl0 : (if ((ns.map V.int).length : Int) < many then ((ns.map V.int).length : Int) else many) = ((min many.toNat ns.length : Nat) : Int) := by
      rw [List.length_map]
      split <;> omega
    refine ⟨_, rfl, _, rfl, l, _, rfl, .inl (SqL.of upd_same), _, _, rfl, _, rfl, (by omega), (by omega), fun D nD => ?_⟩
    rw [hl0]
    refine lc_range (lo := 0) (n := min many.toNat ns.length) (fun i H2 => ∃ lf acc : List Int, H2 l = some (.lst (lf.map V.int)) ∧ H2 D = some (.lst (acc.map V.int)) ∧ acc.length = i ∧ (acc ++ lf).Perm ns ∧ PoolAt H2 p ∧ Kept p H H2) ?_ ?_ ?_
    · obtain ⟨eDl, nD0⟩ := free_upd nD
      refine ⟨ns, [], (by rw [upd_ne eDl.symm, upd_same]), upd_same, rfl, List.Perm.refl _, (hp.upd elp.symm).upd (pool_ne hp nD0).symm, ((Kept.refl p H).set nl).set nD0⟩
    · rintro i H2 hi ⟨lf, acc, h1, h2, hlen, hpm, hpo, hk⟩
      obtain ⟨eDl, nD0⟩ := free_upd nD
      have eDp : D ≠ p := pool_ne hp nD0
      have hll : acc.length + lf.length = ns.length := by
        have := hpm.length_eq
        rw [List.length_append] at this
        exact this
      refine ⟨rfl, tyes ?_⟩
      refine ⟨_, rfl, .inl ⟨rfl, _, SqL.of h1⟩, _, rfl, _, rfl, l, _, rfl, .inl (SqL.of h1), p, _, rfl, hpo, ?_, ?_, fun r o r0 r1 po => ?_⟩
      · rw [List.length_map]
        omega
      · rw [List.length_map]
        omega
      · rw [List.length_map] at r1
        have hr1 : r.toNat < lf.length := by omega
        refine ⟨l, lf.map V.int, r, r.toNat, V.int lf[r.toNat], rfl, rfl, (by rw [upd_ne elp]; exact h1), by omega, by omega, seqIx r0 (by rw [List.length_map]; exact r1), (by rw [List.getElem?_map, List.getElem?_eq_getElem hr1]; rfl), ?_⟩
        have hg : lf[r.toNat]? = some lf[r.toNat] := List.getElem?_eq_getElem hr1
        generalize lf[r.toNat] = y at *
        refine ⟨acc.map V.int, (by rw [upd_ne eDl, upd_ne eDp]; exact h2), ?_, lf.eraseIdx r.toNat, acc ++ [y], ?_, ?_, ?_, ?_, ?_, ?_⟩
        · rw [List.length_map]
          exact small1000 (by omega)
        · rw [upd_ne eDl.symm, upd_same, erase_map]
        · rw [upd_same, List.map_append]
          rfl
        · rw [List.length_append, hlen]
          rfl
        · rw [List.append_assoc]
          exact ((erase_perm lf r.toNat y hg).append_left acc).trans hpm
        · refine PoolAt.upd (PoolAt.upd ⟨o, upd_same, po⟩ elp.symm) eDp.symm
        · exact (((hk.trans (Kept.upd p H2 o)).set nl).set nD0)
    · rintro H2 ⟨lf, acc, h1, h2, hlen, hpm, hpo, hk⟩
      obtain ⟨eDl, nD0⟩ := free_upd nD
      refine ⟨D, acc, rfl, SqL.of h2, fun ms c pm so nc => ?_⟩
      have ecp : c ≠ p := pool_ne hpo nc
      have hsub : ∀ x ∈ ms, x ∈ ns := fun x hx => hpm.subset (List.mem_append_left _ (pm.subset hx))
      have hnd : (acc ++ lf).Nodup := hpm.nodup_iff.mpr nd
      exact q c _ ms (hk.free ecp nc) (hk.trans (Kept.same (same_upd nc))) (hpo.upd ecp.symm) upd_same (pm.nodup_iff.mpr (List.nodup_append.mp hnd).1) hsub (by rw [pm.length_eq, hlen]) so
end
end Su
/-! ### W1G: how a row of a web is looked at, of a thing of any kind -/
namespace Su
open PySem PySem.Spec PyProof.Rows L2
structure GbW (mg : Str → Option Value) : Prop where
  last : ∃ t, mg "LAST_ROOM" = some (.int 99 t)
  rows : ∃ t, mg "MOST_ROWS" = some (.int 80 t)
  rooms : ∃ t, mg "MOST_ROOMS" = some (.int 12 t)
def wholeG : G → Bool
  | .int _ => true
  | _ => false
/-- a whole number from 0, below n -/
def inG (n : Int) : G → Bool
  | .int i => decide (0 ≤ i) && decide (i < n)
  | _ => false
def valI : G → Int
  | .int i => i
  | _ => 0
def ups (ns : List Int) : List Bool := (ns.zip (ns.drop 1)).map fun p => decide (p.1 < p.2)
def risG (n : Int) (gs : List G) : Bool := (gs.map (inG n)).all id && (ups (gs.map valI)).all id
def roomsG (lo hi : Int) : G → Bool
  | .tup gs => (decide (lo ≤ (gs.length : Int)) && decide ((gs.length : Int) ≤ hi)) && risG 100 gs
  | _ => false
def tosG (n : Int) : G → Bool
  | .tup gs => decide ((gs.length : Int) ≤ n) && risG n gs
  | _ => false
def rowG (n : Int) : G → Bool
  | .tup [x, y] => roomsG 0 6 x && tosG n y
  | _ => false
theorem ups_get {ns : List Int} {i : Nat} {a b : Int} (e1 : ns[i]? = some a) (e2 : ns[1 + i]? = some b) : (ups ns)[i]? = some (decide (a < b)) := by
  unfold ups
  have z : (ns.zip (ns.drop 1))[i]? = some (a, b) := List.getElem?_zip_eq_some.mpr ⟨e1, by rw [List.getElem?_drop]; exact e2⟩
  rw [List.getElem?_map, z]
  rfl
theorem take_one {α : Type} {l : List α} {i : Nat} {x : α} (e : l[i]? = some x) : l.take (i + 1) = l.take i ++ [x] := by
  rw [List.take_add_one, e]
  rfl
theorem ints_of_all {p : Addr} {H : Hp} {n : Int} : ∀ {vs : List V} {gs : List G}, TgL p H vs gs → (gs.map (inG n)).all id = true → vs = (gs.map valI).map V.int
  | _, _, .nil, _ => rfl
  | _, _, .cons (d := d) h t, e => by
    rw [List.map_cons, List.all_cons, Bool.and_eq_true] at e
    rw [List.map_cons, List.map_cons, ← ints_of_all t e.2]
    cases h with
    | int i => rfl
    | _ => cases e.1
def spWhole : Sp := fun vs H Q _ => ∃ (p : Addr) (v : V) (g : G), vs = [v] ∧ Tg p H v g ∧ Q (.bl (wholeG g)) H
def spRoom : Sp := fun vs H Q _ => ∃ (p : Addr) (v : V) (g : G), vs = [v] ∧ Tg p H v g ∧ Q (.bl (inG 100 g)) H
def spRising : Sp := fun vs H Q _ => ∃ (a : Addr) (ns : List Int), vs = [.ref a] ∧ T2 H a (ns.map V.int) ∧ ns.length ≤ 1000 ∧ ∀ H', Same H H' → Q (.bl ((ups ns).all id)) H'
def spRooms : Sp := fun vs H Q _ => ∃ (p : Addr) (v : V) (g : G) (lo hi : Int), vs = [v, .int lo, .int hi] ∧ Tg p H v g ∧ hi ≤ 1000 ∧ ∀ H', Same H H' → Q (.bl (roomsG lo hi g)) H'
def spTos : Sp := fun vs H Q _ => ∃ (p : Addr) (v : V) (g : G) (n : Int), vs = [v, .int n] ∧ Tg p H v g ∧ n ≤ 1000 ∧ ∀ H', Same H H' → Q (.bl (tosG n g)) H'
def spRow : Sp := fun vs H Q _ => ∃ (p : Addr) (v : V) (g : G) (n : Int), vs = [v, .int n] ∧ Tg p H v g ∧ n ≤ 1000 ∧ ∀ H', Same H H' → Q (.bl (rowG n g)) H'
theorem sc_is_whole : FnScope ["thing"] ["thing"] (defScope s_is_whole) := ⟨rfl, rfl, rfl, by decide +kernel, rfl, by decide +kernel, by decide +kernel⟩
theorem sc_is_room : FnScope ["thing"] ["thing"] (defScope s_is_room) := ⟨rfl, rfl, rfl, by decide +kernel, rfl, by decide +kernel, by decide +kernel⟩
theorem sc_are_rising : FnScope ["numbers", "one", "other"] ["numbers"] (defScope s_are_rising) := ⟨rfl, rfl, rfl, by decide +kernel, rfl, by decide +kernel, by decide +kernel⟩
theorem sc_are_rooms : FnScope ["thing", "least", "most", "room"] ["thing", "least", "most"] (defScope s_are_rooms) := ⟨rfl, rfl, rfl, by decide +kernel, rfl, by decide +kernel, by decide +kernel⟩
theorem sc_are_tos : FnScope ["thing", "rows", "to"] ["thing", "rows"] (defScope s_are_tos) := ⟨rfl, rfl, rfl, by decide +kernel, rfl, by decide +kernel, by decide +kernel⟩
theorem sc_is_row : FnScope ["thing", "rows"] ["thing", "rows"] (defScope s_is_row) := ⟨rfl, rfl, rfl, by decide +kernel, rfl, by decide +kernel, by decide +kernel⟩
section
variable {P : Program} {w : World} {K : PySem.W.Frag} {mg : Str → Option Value} {base : Heap}
theorem whole_int {p : Addr} {H : Hp} {v : V} {g : G} (h : Tg p H v g) (e : wholeG g = true) : ∃ i, v = .int i ∧ g = .int i := by
  cases h with
  | int i => exact ⟨i, rfl, rfl⟩
  | _ => cases e
theorem ok_whole (T : At K mg "is_whole" s_is_whole ["thing"]) (B : Bt mg) : Cal P w K mg base 1 "is_whole" ["thing"] spWhole := by
  refine cal_of T sc_is_whole (fun vs H Q E h => ?_) (fun f cdv A outer s H vs Q E hr h => ?_)
  · obtain ⟨p, v, g, rfl, _⟩ := h
    rfl
  · obtain ⟨p, v, g, rfl, hv, q⟩ := h
    refine ⟨_, (pss_one (ps_ret (pe_and (pe_callB call_isi (by rfl) B.isinstance (by decide +kernel) (pa_cons (pv 0) (pa_cons (pe_bltn (v := .ty "int") (u := .type "int") (by rfl) B.int (by decide +kernel) rfl) pa_nil))) (pe_one (pe_not (pe_callB call_isi (by rfl) B.isinstance (by decide +kernel) (pa_cons (pv 0) (pa_cons (pe_bltn (v := .ty "bool") (u := .type "bool") (by rfl) B.bool (by decide +kernel) rfl) pa_nil)))))))), ?_⟩
    refine ⟨_, rfl, v, .ty "int", _, _, _, rfl, .ty "int", hv.ty, kit_int g, _, rfl, iteB (fun e => ?_) (fun e => ?_)⟩
    · refine ⟨_, rfl, v, .ty "bool", _, _, _, rfl, .ty "bool", hv.ty, kit_bool g, _, rfl, ?_⟩
      rw [show (!isBool g) = wholeG g from by cases g <;> first | rfl | cases e]
      exact q
    · rw [show false = wholeG g from by cases g <;> first | rfl | cases e]
      exact q
theorem ok_room (T : At K mg "is_room" s_is_room ["thing"]) (D : GbW mg) (c_is_whole : Cal P w K mg base 1 "is_whole" ["thing"] spWhole) : Cal P w K mg base 2 "is_room" ["thing"] spRoom := by
  obtain ⟨tl, mLast⟩ := D.last
  refine cal_of T sc_is_room (fun vs H Q E h => ?_) (fun f cdv A outer s H vs Q E hr h => ?_)
  · obtain ⟨p, v, g, rfl, _⟩ := h
    rfl
  · obtain ⟨p, v, g, rfl, hv, q⟩ := h
    refine ⟨_, (pss_one (ps_ret (pe_and (pe_own c_is_whole hr (by decide) (by rfl) (pa_cons (pv 0) pa_nil)) (pe_one (pe_chain op_le op_le pe_int (pv 0) (pe_glob (v := .int 99) rfl mLast ⟨_, rfl⟩)))))), ?_⟩
    refine ⟨_, rfl, p, v, g, rfl, hv, _, rfl, iteB (fun e => ?_) (fun e => ?_)⟩
    · obtain ⟨i, rfl, rfl⟩ := whole_int hv e
      refine ⟨_, rfl, _, _, rfl, rfl, _, rfl, iteB (fun e1 => ?_) (fun e1 => ?_)⟩
      · refine ⟨_, _, rfl, rfl, ?_⟩
        have z : decide (i ≤ 99) = inG 100 (.int i) := by
          show decide (i ≤ 99) = (decide (0 ≤ i) && decide (i < 100))
          rw [e1, Bool.true_and]
          exact decide_eq_decide.mpr (by omega)
        rw [← z] at q
        exact q
      · rw [show false = inG 100 (.int i) from by show false = (decide (0 ≤ i) && decide (i < 100)); rw [e1, Bool.false_and]]
        exact q
    · rw [show false = inG 100 g from by cases g <;> first | rfl | cases e]
      exact q
theorem ok_rising (T : At K mg "are_rising" s_are_rising ["numbers"]) (B : Bt mg) : Cal P w K mg base 1 "are_rising" ["numbers"] spRising := by
  refine cal_of T sc_are_rising (fun vs H Q E h => ?_) (fun f cdv A outer s H vs Q E hr h => ?_)
  · obtain ⟨a, ns, rfl, _⟩ := h
    rfl
  · obtain ⟨a, ns, rfl, ha, hl, q⟩ := h
    refine ⟨_, (pss_one (ps_ret (pe_callB (cr_all rfl) (by rfl) B.all (by decide +kernel) (pa_cons (pe_lc (own := [("one", 1), ("other", 2)]) (g := (gTup K 2 (gCons (gName 1) (gCons (gName 2) gNil)))) (tt := tYes) (te := (tOp (rI0 fun i j => .bl (decide (i < j))) (tVar 1) (tVar 2))) (by rfl) sc_are_rising.nd (RZ.pi_zipA (by rfl) B.zip (pa_cons (pv 0) (pa_cons (pe_slice sl_tup2 (pv 0) (po_some pe_int) po_none) pa_nil))) (blkOk_by (own := [("one", 1), ("other", 2)]) (N := ["numbers", "one", "other"]) (sc := defScope s_are_rising) (by decide +kernel)) (fun _ _ _ _ _ => (pg_tup (by rfl) (pgs_cons (pg_name (i := 1) sc_are_rising.nd rfl (Or.inl rfl)) (pgs_cons (pg_name (i := 2) sc_are_rising.nd rfl (Or.inl rfl)) pgs_nil)))) (fun _ _ _ _ _ => pts_nil) (fun _ _ _ _ _ => (pe_cmpR op_lt (pv 1) (pv 2) (nomark _)))) pa_nil)))), ?_⟩
    refine ⟨_, rfl, _, rfl, 1, rfl, a, _, rfl, ha, fun b H1 s1 hb => ?_⟩
    rw [cut_tail, ← List.map_drop] at hb
    refine ⟨a, b, _, _, rfl, .inr ⟨(ha.same s1).sq, hb.sq, fun D nD => ?_⟩⟩
    refine lc_zipT (K := K) (a := a) (b := b) (xs := ns.map V.int) (ys := (ns.drop 1).map V.int) (by rw [List.length_map, List.length_map, List.length_drop]; omega) (fun i H2 => Same H H2 ∧ T2 H2 a (ns.map V.int) ∧ T2 H2 b ((ns.drop 1).map V.int) ∧ H2 D = some (.lst (((ups ns).take i).map V.bl))) ?_ ?_ ?_ ?_
    · have sD : Same H1 (upd H1 D (.lst [])) := same_upd nD
      exact ⟨s1.trans sD, (ha.same s1).same sD, hb.same sD, upd_same⟩
    · rintro i H2 _ ⟨_, h1, h2, _⟩
      exact ⟨h1.sq, h2.sq⟩
    · rintro i x y T H2 hx hy ⟨s2, h1, h2, hD⟩ nT
      have sT : Same H2 (upd H2 T (.tup [x, y])) := same_upd nT
      rw [List.getElem?_map] at hx hy
      rw [List.getElem?_drop] at hy
      obtain ⟨n1, e1, rfl⟩ := Option.map_eq_some_iff.mp hx
      obtain ⟨n2, e2, rfl⟩ := Option.map_eq_some_iff.mp hy
      have hi : i < ns.length := (List.getElem?_eq_some_iff.mp e1).1
      refine ⟨T, _, rfl, SqT.of upd_same, rfl, _, _, rfl, _, _, rfl, rfl, rfl, tyes ?_⟩
      refine ⟨_, rfl, _, rfl, _, _, rfl, rfl, ((ups ns).take i).map V.bl, sT _ _ hD, ?_, ?_⟩
      · rw [List.length_map, List.length_take]
        exact small1000 (by omega)
      · have h3 := sT _ _ hD
        have k3 := (K2.same sT).trans (K2.lst (u := .lst (((ups ns).take (i + 1)).map V.bl)) h3)
        show _ ∧ _ ∧ _ ∧ _
        rw [take_one (ups_get e1 e2), List.map_append] at k3 ⊢
        refine ⟨fun c o ec => ?_, k3 _ _ h1, k3 _ _ h2, upd_same⟩
        rw [upd_ne (ne_of_none (s1 _ _ ec) nD)]
        exact sT _ _ (s2 _ _ ec)
    · rintro H2 ⟨s2, h1, h2, hD⟩
      refine ⟨D, ups ns, rfl, ?_, ?_⟩
      · rw [List.take_of_length_le (by unfold ups; rw [List.length_map, List.length_zip, List.length_map]; omega)] at hD
        exact SqL.of hD
      · exact q H2 s2
theorem ok_rooms (T : At K mg "are_rooms" s_are_rooms ["thing", "least", "most"]) (B : Bt mg) (c_is_room : Cal P w K mg base 2 "is_room" ["thing"] spRoom) (c_are_rising : Cal P w K mg base 1 "are_rising" ["numbers"] spRising) :
    Cal P w K mg base 3 "are_rooms" ["thing", "least", "most"] spRooms := by
  refine cal_of T sc_are_rooms (fun vs H Q E h => ?_) (fun f cdv A outer s H vs Q E hr h => ?_)
  · obtain ⟨p, v, g, lo, hi, rfl, _⟩ := h
    rfl
  · obtain ⟨p, v, g, lo, hi, rfl, hv, hm, q⟩ := h
    refine ⟨_, (pss_cons (ps_if (PW.pt (pw_or (pt_not (pt_val (pe_callB call_isi (by rfl) B.isinstance (by decide +kernel) (pa_cons (pv 0) (pa_cons (pe_bltn (v := .ty "tuple") (u := .type "tuple") (by rfl) B.tuple (by decide +kernel) rfl) pa_nil))))) (pw_or1 (pt_not (pt_chain op_le op_le (pv 1) (pe_callB call_len_seq (by rfl) B.len PySem.boot_len (pa_cons (pv 0) pa_nil)) (pv 2)))))) (pss_one (ps_ret pe_bl)) pss_nil)
      (pss_one (ps_ret (pe_and (pe_callB (cr_all rfl) (by rfl) B.all (by decide +kernel) (pa_cons (pe_lc (own := [("room", 3)]) (g := (gName 3)) (tt := tYes) (te := (tCall spRoom [] E0 (tCons (tVar 3) tNil))) (by rfl) sc_are_rooms.nd (pi_tup (pv 0)) (blkOk_by (own := [("room", 3)]) (N := ["thing", "least", "most", "room"]) (sc := defScope s_are_rooms) (by decide +kernel)) (fun _ _ _ _ _ => (pg_name (i := 3) sc_are_rooms.nd rfl (Or.inl rfl))) (fun _ _ _ _ _ => pts_nil) (fun _ _ _ _ _ => (pe_own c_is_room hr (by decide) (by rfl) (pa_cons (pv 3) pa_nil)))) pa_nil)) (pe_one (pe_own c_are_rising hr (by decide) (by rfl) (pa_cons (pv 0) pa_nil))))))), ?_⟩
    refine ⟨_, rfl, v, .ty "tuple", _, _, _, rfl, .ty "tuple", hv.ty, kit_tuple g, _, rfl, iteB (fun e => ?_) (fun e => ?_)⟩
    · refine iteT ?_
      rw [show false = roomsG lo hi g from by cases g <;> first | rfl | cases e]
      exact q H (Same.refl H)
    cases hv with
    | @tup a vs gs ha t =>
      have hlen : vs.length = gs.length := t.len
      refine ⟨_, rfl, _, rfl, a, _, rfl, .inr ha.sq, _, _, rfl, rfl, _, rfl, iteB (fun e1 => ?_) (fun e1 => ?_)⟩
      · refine ⟨_, rfl, _, _, rfl, rfl, _, rfl, ?_⟩
        rw [hlen] at e1 ⊢
        refine iteB (fun e2 => ?_) (fun e2 => ?_)
        · have e3 : decide ((gs.length : Int) ≤ hi) = false := by simpa using e2
          have z : false = roomsG lo hi (.tup gs) := by
            show false = ((decide (lo ≤ (gs.length : Int)) && decide ((gs.length : Int) ≤ hi)) && risG 100 gs)
            rw [e3, Bool.and_false, Bool.false_and]
          rw [z]
          exact q H (Same.refl H)
        · have e3 : decide ((gs.length : Int) ≤ hi) = true := by simpa using e2
          have small : gs.length ≤ 1000 := by
            have := of_decide_eq_true e3
            omega
          have z : roomsG lo hi (.tup gs) = risG 100 gs := by
            show ((decide (lo ≤ (gs.length : Int)) && decide ((gs.length : Int) ≤ hi)) && risG 100 gs) = _
            rw [e1, e3, Bool.true_and, Bool.true_and]
          refine ⟨_, rfl, a, rfl, ⟨_, ha.sq⟩, fun D nD => ?_⟩
          refine lc_tup (K := K) (a := a) (xs := vs) (fun i H2 => Same H H2 ∧ T2 H2 a vs ∧ H2 D = some (.lst (((gs.map (inG 100)).take i).map V.bl))) ?_ ?_ ?_ ?_
          · have sD : Same H (upd H D (.lst [])) := same_upd nD
            exact ⟨sD, ha.same sD, upd_same⟩
          · rintro i H2 _ ⟨_, h3, _⟩
            exact h3.sq
          · rintro i x H2 hx ⟨s2, h3, hD⟩
            obtain ⟨g1, e4, tg⟩ := t.get hx
            have hi : i < gs.length := (List.getElem?_eq_some_iff.mp e4).1
            refine ⟨rfl, tyes ?_⟩
            refine ⟨_, rfl, p, x, g1, rfl, tg.keep (Keeps.same s2), ((gs.map (inG 100)).take i).map V.bl, hD, (by rw [List.length_map, List.length_take, List.length_map]; exact small1000 (by omega)), ?_⟩
            rw [take_one (x := inG 100 g1) (by rw [List.getElem?_map, e4]; rfl), List.map_append]
            refine ⟨fun c o ec => ?_, K2.lst hD _ _ h3, upd_same⟩
            rw [upd_ne (ne_of_none ec nD)]
            exact s2 _ _ ec
          · rintro H2 ⟨s2, h3, hD⟩
            rw [List.take_of_length_le (by rw [List.length_map]; omega)] at hD
            refine ⟨D, gs.map (inG 100), rfl, SqL.of hD, _, rfl, iteB (fun e5 => ?_) (fun e5 => ?_)⟩
            · rw [ints_of_all t e5] at h3
              refine ⟨_, rfl, a, _, rfl, h3, (by rw [List.length_map]; exact small), fun H3 s3 => ?_⟩
              have q3 := q H3 (s2.trans s3)
              rw [z] at q3
              unfold risG at q3
              rw [e5, Bool.true_and] at q3
              exact q3
            · have q3 := q H2 s2
              rw [z] at q3
              unfold risG at q3
              rw [e5, Bool.false_and] at q3
              exact q3
      · refine ⟨_, rfl, iteT ?_⟩
        rw [hlen] at e1
        have z : false = roomsG lo hi (.tup gs) := by
          show false = ((decide (lo ≤ (gs.length : Int)) && decide ((gs.length : Int) ≤ hi)) && risG 100 gs)
          rw [e1, Bool.false_and, Bool.false_and]
        rw [z]
        exact q H (Same.refl H)
    | _ => cases e
theorem ok_tos (T : At K mg "are_tos" s_are_tos ["thing", "rows"]) (B : Bt mg) (c_is_whole : Cal P w K mg base 1 "is_whole" ["thing"] spWhole) (c_are_rising : Cal P w K mg base 1 "are_rising" ["numbers"] spRising) :
    Cal P w K mg base 2 "are_tos" ["thing", "rows"] spTos := by
  refine cal_of T sc_are_tos (fun vs H Q E h => ?_) (fun f cdv A outer s H vs Q E hr h => ?_)
  · obtain ⟨p, v, g, n, rfl, _⟩ := h
    rfl
  · obtain ⟨p, v, g, n, rfl, hv, hm, q⟩ := h
    refine ⟨_, (pss_cons (ps_if (PW.pt (pw_or (pt_not (pt_val (pe_callB call_isi (by rfl) B.isinstance (by decide +kernel) (pa_cons (pv 0) (pa_cons (pe_bltn (v := .ty "tuple") (u := .type "tuple") (by rfl) B.tuple (by decide +kernel) rfl) pa_nil))))) (pw_or1 (pt_cmpR op_gt (pe_callB call_len_seq (by rfl) B.len PySem.boot_len (pa_cons (pv 0) pa_nil)) (pv 1) (nomark _))))) (pss_one (ps_ret pe_bl)) pss_nil)
      (pss_one (ps_ret (pe_and (pe_callB (cr_all rfl) (by rfl) B.all (by decide +kernel) (pa_cons (pe_lc (own := [("to", 2)]) (g := (gName 2)) (tt := tYes) (te := (tAndV (tCall spWhole [] E0 (tCons (tVar 2) tNil)) (tChain (rI0 fun i j => .bl (decide (i ≤ j))) (rI0 fun i j => .bl (decide (i < j))) (tC (.int 0)) (tVar 2) (tVar 1)))) (by rfl) sc_are_tos.nd (pi_tup (pv 0)) (blkOk_by (own := [("to", 2)]) (N := ["thing", "rows", "to"]) (sc := defScope s_are_tos) (by decide +kernel)) (fun _ _ _ _ _ => (pg_name (i := 2) sc_are_tos.nd rfl (Or.inl rfl))) (fun _ _ _ _ _ => pts_nil) (fun _ _ _ _ _ => (pe_and (pe_own c_is_whole hr (by decide) (by rfl) (pa_cons (pv 2) pa_nil)) (pe_one (pe_chain op_le op_lt pe_int (pv 2) (pv 1)))))) pa_nil)) (pe_one (pe_own c_are_rising hr (by decide) (by rfl) (pa_cons (pv 0) pa_nil))))))), ?_⟩
    refine ⟨_, rfl, v, .ty "tuple", _, _, _, rfl, .ty "tuple", hv.ty, kit_tuple g, _, rfl, iteB (fun e => ?_) (fun e => ?_)⟩
    · refine iteT ?_
      rw [show false = tosG n g from by cases g <;> first | rfl | cases e]
      exact q H (Same.refl H)
    cases hv with
    | @tup a vs gs ha t =>
      have hlen : vs.length = gs.length := t.len
      refine ⟨_, rfl, a, _, rfl, .inr ha.sq, _, rfl, _, _, rfl, rfl, _, rfl, ?_⟩
      rw [hlen]
      refine iteB (fun e1 => ?_) (fun e1 => ?_)
      · have e3 : decide ((gs.length : Int) ≤ n) = false := decide_eq_false (by have := of_decide_eq_true e1; omega)
        have z : false = tosG n (.tup gs) := by
          show false = (decide ((gs.length : Int) ≤ n) && risG n gs)
          rw [e3, Bool.false_and]
        rw [z]
        exact q H (Same.refl H)
      · have e3 : decide ((gs.length : Int) ≤ n) = true := decide_eq_true (by have := of_decide_eq_false e1; omega)
        have small : gs.length ≤ 1000 := by
          have := of_decide_eq_true e3
          omega
        have z : tosG n (.tup gs) = risG n gs := by
          show (decide ((gs.length : Int) ≤ n) && risG n gs) = _
          rw [e3, Bool.true_and]
        refine ⟨_, rfl, a, rfl, ⟨_, ha.sq⟩, fun D nD => ?_⟩
        refine lc_tup (K := K) (a := a) (xs := vs) (fun i H2 => Same H H2 ∧ T2 H2 a vs ∧ H2 D = some (.lst (((gs.map (inG n)).take i).map V.bl))) ?_ ?_ ?_ ?_
        · have sD : Same H (upd H D (.lst [])) := same_upd nD
          exact ⟨sD, ha.same sD, upd_same⟩
        · rintro i H2 _ ⟨_, h3, _⟩
          exact h3.sq
        · rintro i x H2 hx ⟨s2, h3, hD⟩
          obtain ⟨g1, e4, tg⟩ := t.get hx
          have hi : i < gs.length := (List.getElem?_eq_some_iff.mp e4).1
          have fin : ∀ b : Bool, b = inG n g1 → ∃ acc, H2 D = some (.lst acc) ∧ acc.length < sizeLine ∧ (Same H (upd H2 D (.lst (acc ++ [V.bl b]))) ∧ T2 (upd H2 D (.lst (acc ++ [V.bl b]))) a vs ∧ (upd H2 D (.lst (acc ++ [V.bl b]))) D = some (.lst (((gs.map (inG n)).take (i + 1)).map V.bl))) := by
            rintro b rfl
            refine ⟨((gs.map (inG n)).take i).map V.bl, hD, (by rw [List.length_map, List.length_take, List.length_map]; exact small1000 (by omega)), ?_⟩
            rw [take_one (x := inG n g1) (by rw [List.getElem?_map, e4]; rfl), List.map_append]
            refine ⟨fun c o ec => ?_, K2.lst hD _ _ h3, upd_same⟩
            rw [upd_ne (ne_of_none ec nD)]
            exact s2 _ _ ec
          refine ⟨rfl, tyes ?_⟩
          refine ⟨_, rfl, p, x, g1, rfl, tg.keep (Keeps.same s2), _, rfl, iteB (fun e5 => ?_) (fun e5 => ?_)⟩
          · obtain ⟨j, rfl, rfl⟩ := whole_int tg e5
            refine ⟨_, rfl, _, _, rfl, rfl, _, rfl, iteB (fun e6 => ?_) (fun e6 => ?_)⟩
            · refine ⟨_, rfl, _, _, rfl, rfl, fin _ ?_⟩
              show decide (j < n) = (decide (0 ≤ j) && decide (j < n))
              rw [e6, Bool.true_and]
            · refine fin _ ?_
              show false = (decide (0 ≤ j) && decide (j < n))
              rw [e6, Bool.false_and]
          · refine fin _ ?_
            cases g1 <;> first | rfl | cases e5
        · rintro H2 ⟨s2, h3, hD⟩
          rw [List.take_of_length_le (by rw [List.length_map]; omega)] at hD
          refine ⟨D, gs.map (inG n), rfl, SqL.of hD, _, rfl, iteB (fun e5 => ?_) (fun e5 => ?_)⟩
          · rw [ints_of_all t e5] at h3
            refine ⟨_, rfl, a, _, rfl, h3, (by rw [List.length_map]; exact small), fun H3 s3 => ?_⟩
            have q3 := q H3 (s2.trans s3)
            rw [z] at q3
            unfold risG at q3
            rw [e5, Bool.true_and] at q3
            exact q3
          · have q3 := q H2 s2
            rw [z] at q3
            unfold risG at q3
            rw [e5, Bool.false_and] at q3
            exact q3
    | _ => cases e
theorem ok_row (T : At K mg "is_row" s_is_row ["thing", "rows"]) (B : Bt mg) (c_are_rooms : Cal P w K mg base 3 "are_rooms" ["thing", "least", "most"] spRooms) (c_are_tos : Cal P w K mg base 2 "are_tos" ["thing", "rows"] spTos) :
    Cal P w K mg base 4 "is_row" ["thing", "rows"] spRow := by
  refine cal_of T sc_is_row (fun vs H Q E h => ?_) (fun f cdv A outer s H vs Q E hr h => ?_)
  · obtain ⟨p, v, g, n, rfl, _⟩ := h
    rfl
  · obtain ⟨p, v, g, n, rfl, hv, hm, q⟩ := h
    refine ⟨_, (pss_cons (ps_if (PW.pt (pw_or (pt_not (pt_val (pe_callB call_isi (by rfl) B.isinstance (by decide +kernel) (pa_cons (pv 0) (pa_cons (pe_bltn (v := .ty "tuple") (u := .type "tuple") (by rfl) B.tuple (by decide +kernel) rfl) pa_nil))))) (pw_or1 (pt_cmpR op_ne (pe_callB call_len_seq (by rfl) B.len PySem.boot_len (pa_cons (pv 0) pa_nil)) pe_int (nomark _))))) (pss_one (ps_ret pe_bl)) pss_nil)
      (pss_one (ps_ret (pe_and (pe_own c_are_rooms hr (by decide) (by rfl) (pa_cons (pe_ix ix_tup (pv 0) pe_int (fun _ _ => rfl)) (pa_cons pe_int (pa_cons pe_int pa_nil)))) (pe_one (pe_own c_are_tos hr (by decide) (by rfl) (pa_cons (pe_ix ix_tup (pv 0) pe_int (fun _ _ => rfl)) (pa_cons (pv 1) pa_nil)))))))), ?_⟩
    refine ⟨_, rfl, v, .ty "tuple", _, _, _, rfl, .ty "tuple", hv.ty, kit_tuple g, _, rfl, iteB (fun e => ?_) (fun e => ?_)⟩
    · refine iteT ?_
      rw [show false = rowG n g from by cases g <;> first | rfl | cases e]
      exact q H (Same.refl H)
    cases hv with
    | @tup a vs gs ha t =>
      have hlen : vs.length = gs.length := t.len
      refine ⟨_, rfl, a, _, rfl, .inr ha.sq, rfl, _, rfl, ?_⟩
      match gs, vs, t, hlen, ha, q with
      | [], [], _, _, _, q => exact iteT (q H (Same.refl H))
      | [_], [_], _, _, _, q => exact iteT (q H (Same.refl H))
      | _ :: _ :: _ :: _, _ :: _ :: _ :: _, _, _, _, q =>
        refine iteB (fun _ => q H (Same.refl H)) (fun z => ?_)
        simp at z
        omega
      | [x, y], [v1, v2], .cons tx (.cons ty _), _, ha, q =>
        refine iteNS rfl ?_
        refine ⟨_, rfl, _, _, _, _, rfl, rfl, ha.sq, atI_nat (j := 0) rfl, p, v1, x, 0, 6, rfl, tx, by decide, fun H1 s1 => ?_⟩
        refine ⟨_, rfl, iteB (fun e5 => ?_) (fun e5 => ?_)⟩
        · refine ⟨_, rfl, _, _, _, _, rfl, rfl, (ha.same s1).sq, atI_nat (j := 1) rfl, _, rfl, p, v2, y, n, rfl, ty.keep (Keeps.same s1), hm, fun H2 s2 => ?_⟩
          have q3 := q H2 (s1.trans s2)
          rw [show rowG n (.tup [x, y]) = (roomsG 0 6 x && tosG n y) from rfl, e5, Bool.true_and] at q3
          exact q3
        · have q3 := q H1 s1
          rw [show rowG n (.tup [x, y]) = (roomsG 0 6 x && tosG n y) from rfl, e5, Bool.false_and] at q3
          exact q3
    | _ => cases e
end
end Su
/-! ### W2G: the rooms of a web; how a thing of any kind is looked at as a web -/
namespace Su
open PySem PySem.Spec PyProof.Rows L2
def spRoomsIn (w : World) : Sp := fun vs H Q _ => ∃ (p : Addr) (rs : List Rw) (A : List Int), vs = [.ref p] ∧ WebAt H p rs ∧ A.length < 1000 ∧ (∀ k ∈ allRooms rs, k ∈ A) ∧
  ∀ (ms : List Int) (u : Addr) (H' : Hp), ms.Pairwise (· < ·) → (∀ k : Int, k ∈ ms ↔ k ∈ allRooms rs) → Same H H' → H u = none → H' u = some (.lst (ms.map V.int)) → Q (.ref u) H'
def rwOf : G → Rw
  | .tup [.tup rs, .tup ts] => (rs.map valI, ts.map valI)
  | _ => ([], [])
/-- the first that is not so -/
def badAt (f : G → Bool) : List G → Option Nat
  | [] => none
  | g :: gs => if f g = true then (badAt f gs).map (· + 1) else some 0
/-- the rooms, each once -/
def oneEach : List Int → List Int
  | [] => []
  | a :: l => if a ∈ oneEach l then oneEach l else a :: oneEach l
theorem oneEach_mem (k : Int) : ∀ l : List Int, k ∈ oneEach l ↔ k ∈ l
  | [] => Iff.rfl
  | a :: l => by
    unfold oneEach
    by_cases h : a ∈ oneEach l
    · rw [if_pos h, oneEach_mem k l, List.mem_cons]
      constructor
      · exact .inr
      · rintro (rfl | z)
        · exact (oneEach_mem k l).mp h
        · exact z
    · rw [if_neg h, List.mem_cons, List.mem_cons, oneEach_mem k l]
theorem oneEach_nodup : ∀ l : List Int, (oneEach l).Nodup
  | [] => List.nodup_nil
  | a :: l => by
    unfold oneEach
    by_cases h : a ∈ oneEach l
    · rw [if_pos h]
      exact oneEach_nodup l
    · rw [if_neg h]
      exact List.nodup_cons.mpr ⟨h, oneEach_nodup l⟩
theorem len_same {a b : List Int} (na : a.Nodup) (nb : b.Nodup) (h : ∀ k, k ∈ a ↔ k ∈ b) : a.length = b.length :=
  Nat.le_antisymm (nodup_few na fun k hk => (h k).mp hk) (nodup_few nb fun k hk => (h k).mpr hk)
theorem badAt_none {f : G → Bool} : ∀ {gs : List G}, (∀ g ∈ gs, f g = true) → badAt f gs = none
  | [], _ => rfl
  | g :: gs, h => by
    unfold badAt
    rw [if_pos (h g List.mem_cons_self), badAt_none fun x hx => h x (List.mem_cons_of_mem _ hx)]
    rfl
theorem badAt_some {f : G → Bool} : ∀ {gs : List G} {i : Nat} {g : G}, (∀ (j : Nat) (x : G), j < i → gs[j]? = some x → f x = true) → gs[i]? = some g → f g = false → badAt f gs = some i
  | [], _, _, _, e, _ => by simp at e
  | x :: gs, 0, g, _, e, b => by
    obtain rfl := (by simpa using e : x = g)
    unfold badAt
    rw [if_neg (by rw [b]; exact Bool.false_ne_true)]
  | x :: gs, i + 1, g, h, e, b => by
    unfold badAt
    rw [if_pos (h 0 x (Nat.succ_pos _) rfl), badAt_some (gs := gs) (i := i) (fun j y hj ey => h (j + 1) y (Nat.succ_lt_succ hj) (by simpa using ey)) (by simpa using e) b]
    rfl
theorem inG_val {n : Int} {g : G} (h : inG n g = true) : 0 ≤ valI g ∧ valI g < n := by
  cases g with
  | int i =>
    have z : (decide (0 ≤ i) && decide (i < n)) = true := h
    rw [Bool.and_eq_true, decide_eq_true_eq, decide_eq_true_eq] at z
    exact z
  | _ => cases h
theorem rowG_shape {n : Int} {g : G} (e : rowG n g = true) : ∃ x y, g = .tup [x, y] ∧ roomsG 0 6 x = true ∧ tosG n y = true := by
  unfold rowG at e
  split at e
  · rw [Bool.and_eq_true] at e
    exact ⟨_, _, rfl, e.1, e.2⟩
  · cases e
theorem roomsG_shape {lo hi : Int} {g : G} (e : roomsG lo hi g = true) : ∃ rs, g = .tup rs ∧ risG 100 rs = true := by
  unfold roomsG at e
  split at e
  · rw [Bool.and_eq_true] at e
    exact ⟨_, rfl, e.2⟩
  · cases e
theorem tosG_shape {n : Int} {g : G} (e : tosG n g = true) : ∃ rs, g = .tup rs ∧ risG n rs = true := by
  unfold tosG at e
  split at e
  · rw [Bool.and_eq_true] at e
    exact ⟨_, rfl, e.2⟩
  · cases e
theorem tup_at {p : Addr} {H : Hp} {v : V} {gs : List G} {n : Int} (h : Tg p H v (.tup gs)) (e : risG n gs = true) : ∃ a, v = .ref a ∧ T2 H a ((gs.map valI).map V.int) ∧ ∀ k ∈ gs.map valI, 0 ≤ k ∧ k < n := by
  unfold risG at e
  rw [Bool.and_eq_true] at e
  cases h with
  | @tup a vs _ ha t =>
    rw [ints_of_all t e.1] at ha
    refine ⟨a, rfl, ha, fun k hk => ?_⟩
    obtain ⟨gk, hg, rfl⟩ := List.mem_map.mp hk
    exact inG_val ((List.all_eq_true.mp e.1) _ (List.mem_map.mpr ⟨gk, hg, rfl⟩))
theorem rowG_at {p : Addr} {H : Hp} {v : V} {g : G} {n : Int} (h : Tg p H v g) (e : rowG n g = true) : RowAt H v (rwOf g) ∧ ∀ k ∈ (rwOf g).1, 0 ≤ k ∧ k < 100 := by
  obtain ⟨x, y, rfl, ex, ey⟩ := rowG_shape e
  obtain ⟨rs, rfl, e1⟩ := roomsG_shape ex
  obtain ⟨ts, rfl, e2⟩ := tosG_shape ey
  cases h with
  | @tup a vs _ ha t =>
    cases t with
    | cons tx t1 =>
      cases t1 with
      | cons ty t2 =>
        cases t2
        obtain ⟨b, rfl, hb, kb⟩ := tup_at tx e1
        obtain ⟨c, rfl, hc, _⟩ := tup_at ty e2
        exact ⟨⟨a, b, c, rfl, ha, hb, hc⟩, kb⟩
theorem rows_at {p : Addr} {H : Hp} {n : Int} : ∀ {vs : List V} {gs : List G}, TgL p H vs gs → (∀ g ∈ gs, rowG n g = true) → RowsAt H vs (gs.map rwOf) ∧ ∀ k ∈ allRooms (gs.map rwOf), 0 ≤ k ∧ k < 100
  | _, _, .nil, _ => ⟨trivial, fun k hk => by cases hk⟩
  | _, _, .cons (d := d) (ds := ds) h t, e => by
    obtain ⟨a1, a2⟩ := rowG_at h (e d List.mem_cons_self)
    obtain ⟨b1, b2⟩ := rows_at t fun g hg => e g (List.mem_cons_of_mem _ hg)
    refine ⟨⟨a1, b1⟩, fun k hk => ?_⟩
    rcases List.mem_append.mp (show k ∈ (rwOf d).1 ++ allRooms (ds.map rwOf) from hk) with z | z
    · exact a2 k z
    · exact b2 k z
/-- none: a web; some r: it is refused, its row r -/
def lookG : G → Option (Option Nat)
  | .lst gs => if 1 ≤ gs.length ∧ gs.length ≤ 80 then (match badAt (rowG gs.length) gs with
    | some i => some (some i)
    | none => if 12 < (oneEach (allRooms (gs.map rwOf))).length then some none else none) else some none
  | _ => some none
def rowV : Option Nat → V
  | none => .non
  | some i => .int i
def spLook (C : Addr) : Sp := fun vs H Q E => ∃ (p : Addr) (v : V) (g : G), vs = [v] ∧ Tg p H v g ∧ (lookG g = none → ∀ H', Same H H' → Q .non H') ∧
  ∀ r, lookG g = some r → ∀ (H' : Hp) (d : Addr), Same H H' → H d = none → H' d = some (.xd [("row", rowV r)]) → E (.ref C) (some d) H'
theorem allRooms_app (a b : List Rw) : allRooms (a ++ b) = allRooms a ++ allRooms b := by
  unfold allRooms
  rw [List.map_append, List.flatten_append]
theorem allRooms_take {rs : List Rw} {i : Nat} {r : Rw} (h : rs[i]? = some r) : allRooms (rs.take (i + 1)) = allRooms (rs.take i) ++ r.1 := by
  rw [List.take_add_one, h, allRooms_app]
  show _ ++ (r.1 ++ []) = _
  rw [List.append_nil]
theorem allRooms_sub {rs : List Rw} {i : Nat} {k : Int} (h : k ∈ allRooms (rs.take i)) : k ∈ allRooms rs := by
  rw [← List.take_append_drop i rs, allRooms_app]
  exact List.mem_append_left _ h
theorem sc_rooms_in : FnScope ["rows", "rooms", "tos", "room"] ["rows"] (defScope s_rooms_in) := ⟨rfl, rfl, rfl, by decide +kernel, rfl, by decide +kernel, by decide +kernel⟩
theorem sc_look_at_web : FnScope ["thing", "number", "row"] ["thing"] (defScope s_look_at_web) := ⟨rfl, rfl, rfl, by decide +kernel, rfl, by decide +kernel, by decide +kernel⟩
section
variable {P : Program} {w : World} {K : PySem.W.Frag} {mg : Str → Option Value} {base : Heap}
theorem ok_rooms_in (T : At K mg "rooms_in" s_rooms_in ["rows"]) (B : Bt mg) : Cal P w K mg base 1 "rooms_in" ["rows"] (spRoomsIn w) := by
  refine cal_of T sc_rooms_in (fun vs H Q E h => ?_) (fun f cdv A outer s H vs Q E hr h => ?_)
  · obtain ⟨p, rs, A, rfl, _⟩ := h
    rfl
  · obtain ⟨p, rs, A, rfl, ⟨ws, hp, hrs⟩, hA, hin, q⟩ := h
    refine ⟨_, (pss_one (ps_ret (pe_callB (cr_sortedS rfl) (by rfl) B.sorted (by decide +kernel) (pa_cons (pe_sc2 (own := [("rooms", 1), ("tos", 2), ("room", 3)]) (vs1 := [3]) (go := (gTup K 2 (gCons (gName 1) (gCons (gName 2) gNil)))) (wn := iTup K (tVar 1)) (gn := (gName 3)) (te := (tVar 3)) (by rfl) sc_rooms_in.nd (pi_list (pv 0)) (blkOk_by (own := [("rooms", 1), ("tos", 2), ("room", 3)]) (N := ["rows", "rooms", "tos", "room"]) (sc := defScope s_rooms_in) (by decide +kernel)) (by decide) (fun _ _ _ _ _ => (pg_tup (by rfl) (pgs_cons (pg_name (i := 1) sc_rooms_in.nd rfl (Or.inl rfl)) (pgs_cons (pg_name (i := 2) sc_rooms_in.nd rfl (Or.inl rfl)) pgs_nil)))) (fun _ _ _ _ _ => (pi_tup (pv 1))) (fun _ _ _ _ _ => (pg_name (i := 3) sc_rooms_in.nd rfl (Or.inl rfl))) (fun _ _ _ _ _ => (pv 3))) pa_nil)))), ?_⟩
    have hwl := hrs.len
    refine ⟨_, rfl, p, rfl, ⟨_, SqL.of hp⟩, fun D nD => ?_⟩
    refine ⟨fun i m H2 => m = ws.length - i ∧ i ≤ ws.length ∧ Same H H2 ∧ SetIs w H2 D (allRooms (rs.take i)), ⟨ws.length, (Nat.sub_zero _).symm, Nat.zero_le _, same_upd nD, ⟨_, 0, [], upd_same, List.nodup_nil, rfl, fun k => by simp, fun k => by simp [allRooms]⟩⟩, ?_⟩
    rintro i m H2 ⟨rfl, hi, s2, set2⟩
    by_cases hlt : i < ws.length
    · have hx : ws[i]? = some ws[i] := List.getElem?_eq_getElem hlt
      obtain ⟨r, er, a, b, c, ea, ha, hb, hc⟩ := hrs.get hx
      refine .inr ⟨⟨ws, ws[i], SqL.of (s2 _ _ hp), hx⟩, fun H3 => Same H H3 ∧ SetIs w H3 D (allRooms (rs.take (i + 1))), fun H' h => ⟨ws.length - (i + 1), by omega, rfl, hlt, h⟩, fun x H' y => ?_⟩
      obtain ⟨e1, y⟩ := y
      have ex : x = .ref a := by
        have z := y ws (SqL.of (s2 _ _ hp))
        rw [hx] at z
        injection z with z
        rw [← z, ea]
      rw [e1]
      clear e1 y
      subst ex
      refine ⟨a, _, rfl, (ha.same s2).sq, rfl, _, _, rfl, _, _, rfl, rfl, rfl, ?_⟩
      refine ⟨_, rfl, b, rfl, ⟨_, (hb.same s2).sq⟩, ?_⟩
      refine ⟨fun j k H3 => k = r.1.length - j ∧ j ≤ r.1.length ∧ Same H H3 ∧ SetIs w H3 D (allRooms (rs.take i) ++ r.1.take j), ⟨r.1.length, (Nat.sub_zero _).symm, Nat.zero_le _, s2, by rw [List.take_zero, List.append_nil]; exact set2⟩, ?_⟩
      rintro j k H3 ⟨rfl, hj, s3, set3⟩
      by_cases hjt : j < r.1.length
      · have hy : (r.1.map V.int)[j]? = some (V.int r.1[j]) := by
          rw [List.getElem?_map, List.getElem?_eq_getElem hjt]
          rfl
        refine .inr ⟨⟨_, _, (hb.same s3).sq, hy⟩, fun H4 => Same H H4 ∧ SetIs w H4 D (allRooms (rs.take i) ++ r.1.take (j + 1)), fun H' h => ⟨r.1.length - (j + 1), by omega, rfl, hjt, h⟩, fun y H' yl => ?_⟩
        obtain ⟨e2, yl⟩ := yl
        have ey : y = .int r.1[j] := by
          have z := yl _ (hb.same s3).sq
          rw [hy] at z
          injection z with z
          exact z.symm
        rw [e2]
        clear e2 yl
        subst ey
        refine ⟨rfl, _, rfl, ?_⟩
        have sub3 : ∀ k ∈ allRooms (rs.take i) ++ r.1.take j, k ∈ A := by
          intro k hk
          rcases List.mem_append.mp hk with z | z
          · exact hin k (allRooms_sub z)
          · refine hin k (allRooms_sub (i := i + 1) ?_)
            rw [allRooms_take er]
            exact List.mem_append_right _ (List.mem_of_mem_take z)
        obtain ⟨S, n, eD, few, nx⟩ := set3.add (A := A) (by omega) sub3 r.1[j]
        refine ⟨_, S, n, rfl, eD, few, fun c o ec => ?_, ?_⟩
        · rw [upd_ne (ne_of_none ec nD)]
          exact s3 _ _ ec
        · rw [List.take_add_one, List.getElem?_eq_getElem hjt, ← List.append_assoc]
          exact nx _ upd_same
      · have e : j = r.1.length := by omega
        subst e
        rw [List.take_length] at set3
        refine .inl ⟨⟨_, (hb.same s3).sq, by rw [List.length_map]; exact Nat.le_refl _⟩, s3, ?_⟩
        rw [allRooms_take er]
        exact set3
    · have e : i = ws.length := by omega
      subst e
      rw [hwl, List.take_length] at set2
      refine .inl ⟨⟨ws, SqL.of (s2 _ _ hp), Nat.le_refl _⟩, ?_⟩
      refine ⟨D, _, rfl, set2, fun ms u pw mem nu => ?_⟩
      exact q ms u _ pw mem (s2.trans (same_upd nu)) (s2.free nu) upd_same
theorem ok_look {C fI : Addr} {newId initId : String} {bmB : List Value} (OW : XC.Own P K mg "NoWeb" "row" C fI "ValueError" newId initId bmB) (T : At K mg "look_at_web" s_look_at_web ["thing"]) (B : Bt mg) (D : GbW mg) (c_is_row : Cal P w K mg base 4 "is_row" ["thing", "rows"] spRow) (c_rooms_in : Cal P w K mg base 1 "rooms_in" ["rows"] (spRoomsIn w)) :
    CalX P w K mg base 5 "look_at_web" ["thing"] (spLook C) := by
  obtain ⟨tr, mRows⟩ := D.rows
  obtain ⟨tm, mRooms⟩ := D.rooms
  refine cal_ofX T sc_look_at_web (fun vs H Q E h => ?_) (fun f cdv A outer s H vs Q E hr h => ?_)
  · obtain ⟨p, v, g, rfl, _⟩ := h
    rfl
  · obtain ⟨p, v, g, rfl, hv, qy, qn⟩ := h
    refine ⟨_, (pss_cons (ps_if (PW.pt (pw_or (pt_not (pt_val (pe_callB call_isi (by rfl) B.isinstance (by decide +kernel) (pa_cons (pv 0) (pa_cons (pe_bltn (v := .ty "list") (u := .type "list") (by rfl) B.list (by decide +kernel) rfl) pa_nil))))) (pw_or1 (pt_not (pt_chain op_le op_le pe_int (pe_callB call_len_seq (by rfl) B.len PySem.boot_len (pa_cons (pv 0) pa_nil)) (pe_glob (v := .int 80) rfl mRows ⟨_, rfl⟩)))))) (pss_one (ps_raiseX rfl OW hr (takes_of rfl rfl rfl rfl) (pa_cons pe_non pa_nil))) pss_nil)
      (pss_cons (ps_for (passes_of rfl) rfl (pi_enum (by rfl) B.enumerate (pa_cons (pv 0) pa_nil)) (pg_tup (by rfl) (pgs_cons (pg_name (i := 1) sc_look_at_web.nd rfl (Or.inl rfl)) (pgs_cons (pg_name (i := 2) sc_look_at_web.nd rfl (Or.inl rfl)) pgs_nil))) (pss_one (ps_if (pt_not (pt_val (pe_own c_is_row hr (by decide) (by rfl) (pa_cons (pv 2) (pa_cons (pe_callB call_len_seq (by rfl) B.len PySem.boot_len (pa_cons (pv 0) pa_nil)) pa_nil))))) (pss_one (ps_raiseX rfl OW hr (takes_of rfl rfl rfl rfl) (pa_cons (pv 1) pa_nil))) pss_nil)))
      (pss_one (ps_if (pt_cmpR op_gt (pe_callB call_len_seq (by rfl) B.len PySem.boot_len (pa_cons (pe_own c_rooms_in hr (by decide) (by rfl) (pa_cons (pv 0) pa_nil)) pa_nil)) (pe_glob (v := .int 12) rfl mRooms ⟨_, rfl⟩) (nomark _)) (pss_one (ps_raiseX rfl OW hr (takes_of rfl rfl rfl rfl) (pa_cons pe_non pa_nil))) pss_nil)))), ?_⟩
    refine ⟨_, rfl, v, .ty "list", _, _, _, rfl, .ty "list", hv.ty, kit_list g, _, rfl, iteB (fun e => ?_) (fun e => ?_)⟩
    · refine iteT ?_
      have z : lookG g = some none := by
        cases g <;> first | rfl | cases e
      exact ⟨_, rfl, fun d hd => qn none z _ d (same_upd hd) hd upd_same⟩
    cases hv with
    | @lst a vs gs na ha t =>
      have hlen : vs.length = gs.length := t.len
      have lk : lookG (.lst gs) = if 1 ≤ gs.length ∧ gs.length ≤ 80 then (match badAt (rowG gs.length) gs with
        | some i => some (some i)
        | none => if 12 < (oneEach (allRooms (gs.map rwOf))).length then some none else none) else some none := rfl
      refine ⟨_, rfl, a, _, rfl, .inl (SqL.of ha), _, _, rfl, rfl, _, rfl, iteB (fun e1 => ?_) (fun e1 => ?_)⟩
      · refine ⟨_, _, rfl, rfl, _, rfl, ?_⟩
        have l1 := of_decide_eq_true e1
        refine iteB (fun e2 => ?_) (fun e2 => ?_)
        · have l2 : ¬ (vs.length : Int) ≤ 80 := by simpa using e2
          have z : lookG (.lst gs) = some none := by
            rw [lk, if_neg (by omega)]
          exact ⟨_, rfl, fun d hd => qn none z _ d (same_upd hd) hd upd_same⟩
        have l2 : (vs.length : Int) ≤ 80 := by simpa using e2
        rw [if_pos (by omega)] at lk
        refine ⟨_, rfl, a, _, rfl, SqL.of ha, ?_⟩
        refine for_enumS (K := K) (a := a) (xs := vs) (fun i σ H2 => ∃ y1 y2 : Option V, σ = [some (.ref a), y1, y2] ∧ Same H H2 ∧ ∀ (j : Nat) (x : G), j < i → gs[j]? = some x → rowG gs.length x = true) ?_ ?_ ?_ ?_
        · exact ⟨none, none, rfl, Same.refl H, fun j x hj => absurd hj (Nat.not_lt_zero _)⟩
        · rintro i σ H2 _ ⟨_, _, _, s2, _⟩
          exact SqL.of (s2 _ _ ha)
        · rintro i x σ H2 T hx ⟨y1, y2, rfl, s2, good⟩ nT
          obtain ⟨g1, e4, tg⟩ := t.get hx
          have sT : Same H2 (upd H2 T (.tup [.int (i : Nat), x])) := same_upd nT
          refine ⟨T, _, rfl, SqT.of upd_same, rfl, _, _, rfl, _, _, rfl, rfl, ?_⟩
          refine ⟨_, rfl, _, rfl, a, _, rfl, .inl (SqL.of (sT _ _ (s2 _ _ ha))), p, x, g1, vs.length, rfl, tg.keep (Keeps.same (s2.trans sT)), by omega, fun H3 s3 => ?_⟩
          have s03 := (s2.trans sT).trans s3
          refine ⟨_, rfl, ?_⟩
          rw [hlen]
          refine iteB (fun e5 => ?_) (fun e5 => ?_)
          · have b : rowG gs.length g1 = false := by simpa using e5
            have z : lookG (.lst gs) = some (some i) := by
              rw [lk, badAt_some good e4 b]
            exact ⟨_, rfl, _, rfl, fun d hd => qn (some i) z _ d (s03.trans (same_upd hd)) (s03.free hd) upd_same⟩
          · have b : rowG gs.length g1 = true := by simpa using e5
            refine ⟨_, _, rfl, s03, fun j y hj ey => ?_⟩
            rcases Nat.lt_succ_iff_lt_or_eq.mp hj with h | rfl
            · exact good j y h ey
            · rw [e4] at ey
              cases ey
              exact b
        · rintro σ H2 ⟨y1, y2, rfl, s2, good⟩
          rw [hlen] at good
          have all : ∀ g ∈ gs, rowG gs.length g = true := fun g hg => by
            obtain ⟨j, hj, ej⟩ := List.getElem_of_mem hg
            exact good j g hj (by rw [List.getElem?_eq_getElem hj, ej])
          obtain ⟨ra, rb⟩ := rows_at t all
          rw [badAt_none all] at lk
          refine ⟨_, rfl, a, gs.map rwOf, (List.range 100).map fun i => ((i : Nat) : Int), rfl, ⟨vs, s2 _ _ ha, ra.keep (K2.same s2)⟩, by rw [List.length_map, List.length_range]; decide, fun k hk => ?_, fun ms u H3 pw mem s3 nu hu => ?_⟩
          · have := rb k hk
            exact List.mem_map.mpr ⟨k.toNat, List.mem_range.mpr (by omega), by omega⟩
          · have lm : ms.length = (oneEach (allRooms (gs.map rwOf))).length := len_same (pw.imp fun h => Int.ne_of_lt h) (oneEach_nodup _) fun k => (mem k).trans (oneEach_mem k _).symm
            refine ⟨u, _, rfl, .inl (SqL.of hu), _, _, rfl, rfl, _, rfl, iteB (fun z => ?_) (fun z => ?_)⟩
            · have l3 := of_decide_eq_true z
              rw [List.length_map] at l3
              have zz : lookG (.lst gs) = some none := by
                rw [lk]
                exact if_pos (by omega)
              exact ⟨_, rfl, fun d hd => qn none zz _ d ((s2.trans s3).trans (same_upd hd)) ((s2.trans s3).free hd) upd_same⟩
            · have l3 := of_decide_eq_false z
              rw [List.length_map] at l3
              have zz : lookG (.lst gs) = none := by
                rw [lk]
                exact if_neg (by omega)
              exact qy zz H3 (s2.trans s3)
      · refine ⟨_, rfl, iteT ?_⟩
        have l1 := of_decide_eq_false e1
        have z : lookG (.lst gs) = some none := by
          rw [lk, if_neg (by omega)]
        exact ⟨_, rfl, fun d hd => qn none z _ d (same_upd hd) hd upd_same⟩
    | _ => cases e
end
end Su
/-! ### C0: things of any kind -/
namespace Su
open PySem PySem.Spec PyProof.Rows L2
section
variable {X : Cx}
/-- len(set(l)), l a list of ints -/
def dd (ns : List Int) : List Int := PyProof.Rows.firstMet (fun i => ns.getD i 0) ns.length
def tLenSet (K : PySem.W.Frag) (ta : TE) : TE := fun σ H Q => ta σ H fun x H1 => ∃ (l : Addr) (ns : List Int), x = .ref l ∧ SqL K H1 l (ns.map V.int) ∧ ns.length ≤ 1000 ∧ Q (.int ((dd ns).length : Nat)) H1
theorem pe_lenSet {a : Expr} {ta : TE} {p p2 q pos : Pos} (hg : Gl X "len") (hm : X.mg "len" = none) (hg2 : Gl X "set") (hm2 : X.mg "set" = none) (ha : PE X a ta) (hc : X.calm = true := by rfl)
    (na : starEach [a] X.env = (false, eval a X.env) :: starEach [] X.env := by rfl) : PE X (.Call (.Name "len" p) [.Call (.Name "set" p2) [a] [] q] [] pos) (tLenSet X.K ta) := by
  refine ⟨fun pins s σ H Q I h => ?_⟩
  refine Call_ (ld_blt I hg hm boot_len ?_)
  refine PyProof.Rows.callWith_builtin1 (PyProof.Rows.args_cons ?_ rfl) rfl rfl
  refine Call_ (ld_blt I hg2 hm2 boot_set ?_)
  refine PyProof.Rows.callWith_type1 (PyProof.Rows.args_cons (thn (ha.run pins s σ H _ I h) fun v s1 ⟨x, H1, I1, r1, q1⟩ => PyProof.Rows.args_nil ?_) na) na rfl
  obtain ⟨l, ns, rfl, hq, hl, q1⟩ := q1
  cases r1
  obtain ⟨its, r, pl, hz⟩ := I1.list hq
  have hlen : its.toArray.size = ns.length := by rw [List.size_toArray, ← r.length, List.length_map]
  refine call_set_list (I1.ok.hd hc) pl.isList (by simpa using ints_of r) (by rw [hlen]; unfold scanBound; omega) fun h' tk hS hk => ?_
  refine PyProof.Rows.args_nil ?_
  rw [hlen] at hS
  have hle := PyProof.Rows.firstMet_length_le (fun i => ns.getD i 0) ns.length
  obtain ⟨o, es, ep, t, ho, hex, hd, _, _, _, hf, hn⟩ := hS
  have I2 : Inv X pins σ H1 { s1 with heap := h', toks := tk } := I1.kept fun b o e => hk b o (Heap.lt_size e) e
  exact call_len_set ho hex hd hf (by rw [hn]; omega) ⟨.int ((dd ns).length : Nat), H1, I2.tok _, ⟨_, by rw [hn]; rfl⟩, q1⟩
end
end Su
namespace Su
open PySem PySem.Spec PyProof.Rows L2
abbrev wayVs : List V := [.str "last", .str "first", .str "tree"]
abbrev sizeVs : List V := [.int 1, .int 2, .int 4, .int 8]
structure Gb (K : PySem.W.Frag) (mg : Str → Option Value) : Prop where
  last : ∃ t, mg "LAST_ROOM" = some (.int 99 t)
  most : ∃ t, mg "MOST_SLOTS" = some (.int 8 t)
  empty : ∃ t, mg "EMPTY" = some (.int (-1) t)
  ways : ∃ a, mg "WAYS" = some (.ref a) ∧ ∀ H, SqT K H a wayVs
  sizes : ∃ a, mg "TREE_SIZES" = some (.ref a) ∧ ∀ H, SqT K H a sizeVs
def roomG : G → Bool
  | .int i => decide (0 ≤ i) && decide (i ≤ 99)
  | _ => false
def slotG : G → Bool
  | .int i => (decide (0 ≤ i) && decide (i ≤ 99)) || decide (i = -1)
  | _ => false
def bitG : G → Bool
  | .int i => decide (0 ≤ i) && decide (i ≤ 1)
  | _ => false
def wayG : G → Bool
  | .str s => inV (.str s) wayVs
  | _ => false
def sizeG : G → Str → Bool
  | .int n, s => (decide (1 ≤ n) && decide (n ≤ 8)) && (!decide (s = "tree") || inV (.int n) sizeVs)
  | _, _ => false
def bitsN (n : Int) (s : Str) : Int := if s = "tree" then n - 1 else 0
def spRoomC : Sp := fun vs H Q _ => ∃ (p : Addr) (v : V) (g : G), vs = [v] ∧ Tg p H v g ∧ Q (.bl (roomG g)) H
def spSlot : Sp := fun vs H Q _ => ∃ (p : Addr) (v : V) (g : G), vs = [v] ∧ Tg p H v g ∧ Q (.bl (slotG g)) H
def spBit : Sp := fun vs H Q _ => ∃ (p : Addr) (v : V) (g : G), vs = [v] ∧ Tg p H v g ∧ Q (.bl (bitG g)) H
def spWay : Sp := fun vs H Q _ => ∃ (p : Addr) (v : V) (g : G), vs = [v] ∧ Tg p H v g ∧ Q (.bl (wayG g)) H
def spSize : Sp := fun vs H Q _ => ∃ (p : Addr) (v : V) (g : G) (s : Str), vs = [v, .str s] ∧ Tg p H v g ∧ Q (.bl (sizeG g s)) H
def spHow : Sp := fun vs H Q _ => ∃ (n : Int) (s : Str), vs = [.int n, .str s] ∧ Q (.int (bitsN n s)) H
theorem scIsWhole : FnScope ["thing"] ["thing"] (defScope sIsWhole) := ⟨rfl, rfl, rfl, by decide +kernel, rfl, by decide +kernel, by decide +kernel⟩
theorem scIsRoom : FnScope ["thing"] ["thing"] (defScope sIsRoom) := ⟨rfl, rfl, rfl, by decide +kernel, rfl, by decide +kernel, by decide +kernel⟩
theorem scIsWay : FnScope ["thing"] ["thing"] (defScope sIsWay) := ⟨rfl, rfl, rfl, by decide +kernel, rfl, by decide +kernel, by decide +kernel⟩
theorem scIsSize : FnScope ["thing", "way"] ["thing", "way"] (defScope sIsSize) := ⟨rfl, rfl, rfl, by decide +kernel, rfl, by decide +kernel, by decide +kernel⟩
theorem scHowMany : FnScope ["size", "way"] ["size", "way"] (defScope sHowMany) := ⟨rfl, rfl, rfl, by decide +kernel, rfl, by decide +kernel, by decide +kernel⟩
theorem scIsSlot : FnScope ["thing"] ["thing"] (defScope sIsSlot) := ⟨rfl, rfl, rfl, by decide +kernel, rfl, by decide +kernel, by decide +kernel⟩
theorem scIsBit : FnScope ["thing"] ["thing"] (defScope sIsBit) := ⟨rfl, rfl, rfl, by decide +kernel, rfl, by decide +kernel, by decide +kernel⟩
theorem scWhole : FnScope ["_law_thing"] ["_law_thing"] (defScope sWhole) := ⟨rfl, rfl, rfl, by decide +kernel, rfl, by decide +kernel, by decide +kernel⟩
section
variable {P : Program} {w : World} {K : PySem.W.Frag} {mg : Str → Option Value} {base : Heap}
theorem ok_lwhole (T : At K mg "_law_whole" sWhole ["_law_thing"]) (B : Bt mg) : Cal P w K mg base 1 "_law_whole" ["_law_thing"] spWhole := by
  refine cal_of T scWhole (fun vs H Q E h => ?_) (fun f cdv A outer s H vs Q E hr h => ?_)
  · obtain ⟨p, v, g, rfl, _⟩ := h
    rfl
  · obtain ⟨p, v, g, rfl, hv, q⟩ := h
    refine ⟨_, (pss_one (ps_ret (pe_and (pe_callB call_isi (by rfl) B.isinstance (by decide +kernel) (pa_cons (pv 0) (pa_cons (pe_bltn (v := .ty "int") (u := .type "int") (by rfl) B.int (by decide +kernel) rfl) pa_nil))) (pe_one (pe_not (pe_callB call_isi (by rfl) B.isinstance (by decide +kernel) (pa_cons (pv 0) (pa_cons (pe_bltn (v := .ty "bool") (u := .type "bool") (by rfl) B.bool (by decide +kernel) rfl) pa_nil)))))))), ?_⟩
    refine ⟨_, rfl, v, .ty "int", _, _, _, rfl, .ty "int", hv.ty, kit_int g, _, rfl, iteB (fun e => ?_) (fun e => ?_)⟩
    · refine ⟨_, rfl, v, .ty "bool", _, _, _, rfl, .ty "bool", hv.ty, kit_bool g, _, rfl, ?_⟩
      have z : (!isBool g) = wholeG g := by
        cases g <;> first | rfl | cases e
      rw [z]
      exact q
    · have z : false = wholeG g := by
        cases g <;> first | rfl | cases e
      rw [z]
      exact q
theorem ok_roomC (T : At K mg "is_room" sIsRoom ["thing"]) (D : Gb K mg) (c_is_whole : Cal P w K mg base 1 "is_whole" ["thing"] spWhole) : Cal P w K mg base 2 "is_room" ["thing"] spRoomC := by
  obtain ⟨tl, mLast⟩ := D.last
  refine cal_of T scIsRoom (fun vs H Q E h => ?_) (fun f cdv A outer s H vs Q E hr h => ?_)
  · obtain ⟨p, v, g, rfl, _⟩ := h
    rfl
  · obtain ⟨p, v, g, rfl, hv, q⟩ := h
    refine ⟨_, (pss_one (ps_ret (pe_and (pe_own c_is_whole hr (by decide) (by rfl) (pa_cons (pv 0) pa_nil)) (pe_one (pe_chain op_le op_le pe_int (pv 0) (pe_glob (v := .int 99) rfl mLast ⟨_, rfl⟩)))))), ?_⟩
    refine ⟨_, rfl, p, v, g, rfl, hv, _, rfl, iteB (fun e => ?_) (fun e => ?_)⟩
    · obtain ⟨i, rfl, rfl⟩ := whole_int hv e
      refine ⟨_, rfl, _, _, rfl, rfl, _, rfl, iteB (fun e1 => ?_) (fun e1 => ?_)⟩
      · refine ⟨_, _, rfl, rfl, ?_⟩
        have z : decide (i ≤ 99) = roomG (.int i) := by
          show decide (i ≤ 99) = (decide (0 ≤ i) && decide (i ≤ 99))
          rw [e1, Bool.true_and]
        rw [← z] at q
        exact q
      · have z : false = roomG (.int i) := by
          show false = (decide (0 ≤ i) && decide (i ≤ 99))
          rw [e1, Bool.false_and]
        rw [z]
        exact q
    · have z : false = roomG g := by
        cases g <;> first | rfl | cases e
      rw [z]
      exact q
theorem ok_bit (T : At K mg "is_bit" sIsBit ["thing"]) (c_is_whole : Cal P w K mg base 1 "is_whole" ["thing"] spWhole) : Cal P w K mg base 2 "is_bit" ["thing"] spBit := by
  refine cal_of T scIsBit (fun vs H Q E h => ?_) (fun f cdv A outer s H vs Q E hr h => ?_)
  · obtain ⟨p, v, g, rfl, _⟩ := h
    rfl
  · obtain ⟨p, v, g, rfl, hv, q⟩ := h
    refine ⟨_, (pss_one (ps_ret (pe_and (pe_own c_is_whole hr (by decide) (by rfl) (pa_cons (pv 0) pa_nil)) (pe_one (pe_chain op_le op_le pe_int (pv 0) pe_int))))), ?_⟩
    refine ⟨_, rfl, p, v, g, rfl, hv, _, rfl, iteB (fun e => ?_) (fun e => ?_)⟩
    · obtain ⟨i, rfl, rfl⟩ := whole_int hv e
      refine ⟨_, rfl, _, _, rfl, rfl, _, rfl, iteB (fun e1 => ?_) (fun e1 => ?_)⟩
      · refine ⟨_, _, rfl, rfl, ?_⟩
        have z : decide (i ≤ 1) = bitG (.int i) := by
          show decide (i ≤ 1) = (decide (0 ≤ i) && decide (i ≤ 1))
          rw [e1, Bool.true_and]
        rw [← z] at q
        exact q
      · have z : false = bitG (.int i) := by
          show false = (decide (0 ≤ i) && decide (i ≤ 1))
          rw [e1, Bool.false_and]
        rw [z]
        exact q
    · have z : false = bitG g := by
        cases g <;> first | rfl | cases e
      rw [z]
      exact q
theorem ok_slot (T : At K mg "is_slot" sIsSlot ["thing"]) (D : Gb K mg) (c_is_whole : Cal P w K mg base 1 "is_whole" ["thing"] spWhole) (c_is_room : Cal P w K mg base 2 "is_room" ["thing"] spRoomC) : Cal P w K mg base 3 "is_slot" ["thing"] spSlot := by
  obtain ⟨te, mEmpty⟩ := D.empty
  refine cal_of T scIsSlot (fun vs H Q E h => ?_) (fun f cdv A outer s H vs Q E hr h => ?_)
  · obtain ⟨p, v, g, rfl, _⟩ := h
    rfl
  · obtain ⟨p, v, g, rfl, hv, q⟩ := h
    refine ⟨_, (pss_one (ps_ret (pe_or (pe_own c_is_room hr (by decide) (by rfl) (pa_cons (pv 0) pa_nil)) (pe_one (pe_and (pe_own c_is_whole hr (by decide) (by rfl) (pa_cons (pv 0) pa_nil)) (pe_one (pe_cmpR op_eq (pv 0) (pe_glob (v := .int (-1)) rfl mEmpty ⟨_, rfl⟩) (nomark _)))))))), ?_⟩
    refine ⟨_, rfl, p, v, g, rfl, hv, _, rfl, iteB (fun e => ?_) (fun e => ?_)⟩
    · have z : true = slotG g := by
        cases g with
        | int i =>
          show true = ((decide (0 ≤ i) && decide (i ≤ 99)) || decide (i = -1))
          rw [show (decide (0 ≤ i) && decide (i ≤ 99)) = true from e, Bool.true_or]
        | _ => cases e
      rw [z]
      exact q
    · refine ⟨_, rfl, p, v, g, rfl, hv, _, rfl, iteB (fun e1 => ?_) (fun e1 => ?_)⟩
      · obtain ⟨i, rfl, rfl⟩ := whole_int hv e1
        refine ⟨_, rfl, rfl, ?_⟩
        have z : decide (V.int i = V.int (-1)) = slotG (.int i) := by
          show decide (V.int i = V.int (-1)) = ((decide (0 ≤ i) && decide (i ≤ 99)) || decide (i = -1))
          rw [show (decide (0 ≤ i) && decide (i ≤ 99)) = false from e, Bool.false_or]
          by_cases y : i = -1
          · subst y
            rfl
          · rw [decide_eq_false y, decide_eq_false (fun h => y (V.int.inj h))]
        rw [z]
        exact q
      · have z : false = slotG g := by
          cases g <;> first | rfl | cases e1
        rw [z]
        exact q
theorem ok_way (T : At K mg "is_way" sIsWay ["thing"]) (B : Bt mg) (D : Gb K mg) : Cal P w K mg base 1 "is_way" ["thing"] spWay := by
  obtain ⟨aWays, mWays, hW⟩ := D.ways
  refine cal_of T scIsWay (fun vs H Q E h => ?_) (fun f cdv A outer s H vs Q E hr h => ?_)
  · obtain ⟨p, v, g, rfl, _⟩ := h
    rfl
  · obtain ⟨p, v, g, rfl, hv, q⟩ := h
    refine ⟨_, (pss_one (ps_ret (pe_and (pe_callB call_isi (by rfl) B.isinstance (by decide +kernel) (pa_cons (pv 0) (pa_cons (pe_bltn (v := .ty "str") (u := .type "str") (by rfl) B.str (by decide +kernel) rfl) pa_nil))) (pe_one (pe_cmpR op_in_seq (pv 0) (pe_glob (v := .ref aWays) rfl mWays rfl) (by rfl)))))), ?_⟩
    refine ⟨_, rfl, v, .ty "str", _, _, _, rfl, .ty "str", hv.ty, kit_str g, _, rfl, iteB (fun e => ?_) (fun e => ?_)⟩
    · cases hv with
      | str s =>
        refine ⟨_, rfl, aWays, wayVs, rfl, .inr (hW H), rfl, rfl, ?_⟩
        exact q
      | _ => cases e
    · have z : false = wayG g := by
        cases g <;> first | rfl | cases e
      rw [z]
      exact q
theorem ok_size (T : At K mg "is_size" sIsSize ["thing", "way"]) (D : Gb K mg) (c_is_whole : Cal P w K mg base 1 "is_whole" ["thing"] spWhole) : Cal P w K mg base 2 "is_size" ["thing", "way"] spSize := by
  obtain ⟨tm, mMost⟩ := D.most
  obtain ⟨aSizes, mSizes, hZ⟩ := D.sizes
  refine cal_of T scIsSize (fun vs H Q E h => ?_) (fun f cdv A outer s H vs Q E hr h => ?_)
  · obtain ⟨p, v, g, s, rfl, _⟩ := h
    rfl
  · obtain ⟨p, v, g, s, rfl, hv, q⟩ := h
    refine ⟨_, (pss_cons (ps_if (PW.pt (pw_or (pt_not (pt_val (pe_own c_is_whole hr (by decide) (by rfl) (pa_cons (pv 0) pa_nil)))) (pw_or1 (pt_not (pt_chain op_le op_le pe_int (pv 0) (pe_glob (v := .int 8) rfl mMost ⟨_, rfl⟩)))))) (pss_one (ps_ret pe_bl)) pss_nil)
      (pss_one (ps_ret (pe_or (pe_cmpR op_ne (pv 1) pe_str (nomark _)) (pe_one (pe_cmpR op_in_seq (pv 0) (pe_glob (v := .ref aSizes) rfl mSizes rfl) (by rfl))))))), ?_⟩
    refine ⟨_, rfl, p, v, g, rfl, hv, _, rfl, iteB (fun e => ?_) (fun e => ?_)⟩
    · have z : false = sizeG g s := by
        cases g <;> first | rfl | cases e
      rw [z]
      exact q
    · have e' : wholeG g = true := by
        cases y : wholeG g with
        | true => rfl
        | false =>
          rw [y] at e
          cases e
      obtain ⟨i, rfl, rfl⟩ := whole_int hv e'
      have q : Q (.bl ((decide (1 ≤ i) && decide (i ≤ 8)) && (!decide (s = "tree") || inV (.int i) sizeVs))) H := q
      refine ⟨_, rfl, _, _, rfl, rfl, _, rfl, iteB (fun e1 => ?_) (fun e1 => ?_)⟩
      · rw [e1, Bool.true_and] at q
        refine ⟨_, _, rfl, rfl, _, rfl, iteB (fun e2 => ?_) (fun e2 => ?_)⟩
        · have e3 : decide (i ≤ 8) = false := by simpa using e2
          rw [e3, Bool.false_and] at q
          exact q
        · have e3 : decide (i ≤ 8) = true := by simpa using e2
          rw [e3, Bool.true_and] at q
          refine ⟨_, rfl, rfl, _, rfl, iteB (fun e4 => ?_) (fun e4 => ?_)⟩
          · have e5 : decide (s = "tree") = false := by
              cases y : decide (s = ("tree" : Str)) with
              | false => rfl
              | true =>
                rw [of_decide_eq_true y] at e4
                exact absurd e4 (by decide)
            rw [e5] at q
            exact q
          · have e5 : decide (s = "tree") = true := by
              cases y : decide (V.str s = V.str "tree") with
              | false =>
                rw [y] at e4
                cases e4
              | true => exact decide_eq_true (V.str.inj (of_decide_eq_true y))
            rw [e5] at q
            exact ⟨_, rfl, aSizes, sizeVs, rfl, .inr (hZ H), rfl, rfl, q⟩
      · rw [e1, Bool.false_and, Bool.false_and] at q
        exact ⟨_, rfl, iteT q⟩
theorem ok_how (T : At K mg "how_many_bits" sHowMany ["size", "way"]) : Cal P w K mg base 1 "how_many_bits" ["size", "way"] spHow := by
  refine cal_of T scHowMany (fun vs H Q E h => ?_) (fun f cdv A outer s H vs Q E hr h => ?_)
  · obtain ⟨n, s, rfl, _⟩ := h
    rfl
  · obtain ⟨n, s, rfl, q⟩ := h
    refine ⟨_, (pss_one (ps_ret (pe_ifExp (pt_cmpR op_eq (pv 1) pe_str (nomark _)) (pe_op op_sub (pv 0) pe_int) pe_int))), ?_⟩
    unfold bitsN at q
    refine ⟨_, rfl, rfl, _, rfl, iteB (fun e => ?_) (fun e => ?_)⟩
    · rw [if_pos (V.str.inj (of_decide_eq_true e))] at q
      exact ⟨_, rfl, _, _, rfl, rfl, q⟩
    · rw [if_neg (fun z => by rw [z] at e; exact absurd e (by decide))] at q
      exact q
end
end Su
namespace Su
open PySem PySem.Spec PyProof.Rows L2
def numG : G → Int
  | .int i => i
  | _ => 0
/-- the rooms among slots -/
def roomsOf (ds : List G) : List Int := (ds.map numG).filter fun i => !decide (i = -1)
def areSlotsG : G → Int → Bool
  | .tup ds, n => decide ((ds.length : Int) = n) && (ds.all slotG && decide ((dd (roomsOf ds)).length = (roomsOf ds).length))
  | _, _ => false
def areBitsG : G → Int → Str → Bool
  | .tup ds, n, s => decide ((ds.length : Int) = bitsN n s) && ds.all bitG
  | _, _, _ => false
/-- its tuples are not long -/
def few : G → Prop
  | .tup ds => ds.length ≤ 100
  | _ => True
def few2 : G → Prop
  | .tup ds => ∀ d ∈ ds, few d
  | _ => True
def layG (g gs gw : G) : Bool := match gs, gw, g with
  | .int n, .str s, .tup [d1, d2] => wayG (.str s) && (sizeG (.int n) s && (areSlotsG d1 n && areBitsG d2 n s))
  | _, _, _ => false
def spSlots : Sp := fun vs H Q _ => ∃ (p : Addr) (v : V) (g : G) (n : Int), vs = [v, .int n] ∧ Tg p H v g ∧ few g ∧ ∀ H', Same H H' → Q (.bl (areSlotsG g n)) H'
def spBits : Sp := fun vs H Q _ => ∃ (p : Addr) (v : V) (g : G) (n : Int) (s : Str), vs = [v, .int n, .str s] ∧ Tg p H v g ∧ few g ∧ ∀ H', Same H H' → Q (.bl (areBitsG g n s)) H'
def spLay : Sp := fun vs H Q _ => ∃ (p : Addr) (v vs' vw : V) (g gs gw : G), vs = [v, vs', vw] ∧ Tg p H v g ∧ Tg p H vs' gs ∧ Tg p H vw gw ∧ few2 g ∧ ∀ H', Same H H' → Q (.bl (layG g gs gw)) H'
theorem tg_tup {p : Addr} {H : Hp} {v : V} {g : G} (h : Tg p H v g) (e : isTuple g = true) : ∃ a vs ds, v = .ref a ∧ g = .tup ds ∧ T2 H a vs ∧ TgL p H vs ds := by
  cases h with
  | tup e2 t => exact ⟨_, _, _, rfl, rfl, e2, t⟩
  | _ => cases e
theorem iteNT {c A B : Prop} [Decidable c] (hc : ¬ c) (h : A) : if (!decide c) = true then A else B := by
  rw [if_pos (by simp [hc])]
  exact h
theorem all_map (f : G → Bool) (ds : List G) : ((ds.map f).all id) = ds.all f := by
  rw [List.all_map]
  rfl
theorem bTrue {b : Bool} (h : (!b) = false) : b = true := by
  cases b
  · cases h
  · rfl
theorem bFalse {b : Bool} (h : (!b) = true) : b = false := by
  cases b
  · rfl
  · cases h
theorem dec_int' (a b : Int) : decide (V.int a = V.int b) = decide (a = b) := by
  by_cases h : a = b
  · subst h
    rw [decide_eq_true rfl, decide_eq_true rfl]
  · rw [decide_eq_false h, decide_eq_false (fun z => h (V.int.inj z))]
theorem scAreSlots : FnScope ["thing", "size", "rooms", "slot"] ["thing", "size"] (defScope sAreSlots) := ⟨rfl, rfl, rfl, by decide +kernel, rfl, by decide +kernel, by decide +kernel⟩
theorem scAreBits : FnScope ["thing", "size", "way", "bit"] ["thing", "size", "way"] (defScope sAreBits) := ⟨rfl, rfl, rfl, by decide +kernel, rfl, by decide +kernel, by decide +kernel⟩
section
variable {P : Program} {w : World} {K : PySem.W.Frag} {mg : Str → Option Value} {base : Heap}
theorem ok_slots (T : At K mg "are_slots" sAreSlots ["thing", "size"]) (B : Bt mg) (D : Gb K mg) (c_is_slot : Cal P w K mg base 3 "is_slot" ["thing"] spSlot) : Cal P w K mg base 4 "are_slots" ["thing", "size"] spSlots := by
  obtain ⟨te, mEmpty⟩ := D.empty
  refine cal_of T scAreSlots (fun vs H Q E h => ?_) (fun f cdv A outer s H vs Q E hr h => ?_)
  · obtain ⟨p, v, g, n, rfl, _⟩ := h
    rfl
  · obtain ⟨p, v, g, n, rfl, hv, hf, q⟩ := h
    refine ⟨_, (pss_cons (ps_if (PW.pt (pw_or (pt_not (pt_val (pe_callB call_isi (by rfl) B.isinstance (by decide +kernel) (pa_cons (pv 0) (pa_cons (pe_bltn (v := .ty "tuple") (u := .type "tuple") (by rfl) B.tuple (by decide +kernel) rfl) pa_nil))))) (pw_or1 (pt_cmpR op_ne (pe_callB call_len_seq (by rfl) B.len PySem.boot_len (pa_cons (pv 0) pa_nil)) (pv 1) (nomark _))))) (pss_one (ps_ret pe_bl)) pss_nil)
      (pss_cons (ps_if (pt_not (pt_val (pe_callB (cr_all rfl) (by rfl) B.all (by decide +kernel) (pa_cons (pe_lc (own := [("slot", 3)]) (g := (gName 3)) (tt := tYes) (te := (tCall spSlot [] E0 (tCons (tVar 3) tNil))) (by rfl) scAreSlots.nd (pi_tup (pv 0)) (blkOk_by (own := [("slot", 3)]) (N := ["thing", "size", "rooms", "slot"]) (sc := defScope sAreSlots) (by decide +kernel)) (fun _ _ _ _ _ => (pg_name (i := 3) scAreSlots.nd rfl (Or.inl rfl))) (fun _ _ _ _ _ => pts_nil) (fun _ _ _ _ _ => (pe_own c_is_slot hr (by decide) (by rfl) (pa_cons (pv 3) pa_nil)))) pa_nil)))) (pss_one (ps_ret pe_bl)) pss_nil)
      (pss_cons (ps_setLc (i := 2) (own := [("slot", 3)]) (g := (gName 3)) (tt := (tTest (tOp rNe (tVar 3) (tC (.int (-1)))))) (te := (tVar 3)) (by rfl) scAreSlots.nd rfl rfl (sw_true rfl rfl rfl (by decide +kernel)) (pi_tup (pv 0)) (blkOk_by (own := [("slot", 3)]) (N := ["thing", "size", "rooms", "slot"]) (sc := defScope sAreSlots) (by decide +kernel)) (fun _ _ _ _ _ => (pg_name (i := 3) scAreSlots.nd rfl (Or.inl rfl))) (fun _ _ _ _ _ => pts_one (pt_cmpR op_ne (pv 3) (pe_glob (v := .int (-1)) rfl mEmpty ⟨_, rfl⟩) (nomark _))) (fun _ _ _ _ _ => (pv 3)))
      (pss_one (ps_ret (pe_cmpR op_eq (pe_lenSet (by rfl) B.len (by rfl) B.set (pv 2)) (pe_callB call_len_seq (by rfl) B.len PySem.boot_len (pa_cons (pv 2) pa_nil)) (nomark _))))))), ?_⟩
    refine ⟨_, rfl, v, .ty "tuple", _, _, _, rfl, .ty "tuple", hv.ty, kit_tuple g, _, rfl, iteB (fun e => ?_) (fun e => ?_)⟩
    · have z : false = areSlotsG g n := by
        have e' := bFalse e
        cases g <;> first | rfl | cases e'
      have q' := q H (Same.refl H)
      rw [← z] at q'
      exact q'
    obtain ⟨a, ws, ds, rfl, rfl, tw, tl⟩ := tg_tup hv (bTrue e)
    have q : ∀ H', Same H H' → Q (.bl (decide ((ds.length : Int) = n) && (ds.all slotG && decide ((dd (roomsOf ds)).length = (roomsOf ds).length)))) H' := q
    have hf : ds.length ≤ 100 := hf
    have hwl : ws.length = ds.length := tl.len
    refine ⟨_, rfl, a, _, rfl, .inr tw.sq, _, rfl, rfl, _, rfl, iteB (fun e1 => ?_) (fun e1 => ?_)⟩
    · have z : decide ((ds.length : Int) = n) = false := by
        have y := bFalse e1
        rw [dec_int', hwl] at y
        exact y
      have q' := q H (Same.refl H)
      rw [z, Bool.false_and] at q'
      exact q'
    have z1 : decide ((ds.length : Int) = n) = true := by
      have y := bTrue e1
      rw [dec_int', hwl] at y
      exact y
    rw [z1] at q
    -- all([is_slot(slot) for slot in thing])
    refine ⟨_, rfl, a, rfl, ⟨_, tw.sq⟩, fun D nD => ?_⟩
    refine lc_tup (K := K) (a := a) (xs := ws) (fun i H2 => Same H H2 ∧ H2 D = some (.lst (((ds.take i).map slotG).map V.bl))) ?_ ?_ ?_ ?_
    · exact ⟨same_upd nD, upd_same⟩
    · rintro i H2 _ ⟨s2, _⟩
      exact ((Keeps.same (p := p) s2).tw _ _ tw).sq
    · rintro i x H2 hx ⟨s2, hD⟩
      obtain ⟨g0, eg, hg0⟩ := tl.get hx
      refine ⟨rfl, tyes ?_⟩
      refine ⟨_, rfl, p, x, g0, rfl, hg0.keep (Keeps.same s2), _, hD, ?_, ?_, ?_⟩
      · rw [List.length_map, List.length_map, List.length_take]
        exact small1000 (by omega)
      · intro c o ec
        rw [upd_ne (ne_of_none ec nD)]
        exact s2 _ _ ec
      · rw [upd_same, List.take_add_one, eg, List.map_append, List.map_append]
        rfl
    · rintro H2 ⟨s2, hD⟩
      rw [hwl, List.take_length] at hD
      refine ⟨D, ds.map slotG, rfl, SqL.of hD, _, rfl, ?_⟩
      rw [all_map]
      refine iteB (fun e2 => ?_) (fun e2 => ?_)
      · have q' := q H2 s2
        rw [bFalse e2] at q'
        exact q'
      have e3 := bTrue e2
      rw [e3] at q
      -- rooms
      have tw2 := (Keeps.same (p := p) s2).tw _ _ tw
      refine ⟨_, rfl, a, rfl, ⟨_, tw2.sq⟩, fun D2 nD2 => ?_⟩
      refine lc_tup (K := K) (a := a) (xs := ws) (fun i H3 => Same H2 H3 ∧ H3 D2 = some (.lst ((roomsOf (ds.take i)).map V.int))) ?_ ?_ ?_ ?_
      · exact ⟨same_upd nD2, upd_same⟩
      · rintro i H3 _ ⟨s3, _⟩
        exact ((Keeps.same (p := p) s3).tw _ _ tw2).sq
      · rintro i x H3 hx ⟨s3, hD3⟩
        obtain ⟨g0, eg, hg0⟩ := tl.get hx
        have hsg : slotG g0 = true := List.all_eq_true.mp e3 g0 (List.mem_of_getElem? eg)
        obtain ⟨j, rfl, rfl⟩ : ∃ j, x = .int j ∧ g0 = .int j := by
          cases hg0 with
          | int j => exact ⟨j, rfl, rfl⟩
          | _ => cases hsg
        have et : roomsOf (ds.take (i + 1)) = roomsOf (ds.take i) ++ ([j].filter fun i => !decide (i = -1)) := by
          unfold roomsOf
          rw [List.take_add_one, eg, List.map_append, List.filter_append]
          rfl
        refine ⟨rfl, _, rfl, rfl, _, rfl, ?_⟩
        by_cases ee : j = -1
        · refine iteNS (congrArg V.int ee) ⟨s3, ?_⟩
          rw [et, List.filter_cons_of_neg (by simpa using ee), List.filter_nil, List.append_nil]
          exact hD3
        · refine iteNT (fun y => ee (V.int.inj y)) ?_
          refine ⟨_, rfl, _, hD3, ?_, ?_, ?_⟩
          · rw [List.length_map]
            have h1 := List.length_filter_le (fun i : Int => !decide (i = -1)) ((ds.take i).map numG)
            rw [List.length_map, List.length_take] at h1
            exact small1000 (show (roomsOf (ds.take i)).length ≤ 1000 by unfold roomsOf; omega)
          · intro c o ec
            rw [upd_ne (ne_of_none ec nD2)]
            exact s3 _ _ ec
          · rw [upd_same, et, List.filter_cons_of_pos (by simpa using ee), List.filter_nil, List.map_append]
            rfl
      · rintro H3 ⟨s3, hD3⟩
        rw [hwl, List.take_length] at hD3
        have hrl : (roomsOf ds).length ≤ 1000 := by
          have h1 := List.length_filter_le (fun i : Int => !decide (i = -1)) (ds.map numG)
          rw [List.length_map] at h1
          unfold roomsOf
          omega
        refine ⟨_, rfl, D2, roomsOf ds, rfl, SqL.of hD3, hrl, _, rfl, D2, _, rfl, .inl (SqL.of hD3), rfl, ?_⟩
        rw [dec_int', List.length_map]
        have q' := q H3 (s2.trans s3)
        rw [show decide (((dd (roomsOf ds)).length : Int) = ((roomsOf ds).length : Int)) = decide ((dd (roomsOf ds)).length = (roomsOf ds).length) by
          by_cases y : (dd (roomsOf ds)).length = (roomsOf ds).length
          · rw [decide_eq_true y, decide_eq_true (by omega)]
          · rw [decide_eq_false y, decide_eq_false (by omega)]]
        exact q'
theorem ok_bits (T : At K mg "are_bits" sAreBits ["thing", "size", "way"]) (B : Bt mg) (c_is_bit : Cal P w K mg base 2 "is_bit" ["thing"] spBit) (c_how_many_bits : Cal P w K mg base 1 "how_many_bits" ["size", "way"] spHow) : Cal P w K mg base 3 "are_bits" ["thing", "size", "way"] spBits := by
  refine cal_of T scAreBits (fun vs H Q E h => ?_) (fun f cdv A outer s H vs Q E hr h => ?_)
  · obtain ⟨p, v, g, n, z, rfl, _⟩ := h
    rfl
  · obtain ⟨p, v, g, n, y, rfl, hv, hf, q⟩ := h
    refine ⟨_, (pss_cons (ps_if (PW.pt (pw_or (pt_not (pt_val (pe_callB call_isi (by rfl) B.isinstance (by decide +kernel) (pa_cons (pv 0) (pa_cons (pe_bltn (v := .ty "tuple") (u := .type "tuple") (by rfl) B.tuple (by decide +kernel) rfl) pa_nil))))) (pw_or1 (pt_cmpR op_ne (pe_callB call_len_seq (by rfl) B.len PySem.boot_len (pa_cons (pv 0) pa_nil)) (pe_own c_how_many_bits hr (by decide) (by rfl) (pa_cons (pv 1) (pa_cons (pv 2) pa_nil))) (nomark _))))) (pss_one (ps_ret pe_bl)) pss_nil)
      (pss_one (ps_ret (pe_callB (cr_all rfl) (by rfl) B.all (by decide +kernel) (pa_cons (pe_lc (own := [("bit", 3)]) (g := (gName 3)) (tt := tYes) (te := (tCall spBit [] E0 (tCons (tVar 3) tNil))) (by rfl) scAreBits.nd (pi_tup (pv 0)) (blkOk_by (own := [("bit", 3)]) (N := ["thing", "size", "way", "bit"]) (sc := defScope sAreBits) (by decide +kernel)) (fun _ _ _ _ _ => (pg_name (i := 3) scAreBits.nd rfl (Or.inl rfl))) (fun _ _ _ _ _ => pts_nil) (fun _ _ _ _ _ => (pe_own c_is_bit hr (by decide) (by rfl) (pa_cons (pv 3) pa_nil)))) pa_nil))))), ?_⟩
    refine ⟨_, rfl, v, .ty "tuple", _, _, _, rfl, .ty "tuple", hv.ty, kit_tuple g, _, rfl, iteB (fun e => ?_) (fun e => ?_)⟩
    · have z : false = areBitsG g n y := by
        have e' := bFalse e
        cases g <;> first | rfl | cases e'
      have q' := q H (Same.refl H)
      rw [← z] at q'
      exact q'
    obtain ⟨a, ws, ds, rfl, rfl, tw, tl⟩ := tg_tup hv (bTrue e)
    have q : ∀ H', Same H H' → Q (.bl (decide ((ds.length : Int) = bitsN n y) && ds.all bitG)) H' := q
    have hf : ds.length ≤ 100 := hf
    have hwl : ws.length = ds.length := tl.len
    refine ⟨_, rfl, a, _, rfl, .inr tw.sq, _, rfl, _, rfl, n, y, rfl, rfl, _, rfl, iteB (fun e1 => ?_) (fun e1 => ?_)⟩
    · have z : decide ((ds.length : Int) = bitsN n y) = false := by
        have y := bFalse e1
        rw [dec_int', hwl] at y
        exact y
      have q' := q H (Same.refl H)
      rw [z, Bool.false_and] at q'
      exact q'
    have z1 : decide ((ds.length : Int) = bitsN n y) = true := by
      have y := bTrue e1
      rw [dec_int', hwl] at y
      exact y
    rw [z1] at q
    refine ⟨_, rfl, a, rfl, ⟨_, tw.sq⟩, fun D nD => ?_⟩
    refine lc_tup (K := K) (a := a) (xs := ws) (fun i H2 => Same H H2 ∧ H2 D = some (.lst (((ds.take i).map bitG).map V.bl))) ?_ ?_ ?_ ?_
    · exact ⟨same_upd nD, upd_same⟩
    · rintro i H2 _ ⟨s2, _⟩
      exact ((Keeps.same (p := p) s2).tw _ _ tw).sq
    · rintro i x H2 hx ⟨s2, hD⟩
      obtain ⟨g0, eg, hg0⟩ := tl.get hx
      refine ⟨rfl, tyes ?_⟩
      refine ⟨_, rfl, p, x, g0, rfl, hg0.keep (Keeps.same s2), _, hD, ?_, ?_, ?_⟩
      · rw [List.length_map, List.length_map, List.length_take]
        exact small1000 (by omega)
      · intro c o ec
        rw [upd_ne (ne_of_none ec nD)]
        exact s2 _ _ ec
      · rw [upd_same, List.take_add_one, eg, List.map_append, List.map_append]
        rfl
    · rintro H2 ⟨s2, hD⟩
      rw [hwl, List.take_length] at hD
      refine ⟨D, ds.map bitG, rfl, SqL.of hD, ?_⟩
      rw [all_map]
      exact q H2 s2
theorem tg_str {p : Addr} {H : Hp} {v : V} {g : G} (h : Tg p H v g) (e : wayG g = true) : ∃ s, v = .str s ∧ g = .str s := by
  cases h with
  | str s => exact ⟨s, rfl, rfl⟩
  | _ => cases e
theorem tg_size {p : Addr} {H : Hp} {v : V} {g : G} {s : Str} (h : Tg p H v g) (e : sizeG g s = true) : ∃ i, v = .int i ∧ g = .int i := by
  cases h with
  | int i => exact ⟨i, rfl, rfl⟩
  | _ => cases e
theorem layG_way {g gs gw : G} (e : wayG gw = false) : layG g gs gw = false := by
  unfold layG
  split
  · rw [e, Bool.false_and]
  · rfl
theorem layG_size {g gs : G} {s : Str} (e : sizeG gs s = false) : layG g gs (.str s) = false := by
  cases gs with
  | int n =>
    cases g with
    | tup ds =>
      match ds with
      | [] => rfl
      | [_] => rfl
      | [d1, d2] =>
        show (wayG (.str s) && (sizeG (.int n) s && (areSlotsG d1 n && areBitsG d2 n s))) = false
        rw [e, Bool.false_and, Bool.and_false]
      | _ :: _ :: _ :: _ => rfl
    | _ => rfl
  | _ => rfl
end
end Su
/-! ### S1: a shelf made, of things of any kind -/
namespace Su
open PySem PySem.Spec PyProof.Rows L2
def strG : G → Str
  | .str s => s
  | _ => ""
def isNon : G → Bool
  | .non => true
  | _ => false
/-- the part that isn't so -/
def partG (gz gw gc gm : G) : Option Str :=
  if wayG gw = true then (if sizeG gz (strG gw) = true then (if (!isNon gc && !areSlotsG gc (numG gz)) = true then some "slots" else if (!isNon gm && !areBitsG gm (numG gz) (strG gw)) = true then some "bits" else none) else some "size") else some "way"
def optV : Option Str → V
  | none => .non
  | some s => .str s
def spPart : Sp := fun vs H Q _ => ∃ (p : Addr) (vz vw vc vm : V) (gz gw gc gm : G), vs = [vz, vw, vc, vm] ∧ Tg p H vz gz ∧ Tg p H vw gw ∧ Tg p H vc gc ∧ Tg p H vm gm ∧ few gc ∧ few gm ∧ ∀ H', Same H H' → Q (optV (partG gz gw gc gm)) H'
theorem way_str {p : Addr} {H : Hp} {v : V} {g : G} (h : Tg p H v g) (e : wayG g = true) : ∃ s, v = .str s ∧ g = .str s := by
  cases h with
  | str s => exact ⟨s, rfl, rfl⟩
  | _ => cases e
theorem size_int {p : Addr} {H : Hp} {v : V} {g : G} {s : Str} (h : Tg p H v g) (e : sizeG g s = true) : ∃ n, v = .int n ∧ g = .int n := by
  cases h with
  | int n => exact ⟨n, rfl, rfl⟩
  | _ => cases e
theorem non_dec {p : Addr} {H : Hp} {v : V} {g : G} (h : Tg p H v g) : decide (v = .non) = isNon g := by
  cases h <;> rfl
theorem mid {R M : L2.St → Hp → Prop} {G : Prop} (hR : ∀ σ H, M σ H → R σ H) (h : (∀ σ H, M σ H → R σ H) → G) : G := h hR
theorem sc_wrong_part : FnScope ["size", "way", "slots", "bits"] ["size", "way", "slots", "bits"] (defScope s_wrong_part) := ⟨rfl, rfl, rfl, by decide +kernel, rfl, by decide +kernel, by decide +kernel⟩
section
variable {P : Program} {w : World} {K : PySem.W.Frag} {mg : Str → Option Value} {base : Heap}
theorem ok_part (T : At K mg "wrong_part" s_wrong_part ["size", "way", "slots", "bits"]) (c_is_way : Cal P w K mg base 1 "is_way" ["thing"] spWay) (c_is_size : Cal P w K mg base 2 "is_size" ["thing", "way"] spSize) (c_are_slots : Cal P w K mg base 4 "are_slots" ["thing", "size"] spSlots)
    (c_are_bits : Cal P w K mg base 3 "are_bits" ["thing", "size", "way"] spBits) : Cal P w K mg base 5 "wrong_part" ["size", "way", "slots", "bits"] spPart := by
  refine cal_of T sc_wrong_part (fun vs H Q E h => ?_) (fun f cdv A outer s H vs Q E hr h => ?_)
  · obtain ⟨p, vz, vw, vc, vm, gz, gw, gc, gm, rfl, _⟩ := h
    rfl
  · obtain ⟨p, vz, vw, vc, vm, gz, gw, gc, gm, rfl, hz, hw, hc, hm, fc, fm, q⟩ := h
    refine ⟨_, (pss_cons (ps_if (pt_not (pt_val (pe_own c_is_way hr (by decide) (by rfl) (pa_cons (pv 1) pa_nil)))) (pss_one (ps_ret pe_str)) pss_nil)
      (pss_cons (ps_if (pt_not (pt_val (pe_own c_is_size hr (by decide) (by rfl) (pa_cons (pv 0) (pa_cons (pv 1) pa_nil))))) (pss_one (ps_ret pe_str)) pss_nil)
      (pss_cons (ps_if (PW.pt (pw_and (pt_cmpR op_notN (pv 2) pe_non (nomark _)) (pw_and1 (pt_not (pt_val (pe_own c_are_slots hr (by decide) (by rfl) (pa_cons (pv 2) (pa_cons (pv 0) pa_nil)))))))) (pss_one (ps_ret pe_str)) pss_nil)
      (pss_cons (ps_if (PW.pt (pw_and (pt_cmpR op_notN (pv 3) pe_non (nomark _)) (pw_and1 (pt_not (pt_val (pe_own c_are_bits hr (by decide) (by rfl) (pa_cons (pv 3) (pa_cons (pv 0) (pa_cons (pv 1) pa_nil))))))))) (pss_one (ps_ret pe_str)) pss_nil)
      (pss_one (ps_ret pe_non)))))), ?_⟩
    refine ⟨_, rfl, p, vw, gw, rfl, hw, _, rfl, iteB (fun e => ?_) (fun e => ?_)⟩
    · have z := q H (Same.refl H)
      unfold partG at z
      rw [if_neg (by rw [bFalse e]; exact Bool.false_ne_true)] at z
      exact z
    have e1 := bTrue e
    obtain ⟨st, rfl, rfl⟩ := way_str hw e1
    unfold partG at q
    rw [if_pos e1] at q
    refine ⟨_, rfl, _, rfl, p, vz, gz, st, rfl, hz, _, rfl, iteB (fun e => ?_) (fun e => ?_)⟩
    · have z := q H (Same.refl H)
      rw [if_neg (by rw [show sizeG gz (strG (.str st)) = false from bFalse e]; exact Bool.false_ne_true)] at z
      exact z
    have e2 := bTrue e
    obtain ⟨n, rfl, rfl⟩ := size_int hz e2
    rw [if_pos (show sizeG (.int n) (strG (.str st)) = true from e2)] at q
    apply mid (M := fun σ H1 => σ = [some (.int n), some (.str st), some vc, some vm] ∧ Same H H1 ∧ (!isNon gc && !areSlotsG gc n) = false)
    case h =>
      intro rest
      refine ⟨_, rfl, rfl, _, rfl, ?_⟩
      rw [non_dec hc]
      refine iteB (fun z => ?_) (fun z => ?_)
      rotate_left
      · exact iteF (rest _ _ ⟨rfl, Same.refl H, by rw [z, Bool.false_and]⟩)
      refine ⟨_, rfl, _, rfl, p, vc, gc, n, rfl, hc, fc, fun H1 s1 => ⟨_, rfl, iteB (fun z2 => ?_) (fun z2 => ?_)⟩⟩
      · have y := q H1 s1
        rw [if_pos (show (!isNon gc && !areSlotsG gc (numG (.int n))) = true by rw [z, show (!areSlotsG gc (numG (.int n))) = true from z2]; rfl)] at y
        exact y
      · exact rest _ _ ⟨rfl, s1, by rw [z2, Bool.and_false]⟩
    case hR =>
      rintro _ H1 ⟨rfl, s1, e3⟩
      rw [if_neg (show ¬ (!isNon gc && !areSlotsG gc (numG (.int n))) = true by rw [show (!isNon gc && !areSlotsG gc (numG (.int n))) = false from e3]; exact Bool.false_ne_true)] at q
      have hm1 := hm.keep (Keeps.same s1)
      refine ⟨_, rfl, rfl, _, rfl, ?_⟩
      rw [non_dec hm]
      refine iteB (fun z => ?_) (fun z => ?_)
      rotate_left
      · refine iteF ?_
        have y := q H1 s1
        rw [if_neg (by rw [z, Bool.false_and]; exact Bool.false_ne_true)] at y
        exact y
      refine ⟨_, rfl, _, rfl, _, rfl, p, vm, gm, n, st, rfl, hm1, fm, fun H2 s2 => ⟨_, rfl, iteB (fun z2 => ?_) (fun z2 => ?_)⟩⟩
      · have y := q H2 (s1.trans s2)
        rw [if_pos (show (!isNon gm && !areBitsG gm (numG (.int n)) (strG (.str st))) = true by rw [z, show (!areBitsG gm (numG (.int n)) (strG (.str st))) = true from z2]; rfl)] at y
        exact y
      · have y := q H2 (s1.trans s2)
        rw [if_neg (show ¬ (!isNon gm && !areBitsG gm (numG (.int n)) (strG (.str st))) = true by rw [show (!areBitsG gm (numG (.int n)) (strG (.str st))) = false from z2, Bool.and_false]; exact Bool.false_ne_true)] at y
        exact y
end
end Su
/-! ### S2: the class of shelves -/
namespace Su
open PySem PySem.Spec PyProof.Rows L2
/-- what the written part says of the class at C -/
structure ShC (K : PySem.W.Frag) (C : Addr) : Prop where
  cl : Cls K C
  many : NoAttr K C "many"
  kept : NoAttr K C "kept_by"
  slots : NoAttr K C "slots"
  bits : NoAttr K C "bits"
  near : NoAttr K C "near"
  far : NoAttr K C "far"
/-- the fields of a shelf -/
def shF (vz vw va vb : V) (n f : Int) : List (Str × V) := [("many", vz), ("kept_by", vw), ("slots", va), ("bits", vb), ("near", .int n), ("far", .int f)]
def slotsI (g : G) (n : Int) : List Int := match g with
  | .tup ds => ds.map numG
  | _ => List.replicate n.toNat (-1)
def bitsI (g : G) (n : Int) (s : Str) : List Int := match g with
  | .tup ds => ds.map numG
  | _ => List.replicate (bitsN n s).toNat 0
def spInit (C CN : Addr) : Sp := fun vs H Q E => ∃ (p x dx : Addr) (vz vw vc vm : V) (gz gw gc gm : G), vs = [.ref x, vz, vw, vc, vm] ∧ H x = some (.ins C dx []) ∧ Tg p H vz gz ∧ Tg p H vw gw ∧ Tg p H vc gc ∧ Tg p H vm gm ∧ few gc ∧ few gm ∧
  (partG gz gw gc gm = none → ∀ (a b : Addr) (H' : Hp), (∀ c o, H c = some o → c ≠ x → H' c = some o) → H' x = some (.ins C dx (shF vz vw (.ref a) (.ref b) 0 0)) → T2 H' a ((slotsI gc (numG gz)).map V.int) → T2 H' b ((bitsI gm (numG gz) (strG gw)).map V.int) → Q .non H') ∧
  ∀ s, partG gz gw gc gm = some s → ∀ (H' : Hp) (d : Addr), Same H H' → H d = none → H' d = some (.xd [("part", .str s)]) → E (.ref CN) (some d) H'
theorem mid4 {t : TT} {ta tb : TE} {σ : L2.St} {H0 : Hp} {R : V → Hp → Prop} (M : V → Hp → Prop) (hR : ∀ v H, M v H → R v H) (h : (∀ v H, M v H → R v H) → tIf t ta tb σ H0 R) : tIf t ta tb σ H0 R := h hR
theorem mid5 {K : PySem.W.Frag} {fl : Str} {t : TT} {to ta tb : TE} {S : TS} {D : Ends} {r : V → Hp → Prop} {b c : L2.St → Hp → Prop} {σ : L2.St} {H0 : Hp} (M : V → Hp → Prop)
    (hR : ∀ v H, M v H → to σ H fun x H2 => ∃ a C dx fs, x = V.ref a ∧ H2 a = some (HO.ins C dx fs) ∧ Cls K C ∧ NoAttr K C fl ∧ fs.length < 1000 ∧ (Ends.mk (S D) r b c).nx σ (upd H2 a (HO.ins C dx (putF fl v fs))))
    (h : ∀ R : V → Hp → Prop, (∀ v H, M v H → R v H) → tIf t ta tb σ H0 R) : (Ends.mk (tSeq (sFld K to (tIf t ta tb) fl) S D) r b c).nx σ H0 := h _ hR
theorem ints_of_slots {p : Addr} {H : Hp} : ∀ {vs : List V} {ds : List G}, TgL p H vs ds → (∀ d ∈ ds, wholeG d = true) → vs = (ds.map numG).map V.int
  | _, _, .nil, _ => rfl
  | _, _, .cons (d := d) h t, e => by
    have e1 := e d List.mem_cons_self
    rw [List.map_cons, List.map_cons, ← ints_of_slots t fun x hx => e x (List.mem_cons_of_mem _ hx)]
    cases h with
    | int i => rfl
    | _ => cases e1
theorem slot_whole {d : G} (h : slotG d = true) : wholeG d = true := by
  cases d <;> first | rfl | cases h
theorem bit_whole {d : G} (h : bitG d = true) : wholeG d = true := by
  cases d <;> first | rfl | cases h
/-- what a part that is none tells -/
theorem part_none {gz gw gc gm : G} (h : partG gz gw gc gm = none) : wayG gw = true ∧ sizeG gz (strG gw) = true ∧ (isNon gc = true ∨ areSlotsG gc (numG gz) = true) ∧ (isNon gm = true ∨ areBitsG gm (numG gz) (strG gw) = true) := by
  unfold partG at h
  split at h
  · rename_i e1
    split at h
    · rename_i e2
      split at h
      · cases h
      · rename_i e3
        split at h
        · cases h
        · rename_i e4
          refine ⟨e1, e2, ?_, ?_⟩
          · cases a : isNon gc <;> cases b : areSlotsG gc (numG gz) <;> simp_all
          · cases a : isNon gm <;> cases b : areBitsG gm (numG gz) (strG gw) <;> simp_all
    · cases h
  · cases h
theorem size_rng {n : Int} {s : Str} (h : sizeG (.int n) s = true) : 1 ≤ n ∧ n ≤ 8 := by
  have z : ((decide (1 ≤ n) && decide (n ≤ 8)) && (!decide (s = "tree") || inV (.int n) sizeVs)) = true := h
  rw [Bool.and_eq_true, Bool.and_eq_true, decide_eq_true_eq, decide_eq_true_eq] at z
  exact z.1
theorem rep_ints (k : Nat) (i : Int) : (List.replicate k [V.int i]).flatten = (List.replicate k i).map V.int := by
  induction k with
  | zero => rfl
  | succ k ih =>
    rw [List.replicate_succ, List.flatten_cons, ih, List.replicate_succ]
    rfl
theorem slots_non {g : G} {n : Int} (z : isNon g = true) : slotsI g n = List.replicate n.toNat (-1) := by
  cases g <;> first | rfl | cases z
theorem bits_non {g : G} {n : Int} {s : Str} (z : isNon g = true) : bitsI g n s = List.replicate (bitsN n s).toNat 0 := by
  cases g <;> first | rfl | cases z
theorem slots_tup {p : Addr} {H : Hp} {v : V} {g : G} {n : Int} (hc : Tg p H v g) (sl : areSlotsG g n = true) : ∃ a, v = .ref a ∧ T2 H a ((slotsI g n).map V.int) := by
  obtain ⟨a, vs, ds, rfl, rfl, ha, tl⟩ := tg_tup hc (by cases g <;> first | rfl | cases sl)
  have sl2 : (decide ((ds.length : Int) = n) && (ds.all slotG && decide ((dd (roomsOf ds)).length = (roomsOf ds).length))) = true := sl
  rw [Bool.and_eq_true, Bool.and_eq_true] at sl2
  have hv := ints_of_slots tl fun d hd => slot_whole (List.all_eq_true.mp sl2.2.1 d hd)
  refine ⟨a, rfl, ?_⟩
  show T2 H a ((ds.map numG).map V.int)
  rw [← hv]
  exact ha
theorem bits_tup {p : Addr} {H : Hp} {v : V} {g : G} {n : Int} {s : Str} (hc : Tg p H v g) (sl : areBitsG g n s = true) : ∃ a, v = .ref a ∧ T2 H a ((bitsI g n s).map V.int) := by
  obtain ⟨a, vs, ds, rfl, rfl, ha, tl⟩ := tg_tup hc (by cases g <;> first | rfl | cases sl)
  have sl2 : (decide ((ds.length : Int) = bitsN n s) && ds.all bitG) = true := sl
  rw [Bool.and_eq_true] at sl2
  have hv := ints_of_slots tl fun d hd => bit_whole (List.all_eq_true.mp sl2.2 d hd)
  refine ⟨a, rfl, ?_⟩
  show T2 H a ((ds.map numG).map V.int)
  rw [← hv]
  exact ha
theorem scS_init : FnScope ["self", "size", "way", "slots", "bits", "part"] ["self", "size", "way", "slots", "bits"] (defScope sS_init) := ⟨rfl, rfl, rfl, by decide +kernel, rfl, by decide +kernel, by decide +kernel⟩
section
variable {P : Program} {w : World} {K : PySem.W.Frag} {mg : Str → Option Value} {base : Heap}
theorem ok_init {C CN fI : Addr} {newId initId : String} {bmB : List Value} (SC : ShC K C) (OS : XC.Own P K mg "NoShelf" "part" CN fI "ValueError" newId initId bmB) (D : Gb K mg) (B : Bt mg) {f : Addr} {fd : FuncData} {dvs : List V} {kws : List (Str × V)} (F : FunD K "__init__" "Shelf.__init__" (defArgs sS_init) (defBody sS_init) (defScope sS_init) dvs kws f fd)
    (c_wrong_part : Cal P w K mg base 5 "wrong_part" ["size", "way", "slots", "bits"] spPart) (c_how_many_bits : Cal P w K mg base 1 "how_many_bits" ["size", "way"] spHow) : FnOk P w K mg base (L2.CX P w) 6 f fd ["self", "size", "way", "slots", "bits"] (spInit C CN) := by
  obtain ⟨te, mEmpty⟩ := D.empty
  refine FunD.ok (CX := L2.CX P w) F scS_init (fun vs H Q E h => ?_) (fun cdv A outer s H vs Q E hr h => ?_)
  · obtain ⟨p, x, dx, vz, vw, vc, vm, gz, gw, gc, gm, rfl, _⟩ := h
    rfl
  · obtain ⟨p, x, dx, vz, vw, vc, vm, gz, gw, gc, gm, rfl, hx, hz, hw, hc, hm, fc, fm, qy, qn⟩ := h
    refine ⟨_, (pss_cons (ps_set (i := 5) scS_init.nd rfl (Or.inl rfl) (pe_own c_wrong_part hr (by decide) (by rfl) (pa_cons (pv 1) (pa_cons (pv 2) (pa_cons (pv 3) (pa_cons (pv 4) pa_nil))))))
      (pss_cons (ps_if (pt_cmpR op_notN (pv 5) pe_non (nomark _)) (pss_one (ps_raiseX rfl OS hr (takes_of rfl rfl rfl rfl) (pa_cons (pv 5) pa_nil))) pss_nil)
      (pss_cons (ps_fld (pv 0) (pv 1) (by rfl))
      (pss_cons (ps_fld (pv 0) (pv 2) (by rfl))
      (pss_cons (ps_fld (pv 0) (pe_ifExp (pt_cmpR op_isN (pv 3) pe_non (nomark _)) (pe_op op_repF (pe_tupF (pa_cons (pe_glob (v := .int (-1)) rfl mEmpty ⟨_, rfl⟩) pa_nil)) (pv 1)) (pe_callTy call_tupleT (by rfl) B.tuple (by decide +kernel) (pa_cons (pv 3) pa_nil))) (by rfl))
      (pss_cons (ps_fld (pv 0) (pe_ifExp (pt_cmpR op_isN (pv 4) pe_non (nomark _)) (pe_op op_repF (pe_tupF (pa_cons pe_int pa_nil)) (pe_own c_how_many_bits hr (by decide) (by rfl) (pa_cons (pv 1) (pa_cons (pv 2) pa_nil)))) (pe_callTy call_tupleT (by rfl) B.tuple (by decide +kernel) (pa_cons (pv 4) pa_nil))) (by rfl))
      (pss_cons (ps_fld (pv 0) pe_int (by rfl))
      (pss_one (ps_fld (pv 0) pe_int (by rfl)))))))))), ?_⟩
    refine ⟨_, rfl, _, rfl, _, rfl, _, rfl, p, vz, vw, vc, vm, gz, gw, gc, gm, rfl, hz, hw, hc, hm, fc, fm, fun H1 s1 => ?_⟩
    refine ⟨_, rfl, rfl, _, rfl, ?_⟩
    cases hp : partG gz gw gc gm with
    | some st =>
      refine iteB (fun _ => ?_) (fun z => by cases z)
      exact ⟨_, rfl, _, rfl, fun d hd => qn st hp _ d (s1.trans (same_upd hd)) (s1.free hd) upd_same⟩
    | none =>
      refine iteB (fun z => by cases z) (fun _ => ?_)
      obtain ⟨p1, p2, p3, p4⟩ := part_none hp
      obtain ⟨st, rfl, rfl⟩ := way_str hw p1
      obtain ⟨n, rfl, rfl⟩ := size_int hz p2
      obtain ⟨n1, n8⟩ := size_rng p2
      have hx1 := s1 _ _ hx
      refine ⟨_, rfl, _, rfl, x, C, dx, [], rfl, hx1, SC.cl, SC.many, (by decide), ?_⟩
      refine ⟨_, rfl, _, rfl, x, C, dx, _, rfl, upd_same, SC.cl, SC.kept, (by show 1 < 1000; decide), ?_⟩
      have hx3 : (upd (upd H1 x (.ins C dx (putF "many" (.int n) []))) x (.ins C dx (putF "kept_by" (.str st) (putF "many" (.int n) [])))) x = some (.ins C dx [("many", .int n), ("kept_by", .str st)]) := upd_same
      have kp3 : ∀ c o, H c = some o → c ≠ x → (upd (upd H1 x (.ins C dx (putF "many" (.int n) []))) x (.ins C dx (putF "kept_by" (.str st) (putF "many" (.int n) [])))) c = some o := fun c o e ne => by
        rw [upd_ne ne, upd_ne ne]
        exact s1 _ _ e
      have t3 : ∀ a xs, T2 H a xs → T2 (upd (upd H1 x (.ins C dx (putF "many" (.int n) []))) x (.ins C dx (putF "kept_by" (.str st) (putF "many" (.int n) [])))) a xs := fun a xs h => K2.upd (o := .ins C dx (putF "many" (.int n) [])) upd_same (fun _ z => nomatch z) (fun _ _ z => nomatch z) _ _ (K2.upd hx1 (fun _ z => nomatch z) (fun _ _ z => nomatch z) _ _ (h.same s1))
      generalize upd (upd H1 x (.ins C dx (putF "many" (.int n) []))) x (.ins C dx (putF "kept_by" (.str st) (putF "many" (.int n) []))) = H3 at hx3 kp3 t3 ⊢
      refine mid5 (M := fun v H4 => ∃ a, v = .ref a ∧ T2 H4 a ((slotsI gc n).map V.int) ∧ H4 x = some (.ins C dx [("many", .int n), ("kept_by", .str st)]) ∧ (∀ c o, H c = some o → c ≠ x → H4 c = some o) ∧ ∀ a xs, T2 H a xs → T2 H4 a xs) ?hR ?h
      case h =>
        intro R rest
        refine ⟨_, rfl, rfl, _, rfl, ?_⟩
        rw [non_dec hc]
        refine iteB (fun z => ?_) (fun z => ?_)
        · refine ⟨(by show 1 ≤ sizeLine; decide), fun t H4 s4 nt pt => ?_⟩
          refine ⟨_, rfl, t, n, [V.int (-1)], rfl, rfl, pt, (by simp), by omega, by omega, (by show 1 ≤ 1000; decide), fun v H5 s5 hv => ?_⟩
          refine rest _ _ ⟨v, rfl, ?_, s5 _ _ (s4 _ _ hx3), fun c o e ne => s5 _ _ (s4 _ _ (kp3 c o e ne)), fun a xs h => ((t3 a xs h).same s4).same s5⟩
          rw [rep_ints] at hv
          rw [slots_non z]
          exact .inl hv
        · have sl : areSlotsG gc n = true := by
            rcases p3 with y | y
            · rw [y] at z
              cases z
            · exact y
          obtain ⟨a, ea, ha⟩ := slots_tup hc sl
          refine ⟨_, rfl, a, _, (by show [vc] = [V.ref a]; rw [ea]), (t3 _ _ ha).sq, ?_⟩
          exact rest (V.ref a) H3 ⟨a, rfl, t3 _ _ ha, hx3, kp3, t3⟩
      case hR =>
        rintro _ H4 ⟨a, rfl, ta, hx4, kp4, t4⟩
        refine ⟨_, rfl, x, C, dx, _, rfl, hx4, SC.cl, SC.slots, (by show 2 < 1000; decide), ?_⟩
        have hx5 : (upd H4 x (.ins C dx (putF "slots" (.ref a) [("many", .int n), ("kept_by", .str st)]))) x = some (.ins C dx [("many", .int n), ("kept_by", .str st), ("slots", .ref a)]) := upd_same
        have ta5 : T2 (upd H4 x (.ins C dx (putF "slots" (.ref a) [("many", .int n), ("kept_by", .str st)]))) a ((slotsI gc n).map V.int) := K2.upd hx4 (fun _ z => nomatch z) (fun _ _ z => nomatch z) _ _ ta
        have kp5 : ∀ c o, H c = some o → c ≠ x → (upd H4 x (.ins C dx (putF "slots" (.ref a) [("many", .int n), ("kept_by", .str st)]))) c = some o := fun c o e ne => by
          rw [upd_ne ne]
          exact kp4 c o e ne
        have t5 : ∀ b xs, T2 H b xs → T2 (upd H4 x (.ins C dx (putF "slots" (.ref a) [("many", .int n), ("kept_by", .str st)]))) b xs := fun b xs h => K2.upd hx4 (fun _ z => nomatch z) (fun _ _ z => nomatch z) _ _ (t4 b xs h)
        generalize upd H4 x (.ins C dx (putF "slots" (.ref a) [("many", .int n), ("kept_by", .str st)])) = H5 at hx5 ta5 kp5 t5 ⊢
        refine mid5 (M := fun v H6 => ∃ b, v = .ref b ∧ T2 H6 b ((bitsI gm n st).map V.int) ∧ T2 H6 a ((slotsI gc n).map V.int) ∧ H6 x = some (.ins C dx [("many", .int n), ("kept_by", .str st), ("slots", .ref a)]) ∧ ∀ c o, H c = some o → c ≠ x → H6 c = some o) ?hR ?h
        case h =>
          intro R rest
          refine ⟨_, rfl, rfl, _, rfl, ?_⟩
          rw [non_dec hm]
          refine iteB (fun z => ?_) (fun z => ?_)
          · refine ⟨(by show 1 ≤ sizeLine; decide), fun t H6 s6 nt pt => ?_⟩
            refine ⟨_, rfl, _, rfl, n, st, rfl, ?_⟩
            have hb : 0 ≤ bitsN n st ∧ bitsN n st ≤ 1000 := by
              unfold bitsN
              split <;> omega
            refine ⟨t, bitsN n st, [V.int 0], rfl, rfl, pt, (by simp), hb.1, hb.2, (by show 1 ≤ 1000; decide), fun v H7 s7 hv => ?_⟩
            refine rest _ _ ⟨v, rfl, ?_, (ta5.same s6).same s7, s7 _ _ (s6 _ _ hx5), fun c o e ne => s7 _ _ (s6 _ _ (kp5 c o e ne))⟩
            rw [rep_ints] at hv
            rw [bits_non z]
            exact .inl hv
          · have sl : areBitsG gm n st = true := by
              rcases p4 with y | y
              · rw [y] at z
                cases z
              · exact y
            obtain ⟨b, eb, hb⟩ := bits_tup hm sl
            refine ⟨_, rfl, b, _, (by show [vm] = [V.ref b]; rw [eb]), (t5 _ _ hb).sq, ?_⟩
            exact rest (V.ref b) H5 ⟨b, rfl, t5 _ _ hb, ta5, hx5, kp5⟩
        case hR =>
          rintro _ H6 ⟨b, rfl, tb, ta6, hx6, kp6⟩
          refine ⟨_, rfl, x, C, dx, _, rfl, hx6, SC.cl, SC.bits, (by show 3 < 1000; decide), ?_⟩
          refine ⟨_, rfl, x, C, dx, _, rfl, upd_same, SC.cl, SC.near, (by show 4 < 1000; decide), ?_⟩
          refine ⟨_, rfl, x, C, dx, _, rfl, upd_same, SC.cl, SC.far, (by show 5 < 1000; decide), ?_⟩
          have K3 : ∀ {o1 o2 o3 : HO} {d : Addr} {xs : List V}, (∀ ys, o1 ≠ .tup ys) → (∀ c ys, o1 ≠ .frz c (.tup ys)) → (∀ ys, o2 ≠ .tup ys) → (∀ c ys, o2 ≠ .frz c (.tup ys)) → T2 H6 d xs → T2 (upd (upd (upd H6 x o1) x o2) x o3) d xs := fun n1 m1 n2 m2 h => K2.upd upd_same n2 m2 _ _ (K2.upd upd_same n1 m1 _ _ (K2.upd hx6 (fun _ z => nomatch z) (fun _ _ z => nomatch z) _ _ h))
          refine qy hp a b _ (fun c o e ne => ?_) upd_same (K3 (fun _ z => nomatch z) (fun _ _ z => nomatch z) (fun _ z => nomatch z) (fun _ _ z => nomatch z) ta6) (K3 (fun _ z => nomatch z) (fun _ _ z => nomatch z) (fun _ z => nomatch z) (fun _ _ z => nomatch z) tb)
          rw [upd_ne ne, upd_ne ne, upd_ne ne]
          exact kp6 c o e ne
end
end Su
/-! ### S3: what a shelf tells of itself -/
namespace Su
open PySem PySem.Spec PyProof.Rows L2
/-- a method that gives back a field -/
def spFld (C : Addr) (fl : Str) : Sp := fun vs H Q E => ∃ (x dx : Addr) (fs : List (Str × V)) (v : V), vs = [.ref x] ∧ H x = some (.ins C dx fs) ∧ fs.lookup fl = some v ∧ Q v H
/-- a method that gives back two fields, as a tuple -/
def spTwo (C : Addr) (f1 f2 : Str) : Sp := fun vs H Q E => ∃ (x dx : Addr) (fs : List (Str × V)) (v1 v2 : V), vs = [.ref x] ∧ H x = some (.ins C dx fs) ∧ fs.lookup f1 = some v1 ∧ fs.lookup f2 = some v2 ∧ ∀ t H', Same H H' → H t = none → PTup H' t [v1, v2] → Q (.ref t) H'
theorem scS_size : FnScope ["self"] ["self"] (defScope sS_size) := ⟨rfl, rfl, rfl, by decide +kernel, rfl, by decide +kernel, by decide +kernel⟩
theorem scS_way : FnScope ["self"] ["self"] (defScope sS_way) := ⟨rfl, rfl, rfl, by decide +kernel, rfl, by decide +kernel, by decide +kernel⟩
theorem scS_lay : FnScope ["self"] ["self"] (defScope sS_lay) := ⟨rfl, rfl, rfl, by decide +kernel, rfl, by decide +kernel, by decide +kernel⟩
section
variable {P : Program} {w : World} {K : PySem.W.Frag} {mg : Str → Option Value} {base : Heap}
theorem okS_size {C : Addr} (SC : ShC K C) {f : Addr} {fd : FuncData} (F : Fun K "size" "Shelf.size" sS_size f fd) : FnOk P w K mg base CX0 1 f fd ["self"] (spFld C "many") := by
  refine F.ok scS_size (fun vs H Q E h => ?_) (fun cdv A outer s H vs Q E hr h => ?_)
  · obtain ⟨x, dx, fs, v, rfl, _⟩ := h
    rfl
  · obtain ⟨x, dx, fs, v, rfl, hx, hl, q⟩ := h
    refine ⟨_, (pss_one (ps_ret (pe_fld (pv 0) (by rfl)))), ?_⟩
    exact ⟨_, rfl, x, C, dx, fs, v, rfl, hx, SC.cl, SC.many, hl, q⟩
theorem okS_way {C : Addr} (SC : ShC K C) {f : Addr} {fd : FuncData} (F : Fun K "way" "Shelf.way" sS_way f fd) : FnOk P w K mg base CX0 1 f fd ["self"] (spFld C "kept_by") := by
  refine F.ok scS_way (fun vs H Q E h => ?_) (fun cdv A outer s H vs Q E hr h => ?_)
  · obtain ⟨x, dx, fs, v, rfl, _⟩ := h
    rfl
  · obtain ⟨x, dx, fs, v, rfl, hx, hl, q⟩ := h
    refine ⟨_, (pss_one (ps_ret (pe_fld (pv 0) (by rfl)))), ?_⟩
    exact ⟨_, rfl, x, C, dx, fs, v, rfl, hx, SC.cl, SC.kept, hl, q⟩
theorem okS_lay {C : Addr} (SC : ShC K C) {f : Addr} {fd : FuncData} (F : Fun K "lay" "Shelf.lay" sS_lay f fd) : FnOk P w K mg base CX0 1 f fd ["self"] (spTwo C "slots" "bits") := by
  refine F.ok scS_lay (fun vs H Q E h => ?_) (fun cdv A outer s H vs Q E hr h => ?_)
  · obtain ⟨x, dx, fs, v1, v2, rfl, _⟩ := h
    rfl
  · obtain ⟨x, dx, fs, v1, v2, rfl, hx, h1, h2, q⟩ := h
    refine ⟨_, (pss_one (ps_ret (pe_tupF (pa_cons (pe_fld (pv 0) (by rfl)) (pa_cons (pe_fld (pv 0) (by rfl)) pa_nil))))), ?_⟩
    refine ⟨_, rfl, x, C, dx, fs, v1, rfl, hx, SC.cl, SC.slots, h1, _, rfl, x, C, dx, fs, v2, rfl, hx, SC.cl, SC.bits, h2, (by show 2 ≤ sizeLine; decide), fun t H1 s1 nt pt => q t H1 s1 nt pt⟩
end
end Su
/-! ### S4: shelves made -/
namespace Su
open PySem PySem.Spec PyProof.Rows L2
def psI : List Str := ["self", "size", "way", "slots", "bits"]
def dvI : List V := [.int 4, .str "last", .non, .non]
/-- a class that may be made by its name -/
structure MakS (P : Program) (w : World) (K : PySem.W.Frag) (mg : Str → Option Value) (base : Heap) (k : Nat) (C : Addr) (sp : Sp) : Prop where
  ex : ∃ (f : Addr) (fd : FuncData), L2.Mk K C f ∧ FnOk P w K mg base (L2.CX P w) k f fd psI sp ∧ mg "Shelf" = some (.ref C) ∧ Binds K fd psI [] ∧ (∃ ds, Vals dvI ds ∧ Binds K fd psI ds) ∧
    (∃ its : List Value, KBn K fd psI 1 ["way"] (fun us ws => us ++ its.take 1 ++ ws ++ its.drop 2) (fun vs zs => vs ++ dvI.take 1 ++ zs ++ dvI.drop 2)) ∧
    (∃ its : List Value, KBn K fd psI 2 ["bits"] (fun us ws => us ++ (its.drop 1).take 2 ++ ws) (fun vs zs => vs ++ (dvI.drop 1).take 2 ++ zs)) ∧
    (∃ its : List Value, KBn K fd psI 1 ["slots", "bits", "way", "size"] (fun us ws => us ++ ws.drop 3 ++ (ws.drop 2).take 1 ++ ws.take 2) (fun vs zs => vs ++ zs.drop 3 ++ (zs.drop 2).take 1 ++ zs.take 2))
theorem Vals.take' {vs : List V} {us : List Value} (h : Vals vs us) : ∀ n, Vals (vs.take n) (us.take n) := by
  induction h with
  | nil => intro n; rw [List.take_nil, List.take_nil]; exact .nil
  | cons a _ ih =>
    intro n
    cases n with
    | zero => exact .nil
    | succ n => exact .cons a (ih n)
section
variable {P : Program} {w : World} {K : PySem.W.Frag} {mg : Str → Option Value} {base : Heap}
theorem mak_of {C f : Addr} {fd : FuncData} {k : Nat} {sp : Sp} (M : L2.Mk K C f) (hm : mg "Shelf" = some (.ref C)) (F : FunD K "__init__" "Shelf.__init__" (defArgs sS_init) (defBody sS_init) (defScope sS_init) dvI [] f fd) (o : FnOk P w K mg base (L2.CX P w) k f fd psI sp) : MakS P w K mg base k C sp := by
  have b4 : Binds K fd psI [] := by
    obtain ⟨ds, h1, h2⟩ := F.binds1 (ps := psI) 5 4 (by simp [dvI]) rfl fun T kV doc pm an cdv ct us its hu hi => match us, its, hu, hi with | [_, _, _, _, _], [_, _, _, _], _, _ => ⟨_, rfl, rfl⟩
    cases h1
    exact h2
  have b0 := F.binds1 (ps := psI) 1 0 (by simp [dvI]) rfl fun T kV doc pm an cdv ct us its hu hi => match us, its, hu, hi with | [_], [_, _, _, _], _, _ => ⟨_, rfl, rfl⟩
  have k1 := F.kbindsD (ps := psI) 1 ["way"] (fun us its ws => us ++ its.take 1 ++ ws ++ its.drop 2) (by simp [dvI]) (fun a b c => ((a.append (Vals.take' b 1)).append c).append (b.drop 2)) fun T kV doc pm an cdv ct us its ws hu hi hw => match us, its, ws, hu, hi, hw with | [_], [_, _, _, _], [_], _, _, _ => ⟨_, rfl, rfl⟩
  have k2 := F.kbindsD (ps := psI) 2 ["bits"] (fun us its ws => us ++ (its.drop 1).take 2 ++ ws) (by simp [dvI]) (fun a b c => (a.append (Vals.take' (b.drop 1) 2)).append c) fun T kV doc pm an cdv ct us its ws hu hi hw => match us, its, ws, hu, hi, hw with | [_, _], [_, _, _, _], [_], _, _, _ => ⟨_, rfl, rfl⟩
  have k4 := F.kbindsD (ps := psI) 1 ["slots", "bits", "way", "size"] (fun us its ws => us ++ ws.drop 3 ++ (ws.drop 2).take 1 ++ ws.take 2) (by simp [dvI]) (fun a b c => ((a.append (c.drop 3)).append (Vals.take' (c.drop 2) 1)).append (Vals.take' c 2)) fun T kV doc pm an cdv ct us its ws hu hi hw => match us, its, ws, hu, hi, hw with | [_], [_, _, _, _], [_, _, _, _], _, _, _ => ⟨_, rfl, rfl⟩
  exact ⟨f, fd, M, o, hm, b4, b0, k1, k2, k4⟩
end
section
variable {X : Cx} {CX : CXT} {k j : Nat} {f C : Addr} {fd : FuncData} {ps : List Str} {sp : Sp} {ds : List Value} {dvs : List V} {E : L2.St → XK} {x : Str} {p pos : Pos} {e : Expr} {es : List Expr} {kws : List Keyword} {t tk : TA} {W : WX}
def W0 : WX := fun _ _ _ _ => False
theorem pass00 {X : Cx} : Passes (L2.CX X.prog X.w) X (fun _ _ _ => False) := fun pins σ H s e s' I c => passAt (W := W0) takes0 σ pins H s e s' I c
/-- what a making tells, where what is let out may look at the slots -/
def tMakeS (C : Addr) (sp : Sp) (dvs : List V) (E : L2.St → XK) (t : TA) : TE := fun σ H Q => t σ H fun vs H1 => ∀ x dx, H1 x = none → H1 dx = none → dx ≠ x →
  sp (.ref x :: (vs ++ dvs)) (upd (upd H1 dx (.own x)) x (.ins C dx [])) (fun v H2 => v = .non ∧ Q (.ref x) H2) (E σ)
theorem run_makeS {pins : List (Addr × Obj)} {σ : L2.St} {H : Hp} {s : Shared} {Q : VK} {us : List Value} {vs : List V} (M : L2.Mk X.K C f) (F : FnOk X.prog X.w X.K X.mg X.base CX k f fd ps sp) (hr : Room (k + 1) X.A) (hb : Binds X.K fd ps ds) (hd : Vals dvs ds)
    (hx : PassesAt CX X σ (E σ)) (I : Inv X pins σ H s) (r : Vals vs us)
    (h : ∀ x dx, H x = none → H dx = none → dx ≠ x → sp (.ref x :: (vs ++ dvs)) (upd (upd H dx (.own x)) x (.ins C dx [])) (fun v H2 => v = .non ∧ Q (.ref x) H2) (E σ)) :
    wpAny (model X.prog X.w) X.A (call (.ref C) us) (EP X pins σ Q) X.xe s := by
  have I2 := Inv.made (C := C) I
  have hq := h (s.heap.objs.size + 1) s.heap.objs.size (I.hok.fresh (Nat.le_succ _)) (I.hok.fresh (Nat.le_refl _)) (Nat.ne_of_lt (Nat.lt_succ_self _))
  have r2 : Vals (V.ref (s.heap.objs.size + 1) :: (vs ++ dvs)) (Value.ref (s.heap.objs.size + 1) :: (us ++ ds)) := .cons rfl (r.append hd)
  have hl : (Value.ref (s.heap.objs.size + 1) :: us ++ ds).length = ps.length := r2.length.symm.trans (F.len _ _ _ _ hq)
  refine wpAny_call (make_map (f := f) I.kIn M.makes M.init (beq_iff_eq.mp M.fn) (codeAny_mono (F.run _ X.stack _ _ ⟨Value.ref (s.heap.objs.size + 1) :: us, []⟩ (Value.ref (s.heap.objs.size + 1) :: (us ++ ds)) _ _ (E σ) (hr.make C us [])
    (I2.env0.make C us []) (hb _ (Value.ref (s.heap.objs.size + 1) :: us) I2.kIn hl) r2 hq) fun r s' q => ?_))
  rcases r with z | z
  · exact hx pins _ _ z s' I2 q
  · cases z with
    | ret u =>
      obtain ⟨v, H', I3, rv, rfl, q3⟩ := I2.after q
      exact ⟨rv, .ref (s.heap.objs.size + 1), H', I3, rfl, q3⟩
    | _ => exact q.elim
theorem pe_shelfX (tk : Takes X W) (c : MakS X.prog X.w X.K X.mg X.base k C sp) (hr : Room j X.A) (hk : k + 1 ≤ j) (hg : Gl X "Shelf") (ha : PA X (e :: es) t)
    (he : starEach (e :: es) X.env = (false, eval e X.env) :: starEach es X.env := by rfl) (hpl : (backTo pos (starEach es X.env)).any (·.1) = false := by rfl) :
    PE X (.Call (.Name "Shelf" p) (e :: es) [] pos) (tMakeS C sp [] (WE W) t) := by
  obtain ⟨f, fd, M, F, hm, b4, _⟩ := c.ex
  refine ⟨fun pins s σ H Q I h => ?_⟩
  refine wpAny_Call_Name_kw (ld_glob I hg hm ?_ (by decide))
  refine PySem.W.callWith_K (h₀ := X.base) I.ok.mod.kin M.kp (thn (ha.run pos pins s σ H _ I h) fun us s1 ⟨vs, H1, I1, r, q⟩ => ⟨I1.kIn, ?_⟩) he hpl
  exact run_makeS M F (hr.mono hk) b4 .nil (passAt tk σ) I1 r q
theorem pe_shelf0 (c : MakS X.prog X.w X.K X.mg X.base k C sp) (hr : Room j X.A) (hk : k + 1 ≤ j) (hg : Gl X "Shelf") : PE X (.Call (.Name "Shelf" p) [] [] pos) (tMake C sp dvI (fun _ _ _ => False) tNil) := by
  obtain ⟨f, fd, M, F, hm, _, ⟨ds, hd, b0⟩, _⟩ := c.ex
  exact pe_make0 M F (hr.mono hk) hg hm b0 hd pass00
/-- Shelf(way = ..) -/
theorem pe_shelfW {kv : Expr} {p2 : Pos} (c : MakS X.prog X.w X.K X.mg X.base k C sp) (hr : Room j X.A) (hk : k + 1 ≤ j) (hg : Gl X "Shelf") (hkw : PK X [⟨some "way", kv, p2⟩] tk) : PE X (.Call (.Name "Shelf" p) [] [⟨some "way", kv, p2⟩] pos) (tMakeK C 0 1 sp (fun vs zs => vs ++ dvI.take 1 ++ zs ++ dvI.drop 2) (fun _ _ _ => False) tNil tk) := by
  obtain ⟨f, fd, M, F, hm, _, _, ⟨its, b⟩, _⟩ := c.ex
  exact pe_makeK0 M F (hr.mono hk) hg hm b pass00 hkw
/-- Shelf(.., bits = ..) -/
theorem pe_shelfB {kv : Expr} {p2 : Pos} (c : MakS X.prog X.w X.K X.mg X.base k C sp) (hr : Room j X.A) (hk : k + 1 ≤ j) (hg : Gl X "Shelf") (ha : PA X [e] t) (hkw : PK X [⟨some "bits", kv, p2⟩] tk) (he : starEach [e] X.env = (false, eval e X.env) :: starEach [] X.env := by rfl)
    (hpl : ((backTo pos (starEach [e] X.env)).any (·.1) || (backToKw pos (keywordEach [⟨some "bits", kv, p2⟩] X.env)).any (·.1.isNone)) = false := by rfl) :
    PE X (.Call (.Name "Shelf" p) [e] [⟨some "bits", kv, p2⟩] pos) (tMakeN C 1 1 sp (fun vs zs => vs ++ (dvI.drop 1).take 2 ++ zs) (fun _ _ _ => False) t tk) := by
  obtain ⟨f, fd, M, F, hm, _, _, _, ⟨its, b⟩, _⟩ := c.ex
  exact pe_makeN (n := 1) M F (hr.mono hk) hg hm b pass00 ha hkw (he := he) (hpl := hpl)
/-- Shelf(slots = .., bits = .., way = .., size = ..) -/
theorem pe_shelfA {k1 k2 k3 k4 : Expr} {p1 p2 p3 p4 : Pos} (c : MakS X.prog X.w X.K X.mg X.base k C sp) (hr : Room j X.A) (hk : k + 1 ≤ j) (hg : Gl X "Shelf") (hkw : PK X [⟨some "slots", k1, p1⟩, ⟨some "bits", k2, p2⟩, ⟨some "way", k3, p3⟩, ⟨some "size", k4, p4⟩] tk) :
    PE X (.Call (.Name "Shelf" p) [] [⟨some "slots", k1, p1⟩, ⟨some "bits", k2, p2⟩, ⟨some "way", k3, p3⟩, ⟨some "size", k4, p4⟩] pos) (tMakeK C 0 4 sp (fun vs zs => vs ++ zs.drop 3 ++ (zs.drop 2).take 1 ++ zs.take 2) (fun _ _ _ => False) tNil tk) := by
  obtain ⟨f, fd, M, F, hm, _, _, _, _, ⟨its, b⟩⟩ := c.ex
  exact pe_makeK0 M F (hr.mono hk) hg hm b pass00 hkw
end
end Su
/-! ### R0: webs as things -/
namespace Su
open PySem PySem.Spec PyProof.Rows L2
def rowT (r : Rw) : G := .tup [.tup (r.1.map G.int), .tup (r.2.map G.int)]
theorem tg_row {p : Addr} {H : Hp} {v : V} {r : Rw} (h : RowAt H v r) : Tg p H v (rowT r) := by
  obtain ⟨a, b, c, rfl, h1, h2, h3⟩ := h
  exact .tup h1 (.cons (.tup h2 (TgL.ints _)) (.cons (.tup h3 (TgL.ints _)) .nil))
theorem tg_rows {p : Addr} {H : Hp} : ∀ {vs : List V} {rs : List Rw}, RowsAt H vs rs → TgL p H vs (rs.map rowT)
  | [], [], _ => .nil
  | _ :: _, _ :: _, h => .cons (tg_row h.1) (tg_rows h.2)
  | [], _ :: _, h => h.elim
  | _ :: _, [], h => h.elim
theorem tg_web {p a : Addr} {H : Hp} {rs : List Rw} (h : WebAt H a rs) (n : a ≠ p) : Tg p H (.ref a) (.lst (rs.map rowT)) := by
  obtain ⟨ws, e, r⟩ := h
  exact .lst n e (tg_rows r)
theorem val_ints (ns : List Int) : (ns.map G.int).map valI = ns := by
  rw [List.map_map]
  exact List.map_id' ns
theorem rw_row (r : Rw) : rwOf (rowT r) = r := by
  show ((r.1.map G.int).map valI, (r.2.map G.int).map valI) = r
  rw [val_ints, val_ints]
theorem ups_all : ∀ {ns : List Int}, ns.Pairwise (· < ·) → (ups ns).all id = true
  | [], _ => rfl
  | [a], _ => rfl
  | a :: b :: l, h => by
    have h1 := List.pairwise_cons.mp h
    have ih := ups_all h1.2
    show (decide (a < b) && (ups (b :: l)).all id) = true
    rw [decide_eq_true (h1.1 b List.mem_cons_self), ih]
    rfl
theorem ris_ints {n : Int} {ns : List Int} (h : Ris 0 (n - 1) ns) : risG n (ns.map G.int) = true := by
  unfold risG
  rw [val_ints, ups_all h.pw, Bool.and_true, List.all_eq_true]
  intro b hb
  obtain ⟨g, hg, rfl⟩ := List.mem_map.mp hb
  obtain ⟨k, hk, rfl⟩ := List.mem_map.mp hg
  show (decide (0 ≤ k) && decide (k < n)) = true
  have := h.lo k hk
  have := h.hi k hk
  rw [decide_eq_true (by omega : 0 ≤ k), decide_eq_true (by omega : k < n)]
  rfl
theorem row_row {n : Nat} {r : Rw} (ok : RowOk n r) : rowG n (rowT r) = true := by
  show (((decide ((0 : Int) ≤ ((r.1.map G.int).length : Int)) && decide (((r.1.map G.int).length : Int) ≤ 6)) && risG 100 (r.1.map G.int)) && (decide (((r.2.map G.int).length : Int) ≤ (n : Int)) && risG n (r.2.map G.int))) = true
  have h1 := ok.few
  have h2 := ris_len ok.tos
  rw [ris_ints (n := 100) ok.rooms, ris_ints (n := (n : Int)) ok.tos, List.length_map, List.length_map, decide_eq_true (by omega : (0 : Int) ≤ (r.1.length : Int)), decide_eq_true (by omega : (r.1.length : Int) ≤ 6), decide_eq_true (by omega : (r.2.length : Int) ≤ (n : Int))]
  rfl
theorem rw_rows (rs : List Rw) : (rs.map rowT).map rwOf = rs := by
  rw [List.map_map]
  have e : (rwOf ∘ rowT) = id := funext fun r => rw_row r
  rw [e, List.map_id]
theorem look_web {rs : List Rw} (ok : WebOk rs) : lookG (.lst (rs.map rowT)) = none := by
  have h1 := ok.pos
  have h2 := ok.few
  obtain ⟨S, hS, hin⟩ := ok.all
  show (if 1 ≤ (rs.map rowT).length ∧ (rs.map rowT).length ≤ 80 then (match badAt (rowG ((rs.map rowT).length : Nat)) (rs.map rowT) with
    | some i => some (some i)
    | none => if 12 < (oneEach (allRooms ((rs.map rowT).map rwOf))).length then some none else none) else some none) = none
  rw [List.length_map, if_pos ⟨h1, h2⟩, badAt_none fun g hg => ?_, rw_rows]
  · show (if 12 < (oneEach (allRooms rs)).length then some none else none) = none
    rw [if_neg]
    have := nodup_few (S := S) (oneEach_nodup (allRooms rs)) fun k hk => hin k ((oneEach_mem k _).mp hk)
    omega
  · obtain ⟨r, hr, rfl⟩ := List.mem_map.mp hg
    exact row_row (ok.row r hr)
theorem in_ints (x : Int) : ∀ xs : List Int, inV (.int x) (xs.map V.int) = decide (x ∈ xs)
  | [] => rfl
  | y :: xs => by
    have ih := in_ints x xs
    unfold inV at ih ⊢
    rw [List.map_cons, List.any_cons, ih]
    show ((y == x) || decide (x ∈ xs)) = decide (x ∈ y :: xs)
    by_cases e : y = x
    · subst e
      simp
    · have e2 : ¬ x = y := fun z => e z.symm
      simp [e, e2]
theorem flat_ints : ∀ xs : List Int, (xs.map V.int).all flatV = true
  | [] => rfl
  | x :: xs => by
    show (flatV (V.int x) && (xs.map V.int).all flatV) = true
    rw [flat_ints xs]
    rfl
end Su
/-! ### R1: runs, of things of any kind -/
namespace Su
open PySem PySem.Spec PyProof.Rows L2
def askG (ks : List Int) (g : G) : Bool := if ks.isEmpty = true then isNon g else match g with
  | .int k => decide (k ∈ ks)
  | _ => false
def stepG (rs : List Rw) (tos : List Int) : G → Bool
  | .tup [a, b] => wholeG a && (decide (numG a ∈ tos) && askG (rs.getD (numG a).toNat ([], [])).1 b)
  | _ => false
def tosS (rs : List Rw) : G → List Int
  | .tup (a :: _) => (rs.getD (numG a).toNat ([], [])).2
  | _ => []
def stepsG (rs : List Rw) : List Int → List G → Option Nat
  | _, [] => none
  | tos, g :: gs => if stepG rs tos g = true then (stepsG rs (tosS rs g) gs).map (· + 1) else some 0
def runG (rs : List Rw) : G → Option (Option Nat)
  | .lst gs => if 1 ≤ gs.length ∧ gs.length ≤ 20000 then (stepsG rs [0] gs).map some else some none
  | _ => some none
theorem steps_at {rs : List Rw} {tos : List Int} {gs : List G} {i : Nat} {g : G} {tot : List G} (e : gs[i]? = some g) (h : stepsG rs [0] gs = (stepsG rs tos (gs.drop i)).map (· + i)) :
    (stepG rs tos g = false → stepsG rs [0] gs = some i) ∧ (stepG rs tos g = true → stepsG rs [0] gs = (stepsG rs (tosS rs g) (gs.drop (i + 1))).map (· + (i + 1))) := by
  have ed : gs.drop i = g :: gs.drop (i + 1) := by
    obtain ⟨hi, e2⟩ := List.getElem?_eq_some_iff.mp e
    rw [List.drop_eq_getElem_cons hi, e2]
  rw [ed] at h
  refine ⟨fun z => ?_, fun z => ?_⟩
  · rw [h]
    show (if stepG rs tos g = true then (stepsG rs (tosS rs g) (gs.drop (i + 1))).map (· + 1) else some 0).map (· + i) = some i
    rw [z, if_neg (by decide)]
    show some (0 + i) = some i
    rw [Nat.zero_add]
  · rw [h]
    show (if stepG rs tos g = true then (stepsG rs (tosS rs g) (gs.drop (i + 1))).map (· + 1) else some 0).map (· + i) = _
    rw [if_pos z, Option.map_map]
    congr 1
    funext k
    show k + 1 + i = k + (i + 1)
    omega
def spAskOf : Sp := fun vs H Q _ => ∃ (p b : Addr) (ks : List Int) (v : V) (g : G), vs = [.ref b, v] ∧ T2 H b (ks.map V.int) ∧ Tg p H v g ∧ (∀ k ∈ ks, 0 ≤ k ∧ k ≤ 99) ∧ Q (.bl (askG ks g)) H
def spStep : Sp := fun vs H Q _ => ∃ (p W t : Addr) (v : V) (rs : List Rw) (tos : List Int) (g : G), vs = [.ref W, .ref t, v] ∧ WebAt H W rs ∧ WebOk rs ∧ T2 H t (tos.map V.int) ∧ (∀ k ∈ tos, 0 ≤ k ∧ k < rs.length) ∧ Tg p H v g ∧ Q (.bl (stepG rs tos g)) H
def spLookRun (C : Addr) : Sp := fun vs H Q E => ∃ (p W : Addr) (v : V) (rs : List Rw) (g : G), vs = [.ref W, v] ∧ WebAt H W rs ∧ WebOk rs ∧ Tg p H v g ∧ (runG rs g = none → ∀ H', Same H H' → Q .non H') ∧
  ∀ r, runG rs g = some r → ∀ (H' : Hp) (d : Addr), Same H H' → H d = none → H' d = some (.xd [("number", rowV r)]) → E (.ref C) (some d) H'
theorem row_get {H : Hp} {W : Addr} {rs : List Rw} {ws : List V} (hrs : RowsAt H ws rs) {i : Nat} (hi : i < rs.length) : ∃ a b c, ws[i]? = some (.ref a) ∧ T2 H a [.ref b, .ref c] ∧ T2 H b ((rs.getD i ([], [])).1.map V.int) ∧ T2 H c ((rs.getD i ([], [])).2.map V.int) ∧ rs[i]? = some (rs.getD i ([], [])) := by
  have hl := hrs.len
  have evr : ws[i]? = some (ws[i]'(by omega)) := List.getElem?_eq_getElem _
  obtain ⟨r, er, a, b, c, e, h1, h2, h3⟩ := hrs.get evr
  have eg : rs.getD i ([], []) = r := by rw [List.getD_eq_getElem?_getD, er]; rfl
  rw [eg]
  exact ⟨a, b, c, by rw [evr, e], h1, h2, h3, er⟩
theorem sc_is_ask_of : FnScope ["rooms", "thing"] ["rooms", "thing"] (defScope s_is_ask_of) := ⟨rfl, rfl, rfl, by decide +kernel, rfl, by decide +kernel, by decide +kernel⟩
theorem sc_is_step : FnScope ["web", "tos", "thing"] ["web", "tos", "thing"] (defScope s_is_step) := ⟨rfl, rfl, rfl, by decide +kernel, rfl, by decide +kernel, by decide +kernel⟩
theorem sc_look_at_run : FnScope ["web", "thing", "tos", "number", "step"] ["web", "thing"] (defScope s_look_at_run) := ⟨rfl, rfl, rfl, by decide +kernel, rfl, by decide +kernel, by decide +kernel⟩
section
variable {P : Program} {w : World} {K : PySem.W.Frag} {mg : Str → Option Value} {base : Heap}
theorem ok_askof (T : At K mg "is_ask_of" s_is_ask_of ["rooms", "thing"]) (B : Bt mg) (c_is_room : Cal P w K mg base 2 "is_room" ["thing"] spRoom) : Cal P w K mg base 3 "is_ask_of" ["rooms", "thing"] spAskOf := by
  refine cal_of T sc_is_ask_of (fun vs H Q E h => ?_) (fun f cdv A outer s H vs Q E hr h => ?_)
  · obtain ⟨p, b, ks, v, g, rfl, _⟩ := h
    rfl
  · obtain ⟨p, b, ks, v, g, rfl, hb, hv, rg, q⟩ := h
    refine ⟨_, (pss_cons (ps_if (pt_cmpR op_eq (pe_callB call_len_seq (by rfl) B.len PySem.boot_len (pa_cons (pv 0) pa_nil)) pe_int (nomark _)) (pss_one (ps_ret (pe_cmpR op_isN (pv 1) pe_non (nomark _)))) pss_nil)
      (pss_one (ps_ret (pe_and (pe_own c_is_room hr (by decide) (by rfl) (pa_cons (pv 1) pa_nil)) (pe_one (pe_cmpR op_in_seq (pv 1) (pv 0) (by rfl))))))), ?_⟩
    refine ⟨_, rfl, b, _, rfl, .inr hb.sq, rfl, _, rfl, ?_⟩
    rw [List.length_map]
    cases ks with
    | nil =>
      refine iteT ⟨_, rfl, rfl, ?_⟩
      rw [non_dec hv]
      exact q
    | cons k0 kl =>
      rw [show decide (V.int ((k0 :: kl).length : Int) = V.int 0) = false from decide_eq_false (fun z => by have := V.int.inj z; rw [List.length_cons] at this; omega)]
      refine iteF ⟨_, rfl, p, v, g, rfl, hv, _, rfl, iteB (fun e => ?_) (fun e => ?_)⟩
      · obtain ⟨k, rfl, rfl⟩ : ∃ k, v = .int k ∧ g = .int k := by
          cases hv with
          | int i => exact ⟨i, rfl, rfl⟩
          | _ => cases e
        refine ⟨_, rfl, _, rfl, b, _, rfl, .inr hb.sq, rfl, flat_ints (k0 :: kl), ?_⟩
        rw [show (if false = true then !inV (V.int k) ((k0 :: kl).map V.int) else inV (V.int k) ((k0 :: kl).map V.int)) = decide (k ∈ (k0 :: kl)) from in_ints k _]
        exact q
      · have z : askG (k0 :: kl) g = false := by
          cases g with
          | int k =>
            show decide (k ∈ k0 :: kl) = false
            refine decide_eq_false fun hm => ?_
            have := rg k hm
            have y : (decide (0 ≤ k) && decide (k < 100)) = false := e
            rw [decide_eq_true (by omega : (0 : Int) ≤ k), decide_eq_true (by omega : k < 100)] at y
            cases y
          | _ => rfl
        rw [z] at q
        exact q
theorem ok_step (T : At K mg "is_step" s_is_step ["web", "tos", "thing"]) (B : Bt mg) (c_is_whole : Cal P w K mg base 1 "is_whole" ["thing"] spWhole) (c_is_ask_of : Cal P w K mg base 3 "is_ask_of" ["rooms", "thing"] spAskOf) : Cal P w K mg base 4 "is_step" ["web", "tos", "thing"] spStep := by
  refine cal_of T sc_is_step (fun vs H Q E h => ?_) (fun f cdv A outer s H vs Q E hr h => ?_)
  · obtain ⟨p, W, t, v, rs, tos, g, rfl, _⟩ := h
    rfl
  · obtain ⟨p, W, t, v, rs, tos, g, rfl, ⟨ws, hW, hrs⟩, ok, ht, rt, hv, q⟩ := h
    refine ⟨_, (pss_cons (ps_if (PW.pt (pw_or (pt_not (pt_val (pe_callB call_isi (by rfl) B.isinstance (by decide +kernel) (pa_cons (pv 2) (pa_cons (pe_bltn (v := .ty "tuple") (u := .type "tuple") (by rfl) B.tuple (by decide +kernel) rfl) pa_nil))))) (pw_or1 (pt_cmpR op_ne (pe_callB call_len_seq (by rfl) B.len PySem.boot_len (pa_cons (pv 2) pa_nil)) pe_int (nomark _))))) (pss_one (ps_ret pe_bl)) pss_nil)
      (pss_cons (ps_if (PW.pt (pw_or (pt_not (pt_val (pe_own c_is_whole hr (by decide) (by rfl) (pa_cons (pe_ix ix_tup (pv 2) pe_int (fun _ _ => rfl)) pa_nil)))) (pw_or1 (pt_cmpR op_notIn_seq (pe_ix ix_tup (pv 2) pe_int (fun _ _ => rfl)) (pv 1) (by rfl))))) (pss_one (ps_ret pe_bl)) pss_nil)
      (pss_one (ps_ret (pe_own c_is_ask_of hr (by decide) (by rfl) (pa_cons (pe_ix ix_tup (pe_ix ix_list (pv 0) (pe_ix ix_tup (pv 2) pe_int (fun _ _ => rfl)) (fun _ _ => rfl)) pe_int (fun _ _ => rfl)) (pa_cons (pe_ix ix_tup (pv 2) pe_int (fun _ _ => rfl)) pa_nil))))))), ?_⟩
    refine ⟨_, rfl, v, .ty "tuple", _, _, _, rfl, .ty "tuple", hv.ty, kit_tuple g, _, rfl, iteB (fun e => ?_) (fun e => ?_)⟩
    · refine iteT ?_
      rw [show stepG rs tos g = false from by cases g <;> first | rfl | cases e] at q
      exact q
    cases hv with
    | @tup a vs gs ha tl =>
      have hlen : vs.length = gs.length := tl.len
      refine ⟨_, rfl, a, _, rfl, .inr ha.sq, rfl, _, rfl, ?_⟩
      match gs, vs, tl, hlen, ha, q with
      | [], [], _, _, _, q => exact iteT q
      | [_], [_], _, _, _, q => exact iteT q
      | _ :: _ :: _ :: _, _ :: _ :: _ :: _, _, _, _, q =>
        refine iteB (fun _ => q) (fun z => ?_)
        simp at z
        omega
      | [x, y], [v1, v2], .cons tx (.cons ty _), _, ha, q =>
        refine iteNS rfl ?_
        have eq0 : stepG rs tos (.tup [x, y]) = (wholeG x && (decide (numG x ∈ tos) && askG (rs.getD (numG x).toNat ([], [])).1 y)) := rfl
        rw [eq0] at q
        refine ⟨_, rfl, _, _, _, _, rfl, rfl, ha.sq, atI_nat (j := 0) rfl, p, v1, x, rfl, tx, _, rfl, ?_⟩
        refine iteB (fun e5 => ?_) (fun e5 => ?_)
        · rw [show wholeG x = false from bFalse e5, Bool.false_and] at q
          exact iteT q
        rw [show wholeG x = true from bTrue e5, Bool.true_and] at q
        obtain ⟨i, rfl, rfl⟩ := whole_int tx (bTrue e5)
        refine ⟨_, rfl, _, _, _, _, rfl, rfl, ha.sq, atI_nat (j := 0) rfl, _, rfl, t, _, rfl, .inr ht.sq, rfl, flat_ints tos, ?_⟩
        rw [show (if true = true then !inV (V.int i) (tos.map V.int) else inV (V.int i) (tos.map V.int)) = !decide (i ∈ tos) from congrArg (!·) (in_ints _ tos)]
        refine ⟨_, rfl, iteB (fun e6 => ?_) (fun e6 => ?_)⟩
        · rw [show decide (numG (.int i) ∈ tos) = false from bFalse e6, Bool.false_and] at q
          exact q
        have hin : i ∈ tos := of_decide_eq_true (bTrue e6)
        rw [show decide (numG (.int i) ∈ tos) = true from bTrue e6, Bool.true_and] at q
        have ri := rt i hin
        have hi : i.toNat < rs.length := by omega
        obtain ⟨ra, rb, rc, er, h1, h2, h3, er2⟩ := row_get (W := W) hrs hi
        have rok := ok.row _ (List.mem_of_getElem? er2)
        refine ⟨_, rfl, _, rfl, _, _, _, _, rfl, rfl, ha.sq, atI_nat (j := 0) rfl, W, _, i, .ref ra, rfl, rfl, SqL.of hW, ?_, ?_⟩
        · have := atI_nat er
          rw [show ((i.toNat : Nat) : Int) = i by omega] at this
          exact this
        refine ⟨ra, _, 0, .ref rb, rfl, rfl, h1.sq, rfl, _, rfl, _, _, _, _, rfl, rfl, ha.sq, atI_nat (j := 1) rfl, p, rb, _, v2, y, rfl, h2, ty, fun k hk => ⟨rok.rooms.lo k hk, rok.rooms.hi k hk⟩, q⟩
    | _ => cases e
end
end Su
/-! ### R2: runs refused -/
namespace Su
open PySem PySem.Spec PyProof.Rows L2
/-- a web that is none, or one -/
def spIsRun (CW : Addr) : Sp := fun vs H Q E => ∃ (p : Addr) (vw vt : V) (gt : G), vs = [vw, vt] ∧ Tg p H vt gt ∧
  ((∃ gw r, Tg p H vw gw ∧ lookG gw = some r ∧ ∀ (H' : Hp) (d : Addr), Same H H' → H d = none → H' d = some (.xd [("row", rowV r)]) → E (.ref CW) (some d) H') ∨
  (∃ (W : Addr) (rs : List Rw), vw = .ref W ∧ W ≠ p ∧ WebAt H W rs ∧ WebOk rs ∧ ∀ H', Same H H' → Q (.bl (runG rs gt).isNone) H'))
/-- along, of what is refused -/
def spAlong (CW CR : Addr) : Sp := fun vs H Q E => ∃ (p : Addr) (vw vt vs' : V) (gt : G), vs = [vw, vt, vs'] ∧ Tg p H vt gt ∧
  ((∃ gw r, Tg p H vw gw ∧ lookG gw = some r ∧ ∀ (H' : Hp) (d : Addr), Same H H' → H d = none → H' d = some (.xd [("row", rowV r)]) → E (.ref CW) (some d) H') ∨
  (∃ (W : Addr) (rs : List Rw) (r : Option Nat), vw = .ref W ∧ W ≠ p ∧ WebAt H W rs ∧ WebOk rs ∧ runG rs gt = some r ∧ ∀ (H' : Hp) (d : Addr), Same H H' → H d = none → H' d = some (.xd [("number", rowV r)]) → E (.ref CR) (some d) H'))
theorem web_tg {p W : Addr} {H : Hp} {rs : List Rw} (h : WebAt H W rs) (n : W ≠ p) : Tg p H (.ref W) (.lst (rs.map rowT)) := by
  obtain ⟨ws, e, r⟩ := h
  exact .lst n e (tg_rows r)
theorem sc_is_run : FnScope ["web", "thing"] ["web", "thing"] (defScope s_is_run) := ⟨rfl, rfl, rfl, by decide +kernel, rfl, by decide +kernel, by decide +kernel⟩
theorem sc_along : FnScope ["web", "run", "shelf", "going", "told", "row", "room"] ["web", "run", "shelf"] (defScope s_along) := ⟨rfl, rfl, rfl, by decide +kernel, rfl, by decide +kernel, by decide +kernel⟩
section
variable {P : Program} {w : World} {K : PySem.W.Frag} {mg : Str → Option Value} {base : Heap}
theorem ok_lookrun {C fI : Addr} {newId initId : String} {bmB : List Value} (OR : XC.Own P K mg "NoRun" "number" C fI "ValueError" newId initId bmB) (T : At K mg "look_at_run" s_look_at_run ["web", "thing"]) (B : Bt mg) (mS : ∃ t, mg "MOST_STEPS" = some (.int 20000 t)) (c_is_step : Cal P w K mg base 4 "is_step" ["web", "tos", "thing"] spStep) : CalX P w K mg base 5 "look_at_run" ["web", "thing"] (spLookRun C) := by
  obtain ⟨tS, mSteps⟩ := mS
  refine cal_ofX T sc_look_at_run (fun vs H Q E h => ?_) (fun f cdv A outer s H vs Q E hr h => ?_)
  · obtain ⟨p, W, v, rs, g, rfl, _⟩ := h
    rfl
  · obtain ⟨p, W, v, rs, g, rfl, ⟨ws, hW, hrs⟩, ok, hv, qy, qn⟩ := h
    refine ⟨_, (pss_cons (ps_if (PW.pt (pw_or (pt_not (pt_val (pe_callB call_isi (by rfl) B.isinstance (by decide +kernel) (pa_cons (pv 1) (pa_cons (pe_bltn (v := .ty "list") (u := .type "list") (by rfl) B.list (by decide +kernel) rfl) pa_nil))))) (pw_or1 (pt_not (pt_chain op_le op_le pe_int (pe_callB call_len_seq (by rfl) B.len PySem.boot_len (pa_cons (pv 1) pa_nil)) (pe_glob (v := .int 20000) rfl mSteps ⟨_, rfl⟩)))))) (pss_one (ps_raiseX rfl OR hr (takes_of rfl rfl rfl rfl) (pa_cons pe_non pa_nil))) pss_nil)
      (pss_cons (ps_set (i := 2) sc_look_at_run.nd rfl (Or.inl rfl) (pe_tupF (pa_cons pe_int pa_nil)))
      (pss_one (ps_for (passes_of rfl) rfl (pi_enum (by rfl) B.enumerate (pa_cons (pv 1) pa_nil)) (pg_tup (by rfl) (pgs_cons (pg_name (i := 3) sc_look_at_run.nd rfl (Or.inl rfl)) (pgs_cons (pg_name (i := 4) sc_look_at_run.nd rfl (Or.inl rfl)) pgs_nil))) (pss_cons (ps_if (pt_not (pt_val (pe_own c_is_step hr (by decide) (by rfl) (pa_cons (pv 0) (pa_cons (pv 2) (pa_cons (pv 4) pa_nil)))))) (pss_one (ps_raiseX rfl OR hr (takes_of rfl rfl rfl rfl) (pa_cons (pv 3) pa_nil))) pss_nil)
      (pss_one (ps_set (i := 2) sc_look_at_run.nd rfl (Or.inl rfl) (pe_ix ix_tup (pe_ix ix_list (pv 0) (pe_ix ix_tup (pv 4) pe_int (fun _ _ => rfl)) (fun _ _ => rfl)) pe_int (fun _ _ => rfl))))))))), ?_⟩
    refine ⟨_, rfl, v, .ty "list", _, _, _, rfl, .ty "list", hv.ty, kit_list g, _, rfl, iteB (fun e => ?_) (fun e => ?_)⟩
    · refine iteT ?_
      have z : runG rs g = some none := by
        cases g <;> first | rfl | cases e
      exact ⟨_, rfl, fun d hd => qn none z _ d (same_upd hd) hd upd_same⟩
    cases hv with
    | @lst a vs gs na ha t =>
      have hlen : vs.length = gs.length := t.len
      have lk : runG rs (.lst gs) = if 1 ≤ gs.length ∧ gs.length ≤ 20000 then (stepsG rs [0] gs).map some else some none := rfl
      refine ⟨_, rfl, a, _, rfl, .inl (SqL.of ha), _, _, rfl, rfl, _, rfl, iteB (fun e1 => ?_) (fun e1 => ?_)⟩
      rotate_left
      · refine ⟨_, rfl, iteT ?_⟩
        have l1 := of_decide_eq_false e1
        have z : runG rs (.lst gs) = some none := by
          rw [lk, if_neg (by omega)]
        exact ⟨_, rfl, fun d hd => qn none z _ d (same_upd hd) hd upd_same⟩
      refine ⟨_, _, rfl, rfl, _, rfl, ?_⟩
      have l1 := of_decide_eq_true e1
      refine iteB (fun e2 => ?_) (fun e2 => ?_)
      · have l2 : ¬ (vs.length : Int) ≤ 20000 := by simpa using e2
        have z : runG rs (.lst gs) = some none := by
          rw [lk, if_neg (by omega)]
        exact ⟨_, rfl, fun d hd => qn none z _ d (same_upd hd) hd upd_same⟩
      have l2 : (vs.length : Int) ≤ 20000 := by simpa using e2
      rw [if_pos (by omega)] at lk
      refine ⟨(by show 1 ≤ sizeLine; decide), fun t0 H0 s0 nt0 pt0 => ?_⟩
      refine ⟨_, rfl, a, _, rfl, SqL.of (s0 _ _ ha), ?_⟩
      refine for_enumS (K := K) (a := a) (xs := vs) (fun i σ H2 => ∃ (t : Addr) (y1 y2 : Option V) (tos : List Int), σ = [some (.ref W), some (.ref a), some (.ref t), y1, y2] ∧ Same H H2 ∧ T2 H2 t (tos.map V.int) ∧ (∀ k ∈ tos, 0 ≤ k ∧ k < rs.length) ∧ stepsG rs [0] gs = (stepsG rs tos (gs.drop i)).map (· + i)) ?_ ?_ ?_ ?_
      · refine ⟨t0, none, none, [0], rfl, s0, .inl pt0, fun k hk => ?_, ?_⟩
        · rw [List.mem_singleton.mp hk]
          have := ok.pos
          omega
        · rw [List.drop_zero]
          cases stepsG rs [0] gs <;> rfl
      · rintro i σ H2 _ ⟨_, _, _, _, _, s2, _⟩
        exact SqL.of (s2 _ _ ha)
      · rintro i x σ H2 T hx ⟨tt, y1, y2, tos, rfl, s2, ht, rt, es⟩ nT
        obtain ⟨g1, e4, tg⟩ := t.get hx
        have sT : Same H2 (upd H2 T (.tup [.int (i : Nat), x])) := same_upd nT
        have s0T := s2.trans sT
        have tg2 := tg.keep (Keeps.same (p := p) s0T)
        obtain ⟨bad, good⟩ := steps_at (tot := gs) e4 es
        refine ⟨T, _, rfl, SqT.of upd_same, rfl, _, _, rfl, _, _, rfl, rfl, ?_⟩
        refine ⟨_, rfl, _, rfl, _, rfl, p, W, tt, x, rs, tos, g1, rfl, ⟨ws, s0T _ _ hW, hrs.keep (K2.same s0T)⟩, ok, ht.same sT, rt, tg2, _, rfl, ?_⟩
        refine iteB (fun e5 => ?_) (fun e5 => ?_)
        · have b : stepG rs tos g1 = false := by simpa using e5
          have z : runG rs (.lst gs) = some (some i) := by
            rw [lk, bad b]
            rfl
          exact ⟨_, rfl, _, rfl, fun d hd => qn (some i) z _ d (s0T.trans (same_upd hd)) (s0T.free hd) upd_same⟩
        · have b : stepG rs tos g1 = true := by simpa using e5
          obtain ⟨x1, x2, rfl⟩ : ∃ x1 x2, g1 = .tup [x1, x2] := by
            match g1, b with
            | .tup [x1, x2], _ => exact ⟨x1, x2, rfl⟩
          have b2 : (wholeG x1 && (decide (numG x1 ∈ tos) && askG (rs.getD (numG x1).toNat ([], [])).1 x2)) = true := b
          rw [Bool.and_eq_true, Bool.and_eq_true, decide_eq_true_eq] at b2
          obtain ⟨b3, b4, _⟩ := b2
          cases tg2 with
          | @tup u vs2 _ hu tl =>
            cases tl with
            | cons tx tl2 =>
              obtain ⟨ii, rfl, rfl⟩ := whole_int tx b3
              have ri := rt ii b4
              have hi : ii.toNat < rs.length := by omega
              obtain ⟨ra, rb, rc, er, h1, h2, h3, er2⟩ := row_get (W := W) hrs hi
              have rok := ok.row _ (List.mem_of_getElem? er2)
              refine ⟨_, rfl, _, rfl, u, _, _, _, rfl, rfl, hu.sq, atI_nat (j := 0) rfl, W, _, ii, .ref ra, rfl, rfl, SqL.of (s0T _ _ hW), ?_, ?_⟩
              · have := atI_nat er
                rw [show ((ii.toNat : Nat) : Int) = ii by omega] at this
                exact this
              refine ⟨ra, _, 1, .ref rc, rfl, rfl, (h1.same s0T).sq, rfl, ?_⟩
              refine ⟨rc, _, _, _, rfl, s0T, h3.same s0T, fun k hk => ?_, good b⟩
              have := rok.tos.lo k hk
              have := rok.tos.hi k hk
              omega
      · rintro σ H2 ⟨tt, y1, y2, tos, rfl, s2, _, _, es⟩
        rw [hlen, List.drop_length] at es
        have z : runG rs (.lst gs) = none := by
          rw [lk, es]
          rfl
        exact qy z H2 s2
    | _ => cases e
theorem ok_isrun {CW CR : Addr} (nr : mg "NoRun" = some (.ref CR)) (ex : PySem.W.exmOne K (.ref CR) (.ref CR) = some true) (T : At K mg "is_run" s_is_run ["web", "thing"]) (c_look_at_web : CalX P w K mg base 5 "look_at_web" ["thing"] (spLook CW)) (c_look_at_run : CalX P w K mg base 5 "look_at_run" ["web", "thing"] (spLookRun CR)) : CalX P w K mg base 6 "is_run" ["web", "thing"] (spIsRun CW) := by
  refine cal_ofX T sc_is_run (fun vs H Q E h => ?_) (fun f cdv A outer s H vs Q E hr h => ?_)
  · obtain ⟨p, vw, vt, gt, rfl, _⟩ := h
    rfl
  · obtain ⟨p, vw, vt, gt, rfl, ht, h⟩ := h
    refine ⟨_, (pss_cons (ps_expr (pe_ownX (takes_of rfl rfl rfl rfl) c_look_at_web hr (by decide) (by rfl) (pa_cons (pv 0) pa_nil)))
      (pss_cons (ps_try_only (Wout := fun _ _ _ _ => False) rfl rfl ⟨rfl, by decide, Or.inl nr⟩ takes0 (fun W pn xe tk _ => (pss_one (ps_expr (pe_ownX tk c_look_at_run hr (by decide) (by rfl) (pa_cons (pv 0) (pa_cons (pv 1) pa_nil)))))) (fun a oe cls d pn _ _ => (pss_one (ps_ret pe_bl))))
      (pss_one (ps_ret pe_bl)))), ?_⟩
    rcases h with ⟨gw, r, hw, lk, qn⟩ | ⟨W, rs, rfl, nW, hW, ok, qy⟩
    · exact ⟨_, rfl, p, vw, gw, rfl, hw, (fun e => by rw [lk] at e; cases e), fun r2 e H1 d s1 nd hd => by rw [lk] at e; cases e; exact qn H1 d s1 nd hd⟩
    · refine ⟨_, rfl, p, .ref W, _, rfl, web_tg hW nW, (fun _ H1 s1 => ?_), fun r2 e => by rw [look_web ok] at e; cases e⟩
      refine ⟨_, rfl, _, rfl, p, W, vt, rs, gt, rfl, hW.same s1, ok, ht.keep (Keeps.same s1), fun e H2 s2 => ?_, fun r e H2 d s2 nd hd => ?_⟩
      · have z := qy H2 (s1.trans s2)
        rw [e] at z
        exact z
      · refine ⟨true, ex, fun _ a na => ?_, fun z => by cases z⟩
        have z := qy H2 (s1.trans s2)
        rw [e] at z
        exact z
theorem ok_along {CW CR : Addr} (T : At K mg "along" s_along ["web", "run", "shelf"]) (c_look_at_web : CalX P w K mg base 5 "look_at_web" ["thing"] (spLook CW)) (c_look_at_run : CalX P w K mg base 5 "look_at_run" ["web", "thing"] (spLookRun CR)) : CalX P w K mg base 6 "along" ["web", "run", "shelf"] (spAlong CW CR) := by
  refine cal_ofX T sc_along (fun vs H Q E h => ?_) (fun f cdv A outer s H vs Q E hr h => ?_)
  · obtain ⟨p, vw, vt, vs', gt, rfl, _⟩ := h
    rfl
  · obtain ⟨p, vw, vt, vs', gt, rfl, ht, h⟩ := h
    refine ⟨_, (pss_cons (ps_expr (pe_ownX (takes_of rfl rfl rfl rfl) c_look_at_web hr (by decide) (by rfl) (pa_cons (pv 0) pa_nil)))
      (pss_cons (ps_expr (pe_ownX (takes_of rfl rfl rfl rfl) c_look_at_run hr (by decide) (by rfl) (pa_cons (pv 0) (pa_cons (pv 1) pa_nil))))
      (pss_cons (ps_set (i := 3) sc_along.nd rfl (Or.inl rfl) pe_never)
      (pss_cons (ps_set (i := 4) sc_along.nd rfl (Or.inl rfl) (pe_lst pa_nil))
      (pss_cons (ps_for (passes_of rfl) rfl (pi_list (pv 1)) (pg_tup (by rfl) (pgs_cons (pg_name (i := 5) sc_along.nd rfl (Or.inl rfl)) (pgs_cons (pg_name (i := 6) sc_along.nd rfl (Or.inl rfl)) pgs_nil))) (pss_one (ps_expr (pe_bm PySem.F.plainAttrs_list PySem.F.slot_list_append PySem.F.type_list_append mt_append (pv 4) (pa_cons (pe_ifExp (pt_cmpR op_isN (pv 6) pe_non (nomark _)) pe_non pe_never) pa_nil)))))
      (pss_one (ps_ret (pv 4)))))))), ?_⟩
    rcases h with ⟨gw, r, hw, lk, qn⟩ | ⟨W, rs, r, rfl, nW, hW, ok, rk, qn⟩
    · exact ⟨_, rfl, p, vw, gw, rfl, hw, (fun e => by rw [lk] at e; cases e), fun r2 e H1 d s1 nd hd => by rw [lk] at e; cases e; exact qn H1 d s1 nd hd⟩
    · refine ⟨_, rfl, p, .ref W, _, rfl, web_tg hW nW, (fun _ H1 s1 => ?_), fun r2 e => by rw [look_web ok] at e; cases e⟩
      refine ⟨_, rfl, _, rfl, p, W, vt, rs, gt, rfl, hW.same s1, ok, ht.keep (Keeps.same s1), (fun e => by rw [rk] at e; cases e), fun r2 e H2 d s2 nd hd => ?_⟩
      rw [rk] at e
      cases e
      exact qn H2 d (s1.trans s2) (s1.free nd) hd
end
end Su
/-! ### RA: runs -/
namespace Su
open PySem PySem.Spec PyProof.Rows L2
abbrev Stp := Nat × Option Int
def optI : Option Int → V
  | none => .non
  | some i => .int i
def StepAt (H : Hp) (v : V) (s : Stp) : Prop := ∃ t, v = .ref t ∧ PTup H t [.int s.1, optI s.2]
def StepsAt (H : Hp) : List V → List Stp → Prop
  | [], [] => True
  | v :: vs, s :: ss => StepAt H v s ∧ StepsAt H vs ss
  | _, _ => False
def RunAt (H : Hp) (R : Addr) (run : List Stp) : Prop := ∃ vs, H R = some (.lst vs) ∧ StepsAt H vs run
/-- tuples of the kind that is made here stay -/
def KP (H H' : Hp) : Prop := ∀ a xs, PTup H a xs → PTup H' a xs
theorem KP.same {H H' : Hp} (s : Same H H') : KP H H' := fun _ _ h => h.same s
theorem KP.kept {p : Addr} {H H' : Hp} (k : Kept p H H') (hp : PoolAt H p) : KP H H' := fun _ _ h => h.kept k hp
theorem KP.lst {H : Hp} {L : Addr} {ys : List V} {o : HO} (e : H L = some (.lst ys)) : KP H (upd H L o) := fun a xs h => by
  obtain ⟨ob, eo, ed⟩ := h
  refine ⟨ob, ?_, ed⟩
  rw [upd_ne (fun z => by rw [z, e] at eo; cases eo)]
  exact eo
theorem StepAt.keep {H H' : Hp} (k : KP H H') {v : V} {s : Stp} (h : StepAt H v s) : StepAt H' v s := by
  obtain ⟨t, e, p⟩ := h
  exact ⟨t, e, k _ _ p⟩
theorem StepsAt.keep {H H' : Hp} (k : KP H H') : ∀ {vs : List V} {ss : List Stp}, StepsAt H vs ss → StepsAt H' vs ss
  | [], [], _ => trivial
  | _ :: _, _ :: _, h => ⟨h.1.keep k, StepsAt.keep k h.2⟩
  | [], _ :: _, h => h.elim
  | _ :: _, [], h => h.elim
theorem StepsAt.len {H : Hp} : ∀ {vs : List V} {ss : List Stp}, StepsAt H vs ss → vs.length = ss.length
  | [], [], _ => rfl
  | _ :: _, _ :: _, h => by rw [List.length_cons, List.length_cons, StepsAt.len h.2]
  | [], _ :: _, h => h.elim
  | _ :: _, [], h => h.elim
theorem StepsAt.get {H : Hp} : ∀ {vs : List V} {ss : List Stp}, StepsAt H vs ss → ∀ {i : Nat} {v : V}, vs[i]? = some v → ∃ s, ss[i]? = some s ∧ StepAt H v s
  | [], [], _, _, _, h => by cases h
  | _ :: _, s :: _, h, 0, _, e => ⟨s, rfl, by cases e; exact h.1⟩
  | _ :: _, _ :: _, h, i + 1, _, e => StepsAt.get h.2 (i := i) e
  | [], _ :: _, h, _, _, _ => h.elim
  | _ :: _, [], h, _, _, _ => h.elim
theorem StepsAt.app {H : Hp} : ∀ {vs ws : List V} {ss qs : List Stp}, StepsAt H vs ss → StepsAt H ws qs → StepsAt H (vs ++ ws) (ss ++ qs)
  | [], _, [], _, _, g => g
  | _ :: _, _, _ :: _, _, h, g => ⟨h.1, StepsAt.app h.2 g⟩
  | [], _, _ :: _, _, h, _ => h.elim
  | _ :: _, _, [], _, h, _ => h.elim
theorem StepsAt.take {H : Hp} : ∀ {vs : List V} {ss : List Stp} (k : Nat), StepsAt H vs ss → StepsAt H (vs.take k) (ss.take k)
  | _, _, 0, _ => by rw [List.take_zero, List.take_zero]; trivial
  | [], [], k + 1, _ => trivial
  | _ :: _, _ :: _, k + 1, h => ⟨h.1, StepsAt.take k h.2⟩
  | [], _ :: _, _ + 1, h => h.elim
  | _ :: _, [], _ + 1, h => h.elim
def tosAt (rs : List Rw) (run : List Stp) : Nat → List Int
  | 0 => [0]
  | i + 1 => (rs.getD (run.getD i (0, none)).1 ([], [])).2
/-- a step to one of these rows -/
structure StepOk (rs : List Rw) (tos : List Int) (s : Stp) : Prop where
  at_ : (s.1 : Int) ∈ tos
  row : ∃ r, rs[s.1]? = some r ∧ (match s.2 with
    | none => r.1 = []
    | some k => k ∈ r.1)
def RunOk (rs : List Rw) (run : List Stp) : Prop := ∀ i s, run[i]? = some s → StepOk rs (tosAt rs run i) s
theorem tos_take (rs : List Rw) (run : List Stp) (k i : Nat) (h : i ≤ k) : tosAt rs (run.take k) i = tosAt rs run i := by
  cases i with
  | zero => rfl
  | succ i =>
    show (rs.getD ((run.take k).getD i (0, none)).1 ([], [])).2 = (rs.getD (run.getD i (0, none)).1 ([], [])).2
    have e : (run.take k).getD i (0, none) = run.getD i (0, none) := by
      rw [List.getD_eq_getElem?_getD, List.getD_eq_getElem?_getD, List.getElem?_take, if_pos (by omega)]
    rw [e]
theorem RunOk.take {rs : List Rw} {run : List Stp} (h : RunOk rs run) (k : Nat) : RunOk rs (run.take k) := by
  intro i s e
  rw [List.getElem?_take] at e
  split at e
  · rw [tos_take rs run k i (by omega)]
    exact h i s e
  · cases e
theorem RunOk.snoc {rs : List Rw} {run : List Stp} {s : Stp} (h : RunOk rs run) (g : StepOk rs (tosAt rs run run.length) s) : RunOk rs (run ++ [s]) := by
  have tt : ∀ i, i ≤ run.length → tosAt rs (run ++ [s]) i = tosAt rs run i := by
    intro i hi
    have := tos_take rs (run ++ [s]) run.length i hi
    rw [List.take_left' rfl] at this
    exact this.symm
  intro i t e
  by_cases hi : i < run.length
  · rw [List.getElem?_append_left hi] at e
    rw [tt i (by omega)]
    exact h i t e
  · rw [List.getElem?_append_right (by omega)] at e
    obtain rfl : i = run.length := by
      by_cases z : i - run.length = 0
      · omega
      · obtain ⟨m, hm⟩ : ∃ m, i - run.length = m + 1 := ⟨i - run.length - 1, by omega⟩
        rw [hm] at e
        cases e
    rw [Nat.sub_self] at e
    cases e
    rw [tt _ (Nat.le_refl _)]
    exact g
end Su
/-! ### RB: the law's runs -/
namespace Su
open PySem PySem.Spec PyProof.Rows L2
theorem midC {ta : TE} {ts : TA} {σ : L2.St} {H0 : Hp} {R : List V → Hp → Prop} (M : V → Hp → Prop) (hR : ∀ v H, M v H → ts σ H (fun xs H2 => R (v :: xs) H2)) (h : ∀ R' : V → Hp → Prop, (∀ v H, M v H → R' v H) → ta σ H0 R') : tCons ta ts σ H0 R := h _ hR
theorem tup_nil {K : PySem.W.Frag} {H : Hp} {b t : Addr} {ks : List Int} {Q : VK} (hb : T2 H b (ks.map V.int)) (hk : ∀ k ∈ ks, -1000 ≤ k ∧ k ≤ 1000) (hl : ks.length ≤ 1000) (pt : PTup H t []) (q : Q (.bl (!ks.isEmpty)) H) : rNeD K (.ref b) (.ref t) H Q := by
  have f : Fine (.tuple (ks.map PyData.int)) 1 41000 := (Fine.tuple (FineL.ints ks fun z hz => by have := hk z hz; omega)).up (by decide) (by omega)
  have f0 : Fine (.tuple []) 1 0 := Fine.tuple FineL.nil
  refine ⟨.tuple (ks.map PyData.int), .tuple [], .tup hb.sq (dp_intsS ks), .tup pt.sq .nil, f.shaped (by decide), f0.shaped (by decide), ?_⟩
  cases ks with
  | nil => exact q
  | cons a l => exact q
theorem getD_at {xs : List Int} {r : Int} (h0 : 0 ≤ r) (h1 : r < xs.length) : ∃ v, atI (xs.map V.int) r = some (.int v) ∧ v ∈ xs := by
  obtain ⟨m, rfl⟩ : ∃ m : Nat, (m : Int) = r := ⟨r.toNat, by omega⟩
  have hm : m < xs.length := by omega
  refine ⟨xs[m], atI_nat ?_, List.getElem_mem hm⟩
  rw [List.getElem?_map, List.getElem?_eq_getElem hm]
  rfl
def spRun : Sp := fun vs H Q _ => ∃ (p W : Addr) (rs : List Rw) (most : Int), vs = [.ref p, .ref W, .int most] ∧ PoolAt H p ∧ W ≠ p ∧ WebAt H W rs ∧ WebOk rs ∧ 1 ≤ most ∧ most ≤ 100 ∧
  ∀ (R : Addr) (H' : Hp) (run : List Stp), H R = none → Kept p H H' → PoolAt H' p → RunAt H' R run → RunOk rs run → 1 ≤ run.length → run.length ≤ 100 → Q (.ref R) H'
theorem sc_law_run : FnScope ["_law_pool_here", "_law_web_here", "_law_most", "_law_row", "_law_found", "_law_turn", "_law_rooms", "_law_tos_here"] ["_law_pool_here", "_law_web_here", "_law_most"] (defScope s_law_run) := ⟨rfl, rfl, rfl, by decide +kernel, rfl, by decide +kernel, by decide +kernel⟩
section
variable {P : Program} {w : World} {K : PySem.W.Frag} {mg : Str → Option Value} {base : Heap}
theorem ok_run (T : At K mg "_law_run" s_law_run ["_law_pool_here", "_law_web_here", "_law_most"]) (B : Bt mg) (c_take : Cal P w K mg base 1 "_law_take" ["_law_pool_here", "_law_many"] spTake) : Cal P w K mg base 2 "_law_run" ["_law_pool_here", "_law_web_here", "_law_most"] spRun := by
  refine cal_of T sc_law_run (fun vs H Q E h => ?_) (fun f cdv A outer s H vs Q E hr h => ?_)
  · obtain ⟨p, W, rs, most, rfl, _⟩ := h
    rfl
  · obtain ⟨p, W, rs, most, rfl, hp, eW, hW, ok, m1, m2, q⟩ := h
    refine ⟨_, (pss_cons (ps_set (i := 3) sc_law_run.nd rfl (Or.inl rfl) pe_int)
      (pss_cons (ps_set (i := 4) sc_law_run.nd rfl (Or.inl rfl) (pe_lst pa_nil))
      (pss_cons (ps_for PassesOwn.never rfl (pi_range1 (by rfl) B.range (pa_cons (pe_op op_add pe_int (pe_own c_take hr (by decide) (by rfl) (pa_cons (pv 0) (pa_cons (pv 2) pa_nil)))) pa_nil)) (pg_name (i := 5) sc_law_run.nd rfl (Or.inl rfl)) (pss_one (ps_if (pt_cmpR op_notN (pv 3) pe_non (nomark _)) (pss_cons (ps_asg (pe_ix ix_list (pv 1) (pv 3) (fun _ _ => rfl)) (pg_tup (by rfl) (pgs_cons (pg_name (i := 6) sc_law_run.nd rfl (Or.inl rfl)) (pgs_cons (pg_name (i := 7) sc_law_run.nd rfl (Or.inl rfl)) pgs_nil))))
      (pss_cons (ps_expr (pe_bm PySem.F.plainAttrs_list PySem.F.slot_list_append PySem.F.type_list_append mt_append (pv 4) (pa_cons (pe_tupF (pa_cons (pv 3) (pa_cons (pe_ifExp (pt_cmpR (op_neD hr.units) (pv 6) (pe_tupF pa_nil) (nomark _)) (pe_ix ix_tup (pv 6) (pe_own c_take hr (by decide) (by rfl) (pa_cons (pv 0) (pa_cons (pe_callB call_len_seq (by rfl) B.len PySem.boot_len (pa_cons (pv 6) pa_nil)) pa_nil))) (fun _ _ => rfl)) pe_non) pa_nil))) pa_nil)))
      (pss_one (ps_set (i := 3) sc_law_run.nd rfl (Or.inl rfl) (pe_ifExp (pt_cmpR (op_neD hr.units) (pv 7) (pe_tupF pa_nil) (nomark _)) (pe_ix ix_tup (pv 7) (pe_own c_take hr (by decide) (by rfl) (pa_cons (pv 0) (pa_cons (pe_callB call_len_seq (by rfl) B.len PySem.boot_len (pa_cons (pv 7) pa_nil)) pa_nil))) (fun _ _ => rfl)) pe_non))))) pss_nil)))
      (pss_one (ps_ret (pv 4)))))), ?_⟩
    refine ⟨(by show 0 ≤ sizeLine; decide), fun L nL => ?_⟩
    have eL : L ≠ p := pool_ne hp nL
    have s1 := same_upd (o := .lst []) nL
    refine ⟨_, rfl, _, rfl, p, most, rfl, hp.same s1, m1, by omega, fun r o r0 r1 po => ?_⟩
    obtain ⟨m, em⟩ : ∃ m : Nat, 1 + r = (m : Int) := ⟨(1 + r).toNat, by omega⟩
    refine ⟨1, r, rfl, rfl, ⟨(m : Int), congrArg (fun z => [V.int z]) em, by omega, by omega, ?_⟩⟩
    rw [show ((m : Int)).toNat = m by omega]
    have hL1 : (upd (upd H L (.lst [])) p o) L = some (.lst []) := by rw [upd_ne eL, upd_same]
    have hp1 : PoolAt (upd (upd H L (.lst [])) p o) p := ⟨o, upd_same, po⟩
    have k1 : Kept p H (upd (upd H L (.lst [])) p o) := (Kept.same s1).trans (Kept.upd p _ o)
    generalize upd (upd H L (.lst [])) p o = H1 at hL1 hp1 k1 ⊢
    refine for_range (lo := 0) (n := m) (fun t σ H2 => ∃ (vrow : V) (y5 y6 y7 : Option V) (vs : List V) (run : List Stp), σ = [some (.ref p), some (.ref W), some (.int most), some vrow, some (.ref L), y5, y6, y7] ∧ Kept p H H2 ∧ PoolAt H2 p ∧ H2 L = some (.lst vs) ∧ StepsAt H2 vs run ∧ RunOk rs run ∧ run.length ≤ t ∧ ((vrow = .non ∧ 1 ≤ run.length) ∨ (∃ j : Nat, vrow = .int j ∧ (j : Int) ∈ tosAt rs run run.length ∧ j < rs.length ∧ run.length = t))) ?_ ?_ ?_
    · exact ⟨.int 0, none, none, none, [], [], rfl, k1, hp1, hL1, trivial, (fun i s e => by cases e), Nat.le_refl _, .inr ⟨0, rfl, List.mem_singleton.mpr rfl, ok.pos, rfl⟩⟩
    · rintro t σ H2 ht ⟨vrow, y5, y6, y7, vs, run, rfl, k2, hp2, hL2, hst, rok, lt, hrow⟩
      rcases hrow with ⟨rfl, l1⟩ | ⟨j, rfl, hj, jl, ej⟩
      · refine ⟨_, rfl, rfl, _, rfl, iteF ?_⟩
        exact ⟨.non, _, _, _, vs, run, rfl, k2, hp2, hL2, hst, rok, by omega, .inl ⟨rfl, l1⟩⟩
      refine ⟨_, rfl, rfl, _, rfl, iteT ?_⟩
      have hW2 : WebAt H2 W rs := by
        obtain ⟨ws, e, r⟩ := hW
        exact ⟨ws, k2 _ _ e eW, r.keep (K2.of k2 hp)⟩
      obtain ⟨ws, hWl, hrs⟩ := hW2
      obtain ⟨vr, evr⟩ : ∃ vr, ws[j]? = some vr := by
        have := hrs.len
        exact ⟨ws[j]'(by omega), List.getElem?_eq_getElem _⟩
      obtain ⟨rw, er, ra, rb, rc, rfl, h1, h2, h3⟩ := hrs.get evr
      have rwok := ok.row rw (List.mem_of_getElem? er)
      have few := rwok.few
      refine ⟨_, rfl, _, rfl, W, _, (j : Int), .ref ra, rfl, rfl, SqL.of hWl, atI_nat evr, ra, _, rfl, h1.sq, rfl, _, _, rfl, _, _, rfl, rfl, ?_⟩
      have rr : ∀ k ∈ rw.1, -1000 ≤ k ∧ k ≤ 1000 := fun k hk => by
        have := rwok.rooms.lo k hk
        have := rwok.rooms.hi k hk
        omega
      have rt : ∀ k ∈ rw.2, 0 ≤ k ∧ k < rs.length := fun k hk => by
        have := rwok.tos.lo k hk
        have := rwok.tos.hi k hk
        omega
      have tl := ris_len rwok.tos
      have rsl := ok.few
      have hne : ∀ {ks : List Int}, (!ks.isEmpty) = true → 1 ≤ ks.length := fun {ks} e => by
        cases ks with
        | nil => cases e
        | cons a l => rw [List.length_cons]; omega
      refine ⟨_, rfl, .inl ⟨rfl, _, SqL.of hL2⟩, _, rfl, ?_⟩
      refine midC (M := fun v H3 => ∃ o : Option Int, v = optI o ∧ (match o with
        | none => rw.1 = []
        | some k => k ∈ rw.1) ∧ Kept p H2 H3 ∧ PoolAt H3 p) ?hR ?h
      case h =>
        intro R rest
        refine ⟨_, rfl, (by show 0 ≤ sizeLine; decide), fun t0 H3 s3 nt0 pt0 => ?_⟩
        refine tup_nil (h2.same s3) rr (by omega) pt0 ⟨_, rfl, iteB (fun e => ?_) (fun e => ?_)⟩
        · have l1 := hne e
          refine ⟨_, rfl, _, rfl, _, rfl, rb, _, rfl, .inr (h2.same s3).sq, p, _, rfl, hp2.same s3, (by rw [List.length_map]; omega), (by rw [List.length_map]; omega), fun r o r0 r1 po => ?_⟩
          rw [List.length_map] at r1
          obtain ⟨v, ev, hv⟩ := getD_at r0 r1
          have k4 := Kept.upd p H3 o
          exact ⟨rb, _, r, .int v, rfl, rfl, (K2.of k4 (hp2.same s3) _ _ (h2.same s3)).sq, ev, rest _ _ ⟨some v, rfl, hv, (Kept.same s3).trans k4, ⟨o, upd_same, po⟩⟩⟩
        · refine rest _ _ ⟨none, rfl, ?_, Kept.same s3, hp2.same s3⟩
          show rw.1 = []
          cases hr1 : rw.1 with
          | nil => rfl
          | cons a l =>
            rw [hr1] at e
            cases e
      case hR =>
        rintro _ H3 ⟨oi, rfl, ho, k3, hp3⟩
        refine ⟨(by show 2 ≤ sizeLine; decide), fun u H4 s4 nu pu => ?_⟩
        have hL4 := s4 _ _ (k3 _ _ hL2 eL)
        refine ⟨L, _, _, rfl, rfl, hL4, small1000 (by have := hst.len; omega), ?_⟩
        have kl := KP.lst (o := .lst (vs ++ [.ref u])) hL4
        have steps : StepsAt (upd H4 L (.lst (vs ++ [.ref u]))) (vs ++ [.ref u]) (run ++ [(j, oi)]) := (((hst.keep (KP.kept k3 hp2)).keep (KP.same s4)).keep kl).app ⟨⟨u, rfl, kl _ _ pu⟩, trivial⟩
        have rok2 : RunOk rs (run ++ [(j, oi)]) := rok.snoc ⟨hj, rw, er, ho⟩
        have h35 := K2.lst (u := .lst (vs ++ [.ref u])) hL4 _ _ (((K2.of k3 hp2) _ _ h3).same s4)
        have k5 : Kept p H (upd H4 L (.lst (vs ++ [.ref u]))) := ((k2.trans k3).trans (Kept.same s4)).set nL
        have hp5 : PoolAt (upd H4 L (.lst (vs ++ [.ref u]))) p := (hp3.same s4).upd (Ne.symm eL)
        have hL5 : (upd H4 L (.lst (vs ++ [.ref u]))) L = some (.lst (vs ++ [.ref u])) := upd_same
        generalize upd H4 L (.lst (vs ++ [.ref u])) = H5 at steps h35 k5 hp5 hL5 ⊢
        have len2 : (run ++ [(j, oi)]).length = t + 1 := by
          rw [List.length_append, ej]
          rfl
        have tos2 : tosAt rs (run ++ [(j, oi)]) (run ++ [(j, oi)]).length = rw.2 := by
          rw [len2]
          show (rs.getD ((run ++ [(j, oi)]).getD t (0, none)).1 ([], [])).2 = rw.2
          rw [show (run ++ [(j, oi)]).getD t (0, none) = (j, oi) by rw [List.getD_eq_getElem?_getD, List.getElem?_append_right (by omega), ej, Nat.sub_self]; rfl, show rs.getD (j, oi).1 ([], []) = rw by rw [List.getD_eq_getElem?_getD, er]; rfl]
        refine ⟨_, rfl, (by show 0 ≤ sizeLine; decide), fun t0 H6 s6 nt0 pt0 => ?_⟩
        refine tup_nil (h35.same s6) (fun k hk => by have := rt k hk; omega) (by omega) pt0 ⟨_, rfl, iteB (fun e => ?_) (fun e => ?_)⟩
        · have l1 := hne e
          refine ⟨_, rfl, _, rfl, _, rfl, rc, _, rfl, .inr (h35.same s6).sq, p, _, rfl, hp5.same s6, (by rw [List.length_map]; omega), (by rw [List.length_map]; omega), fun r o r0 r1 po => ?_⟩
          rw [List.length_map] at r1
          obtain ⟨v, ev, hv⟩ := getD_at r0 r1
          have k7 := Kept.upd p H6 o
          have kp7 := KP.kept k7 (hp5.same s6)
          have hvr := rt v hv
          refine ⟨rc, _, r, .int v, rfl, rfl, (K2.of k7 (hp5.same s6) _ _ (h35.same s6)).sq, ev, ?_⟩
          refine ⟨.int v, _, _, _, vs ++ [.ref u], run ++ [(j, oi)], rfl, (k5.trans (Kept.same s6)).trans k7, ⟨o, upd_same, po⟩, k7 _ _ (s6 _ _ hL5) eL, (steps.keep (KP.same s6)).keep kp7, rok2, by omega, .inr ⟨v.toNat, ?_, ?_, by omega, len2⟩⟩
          · rw [show ((v.toNat : Nat) : Int) = v by omega]
          · rw [tos2, show ((v.toNat : Nat) : Int) = v by omega]
            exact hv
        · exact ⟨.non, _, _, _, vs ++ [.ref u], run ++ [(j, oi)], rfl, k5.trans (Kept.same s6), hp5.same s6, s6 _ _ hL5, steps.keep (KP.same s6), rok2, by omega, .inl ⟨rfl, by omega⟩⟩
    · rintro σ H2 ⟨vrow, y5, y6, y7, vs, run, rfl, k2, hp2, hL2, hst, rok, lt, hrow⟩
      refine ⟨_, rfl, q L H2 run nL k2 hp2 ⟨vs, hL2, hst⟩ rok ?_ (by omega)⟩
      rcases hrow with ⟨_, l1⟩ | ⟨j, _, _, _, ej⟩
      · exact l1
      · omega
end
end Su
/-! ### R3: the law's own look at runs -/
namespace Su
open PySem PySem.Spec PyProof.Rows L2
def numV : Option (Option Nat) → V
  | none => .int (-1)
  | some none => .non
  | some (some i) => .int i
def spNum : Sp := fun vs H Q _ => ∃ (p W : Addr) (v : V) (rs : List Rw) (g : G), vs = [.ref W, v] ∧ WebAt H W rs ∧ WebOk rs ∧ Tg p H v g ∧ ∀ H', Same H H' → Q (numV (runG rs g)) H'
theorem tup_nilE {K : PySem.W.Frag} {H : Hp} {b t : Addr} {ks : List Int} {Q : VK} (hb : T2 H b (ks.map V.int)) (hk : ∀ k ∈ ks, -1000 ≤ k ∧ k ≤ 1000) (hl : ks.length ≤ 1000) (pt : PTup H t []) (q : Q (.bl ks.isEmpty) H) : rEqD K (.ref b) (.ref t) H Q := by
  have f : Fine (.tuple (ks.map PyData.int)) 1 41000 := (Fine.tuple (FineL.ints ks fun z hz => by have := hk z hz; omega)).up (by decide) (by omega)
  have f0 : Fine (.tuple []) 1 0 := Fine.tuple FineL.nil
  refine ⟨.tuple (ks.map PyData.int), .tuple [], .tup hb.sq (dp_intsS ks), .tup pt.sq .nil, f.shaped (by decide), f0.shaped (by decide), ?_⟩
  cases ks with
  | nil => exact q
  | cons a l => exact q
theorem sc_law_number : FnScope ["_law_web_here", "_law_thing", "_law_tos_here", "_law_number_here", "_law_step", "_law_rooms", "_law_later"] ["_law_web_here", "_law_thing"] (defScope s_law_number) := ⟨rfl, rfl, rfl, by decide +kernel, rfl, by decide +kernel, by decide +kernel⟩
section
variable {P : Program} {w : World} {K : PySem.W.Frag} {mg : Str → Option Value} {base : Heap}
theorem ok_num (T : At K mg "_law_number" s_law_number ["_law_web_here", "_law_thing"]) (B : Bt mg) (c_whole : Cal P w K mg base 1 "_law_whole" ["_law_thing"] spWhole) : Cal P w K mg base 2 "_law_number" ["_law_web_here", "_law_thing"] spNum := by
  refine cal_of T sc_law_number (fun vs H Q E h => ?_) (fun f cdv A outer s H vs Q E hr h => ?_)
  · obtain ⟨p, W, v, rs, g, rfl, _⟩ := h
    rfl
  · obtain ⟨p, W, v, rs, g, rfl, ⟨ws, hW, hrs⟩, ok, hv, q⟩ := h
    refine ⟨_, (pss_cons (ps_if (PW.pt (pw_or (pt_not (pt_val (pe_callB call_isi (by rfl) B.isinstance (by decide +kernel) (pa_cons (pv 1) (pa_cons (pe_bltn (v := .ty "list") (u := .type "list") (by rfl) B.list (by decide +kernel) rfl) pa_nil))))) (pw_or1 (pt_not (pt_chain op_le op_le pe_int (pe_callB call_len_seq (by rfl) B.len PySem.boot_len (pa_cons (pv 1) pa_nil)) pe_int))))) (pss_one (ps_ret pe_non)) pss_nil)
      (pss_cons (ps_set (i := 2) sc_law_number.nd rfl (Or.inl rfl) (pe_tupF (pa_cons pe_int pa_nil)))
      (pss_cons (ps_for PassesOwn.never rfl (pi_enum (by rfl) B.enumerate (pa_cons (pv 1) pa_nil)) (pg_tup (by rfl) (pgs_cons (pg_name (i := 3) sc_law_number.nd rfl (Or.inl rfl)) (pgs_cons (pg_name (i := 4) sc_law_number.nd rfl (Or.inl rfl)) pgs_nil))) (pss_cons (ps_if (PW.pt (pw_or (pt_not (pt_val (pe_callB call_isi (by rfl) B.isinstance (by decide +kernel) (pa_cons (pv 4) (pa_cons (pe_bltn (v := .ty "tuple") (u := .type "tuple") (by rfl) B.tuple (by decide +kernel) rfl) pa_nil))))) (pw_or (pt_cmpR op_ne (pe_callB call_len_seq (by rfl) B.len PySem.boot_len (pa_cons (pv 4) pa_nil)) pe_int (nomark _)) (pw_or (pt_not (pt_val (pe_own c_whole hr (by decide) (by rfl) (pa_cons (pe_ix ix_tup (pv 4) pe_int (fun _ _ => rfl)) pa_nil)))) (pw_or1 (pt_cmpR op_notIn_seq (pe_ix ix_tup (pv 4) pe_int (fun _ _ => rfl)) (pv 2) (by rfl))))))) (pss_one (ps_ret (pv 3))) pss_nil)
      (pss_cons (ps_asg (pe_ix ix_list (pv 0) (pe_ix ix_tup (pv 4) pe_int (fun _ _ => rfl)) (fun _ _ => rfl)) (pg_tup (by rfl) (pgs_cons (pg_name (i := 5) sc_law_number.nd rfl (Or.inl rfl)) (pgs_cons (pg_name (i := 6) sc_law_number.nd rfl (Or.inl rfl)) pgs_nil))))
      (pss_cons (ps_if (PW.pt (pw_or (PW.pt (pw_and (pt_cmpR op_notN (pe_ix ix_tup (pv 4) pe_int (fun _ _ => rfl)) pe_non (nomark _)) (pw_and1 (pt_not (pt_val (pe_own c_whole hr (by decide) (by rfl) (pa_cons (pe_ix ix_tup (pv 4) pe_int (fun _ _ => rfl)) pa_nil))))))) (pw_or1 (pt_cmpR op_ne (pe_cmpR op_isN (pe_ix ix_tup (pv 4) pe_int (fun _ _ => rfl)) pe_non (nomark _)) (pe_cmpR (op_eqD hr.units) (pv 5) (pe_tupF pa_nil) (nomark _)) (nomark _))))) (pss_one (ps_ret (pv 3))) pss_nil)
      (pss_cons (ps_if (PW.pt (pw_and (pt_cmpR (op_neD hr.units) (pv 5) (pe_tupF pa_nil) (nomark _)) (pw_and1 (pt_cmpR op_notIn_seq (pe_ix ix_tup (pv 4) pe_int (fun _ _ => rfl)) (pv 5) (by rfl))))) (pss_one (ps_ret (pv 3))) pss_nil)
      (pss_one (ps_set (i := 2) sc_law_number.nd rfl (Or.inl rfl) (pv 6))))))))
      (pss_one (ps_ret (pe_un un_neg pe_int)))))), ?_⟩
    refine ⟨_, rfl, v, .ty "list", _, _, _, rfl, .ty "list", hv.ty, kit_list g, _, rfl, iteB (fun e => ?_) (fun e => ?_)⟩
    · refine iteT ?_
      have z : runG rs g = some none := by
        cases g <;> first | rfl | cases e
      have y := q H (Same.refl H)
      rw [z] at y
      exact y
    cases hv with
    | @lst a vs gs na ha t =>
      have hlen : vs.length = gs.length := t.len
      have lk : runG rs (.lst gs) = if 1 ≤ gs.length ∧ gs.length ≤ 20000 then (stepsG rs [0] gs).map some else some none := rfl
      refine ⟨_, rfl, a, _, rfl, .inl (SqL.of ha), _, _, rfl, rfl, _, rfl, iteB (fun e1 => ?_) (fun e1 => ?_)⟩
      rotate_left
      · refine ⟨_, rfl, iteT ?_⟩
        have l1 := of_decide_eq_false e1
        have y := q H (Same.refl H)
        rw [lk, if_neg (by omega)] at y
        exact y
      refine ⟨_, _, rfl, rfl, _, rfl, ?_⟩
      have l1 := of_decide_eq_true e1
      refine iteB (fun e2 => ?_) (fun e2 => ?_)
      · have l2 : ¬ (vs.length : Int) ≤ 20000 := by simpa using e2
        have y := q H (Same.refl H)
        rw [lk, if_neg (by omega)] at y
        exact y
      have l2 : (vs.length : Int) ≤ 20000 := by simpa using e2
      rw [if_pos (by omega)] at lk
      refine ⟨(by show 1 ≤ sizeLine; decide), fun t0 H0 s0 nt0 pt0 => ?_⟩
      refine ⟨_, rfl, a, _, rfl, SqL.of (s0 _ _ ha), ?_⟩
      refine for_enumS (K := K) (a := a) (xs := vs) (fun i σ H2 => ∃ (t : Addr) (y1 y2 y3 y4 : Option V) (tos : List Int), σ = [some (.ref W), some (.ref a), some (.ref t), y1, y2, y3, y4] ∧ Same H H2 ∧ T2 H2 t (tos.map V.int) ∧ (∀ k ∈ tos, 0 ≤ k ∧ k < rs.length) ∧ stepsG rs [0] gs = (stepsG rs tos (gs.drop i)).map (· + i)) ?_ ?_ ?_ ?_
      · refine ⟨t0, none, none, none, none, [0], rfl, s0, .inl pt0, fun k hk => ?_, ?_⟩
        · rw [List.mem_singleton.mp hk]
          have := ok.pos
          omega
        · rw [List.drop_zero]
          cases stepsG rs [0] gs <;> rfl
      · rintro i σ H2 _ ⟨_, _, _, _, _, _, _, s2, _⟩
        exact SqL.of (s2 _ _ ha)
      · rintro i x σ H2 T hx ⟨tt, y1, y2, y3, y4, tos, rfl, s2, ht, rt, es⟩ nT
        obtain ⟨g1, e4, tg⟩ := t.get hx
        have sT : Same H2 (upd H2 T (.tup [.int (i : Nat), x])) := same_upd nT
        have s0T := s2.trans sT
        have tg2 := tg.keep (Keeps.same (p := p) s0T)
        obtain ⟨bad, good⟩ := steps_at (tot := gs) e4 es
        have no : stepG rs tos g1 = false → ∀ H', Same H H' → Q (.int (i : Nat)) H' := fun b H' s' => by
          have y := q H' s'
          rw [lk, bad b] at y
          exact y
        refine ⟨T, _, rfl, SqT.of upd_same, rfl, _, _, rfl, _, _, rfl, rfl, ?_⟩
        refine ⟨_, rfl, x, .ty "tuple", _, _, _, rfl, .ty "tuple", tg2.ty, kit_tuple g1, _, rfl, iteB (fun e => ?_) (fun e => ?_)⟩
        · exact iteT ⟨_, rfl, no (by cases g1 <;> first | rfl | cases e) _ s0T⟩
        cases tg2 with
        | @tup u vs2 gs2 hu tl =>
          have hlen2 : vs2.length = gs2.length := tl.len
          refine ⟨_, rfl, u, _, rfl, .inr hu.sq, rfl, _, rfl, ?_⟩
          match gs2, vs2, tl, hlen2, hu, no, good with
          | [], [], _, _, _, no, _ => exact iteT ⟨_, rfl, no rfl _ s0T⟩
          | [_], [_], _, _, _, no, _ => exact iteT ⟨_, rfl, no rfl _ s0T⟩
          | _ :: _ :: _ :: _, _ :: _ :: _ :: _, _, _, _, no, _ =>
            refine iteB (fun _ => ⟨_, rfl, no rfl _ s0T⟩) (fun z => ?_)
            simp at z
            omega
          | [x1, x2], [v1, v2], .cons tx (.cons ty _), _, hu, no, good =>
            refine iteNS rfl ?_
            have eq0 : stepG rs tos (.tup [x1, x2]) = (wholeG x1 && (decide (numG x1 ∈ tos) && askG (rs.getD (numG x1).toNat ([], [])).1 x2)) := rfl
            rw [eq0] at no good
            refine ⟨_, rfl, _, _, _, _, rfl, rfl, hu.sq, atI_nat (j := 0) rfl, p, v1, x1, rfl, tx, _, rfl, ?_⟩
            refine iteB (fun e5 => ?_) (fun e5 => ?_)
            · exact iteT ⟨_, rfl, no (by rw [show wholeG x1 = false from bFalse e5, Bool.false_and]) _ s0T⟩
            rw [show wholeG x1 = true from bTrue e5, Bool.true_and] at no good
            obtain ⟨ii, rfl, rfl⟩ := whole_int tx (bTrue e5)
            refine ⟨_, rfl, _, _, _, _, rfl, rfl, hu.sq, atI_nat (j := 0) rfl, _, rfl, tt, _, rfl, .inr (ht.same sT).sq, rfl, flat_ints tos, ?_⟩
            rw [show (if true = true then !inV (V.int ii) (tos.map V.int) else inV (V.int ii) (tos.map V.int)) = !decide (ii ∈ tos) from congrArg (!·) (in_ints _ tos)]
            refine ⟨_, rfl, iteB (fun e6 => ?_) (fun e6 => ?_)⟩
            · exact ⟨_, rfl, no (by rw [show decide (numG (.int ii) ∈ tos) = false from bFalse e6, Bool.false_and]) _ s0T⟩
            have hin : ii ∈ tos := of_decide_eq_true (bTrue e6)
            rw [show decide (numG (.int ii) ∈ tos) = true from bTrue e6, Bool.true_and] at no good
            have ri := rt ii hin
            have hi : ii.toNat < rs.length := by omega
            obtain ⟨ra, rb, rc, er, h1, h2, h3, er2⟩ := row_get (W := W) hrs hi
            have rok := ok.row _ (List.mem_of_getElem? er2)
            have few := rok.few
            have rr : ∀ k ∈ (rs.getD ii.toNat ([], [])).1, -1000 ≤ k ∧ k ≤ 1000 := fun k hk => by
              have := rok.rooms.lo k hk
              have := rok.rooms.hi k hk
              omega
            refine ⟨_, rfl, _, rfl, _, _, _, _, rfl, rfl, hu.sq, atI_nat (j := 0) rfl, W, _, ii, .ref ra, rfl, rfl, SqL.of (s0T _ _ hW), ?_, ra, _, rfl, (h1.same s0T).sq, rfl, _, _, rfl, _, _, rfl, rfl, ?_⟩
            · have := atI_nat er
              rw [show ((ii.toNat : Nat) : Int) = ii by omega] at this
              exact this
            rw [show numG (G.int ii) = ii from rfl] at no good
            generalize hks : (rs.getD ii.toNat ([], [])).1 = ks at rr few h2 no good
            have fin : ∀ H', Same H H' → askG ks x2 = true → ∃ (t : Addr) (y1 y2 y3 y4 : Option V) (tos : List Int), [some (V.ref W), some (V.ref a), some (V.ref rc), some (V.int (i : Nat)), some (V.ref u), some (V.ref rb), some (V.ref rc)] = [some (.ref W), some (.ref a), some (.ref t), y1, y2, y3, y4] ∧ Same H H' ∧ T2 H' t (tos.map V.int) ∧ (∀ k ∈ tos, 0 ≤ k ∧ k < rs.length) ∧ stepsG rs [0] gs = (stepsG rs tos (gs.drop (i + 1))).map (· + (i + 1)) := fun H' s' b => by
              refine ⟨rc, _, _, _, _, _, rfl, s', h3.same s', fun k hk => ?_, good b⟩
              have := rok.tos.lo k hk
              have := rok.tos.hi k hk
              omega
            refine ⟨_, rfl, _, _, _, _, rfl, rfl, hu.sq, atI_nat (j := 1) rfl, rfl, _, rfl, ?_⟩
            rw [non_dec ty]
            refine iteB (fun z => ?_) (fun z => ?_)
            · have zn : isNon x2 = false := bFalse z
              refine ⟨_, rfl, _, _, _, _, rfl, rfl, hu.sq, atI_nat (j := 1) rfl, p, v2, x2, rfl, ty, _, rfl, iteB (fun z2 => ?_) (fun z2 => ?_)⟩
              · have zw : wholeG x2 = false := bFalse z2
                refine iteT ⟨_, rfl, no ?_ _ s0T⟩
                unfold askG
                split
                · exact zn
                · cases x2 <;> first | rfl | cases zw
              · obtain ⟨k, rfl, rfl⟩ := whole_int ty (bTrue z2)
                refine ⟨_, rfl, _, _, _, _, rfl, rfl, hu.sq, atI_nat (j := 1) rfl, rfl, _, rfl, (by show 0 ≤ sizeLine; decide), fun t1 H3 s3 nt1 pt1 => ?_⟩
                refine tup_nilE ((h2.same s0T).same s3) rr (by omega) pt1 ⟨rfl, _, rfl, ?_⟩
                cases hk : ks with
                | nil =>
                  refine iteT ⟨_, rfl, no ?_ _ (s0T.trans s3)⟩
                  rw [hk]
                  rfl
                | cons k0 kl =>
                  refine iteF ?_
                  refine ⟨_, rfl, (by show 0 ≤ sizeLine; decide), fun t2 H4 s4 nt2 pt2 => ?_⟩
                  refine tup_nil (((h2.same s0T).same s3).same s4) rr (by omega) pt2 ⟨_, rfl, ?_⟩
                  rw [hk]
                  refine iteT ?_
                  have s04 := (s0T.trans s3).trans s4
                  refine ⟨_, rfl, _, _, _, _, rfl, rfl, ((hu.same s3).same s4).sq, atI_nat (j := 1) rfl, _, rfl, rb, _, rfl, .inr (((h2.same s0T).same s3).same s4).sq, rfl, flat_ints ks, ?_⟩
                  rw [show (if true = true then !inV (V.int k) (ks.map V.int) else inV (V.int k) (ks.map V.int)) = !decide (k ∈ ks) from congrArg (!·) (in_ints _ ks)]
                  have ea : askG ks (.int k) = decide (k ∈ ks) := by
                    rw [hk]
                    rfl
                  refine ⟨_, rfl, iteB (fun z3 => ?_) (fun z3 => ?_)⟩
                  · exact ⟨_, rfl, no (by rw [ea]; exact bFalse z3) _ s04⟩
                  · exact ⟨_, rfl, fin _ s04 (by rw [ea]; exact bTrue z3)⟩
            · have zn : isNon x2 = true := bTrue z
              obtain ⟨rfl, rfl⟩ : v2 = .non ∧ x2 = .non := by
                cases ty with
                | non => exact ⟨rfl, rfl⟩
                | _ => cases zn
              refine iteF ⟨_, rfl, _, _, _, _, rfl, rfl, hu.sq, atI_nat (j := 1) rfl, rfl, _, rfl, (by show 0 ≤ sizeLine; decide), fun t1 H3 s3 nt1 pt1 => ?_⟩
              refine tup_nilE ((h2.same s0T).same s3) rr (by omega) pt1 ⟨rfl, _, rfl, ?_⟩
              cases hk : ks with
              | nil =>
                refine iteF ?_
                refine ⟨_, rfl, (by show 0 ≤ sizeLine; decide), fun t2 H4 s4 nt2 pt2 => ?_⟩
                refine tup_nil (((h2.same s0T).same s3).same s4) rr (by omega) pt2 ⟨_, rfl, ?_⟩
                rw [hk]
                refine iteF (iteF ?_)
                exact ⟨_, rfl, fin _ ((s0T.trans s3).trans s4) (by rw [hk]; rfl)⟩
              | cons k0 kl =>
                refine iteT ⟨_, rfl, no ?_ _ (s0T.trans s3)⟩
                rw [hk]
                rfl
        | _ => cases e
      · rintro σ H2 ⟨tt, y1, y2, y3, y4, tos, rfl, s2, _, _, es⟩
        rw [hlen, List.drop_length] at es
        have y := q H2 s2
        rw [lk, es] at y
        exact ⟨_, rfl, y⟩
    | _ => cases e
end
end Su
/-! ### R4: runs bent -/
namespace Su
open PySem PySem.Spec PyProof.Rows L2
/-- a thing that may be shown -/
def Th (p : Addr) (H : Hp) (v : V) (n m : Nat) : Prop := ∃ g, Tg p H v g ∧ Fz g n m ∧ okD g = true
theorem Th.keep {p : Addr} {H H' : Hp} {v : V} {n m : Nat} (h : Th p H v n m) (k : Keeps p H H') : Th p H' v n m := by
  obtain ⟨g, t, f⟩ := h
  exact ⟨g, t.keep k, f⟩
theorem Th.same {p : Addr} {H H' : Hp} {v : V} {n m : Nat} (h : Th p H v n m) (s : Same H H') : Th p H' v n m := h.keep (Keeps.same s)
theorem Th.up {p : Addr} {H : Hp} {v : V} {n m n' m' : Nat} (h : Th p H v n m) (a : n ≤ n') (b : m ≤ m') : Th p H v n' m' := by
  obtain ⟨g, t, f, o⟩ := h
  exact ⟨g, t, f.up a b, o⟩
theorem Th.non {p : Addr} {H : Hp} : Th p H .non 0 100 := ⟨.non, .non, Fz.none.up (by decide) (by decide), rfl⟩
theorem Th.bl {p : Addr} {H : Hp} (b : Bool) : Th p H (.bl b) 0 100 := ⟨.bl b, .bl b, (Fz.bool b).up (by decide) (by decide), rfl⟩
theorem Th.int {p : Addr} {H : Hp} {i : Int} (h1 : -1000000 ≤ i) (h2 : i ≤ 1000000) : Th p H (.int i) 0 100 := ⟨.int i, .int i, (Fz.int h1 h2).up (by decide) (by decide), rfl⟩
theorem Th.str {p : Addr} {H : Hp} {s : Str} (h1 : PyData.leavesShort 30 (.str s) = true) (h2 : (PyData.str s).weight ≤ 100) : Th p H (.str s) 0 100 := ⟨.str s, .str s, ⟨by simp [toD, PyData.showable], by simp [toD, PyData.depth], h1, h2⟩, rfl⟩
theorem th_big {p : Addr} {H : Hp} : Th p H (.int 100000000000000000000) 0 100 := ⟨.int _, .int _, ⟨by decide +kernel, by simp [toD, PyData.depth], by decide +kernel, by decide +kernel⟩, rfl⟩
theorem ths {p : Addr} {H : Hp} {n m : Nat} : ∀ {vs : List V}, (∀ v ∈ vs, Th p H v n m) → ∃ gs, TgL p H vs gs ∧ gs.length = vs.length ∧ ∀ g ∈ gs, Fz g n m ∧ okD g = true
  | [], _ => ⟨[], .nil, rfl, fun g hg => (List.not_mem_nil hg).elim⟩
  | v :: vs, h => by
    obtain ⟨g, t, f⟩ := h v List.mem_cons_self
    obtain ⟨gs, ts, l, fs⟩ := ths fun x hx => h x (List.mem_cons_of_mem _ hx)
    refine ⟨g :: gs, .cons t ts, by rw [List.length_cons, List.length_cons, l], fun x hx => ?_⟩
    rcases List.mem_cons.mp hx with rfl | hx
    · exact f
    · exact fs x hx
theorem th_lst {p a : Addr} {H : Hp} {n m k : Nat} {vs : List V} (ne : a ≠ p) (e : H a = some (.lst vs)) (h : ∀ v ∈ vs, Th p H v n m) (l : vs.length ≤ k) : Th p H (.ref a) (n + 1) ((m + 1) * k) := by
  obtain ⟨gs, ts, lg, fs⟩ := ths h
  refine ⟨.lst gs, .lst ne e ts, (Fz.lst (FzL.all fun g hg => (fs g hg).1)).up (Nat.le_refl _) (Nat.mul_le_mul_left _ (by omega)), ?_⟩
  show okDs gs = true
  rw [okDs_all, List.all_eq_true]
  exact fun g hg => (fs g hg).2
theorem th_tup {p a : Addr} {H : Hp} {n m k : Nat} {vs : List V} (e : T2 H a vs) (h : ∀ v ∈ vs, Th p H v n m) (l : vs.length ≤ k) : Th p H (.ref a) (n + 1) ((m + 1) * k) := by
  obtain ⟨gs, ts, lg, fs⟩ := ths h
  refine ⟨.tup gs, .tup e ts, (Fz.tup (FzL.all fun g hg => (fs g hg).1)).up (Nat.le_refl _) (Nat.mul_le_mul_left _ (by omega)), ?_⟩
  show okDs gs = true
  rw [okDs_all, List.all_eq_true]
  exact fun g hg => (fs g hg).2
theorem get_at {xs : List V} {r : Int} (h0 : 0 ≤ r) (h1 : r < xs.length) : ∃ v, atI xs r = some v ∧ v ∈ xs := by
  obtain ⟨m, rfl⟩ : ∃ m : Nat, (m : Int) = r := ⟨r.toNat, by omega⟩
  have hm : m < xs.length := by omega
  exact ⟨xs[m], atI_nat (List.getElem?_eq_getElem hm), List.getElem_mem hm⟩
theorem all_cons {P : V → Prop} {v : V} {vs : List V} (h : P v) (t : ∀ x ∈ vs, P x) : ∀ x ∈ v :: vs, P x := fun x hx => by
  rcases List.mem_cons.mp hx with rfl | hx
  · exact h
  · exact t x hx
theorem all_nil {P : V → Prop} : ∀ x ∈ ([] : List V), P x := fun x hx => (List.not_mem_nil hx).elim
theorem th_opt {p : Addr} {H : Hp} {o : Option Int} (h : ∀ k, o = some k → 0 ≤ k ∧ k < 100) : Th p H (optI o) 0 100 := by
  cases o with
  | none => exact .non
  | some k =>
    have := h k rfl
    exact .int (by omega) (by omega)
theorem th_step {p : Addr} {H : Hp} {v : V} {s : Stp} (h : StepAt H v s) (h1 : s.1 < 1000) (h2 : ∀ k, s.2 = some k → 0 ≤ k ∧ k < 100) : Th p H v 3 1010 := by
  obtain ⟨t, rfl, pt⟩ := h
  exact (th_tup (n := 0) (m := 100) (k := 2) (.inl pt) (all_cons (.int (by omega) (by omega)) (all_cons (th_opt h2) all_nil)) (Nat.le_refl _)).up (by decide) (by decide)
/-- what a bent run is -/
def ThR (p : Addr) (H : Hp) (v : V) : Prop := ∃ g, Tg p H v g ∧ Fz g 6 150000 ∧ Flat g
theorem Th.r {p : Addr} {H : Hp} {v : V} {n m : Nat} (h : Th p H v n m) (a : n ≤ 6) (b : m ≤ 150000) : ThR p H v := by
  obtain ⟨g, t, f, o⟩ := h
  exact ⟨g, t, f.up a b, .inl o⟩
theorem big_is : ((fun (i j : Int) => V.int (i ^ j.toNat)) 10 20) = V.int 100000000000000000000 := congrArg V.int (by decide +kernel)
theorem sh_0 {p : Addr} {H : Hp} : Th p H (.str "0") 0 100 := .str (by decide +kernel) (by decide +kernel)
theorem sh_ab {p : Addr} {H : Hp} : Th p H (.str "ab") 0 100 := .str (by decide +kernel) (by decide +kernel)
theorem sh_run {p : Addr} {H : Hp} : Th p H (.str "run") 0 100 := .str (by decide +kernel) (by decide +kernel)
theorem RunOk.rng18 {rs : List Rw} {run : List Stp} (h : RunOk rs run) (ok : WebOk rs) {i : Nat} {s : Stp} (e : run[i]? = some s) : ∀ k, s.2 = some k → 0 ≤ k ∧ k < 100 := by
  intro k ek
  obtain ⟨r, er, hr⟩ := (h i s e).row
  have rok := ok.row r (List.mem_of_getElem? er)
  rw [ek] at hr
  have h1 := rok.rooms.lo k hr
  have h2 := rok.rooms.hi k hr
  omega
def spBent : Sp := fun vs H Q _ => ∃ (p W R : Addr) (rs : List Rw) (run : List Stp), vs = [.ref p, .ref W, .ref R] ∧ PoolAt H p ∧ W ≠ p ∧ WebAt H W rs ∧ WebOk rs ∧ R ≠ p ∧ RunAt H R run ∧ RunOk rs run ∧ 1 ≤ run.length ∧ run.length ≤ 100 ∧
  ∀ (v : V) (H' : Hp), Kept p H H' → PoolAt H' p → ThR p H' v → Q v H'
theorem sc_law_bent : FnScope ["_law_pool_here", "_law_web_here", "_law_run_here", "_law_at", "_law_row", "_law_one", "_law_odd", "_law_steps", "_law_way"] ["_law_pool_here", "_law_web_here", "_law_run_here"] (defScope s_law_bent) := ⟨rfl, rfl, rfl, by decide +kernel, rfl, by decide +kernel, by decide +kernel⟩
section
variable {P : Program} {w : World} {K : PySem.W.Frag} {mg : Str → Option Value} {base : Heap}
theorem ok_bent (T : At K mg "_law_bent" s_law_bent ["_law_pool_here", "_law_web_here", "_law_run_here"]) (B : Bt mg) (c_take : Cal P w K mg base 1 "_law_take" ["_law_pool_here", "_law_many"] spTake) : Cal P w K mg base 2 "_law_bent" ["_law_pool_here", "_law_web_here", "_law_run_here"] spBent := by
  refine cal_of T sc_law_bent (fun vs H Q E h => ?_) (fun f cdv A outer s H vs Q E hr h => ?_)
  · obtain ⟨p, W, R, rs, run, rfl, _⟩ := h
    rfl
  · obtain ⟨p, W, R, rs, run, rfl, hp, eW, hW, ok, eR, ⟨vs, eRl, hst⟩, rok, l1, l2, q⟩ := h
    refine ⟨_, (pss_cons (ps_set (i := 3) sc_law_bent.nd rfl (Or.inl rfl) (pe_own c_take hr (by decide) (by rfl) (pa_cons (pv 0) (pa_cons (pe_callB call_len_seq (by rfl) B.len PySem.boot_len (pa_cons (pv 2) pa_nil)) pa_nil))))
      (pss_cons (ps_asg (pe_ix ix_list (pv 2) (pv 3) (fun _ _ => rfl)) (pg_tup (by rfl) (pgs_cons (pg_name (i := 4) sc_law_bent.nd rfl (Or.inl rfl)) (pgs_cons (pg_name (i := 5) sc_law_bent.nd rfl (Or.inl rfl)) pgs_nil))))
      (pss_cons (ps_set (i := 6) sc_law_bent.nd rfl (Or.inl rfl) (pe_ix ix_list (pe_lst (pa_cons pe_bl (pa_cons pe_non (pa_cons pe_str (pa_cons (pe_un un_neg pe_int) (pa_cons pe_int (pa_cons (pe_lst (pa_cons (pv 4) pa_nil)) (pa_cons (pe_op op_pow pe_int pe_int) (pa_cons (pe_cmpR op_eq pe_int pe_int (nomark _)) pa_nil))))))))) (pe_own c_take hr (by decide) (by rfl) (pa_cons (pv 0) (pa_cons pe_int pa_nil))) (fun _ _ => rfl)))
      (pss_cons (ps_set (i := 7) sc_law_bent.nd rfl (Or.inl rfl) (pe_lst (pa_cons (pe_tupF (pa_cons (pv 6) (pa_cons (pv 5) pa_nil))) (pa_cons (pe_tupF (pa_cons (pv 4) (pa_cons (pv 6) pa_nil))) (pa_cons (pe_lst (pa_cons (pv 4) (pa_cons (pv 5) pa_nil))) (pa_cons (pe_tupF (pa_cons (pv 4) pa_nil)) (pa_cons (pe_tupF (pa_cons (pv 4) (pa_cons (pv 5) (pa_cons pe_int pa_nil)))) (pa_cons pe_non (pa_cons (pv 4) (pa_cons (pe_tupF (pa_cons (pe_op op_add (pv 4) pe_int) (pa_cons (pv 5) pa_nil))) pa_nil))))))))))
      (pss_cons (ps_set (i := 7) sc_law_bent.nd rfl (Or.inl rfl) (pe_op op_cat (pv 7) (pe_lst (pa_cons (pe_tupF (pa_cons (pv 4) (pa_cons (pe_op op_add (pe_orT (pv 5) (pe_one pe_int)) pe_int) pa_nil))) (pa_cons (pe_tupF (pa_cons (pe_own c_take hr (by decide) (by rfl) (pa_cons (pv 0) (pa_cons (pe_callB call_len_seq (by rfl) B.len PySem.boot_len (pa_cons (pv 1) pa_nil)) pa_nil))) (pa_cons (pv 5) pa_nil))) (pa_cons (pe_tupF (pa_cons (pv 4) (pa_cons (pe_tupF (pa_cons pe_int pa_nil)) pa_nil))) (pa_cons pe_str pa_nil)))))))
      (pss_cons (ps_set (i := 8) sc_law_bent.nd rfl (Or.inl rfl) (pe_own c_take hr (by decide) (by rfl) (pa_cons (pv 0) (pa_cons pe_int pa_nil))))
      (pss_cons (ps_if (pt_cmpR op_lt (pv 8) pe_int (nomark _)) (pss_one (ps_ret (pe_op op_cat (pe_op op_cat (pe_slice sl_list (pv 2) po_none (po_some (pv 3))) (pe_lst (pa_cons (pe_ix ix_list (pv 7) (pv 8) (fun _ _ => rfl)) pa_nil))) (pe_slice sl_list (pv 2) (po_some (pe_op op_add (pv 3) pe_int)) po_none)))) pss_nil)
      (pss_cons (ps_if (pt_cmpR op_eq (pv 8) pe_int (nomark _)) (pss_one (ps_ret (pe_op op_cat (pe_slice sl_list (pv 2) po_none (po_some (pv 3))) (pe_slice sl_list (pv 2) (po_some (pe_op op_add (pv 3) pe_int)) po_none)))) pss_nil)
      (pss_cons (ps_if (pt_cmpR op_eq (pv 8) pe_int (nomark _)) (pss_one (ps_ret (pe_op op_cat (pv 2) (pe_lst (pa_cons (pe_ix ix_list (pv 2) (pv 3) (fun _ _ => rfl)) pa_nil))))) pss_nil)
      (pss_one (ps_ret (pe_ix ix_list (pe_lst (pa_cons pe_non (pa_cons (pe_callTy call_tupleF (by rfl) B.tuple (by decide +kernel) (pa_cons (pv 2) pa_nil)) (pa_cons (pe_lst pa_nil) (pa_cons pe_dnewK (pa_cons pe_str (pa_cons pe_int (pa_cons (pe_revL (pv 2)) (pa_cons (pe_lst (pa_cons (pv 2) pa_nil)) pa_nil))))))))) (pe_own c_take hr (by decide) (by rfl) (pa_cons (pv 0) (pa_cons pe_int pa_nil))) (fun _ _ => rfl))))))))))))), ?_⟩
    have vl := hst.len
    refine ⟨_, rfl, _, rfl, R, _, rfl, .inl (SqL.of eRl), p, _, rfl, hp, by omega, by omega, fun r o r0 r1 po => ?_⟩
    have kz := Kept.upd p H o
    have hp1 : PoolAt (upd H p o) p := ⟨o, upd_same, po⟩
    have eR1 := kz _ _ eRl eR
    have hst1 := hst.keep (KP.kept kz hp)
    have hW1 : WebAt (upd H p o) W rs := by
      obtain ⟨ws, e, t⟩ := hW
      exact ⟨ws, kz _ _ e eW, t.keep (K2.of kz hp)⟩
    generalize upd H p o = H1 at kz hp1 eR1 hst1 hW1 ⊢
    obtain ⟨at_, eat⟩ : ∃ at_ : Nat, (at_ : Int) = r := ⟨r.toNat, by omega⟩
    subst eat
    obtain ⟨v0, ev0⟩ : ∃ v0, vs[at_]? = some v0 := ⟨vs[at_]'(by omega), List.getElem?_eq_getElem _⟩
    obtain ⟨⟨si, so⟩, esp, u, rfl, hu⟩ := hst1.get ev0
    refine ⟨_, rfl, _, rfl, R, _, (at_ : Int), .ref u, rfl, rfl, SqL.of eR1, atI_nat ev0, u, _, rfl, hu.sq, rfl, _, _, rfl, _, _, rfl, rfl, ?_⟩
    have rgk := rok.rng18 ok esp
    have hsi : si < 1000 := by
      obtain ⟨r, er, _⟩ := (rok _ _ esp).row
      have := (List.getElem?_eq_some_iff.mp er).1
      have := ok.few
      show si < 1000
      have e0 : ((si, so) : Stp).1 = si := rfl
      omega
    have tRow : ∀ {Hn : Hp}, Th p Hn (.int (si : Nat)) 0 100 := Th.int (by omega) (by omega)
    have tOne : ∀ {Hn : Hp}, Th p Hn (optI so) 0 100 := th_opt fun k e => rgk k e
    refine ⟨_, rfl, _, rfl, (by show 1 ≤ sizeLine; decide), fun b1 nb1 => ?_⟩
    have w1 := same_upd (o := .lst [V.int (si : Nat)]) nb1
    have eb1 : b1 ≠ p := pool_ne hp1 nb1
    have tb1 : Th p (upd H1 b1 (.lst [V.int (si : Nat)])) (.ref b1) 1 200 := (th_lst (n := 0) (m := 100) (k := 1) eb1 upd_same (all_cons tRow all_nil) (by simp)).up (by decide) (by decide)
    refine ⟨_, _, rfl, rfl, ⟨by decide, by decide, by decide⟩, ?_⟩
    obtain ⟨big, ebig, tbig⟩ : ∃ big : Int, ((fun (i j : Int) => V.int (i ^ j.toNat)) 10 20) = V.int big ∧ ∀ {Hn : Hp}, Th p Hn (.int big) 0 100 := ⟨100000000000000000000, big_is, th_big⟩
    generalize ((fun (i j : Int) => V.int (i ^ j.toNat)) 10 20) = vbig at ebig ⊢
    subst ebig
    refine ⟨rfl, (by show 8 ≤ sizeLine; decide), fun b2 nb2 => ?_⟩
    have w2 := same_upd (o := .lst [V.bl true, V.non, V.str "0", V.int (-1), V.int 99, V.ref b1, V.int big, V.bl (decide (V.int 1 = V.int 1))]) nb2
    have w12 := w1.trans w2
    refine ⟨_, rfl, p, 8, rfl, hp1.same w12, by decide, by decide, fun r2 o2 r20 r21 po2 => ?_⟩
    have kz2 := Kept.upd p (upd (upd H1 b1 (.lst [V.int (si : Nat)])) b2 (.lst [V.bl true, V.non, V.str "0", V.int (-1), V.int 99, V.ref b1, V.int big, V.bl (decide (V.int 1 = V.int 1))])) o2
    have eb2 : b2 ≠ p := pool_ne (hp1.same w1) nb2
    have kp2 := Keeps.of kz2 (hp1.same w12)
    obtain ⟨odd, eodd, modd⟩ := get_at (xs := [V.bl true, V.non, V.str "0", V.int (-1), V.int 99, V.ref b1, V.int big, V.bl (decide (V.int 1 = V.int 1))]) r20 r21
    have todd := all_cons (P := fun v => Th p _ v 1 200) ((Th.bl true).up (by decide) (by decide)) (all_cons (Th.non.up (by decide) (by decide)) (all_cons (sh_0.up (by decide) (by decide)) (all_cons ((Th.int (by decide) (by decide)).up (by decide) (by decide)) (all_cons ((Th.int (by decide) (by decide)).up (by decide) (by decide)) (all_cons ((tb1.same w2).keep kp2) (all_cons (tbig.up (by decide) (by decide)) (all_cons ((Th.bl _).up (by decide) (by decide)) all_nil))))))) odd modd
    refine ⟨b2, _, r2, odd, rfl, rfl, SqL.of (kz2 _ _ upd_same eb2), eodd, ?_⟩
    have k2 := (kz.trans (Kept.same w12)).trans kz2
    have hp2 : PoolAt (upd (upd (upd H1 b1 (.lst [V.int (si : Nat)])) b2 (.lst [V.bl true, V.non, V.str "0", V.int (-1), V.int 99, V.ref b1, V.int big, V.bl (decide (V.int 1 = V.int 1))])) p o2) p := ⟨o2, upd_same, po2⟩
    generalize upd (upd (upd H1 b1 (.lst [V.int (si : Nat)])) b2 (.lst [V.bl true, V.non, V.str "0", V.int (-1), V.int 99, V.ref b1, V.int big, V.bl (decide (V.int 1 = V.int 1))])) p o2 = H2 at todd k2 hp2 ⊢
    clear kp2 kz2 w12 w2 w1 tb1 hp1 hst1 eR1 hu ev0 esp modd eodd tbig hW1 kz
    have tOne1 : ∀ {Hn : Hp}, Th p Hn (optI so) 1 200 := tOne.up (by decide) (by decide)
    have tRow1 : ∀ {Hn : Hp}, Th p Hn (.int (si : Nat)) 1 200 := tRow.up (by decide) (by decide)
    have tup2 : ∀ {Hn : Hp} {t : Addr} {vs : List V}, PTup Hn t vs → (∀ v ∈ vs, Th p Hn v 1 200) → vs.length ≤ 3 → Th p Hn (.ref t) 3 1010 := fun pt h l => (th_tup (n := 1) (m := 200) (k := 3) (.inl pt) h l).up (by decide) (by decide)
    refine ⟨_, rfl, _, rfl, (by show 2 ≤ sizeLine; decide), fun t1 I1 u1 nt1 pt1 => ?_⟩
    have x1 := tup2 pt1 (all_cons (todd.same u1) (all_cons tOne1 all_nil)) (by simp)
    refine ⟨_, rfl, _, rfl, (by show 2 ≤ sizeLine; decide), fun t2 I2 u2 nt2 pt2 => ?_⟩
    have u02 := u1.trans u2
    have x2 := tup2 pt2 (all_cons tRow1 (all_cons (todd.same u02) all_nil)) (by simp)
    refine ⟨_, rfl, _, rfl, (by show 2 ≤ sizeLine; decide), fun t3 nt3 => ?_⟩
    have u3 := same_upd (o := .lst [V.int (si : Nat), optI so]) nt3
    have et3 : t3 ≠ p := pool_ne (hp2.same u02) nt3
    have x3 : Th p (upd I2 t3 (.lst [V.int (si : Nat), optI so])) (.ref t3) 3 1010 := (th_lst (n := 0) (m := 100) (k := 2) et3 upd_same (all_cons tRow (all_cons tOne all_nil)) (by simp)).up (by decide) (by decide)
    refine ⟨_, rfl, (by show 1 ≤ sizeLine; decide), fun t4 I4 u4 nt4 pt4 => ?_⟩
    have x4 := tup2 pt4 (all_cons tRow1 all_nil) (by simp)
    refine ⟨_, rfl, _, rfl, (by show 3 ≤ sizeLine; decide), fun t5 I5 u5 nt5 pt5 => ?_⟩
    have x5 := tup2 pt5 (all_cons tRow1 (all_cons tOne1 (all_cons ((Th.int (by decide) (by decide)).up (by decide) (by decide)) all_nil))) (by simp)
    refine ⟨_, rfl, _, rfl, _, _, rfl, rfl, _, rfl, (by show 2 ≤ sizeLine; decide), fun t8 I8 u8 nt8 pt8 => ?_⟩
    have x8 := tup2 pt8 (all_cons ((Th.int (by omega) (by omega)).up (by decide) (by decide)) (all_cons tOne1 all_nil)) (by simp)
    refine ⟨(by show 8 ≤ sizeLine; decide), fun La nLa => ?_⟩
    have ua := same_upd (o := .lst [V.ref t1, V.ref t2, V.ref t3, V.ref t4, V.ref t5, V.non, V.int (si : Nat), V.ref t8]) nLa
    have ea : La ≠ p := pool_ne (hp2.same (u02.trans (u3.trans (u4.trans (u5.trans u8))))) nLa
    have all1 : ∀ v ∈ [V.ref t1, V.ref t2, V.ref t3, V.ref t4, V.ref t5, V.non, V.int (si : Nat), V.ref t8], Th p (upd I8 La (.lst [V.ref t1, V.ref t2, V.ref t3, V.ref t4, V.ref t5, V.non, V.int (si : Nat), V.ref t8])) v 3 1010 :=
      all_cons (x1.same (u2.trans (u3.trans (u4.trans (u5.trans (u8.trans ua)))))) (all_cons (x2.same (u3.trans (u4.trans (u5.trans (u8.trans ua))))) (all_cons (x3.same (u4.trans (u5.trans (u8.trans ua)))) (all_cons (x4.same (u5.trans (u8.trans ua))) (all_cons (x5.same (u8.trans ua)) (all_cons (Th.non.up (by decide) (by decide)) (all_cons (tRow.up (by decide) (by decide)) (all_cons (x8.same ua) all_nil)))))))
    have sA := u02.trans (u3.trans (u4.trans (u5.trans (u8.trans ua))))
    have hLa : (upd I8 La (.lst [V.ref t1, V.ref t2, V.ref t3, V.ref t4, V.ref t5, V.non, V.int (si : Nat), V.ref t8])) La = some (.lst [V.ref t1, V.ref t2, V.ref t3, V.ref t4, V.ref t5, V.non, V.int (si : Nat), V.ref t8]) := upd_same
    have kA := k2.trans (Kept.same sA)
    have hpA := hp2.same sA
    generalize upd I8 La (.lst [V.ref t1, V.ref t2, V.ref t3, V.ref t4, V.ref t5, V.non, V.int (si : Nat), V.ref t8]) = J at all1 hLa kA hpA ⊢
    generalize hxs : [V.ref t1, V.ref t2, V.ref t3, V.ref t4, V.ref t5, V.non, V.int (si : Nat), V.ref t8] = xs at all1 hLa
    have lxs : xs.length = 8 := by rw [← hxs]; rfl
    clear x1 x2 x3 x4 x5 x8 sA ua u02 u3 u4 u5 u8 u1 u2 pt1 pt2 pt4 pt5 pt8 nLa nt1 nt2 nt3 nt4 nt5 nt8 k2 hp2 todd
    refine ⟨_, rfl, _, rfl, ?_⟩
    refine midC (M := fun v H' => ∃ i : Int, v = .int i ∧ 0 ≤ i ∧ i ≤ 1000 ∧ H' = J) ?hR ?h
    case h =>
      intro R' rest
      cases so with
      | none => exact ⟨_, rfl, false, rfl, iteF ⟨0, 1, rfl, rfl, rest _ _ ⟨1, rfl, by decide, by decide, rfl⟩⟩⟩
      | some k =>
        have := rgk k rfl
        refine ⟨_, rfl, _, rfl, iteB (fun e => ?_) (fun e => ?_)⟩
        · exact ⟨k, 1, rfl, rfl, rest _ _ ⟨k + 1, rfl, by omega, by omega, rfl⟩⟩
        · exact ⟨0, 1, rfl, rfl, rest _ _ ⟨1, rfl, by decide, by decide, rfl⟩⟩
    case hR =>
      rintro _ _ ⟨ni, rfl, ni0, ni1, rfl⟩
      refine ⟨(by show 2 ≤ sizeLine; decide), fun t9 I9 u9 nt9 pt9 => ?_⟩
      have x9 := tup2 pt9 (all_cons tRow1 (all_cons ((Th.int (by omega) (by omega)).up (by decide) (by decide)) all_nil)) (by simp)
      obtain ⟨ws, eWl, hrs⟩ := hW
      have wl := hrs.len
      have wpos := ok.pos
      have wfew := ok.few
      have eW9 := u9 _ _ (kA _ _ eWl eW)
      refine ⟨_, rfl, _, rfl, W, _, rfl, .inl (SqL.of eW9), p, _, rfl, hpA.same u9, by omega, by omega, fun r3 o3 r30 r31 po3 => ?_⟩
      have kz3 := Kept.upd p I9 o3
      have kp3 := Keeps.of kz3 (hpA.same u9)
      have hp3 : PoolAt (upd I9 p o3) p := ⟨o3, upd_same, po3⟩
      have x9b := x9.keep kp3
      have all2 : ∀ v ∈ xs, Th p (upd I9 p o3) v 3 1010 := fun v hv => ((all1 v hv).same u9).keep kp3
      have hLa2 := kz3 _ _ (u9 _ _ hLa) ea
      have kB := (kA.trans (Kept.same u9)).trans kz3
      generalize upd I9 p o3 = I10 at kz3 kp3 hp3 x9b all2 hLa2 kB ⊢
      refine ⟨_, rfl, (by show 2 ≤ sizeLine; decide), fun t10 I11 u11 nt10 pt10 => ?_⟩
      have x10 := tup2 pt10 (all_cons ((Th.int (by omega) (by omega)).up (by decide) (by decide)) (all_cons tOne1 all_nil)) (by simp)
      refine ⟨_, rfl, (by show 1 ≤ sizeLine; decide), fun t0 I12 u12 nt0 pt0 => ?_⟩
      have x0 : Th p I12 (.ref t0) 1 200 := (th_tup (n := 0) (m := 100) (k := 1) (.inl pt0) (all_cons (Th.int (by decide) (by decide)) all_nil) (by simp)).up (by decide) (by decide)
      refine ⟨(by show 2 ≤ sizeLine; decide), fun t11 I13 u13 nt11 pt11 => ?_⟩
      have x11 := tup2 pt11 (all_cons tRow1 (all_cons (x0.same u13) all_nil)) (by simp)
      refine ⟨(by show 4 ≤ sizeLine; decide), fun Lb nLb => ?_⟩
      have u14 := same_upd (o := .lst [V.ref t9, V.ref t10, V.ref t11, V.str "ab"]) nLb
      have u1014 := u11.trans (u12.trans (u13.trans u14))
      refine ⟨La, Lb, xs, _, rfl, rfl, u1014 _ _ hLa2, upd_same, Nat.le_of_lt (small1000 (by rw [lxs]; show 8 + 4 ≤ 1000; decide)), fun Lc nLc => ?_⟩
      have u15 := same_upd (o := .lst (xs ++ [V.ref t9, V.ref t10, V.ref t11, V.str "ab"])) nLc
      have u1015 := u1014.trans u15
      have all3 : ∀ v ∈ xs ++ [V.ref t9, V.ref t10, V.ref t11, V.str "ab"], Th p (upd (upd I13 Lb (.lst [V.ref t9, V.ref t10, V.ref t11, V.str "ab"])) Lc (.lst (xs ++ [V.ref t9, V.ref t10, V.ref t11, V.str "ab"]))) v 3 1010 := fun v hv => by
        rcases List.mem_append.mp hv with h | h
        · exact (all2 v h).same u1015
        · exact all_cons (P := fun v => Th p _ v 3 1010) (x9b.same u1015) (all_cons (x10.same (u12.trans (u13.trans (u14.trans u15)))) (all_cons (x11.same (u14.trans u15)) (all_cons (sh_ab.up (by decide) (by decide)) all_nil))) v h
      have hLc : (upd (upd I13 Lb (.lst [V.ref t9, V.ref t10, V.ref t11, V.str "ab"])) Lc (.lst (xs ++ [V.ref t9, V.ref t10, V.ref t11, V.str "ab"]))) Lc = some (.lst (xs ++ [V.ref t9, V.ref t10, V.ref t11, V.str "ab"])) := upd_same
      have eLc : Lc ≠ p := pool_ne (hp3.same u1014) nLc
      have kC := kB.trans (Kept.same u1015)
      have hpC := hp3.same u1015
      generalize upd (upd I13 Lb (.lst [V.ref t9, V.ref t10, V.ref t11, V.str "ab"])) Lc (.lst (xs ++ [V.ref t9, V.ref t10, V.ref t11, V.str "ab"])) = H3 at all3 hLc kC hpC ⊢
      have lys : (xs ++ [V.ref t9, V.ref t10, V.ref t11, V.str "ab"]).length = 12 := by rw [List.length_append, lxs]; rfl
      generalize (xs ++ [V.ref t9, V.ref t10, V.ref t11, V.str "ab"]) = ys at all3 hLc lys
      clear x9 x9b x10 x0 x11 u1015 u15 u1014 u14 u13 u12 u11 hp3 kz3 kp3 all2 hLa2 kB pt9 pt10 pt0 pt11 nLc nLb nt9 nt10 nt0 nt11 hLa kA hpA all1 hxs lxs
      refine ⟨_, rfl, p, 16, rfl, hpC, by decide, by decide, fun r4 o4 r40 r41 po4 => ?_⟩
      have kz4 := Kept.upd p H3 o4
      have kp4 := Keeps.of kz4 hpC
      have hp4 : PoolAt (upd H3 p o4) p := ⟨o4, upd_same, po4⟩
      have all4 : ∀ v ∈ ys, Th p (upd H3 p o4) v 3 1010 := fun v hv => (all3 v hv).keep kp4
      have hLc4 := kz4 _ _ hLc eLc
      have kD := kC.trans kz4
      generalize upd H3 p o4 = H4 at hp4 all4 hLc4 kD ⊢
      have eR4 := kD _ _ eRl eR
      have hst4 := hst.keep (KP.kept kD hp)
      have allS : ∀ v ∈ vs, Th p H4 v 3 1010 := fun v hv => by
        obtain ⟨j, hj, ej⟩ := List.getElem_of_mem hv
        obtain ⟨sp, esp, hsp⟩ := hst4.get (i := j) (v := v) (by rw [List.getElem?_eq_getElem hj, ej])
        refine th_step hsp ?_ (rok.rng18 ok esp)
        obtain ⟨r, er, _⟩ := (rok _ _ esp).row
        have := (List.getElem?_eq_some_iff.mp er).1
        omega
      have done : ∀ {Hn : Hp} {L : Addr} {zs : List V}, Same H4 Hn → L ≠ p → Hn L = some (.lst zs) → (∀ v ∈ zs, Th p Hn v 3 1010) → zs.length ≤ 102 → Q (.ref L) Hn := fun sn ne e h l => q _ _ (kD.trans (Kept.same sn)) (hp4.same sn) ((th_lst (k := 102) ne e h l).r (by decide) (by decide))
      clear kz4 kp4 all3 hLc kC hpC hst eRl
      have few : ∀ k, k ≤ 300 → k ≤ sizeLine := fun k h => Nat.le_of_lt (small1000 (by omega))
      have inT : ∀ {k : Nat}, ∀ v ∈ vs.take k, Th p H4 v 3 1010 := fun v hv => allS v (List.mem_of_mem_take hv)
      have inD : ∀ {k : Nat}, ∀ v ∈ vs.drop k, Th p H4 v 3 1010 := fun v hv => allS v (List.mem_of_mem_drop hv)
      have lT : ∀ k : Nat, (vs.take k).length ≤ 100 := fun k => by rw [List.length_take]; omega
      have lD : ∀ k : Nat, (vs.drop k).length ≤ 100 := fun k => by rw [List.length_drop]; omega
      refine ⟨_, rfl, _, _, rfl, rfl, _, rfl, iteB (fun z => ?_) (fun z => ?_)⟩
      · obtain ⟨v, ev, mv⟩ := get_at (xs := ys) r40 (by have := of_decide_eq_true z; omega)
        refine ⟨_, rfl, _, rfl, at_, rfl, R, vs, rfl, SqL.of eR4, fun P1 nP1 => ?_⟩
        rw [cut_to]
        have a1 := same_upd (o := .lst (vs.take at_)) nP1
        refine ⟨_, rfl, _, rfl, Lc, ys, r4, v, rfl, rfl, SqL.of (a1 _ _ hLc4), ev, (by show 1 ≤ sizeLine; decide), fun P2 nP2 => ?_⟩
        have a2 := same_upd (o := .lst [v]) nP2
        refine ⟨P1, P2, _, _, rfl, rfl, a2 _ _ upd_same, upd_same, few _ (by have := lT at_; show _ + 1 ≤ 300; omega), fun P3 nP3 => ?_⟩
        have a3 := same_upd (o := .lst (vs.take at_ ++ [v])) nP3
        have a13 := a1.trans (a2.trans a3)
        refine ⟨_, rfl, _, rfl, at_, 1, rfl, rfl, _, rfl, R, vs, rfl, SqL.of (a13 _ _ eR4), fun P4 nP4 => ?_⟩
        rw [show (at_ : Int) + 1 = ((at_ + 1 : Nat) : Int) by omega, cut_from]
        have a4 := same_upd (o := .lst (vs.drop (at_ + 1))) nP4
        refine ⟨P3, P4, _, _, rfl, rfl, a4 _ _ upd_same, upd_same, few _ (by have := lT at_; have := lD (at_ + 1); rw [List.length_append]; show _ + 1 + _ ≤ 300; omega), fun P5 nP5 => ?_⟩
        have a5 := same_upd (o := .lst (vs.take at_ ++ [v] ++ vs.drop (at_ + 1))) nP5
        have a15 := a13.trans (a4.trans a5)
        refine done a15 (pool_ne (hp4.same (a13.trans a4)) nP5) upd_same (fun w hw => ?_) ?_
        · rcases List.mem_append.mp hw with h | h
          · rcases List.mem_append.mp h with h | h
            · exact (inT w h).same a15
            · rw [List.mem_singleton.mp h]
              exact (all4 v mv).same a15
          · exact (inD w h).same a15
        · rw [List.length_append, List.length_append, List.length_take, List.length_drop]
          show _ + 1 + _ ≤ 102
          omega
      refine ⟨_, rfl, rfl, _, rfl, iteB (fun z2 => ?_) (fun z2 => ?_)⟩
      · refine ⟨_, rfl, _, rfl, at_, rfl, R, vs, rfl, SqL.of eR4, fun P1 nP1 => ?_⟩
        rw [cut_to]
        have a1 := same_upd (o := .lst (vs.take at_)) nP1
        refine ⟨_, rfl, _, rfl, at_, 1, rfl, rfl, _, rfl, R, vs, rfl, SqL.of (a1 _ _ eR4), fun P4 nP4 => ?_⟩
        rw [show (at_ : Int) + 1 = ((at_ + 1 : Nat) : Int) by omega, cut_from]
        have a4 := same_upd (o := .lst (vs.drop (at_ + 1))) nP4
        refine ⟨P1, P4, _, _, rfl, rfl, a4 _ _ upd_same, upd_same, few _ (by have := lT at_; have := lD (at_ + 1); omega), fun P5 nP5 => ?_⟩
        have a5 := same_upd (o := .lst (vs.take at_ ++ vs.drop (at_ + 1))) nP5
        have a15 := a1.trans (a4.trans a5)
        refine done a15 (pool_ne (hp4.same (a1.trans a4)) nP5) upd_same (fun w hw => ?_) ?_
        · rcases List.mem_append.mp hw with h | h
          · exact (inT w h).same a15
          · exact (inD w h).same a15
        · rw [List.length_append, List.length_take, List.length_drop]
          omega
      refine ⟨_, rfl, rfl, _, rfl, iteB (fun z3 => ?_) (fun z3 => ?_)⟩
      · obtain ⟨v, ev, mv⟩ := get_at (xs := vs) (r := (at_ : Int)) (by omega) (by omega)
        refine ⟨_, rfl, _, rfl, _, rfl, R, vs, (at_ : Int), v, rfl, rfl, SqL.of eR4, ev, (by show 1 ≤ sizeLine; decide), fun P2 nP2 => ?_⟩
        have a2 := same_upd (o := .lst [v]) nP2
        refine ⟨R, P2, _, _, rfl, rfl, a2 _ _ eR4, upd_same, few _ (by show _ + 1 ≤ 300; omega), fun P3 nP3 => ?_⟩
        have a3 := same_upd (o := .lst (vs ++ [v])) nP3
        have a13 := a2.trans a3
        refine done a13 (pool_ne (hp4.same a2) nP3) upd_same (fun w hw => ?_) ?_
        · rcases List.mem_append.mp hw with h | h
          · exact (allS w h).same a13
          · rw [List.mem_singleton.mp h]
            exact (allS v mv).same a13
        · rw [List.length_append]
          show _ + 1 ≤ 102
          omega
      refine ⟨_, rfl, R, _, rfl, SqL.of eR4, fun u5 G5 s5 nu5 pu5 => ?_⟩
      have y1 : Th p G5 (.ref u5) 4 105000 := (th_tup (k := 100) (.inl pu5) (fun v hv => (allS v hv).same s5) (by omega)).up (by decide) (by decide)
      refine ⟨(by show 0 ≤ sizeLine; decide), fun l6 nl6 => ?_⟩
      have s6 := same_upd (o := .lst []) nl6
      have e6 : l6 ≠ p := pool_ne (hp4.same s5) nl6
      have y2 : Th p (upd G5 l6 (.lst [])) (.ref l6) 4 105000 := (th_lst (n := 0) (m := 0) (k := 0) e6 upd_same all_nil (Nat.le_refl _)).up (by decide) (by decide)
      refine fun d7 nd7 => ?_
      have s7 := same_upd (o := .dK []) nd7
      have s57 := s5.trans (s6.trans s7)
      refine ⟨_, rfl, R, vs, rfl, SqL.of (s57 _ _ eR4), fun l8 nl8 => ?_⟩
      have s8 := same_upd (o := .lst vs.reverse) nl8
      have s58 := s57.trans s8
      have e8 : l8 ≠ p := pool_ne (hp4.same s57) nl8
      have y8 : Th p (upd (upd (upd G5 l6 (.lst [])) d7 (.dK [])) l8 (.lst vs.reverse)) (.ref l8) 4 105000 := (th_lst (k := 100) e8 upd_same (fun v hv => (allS v (List.mem_reverse.mp hv)).same s58) (by rw [List.length_reverse]; omega)).up (by decide) (by decide)
      have yR : Th p (upd (upd (upd G5 l6 (.lst [])) d7 (.dK [])) l8 (.lst vs.reverse)) (.ref R) 4 102000 := (th_lst (k := 100) eR (s58 _ _ eR4) (fun v hv => (allS v hv).same s58) (by omega)).up (by decide) (by decide)
      refine ⟨_, rfl, (by show 1 ≤ sizeLine; decide), fun l9 nl9 => ?_⟩
      have s9 := same_upd (o := .lst [V.ref R]) nl9
      have e9 : l9 ≠ p := pool_ne (hp4.same s58) nl9
      have y9 := th_lst (k := 1) e9 (upd_same (H := upd (upd (upd G5 l6 (.lst [])) d7 (.dK [])) l8 (.lst vs.reverse)) (o := .lst [V.ref R])) (all_cons (yR.same s9) all_nil) (by simp)
      refine ⟨(by show 8 ≤ sizeLine; decide), fun l10 nl10 => ?_⟩
      have s10 := same_upd (o := .lst [V.non, V.ref u5, V.ref l6, V.ref d7, V.str "run", V.int 0, V.ref l8, V.ref l9]) nl10
      have s510 := s58.trans (s9.trans s10)
      refine ⟨_, rfl, p, 8, rfl, hp4.same s510, by decide, by decide, fun r5 o5 r50 r51 po5 => ?_⟩
      have hpe := hp4.same s510
      have kz5 := Kept.upd p (upd (upd (upd (upd (upd G5 l6 (.lst [])) d7 (.dK [])) l8 (.lst vs.reverse)) l9 (.lst [V.ref R])) l10 (.lst [V.non, V.ref u5, V.ref l6, V.ref d7, V.str "run", V.int 0, V.ref l8, V.ref l9])) o5
      have kp5 := Keeps.of kz5 hpe
      have e10 : l10 ≠ p := pool_ne (hp4.same (s58.trans s9)) nl10
      obtain ⟨v, ev, mv⟩ := get_at (xs := [V.non, V.ref u5, V.ref l6, V.ref d7, V.str "run", V.int 0, V.ref l8, V.ref l9]) r50 r51
      refine ⟨l10, _, r5, v, rfl, rfl, SqL.of (kz5 _ _ upd_same e10), ev, q v _ ((kD.trans (Kept.same s510)).trans kz5) ⟨o5, upd_same, po5⟩ ?_⟩
      refine all_cons (P := fun v => ThR p _ v) (Th.non.r (by decide) (by decide)) (all_cons (((y1.same (s6.trans (s7.trans (s8.trans (s9.trans s10))))).keep kp5).r (by decide) (by decide)) (all_cons (((y2.same (s7.trans (s8.trans (s9.trans s10)))).keep kp5).r (by decide) (by decide)) (all_cons ?_ (all_cons (sh_run.r (by decide) (by decide)) (all_cons ((Th.int (by decide) (by decide)).r (by decide) (by decide)) (all_cons (((y8.same (s9.trans s10)).keep kp5).r (by decide) (by decide)) (all_cons (((y9.same s10).keep kp5).r (by decide) (by decide)) all_nil))))))) v mv
      have ed : (upd (upd G5 l6 (.lst [])) d7 (.dK [])) d7 = some (.dK []) := upd_same
      exact ⟨.dct, .dct (kp5.dk _ _ ((s8.trans (s9.trans s10)) _ _ ed)), Fz.dct.up (by decide) (by decide), .inr rfl⟩
end
end Su
/-! ### R5: what is told of refusals -/
namespace Su
open PySem PySem.Spec PyProof.Rows L2
/-- what the written part says of the errors -/
structure ErrR (K : PySem.W.Frag) (mg : Str → Option Value) (CR CH CT CW : Addr) : Prop where
  he : mg "HandError" = some (.ref CH)
  ex : PySem.W.exmOne K (.ref CR) (.ref CH) = some true
  nr : mg "NoRun" = some (.ref CR)
  nt : mg "NoText" = some (.ref CT)
  nw : mg "NoWeb" = some (.ref CW)
  ve : mg "ValueError" = none
  x : ExcT K CR
  nof : PySem.W.findIn K (.ref CR) "number" = some none
  iw : PySem.W.kitOne K (.ref CR) (.ref CR) = some true
  iv : PySem.W.kitOne K (.ref CR) (.type "ValueError") = some true
  io : PySem.W.kitAny K (.ref CR) [.ref CT, .ref CW] = some false
  xw : ExcT K CW
  nofw : PySem.W.findIn K (.ref CW) "row" = some none
  exw : PySem.W.exmOne K (.ref CW) (.ref CW) = some true
def spRef : Sp := fun vs H Q _ => ∃ (p W : Addr) (v : V) (rs : List Rw) (g : G) (r : Option Nat), vs = [.ref W, v] ∧ W ≠ p ∧ WebAt H W rs ∧ WebOk rs ∧ Tg p H v g ∧ runG rs g = some r ∧ ∀ H', Same H H' → Q (rowV r) H'
def rowX : Option Nat → Str
  | none => "None"
  | some i => toString (i : Int)
def spNoWeb : Sp := fun vs H Q _ => ∃ (p : Addr) (vw vr : V) (gw gr : G) (r : Option Nat), vs = [vw, vr] ∧ Tg p H vw gw ∧ Tg p H vr gr ∧ lookG gw = some r ∧ (∀ i, r = some i → i < 80) ∧ ∀ (u : Addr) (H' : Hp), Same H H' → H u = none → H' u = some (.lst [.str (rowX r), .str (rowX r), .str (rowX r)]) → Q (.ref u) H'
theorem log_lt {i : Nat} (h : i < 80) : (i : Int).natAbs.log2 < 1920 := by
  by_cases z : (i : Int).natAbs = 0
  · rw [z]
    decide
  · exact Nat.lt_of_lt_of_le ((Nat.log2_lt z).mpr (by show _ < 2 ^ 10; omega)) (by decide)
theorem sc_law_refused : FnScope ["_law_web_here", "_law_thing", "_law_error", "e"] ["_law_web_here", "_law_thing"] (defScope s_law_refused) := ⟨rfl, rfl, rfl, by decide +kernel, rfl, by decide +kernel, by decide +kernel⟩
theorem sc_law_no_web : FnScope ["_law_web_here", "_law_run_here", "_law_found", "_law_door", "e"] ["_law_web_here", "_law_run_here"] (defScope s_law_no_web) := ⟨rfl, rfl, rfl, by decide +kernel, rfl, by decide +kernel, by decide +kernel⟩
section
variable {P : Program} {w : World} {K : PySem.W.Frag} {mg : Str → Option Value} {base : Heap}
theorem use_shelf0 {C CN : Addr} {H : Hp} {Q : VK} {E : XK} {x dx : Addr} (nx : H x = none) (ndx : H dx = none) (ne : dx ≠ x) (q : ∀ H' : Hp, Same H H' → Q .non H') : spInit C CN [.ref x, .int 4, .str "last", .non, .non] (upd (upd H dx (.own x)) x (.ins C dx [])) Q E := by
  have nx1 : (upd H dx (.own x)) x = none := by
    rw [upd_ne (Ne.symm ne)]
    exact nx
  have s0 : Same H (upd (upd H dx (.own x)) x (.ins C dx [])) := (same_upd ndx).trans (same_upd nx1)
  have hp : partG (.int 4) (.str "last") .non .non = none := by decide +kernel
  refine ⟨0, x, dx, .int 4, .str "last", .non, .non, .int 4, .str "last", .non, .non, rfl, upd_same, .int 4, .str "last", .non, .non, trivial, trivial, fun _ a b H' kp hx ta tb => ?_, fun s e => absurd (hp.symm.trans e) (fun z => by cases z)⟩
  exact q H' (fun c o e => kp c o (s0 _ _ e) (ne_of_none e nx))
theorem ok_refused {C CN CR CH CT CW : Addr} (ES : ErrR K mg CR CH CT CW) (T : At K mg "_law_refused" s_law_refused ["_law_web_here", "_law_thing"]) (B : Bt mg) (c_Shelf : MakS P w K mg base 6 C (spInit C CN)) (c_along : CalX P w K mg base 6 "along" ["web", "run", "shelf"] (spAlong CW CR)) : Cal P w K mg base 8 "_law_refused" ["_law_web_here", "_law_thing"] spRef := by
  refine cal_of T sc_law_refused (fun vs H Q E h => ?_) (fun f cdv A outer s H vs Q E hr h => ?_)
  · obtain ⟨p, W, v, rs, g, r, rfl, _⟩ := h
    rfl
  · obtain ⟨p, W, v, rs, g, r, rfl, eW, hW, ok, hv, hrun, q⟩ := h
    have hHE := ES.he
    refine ⟨_, (pss_cons (ps_set (i := 2) sc_law_refused.nd rfl (Or.inl rfl) pe_non)
      (pss_cons (ps_try_keep (i := 3) (Wo := fun _ _ _ _ => False) rfl rfl rfl sc_law_refused.nd rfl rfl ⟨rfl, by decide, Or.inl hHE⟩ takes0 (fun W pn xe tk _ => (pss_one (ps_expr (pe_ownX tk c_along hr (by decide) (by rfl) (pa_cons (pv 0) (pa_cons (pv 1) (pa_cons (pe_shelf0 c_Shelf hr (by decide) (by rfl)) pa_nil))))))) (fun a oe pn => (pss_one (ps_set (i := 2) sc_law_refused.nd rfl (Or.inl rfl) (pv 3)))))
      (pss_cons (ps_if (PW.pt (pw_or (pt_not (pt_val (pe_callB call_isiE (by rfl) B.isinstance (by decide +kernel) (pa_cons (pv 2) (pa_cons (pe_glob (v := .ref CR) (by rfl) ES.nr rfl) pa_nil))))) (pw_or (pt_not (pt_val (pe_callB call_isiE (by rfl) B.isinstance (by decide +kernel) (pa_cons (pv 2) (pa_cons (pe_bltn (v := .ty "ValueError") (u := .type "ValueError") (by rfl) ES.ve (by decide +kernel) rfl) pa_nil))))) (pw_or1 (pt_val (pe_callB call_isiET (by rfl) B.isinstance (by decide +kernel) (pa_cons (pv 2) (pa_cons (pe_tupF (pa_cons (pe_glob (v := .ref CT) (by rfl) ES.nt rfl) (pa_cons (pe_glob (v := .ref CW) (by rfl) ES.nw rfl) pa_nil))) pa_nil)))))))) (pss_one (ps_ret pe_str)) pss_nil)
      (pss_one (ps_ret (pe_xfld (pv 2))))))), ?_⟩
    refine ⟨_, rfl, _, rfl, fun x dx nx ndx ne => use_shelf0 nx ndx ne fun H0 s0 => ⟨rfl, ?_⟩⟩
    refine ⟨p, .ref W, v, .ref x, g, rfl, hv.keep (Keeps.same s0), .inr ⟨W, rs, r, rfl, eW, hW.same s0, ok, hrun, fun H1 d s1 nd hd => ?_⟩⟩
    refine ⟨true, ES.ex, fun _ a na => ?_, fun z => by cases z⟩
    have da : d ≠ a := ne_of_none hd na
    have ha : (upd H1 a (exK a (.ref CR) (some d))) a = some (exK a (.ref CR) (some d)) := upd_same
    have hd2 : (upd H1 a (exK a (.ref CR) (some d))) d = some (.xd [("number", rowV r)]) := by
      rw [upd_ne da]
      exact hd
    have xd : ∀ {H3 : Hp}, Same (upd H1 a (exK a (.ref CR) (some d))) H3 → XdAt H3 (some d) := fun s3 dd ed => by
      cases ed
      exact ⟨_, s3 _ _ hd2⟩
    refine ⟨_, rfl, ?_⟩
    refine ⟨_, rfl, a, CR, some d, .ref CR, .ref CR, true, rfl, .own CR, ES.x, ha, xd (Same.refl _), ES.iw, _, rfl, iteF ?_⟩
    refine ⟨_, rfl, a, CR, some d, .ty "ValueError", .type "ValueError", true, rfl, .ty "ValueError", ES.x, ha, xd (Same.refl _), ES.iv, _, rfl, iteF ?_⟩
    refine ⟨_, rfl, (by show 2 ≤ sizeLine; decide), fun tp H3 s3 ntp htp => ?_⟩
    refine ⟨a, CR, tp, some d, [.ref CT, .ref CW], [.ref CT, .ref CW], false, rfl, .inl htp, .cons (.own CT) (.cons (.own CW) .nil), ES.x, s3 _ _ ha, xd s3, ES.io, _, rfl, iteF ?_⟩
    exact ⟨_, rfl, a, CR, d, _, rowV r, rfl, ES.x, ES.nof, s3 _ _ ha, s3 _ _ hd2, (by simp [List.lookup]), q _ ((s0.trans s1).trans ((same_upd na).trans s3))⟩
theorem ok_noweb {C CN CR CH CT CW : Addr} (ES : ErrR K mg CR CH CT CW) (T : At K mg "_law_no_web" s_law_no_web ["_law_web_here", "_law_run_here"]) (B : Bt mg) (c_Shelf : MakS P w K mg base 6 C (spInit C CN)) (c_is_run : CalX P w K mg base 6 "is_run" ["web", "thing"] (spIsRun CW)) (c_along : CalX P w K mg base 6 "along" ["web", "run", "shelf"] (spAlong CW CR)) : Cal P w K mg base 8 "_law_no_web" ["_law_web_here", "_law_run_here"] spNoWeb := by
  refine cal_of T sc_law_no_web (fun vs H Q E h => ?_) (fun f cdv A outer s H vs Q E hr h => ?_)
  · obtain ⟨p, vw, vr, gw, gr, r, rfl, _⟩ := h
    rfl
  · obtain ⟨p, vw, vr, gw, gr, r, rfl, hw, hv, lk, r80, q⟩ := h
    have hNW := ES.nw
    refine ⟨_, (pss_cons (ps_set (i := 2) sc_law_no_web.nd rfl (Or.inl rfl) (pe_lst pa_nil))
      (pss_cons (ps_for PassesOwn.never rfl (pi_range1 (by rfl) B.range (pa_cons pe_int pa_nil)) (pg_name (i := 3) sc_law_no_web.nd rfl (Or.inl rfl)) (pss_one (ps_try_in (i := 4) (Wo := fun _ _ _ _ => False) rfl rfl rfl sc_law_no_web.nd rfl rfl ⟨rfl, by decide, Or.inl hNW⟩ takes0 (fun W pn xe tk _ => (pss_one (ps_if (pt_cmpR op_eq (pv 3) pe_int (nomark _)) (pss_one (ps_expr (pe_ownX tk c_is_run hr (by decide) (by rfl) (pa_cons (pv 0) (pa_cons (pv 1) pa_nil))))) (pss_one (ps_expr (pe_ownX tk c_along hr (by decide) (by rfl) (pa_cons (pv 0) (pa_cons (pe_ix (show IxR _ (rIxL K) from ix_list) (pe_lst (pa_cons (pv 1) (pa_cons pe_non pa_nil))) (pe_op op_sub (pv 3) pe_int) (fun _ _ => rfl)) (pa_cons (pe_shelf0 c_Shelf hr (by decide) (by rfl)) pa_nil))))))))) (fun a pn => (pss_one (ps_expr (pe_bm PySem.F.plainAttrs_list PySem.F.slot_list_append PySem.F.type_list_append mt_append (pv 2) (pa_cons (pe_callB call_reprS (by rfl) B.repr (by decide +kernel) (pa_cons (pe_xfld (pv 4)) pa_nil)) pa_nil))))))))
      (pss_one (ps_ret (pv 2))))), ?_⟩
    refine ⟨(by show 0 ≤ sizeLine; decide), fun u nu => ?_⟩
    refine ⟨3, rfl, by decide, by decide, ?_⟩
    have su := same_upd (o := .lst []) nu
    refine for_range (lo := 0) (n := 3) (fun j σ H2 => ∃ y3 : Option V, σ = [some vw, some vr, some (.ref u), y3, none] ∧ Same H H2 ∧ H2 u = some (.lst (List.replicate j (.str (rowX r))))) ?_ ?_ ?_
    · exact ⟨none, rfl, su, upd_same⟩
    · rintro j σ H2 hj ⟨y3, rfl, s2, hu2⟩
      have fin : ∀ (y3 : Option V) (H3 : Hp) (d a : Addr), Same H2 H3 → H3 d = some (.xd [("row", rowV r)]) → H3 a = none → ∃ y3' : Option V, [some vw, some vr, some (V.ref u), y3, none] = [some vw, some vr, some (.ref u), y3', none] ∧ Same H (upd (upd H3 a (exK a (.ref CW) (some d))) u (.lst (List.replicate j (.str (rowX r)) ++ [.str (rowX r)]))) ∧ (upd (upd H3 a (exK a (.ref CW) (some d))) u (.lst (List.replicate j (.str (rowX r)) ++ [.str (rowX r)]))) u = some (.lst (List.replicate (j + 1) (.str (rowX r)))) := fun y3 H3 d a s3 hd na => by
        refine ⟨_, rfl, fun c o e => ?_, ?_⟩
        · rw [upd_ne (ne_of_none e nu)]
          exact (same_upd na) _ _ (s3 _ _ (s2 _ _ e))
        · rw [upd_same, List.replicate_succ']
      have lenj : (List.replicate j (V.str (rowX r))).length < sizeLine := by
        rw [List.length_replicate]
        exact small1000 (by omega)
      refine ⟨_, rfl, rfl, _, rfl, iteB (fun z => ?_) (fun z => ?_)⟩
      · refine ⟨_, rfl, _, rfl, p, vw, vr, gr, rfl, hv.keep (Keeps.same s2), .inl ⟨gw, r, hw.keep (Keeps.same s2), lk, fun H3 d s3 nd hd => ?_⟩⟩
        refine ⟨true, ES.exw, fun _ a pn na => ?_, fun z => by cases z⟩
        have da : d ≠ a := ne_of_none hd na
        have ha : (upd H3 a (exK a (.ref CW) (some d))) a = some (exK a (.ref CW) (some d)) := upd_same
        have hd2 : (upd H3 a (exK a (.ref CW) (some d))) d = some (.xd [("row", rowV r)]) := by
          rw [upd_ne da]
          exact hd
        have hu3 := (same_upd (o := exK a (.ref CW) (some d)) na) _ _ (s3 _ _ hu2)
        refine ⟨_, rfl, .inl ⟨rfl, _, SqL.of hu3⟩, _, rfl, a, CW, d, _, rowV r, rfl, ES.xw, ES.nofw, ha, hd2, (by simp [List.lookup]), ?_⟩
        have z1 := fin (some (.int (0 + (j : Int)))) H3 d a s3 hd na
        cases r with
        | none => exact .inl ⟨rfl, u, _, _, rfl, rfl, hu3, lenj, z1⟩
        | some i => exact .inr (.inr ⟨(i : Int), rfl, log_lt (r80 i rfl), u, _, _, rfl, rfl, hu3, lenj, z1⟩)
      · have hj0 : j ≠ 0 := fun e => by
          rw [e] at z
          exact absurd z (by decide)
        refine ⟨_, rfl, _, rfl, (by show 2 ≤ sizeLine; decide), fun L nL => ?_⟩
        have sL := same_upd (o := .lst [vr, V.non]) nL
        obtain ⟨v, gv, ev, tv⟩ : ∃ v gv, atI [vr, V.non] (0 + (j : Int) - 1) = some v ∧ Tg p (upd H2 L (.lst [vr, V.non])) v gv := by
          match j, hj, hj0 with
          | 1, _, _ => exact ⟨vr, gr, rfl, (hv.keep (Keeps.same s2)).keep (Keeps.same sL)⟩
          | 2, _, _ => exact ⟨.non, .non, rfl, .non⟩
        refine ⟨_, rfl, _, _, rfl, rfl, L, _, _, v, rfl, rfl, SqL.of upd_same, ev, fun x dx nx ndx ne => use_shelf0 nx ndx ne fun H0 s0 => ⟨rfl, ?_⟩⟩
        have s20 := sL.trans s0
        refine ⟨p, vw, v, .ref x, gv, rfl, tv.keep (Keeps.same s0), .inl ⟨gw, r, (hw.keep (Keeps.same s2)).keep (Keeps.same s20), lk, fun H3 d s3 nd hd => ?_⟩⟩
        have s23 := s20.trans s3
        refine ⟨true, ES.exw, fun _ a pn na => ?_, fun z => by cases z⟩
        have da : d ≠ a := ne_of_none hd na
        have ha : (upd H3 a (exK a (.ref CW) (some d))) a = some (exK a (.ref CW) (some d)) := upd_same
        have hd2 : (upd H3 a (exK a (.ref CW) (some d))) d = some (.xd [("row", rowV r)]) := by
          rw [upd_ne da]
          exact hd
        have hu3 := (same_upd (o := exK a (.ref CW) (some d)) na) _ _ (s23 _ _ hu2)
        refine ⟨_, rfl, .inl ⟨rfl, _, SqL.of hu3⟩, _, rfl, a, CW, d, _, rowV r, rfl, ES.xw, ES.nofw, ha, hd2, (by simp [List.lookup]), ?_⟩
        have z1 := fin (some (.int (0 + (j : Int)))) H3 d a s23 hd na
        cases r with
        | none => exact .inl ⟨rfl, u, _, _, rfl, rfl, hu3, lenj, z1⟩
        | some i => exact .inr (.inr ⟨(i : Int), rfl, log_lt (r80 i rfl), u, _, _, rfl, rfl, hu3, lenj, z1⟩)
    · rintro σ H2 ⟨y3, rfl, s2, hu2⟩
      exact ⟨_, rfl, q u H2 s2 nu hu2⟩
end
end Su
/-! ### R6: bad webs, a ring, a loop -/
namespace Su
open PySem PySem.Spec PyProof.Rows L2
theorem apart : ∀ l : List Addr, ∃ p : Addr, ∀ a ∈ l, a < p
  | [] => ⟨0, fun a h => (List.not_mem_nil h).elim⟩
  | b :: l => by
    obtain ⟨p, h⟩ := apart l
    refine ⟨p + b + 1, fun a ha => ?_⟩
    rcases List.mem_cons.mp ha with rfl | ha
    · exact Nat.lt_succ_of_le (Nat.le_add_left _ _)
    · exact Nat.lt_of_lt_of_le (h a ha) (Nat.le_trans (Nat.le_add_right _ _) (Nat.le_succ _))
def dueX : List Str := ["None", "None", "None", "0", "0", "None", "1"]
theorem dp_threes {K : PySem.W.Frag} {H : Hp} : ∀ {us : List V} {xs : List Str}, us.length = xs.length → (∀ (i : Nat) (v : V) (x : Str), us[i]? = some v → xs[i]? = some x → ∃ u : Addr, v = .ref u ∧ H u = some (.lst [.str x, .str x, .str x])) → DpAll K H us (xs.map fun x => PyData.list [.str x, .str x, .str x])
  | [], [], _, _ => .nil
  | v :: us, x :: xs, l, h => by
    obtain ⟨u, rfl, e⟩ := h 0 v x rfl rfl
    exact .cons (.lst (SqL.of e) (.cons (.str x) (.cons (.str x) (.cons (.str x) .nil)))) (dp_threes (by simpa using l) fun i v x e1 e2 => h (i + 1) v x e1 e2)
  | [], _ :: _, l, _ => by cases l
  | _ :: _, [], l, _ => by cases l
def dueD : PyData := .list (dueX.map fun x => PyData.list [.str x, .str x, .str x])
theorem due_ok : SeqAt.shaped dueD = true ∧ PyData.eqv dueD dueD = true := by decide +kernel
def ringR : List Rw := (List.range 80).map fun i => ([((i % 12 : Nat) : Int)], [(((i + 1) % 80 : Nat) : Int)])
theorem ris_one {lo hi k : Int} (h1 : lo ≤ k) (h2 : k ≤ hi) : Ris lo hi [k] := ⟨List.pairwise_singleton _ _, fun x hx => by rw [List.mem_singleton.mp hx]; exact h1, fun x hx => by rw [List.mem_singleton.mp hx]; exact h2⟩
theorem ring_ok : WebOk ringR := by
  have len : ringR.length = 80 := rfl
  refine ⟨by rw [len]; decide, by rw [len]; decide, fun r hr => ?_, ⟨(List.range 12).map fun i => ((i : Nat) : Int), by decide, fun k hk => ?_⟩⟩
  · obtain ⟨i, hi, rfl⟩ := List.mem_map.mp hr
    rw [len]
    exact ⟨ris_one (by omega) (by omega), by show 1 ≤ 6; decide, ris_one (by omega) (by omega)⟩
  · unfold allRooms ringR at hk
    obtain ⟨l, hl, hkl⟩ := List.mem_flatten.mp hk
    obtain ⟨r, hr, rfl⟩ := List.mem_map.mp hl
    obtain ⟨i, hi, rfl⟩ := List.mem_map.mp hr
    rw [List.mem_singleton.mp hkl]
    exact List.mem_map.mpr ⟨i % 12, List.mem_range.mpr (by omega), rfl⟩
def ringG : List G := (List.range 80).map fun i => .tup [.int (i : Nat), .int ((i % 12 : Nat) : Int)]
theorem ring_run : runG ringR (.lst (ringG ++ ringG)) = none := by decide +kernel
def loopR (k : Int) : List Rw := [([k], [0])]
theorem loop_ok {k : Int} (h0 : 0 ≤ k) (h1 : k ≤ 99) : WebOk (loopR k) := by
  refine ⟨by show 1 ≤ 1; decide, by show 1 ≤ 80; decide, fun r hr => ?_, ⟨[k], by show 1 ≤ 12; decide, fun x hx => by simpa [loopR, allRooms] using hx⟩⟩
  rw [List.mem_singleton.mp hr]
  exact ⟨ris_one h0 h1, by show 1 ≤ 6; decide, ris_one (by decide) (by show (0 : Int) ≤ ((1 : Nat) : Int) - 1; decide)⟩
def rows13 (n : Nat) : List Rw := (List.range n).map fun k => ([((k : Nat) : Int)], [])
theorem look13 : lookG (.lst ((rows13 13).map rowT)) = some none := by decide +kernel
theorem rows13_snoc (n : Nat) : rows13 (n + 1) = rows13 n ++ [([((n : Nat) : Int)], [])] := by
  unfold rows13
  rw [List.range_succ, List.map_append]
  rfl
/-- a tuple of tuples of numbers, as a thing -/
theorem tg_row2 {p : Addr} {H : Hp} {t a b : Addr} {xs ys : List Int} (pt : PTup H t [.ref a, .ref b]) (pa : PTup H a (xs.map V.int)) (pb : PTup H b (ys.map V.int)) : Tg p H (.ref t) (.tup [.tup (xs.map G.int), .tup (ys.map G.int)]) :=
  .tup (.inl pt) (.cons (.tup (.inl pa) (TgL.ints xs)) (.cons (.tup (.inl pb) (TgL.ints ys)) .nil))
def optG : Option Int → G
  | none => .non
  | some i => .int i
def stepT (s : Stp) : G := .tup [.int (s.1 : Nat), optG s.2]
theorem tg_steps {p : Addr} {H : Hp} : ∀ {vs : List V} {ss : List Stp}, StepsAt H vs ss → TgL p H vs (ss.map stepT)
  | [], [], _ => .nil
  | _ :: _, (i, o) :: _, h => by
    obtain ⟨t, rfl, pt⟩ := h.1
    refine .cons (.tup (.inl pt) (.cons (.int _) (.cons ?_ .nil))) (tg_steps h.2)
    cases o with
    | none => exact .non
    | some k => exact .int k
  | [], _ :: _, h => h.elim
  | _ :: _, [], h => h.elim
def ringTo (n : Nat) : List Rw := (List.range n).map fun i => ([((i % 12 : Nat) : Int)], [(((i + 1) % 80 : Nat) : Int)])
def stepsTo (n : Nat) : List Stp := (List.range n).map fun i => (i, some ((i % 12 : Nat) : Int))
theorem ringTo_snoc (n : Nat) : ringTo (n + 1) = ringTo n ++ [([((n % 12 : Nat) : Int)], [(((n + 1) % 80 : Nat) : Int)])] := by
  unfold ringTo
  rw [List.range_succ, List.map_append]
  rfl
theorem stepsTo_snoc (n : Nat) : stepsTo (n + 1) = stepsTo n ++ [(n, some ((n % 12 : Nat) : Int))] := by
  unfold stepsTo
  rw [List.range_succ, List.map_append]
  rfl
theorem steps_ringG : (stepsTo 80).map stepT = ringG := by
  unfold stepsTo ringG
  rw [List.map_map]
  rfl
def spDoors : Sp := fun vs H Q _ => ∃ (R t : Addr), vs = [.ref R] ∧ H R = some (.lst [.ref t]) ∧ T2 H t [.int 0, .int 1] ∧ ∀ H', Same H H' → Q (.bl true) H'
theorem sc_law_doors : FnScope ["_law_run_here", "_law_bad", "_law_due", "_law_ring", "_law_loop", "_law_row", "_law_k", "_law_web_here"] ["_law_run_here"] (defScope s_law_doors) := ⟨rfl, rfl, rfl, by decide +kernel, rfl, by decide +kernel, by decide +kernel⟩
section
variable {P : Program} {w : World} {K : PySem.W.Frag} {mg : Str → Option Value} {base : Heap}
theorem ok_doors {CW : Addr} (T : At K mg "_law_doors" s_law_doors ["_law_run_here"]) (B : Bt mg) (c_no_web : Cal P w K mg base 8 "_law_no_web" ["_law_web_here", "_law_run_here"] spNoWeb) (c_is_run : CalX P w K mg base 6 "is_run" ["web", "thing"] (spIsRun CW)) : Cal P w K mg base 9 "_law_doors" ["_law_run_here"] spDoors := by
  refine cal_of T sc_law_doors (fun vs H Q E h => ?_) (fun f cdv A outer s H vs Q E hr h => ?_)
  · obtain ⟨R, t, rfl, _⟩ := h
    rfl
  · obtain ⟨R, t, rfl, hR, ht, q⟩ := h
    refine ⟨_, (pss_cons (ps_set (i := 1) sc_law_doors.nd rfl (Or.inl rfl) (pe_lst (pa_cons pe_non (pa_cons (pe_lst pa_nil) (pa_cons pe_dnewK (pa_cons (pe_lst (pa_cons (pe_tupF (pa_cons (pe_tupF (pa_cons pe_int (pa_cons pe_int pa_nil))) (pa_cons (pe_tupF pa_nil) pa_nil))) pa_nil)) (pa_cons (pe_lst (pa_cons (pe_tupF (pa_cons (pe_tupF (pa_cons pe_int pa_nil)) (pa_cons (pe_tupF (pa_cons pe_int pa_nil)) pa_nil))) pa_nil)) (pa_cons (pe_lc (own := [("_law_k", 6)]) (g := (gName 6)) (tt := tYes) (te := (tTupF (tCons (tTupF (tCons (tVar 6) tNil)) (tCons (tTupF tNil) tNil)))) (by rfl) sc_law_doors.nd (pi_range1 (by rfl) B.range (pa_cons pe_int pa_nil)) (blkOk_by (own := [("_law_k", 6)]) (N := ["_law_run_here", "_law_bad", "_law_due", "_law_ring", "_law_loop", "_law_row", "_law_k", "_law_web_here"]) (sc := defScope s_law_doors) (by decide +kernel)) (fun _ _ _ _ _ => (pg_name (i := 6) sc_law_doors.nd rfl (Or.inl rfl))) (fun _ _ _ _ _ => pts_nil) (fun _ _ _ _ _ => (pe_tupF (pa_cons (pe_tupF (pa_cons (pv 6) pa_nil)) (pa_cons (pe_tupF pa_nil) pa_nil))))) (pa_cons (pe_lst (pa_cons (pe_tupF (pa_cons (pe_tupF (pa_cons pe_int pa_nil)) (pa_cons (pe_tupF (pa_cons pe_int pa_nil)) pa_nil))) (pa_cons pe_non pa_nil))) pa_nil)))))))))
      (pss_cons (ps_set (i := 2) sc_law_doors.nd rfl (Or.inl rfl) (pe_lst (pa_cons pe_str (pa_cons pe_str (pa_cons pe_str (pa_cons pe_str (pa_cons pe_str (pa_cons pe_str (pa_cons pe_str pa_nil)))))))))
      (pss_cons (ps_if (pt_cmpR (op_neD hr.units) (pe_lc (own := [("_law_web_here", 7)]) (g := (gName 7)) (tt := tYes) (te := (tCall spNoWeb [] E0 (tCons (tVar 7) (tCons (tVar 0) tNil)))) (by rfl) sc_law_doors.nd (pi_list (pv 1)) (blkOk_by (own := [("_law_web_here", 7)]) (N := ["_law_run_here", "_law_bad", "_law_due", "_law_ring", "_law_loop", "_law_row", "_law_k", "_law_web_here"]) (sc := defScope s_law_doors) (by decide +kernel)) (fun _ _ _ _ _ => (pg_name (i := 7) sc_law_doors.nd rfl (Or.inl rfl))) (fun _ _ _ _ _ => pts_nil) (fun _ _ _ _ _ => (pe_own c_no_web hr (by decide) (by rfl) (pa_cons (pv 7) (pa_cons (pv 0) pa_nil))))) (pe_lc (own := [("_law_row", 5)]) (g := (gName 5)) (tt := tYes) (te := (tOp rRep (tLst (tCons (tVar 5) tNil)) (tC (.int 3)))) (by rfl) sc_law_doors.nd (pi_list (pv 2)) (blkOk_by (own := [("_law_row", 5)]) (N := ["_law_run_here", "_law_bad", "_law_due", "_law_ring", "_law_loop", "_law_row", "_law_k", "_law_web_here"]) (sc := defScope s_law_doors) (by decide +kernel)) (fun _ _ _ _ _ => (pg_name (i := 5) sc_law_doors.nd rfl (Or.inl rfl))) (fun _ _ _ _ _ => pts_nil) (fun _ _ _ _ _ => (pe_op op_rep (pe_lst (pa_cons (pv 5) pa_nil)) pe_int))) (nomark _)) (pss_one (ps_ret pe_bl)) pss_nil)
      (pss_cons (ps_setLc (i := 3) (own := [("_law_row", 5)]) (g := (gName 5)) (tt := tYes) (te := (tTupF (tCons (tTupF (tCons (tOp (rI (fun x j => 0 < j) fun i j => V.int (i % j)) (tVar 5) (tC (.int 12))) tNil)) (tCons (tTupF (tCons (tOp (rI (fun x j => 0 < j) fun i j => V.int (i % j)) (tOp (rI0 fun i j => .int (i + j)) (tVar 5) (tC (.int 1))) (tC (.int 80))) tNil)) tNil)))) (by rfl) sc_law_doors.nd rfl rfl (sw_true rfl rfl rfl (by decide +kernel)) (pi_range1 (by rfl) B.range (pa_cons pe_int pa_nil)) (blkOk_by (own := [("_law_row", 5)]) (N := ["_law_run_here", "_law_bad", "_law_due", "_law_ring", "_law_loop", "_law_row", "_law_k", "_law_web_here"]) (sc := defScope s_law_doors) (by decide +kernel)) (fun _ _ _ _ _ => (pg_name (i := 5) sc_law_doors.nd rfl (Or.inl rfl))) (fun _ _ _ _ _ => pts_nil) (fun _ _ _ _ _ => (pe_tupF (pa_cons (pe_tupF (pa_cons (pe_op op_mod (pv 5) pe_int) pa_nil)) (pa_cons (pe_tupF (pa_cons (pe_op op_mod (pe_op op_add (pv 5) pe_int) pe_int) pa_nil)) pa_nil)))))
      (pss_cons (ps_if (pt_cmpR op_isnot_bl (pe_ownX takes0 c_is_run hr (by decide) (by rfl) (pa_cons (pv 3) (pa_cons (pe_op op_rep (pe_lc (own := [("_law_row", 5)]) (g := (gName 5)) (tt := tYes) (te := (tTupF (tCons (tVar 5) (tCons (tOp (rI (fun x j => 0 < j) fun i j => V.int (i % j)) (tVar 5) (tC (.int 12))) tNil)))) (by rfl) sc_law_doors.nd (pi_range1 (by rfl) B.range (pa_cons pe_int pa_nil)) (blkOk_by (own := [("_law_row", 5)]) (N := ["_law_run_here", "_law_bad", "_law_due", "_law_ring", "_law_loop", "_law_row", "_law_k", "_law_web_here"]) (sc := defScope s_law_doors) (by decide +kernel)) (fun _ _ _ _ _ => (pg_name (i := 5) sc_law_doors.nd rfl (Or.inl rfl))) (fun _ _ _ _ _ => pts_nil) (fun _ _ _ _ _ => (pe_tupF (pa_cons (pv 5) (pa_cons (pe_op op_mod (pv 5) pe_int) pa_nil))))) pe_int) pa_nil))) pe_bl (nomark _)) (pss_one (ps_ret pe_bl)) pss_nil)
      (pss_cons (ps_set (i := 4) sc_law_doors.nd rfl (Or.inl rfl) (pe_lst (pa_cons (pe_tupF (pa_cons (pe_tupF (pa_cons pe_int pa_nil)) (pa_cons (pe_tupF (pa_cons pe_int pa_nil)) pa_nil))) pa_nil)))
      (pss_one (ps_ret (pe_cmpR (op_eqD hr.units) (pe_lst (pa_cons (pe_ownX takes0 c_is_run hr (by decide) (by rfl) (pa_cons (pv 4) (pa_cons (pe_lst (pa_cons (pe_tupF (pa_cons pe_int (pa_cons pe_bl pa_nil))) pa_nil)) pa_nil))) (pa_cons (pe_ownX takes0 c_is_run hr (by decide) (by rfl) (pa_cons (pv 4) (pa_cons (pe_lst (pa_cons (pe_tupF (pa_cons pe_bl (pa_cons pe_int pa_nil))) pa_nil)) pa_nil))) (pa_cons (pe_ownX takes0 c_is_run hr (by decide) (by rfl) (pa_cons (pv 4) (pa_cons (pe_op op_rep (pe_lst (pa_cons (pe_tupF (pa_cons pe_int (pa_cons pe_int pa_nil))) pa_nil)) pe_int) pa_nil))) pa_nil)))) (pe_lst (pa_cons pe_bl (pa_cons pe_bl (pa_cons pe_bl pa_nil)))) (nomark _)))))))))), ?_⟩
    refine ⟨(by show 0 ≤ sizeLine; decide), fun l2 n2 => ?_⟩
    have s1 := same_upd (o := .lst []) n2
    refine fun d3 n3 => ?_
    have s2 := same_upd (o := .dK []) n3
    refine ⟨(by show 2 ≤ sizeLine; decide), fun t1 A3 s3 nt1 pt1 => ?_⟩
    refine ⟨(by show 0 ≤ sizeLine; decide), fun t2 A4 s4 nt2 pt2 => ?_⟩
    refine ⟨(by show 2 ≤ sizeLine; decide), fun t3 A5 s5 nt3 pt3 => ?_⟩
    refine ⟨(by show 1 ≤ sizeLine; decide), fun l4 n4 => ?_⟩
    have s6 := same_upd (o := .lst [V.ref t3]) n4
    refine ⟨(by show 1 ≤ sizeLine; decide), fun t4 A7 s7 nt4 pt4 => ?_⟩
    refine ⟨(by show 1 ≤ sizeLine; decide), fun t5 A8 s8 nt5 pt5 => ?_⟩
    refine ⟨(by show 2 ≤ sizeLine; decide), fun t6 A9 s9 nt6 pt6 => ?_⟩
    refine ⟨(by show 1 ≤ sizeLine; decide), fun l5 n5 => ?_⟩
    have s10 := same_upd (o := .lst [V.ref t6]) n5
    refine ⟨13, rfl, by decide, by decide, fun D5 nD5 => ?_⟩
    refine lc_range (lo := 0) (n := 13) (fun j HH => ∃ vs, HH D5 = some (.lst vs) ∧ vs.length = j ∧ RowsAt HH vs (rows13 j) ∧ Same (upd A9 l5 (.lst [V.ref t6])) HH) ?_ ?_ ?_
    · exact ⟨[], upd_same, rfl, trivial, same_upd nD5⟩
    · rintro j HH hj ⟨vs, hD, lv, tl, sH⟩
      refine ⟨rfl, tyes ?_⟩
      refine ⟨_, rfl, (by show 1 ≤ sizeLine; decide), fun a1 H1 z1 na1 pa1 => ?_⟩
      refine ⟨(by show 0 ≤ sizeLine; decide), fun a2 H2 z2 na2 pa2 => ?_⟩
      refine ⟨(by show 2 ≤ sizeLine; decide), fun a3 H3 z3 na3 pa3 => ?_⟩
      have z13 := z1.trans (z2.trans z3)
      have hD3 := z13 _ _ hD
      have kl := KP.lst (o := .lst (vs ++ [V.ref a3])) hD3
      have k2 := K2.lst (u := .lst (vs ++ [V.ref a3])) hD3
      have pa1' : PTup H3 a1 [V.int (j : Nat)] := by
        have := pa1.same (z2.trans z3)
        rwa [Int.zero_add] at this
      refine ⟨vs, hD3, small1000 (by omega), vs ++ [V.ref a3], upd_same, by rw [List.length_append, lv]; rfl, ?_, fun c o e => ?_⟩
      · rw [rows13_snoc]
        exact ((tl.keep (K2.same z13)).keep k2).snoc ⟨a3, a1, a2, rfl, .inl (kl _ _ pa3), .inl (kl _ _ pa1'), .inl (kl _ _ (pa2.same z3))⟩
      · rw [upd_ne (ne_of_none e nD5)]
        exact z13 _ _ (sH _ _ e)
    rintro A12 ⟨vs13, hD5, lv13, tl13, s12⟩
    refine ⟨(by show 1 ≤ sizeLine; decide), fun t7 A13 s13 nt7 pt7 => ?_⟩
    refine ⟨(by show 1 ≤ sizeLine; decide), fun t8 A14 s14 nt8 pt8 => ?_⟩
    refine ⟨(by show 2 ≤ sizeLine; decide), fun t9 A15 s15 nt9 pt9 => ?_⟩
    refine ⟨(by show 2 ≤ sizeLine; decide), fun l7 n7 => ?_⟩
    have s16 := same_upd (o := .lst [V.ref t9, V.non]) n7
    refine ⟨(by show 7 ≤ sizeLine; decide), fun LB nLB => ?_⟩
    have s17 := same_upd (o := .lst [V.non, V.ref l2, V.ref d3, V.ref l4, V.ref l5, V.ref D5, V.ref l7]) nLB
    refine ⟨(by show 7 ≤ sizeLine; decide), fun LD nLD => ?_⟩
    have s18 := same_upd (o := .lst [V.str "None", V.str "None", V.str "None", V.str "0", V.str "0", V.str "None", V.str "1"]) nLD
    -- the ways to the heap behind
    have w17 := s17.trans s18
    have w16 := s16.trans w17
    have w15 := s15.trans w16
    have w14 := s14.trans w15
    have w13 := s13.trans w14
    have w12 := s12.trans w13
    have w10 := s10.trans w12
    have w9 := s9.trans w10
    have w8 := s8.trans w9
    have w7 := s7.trans w8
    have w6 := s6.trans w7
    have w5 := s5.trans w6
    have w4 := s4.trans w5
    have w3 := s3.trans w4
    have w2 := s2.trans w3
    have w1 := s1.trans w2
    obtain ⟨p, hp⟩ := apart [l2, l4, l5, D5, l7, R]
    have ne : ∀ a ∈ [l2, l4, l5, D5, l7, R], a ≠ p := fun a ha => Nat.ne_of_lt (hp a ha)
    have hLB := s18 _ _ (upd_same (H := upd A15 l7 (.lst [V.ref t9, V.non])) (a := LB) (o := .lst [V.non, V.ref l2, V.ref d3, V.ref l4, V.ref l5, V.ref D5, V.ref l7]))
    have hLD : (upd (upd (upd A15 l7 (.lst [V.ref t9, V.non])) LB (.lst [V.non, V.ref l2, V.ref d3, V.ref l4, V.ref l5, V.ref D5, V.ref l7])) LD (.lst [V.str "None", V.str "None", V.str "None", V.str "0", V.str "0", V.str "None", V.str "1"])) LD = some (.lst [V.str "None", V.str "None", V.str "None", V.str "0", V.str "0", V.str "None", V.str "1"]) := upd_same
    have y1 := w2 _ _ (upd_same (H := H) (a := l2) (o := .lst []))
    have y2 := w3 _ _ (upd_same (a := d3) (o := .dK []))
    have y3 := w7 _ _ (upd_same (H := A5) (a := l4) (o := .lst [V.ref t3]))
    have y4 := w12 _ _ (upd_same (H := A9) (a := l5) (o := .lst [V.ref t6]))
    have y5 := w13 _ _ hD5
    have y6 := w17 _ _ (upd_same (H := A15) (a := l7) (o := .lst [V.ref t9, V.non]))
    have r3 := tg_row2 (p := p) (xs := [3, 3]) (ys := []) (pt3.same w6) (pt1.same w4) (pt2.same w5)
    have r4 := tg_row2 (p := p) (xs := [1]) (ys := [1]) (pt6.same w10) (pt4.same w8) (pt5.same w9)
    have r5 := tg_rows (p := p) (tl13.keep (K2.same w13))
    have r6 := tg_row2 (p := p) (xs := [1]) (ys := [0]) (pt9.same w16) (pt7.same w14) (pt8.same w15)
    have hR' := w1 _ _ hR
    have ht' := ht.same w1
    generalize upd (upd (upd A15 l7 (.lst [V.ref t9, V.non])) LB (.lst [V.non, V.ref l2, V.ref d3, V.ref l4, V.ref l5, V.ref D5, V.ref l7])) LD (.lst [V.str "None", V.str "None", V.str "None", V.str "0", V.str "0", V.str "None", V.str "1"]) = HH at hLB hLD y1 y2 y3 y4 y5 y6 r3 r4 r5 r6 hR' ht' w1 ⊢
    clear w2 w3 w4 w5 w6 w7 w8 w9 w10 w12 w13 w14 w15 w16 w17 s1 s2 s3 s4 s5 s6 s7 s8 s9 s10 s12 s13 s14 s15 s16 s17 s18 pt1 pt2 pt3 pt4 pt5 pt6 pt7 pt8 pt9
    have no80 : ∀ {k : Nat} (i : Nat), (some k : Option Nat) = some i → k < 80 → i < 80 := fun i e h => by cases e; exact h
    have hbad : ∀ (i : Nat) (v : V) (x : Str), [V.non, V.ref l2, V.ref d3, V.ref l4, V.ref l5, V.ref D5, V.ref l7][i]? = some v → dueX[i]? = some x → ∃ (g : G) (r : Option Nat), Tg p HH v g ∧ lookG g = some r ∧ (∀ k, r = some k → k < 80) ∧ rowX r = x := by
      intro i v x e1 e2
      match i, e1, e2 with
      | 0, e1, e2 =>
        cases e1
        cases e2
        exact ⟨.non, none, .non, rfl, (fun k e => by cases e), rfl⟩
      | 1, e1, e2 =>
        cases e1
        cases e2
        exact ⟨.lst [], none, .lst (ne l2 (by simp)) y1 .nil, rfl, (fun k e => by cases e), rfl⟩
      | 2, e1, e2 =>
        cases e1
        cases e2
        exact ⟨.dct, none, .dct y2, rfl, (fun k e => by cases e), rfl⟩
      | 3, e1, e2 =>
        cases e1
        cases e2
        exact ⟨_, some 0, .lst (ne l4 (by simp)) y3 (.cons r3 .nil), by decide +kernel, fun k e => no80 k e (by decide), by decide +kernel⟩
      | 4, e1, e2 =>
        cases e1
        cases e2
        exact ⟨_, some 0, .lst (ne l5 (by simp)) y4 (.cons r4 .nil), by decide +kernel, fun k e => no80 k e (by decide), by decide +kernel⟩
      | 5, e1, e2 =>
        cases e1
        cases e2
        exact ⟨_, none, .lst (ne D5 (by simp)) y5 r5, look13, (fun k e => by cases e), rfl⟩
      | 6, e1, e2 =>
        cases e1
        cases e2
        exact ⟨_, some 1, .lst (ne l7 (by simp)) y6 (.cons r6 (.cons .non .nil)), by decide +kernel, fun k e => no80 k e (by decide), by decide +kernel⟩
      | i + 7, e1, _ => cases e1
    have tR : Tg p HH (.ref R) (.lst [.tup [.int 0, .int 1]]) := .lst (ne R (by simp)) hR' (.cons (.tup ht' (.cons (.int 0) (.cons (.int 1) .nil))) .nil)
    generalize hbv : [V.non, V.ref l2, V.ref d3, V.ref l4, V.ref l5, V.ref D5, V.ref l7] = bvs at hLB hbad
    have lbv : bvs.length = 7 := by rw [← hbv]; rfl
    refine ⟨_, rfl, LB, rfl, ⟨_, SqL.of hLB⟩, fun D nD => ?_⟩
    refine lc_list (K := K) (a := LB) (xs := bvs) (fun j GG => ∃ us : List V, GG D = some (.lst us) ∧ us.length = j ∧ Same HH GG ∧ ∀ (i : Nat) (v : V) (x : Str), us[i]? = some v → dueX[i]? = some x → ∃ u : Addr, v = .ref u ∧ u ≠ D ∧ GG u = some (.lst [.str x, .str x, .str x])) ?_ ?_ ?_ ?_
    · exact ⟨[], upd_same, rfl, same_upd nD, fun i v x e => by cases e⟩
    · rintro j GG _ ⟨_, _, _, sG, _⟩
      exact SqL.of (sG _ _ hLB)
    · rintro j v GG hv ⟨us, hD, lu, sG, hus⟩
      have hj : j < 7 := by
        have := (List.getElem?_eq_some_iff.mp hv).1
        omega
      obtain ⟨x, ex⟩ : ∃ x, dueX[j]? = some x := ⟨dueX[j]'(by show j < 7; exact hj), List.getElem?_eq_getElem _⟩
      obtain ⟨g, r, tg, lk, r80, rx⟩ := hbad j v x hv ex
      refine ⟨rfl, tyes ?_⟩
      refine ⟨_, rfl, _, rfl, p, v, .ref R, g, _, r, rfl, tg.keep (Keeps.same sG), tR.keep (Keeps.same sG), lk, r80, fun u G2 s2 nu hu => ?_⟩
      have hD2 := s2 _ _ hD
      have uD : u ≠ D := Ne.symm (ne_of_none hD nu)
      refine ⟨us, hD2, small1000 (by omega), us ++ [.ref u], upd_same, by rw [List.length_append, lu]; rfl, fun c o e => ?_, fun i v2 x2 e1 e2 => ?_⟩
      · rw [upd_ne (ne_of_none e nD)]
        exact s2 _ _ (sG _ _ e)
      · by_cases hi : i < us.length
        · rw [List.getElem?_append_left hi] at e1
          obtain ⟨u2, ev, nd, hu2⟩ := hus i v2 x2 e1 e2
          exact ⟨u2, ev, nd, by rw [upd_ne nd]; exact s2 _ _ hu2⟩
        · rw [List.getElem?_append_right (by omega)] at e1
          have ei : i = j := by
            by_cases z : i - us.length = 0
            · omega
            · obtain ⟨m, hm⟩ : ∃ m, i - us.length = m + 1 := ⟨i - us.length - 1, by omega⟩
              rw [hm] at e1
              cases e1
          subst ei
          rw [lu, Nat.sub_self] at e1
          cases e1
          rw [ex] at e2
          cases e2
          exact ⟨u, rfl, uD, by rw [upd_ne uD, ← rx]; exact hu⟩
    rintro G1 ⟨us, hD, lu, sG, hus⟩
    rw [lbv] at lu
    have hLD1 := sG _ _ hLD
    refine ⟨_, rfl, LD, rfl, ⟨_, SqL.of hLD1⟩, fun D2 nD2 => ?_⟩
    refine lc_list (K := K) (a := LD) (xs := dueX.map V.str) (fun j GG => ∃ us : List V, GG D2 = some (.lst us) ∧ us.length = j ∧ Same G1 GG ∧ ∀ (i : Nat) (v : V) (x : Str), us[i]? = some v → dueX[i]? = some x → ∃ u : Addr, v = .ref u ∧ u ≠ D2 ∧ GG u = some (.lst [.str x, .str x, .str x])) ?_ ?_ ?_ ?_
    · exact ⟨[], upd_same, rfl, same_upd nD2, fun i v x e => by cases e⟩
    · rintro j GG _ ⟨_, _, _, sG2, _⟩
      exact SqL.of (sG2 _ _ hLD1)
    · rintro j v GG hv ⟨us2, hD2, lu2, sG2, hus2⟩
      rw [List.getElem?_map] at hv
      obtain ⟨x, ex, rfl⟩ := Option.map_eq_some_iff.mp hv
      have hj : j < 7 := (List.getElem?_eq_some_iff.mp ex).1
      refine ⟨rfl, tyes ?_⟩
      refine ⟨_, rfl, (by show 1 ≤ sizeLine; decide), fun l nl => ?_⟩
      have sl := same_upd (o := .lst [V.str x]) nl
      refine ⟨l, 3, [V.str x], rfl, rfl, upd_same, by decide, by decide, (by show 1 * 3 ≤ sizeLine; decide), fun m nm => ?_⟩
      have sm := same_upd (o := .lst (List.replicate (3 : Int).toNat [V.str x]).flatten) nm
      have slm := sl.trans sm
      have hD3 := slm _ _ hD2
      have mD : m ≠ D2 := Ne.symm (ne_of_none (sl _ _ hD2) nm)
      refine ⟨us2, hD3, small1000 (by omega), us2 ++ [.ref m], upd_same, by rw [List.length_append, lu2]; rfl, fun c o e => ?_, fun i v2 x2 e1 e2 => ?_⟩
      · rw [upd_ne (ne_of_none e nD2)]
        exact slm _ _ (sG2 _ _ e)
      · by_cases hi : i < us2.length
        · rw [List.getElem?_append_left hi] at e1
          obtain ⟨u2, ev, nd, hu2⟩ := hus2 i v2 x2 e1 e2
          exact ⟨u2, ev, nd, by rw [upd_ne nd]; exact slm _ _ hu2⟩
        · rw [List.getElem?_append_right (by omega)] at e1
          have ei : i = j := by
            by_cases z : i - us2.length = 0
            · omega
            · obtain ⟨k, hk⟩ : ∃ k, i - us2.length = k + 1 := ⟨i - us2.length - 1, by omega⟩
              rw [hk] at e1
              cases e1
          subst ei
          rw [lu2, Nat.sub_self] at e1
          cases e1
          rw [ex] at e2
          cases e2
          exact ⟨m, rfl, mD, by rw [upd_ne mD, upd_same]; rfl⟩
    rintro G2 ⟨us2, hD2, lu2, sG2, hus2⟩
    have dl : Dp K G2 (.ref D) dueD := .lst (SqL.of (sG2 _ _ hD)) (dp_threes (xs := dueX) lu fun i v x e1 e2 => by
      obtain ⟨u, e, _, h⟩ := hus i v x e1 e2
      exact ⟨u, e, sG2 _ _ h⟩)
    have dr : Dp K G2 (.ref D2) dueD := .lst (SqL.of hD2) (dp_threes (xs := dueX) (by rw [lu2, List.length_map]) fun i v x e1 e2 => by
      obtain ⟨u, e, _, h⟩ := hus2 i v x e1 e2
      exact ⟨u, e, h⟩)
    refine ⟨dueD, dueD, dl, dr, due_ok.1, due_ok.1, _, rfl, iteB (fun z => absurd z (by rw [due_ok.2]; decide)) (fun _ => ?_)⟩
    have sH2 : Same H G2 := (w1.trans sG).trans sG2
    clear dl dr hus hus2 hD hD2 hLD hLD1 hLB hbad tR
    refine ⟨80, rfl, by decide, by decide, fun DR nDR => ?_⟩
    refine lc_range (lo := 0) (n := 80) (fun j HH => ∃ vs, HH DR = some (.lst vs) ∧ vs.length = j ∧ RowsAt HH vs (ringTo j) ∧ Same G2 HH) ?_ ?_ ?_
    · exact ⟨[], upd_same, rfl, trivial, same_upd nDR⟩
    · rintro j HH hj ⟨vs, hD, lv, tl, sH⟩
      refine ⟨rfl, tyes ?_⟩
      refine ⟨_, rfl, (0 + (j : Int)), 12, rfl, rfl, (by show (0 : Int) < 12; decide), (by show 1 ≤ sizeLine; decide), fun a1 H1 z1 na1 pa1 => ?_⟩
      refine ⟨_, rfl, (0 + (j : Int)), 1, rfl, rfl, _, 80, rfl, rfl, (by show (0 : Int) < 80; decide), (by show 1 ≤ sizeLine; decide), fun a2 H2 z2 na2 pa2 => ?_⟩
      refine ⟨(by show 2 ≤ sizeLine; decide), fun a3 H3 z3 na3 pa3 => ?_⟩
      have z13 := z1.trans (z2.trans z3)
      have hD3 := z13 _ _ hD
      have kl := KP.lst (o := .lst (vs ++ [V.ref a3])) hD3
      have k2 := K2.lst (u := .lst (vs ++ [V.ref a3])) hD3
      have pa1' : PTup H3 a1 [V.int ((j % 12 : Nat) : Int)] := by
        have : PTup H3 a1 [V.int ((0 + (j : Int)) % 12)] := pa1.same (z2.trans z3)
        rwa [show (0 + (j : Int)) % 12 = ((j % 12 : Nat) : Int) by omega] at this
      have pa2' : PTup H3 a2 [V.int (((j + 1) % 80 : Nat) : Int)] := by
        have : PTup H3 a2 [V.int ((0 + (j : Int) + 1) % 80)] := pa2.same z3
        rwa [show (0 + (j : Int) + 1) % 80 = (((j + 1) % 80 : Nat) : Int) by omega] at this
      refine ⟨vs, hD3, small1000 (by omega), vs ++ [V.ref a3], upd_same, by rw [List.length_append, lv]; rfl, ?_, fun c o e => ?_⟩
      · rw [ringTo_snoc]
        exact ((tl.keep (K2.same z13)).keep k2).snoc ⟨a3, a1, a2, rfl, .inl (kl _ _ pa3), .inl (kl _ _ pa1'), .inl (kl _ _ pa2')⟩
      · rw [upd_ne (ne_of_none e nDR)]
        exact z13 _ _ (sH _ _ e)
    rintro G3 ⟨wv, hDR, lwv, rwv, sG3⟩
    refine ⟨_, rfl, 80, rfl, by decide, by decide, fun DS nDS => ?_⟩
    refine lc_range (lo := 0) (n := 80) (fun j HH => ∃ vs, HH DS = some (.lst vs) ∧ vs.length = j ∧ StepsAt HH vs (stepsTo j) ∧ Same G3 HH) ?_ ?_ ?_
    · exact ⟨[], upd_same, rfl, trivial, same_upd nDS⟩
    · rintro j HH hj ⟨vs, hD, lv, tl, sH⟩
      refine ⟨rfl, tyes ?_⟩
      refine ⟨_, rfl, _, rfl, (0 + (j : Int)), 12, rfl, rfl, (by show (0 : Int) < 12; decide), (by show 2 ≤ sizeLine; decide), fun a3 H3 z3 na3 pa3 => ?_⟩
      have hD3 := z3 _ _ hD
      have kl := KP.lst (o := .lst (vs ++ [V.ref a3])) hD3
      have pa3' : PTup H3 a3 [V.int (j : Nat), V.int ((j % 12 : Nat) : Int)] := by
        have : PTup H3 a3 [V.int (0 + (j : Int)), V.int ((0 + (j : Int)) % 12)] := pa3
        rwa [show (0 + (j : Int)) % 12 = ((j % 12 : Nat) : Int) by omega, Int.zero_add] at this
      refine ⟨vs, hD3, small1000 (by omega), vs ++ [V.ref a3], upd_same, by rw [List.length_append, lv]; rfl, ?_, fun c o e => ?_⟩
      · rw [stepsTo_snoc]
        exact ((tl.keep (KP.same z3)).keep kl).app ⟨⟨a3, rfl, kl _ _ pa3'⟩, trivial⟩
      · rw [upd_ne (ne_of_none e nDS)]
        exact z3 _ _ (sH _ _ e)
    rintro G4 ⟨sv, hDS, lsv, ssv, sG4⟩
    refine ⟨DS, 2, sv, rfl, rfl, hDS, by decide, by decide, Nat.le_of_lt (small1000 (by rw [lsv]; show 80 * 2 ≤ 1000; decide)), fun m nm => ?_⟩
    have sm := same_upd (o := .lst (List.replicate (2 : Int).toNat sv).flatten) nm
    have em : (List.replicate (2 : Int).toNat sv).flatten = sv ++ sv := by
      show sv ++ (sv ++ []) = sv ++ sv
      rw [List.append_nil]
    have hm : (upd G4 m (.lst (List.replicate (2 : Int).toNat sv).flatten)) m = some (.lst (sv ++ sv)) := by rw [upd_same, em]
    generalize upd G4 m (.lst (List.replicate (2 : Int).toNat sv).flatten) = G5 at sm hm ⊢
    have s45 := sG4.trans sm
    obtain ⟨p2, hp2⟩ := apart [DR, m]
    have n2 : ∀ a ∈ [DR, m], a ≠ p2 := fun a ha => Nat.ne_of_lt (hp2 a ha)
    have ts : TgL p2 G5 sv ringG := by
      rw [← steps_ringG]
      exact tg_steps (ssv.keep (KP.same sm))
    refine ⟨p2, .ref DR, .ref m, .lst (ringG ++ ringG), rfl, .lst (n2 m (by simp)) hm (ts.app ts), .inr ⟨DR, ringR, rfl, n2 DR (by simp), ⟨wv, s45 _ _ hDR, rwv.keep (K2.same s45)⟩, ring_ok, fun G6 s6 => ?_⟩⟩
    rw [ring_run]
    refine ⟨true, true, rfl, rfl, _, rfl, iteF ?_⟩
    have sH6 : Same H G6 := ((sH2.trans sG3).trans s45).trans s6
    refine ⟨(by show 1 ≤ sizeLine; decide), fun a1 B1 b1 na1 pa1 => ?_⟩
    refine ⟨(by show 1 ≤ sizeLine; decide), fun a2 B2 b2 na2 pa2 => ?_⟩
    refine ⟨(by show 2 ≤ sizeLine; decide), fun a3 B3 b3 na3 pa3 => ?_⟩
    refine ⟨(by show 1 ≤ sizeLine; decide), fun LP nLP => ?_⟩
    have b4 := same_upd (o := .lst [V.ref a3]) nLP
    have hlp : WebAt (upd B3 LP (.lst [V.ref a3])) LP (loopR 1) := ⟨_, upd_same, ⟨a3, a1, a2, rfl, .inl (pa3.same b4), .inl (pa1.same (b2.trans (b3.trans b4))), .inl (pa2.same (b3.trans b4))⟩, trivial⟩
    have sH7 : Same H (upd B3 LP (.lst [V.ref a3])) := sH6.trans (b1.trans (b2.trans (b3.trans b4)))
    generalize upd B3 LP (.lst [V.ref a3]) = B4 at hlp sH7 ⊢
    clear pa1 pa2 pa3 b1 b2 b3 b4
    refine ⟨_, rfl, (by show 2 ≤ sizeLine; decide), fun c1 C1 e1 nc1 pc1 => ?_⟩
    refine ⟨(by show 1 ≤ sizeLine; decide), fun L1 nL1 => ?_⟩
    have e2 := same_upd (o := .lst [V.ref c1]) nL1
    obtain ⟨q1, hq1⟩ := apart [LP, L1]
    have m1 : ∀ a ∈ [LP, L1], a ≠ q1 := fun a ha => Nat.ne_of_lt (hq1 a ha)
    refine ⟨q1, .ref LP, .ref L1, .lst [.tup [.int 0, .bl true]], rfl, .lst (m1 L1 (by simp)) upd_same (.cons (.tup (.inl (pc1.same e2)) (.cons (.int 0) (.cons (.bl true) .nil))) .nil), .inr ⟨LP, loopR 1, rfl, m1 LP (by simp), hlp.same (e1.trans e2), loop_ok (by decide) (by decide), fun C2 e3 => ?_⟩⟩
    rw [show runG (loopR 1) (.lst [.tup [.int 0, .bl true]]) = some (some 0) by decide +kernel]
    have f1 := e1.trans (e2.trans e3)
    refine ⟨_, rfl, (by show 2 ≤ sizeLine; decide), fun c2 C3 e4 nc2 pc2 => ?_⟩
    refine ⟨(by show 1 ≤ sizeLine; decide), fun L2' nL2 => ?_⟩
    have e5 := same_upd (o := .lst [V.ref c2]) nL2
    obtain ⟨q2, hq2⟩ := apart [LP, L2']
    have m2 : ∀ a ∈ [LP, L2'], a ≠ q2 := fun a ha => Nat.ne_of_lt (hq2 a ha)
    refine ⟨q2, .ref LP, .ref L2', .lst [.tup [.bl false, .int 1]], rfl, .lst (m2 L2' (by simp)) upd_same (.cons (.tup (.inl (pc2.same e5)) (.cons (.bl false) (.cons (.int 1) .nil))) .nil), .inr ⟨LP, loopR 1, rfl, m2 LP (by simp), hlp.same (f1.trans (e4.trans e5)), loop_ok (by decide) (by decide), fun C4 e6 => ?_⟩⟩
    rw [show runG (loopR 1) (.lst [.tup [.bl false, .int 1]]) = some (some 0) by decide +kernel]
    have f2 := f1.trans (e4.trans (e5.trans e6))
    refine ⟨_, rfl, (by show 2 ≤ sizeLine; decide), fun c3 C5 e7 nc3 pc3 => ?_⟩
    refine ⟨(by show 1 ≤ sizeLine; decide), fun L3 nL3 => ?_⟩
    have e8 := same_upd (o := .lst [V.ref c3]) nL3
    refine ⟨L3, 3, [V.ref c3], rfl, rfl, upd_same, by decide, by decide, (by show 1 * 3 ≤ sizeLine; decide), fun L4 nL4 => ?_⟩
    have e9 := same_upd (o := .lst (List.replicate (3 : Int).toNat [V.ref c3]).flatten) nL4
    obtain ⟨q3, hq3⟩ := apart [LP, L4]
    have m3 : ∀ a ∈ [LP, L4], a ≠ q3 := fun a ha => Nat.ne_of_lt (hq3 a ha)
    have tc : Tg q3 (upd (upd C5 L3 (.lst [V.ref c3])) L4 (.lst (List.replicate (3 : Int).toNat [V.ref c3]).flatten)) (.ref c3) (.tup [.int 0, .int 1]) := .tup (.inl (pc3.same (e8.trans e9))) (.cons (.int 0) (.cons (.int 1) .nil))
    refine ⟨q3, .ref LP, .ref L4, .lst [.tup [.int 0, .int 1], .tup [.int 0, .int 1], .tup [.int 0, .int 1]], rfl, .lst (m3 L4 (by simp)) upd_same (.cons tc (.cons tc (.cons tc .nil))), .inr ⟨LP, loopR 1, rfl, m3 LP (by simp), hlp.same (f2.trans (e7.trans (e8.trans e9))), loop_ok (by decide) (by decide), fun C6 e10 => ?_⟩⟩
    rw [show runG (loopR 1) (.lst [.tup [.int 0, .int 1], .tup [.int 0, .int 1], .tup [.int 0, .int 1]]) = none by decide +kernel]
    refine ⟨(by show 3 ≤ sizeLine; decide), fun M1 nM1 => ?_⟩
    have g1 := same_upd (o := .lst [V.bl false, V.bl false, V.bl true]) nM1
    refine ⟨(by show 3 ≤ sizeLine; decide), fun M2 nM2 => ?_⟩
    have g2 := same_upd (o := .lst [V.bl false, V.bl false, V.bl true]) nM2
    refine ⟨.list [.bool false, .bool false, .bool true], .list [.bool false, .bool false, .bool true], .lst (SqL.of (g2 _ _ upd_same)) (.cons (.bl _) (.cons (.bl _) (.cons (.bl _) .nil))), .lst (SqL.of upd_same) (.cons (.bl _) (.cons (.bl _) (.cons (.bl _) .nil))), by decide +kernel, by decide +kernel, ?_⟩
    rw [show PyData.eqv (.list [.bool false, .bool false, .bool true]) (.list [.bool false, .bool false, .bool true]) = true by decide +kernel]
    exact q _ (sH7.trans (f2.trans (e7.trans (e8.trans (e9.trans (e10.trans (g1.trans g2)))))))
end
end Su
/-! ### L1: the law's webs -/
namespace Su
open PySem PySem.Spec PyProof.Rows L2
def spLTos : Sp := fun vs H Q _ => ∃ (p : Addr) (row many : Int), vs = [.ref p, .int row, .int many] ∧ PoolAt H p ∧ 0 ≤ row ∧ 1 ≤ many ∧ many < 1000 ∧
  ∀ (t : Addr) (H' : Hp) (ns : List Int), Kept p H H' → PoolAt H' p → T2 H' t (ns.map V.int) → Ris 0 (many - 1) ns → Q (.ref t) H'
def spLWeb : Sp := fun vs H Q _ => ∃ (p : Addr) (mr mo : Int), vs = [.ref p, .int mr, .int mo] ∧ PoolAt H p ∧ 1 ≤ mr ∧ mr ≤ 80 ∧ 1 ≤ mo ∧ mo ≤ 12 ∧
  ∀ (u : Addr) (H' : Hp) (rs : List Rw), H u = none → Kept p H H' → PoolAt H' p → WebAt H' u rs → WebOk rs → (rs.length : Int) ≤ mr → Q (.ref u) H'
theorem sc_law_tos : FnScope ["_law_pool_here", "_law_row", "_law_many", "_law_way", "_law_found", "_law_turn"] ["_law_pool_here", "_law_row", "_law_many"] (defScope s_law_tos) := ⟨rfl, rfl, rfl, by decide +kernel, rfl, by decide +kernel, by decide +kernel⟩
theorem sc_law_web : FnScope ["_law_pool_here", "_law_most_rows", "_law_most_rooms", "_law_many", "_law_rooms", "_law_web_here", "_law_row", "_law_asked_for"] ["_law_pool_here", "_law_most_rows", "_law_most_rooms"] (defScope s_law_web) := ⟨rfl, rfl, rfl, by decide +kernel, rfl, by decide +kernel, by decide +kernel⟩
section
variable {P : Program} {w : World} {K : PySem.W.Frag} {mg : Str → Option Value} {base : Heap}
theorem ok_ltos (T : At K mg "_law_tos" s_law_tos ["_law_pool_here", "_law_row", "_law_many"]) (B : Bt mg) (c_take : Cal P w K mg base 1 "_law_take" ["_law_pool_here", "_law_many"] spTake) : Cal P w K mg base 2 "_law_tos" ["_law_pool_here", "_law_row", "_law_many"] spLTos := by
  refine cal_of T sc_law_tos (fun vs H Q E h => ?_) (fun f cdv A outer s H vs Q E hr h => ?_)
  · obtain ⟨p, row, many, rfl, _⟩ := h
    rfl
  · obtain ⟨p, row, many, rfl, hp, r0, m1, m2, q⟩ := h
    refine ⟨_, (pss_cons (ps_set (i := 3) sc_law_tos.nd rfl (Or.inl rfl) (pe_own c_take hr (by decide) (by rfl) (pa_cons (pv 0) (pa_cons pe_int pa_nil))))
      (pss_cons (ps_set (i := 4) sc_law_tos.nd rfl (Or.inl rfl) pe_dnewK)
      (pss_cons (ps_if (PW.pt (pw_and (pt_cmpR op_gt (pv 3) pe_int (nomark _)) (pw_and1 (pt_cmpR op_lt (pe_op op_add (pv 1) pe_int) (pv 2) (nomark _))))) (pss_one (ps_dput (hu_of hr) (pv 4) (pe_op op_add (pv 1) pe_int) pe_bl rfl)) pss_nil)
      (pss_cons (ps_for PassesOwn.never rfl (pi_range1 (by rfl) B.range (pa_cons (pe_ix ix_list (pe_lst (pa_cons pe_int (pa_cons pe_int (pa_cons pe_int (pa_cons pe_int (pa_cons pe_int (pa_cons pe_int (pa_cons pe_int (pa_cons pe_int pa_nil))))))))) (pv 3) (fun _ _ => rfl)) pa_nil)) (pg_name (i := 5) sc_law_tos.nd rfl (Or.inl rfl)) (pss_one (ps_dput (hu_of hr) (pv 4) (pe_own c_take hr (by decide) (by rfl) (pa_cons (pv 0) (pa_cons (pv 2) pa_nil))) pe_bl rfl)))
      (pss_one (ps_ret (pe_callTy call_tupleF (by rfl) B.tuple (by decide +kernel) (pa_cons (pe_callB (cr_sortedDI rfl) (by rfl) B.sorted (by decide +kernel) (pa_cons (pv 4) pa_nil)) pa_nil)))))))), ?_⟩
    refine ⟨_, rfl, p, 8, rfl, hp, by decide, by decide, fun wy o w0 w1 po => ?_⟩
    have hp1 : PoolAt (upd H p o) p := ⟨o, upd_same, po⟩
    have hk1 : Kept p H (upd H p o) := Kept.upd p H o
    refine fun D nD => ?_
    have eDp : D ≠ p := pool_ne hp1 nD
    have nD0 : H D = none := hk1.free eDp nD
    -- the end, from any dict
    have fin : ∀ (H2 : Hp) (kvs : List (Key × V)) (ks : List Int), H2 D = some (.dK kvs) → KeysI kvs ks → ks.Nodup → ks.length ≤ 1 → (∀ k ∈ ks, 0 ≤ k ∧ k < many) → PoolAt H2 p → Kept p H H2 → ∀ y5 : Option V,
        tSeq (tFor (iRng1 (tCons (tOp (rIxL K) (tLst (tCons (tC (.int 0)) (tCons (tC (.int 0)) (tCons (tC (.int 0)) (tCons (tC (.int 1)) (tCons (tC (.int 1)) (tCons (tC (.int 1)) (tCons (tC (.int 2)) (tCons (tC (.int 2)) tNil))))))))) (tVar 3)) tNil)) (gName 5)
          (sDPut (tVar 4) (tCall spTake [] E0 (tCons (tVar 0) (tCons (tVar 2) tNil))) (tC (.bl true)))) (tRet (tCB (rTupL K) (tCons (tCB rSortedDI (tCons (tVar 4) tNil)) tNil))) { nx := fun _ H' => Q .non H', rt := Q } [some (.ref p), some (.int row), some (.int many), some (.int wy), some (.ref D), y5] H2 := by
      intro H2 kvs ks hD hks nd hl hb hp2 k2 y5
      refine ⟨(by show 8 ≤ sizeLine; decide), fun L nL => ?_⟩
      have eLp : L ≠ p := pool_ne hp2 nL
      have eLD : D ≠ L := ne_of_none hD nL
      obtain ⟨v, hv, ev⟩ := cons_nil_fin (xs := [V.int 0, .int 0, .int 0, .int 1, .int 1, .int 1, .int 2, .int 2]) 8 rfl w0 w1
      obtain ⟨n, en, hn⟩ : ∃ n : Nat, v = .int n ∧ n ≤ 2 := by
        simp only [List.mem_cons, List.not_mem_nil, or_false] at hv
        rcases hv with e | e | e | e | e | e | e | e
        all_goals first
          | exact ⟨0, e, by decide⟩
          | exact ⟨1, e, by decide⟩
          | exact ⟨2, e, by decide⟩
      subst en
      refine ⟨_, rfl, L, _, _, _, rfl, rfl, SqL.of upd_same, ev, ?_⟩
      refine ⟨(n : Int), rfl, by omega, by omega, ?_⟩
      rw [show ((n : Int)).toNat = n by omega]
      refine for_range (lo := 0) (n := n) (fun i σ H3 => ∃ (kvs : List (Key × V)) (ks : List Int) (y5 : Option V), σ = [some (.ref p), some (.int row), some (.int many), some (.int wy), some (.ref D), y5] ∧ H3 D = some (.dK kvs) ∧ KeysI kvs ks ∧ ks.Nodup ∧ kvs.length ≤ 1 + i ∧ (∀ k ∈ ks, 0 ≤ k ∧ k < many) ∧ PoolAt H3 p ∧ Kept p H H3) ?_ ?_ ?_
      · exact ⟨kvs, ks, y5, rfl, (by rw [upd_ne eLD]; exact hD), hks, nd, (by rw [hks.len]; exact hl), hb, hp2.upd eLp.symm, k2.trans (Kept.same (same_upd nL))⟩
      · rintro i σ H3 hi ⟨kvs, ks, y5, rfl, hD3, hks3, nd3, hl3, hb3, hp3, k3⟩
        refine ⟨_, rfl, _, rfl, _, rfl, p, many, rfl, hp3, m1, by omega, fun r o2 r0 r1 po2 => ?_⟩
        have hD4 : (upd H3 p o2) D = some (.dK kvs) := by
          rw [upd_ne eDp]
          exact hD3
        obtain ⟨ks', h1, h2, h3⟩ := hks3.put nd3 r (.bl true)
        refine ⟨D, _, rfl, DPut.k (k := Sum.inl r) hD4 (small1000 (by omega)), ?_⟩
        refine ⟨_, ks', _, rfl, upd_same, h1, h2, ?_, fun k hk => ?_, PoolAt.upd ⟨o2, upd_same, po2⟩ eDp.symm, (k3.trans (Kept.upd p H3 o2)).set nD0⟩
        · have := length_putK kvs (Sum.inl r) (.bl true)
          omega
        · rcases (h3 k).mp hk with z | z
          · exact hb3 k z
          · rw [z]
            exact ⟨r0, r1⟩
      · rintro σ H3 ⟨kvs, ks, y5, rfl, hD3, hks3, nd3, hl3, hb3, hp3, k3⟩
        refine ⟨_, rfl, D, kvs, ks, rfl, hD3, hks3, (by rw [← hks3.len]; omega), fun ys u pm so nu => ?_⟩
        refine ⟨u, _, rfl, SqL.of upd_same, fun t H4 s4 nt pt => ?_⟩
        have eup : u ≠ p := pool_ne hp3 nu
        refine q t H4 ys (k3.trans (Kept.same ((same_upd nu).trans s4))) ((hp3.upd eup.symm).same s4) (.inl pt) ⟨pw_lt so (pm.nodup_iff.mpr nd3), fun k hk => (hb3 k (pm.subset hk)).1, fun k hk => ?_⟩
        have := (hb3 k (pm.subset hk)).2
        omega
    have hk2 : Kept p H (upd (upd H p o) D (.dK [])) := hk1.set nD0
    have hp2 : PoolAt (upd (upd H p o) D (.dK [])) p := hp1.upd eDp.symm
    refine ⟨_, rfl, _, _, rfl, rfl, _, rfl, iteB (fun z1 => ?_) (fun z1 => iteF ?_)⟩
    · refine ⟨_, rfl, _, _, rfl, rfl, _, rfl, _, _, rfl, rfl, _, rfl, iteB (fun z2 => ?_) (fun z2 => ?_)⟩
      · have z3 : row + 1 < many := of_decide_eq_true z2
        refine ⟨_, rfl, _, rfl, _, _, rfl, rfl, D, _, rfl, DPut.k (k := Sum.inl (row + 1)) upd_same (small1000 (by decide)), ?_⟩
        refine fin _ [(Sum.inl (row + 1), .bl true)] [row + 1] upd_same rfl (by simp) (Nat.le_refl _) (fun k hk => ?_) (hp2.upd eDp.symm) (hk2.set nD0) none
        rw [List.mem_singleton.mp hk]
        omega
      · exact fin _ [] [] upd_same rfl (by simp) (by decide) (fun k hk => (List.not_mem_nil hk).elim) hp2 hk2 none
    · exact fin _ [] [] upd_same rfl (by simp) (by decide) (fun k hk => (List.not_mem_nil hk).elim) hp2 hk2 none
theorem ok_lweb (T : At K mg "_law_web" s_law_web ["_law_pool_here", "_law_most_rows", "_law_most_rooms"]) (B : Bt mg) (c_take : Cal P w K mg base 1 "_law_take" ["_law_pool_here", "_law_many"] spTake) (c_picked : Cal P w K mg base 2 "_law_picked" ["_law_pool_here", "_law_some", "_law_many"] (spPicked K))
    (c_tos : Cal P w K mg base 2 "_law_tos" ["_law_pool_here", "_law_row", "_law_many"] spLTos) : Cal P w K mg base 3 "_law_web" ["_law_pool_here", "_law_most_rows", "_law_most_rooms"] spLWeb := by
  refine cal_of T sc_law_web (fun vs H Q E h => ?_) (fun f cdv A outer s H vs Q E hr h => ?_)
  · obtain ⟨p, mr, mo, rfl, _⟩ := h
    rfl
  · obtain ⟨p, mr, mo, rfl, hp, r1, r80, o1, o12, q⟩ := h
    refine ⟨_, (pss_cons (ps_set (i := 3) sc_law_web.nd rfl (Or.inl rfl) (pe_op op_add pe_int (pe_own c_take hr (by decide) (by rfl) (pa_cons (pv 0) (pa_cons (pv 1) pa_nil)))))
      (pss_cons (ps_set (i := 4) sc_law_web.nd rfl (Or.inl rfl) (pe_own c_picked hr (by decide) (by rfl) (pa_cons (pv 0) (pa_cons (pe_listRg rfl (by rfl) B.list (prg_1 (by rfl) B.range pe_int)) (pa_cons (pe_op op_add pe_int (pe_own c_take hr (by decide) (by rfl) (pa_cons (pv 0) (pa_cons (pv 2) pa_nil)))) pa_nil)))))
      (pss_cons (ps_set (i := 5) sc_law_web.nd rfl (Or.inl rfl) (pe_lst pa_nil))
      (pss_cons (ps_for PassesOwn.never rfl (pi_range1 (by rfl) B.range (pa_cons (pv 3) pa_nil)) (pg_name (i := 6) sc_law_web.nd rfl (Or.inl rfl)) (pss_cons (ps_set (i := 7) sc_law_web.nd rfl (Or.inl rfl) (pe_own c_picked hr (by decide) (by rfl) (pa_cons (pv 0) (pa_cons (pv 4) (pa_cons (pe_ix ix_list (pe_lst (pa_cons pe_int (pa_cons pe_int (pa_cons pe_int (pa_cons pe_int (pa_cons pe_int (pa_cons pe_int pa_nil))))))) (pe_own c_take hr (by decide) (by rfl) (pa_cons (pv 0) (pa_cons pe_int pa_nil))) (fun _ _ => rfl)) pa_nil)))))
      (pss_one (ps_expr (pe_bm PySem.F.plainAttrs_list PySem.F.slot_list_append PySem.F.type_list_append mt_append (pv 5) (pa_cons (pe_tupF (pa_cons (pe_callTy call_tupleF (by rfl) B.tuple (by decide +kernel) (pa_cons (pv 7) pa_nil)) (pa_cons (pe_own c_tos hr (by decide) (by rfl) (pa_cons (pv 0) (pa_cons (pv 6) (pa_cons (pv 3) pa_nil)))) pa_nil))) pa_nil))))))
      (pss_one (ps_ret (pv 5))))))), ?_⟩
    refine ⟨_, rfl, _, rfl, p, mr, rfl, hp, r1, by omega, fun rr o rr0 rr1 po => ?_⟩
    have hp1 : PoolAt (upd H p o) p := ⟨o, upd_same, po⟩
    obtain ⟨n, hn⟩ : ∃ n : Nat, 1 + rr = (n : Int) := ⟨(1 + rr).toNat, by omega⟩
    refine ⟨_, _, rfl, rfl, ?_⟩
    refine ⟨_, rfl, 100, rfl, ⟨by decide, by decide, by decide, by decide, by decide⟩, fun b nb => ?_⟩
    rw [hundred_rg]
    have ebp : b ≠ p := pool_ne hp1 nb
    refine ⟨_, rfl, _, rfl, p, mo, rfl, hp1.upd ebp.symm, o1, by omega, fun ro o2 ro0 ro1 po2 => ?_⟩
    refine ⟨_, _, rfl, rfl, p, b, hundred, _, rfl, ⟨o2, upd_same, po2⟩, SqL.of (by rw [upd_ne ebp, upd_same]), ebp, hundred_nd, (by rw [hundred_len]; decide), (by omega), fun ra H2 ms nra k2 hp2 hra nd hsub hml hle => ?_⟩
    have kk2 : Kept p H H2 := ((Kept.upd p H o).trans ((Kept.same (same_upd nb)).trans (Kept.upd p _ o2))).trans k2
    have erp : ra ≠ p := (free_upd nra).1
    have hml12 : ms.length ≤ 12 := by
      rw [hml]
      omega
    have hr99 : ∀ k ∈ ms, 0 ≤ k ∧ k ≤ 99 := fun k hk => by
      have := hundred_mem (hsub k hk)
      omega
    refine ⟨(by show 0 ≤ sizeLine; decide), fun wa nwa => ?_⟩
    have ewp : wa ≠ p := pool_ne hp2 nwa
    have ewr : ra ≠ wa := ne_of_none hra nwa
    have nwa0 : H wa = none := kk2.free ewp nwa
    refine ⟨_, rfl, _, congrArg (fun z => [V.int z]) hn, by omega, by omega, ?_⟩
    rw [show ((n : Int)).toNat = n by omega]
    refine for_range (lo := 0) (n := n) (fun i σ H3 => ∃ (y6 y7 : Option V) (ws : List V) (rs : List Rw), σ = [some (.ref p), some (.int mr), some (.int mo), some (.int n), some (.ref ra), some (.ref wa), y6, y7] ∧ H3 wa = some (.lst ws) ∧ RowsAt H3 ws rs ∧ rs.length = i ∧ (∀ r ∈ rs, RowOk n r ∧ ∀ k ∈ r.1, k ∈ ms) ∧ H3 ra = some (.lst (ms.map V.int)) ∧ PoolAt H3 p ∧ Kept p H H3) ?_ ?_ ?_
    · refine ⟨none, none, [], [], ?_, upd_same, trivial, rfl, fun r hr => (List.not_mem_nil hr).elim, (by rw [upd_ne ewr]; exact hra), hp2.upd ewp.symm, kk2.set nwa0⟩
      rw [← hn]
      rfl
    · rintro i σ H3 hi ⟨y6, y7, ws, rs, rfl, hwa, hrs, hlen, hrow, hra3, hp3, k3⟩
      have hwl := hrs.len
      refine ⟨_, rfl, _, rfl, (by show 6 ≤ sizeLine; decide), fun L nL => ?_⟩
      have eLp : L ≠ p := pool_ne hp3 nL
      refine ⟨_, rfl, p, 6, rfl, hp3.upd eLp.symm, by decide, by decide, fun r3 o3 r30 r31 po3 => ?_⟩
      obtain ⟨v, hv, ev⟩ := cons_nil_fin (xs := [V.int 1, .int 1, .int 1, .int 1, .int 0, .int 2]) 6 rfl r30 r31
      obtain ⟨m, em, hm⟩ : ∃ m : Nat, v = .int m ∧ m ≤ 2 := by
        simp only [List.mem_cons, List.not_mem_nil, or_false] at hv
        rcases hv with e | e | e | e | e | e
        all_goals first
          | exact ⟨0, e, by decide⟩
          | exact ⟨1, e, by decide⟩
          | exact ⟨2, e, by decide⟩
      subst em
      have eLra : ra ≠ L := ne_of_none hra3 nL
      refine ⟨L, _, _, _, rfl, rfl, SqL.of (by rw [upd_ne eLp, upd_same]), ev, ?_⟩
      refine ⟨p, ra, ms, _, rfl, ⟨o3, upd_same, po3⟩, SqL.of (by rw [upd_ne erp, upd_ne eLra]; exact hra3), erp, nd, by omega, by omega, fun q1 H4 m1 nq1 k4 hp4 hq1 nd1 sub1 len1 le1 => ?_⟩
      have kk4 : Kept p H3 H4 := ((Kept.same (same_upd nL)).trans (Kept.upd p _ o3)).trans k4
      have hwa4 : H4 wa = some (.lst ws) := kk4 _ _ hwa ewp
      refine ⟨_, rfl, .inl ⟨rfl, _, SqL.of hwa4⟩, _, rfl, q1, _, rfl, SqL.of hq1, fun u5 H5 s5 nu5 pu5 => ?_⟩
      refine ⟨_, rfl, _, rfl, _, rfl, p, 0 + (i : Int), (n : Int), rfl, hp4.same s5, by omega, by omega, by omega, fun u6 H6 tos k6 hp6 hu6 ris6 => ?_⟩
      refine ⟨(by show 2 ≤ sizeLine; decide), fun t3 H7 s7 nt3 pt3 => ?_⟩
      have kk7 : Kept p H3 H7 := ((kk4.trans (Kept.same s5)).trans k6).trans (Kept.same s7)
      have hwa7 : H7 wa = some (.lst ws) := kk7 _ _ hwa ewp
      refine ⟨wa, _, _, rfl, rfl, hwa7, small1000 (by omega), ?_⟩
      refine ⟨_, _, ws ++ [.ref t3], rs ++ [(m1, tos)], rfl, upd_same, ?_, (by rw [List.length_append, hlen]; rfl), fun r hr => ?_, ?_, ?_, ?_⟩
      · have kz : K2 H7 (upd H7 wa (.lst (ws ++ [.ref t3]))) := K2.lst hwa7
        refine RowsAt.snoc (hrs.keep ((K2.of kk7 hp3).trans kz)) ⟨t3, u5, u6, rfl, kz _ _ (.inl pt3), kz _ _ ((K2.of k6 (hp4.same s5) _ _ (.inl pu5)).same s7), kz _ _ (hu6.same s7)⟩
      · rcases List.mem_append.mp hr with z | z
        · exact hrow r z
        · rw [List.mem_singleton.mp z]
          refine ⟨⟨⟨pw_lt le1 nd1, fun k hk => (hr99 k (sub1 k hk)).1, fun k hk => (hr99 k (sub1 k hk)).2⟩, ?_, ris6⟩, sub1⟩
          show m1.length ≤ 6
          omega
      · rw [upd_ne ewr]
        exact kk7 _ _ hra3 erp
      · exact (hp6.same s7).upd ewp.symm
      · exact (k3.trans kk7).set nwa0
    · rintro σ H3 ⟨y6, y7, ws, rs, rfl, hwa, hrs, hlen, hrow, hra3, hp3, k3⟩
      refine ⟨_, rfl, q wa H3 rs nwa0 k3 hp3 ⟨ws, hwa, hrs⟩ ⟨by omega, by omega, fun r hr => (by rw [hlen]; exact (hrow r hr).1), ms, hml12, fun k hk => ?_⟩ (by omega)⟩
      obtain ⟨l, hl, hk⟩ := List.mem_flatten.mp hk
      obtain ⟨r, hr, rfl⟩ := List.mem_map.mp hl
      exact (hrow r hr).2 k hk
end
end Su
/-! ### R7: the law -/
namespace Su
open PySem PySem.Spec PyProof.Rows L2
theorem steps_rep {rs : List Rw} {g : G} (h1 : stepG rs [0] g = true) (h2 : tosS rs g = [0]) : ∀ n, stepsG rs [0] (List.replicate n g) = none
  | 0 => rfl
  | n + 1 => by
    show (if stepG rs [0] g = true then (stepsG rs (tosS rs g) (List.replicate n g)).map (· + 1) else some 0) = none
    rw [if_pos h1, h2, steps_rep h1 h2 n]
    rfl
theorem run_rep {rs : List Rw} {g : G} (h1 : stepG rs [0] g = true) (h2 : tosS rs g = [0]) (n : Nat) : runG rs (.lst (List.replicate n g)) = if 1 ≤ n ∧ n ≤ 20000 then none else some none := by
  show (if 1 ≤ (List.replicate n g).length ∧ (List.replicate n g).length ≤ 20000 then (stepsG rs [0] (List.replicate n g)).map some else some none) = _
  rw [List.length_replicate, steps_rep h1 h2 n]
  rfl
theorem tg_rep {p : Addr} {H : Hp} {v : V} {g : G} (h : Tg p H v g) : ∀ n, TgL p H (List.replicate n v) (List.replicate n g)
  | 0 => .nil
  | n + 1 => .cons h (tg_rep h n)
theorem rep_one (n : Nat) (v : V) : (List.replicate n [v]).flatten = List.replicate n v := by
  induction n with
  | zero => rfl
  | succ n ih =>
    rw [List.replicate_succ, List.flatten_cons, ih, List.replicate_succ]
    rfl
def fiveG : G := .tup [.int 0, .int 5]
theorem five_step : stepG (loopR 5) [0] fiveG = true ∧ tosS (loopR 5) fiveG = [0] := by decide +kernel
theorem five_bad : runG (loopR 5) (.lst (List.replicate 9 fiveG ++ [.tup [.int 0, .int 6]])) = some (some 9) := by decide +kernel
theorem fz_ints {ns : List Int} (h : ∀ i ∈ ns, -1000000 ≤ i ∧ i ≤ 1000000) : Fz (.tup (ns.map G.int)) 1 (41 * ns.length) := by
  have := Fz.tup (FzL.all (n := 0) (m := 40) (gs := ns.map G.int) fun g hg => by
    obtain ⟨i, hi, rfl⟩ := List.mem_map.mp hg
    exact Fz.int (h i hi).1 (h i hi).2)
  rw [List.length_map] at this
  exact this
theorem fz_row {n : Nat} {r : Rw} (ok : RowOk n r) (hn : n ≤ 80) : Fz (rowT r) 2 3600 := by
  have h1 := ok.few
  have h2 := ris_len ok.tos
  have f1 := fz_ints (ns := r.1) fun i hi => by
    have := ok.rooms.lo i hi
    have := ok.rooms.hi i hi
    omega
  have f2 := fz_ints (ns := r.2) fun i hi => by
    have := ok.tos.lo i hi
    have := ok.tos.hi i hi
    omega
  exact (Fz.tup (FzL.cons f1 (FzL.cons f2 FzL.nil))).up (by decide) (by omega)
theorem fz_web {rs : List Rw} (ok : WebOk rs) (h : rs.length ≤ 7) : Fz (.lst (rs.map rowT)) 3 26000 := by
  refine (Fz.lst (FzL.all (n := 2) (m := 3600) (gs := rs.map rowT) fun g hg => ?_)).up (by decide) (by rw [List.length_map]; omega)
  obtain ⟨r, hr, rfl⟩ := List.mem_map.mp hg
  exact fz_row (ok.row r hr) ok.few
theorem okd_web (rs : List Rw) : okD (.lst (rs.map rowT)) = true := by
  have oi : ∀ ns : List Int, okDs (ns.map G.int) = true := fun ns => by
    rw [okDs_all, List.all_eq_true]
    intro g hg
    obtain ⟨i, _, rfl⟩ := List.mem_map.mp hg
    rfl
  show okDs _ = true
  rw [okDs_all, List.all_eq_true]
  intro g hg
  obtain ⟨r, _, rfl⟩ := List.mem_map.mp hg
  show okDs [.tup (r.1.map G.int), .tup (r.2.map G.int)] = true
  simp only [okDs, okD, oi, Bool.and_self]
theorem pair_shw {rs : List Rw} {g : G} (ok : WebOk rs) (h : rs.length ≤ 7) (f : Fz g 6 150000) (fl : Flat g) : Shw (.lst [.lst (rs.map rowT), g]) := by
  refine ⟨(Fz.lst (FzL.cons ((fz_web ok h).up (n' := 6) (by decide) (Nat.le_refl _)) (FzL.cons f FzL.nil))).up (by decide) (by decide), .inr ⟨_, rfl, fun x hx => ?_⟩⟩
  rcases List.mem_cons.mp hx with rfl | hx
  · exact .inl (okd_web rs)
  · rw [List.mem_singleton.mp hx]
    exact fl
theorem badN {rs : List Rw} : ∀ {gs : List G} {tos : List Int} {i : Nat}, stepsG rs tos gs = some i → i < gs.length
  | [], _, _, h => by cases h
  | g :: gs, tos, i, h => by
    have h2 : (if stepG rs tos g = true then (stepsG rs (tosS rs g) gs).map (· + 1) else some 0) = some i := h
    rw [List.length_cons]
    split at h2
    · obtain ⟨j, hj, rfl⟩ := Option.map_eq_some_iff.mp h2
      have := badN hj
      omega
    · cases h2
      omega
theorem run_lt {rs : List Rw} {g : G} {i : Nat} (h : runG rs g = some (some i)) : i < 20000 := by
  cases g with
  | lst gs =>
    have h2 : (if 1 ≤ gs.length ∧ gs.length ≤ 20000 then (stepsG rs [0] gs).map some else some none) = some (some i) := h
    split at h2
    · rename_i hl
      obtain ⟨j, hj, e⟩ := Option.map_eq_some_iff.mp h2
      cases e
      have := badN hj
      omega
    · cases h2
  | _ => cases h
theorem log_lt2 {i : Nat} (h : i < 20000) : (i : Int).natAbs.log2 < 1920 := by
  by_cases z : (i : Int).natAbs = 0
  · rw [z]
    decide
  · exact Nat.lt_of_lt_of_le ((Nat.log2_lt z).mpr (by show _ < 2 ^ 20; omega)) (by decide)
/-- repr of a number or None -/
theorem repr_row {r : Option Nat} {H : Hp} {Q : VK} (h : ∀ i, r = some i → i < 20000) (q : Q (.str (rowX r)) H) : rReprS [rowV r] H Q := by
  cases r with
  | none => exact .inl ⟨rfl, q⟩
  | some i => exact .inr (.inr ⟨(i : Int), rfl, log_lt2 (h i rfl), q⟩)
theorem ThR.keep {p : Addr} {H H' : Hp} {v : V} (h : ThR p H v) (k : Keeps p H H') : ThR p H' v := by
  obtain ⟨g, t, f⟩ := h
  exact ⟨g, t.keep k, f⟩
theorem run_th {p R : Addr} {H : Hp} {vs : List V} {rs : List Rw} {run : List Stp} (ne : R ≠ p) (e : H R = some (.lst vs)) (h : StepsAt H vs run) (rok : RunOk rs run) (ok : WebOk rs) (l : run.length ≤ 100) : ThR p H (.ref R) := by
  have lv := h.len
  refine (th_lst (n := 3) (m := 1010) (k := 100) ne e (fun v hv => ?_) (by omega)).r (by decide) (by decide)
  obtain ⟨j, hj, ej⟩ := List.getElem_of_mem hv
  obtain ⟨sp, esp, hsp⟩ := h.get (i := j) (v := v) (by rw [List.getElem?_eq_getElem hj, ej])
  refine th_step hsp ?_ (rok.rng18 ok esp)
  obtain ⟨r, er, _⟩ := (rok _ _ esp).row
  have := (List.getElem?_eq_some_iff.mp er).1
  have := ok.few
  omega
def spLaw (K : PySem.W.Frag) : Sp := fun vs H Q _ => ∃ (a : Addr) (ns : List Int), vs = [.ref a] ∧ SqL K H a (ns.map V.int) ∧ ns.length ≤ 63 ∧ ∀ H', Q (.bl true) H'
structure Calls (P : Program) (w : World) (K : PySem.W.Frag) (mg : Str → Option Value) (base : Heap) (CW : Addr) : Prop where
  pool : Cal P w K mg base 1 "_law_pool" ["_law_script", "_law_k"] (spPool K)
  web : Cal P w K mg base 3 "_law_web" ["_law_pool_here", "_law_most_rows", "_law_most_rooms"] spLWeb
  run : Cal P w K mg base 2 "_law_run" ["_law_pool_here", "_law_web_here", "_law_most"] spRun
  bent : Cal P w K mg base 2 "_law_bent" ["_law_pool_here", "_law_web_here", "_law_run_here"] spBent
  num : Cal P w K mg base 2 "_law_number" ["_law_web_here", "_law_thing"] spNum
  isrun : CalX P w K mg base 6 "is_run" ["web", "thing"] (spIsRun CW)
  refused : Cal P w K mg base 8 "_law_refused" ["_law_web_here", "_law_thing"] spRef
  doors : Cal P w K mg base 9 "_law_doors" ["_law_run_here"] spDoors
theorem sc_law : FnScope ["_law_script", "_law_ring", "_law_many", "_law_k", "_law_pool_here", "_law_web_here", "_law_run_here", "_law_thing", "_law_kept", "_law_due", "_law_found"] ["_law_script"] (defScope s_law) := ⟨rfl, rfl, rfl, by decide +kernel, rfl, by decide +kernel, by decide +kernel⟩
section
variable {P : Program} {w : World} {K : PySem.W.Frag} {mg : Str → Option Value} {base : Heap}
theorem ok_law {CW f : Addr} {fd : FuncData} (F : Fun K "law" "law" s_law f fd) (B : Bt mg) (CA : Calls P w K mg base CW) : FnG P w K mg base CX0 10 f fd ["_law_script"] (spLaw K) := by
  obtain ⟨c_pool, c_web, c_run, c_bent, c_number, c_is_run, c_refused, c_doors⟩ := CA
  refine fnG_fun F sc_law (fun vs H Q E h => ?_) (fun cdv A outer s H vs Q E hg hr h => ?_)
  · obtain ⟨a, ns, rfl, _⟩ := h
    rfl
  · obtain ⟨a, ns, rfl, hS, hlen, q⟩ := h
    refine ⟨_, (pss_cons (ps_if (pt_not (pt_val (pe_own c_doors hr (by decide) (by rfl) (pa_cons (pe_lst (pa_cons (pe_tupF (pa_cons pe_int (pa_cons pe_int pa_nil))) pa_nil)) pa_nil)))) (pss_one (ps_ret pe_bl)) pss_nil)
      (pss_cons (ps_set (i := 1) sc_law.nd rfl (Or.inl rfl) (pe_lst (pa_cons (pe_tupF (pa_cons (pe_tupF (pa_cons pe_int pa_nil)) (pa_cons (pe_tupF (pa_cons pe_int pa_nil)) pa_nil))) pa_nil)))
      (pss_cons (ps_for PassesOwn.never rfl (pi_list (pe_lst (pa_cons pe_int (pa_cons pe_int (pa_cons pe_int pa_nil))))) (pg_name (i := 2) sc_law.nd rfl (Or.inl rfl)) (pss_one (ps_if (pt_cmpR op_ne (pe_callB call_reprS (by rfl) B.repr (by decide +kernel) (pa_cons (pe_ownX takes0 c_is_run hr (by decide) (by rfl) (pa_cons (pv 1) (pa_cons (pe_op op_rep (pe_lst (pa_cons (pe_tupF (pa_cons pe_int (pa_cons pe_int pa_nil))) pa_nil)) (pv 2)) pa_nil))) pa_nil)) (pe_callB call_reprS (by rfl) B.repr (by decide +kernel) (pa_cons (pe_cmpR op_lt (pv 2) pe_int (nomark _)) pa_nil)) (nomark _)) (pss_one (ps_ret pe_bl)) pss_nil)))
      (pss_cons (ps_if (PW.pt (pw_or (pt_cmpR op_ne (pe_callB call_reprS (by rfl) B.repr (by decide +kernel) (pa_cons (pe_own c_refused hr (by decide) (by rfl) (pa_cons (pv 1) (pa_cons (pe_op op_rep (pe_lst (pa_cons (pe_tupF (pa_cons pe_int (pa_cons pe_int pa_nil))) pa_nil)) pe_int) pa_nil))) pa_nil)) pe_str (nomark _)) (pw_or1 (pt_cmpR op_ne (pe_own c_refused hr (by decide) (by rfl) (pa_cons (pv 1) (pa_cons (pe_op op_cat (pe_op op_rep (pe_lst (pa_cons (pe_tupF (pa_cons pe_int (pa_cons pe_int pa_nil))) pa_nil)) pe_int) (pe_lst (pa_cons (pe_tupF (pa_cons pe_int (pa_cons pe_int pa_nil))) pa_nil))) pa_nil))) pe_int (nomark _))))) (pss_one (ps_ret pe_bl)) pss_nil)
      (pss_cons (ps_for PassesOwn.never rfl (pi_range1 (by rfl) B.range (pa_cons (pe_callB (call_max2 rfl) (by rfl) B.max (by decide +kernel) (pa_cons pe_int (pa_cons (pe_callB (call_min2 rfl) (by rfl) B.min (by decide +kernel) (pa_cons (pe_callB call_len_seq (by rfl) B.len PySem.boot_len (pa_cons (pv 0) pa_nil)) (pa_cons pe_int pa_nil))) pa_nil))) pa_nil)) (pg_name (i := 3) sc_law.nd rfl (Or.inl rfl)) (pss_cons (ps_set (i := 4) sc_law.nd rfl (Or.inl rfl) (pe_own c_pool hr (by decide) (by rfl) (pa_cons (pv 0) (pa_cons (pv 3) pa_nil))))
      (pss_cons (ps_set (i := 5) sc_law.nd rfl (Or.inl rfl) (pe_own c_web hr (by decide) (by rfl) (pa_cons (pv 4) (pa_cons pe_int (pa_cons pe_int pa_nil)))))
      (pss_cons (ps_set (i := 6) sc_law.nd rfl (Or.inl rfl) (pe_own c_run hr (by decide) (by rfl) (pa_cons (pv 4) (pa_cons (pv 5) (pa_cons pe_int pa_nil)))))
      (pss_one (ps_for PassesOwn.never rfl (pi_list (pe_lst (pa_cons (pv 6) (pa_cons (pe_own c_bent hr (by decide) (by rfl) (pa_cons (pv 4) (pa_cons (pv 5) (pa_cons (pv 6) pa_nil)))) (pa_cons (pe_own c_bent hr (by decide) (by rfl) (pa_cons (pv 4) (pa_cons (pv 5) (pa_cons (pv 6) pa_nil)))) (pa_cons (pe_slice sl_list (pv 6) po_none (po_some pe_int)) pa_nil)))))) (pg_name (i := 7) sc_law.nd rfl (Or.inl rfl)) (pss_cons (ps_set (i := 8) sc_law.nd rfl (Or.inl rfl) (pe_callB (call_reprG hg hr.units) (by rfl) B.repr (by decide +kernel) (pa_cons (pe_lst (pa_cons (pv 5) (pa_cons (pv 7) pa_nil))) pa_nil)))
      (pss_cons (ps_set (i := 9) sc_law.nd rfl (Or.inl rfl) (pe_own c_number hr (by decide) (by rfl) (pa_cons (pv 5) (pa_cons (pv 7) pa_nil))))
      (pss_cons (ps_set (i := 10) sc_law.nd rfl (Or.inl rfl) (pe_ownX takes0 c_is_run hr (by decide) (by rfl) (pa_cons (pv 5) (pa_cons (pv 7) pa_nil))))
      (pss_cons (ps_if (PW.pt (pw_or (pt_not (pt_val (pe_callB call_isi (by rfl) B.isinstance (by decide +kernel) (pa_cons (pv 10) (pa_cons (pe_bltn (v := .ty "bool") (u := .type "bool") (by rfl) B.bool (by decide +kernel) rfl) pa_nil))))) (pw_or1 (pt_cmpR op_ne (pv 10) (pe_cmpR op_eq (pv 9) (pe_un un_neg pe_int) (nomark _)) (nomark _))))) (pss_one (ps_ret pe_bl)) pss_nil)
      (pss_one (ps_if (PW.pt (pw_or (PW.pt (pw_and (pt_cmpR op_ne (pv 9) (pe_un un_neg pe_int) (nomark _)) (pw_and1 (pt_cmpR op_ne (pe_callB call_reprS (by rfl) B.repr (by decide +kernel) (pa_cons (pe_own c_refused hr (by decide) (by rfl) (pa_cons (pv 5) (pa_cons (pv 7) pa_nil))) pa_nil)) (pe_callB call_reprS (by rfl) B.repr (by decide +kernel) (pa_cons (pv 9) pa_nil)) (nomark _))))) (pw_or1 (pt_cmpR op_ne (pe_callB (call_reprG hg hr.units) (by rfl) B.repr (by decide +kernel) (pa_cons (pe_lst (pa_cons (pv 5) (pa_cons (pv 7) pa_nil))) pa_nil)) (pv 8) (nomark _))))) (pss_one (ps_ret pe_bl)) pss_nil))))))))))))
      (pss_one (ps_ret pe_bl))))))), ?_⟩
    refine ⟨(by show 2 ≤ sizeLine; decide), fun t1 H1 s1 nt1 pt1 => ?_⟩
    refine ⟨(by show 1 ≤ sizeLine; decide), fun l1 n1 => ?_⟩
    have s2 := same_upd (o := .lst [V.ref t1]) n1
    refine ⟨l1, t1, rfl, upd_same, .inl (pt1.same s2), fun H3 s3 => ?_⟩
    refine ⟨_, rfl, iteF ?_⟩
    refine ⟨(by show 1 ≤ sizeLine; decide), fun a1 B1 b1 na1 pa1 => ?_⟩
    refine ⟨(by show 1 ≤ sizeLine; decide), fun a2 B2 b2 na2 pa2 => ?_⟩
    refine ⟨(by show 2 ≤ sizeLine; decide), fun a3 B3 b3 na3 pa3 => ?_⟩
    refine ⟨(by show 1 ≤ sizeLine; decide), fun LP nLP => ?_⟩
    have b4 := same_upd (o := .lst [V.ref a3]) nLP
    have hlp : WebAt (upd B3 LP (.lst [V.ref a3])) LP (loopR 5) := ⟨_, upd_same, ⟨a3, a1, a2, rfl, .inl (pa3.same b4), .inl (pa1.same (b2.trans (b3.trans b4))), .inl (pa2.same (b3.trans b4))⟩, trivial⟩
    have sB : Same H (upd B3 LP (.lst [V.ref a3])) := (s1.trans s2).trans (s3.trans (b1.trans (b2.trans (b3.trans b4))))
    generalize upd B3 LP (.lst [V.ref a3]) = B4 at hlp sB ⊢
    clear pa1 pa2 pa3 b1 b2 b3 b4 pt1 s1 s2 s3
    have lok := loop_ok (k := 5) (by decide) (by decide)
    obtain ⟨five1, five2⟩ := five_step
    refine ⟨(by show 3 ≤ sizeLine; decide), fun LN nLN => ?_⟩
    have c1 := same_upd (o := .lst [V.int 19999, V.int 20000, V.int 20001]) nLN
    have hLN : (upd B4 LN (.lst [V.int 19999, V.int 20000, V.int 20001])) LN = some (.lst [V.int 19999, V.int 20000, V.int 20001]) := upd_same
    generalize upd B4 LN (.lst [V.int 19999, V.int 20000, V.int 20001]) = B5 at c1 hLN ⊢
    refine ⟨LN, rfl, ⟨_, SqL.of hLN⟩, ?_⟩
    refine for_list (K := K) (a := LN) (xs := [V.int 19999, V.int 20000, V.int 20001]) (fun j σ HH => ∃ y2 : Option V, σ = [some (.ref a), some (.ref LP), y2, none, none, none, none, none, none, none, none] ∧ Same B5 HH) ?_ ?_ ?_ ?_
    · exact ⟨none, rfl, Same.refl B5⟩
    · rintro j σ HH _ ⟨_, _, sH⟩
      exact SqL.of (sH _ _ hLN)
    · rintro j v σ HH hv ⟨y2, rfl, sH⟩
      obtain ⟨n, rfl, hn1, hn2⟩ : ∃ n : Nat, v = .int (n : Int) ∧ 19999 ≤ n ∧ n ≤ 20001 := by
        match j, hv with
        | 0, e => cases e; exact ⟨19999, rfl, by decide, by decide⟩
        | 1, e => cases e; exact ⟨20000, rfl, by decide, by decide⟩
        | 2, e => cases e; exact ⟨20001, rfl, by decide, by decide⟩
        | j + 3, e => cases e
      refine ⟨_, rfl, (by show 2 ≤ sizeLine; decide), fun c C1 e1 nc pc => ?_⟩
      refine ⟨(by show 1 ≤ sizeLine; decide), fun L1 nL1 => ?_⟩
      have e2 := same_upd (o := .lst [V.ref c]) nL1
      refine ⟨_, rfl, L1, (n : Int), [V.ref c], rfl, rfl, upd_same, by omega, by omega, ?_, fun L2' nL2 => ?_⟩
      · show 1 * (n : Int).toNat ≤ sizeLine
        rw [sizeLine_eq]
        omega
      have e3 := same_upd (o := .lst (List.replicate (n : Int).toNat [V.ref c]).flatten) nL2
      have hL2 : (upd (upd C1 L1 (.lst [V.ref c])) L2' (.lst (List.replicate (n : Int).toNat [V.ref c]).flatten)) L2' = some (.lst (List.replicate n (V.ref c))) := by
        rw [upd_same, rep_one, show (n : Int).toNat = n by omega]
      have pc3 := pc.same (e2.trans e3)
      have e13 := e1.trans (e2.trans e3)
      generalize upd (upd C1 L1 (.lst [V.ref c])) L2' (.lst (List.replicate (n : Int).toNat [V.ref c]).flatten) = C3 at hL2 pc3 e13 ⊢
      obtain ⟨p, hp⟩ := apart [LP, L2']
      have np : ∀ a ∈ [LP, L2'], a ≠ p := fun a ha => Nat.ne_of_lt (hp a ha)
      refine ⟨p, .ref LP, .ref L2', .lst (List.replicate n fiveG), rfl, .lst (np L2' (by simp)) hL2 (tg_rep (.tup (.inl pc3) (.cons (.int 0) (.cons (.int 5) .nil))) n), .inr ⟨LP, loopR 5, rfl, np LP (by simp), hlp.same ((c1.trans sH).trans e13), lok, fun C4 e4 => ?_⟩⟩
      refine .inr (.inl ⟨_, rfl, ?_⟩)
      refine ⟨_, rfl, _, _, rfl, rfl, .inr (.inl ⟨_, rfl, ?_⟩)⟩
      have eqb : (runG (loopR 5) (.lst (List.replicate n fiveG))).isNone = decide ((n : Int) < 20001) := by
        rw [run_rep five1 five2 n]
        by_cases h : n ≤ 20000
        · rw [if_pos ⟨by omega, h⟩, decide_eq_true (by omega)]
          rfl
        · rw [if_neg (by omega), decide_eq_false (by omega)]
          rfl
      rw [eqb]
      refine ⟨rfl, _, rfl, iteNS rfl ?_⟩
      exact ⟨_, rfl, sH.trans (e13.trans e4)⟩
    rintro σ HH ⟨y2, rfl, sH⟩
    have hlp2 := hlp.same (c1.trans sH)
    have sH5 : Same H HH := sB.trans (c1.trans sH)
    clear hlp c1 sH hLN sB nLN
    refine ⟨_, rfl, (by show 2 ≤ sizeLine; decide), fun c C1 e1 nc pc => ?_⟩
    refine ⟨(by show 1 ≤ sizeLine; decide), fun L1 nL1 => ?_⟩
    have e2 := same_upd (o := .lst [V.ref c]) nL1
    refine ⟨L1, 20001, [V.ref c], rfl, rfl, upd_same, by decide, by decide, (by show 1 * 20001 ≤ sizeLine; rw [sizeLine_eq]; decide), fun L2' nL2 => ?_⟩
    have e3 := same_upd (o := .lst (List.replicate (20001 : Int).toNat [V.ref c]).flatten) nL2
    have hL2 : (upd (upd C1 L1 (.lst [V.ref c])) L2' (.lst (List.replicate (20001 : Int).toNat [V.ref c]).flatten)) L2' = some (.lst (List.replicate (20001 : Int).toNat (V.ref c))) := by
      rw [upd_same, rep_one]
    have pc3 := pc.same (e2.trans e3)
    have e13 := e1.trans (e2.trans e3)
    generalize upd (upd C1 L1 (.lst [V.ref c])) L2' (.lst (List.replicate (20001 : Int).toNat [V.ref c]).flatten) = C3 at hL2 pc3 e13 ⊢
    obtain ⟨p, hp⟩ := apart [LP, L2']
    have np : ∀ a ∈ [LP, L2'], a ≠ p := fun a ha => Nat.ne_of_lt (hp a ha)
    have big : ∃ nn : Nat, nn = (20001 : Int).toNat ∧ 20000 < nn := ⟨_, rfl, by decide⟩
    obtain ⟨nn, enn, hnn⟩ := big
    rw [← enn] at hL2
    refine ⟨p, LP, .ref L2', loopR 5, .lst (List.replicate nn fiveG), none, rfl, np LP (by simp), hlp2.same e13, lok, .lst (np L2' (by simp)) hL2 (tg_rep (.tup (.inl pc3) (.cons (.int 0) (.cons (.int 5) .nil))) nn), (by rw [run_rep five1 five2 nn, if_neg (by omega)]), fun C4 e4 => ?_⟩
    refine .inl ⟨rfl, ?_⟩
    refine ⟨rfl, _, rfl, iteNS rfl ?_⟩
    clear hL2 enn hnn
    refine ⟨_, rfl, (by show 2 ≤ sizeLine; decide), fun d1 D1 f1 nd1 pd1 => ?_⟩
    refine ⟨(by show 1 ≤ sizeLine; decide), fun M1 nM1 => ?_⟩
    have f2 := same_upd (o := .lst [V.ref d1]) nM1
    refine ⟨M1, 9, [V.ref d1], rfl, rfl, upd_same, by decide, by decide, (by show 1 * 9 ≤ sizeLine; decide), fun M2 nM2 => ?_⟩
    have f3 := same_upd (o := .lst (List.replicate (9 : Int).toNat [V.ref d1]).flatten) nM2
    refine ⟨(by show 2 ≤ sizeLine; decide), fun d2 D2 f4 nd2 pd2 => ?_⟩
    refine ⟨(by show 1 ≤ sizeLine; decide), fun M3 nM3 => ?_⟩
    have f5 := same_upd (o := .lst [V.ref d2]) nM3
    refine ⟨M2, M3, _, _, rfl, rfl, (f4.trans f5) _ _ upd_same, upd_same, (by show 9 + 1 ≤ sizeLine; decide), fun M4 nM4 => ?_⟩
    have f6 := same_upd (o := .lst ((List.replicate (9 : Int).toNat [V.ref d1]).flatten ++ [V.ref d2])) nM4
    obtain ⟨p3, hp3⟩ := apart [LP, M4]
    have np3 : ∀ a ∈ [LP, M4], a ≠ p3 := fun a ha => Nat.ne_of_lt (hp3 a ha)
    have f16 := f1.trans (f2.trans (f3.trans (f4.trans (f5.trans f6))))
    have hM4 : (upd (upd D2 M3 (.lst [V.ref d2])) M4 (.lst ((List.replicate (9 : Int).toNat [V.ref d1]).flatten ++ [V.ref d2]))) M4 = some (.lst (List.replicate 9 (V.ref d1) ++ [V.ref d2])) := upd_same
    have tg9 : Tg p3 (upd (upd D2 M3 (.lst [V.ref d2])) M4 (.lst ((List.replicate (9 : Int).toNat [V.ref d1]).flatten ++ [V.ref d2]))) (.ref M4) (.lst (List.replicate 9 fiveG ++ [.tup [.int 0, .int 6]])) :=
      .lst (np3 M4 (by simp)) hM4 ((tg_rep (.tup (.inl (pd1.same (f2.trans (f3.trans (f4.trans (f5.trans f6)))))) (.cons (.int 0) (.cons (.int 5) .nil))) 9).app (.cons (.tup (.inl (pd2.same (f5.trans f6))) (.cons (.int 0) (.cons (.int 6) .nil))) .nil))
    refine ⟨p3, LP, .ref M4, loopR 5, _, some 9, rfl, np3 LP (by simp), hlp2.same (e13.trans (e4.trans f16)), lok, tg9, five_bad, fun D3 f7 => ?_⟩
    refine ⟨rfl, _, rfl, iteNS rfl ?_⟩
    have sD : Same H D3 := sH5.trans (e13.trans (e4.trans (f16.trans f7)))
    have hSD : SqL K D3 a (ns.map V.int) := sD.seq hS
    clear hM4 tg9 f16 f1 f2 f3 f4 f5 f6 pd1 pd2 hlp2 sH5 hS e13 e1 e2 e3 e4 pc pc3
    obtain ⟨m, hm, hm2⟩ : ∃ m : Nat, (if (if (12 : Int) < ((ns.map V.int).length : Int) then 12 else ((ns.map V.int).length : Int)) > 1 then (if (12 : Int) < ((ns.map V.int).length : Int) then 12 else ((ns.map V.int).length : Int)) else 1) = (m : Int) ∧ m ≤ 12 := by
      rw [List.length_map]
      refine ⟨(if (if (12 : Int) < (ns.length : Int) then 12 else (ns.length : Int)) > 1 then (if (12 : Int) < (ns.length : Int) then 12 else (ns.length : Int)) else 1).toNat, ?_, ?_⟩
      all_goals
        by_cases e1 : (12 : Int) < (ns.length : Int)
        · simp only [e1, if_true]
          decide
        · simp only [e1, if_false]
          split <;> omega
    refine ⟨_, rfl, a, _, rfl, .inl hSD, _, _, rfl, _, _, rfl, ?_⟩
    refine ⟨(m : Int), congrArg (fun z => [V.int z]) hm, by omega, by omega, ?_⟩
    rw [show ((m : Int)).toNat = m by omega]
    refine for_range (lo := 0) (n := m) (fun i σ H2 => ∃ y1 y2 y3 y4 y5 y6 y7 y8 y9 y10 : Option V, σ = [some (.ref a), y1, y2, y3, y4, y5, y6, y7, y8, y9, y10] ∧ SqL K H2 a (ns.map V.int)) ?_ ?_ ?_
    · exact ⟨_, _, _, _, _, _, _, _, _, _, rfl, hSD⟩
    rotate_left
    · rintro σ H2 ⟨y1, y2, y3, y4, y5, y6, y7, y8, y9, y10, rfl, _⟩
      exact q H2
    rintro i σ Hs hi ⟨y1, y2, y3, y4, y5, y6, y7, y8, y9, y10, rfl, hSs⟩
    refine ⟨_, rfl, _, rfl, a, ns, _, rfl, hSs, by omega, by omega, fun p H1 s1 np hp1 => ?_⟩
    have back : ∀ {Hn : Hp}, Kept p H1 Hn → SqL K Hn a (ns.map V.int) := fun {Hn} k => Same.seq (fun b o e => k b o (s1 b o e) (ne_of_none e np)) hSs
    refine ⟨_, rfl, p, 7, 4, rfl, hp1, by decide, by decide, by decide, by decide, fun W H2 rs nW k2 hp2 hW ok hl7 => ?_⟩
    have eW : W ≠ p := pool_ne hp1 nW
    have rl7 : rs.length ≤ 7 := by omega
    refine ⟨_, rfl, _, rfl, p, W, rs, 12, rfl, hp2, eW, hW, ok, by decide, by decide, fun R H3 run nR k3 hp3 hR rok rl1 rl2 => ?_⟩
    have eR : R ≠ p := pool_ne hp2 nR
    have hW3 : WebAt H3 W rs := by
      obtain ⟨ws, e, t⟩ := hW
      exact ⟨ws, k3 _ _ e eW, t.keep (K2.of k3 hp2)⟩
    have k13 := k2.trans k3
    clear hW hp2 k2 k3 nR nW
    refine ⟨_, rfl, _, rfl, _, rfl, _, rfl, p, W, R, rs, run, rfl, hp3, eW, hW3, ok, eR, hR, rok, rl1, rl2, fun v1 H4 k4 hp4 th1 => ?_⟩
    have hW4 : WebAt H4 W rs := by
      obtain ⟨ws, e, t⟩ := hW3
      exact ⟨ws, k4 _ _ e eW, t.keep (K2.of k4 hp3)⟩
    obtain ⟨vs, eRl, hst⟩ := hR
    have eR4 := k4 _ _ eRl eR
    have hst4 := hst.keep (KP.kept k4 hp3)
    refine ⟨_, rfl, _, rfl, _, rfl, p, W, R, rs, run, rfl, hp4, eW, hW4, ok, eR, ⟨vs, eR4, hst4⟩, rok, rl1, rl2, fun v2 H5 k5 hp5 th2 => ?_⟩
    have hW5 : WebAt H5 W rs := by
      obtain ⟨ws, e, t⟩ := hW4
      exact ⟨ws, k5 _ _ e eW, t.keep (K2.of k5 hp4)⟩
    have eR5 := k5 _ _ eR4 eR
    have hst5 := hst4.keep (KP.kept k5 hp4)
    have th1b := th1.keep (Keeps.of k5 hp4)
    have k15 := (k13.trans k4).trans k5
    clear hW3 hW4 eRl eR4 hst hst4 th1 hp3 hp4 k4 k5 k13
    refine ⟨_, rfl, 1, rfl, R, vs, rfl, SqL.of eR5, fun P1 nP1 => ?_⟩
    rw [show cutV vs none (some 1) = vs.take 1 from cut_to vs 1]
    have u1 := same_upd (o := .lst (vs.take 1)) nP1
    have eP1 : P1 ≠ p := pool_ne hp5 nP1
    refine ⟨(by show 4 ≤ sizeLine; decide), fun LT nLT => ?_⟩
    have u2 := same_upd (o := .lst [V.ref R, v1, v2, V.ref P1]) nLT
    have u12 := u1.trans u2
    have kk := Keeps.same (p := p) u12
    have things : ∀ v ∈ [V.ref R, v1, v2, V.ref P1], ThR p (upd (upd H5 P1 (.lst (vs.take 1))) LT (.lst [V.ref R, v1, v2, V.ref P1])) v :=
      all_cons (P := fun v => ThR p _ v) ((run_th eR eR5 hst5 rok ok rl2).keep kk) (all_cons (th1b.keep kk) (all_cons (th2.keep kk) (all_cons (run_th eP1 (u2 _ _ upd_same) ((hst5.take 1).keep (KP.same u12)) (rok.take 1) ok (by rw [List.length_take]; omega)) all_nil)))
    have hLT : (upd (upd H5 P1 (.lst (vs.take 1))) LT (.lst [V.ref R, v1, v2, V.ref P1])) LT = some (.lst [V.ref R, v1, v2, V.ref P1]) := upd_same
    have hW6 := hW5.same u12
    have hp6 := hp5.same u12
    have k16 := k15.trans (Kept.same u12)
    generalize upd (upd H5 P1 (.lst (vs.take 1))) LT (.lst [V.ref R, v1, v2, V.ref P1]) = H6 at things hLT hW6 hp6 k16 ⊢
    clear u1 u2 u12 kk th1b th2 hst5 eR5 hW5 hp5 k15
    refine ⟨LT, rfl, ⟨_, SqL.of hLT⟩, ?_⟩
    refine for_list (K := K) (a := LT) (xs := [V.ref R, v1, v2, V.ref P1]) (fun j σ HH => ∃ y7 y8 y9 y10 : Option V, σ = [some (.ref a), y1, y2, some (.int (0 + (i : Int))), some (.ref p), some (.ref W), some (.ref R), y7, y8, y9, y10] ∧ Same H6 HH) ?_ ?_ ?_ ?_
    · exact ⟨_, _, _, _, rfl, Same.refl H6⟩
    · rintro j σ HH _ ⟨_, _, _, _, _, sH⟩
      exact SqL.of (sH _ _ hLT)
    rotate_left
    · rintro σ HH ⟨y7, y8, y9, y10, rfl, sH⟩
      exact ⟨_, _, _, _, _, _, _, _, _, _, rfl, back (k16.trans (Kept.same sH))⟩
    rintro j x σ HH hx ⟨y7, y8, y9, y10, rfl, sH⟩
    obtain ⟨g, tg, fz, fl⟩ := things x (List.mem_of_getElem? hx)
    have tgH := tg.keep (Keeps.same (p := p) sH)
    have hWH := hW6.same sH
    have hpH := hp6.same sH
    have psh := pair_shw ok rl7 fz fl
    have tgP : ∀ {Hn : Hp} {l : Addr}, Same HH Hn → Hn l = none → Tg p (upd Hn l (.lst [V.ref W, x])) (.ref l) (.lst [.lst (rs.map rowT), g]) := fun {Hn} {l} sn nl => by
      have sl := same_upd (o := .lst [V.ref W, x]) nl
      exact .lst (pool_ne (hpH.same sn) nl) upd_same (.cons (web_tg (hWH.same (sn.trans sl)) eW) (.cons (tgH.keep (Keeps.same (sn.trans sl))) .nil))
    refine ⟨_, rfl, _, rfl, (by show 2 ≤ sizeLine; decide), fun l nl => ?_⟩
    have sl := same_upd (o := .lst [V.ref W, x]) nl
    refine ⟨p, .ref l, _, rfl, tgP (Same.refl HH) nl, psh, ?_⟩
    generalize upd HH l (.lst [V.ref W, x]) = HA at sl ⊢
    refine ⟨_, rfl, _, rfl, p, W, x, rs, g, rfl, hWH.same sl, ok, tgH.keep (Keeps.same sl), fun H7 s7 => ?_⟩
    have sA := sl.trans s7
    refine ⟨_, rfl, _, rfl, p, .ref W, x, g, rfl, tgH.keep (Keeps.same sA), .inr ⟨W, rs, rfl, eW, hWH.same sA, ok, fun H8 s8 => ?_⟩⟩
    have sB2 := sA.trans s8
    refine ⟨_, rfl, .bl _, .ty "bool", _, _, _, rfl, .ty "bool", (Tg.bl (p := p) (H := H8) (runG rs g).isNone).ty, kit_bool (.bl _), _, rfl, iteF ?_⟩
    have last : ∀ {Hn : Hp}, Same HH Hn → ∀ (y9 y10 : Option V), ∃ y7' y8' y9' y10' : Option V, [some (V.ref a), y1, y2, some (.int (0 + (i : Int))), some (.ref p), some (.ref W), some (.ref R), some x, some (.str (toD (.lst [.lst (rs.map rowT), g])).shown), y9, y10] = [some (.ref a), y1, y2, some (.int (0 + (i : Int))), some (.ref p), some (.ref W), some (.ref R), y7', y8', y9', y10'] ∧ Same H6 Hn := fun sn y9 y10 => ⟨_, _, _, _, rfl, sH.trans sn⟩
    cases hrun : runG rs g with
    | none =>
      refine ⟨_, rfl, _, rfl, 1, rfl, rfl, rfl, _, rfl, iteNS rfl ?_⟩
      refine ⟨_, rfl, 1, rfl, rfl, _, rfl, iteNS rfl (iteF ?_)⟩
      refine ⟨_, rfl, _, rfl, (by show 2 ≤ sizeLine; decide), fun l2 nl2 => ?_⟩
      have sl2 := same_upd (o := .lst [V.ref W, x]) nl2
      refine ⟨p, .ref l2, _, rfl, tgP sB2 nl2, psh, _, rfl, rfl, _, rfl, iteNS rfl ?_⟩
      exact last (sB2.trans sl2) _ _
    | some r =>
      have h20 : ∀ k, r = some k → k < 20000 := fun k e => by
        rw [e] at hrun
        exact run_lt hrun
      have ne1 : decide (rowV r = V.int (-1)) = false := decide_eq_false fun z => by
        cases r with
        | none => cases z
        | some k =>
          have := V.int.inj z
          omega
      have sc1 : scal (rowV r) (V.int (-1)) = true := by
        cases r <;> rfl
      have en : numV (some r) = rowV r := by
        cases r <;> rfl
      rw [en]
      refine ⟨_, rfl, _, rfl, 1, rfl, sc1, rfl, _, rfl, ?_⟩
      rw [ne1]
      refine iteNS rfl ?_
      refine ⟨_, rfl, 1, rfl, sc1, _, rfl, ?_⟩
      rw [ne1]
      refine iteT ?_
      refine ⟨_, rfl, _, rfl, p, W, x, rs, g, r, rfl, eW, hWH.same sB2, ok, tgH.keep (Keeps.same sB2), hrun, fun H9 s9 => ?_⟩
      cases r with
      | none =>
        refine .inl ⟨rfl, ?_⟩
        refine ⟨_, rfl, ?_⟩
        refine .inl ⟨rfl, ?_⟩
        refine ⟨rfl, _, rfl, iteNS rfl ?_⟩
        have sC := sB2.trans s9
        refine ⟨_, rfl, _, rfl, (by show 2 ≤ sizeLine; decide), fun l2 nl2 => ?_⟩
        have sl2 := same_upd (o := .lst [V.ref W, x]) nl2
        refine ⟨p, .ref l2, _, rfl, tgP sC nl2, psh, _, rfl, rfl, _, rfl, iteNS rfl ?_⟩
        exact last (sC.trans sl2) _ _
      | some k =>
        refine .inr (.inr ⟨(k : Int), rfl, log_lt2 (h20 k rfl), ?_⟩)
        refine ⟨_, rfl, ?_⟩
        refine .inr (.inr ⟨(k : Int), rfl, log_lt2 (h20 k rfl), ?_⟩)
        refine ⟨rfl, _, rfl, iteNS rfl ?_⟩
        have sC := sB2.trans s9
        refine ⟨_, rfl, _, rfl, (by show 2 ≤ sizeLine; decide), fun l2 nl2 => ?_⟩
        have sl2 := same_upd (o := .lst [V.ref W, x]) nl2
        refine ⟨p, .ref l2, _, rfl, tgP sC nl2, psh, _, rfl, rfl, _, rfl, iteNS rfl ?_⟩
        exact last (sC.trans sl2) _ _
end
end Su
namespace Su
open PySem PySem.Spec PyProof.Rows L2
theorem at_mk {K : PySem.W.Frag} {h : Heap} {mg : Str → Option Value} {x : Str} {st : Stmt} {f : Addr} {fd : FuncData} {ps : List Str} (X : K.In h) (G : h.Ns mainGlobals mg) (a : PySem.W.nsIn K mainGlobals x = some (some (.ref f))) (F : Fun K x x st f fd) (b : Binds K fd ps []) : At K mg x st ps :=
  ⟨f, fd, F, PySem.W.mg_of X G a, b⟩
theorem all_mk {l : PySem.W.OpenLaw} {w : World} {K : PySem.W.Frag} {h : Heap} {mg : Str → Option Value} {fa f1 f2 f3 f4 f5 f6 f7 f8 f9 f10 f11 f12 f13 f14 f15 f16 f17 f18 f19 f20 f21 f22 f23 f24 f25 f26 f27 f28 f29 f30 f31 f32 f33 f34 f35 f36 f37 f38 f39 f40 : Addr} {g1 g2 g3 g4 g5 g6 : Tok} {C1 : Addr} {cdC1 : ClassData} {fI1 cda1 cc1 : Addr} {oc_1 doc_1 pm_1 ct_1 ccl1 cl_1 : Value} {od_1 an_1 cdd1 cld1 : Option Addr} {q_1 t_1 file1 : Str} {osl1 ccs1 csl1 : Array (Option Value)} {vs1 : Array Value} {tf1 : Tok} {p1_1 p2_1 r1_1 r2_1 r3_1 r4_1 r5_1 r6_1 q1_1 q2_1 q3_1 q4_1 : Pos} {C2 : Addr} {cdC2 : ClassData} {fI2 cda2 cc2 : Addr} {oc_2 doc_2 pm_2 ct_2 ccl2 cl_2 : Value} {od_2 an_2 cdd2 cld2 : Option Addr} {q_2 t_2 file2 : Str} {osl2 ccs2 csl2 : Array (Option Value)} {vs2 : Array Value} {tf2 : Tok} {p1_2 p2_2 r1_2 r2_2 r3_2 r4_2 r5_2 r6_2 q1_2 q2_2 q3_2 q4_2 : Pos} {C3 : Addr} {cdC3 : ClassData} {fI3 cda3 cc3 : Addr} {oc_3 doc_3 pm_3 ct_3 ccl3 cl_3 : Value} {od_3 an_3 cdd3 cld3 : Option Addr} {q_3 t_3 file3 : Str} {osl3 ccs3 csl3 : Array (Option Value)} {vs3 : Array Value} {tf3 : Tok} {p1_3 p2_3 r1_3 r2_3 r3_3 r4_3 r5_3 r6_3 q1_3 q2_3 q3_3 q4_3 : Pos} {C4 : Addr} {C5 : Addr} {aW aZ : Addr} {u1 u2 u3 u4 u5 u6 u7 : Tok} {dW dZ : Option Addr} {nW nZ : Nat} {slW slZ : Array (Option Value)} {CS : Addr} {fCSinit : Addr} {ocCSinit kVCSinit dcCSinit pmCSinit cdCSinit ctCSinit : Value} {odCSinit anCSinit : Option Addr} {slCSinit : Array (Option Value)} {aDCSinit : Addr} {dDCSinit : Option Addr} {nDCSinit : Nat} {sDCSinit : Array (Option Value)} {tkCSinit_0 tkCSinit_1 : Tok} (X : K.In h) (G : h.Ns mainGlobals mg) (hfa : mg "law" = some (.ref fa))
    {od1 an1 od2 an2 od3 an3 od4 an4 od5 an5 od6 an6 od7 an7 od8 an8 od9 an9 od10 an10 od11 an11 od12 an12 od13 an13 od14 an14 od15 an15 od16 an16 od17 an17 od18 an18 od19 an19 od20 an20 od21 an21 od22 an22 od23 an23 od24 an24 od25 an25 od26 an26 od27 an27 od28 an28 od29 an29 od30 an30 od31 an31 od32 an32 od33 an33 od34 an34 od35 an35 od36 an36 od37 an37 od38 an38 od39 an39 od40 an40 : Option Addr} {sl1 sl2 sl3 sl4 sl5 sl6 sl7 sl8 sl9 sl10 sl11 sl12 sl13 sl14 sl15 sl16 sl17 sl18 sl19 sl20 sl21 sl22 sl23 sl24 sl25 sl26 sl27 sl28 sl29 sl30 sl31 sl32 sl33 sl34 sl35 sl36 sl37 sl38 sl39 sl40 : Array (Option Value)} {oc1 kV1 dc1 pm1 cd1 ct1 oc2 kV2 dc2 pm2 cd2 ct2 oc3 kV3 dc3 pm3 cd3 ct3 oc4 kV4 dc4 pm4 cd4 ct4 oc5 kV5 dc5 pm5 cd5 ct5 oc6 kV6 dc6 pm6 cd6 ct6 oc7 kV7 dc7 pm7 cd7 ct7 oc8 kV8 dc8 pm8 cd8 ct8 oc9 kV9 dc9 pm9 cd9 ct9 oc10 kV10 dc10 pm10 cd10 ct10 oc11 kV11 dc11 pm11 cd11 ct11 oc12 kV12 dc12 pm12 cd12 ct12 oc13 kV13 dc13 pm13 cd13 ct13 oc14 kV14 dc14 pm14 cd14 ct14 oc15 kV15 dc15 pm15 cd15 ct15 oc16 kV16 dc16 pm16 cd16 ct16 oc17 kV17 dc17 pm17 cd17 ct17 oc18 kV18 dc18 pm18 cd18 ct18 oc19 kV19 dc19 pm19 cd19 ct19 oc20 kV20 dc20 pm20 cd20 ct20 oc21 kV21 dc21 pm21 cd21 ct21 oc22 kV22 dc22 pm22 cd22 ct22 oc23 kV23 dc23 pm23 cd23 ct23 oc24 kV24 dc24 pm24 cd24 ct24 oc25 kV25 dc25 pm25 cd25 ct25 oc26 kV26 dc26 pm26 cd26 ct26 oc27 kV27 dc27 pm27 cd27 ct27 oc28 kV28 dc28 pm28 cd28 ct28 oc29 kV29 dc29 pm29 cd29 ct29 oc30 kV30 dc30 pm30 cd30 ct30 oc31 kV31 dc31 pm31 cd31 ct31 oc32 kV32 dc32 pm32 cd32 ct32 oc33 kV33 dc33 pm33 cd33 ct33 oc34 kV34 dc34 pm34 cd34 ct34 oc35 kV35 dc35 pm35 cd35 ct35 oc36 kV36 dc36 pm36 cd36 ct36 oc37 kV37 dc37 pm37 cd37 ct37 oc38 kV38 dc38 pm38 cd38 ct38 oc39 kV39 dc39 pm39 cd39 ct39 oc40 kV40 dc40 pm40 cd40 ct40 : Value}
    (a1 : PySem.W.nsIn K mainGlobals "is_whole" = some (some (.ref f1))) (l1 : K.lookup f1 = some ⟨oc1, od1, .func (PySem.W.fnOf "is_whole" "is_whole" (defArgs s_is_whole) (defBody s_is_whole) (defScope s_is_whole) .none kV1 dc1 pm1 an1 cd1 ct1), sl1⟩) (c1 : PySem.W.codeIn K cd1 "is_whole" = true) (k1 : PySem.W.keepIn K (.ref f1) = true)
    (a2 : PySem.W.nsIn K mainGlobals "is_room" = some (some (.ref f2))) (l2 : K.lookup f2 = some ⟨oc2, od2, .func (PySem.W.fnOf "is_room" "is_room" (defArgs s_is_room) (defBody s_is_room) (defScope s_is_room) .none kV2 dc2 pm2 an2 cd2 ct2), sl2⟩) (c2 : PySem.W.codeIn K cd2 "is_room" = true) (k2 : PySem.W.keepIn K (.ref f2) = true)
    (a3 : PySem.W.nsIn K mainGlobals "are_rising" = some (some (.ref f3))) (l3 : K.lookup f3 = some ⟨oc3, od3, .func (PySem.W.fnOf "are_rising" "are_rising" (defArgs s_are_rising) (defBody s_are_rising) (defScope s_are_rising) .none kV3 dc3 pm3 an3 cd3 ct3), sl3⟩) (c3 : PySem.W.codeIn K cd3 "are_rising" = true) (k3 : PySem.W.keepIn K (.ref f3) = true)
    (a4 : PySem.W.nsIn K mainGlobals "are_rooms" = some (some (.ref f4))) (l4 : K.lookup f4 = some ⟨oc4, od4, .func (PySem.W.fnOf "are_rooms" "are_rooms" (defArgs s_are_rooms) (defBody s_are_rooms) (defScope s_are_rooms) .none kV4 dc4 pm4 an4 cd4 ct4), sl4⟩) (c4 : PySem.W.codeIn K cd4 "are_rooms" = true) (k4 : PySem.W.keepIn K (.ref f4) = true)
    (a5 : PySem.W.nsIn K mainGlobals "is_way" = some (some (.ref f5))) (l5 : K.lookup f5 = some ⟨oc5, od5, .func (PySem.W.fnOf "is_way" "is_way" (defArgs s_is_way) (defBody s_is_way) (defScope s_is_way) .none kV5 dc5 pm5 an5 cd5 ct5), sl5⟩) (c5 : PySem.W.codeIn K cd5 "is_way" = true) (k5 : PySem.W.keepIn K (.ref f5) = true)
    (a6 : PySem.W.nsIn K mainGlobals "is_size" = some (some (.ref f6))) (l6 : K.lookup f6 = some ⟨oc6, od6, .func (PySem.W.fnOf "is_size" "is_size" (defArgs s_is_size) (defBody s_is_size) (defScope s_is_size) .none kV6 dc6 pm6 an6 cd6 ct6), sl6⟩) (c6 : PySem.W.codeIn K cd6 "is_size" = true) (k6 : PySem.W.keepIn K (.ref f6) = true)
    (a7 : PySem.W.nsIn K mainGlobals "how_many_bits" = some (some (.ref f7))) (l7 : K.lookup f7 = some ⟨oc7, od7, .func (PySem.W.fnOf "how_many_bits" "how_many_bits" (defArgs s_how_many_bits) (defBody s_how_many_bits) (defScope s_how_many_bits) .none kV7 dc7 pm7 an7 cd7 ct7), sl7⟩) (c7 : PySem.W.codeIn K cd7 "how_many_bits" = true) (k7 : PySem.W.keepIn K (.ref f7) = true)
    (a8 : PySem.W.nsIn K mainGlobals "is_slot" = some (some (.ref f8))) (l8 : K.lookup f8 = some ⟨oc8, od8, .func (PySem.W.fnOf "is_slot" "is_slot" (defArgs s_is_slot) (defBody s_is_slot) (defScope s_is_slot) .none kV8 dc8 pm8 an8 cd8 ct8), sl8⟩) (c8 : PySem.W.codeIn K cd8 "is_slot" = true) (k8 : PySem.W.keepIn K (.ref f8) = true)
    (a9 : PySem.W.nsIn K mainGlobals "is_bit" = some (some (.ref f9))) (l9 : K.lookup f9 = some ⟨oc9, od9, .func (PySem.W.fnOf "is_bit" "is_bit" (defArgs s_is_bit) (defBody s_is_bit) (defScope s_is_bit) .none kV9 dc9 pm9 an9 cd9 ct9), sl9⟩) (c9 : PySem.W.codeIn K cd9 "is_bit" = true) (k9 : PySem.W.keepIn K (.ref f9) = true)
    (a10 : PySem.W.nsIn K mainGlobals "are_slots" = some (some (.ref f10))) (l10 : K.lookup f10 = some ⟨oc10, od10, .func (PySem.W.fnOf "are_slots" "are_slots" (defArgs s_are_slots) (defBody s_are_slots) (defScope s_are_slots) .none kV10 dc10 pm10 an10 cd10 ct10), sl10⟩) (c10 : PySem.W.codeIn K cd10 "are_slots" = true) (k10 : PySem.W.keepIn K (.ref f10) = true)
    (a11 : PySem.W.nsIn K mainGlobals "are_bits" = some (some (.ref f11))) (l11 : K.lookup f11 = some ⟨oc11, od11, .func (PySem.W.fnOf "are_bits" "are_bits" (defArgs s_are_bits) (defBody s_are_bits) (defScope s_are_bits) .none kV11 dc11 pm11 an11 cd11 ct11), sl11⟩) (c11 : PySem.W.codeIn K cd11 "are_bits" = true) (k11 : PySem.W.keepIn K (.ref f11) = true)
    (a12 : PySem.W.nsIn K mainGlobals "put_first" = some (some (.ref f12))) (l12 : K.lookup f12 = some ⟨oc12, od12, .func (PySem.W.fnOf "put_first" "put_first" (defArgs s_put_first) (defBody s_put_first) (defScope s_put_first) .none kV12 dc12 pm12 an12 cd12 ct12), sl12⟩) (c12 : PySem.W.codeIn K cd12 "put_first" = true) (k12 : PySem.W.keepIn K (.ref f12) = true)
    (a13 : PySem.W.nsIn K mainGlobals "slot_led_to" = some (some (.ref f13))) (l13 : K.lookup f13 = some ⟨oc13, od13, .func (PySem.W.fnOf "slot_led_to" "slot_led_to" (defArgs s_slot_led_to) (defBody s_slot_led_to) (defScope s_slot_led_to) .none kV13 dc13 pm13 an13 cd13 ct13), sl13⟩) (c13 : PySem.W.codeIn K cd13 "slot_led_to" = true) (k13 : PySem.W.keepIn K (.ref f13) = true)
    (a14 : PySem.W.nsIn K mainGlobals "led_away" = some (some (.ref f14))) (l14 : K.lookup f14 = some ⟨oc14, od14, .func (PySem.W.fnOf "led_away" "led_away" (defArgs s_led_away) (defBody s_led_away) (defScope s_led_away) .none kV14 dc14 pm14 an14 cd14 ct14), sl14⟩) (c14 : PySem.W.codeIn K cd14 "led_away" = true) (k14 : PySem.W.keepIn K (.ref f14) = true)
    (a15 : PySem.W.nsIn K mainGlobals "asked_by_tree" = some (some (.ref f15))) (l15 : K.lookup f15 = some ⟨oc15, od15, .func (PySem.W.fnOf "asked_by_tree" "asked_by_tree" (defArgs s_asked_by_tree) (defBody s_asked_by_tree) (defScope s_asked_by_tree) .none kV15 dc15 pm15 an15 cd15 ct15), sl15⟩) (c15 : PySem.W.codeIn K cd15 "asked_by_tree" = true) (k15 : PySem.W.keepIn K (.ref f15) = true)
    (a16 : PySem.W.nsIn K mainGlobals "asked" = some (some (.ref f16))) (l16 : K.lookup f16 = some ⟨oc16, od16, .func (PySem.W.fnOf "asked" "asked" (defArgs s_asked) (defBody s_asked) (defScope s_asked) .none kV16 dc16 pm16 an16 cd16 ct16), sl16⟩) (c16 : PySem.W.codeIn K cd16 "asked" = true) (k16 : PySem.W.keepIn K (.ref f16) = true)
    (a17 : PySem.W.nsIn K mainGlobals "are_tos" = some (some (.ref f17))) (l17 : K.lookup f17 = some ⟨oc17, od17, .func (PySem.W.fnOf "are_tos" "are_tos" (defArgs s_are_tos) (defBody s_are_tos) (defScope s_are_tos) .none kV17 dc17 pm17 an17 cd17 ct17), sl17⟩) (c17 : PySem.W.codeIn K cd17 "are_tos" = true) (k17 : PySem.W.keepIn K (.ref f17) = true)
    (a18 : PySem.W.nsIn K mainGlobals "is_row" = some (some (.ref f18))) (l18 : K.lookup f18 = some ⟨oc18, od18, .func (PySem.W.fnOf "is_row" "is_row" (defArgs s_is_row) (defBody s_is_row) (defScope s_is_row) .none kV18 dc18 pm18 an18 cd18 ct18), sl18⟩) (c18 : PySem.W.codeIn K cd18 "is_row" = true) (k18 : PySem.W.keepIn K (.ref f18) = true)
    (a19 : PySem.W.nsIn K mainGlobals "rooms_in" = some (some (.ref f19))) (l19 : K.lookup f19 = some ⟨oc19, od19, .func (PySem.W.fnOf "rooms_in" "rooms_in" (defArgs s_rooms_in) (defBody s_rooms_in) (defScope s_rooms_in) .none kV19 dc19 pm19 an19 cd19 ct19), sl19⟩) (c19 : PySem.W.codeIn K cd19 "rooms_in" = true) (k19 : PySem.W.keepIn K (.ref f19) = true)
    (a20 : PySem.W.nsIn K mainGlobals "look_at_web" = some (some (.ref f20))) (l20 : K.lookup f20 = some ⟨oc20, od20, .func (PySem.W.fnOf "look_at_web" "look_at_web" (defArgs s_look_at_web) (defBody s_look_at_web) (defScope s_look_at_web) .none kV20 dc20 pm20 an20 cd20 ct20), sl20⟩) (c20 : PySem.W.codeIn K cd20 "look_at_web" = true) (k20 : PySem.W.keepIn K (.ref f20) = true)
    (a21 : PySem.W.nsIn K mainGlobals "is_ask_of" = some (some (.ref f21))) (l21 : K.lookup f21 = some ⟨oc21, od21, .func (PySem.W.fnOf "is_ask_of" "is_ask_of" (defArgs s_is_ask_of) (defBody s_is_ask_of) (defScope s_is_ask_of) .none kV21 dc21 pm21 an21 cd21 ct21), sl21⟩) (c21 : PySem.W.codeIn K cd21 "is_ask_of" = true) (k21 : PySem.W.keepIn K (.ref f21) = true)
    (a22 : PySem.W.nsIn K mainGlobals "is_step" = some (some (.ref f22))) (l22 : K.lookup f22 = some ⟨oc22, od22, .func (PySem.W.fnOf "is_step" "is_step" (defArgs s_is_step) (defBody s_is_step) (defScope s_is_step) .none kV22 dc22 pm22 an22 cd22 ct22), sl22⟩) (c22 : PySem.W.codeIn K cd22 "is_step" = true) (k22 : PySem.W.keepIn K (.ref f22) = true)
    (a23 : PySem.W.nsIn K mainGlobals "look_at_run" = some (some (.ref f23))) (l23 : K.lookup f23 = some ⟨oc23, od23, .func (PySem.W.fnOf "look_at_run" "look_at_run" (defArgs s_look_at_run) (defBody s_look_at_run) (defScope s_look_at_run) .none kV23 dc23 pm23 an23 cd23 ct23), sl23⟩) (c23 : PySem.W.codeIn K cd23 "look_at_run" = true) (k23 : PySem.W.keepIn K (.ref f23) = true)
    (a24 : PySem.W.nsIn K mainGlobals "is_run" = some (some (.ref f24))) (l24 : K.lookup f24 = some ⟨oc24, od24, .func (PySem.W.fnOf "is_run" "is_run" (defArgs s_is_run) (defBody s_is_run) (defScope s_is_run) .none kV24 dc24 pm24 an24 cd24 ct24), sl24⟩) (c24 : PySem.W.codeIn K cd24 "is_run" = true) (k24 : PySem.W.keepIn K (.ref f24) = true)
    (a25 : PySem.W.nsIn K mainGlobals "along" = some (some (.ref f25))) (l25 : K.lookup f25 = some ⟨oc25, od25, .func (PySem.W.fnOf "along" "along" (defArgs s_along) (defBody s_along) (defScope s_along) .none kV25 dc25 pm25 an25 cd25 ct25), sl25⟩) (c25 : PySem.W.codeIn K cd25 "along" = true) (k25 : PySem.W.keepIn K (.ref f25) = true)
    (a26 : PySem.W.nsIn K mainGlobals "wrong_part" = some (some (.ref f26))) (l26 : K.lookup f26 = some ⟨oc26, od26, .func (PySem.W.fnOf "wrong_part" "wrong_part" (defArgs s_wrong_part) (defBody s_wrong_part) (defScope s_wrong_part) .none kV26 dc26 pm26 an26 cd26 ct26), sl26⟩) (c26 : PySem.W.codeIn K cd26 "wrong_part" = true) (k26 : PySem.W.keepIn K (.ref f26) = true)
    (a27 : PySem.W.nsIn K mainGlobals "look_at_room" = some (some (.ref f27))) (l27 : K.lookup f27 = some ⟨oc27, od27, .func (PySem.W.fnOf "look_at_room" "look_at_room" (defArgs s_look_at_room) (defBody s_look_at_room) (defScope s_look_at_room) .none kV27 dc27 pm27 an27 cd27 ct27), sl27⟩) (c27 : PySem.W.codeIn K cd27 "look_at_room" = true) (k27 : PySem.W.keepIn K (.ref f27) = true)
    (a28 : PySem.W.nsIn K mainGlobals "_law_pool" = some (some (.ref f28))) (l28 : K.lookup f28 = some ⟨oc28, od28, .func (PySem.W.fnOf "_law_pool" "_law_pool" (defArgs s_law_pool) (defBody s_law_pool) (defScope s_law_pool) .none kV28 dc28 pm28 an28 cd28 ct28), sl28⟩) (c28 : PySem.W.codeIn K cd28 "_law_pool" = true) (k28 : PySem.W.keepIn K (.ref f28) = true)
    (a29 : PySem.W.nsIn K mainGlobals "_law_take" = some (some (.ref f29))) (l29 : K.lookup f29 = some ⟨oc29, od29, .func (PySem.W.fnOf "_law_take" "_law_take" (defArgs s_law_take) (defBody s_law_take) (defScope s_law_take) .none kV29 dc29 pm29 an29 cd29 ct29), sl29⟩) (c29 : PySem.W.codeIn K cd29 "_law_take" = true) (k29 : PySem.W.keepIn K (.ref f29) = true)
    (a30 : PySem.W.nsIn K mainGlobals "_law_picked" = some (some (.ref f30))) (l30 : K.lookup f30 = some ⟨oc30, od30, .func (PySem.W.fnOf "_law_picked" "_law_picked" (defArgs s_law_picked) (defBody s_law_picked) (defScope s_law_picked) .none kV30 dc30 pm30 an30 cd30 ct30), sl30⟩) (c30 : PySem.W.codeIn K cd30 "_law_picked" = true) (k30 : PySem.W.keepIn K (.ref f30) = true)
    (a31 : PySem.W.nsIn K mainGlobals "_law_tos" = some (some (.ref f31))) (l31 : K.lookup f31 = some ⟨oc31, od31, .func (PySem.W.fnOf "_law_tos" "_law_tos" (defArgs s_law_tos) (defBody s_law_tos) (defScope s_law_tos) .none kV31 dc31 pm31 an31 cd31 ct31), sl31⟩) (c31 : PySem.W.codeIn K cd31 "_law_tos" = true) (k31 : PySem.W.keepIn K (.ref f31) = true)
    (a32 : PySem.W.nsIn K mainGlobals "_law_web" = some (some (.ref f32))) (l32 : K.lookup f32 = some ⟨oc32, od32, .func (PySem.W.fnOf "_law_web" "_law_web" (defArgs s_law_web) (defBody s_law_web) (defScope s_law_web) .none kV32 dc32 pm32 an32 cd32 ct32), sl32⟩) (c32 : PySem.W.codeIn K cd32 "_law_web" = true) (k32 : PySem.W.keepIn K (.ref f32) = true)
    (a33 : PySem.W.nsIn K mainGlobals "_law_whole" = some (some (.ref f33))) (l33 : K.lookup f33 = some ⟨oc33, od33, .func (PySem.W.fnOf "_law_whole" "_law_whole" (defArgs s_law_whole) (defBody s_law_whole) (defScope s_law_whole) .none kV33 dc33 pm33 an33 cd33 ct33), sl33⟩) (c33 : PySem.W.codeIn K cd33 "_law_whole" = true) (k33 : PySem.W.keepIn K (.ref f33) = true)
    (a34 : PySem.W.nsIn K mainGlobals "_law_run" = some (some (.ref f34))) (l34 : K.lookup f34 = some ⟨oc34, od34, .func (PySem.W.fnOf "_law_run" "_law_run" (defArgs s_law_run) (defBody s_law_run) (defScope s_law_run) .none kV34 dc34 pm34 an34 cd34 ct34), sl34⟩) (c34 : PySem.W.codeIn K cd34 "_law_run" = true) (k34 : PySem.W.keepIn K (.ref f34) = true)
    (a35 : PySem.W.nsIn K mainGlobals "_law_number" = some (some (.ref f35))) (l35 : K.lookup f35 = some ⟨oc35, od35, .func (PySem.W.fnOf "_law_number" "_law_number" (defArgs s_law_number) (defBody s_law_number) (defScope s_law_number) .none kV35 dc35 pm35 an35 cd35 ct35), sl35⟩) (c35 : PySem.W.codeIn K cd35 "_law_number" = true) (k35 : PySem.W.keepIn K (.ref f35) = true)
    (a36 : PySem.W.nsIn K mainGlobals "_law_bent" = some (some (.ref f36))) (l36 : K.lookup f36 = some ⟨oc36, od36, .func (PySem.W.fnOf "_law_bent" "_law_bent" (defArgs s_law_bent) (defBody s_law_bent) (defScope s_law_bent) .none kV36 dc36 pm36 an36 cd36 ct36), sl36⟩) (c36 : PySem.W.codeIn K cd36 "_law_bent" = true) (k36 : PySem.W.keepIn K (.ref f36) = true)
    (a37 : PySem.W.nsIn K mainGlobals "_law_refused" = some (some (.ref f37))) (l37 : K.lookup f37 = some ⟨oc37, od37, .func (PySem.W.fnOf "_law_refused" "_law_refused" (defArgs s_law_refused) (defBody s_law_refused) (defScope s_law_refused) .none kV37 dc37 pm37 an37 cd37 ct37), sl37⟩) (c37 : PySem.W.codeIn K cd37 "_law_refused" = true) (k37 : PySem.W.keepIn K (.ref f37) = true)
    (a38 : PySem.W.nsIn K mainGlobals "_law_no_web" = some (some (.ref f38))) (l38 : K.lookup f38 = some ⟨oc38, od38, .func (PySem.W.fnOf "_law_no_web" "_law_no_web" (defArgs s_law_no_web) (defBody s_law_no_web) (defScope s_law_no_web) .none kV38 dc38 pm38 an38 cd38 ct38), sl38⟩) (c38 : PySem.W.codeIn K cd38 "_law_no_web" = true) (k38 : PySem.W.keepIn K (.ref f38) = true)
    (a39 : PySem.W.nsIn K mainGlobals "_law_doors" = some (some (.ref f39))) (l39 : K.lookup f39 = some ⟨oc39, od39, .func (PySem.W.fnOf "_law_doors" "_law_doors" (defArgs s_law_doors) (defBody s_law_doors) (defScope s_law_doors) .none kV39 dc39 pm39 an39 cd39 ct39), sl39⟩) (c39 : PySem.W.codeIn K cd39 "_law_doors" = true) (k39 : PySem.W.keepIn K (.ref f39) = true)
    (a40 : PySem.W.nsIn K mainGlobals "law" = some (some (.ref f40))) (l40 : K.lookup f40 = some ⟨oc40, od40, .func (PySem.W.fnOf "law" "law" (defArgs s_law) (defBody s_law) (defScope s_law) .none kV40 dc40 pm40 an40 cd40 ct40), sl40⟩) (c40 : PySem.W.codeIn K cd40 "law" = true) (k40 : PySem.W.keepIn K (.ref f40) = true)
    (m1 : PySem.W.nsIn K mainGlobals "LAST_ROOM" = some (some (.int 99 g1)))
    (m2 : PySem.W.nsIn K mainGlobals "MOST_SLOTS" = some (some (.int 8 g2)))
    (m3 : PySem.W.nsIn K mainGlobals "EMPTY" = some (some (.int (-1) g3)))
    (m4 : PySem.W.nsIn K mainGlobals "MOST_ROWS" = some (some (.int 80 g4)))
    (m5 : PySem.W.nsIn K mainGlobals "MOST_ROOMS" = some (some (.int 12 g5)))
    (m6 : PySem.W.nsIn K mainGlobals "MOST_STEPS" = some (some (.int 20000 g6)))
    (eg1 : PySem.W.nsIn K mainGlobals "NoWeb" = some (some (.ref C1)))
    (ek1 : PySem.W.keepIn K (.ref C1) = true)
    (ex1 : PySem.W.subIn K (.ref C1) (.type "BaseException") = some true)
    (et1 : PySem.W.typeIn K (.ref C1) = some (.type "type"))
    (ec1 : PySem.W.clsIn K C1 = some cdC1)
    (ga1 : PySem.W.findIn K (.ref C1) "__getattribute__" = some (some (.builtin "BaseException.__getattribute__")))
    (gg1 : PySem.W.findIn K (.ref C1) "__getattr__" = some none)
    (gc1 : PySem.W.findIn K (.ref C1) "__class__" = some (some (.builtin "object.__class__")))
    (mo1 : PySem.W.mroIn K C1 (.type "object") = some true)
    (ed1 : PySem.W.hasDictIn K C1 = true)
    (ei1 : PySem.W.excInitIn K C1 [.type "ValueError", .type "Exception", .type "BaseException", .type "object"] "ValueError.__new__" = true)
    (eo1 : PySem.W.excOver K C1 [.type "ValueError", .type "Exception", .type "BaseException", .type "object"] = true)
    (es1 : PySem.W.findIn K (.ref C1) "__setattr__" = some (some (.builtin "object.__setattr__")))
    (en1 : PySem.W.findIn K (.ref C1) "row" = some none)
    (ef1 : PySem.W.findIn K (.ref C1) "__init__" = some (some (.ref fI1)))
    (eh1 : PySem.W.isFn K (.ref fI1) = true)
    (ev1 : PySem.W.subIn K (.ref C1) (.type "ValueError") = some true)
    (eu1 : PySem.W.ks_superIn K C1 C1 "__init__" = some (some (.builtin "ValueError.__init__")))
    (em1 : PySem.W.mroIn K C1 (.ref C1) = some true)
    (el1 : K.lookup fI1 = some ⟨oc_1, od_1, .func (PySem.W.ksFn "__init__" q_1 (XC.inA "row" p1_1 p2_1) (XC.inB "row" t_1 r1_1 r2_1 r3_1 r4_1 r5_1 r6_1 q1_1 q2_1 q3_1 q4_1) (XC.inS "row") .none .none doc_1 pm_1 an_1 (.ref cda1) ct_1 cc1), osl1⟩)
    (eq1 : PySem.W.codeIn K (.ref cda1) q_1 = true)
    (ew1 : K.lookup cda1 = some ⟨ccl1, cdd1, .fields vs1, ccs1⟩)
    (ey1 : vs1[2]? = some (.str file1 tf1))
    (ez1 : ((l.prog.main.file : Str) == file1) = true)
    (ea1 : (r3_1.endLine == r5_1.line) = true)
    (eb1 : K.lookup cc1 = some ⟨cl_1, cld1, .cell (some (.ref C1)), csl1⟩)
    (eg2 : PySem.W.nsIn K mainGlobals "NoRun" = some (some (.ref C2)))
    (ek2 : PySem.W.keepIn K (.ref C2) = true)
    (ex2 : PySem.W.subIn K (.ref C2) (.type "BaseException") = some true)
    (et2 : PySem.W.typeIn K (.ref C2) = some (.type "type"))
    (ec2 : PySem.W.clsIn K C2 = some cdC2)
    (ga2 : PySem.W.findIn K (.ref C2) "__getattribute__" = some (some (.builtin "BaseException.__getattribute__")))
    (gg2 : PySem.W.findIn K (.ref C2) "__getattr__" = some none)
    (gc2 : PySem.W.findIn K (.ref C2) "__class__" = some (some (.builtin "object.__class__")))
    (mo2 : PySem.W.mroIn K C2 (.type "object") = some true)
    (ed2 : PySem.W.hasDictIn K C2 = true)
    (ei2 : PySem.W.excInitIn K C2 [.type "ValueError", .type "Exception", .type "BaseException", .type "object"] "ValueError.__new__" = true)
    (eo2 : PySem.W.excOver K C2 [.type "ValueError", .type "Exception", .type "BaseException", .type "object"] = true)
    (es2 : PySem.W.findIn K (.ref C2) "__setattr__" = some (some (.builtin "object.__setattr__")))
    (en2 : PySem.W.findIn K (.ref C2) "number" = some none)
    (ef2 : PySem.W.findIn K (.ref C2) "__init__" = some (some (.ref fI2)))
    (eh2 : PySem.W.isFn K (.ref fI2) = true)
    (ev2 : PySem.W.subIn K (.ref C2) (.type "ValueError") = some true)
    (eu2 : PySem.W.ks_superIn K C2 C2 "__init__" = some (some (.builtin "ValueError.__init__")))
    (em2 : PySem.W.mroIn K C2 (.ref C2) = some true)
    (el2 : K.lookup fI2 = some ⟨oc_2, od_2, .func (PySem.W.ksFn "__init__" q_2 (XC.inA "number" p1_2 p2_2) (XC.inB "number" t_2 r1_2 r2_2 r3_2 r4_2 r5_2 r6_2 q1_2 q2_2 q3_2 q4_2) (XC.inS "number") .none .none doc_2 pm_2 an_2 (.ref cda2) ct_2 cc2), osl2⟩)
    (eq2 : PySem.W.codeIn K (.ref cda2) q_2 = true)
    (ew2 : K.lookup cda2 = some ⟨ccl2, cdd2, .fields vs2, ccs2⟩)
    (ey2 : vs2[2]? = some (.str file2 tf2))
    (ez2 : ((l.prog.main.file : Str) == file2) = true)
    (ea2 : (r3_2.endLine == r5_2.line) = true)
    (eb2 : K.lookup cc2 = some ⟨cl_2, cld2, .cell (some (.ref C2)), csl2⟩)
    (eg3 : PySem.W.nsIn K mainGlobals "NoShelf" = some (some (.ref C3)))
    (ek3 : PySem.W.keepIn K (.ref C3) = true)
    (ex3 : PySem.W.subIn K (.ref C3) (.type "BaseException") = some true)
    (et3 : PySem.W.typeIn K (.ref C3) = some (.type "type"))
    (ec3 : PySem.W.clsIn K C3 = some cdC3)
    (ga3 : PySem.W.findIn K (.ref C3) "__getattribute__" = some (some (.builtin "BaseException.__getattribute__")))
    (gg3 : PySem.W.findIn K (.ref C3) "__getattr__" = some none)
    (gc3 : PySem.W.findIn K (.ref C3) "__class__" = some (some (.builtin "object.__class__")))
    (mo3 : PySem.W.mroIn K C3 (.type "object") = some true)
    (ed3 : PySem.W.hasDictIn K C3 = true)
    (ei3 : PySem.W.excInitIn K C3 [.type "ValueError", .type "Exception", .type "BaseException", .type "object"] "ValueError.__new__" = true)
    (eo3 : PySem.W.excOver K C3 [.type "ValueError", .type "Exception", .type "BaseException", .type "object"] = true)
    (es3 : PySem.W.findIn K (.ref C3) "__setattr__" = some (some (.builtin "object.__setattr__")))
    (en3 : PySem.W.findIn K (.ref C3) "part" = some none)
    (ef3 : PySem.W.findIn K (.ref C3) "__init__" = some (some (.ref fI3)))
    (eh3 : PySem.W.isFn K (.ref fI3) = true)
    (ev3 : PySem.W.subIn K (.ref C3) (.type "ValueError") = some true)
    (eu3 : PySem.W.ks_superIn K C3 C3 "__init__" = some (some (.builtin "ValueError.__init__")))
    (em3 : PySem.W.mroIn K C3 (.ref C3) = some true)
    (el3 : K.lookup fI3 = some ⟨oc_3, od_3, .func (PySem.W.ksFn "__init__" q_3 (XC.inA "part" p1_3 p2_3) (XC.inB "part" t_3 r1_3 r2_3 r3_3 r4_3 r5_3 r6_3 q1_3 q2_3 q3_3 q4_3) (XC.inS "part") .none .none doc_3 pm_3 an_3 (.ref cda3) ct_3 cc3), osl3⟩)
    (eq3 : PySem.W.codeIn K (.ref cda3) q_3 = true)
    (ew3 : K.lookup cda3 = some ⟨ccl3, cdd3, .fields vs3, ccs3⟩)
    (ey3 : vs3[2]? = some (.str file3 tf3))
    (ez3 : ((l.prog.main.file : Str) == file3) = true)
    (ea3 : (r3_3.endLine == r5_3.line) = true)
    (eb3 : K.lookup cc3 = some ⟨cl_3, cld3, .cell (some (.ref C3)), csl3⟩)
    (eg4 : PySem.W.nsIn K mainGlobals "HandError" = some (some (.ref C4)))
    (spG : PySem.W.specialIn K (.builtin "object.__class__") "__get__" = some (some (.builtin "getset_descriptor.__get__")))
    (tkG : PySem.W.takesIn K (.builtin "object.__class__") = some true)
    (nsG : PySem.W.nsIn K mainGlobals "super" = some none)
    (opG : PySem.W.nsIn K cStatics "thirdparty.any" = some none)
    (ntG : (l.prog.main.scope.names.lookup ("super" : Str)).isSome = false)
    (eg5 : PySem.W.nsIn K mainGlobals "NoText" = some (some (.ref C5)))
    (veN : PySem.W.nsIn K mainGlobals "ValueError" = some none)
    (xr : PySem.W.exmOne K (.ref C2) (.ref C4) = some true)
    (xrr : PySem.W.exmOne K (.ref C2) (.ref C2) = some true)
    (xww : PySem.W.exmOne K (.ref C1) (.ref C1) = some true)
    (irr : PySem.W.kitOne K (.ref C2) (.ref C2) = some true)
    (irv : PySem.W.kitOne K (.ref C2) (.type "ValueError") = some true)
    (iro : PySem.W.kitAny K (.ref C2) [.ref C5, .ref C1] = some false)
    (mW : PySem.W.nsIn K mainGlobals "WAYS" = some (some (.ref aW)))
    (mW2 : K.lookup aW = some ⟨.type "tuple", dW, .seq #[.str "last" u1, .str "first" u2, .str "tree" u3] nW, slW⟩)
    (mZ : PySem.W.nsIn K mainGlobals "TREE_SIZES" = some (some (.ref aZ)))
    (mZ2 : K.lookup aZ = some ⟨.type "tuple", dZ, .seq #[.int 1 u4, .int 2 u5, .int 4 u6, .int 8 u7] nZ, slZ⟩)
    (cgCS : PySem.W.nsIn K mainGlobals "Shelf" = some (some (.ref CS)))
    (ckCS : PySem.W.keepIn K (.ref CS) = true)
    (cmCS : PySem.W.makesIn K CS = true)
    (cpCS : PySem.W.plainGet K CS Str.empty = true)
    (cdCS : PySem.W.hasDictIn K CS = true)
    (coCS : PySem.W.plainOver K CS = true)
    (csCS : PySem.W.findIn K (.ref CS) "__setattr__" = some (some (.builtin "object.__setattr__")))
    (cfCS0 : PySem.W.findIn K (.ref CS) "many" = some none)
    (cfCS1 : PySem.W.findIn K (.ref CS) "kept_by" = some none)
    (cfCS2 : PySem.W.findIn K (.ref CS) "slots" = some none)
    (cfCS3 : PySem.W.findIn K (.ref CS) "bits" = some none)
    (cfCS4 : PySem.W.findIn K (.ref CS) "near" = some none)
    (cfCS5 : PySem.W.findIn K (.ref CS) "far" = some none)
    (maCSinit : PySem.W.findIn K (.ref CS) "__init__" = some (some (.ref fCSinit)))
    (miCSinit : PySem.W.isFn K (.ref fCSinit) = true)
    (mkCSinit : PySem.W.keepIn K (.ref fCSinit) = true)
    (mlCSinit : K.lookup fCSinit = some ⟨ocCSinit, odCSinit, .func (PySem.W.fnOf "__init__" "Shelf.__init__" (defArgs sS_init) (defBody sS_init) (defScope sS_init) (.ref aDCSinit) kVCSinit dcCSinit pmCSinit anCSinit cdCSinit ctCSinit), slCSinit⟩)
    (mcCSinit : PySem.W.codeIn K cdCSinit "Shelf.__init__" = true)
    (mqCSinit : K.lookup aDCSinit = some ⟨.type "tuple", dDCSinit, .seq #[.int 4 tkCSinit_0, .str "last" tkCSinit_1, .none, .none] nDCSinit, sDCSinit⟩)
    (z1 : PySem.W.nsIn K mainGlobals "len" = some none) (z2 : PySem.W.nsIn K mainGlobals "sum" = some none) (z3 : PySem.W.nsIn K mainGlobals "abs" = some none) (z4 : PySem.W.nsIn K mainGlobals "int" = some none) (z5 : PySem.W.nsIn K mainGlobals "min" = some none) (z6 : PySem.W.nsIn K mainGlobals "max" = some none) (z7 : PySem.W.nsIn K mainGlobals "range" = some none) (z8 : PySem.W.nsIn K mainGlobals "sorted" = some none) (z9 : PySem.W.nsIn K mainGlobals "list" = some none) (z10 : PySem.W.nsIn K mainGlobals "tuple" = some none) (z11 : PySem.W.nsIn K mainGlobals "repr" = some none) (z12 : PySem.W.nsIn K mainGlobals "set" = some none) (z13 : PySem.W.nsIn K mainGlobals "all" = some none) (z14 : PySem.W.nsIn K mainGlobals "isinstance" = some none) (z15 : PySem.W.nsIn K mainGlobals "str" = some none) (z16 : PySem.W.nsIn K mainGlobals "bool" = some none) (z17 : PySem.W.nsIn K mainGlobals "reversed" = some none) (z18 : PySem.W.nsIn K mainGlobals "enumerate" = some none) (z19 : PySem.W.nsIn K mainGlobals "zip" = some none) (z20 : PySem.W.nsIn K mainGlobals "any" = some none) (z21 : PySem.W.nsIn K mainGlobals "dict" = some none) :
    ∃ fd : FuncData, (∀ (s : Shared) (v : Value), BindsTo s fd ⟨[v], []⟩ [("_law_script", v)]) ∧ ∀ base : Heap, K.In base → base.Ns mainGlobals mg → FnG l.prog w K mg base CX0 10 fa fd ["_law_script"] (spLaw K) := by
  have e := hfa.symm.trans (PySem.W.mg_of X G a40)
  cases e
  have B : Bt mg := ⟨PySem.W.mg_none_of X G z1, PySem.W.mg_none_of X G z2, PySem.W.mg_none_of X G z3, PySem.W.mg_none_of X G z4, PySem.W.mg_none_of X G z5, PySem.W.mg_none_of X G z6, PySem.W.mg_none_of X G z7, PySem.W.mg_none_of X G z8, PySem.W.mg_none_of X G z9, PySem.W.mg_none_of X G z10, PySem.W.mg_none_of X G z11, PySem.W.mg_none_of X G z12, PySem.W.mg_none_of X G z13, PySem.W.mg_none_of X G z14, PySem.W.mg_none_of X G z15, PySem.W.mg_none_of X G z16, PySem.W.mg_none_of X G z17, PySem.W.mg_none_of X G z18, PySem.W.mg_none_of X G z19, PySem.W.mg_none_of X G z20, PySem.W.mg_none_of X G z21⟩
  have F1 := fun_mk (st := s_is_whole) l1 c1 k1
  have b1 := F1.binds (ps := ["thing"]) fun _ _ _ _ _ _ us hl => match us, hl with | [_], _ => rfl
  have T1 := at_mk X G a1 F1 b1
  have F2 := fun_mk (st := s_is_room) l2 c2 k2
  have b2 := F2.binds (ps := ["thing"]) fun _ _ _ _ _ _ us hl => match us, hl with | [_], _ => rfl
  have T2 := at_mk X G a2 F2 b2
  have F3 := fun_mk (st := s_are_rising) l3 c3 k3
  have b3 := F3.binds (ps := ["numbers"]) fun _ _ _ _ _ _ us hl => match us, hl with | [_], _ => rfl
  have T3 := at_mk X G a3 F3 b3
  have F4 := fun_mk (st := s_are_rooms) l4 c4 k4
  have b4 := F4.binds (ps := ["thing", "least", "most"]) fun _ _ _ _ _ _ us hl => match us, hl with | [_, _, _], _ => rfl
  have T4 := at_mk X G a4 F4 b4
  have F5 := fun_mk (st := s_is_way) l5 c5 k5
  have b5 := F5.binds (ps := ["thing"]) fun _ _ _ _ _ _ us hl => match us, hl with | [_], _ => rfl
  have T5 := at_mk X G a5 F5 b5
  have F6 := fun_mk (st := s_is_size) l6 c6 k6
  have b6 := F6.binds (ps := ["thing", "way"]) fun _ _ _ _ _ _ us hl => match us, hl with | [_, _], _ => rfl
  have T6 := at_mk X G a6 F6 b6
  have F7 := fun_mk (st := s_how_many_bits) l7 c7 k7
  have b7 := F7.binds (ps := ["size", "way"]) fun _ _ _ _ _ _ us hl => match us, hl with | [_, _], _ => rfl
  have T7 := at_mk X G a7 F7 b7
  have F8 := fun_mk (st := s_is_slot) l8 c8 k8
  have b8 := F8.binds (ps := ["thing"]) fun _ _ _ _ _ _ us hl => match us, hl with | [_], _ => rfl
  have T8 := at_mk X G a8 F8 b8
  have F9 := fun_mk (st := s_is_bit) l9 c9 k9
  have b9 := F9.binds (ps := ["thing"]) fun _ _ _ _ _ _ us hl => match us, hl with | [_], _ => rfl
  have T9 := at_mk X G a9 F9 b9
  have F10 := fun_mk (st := s_are_slots) l10 c10 k10
  have b10 := F10.binds (ps := ["thing", "size"]) fun _ _ _ _ _ _ us hl => match us, hl with | [_, _], _ => rfl
  have T10 := at_mk X G a10 F10 b10
  have F11 := fun_mk (st := s_are_bits) l11 c11 k11
  have b11 := F11.binds (ps := ["thing", "size", "way"]) fun _ _ _ _ _ _ us hl => match us, hl with | [_, _, _], _ => rfl
  have T11 := at_mk X G a11 F11 b11
  have F12 := fun_mk (st := s_put_first) l12 c12 k12
  have b12 := F12.binds (ps := ["slots", "room"]) fun _ _ _ _ _ _ us hl => match us, hl with | [_, _], _ => rfl
  have T12 := at_mk X G a12 F12 b12
  have F13 := fun_mk (st := s_slot_led_to) l13 c13 k13
  have b13 := F13.binds (ps := ["bits", "size"]) fun _ _ _ _ _ _ us hl => match us, hl with | [_, _], _ => rfl
  have T13 := at_mk X G a13 F13 b13
  have F14 := fun_mk (st := s_led_away) l14 c14 k14
  have b14 := F14.binds (ps := ["bits", "slot", "size"]) fun _ _ _ _ _ _ us hl => match us, hl with | [_, _, _], _ => rfl
  have T14 := at_mk X G a14 F14 b14
  have F15 := fun_mk (st := s_asked_by_tree) l15 c15 k15
  have b15 := F15.binds (ps := ["slots", "bits", "room"]) fun _ _ _ _ _ _ us hl => match us, hl with | [_, _, _], _ => rfl
  have T15 := at_mk X G a15 F15 b15
  have F16 := fun_mk (st := s_asked) l16 c16 k16
  have b16 := F16.binds (ps := ["lay", "room", "way"]) fun _ _ _ _ _ _ us hl => match us, hl with | [_, _, _], _ => rfl
  have T16 := at_mk X G a16 F16 b16
  have F17 := fun_mk (st := s_are_tos) l17 c17 k17
  have b17 := F17.binds (ps := ["thing", "rows"]) fun _ _ _ _ _ _ us hl => match us, hl with | [_, _], _ => rfl
  have T17 := at_mk X G a17 F17 b17
  have F18 := fun_mk (st := s_is_row) l18 c18 k18
  have b18 := F18.binds (ps := ["thing", "rows"]) fun _ _ _ _ _ _ us hl => match us, hl with | [_, _], _ => rfl
  have T18 := at_mk X G a18 F18 b18
  have F19 := fun_mk (st := s_rooms_in) l19 c19 k19
  have b19 := F19.binds (ps := ["rows"]) fun _ _ _ _ _ _ us hl => match us, hl with | [_], _ => rfl
  have T19 := at_mk X G a19 F19 b19
  have F20 := fun_mk (st := s_look_at_web) l20 c20 k20
  have b20 := F20.binds (ps := ["thing"]) fun _ _ _ _ _ _ us hl => match us, hl with | [_], _ => rfl
  have T20 := at_mk X G a20 F20 b20
  have F21 := fun_mk (st := s_is_ask_of) l21 c21 k21
  have b21 := F21.binds (ps := ["rooms", "thing"]) fun _ _ _ _ _ _ us hl => match us, hl with | [_, _], _ => rfl
  have T21 := at_mk X G a21 F21 b21
  have F22 := fun_mk (st := s_is_step) l22 c22 k22
  have b22 := F22.binds (ps := ["web", "tos", "thing"]) fun _ _ _ _ _ _ us hl => match us, hl with | [_, _, _], _ => rfl
  have T22 := at_mk X G a22 F22 b22
  have F23 := fun_mk (st := s_look_at_run) l23 c23 k23
  have b23 := F23.binds (ps := ["web", "thing"]) fun _ _ _ _ _ _ us hl => match us, hl with | [_, _], _ => rfl
  have T23 := at_mk X G a23 F23 b23
  have F24 := fun_mk (st := s_is_run) l24 c24 k24
  have b24 := F24.binds (ps := ["web", "thing"]) fun _ _ _ _ _ _ us hl => match us, hl with | [_, _], _ => rfl
  have T24 := at_mk X G a24 F24 b24
  have F25 := fun_mk (st := s_along) l25 c25 k25
  have b25 := F25.binds (ps := ["web", "run", "shelf"]) fun _ _ _ _ _ _ us hl => match us, hl with | [_, _, _], _ => rfl
  have T25 := at_mk X G a25 F25 b25
  have F26 := fun_mk (st := s_wrong_part) l26 c26 k26
  have b26 := F26.binds (ps := ["size", "way", "slots", "bits"]) fun _ _ _ _ _ _ us hl => match us, hl with | [_, _, _, _], _ => rfl
  have T26 := at_mk X G a26 F26 b26
  have F27 := fun_mk (st := s_look_at_room) l27 c27 k27
  have b27 := F27.binds (ps := ["thing"]) fun _ _ _ _ _ _ us hl => match us, hl with | [_], _ => rfl
  have T27 := at_mk X G a27 F27 b27
  have F28 := fun_mk (st := s_law_pool) l28 c28 k28
  have b28 := F28.binds (ps := ["_law_script", "_law_k"]) fun _ _ _ _ _ _ us hl => match us, hl with | [_, _], _ => rfl
  have T28 := at_mk X G a28 F28 b28
  have F29 := fun_mk (st := s_law_take) l29 c29 k29
  have b29 := F29.binds (ps := ["_law_pool_here", "_law_many"]) fun _ _ _ _ _ _ us hl => match us, hl with | [_, _], _ => rfl
  have T29 := at_mk X G a29 F29 b29
  have F30 := fun_mk (st := s_law_picked) l30 c30 k30
  have b30 := F30.binds (ps := ["_law_pool_here", "_law_some", "_law_many"]) fun _ _ _ _ _ _ us hl => match us, hl with | [_, _, _], _ => rfl
  have T30 := at_mk X G a30 F30 b30
  have F31 := fun_mk (st := s_law_tos) l31 c31 k31
  have b31 := F31.binds (ps := ["_law_pool_here", "_law_row", "_law_many"]) fun _ _ _ _ _ _ us hl => match us, hl with | [_, _, _], _ => rfl
  have T31 := at_mk X G a31 F31 b31
  have F32 := fun_mk (st := s_law_web) l32 c32 k32
  have b32 := F32.binds (ps := ["_law_pool_here", "_law_most_rows", "_law_most_rooms"]) fun _ _ _ _ _ _ us hl => match us, hl with | [_, _, _], _ => rfl
  have T32 := at_mk X G a32 F32 b32
  have F33 := fun_mk (st := s_law_whole) l33 c33 k33
  have b33 := F33.binds (ps := ["_law_thing"]) fun _ _ _ _ _ _ us hl => match us, hl with | [_], _ => rfl
  have T33 := at_mk X G a33 F33 b33
  have F34 := fun_mk (st := s_law_run) l34 c34 k34
  have b34 := F34.binds (ps := ["_law_pool_here", "_law_web_here", "_law_most"]) fun _ _ _ _ _ _ us hl => match us, hl with | [_, _, _], _ => rfl
  have T34 := at_mk X G a34 F34 b34
  have F35 := fun_mk (st := s_law_number) l35 c35 k35
  have b35 := F35.binds (ps := ["_law_web_here", "_law_thing"]) fun _ _ _ _ _ _ us hl => match us, hl with | [_, _], _ => rfl
  have T35 := at_mk X G a35 F35 b35
  have F36 := fun_mk (st := s_law_bent) l36 c36 k36
  have b36 := F36.binds (ps := ["_law_pool_here", "_law_web_here", "_law_run_here"]) fun _ _ _ _ _ _ us hl => match us, hl with | [_, _, _], _ => rfl
  have T36 := at_mk X G a36 F36 b36
  have F37 := fun_mk (st := s_law_refused) l37 c37 k37
  have b37 := F37.binds (ps := ["_law_web_here", "_law_thing"]) fun _ _ _ _ _ _ us hl => match us, hl with | [_, _], _ => rfl
  have T37 := at_mk X G a37 F37 b37
  have F38 := fun_mk (st := s_law_no_web) l38 c38 k38
  have b38 := F38.binds (ps := ["_law_web_here", "_law_run_here"]) fun _ _ _ _ _ _ us hl => match us, hl with | [_, _], _ => rfl
  have T38 := at_mk X G a38 F38 b38
  have F39 := fun_mk (st := s_law_doors) l39 c39 k39
  have b39 := F39.binds (ps := ["_law_run_here"]) fun _ _ _ _ _ _ us hl => match us, hl with | [_], _ => rfl
  have T39 := at_mk X G a39 F39 b39
  have F40 := fun_mk (st := s_law) l40 c40 k40
  refine ⟨PySem.W.fnOf "law" "law" (defArgs s_law) (defBody s_law) (defScope s_law) .none kV40 dc40 pm40 an40 cd40 ct40, fun s v => .of_eq rfl, fun base _ _ => ?_⟩
  have O1 : XC.Own l.prog K mg "NoWeb" "row" C1 fI1 "ValueError" "ValueError.__new__" "ValueError.__init__" [.type "ValueError", .type "Exception", .type "BaseException", .type "object"] := ⟨XC.fld_row, PySem.W.mg_of X G eg1, ei1, eo1, PySem.F.excBase_ValueError, PySem.F.store_ValueError, PySem.W.kxs_ValueError, es1, en1, ef1, eh1, ek1, ex1, et1, ed1, ev1, eu1, em1, PySem.W.mg_none_of X G nsG, opG, ntG, _, _, _, _, _, _, _, _, _, _, _, _, _, _, _, _, _, _, _, _, _, _, _, _, _, _, _, _, _, _, _, _, el1, eq1, ew1, ey1, ez1, ea1, eb1⟩
  have O2 : XC.Own l.prog K mg "NoRun" "number" C2 fI2 "ValueError" "ValueError.__new__" "ValueError.__init__" [.type "ValueError", .type "Exception", .type "BaseException", .type "object"] := ⟨XC.fld_number, PySem.W.mg_of X G eg2, ei2, eo2, PySem.F.excBase_ValueError, PySem.F.store_ValueError, PySem.W.kxs_ValueError, es2, en2, ef2, eh2, ek2, ex2, et2, ed2, ev2, eu2, em2, PySem.W.mg_none_of X G nsG, opG, ntG, _, _, _, _, _, _, _, _, _, _, _, _, _, _, _, _, _, _, _, _, _, _, _, _, _, _, _, _, _, _, _, _, el2, eq2, ew2, ey2, ez2, ea2, eb2⟩
  have O3 : XC.Own l.prog K mg "NoShelf" "part" C3 fI3 "ValueError" "ValueError.__new__" "ValueError.__init__" [.type "ValueError", .type "Exception", .type "BaseException", .type "object"] := ⟨XC.fld_part, PySem.W.mg_of X G eg3, ei3, eo3, PySem.F.excBase_ValueError, PySem.F.store_ValueError, PySem.W.kxs_ValueError, es3, en3, ef3, eh3, ek3, ex3, et3, ed3, ev3, eu3, em3, PySem.W.mg_none_of X G nsG, opG, ntG, _, _, _, _, _, _, _, _, _, _, _, _, _, _, _, _, _, _, _, _, _, _, _, _, _, _, _, _, _, _, _, _, el3, eq3, ew3, ey3, ez3, ea3, eb3⟩
  have ER : ErrR K mg C2 C4 C5 C1 := ⟨PySem.W.mg_of X G eg4, xr, PySem.W.mg_of X G eg2, PySem.W.mg_of X G eg5, PySem.W.mg_of X G eg1, PySem.W.mg_none_of X G veN, ⟨by rw [ec2]; rfl, ga2, gg2, ex2, gc2, spG, tkG, mo2, ed2⟩, en2, irr, irv, iro, ⟨by rw [ec1]; rfl, ga1, gg1, ex1, gc1, spG, tkG, mo1, ed1⟩, en1, xww⟩
  have D : Gb K mg := ⟨⟨_, PySem.W.mg_of X G m1⟩, ⟨_, PySem.W.mg_of X G m2⟩, ⟨_, PySem.W.mg_of X G m3⟩, ⟨aW, PySem.W.mg_of X G mW, fun H => .inr ⟨_, _, _, mW2, rfl, rfl, by show 3 ≤ sizeLine; decide, .cons ⟨_, rfl⟩ (.cons ⟨_, rfl⟩ (.cons ⟨_, rfl⟩ .nil))⟩⟩, ⟨aZ, PySem.W.mg_of X G mZ, fun H => .inr ⟨_, _, _, mZ2, rfl, rfl, by show 4 ≤ sizeLine; decide, .cons ⟨_, rfl⟩ (.cons ⟨_, rfl⟩ (.cons ⟨_, rfl⟩ (.cons ⟨_, rfl⟩ .nil)))⟩⟩⟩
  have DW : GbW mg := ⟨⟨_, PySem.W.mg_of X G m1⟩, ⟨_, PySem.W.mg_of X G m4⟩, ⟨_, PySem.W.mg_of X G m5⟩⟩
  have clsCS : Cls K CS := ⟨cpCS, cdCS, coCS, csCS⟩
  have FCSinit : FunD K "__init__" "Shelf.__init__" (defArgs sS_init) (defBody sS_init) (defScope sS_init) [.int 4, .str "last", .non, .non] [] fCSinit _ := ⟨⟨ocCSinit, odCSinit, _, kVCSinit, dcCSinit, pmCSinit, anCSinit, cdCSinit, ctCSinit, slCSinit, rfl, mlCSinit, mcCSinit, .inr ⟨by simp, aDCSinit, _, [.int 4 tkCSinit_0, .str "last" tkCSinit_1, .none, .none], nDCSinit, rfl, mqCSinit, rfl, .cons ⟨_, rfl⟩ (.cons ⟨_, rfl⟩ (.cons rfl (.cons rfl (.nil))))⟩, .inl rfl⟩, mkCSinit⟩
  have SC : ShC K CS := ⟨clsCS, cfCS0, cfCS1, cfCS2, cfCS3, cfCS4, cfCS5⟩
  have v1 := ok_whole (P := l.prog) (w := w) (base := base) T1 B
  have w2 := ok_room (P := l.prog) (w := w) (base := base) T2 DW v1
  have w3 := ok_rising (P := l.prog) (w := w) (base := base) T3 B
  have w4 := ok_row (P := l.prog) (w := w) (base := base) T18 B (ok_rooms T4 B w2 w3) (ok_tos T17 B v1 w3)
  have w6 := ok_look (P := l.prog) (w := w) (base := base) O1 T20 B DW w4 (ok_rooms_in T19 B)
  have c2 := ok_roomC (P := l.prog) (w := w) (base := base) T2 D v1
  have c3 := ok_slot (P := l.prog) (w := w) (base := base) T8 D v1 c2
  have c4 := ok_slots (P := l.prog) (w := w) (base := base) T10 B D c3
  have vh := ok_how (P := l.prog) (w := w) (base := base) T7
  have c5 := ok_bits (P := l.prog) (w := w) (base := base) T11 B (ok_bit T9 v1) vh
  have c6 := ok_part (P := l.prog) (w := w) (base := base) T26 (ok_way T5 B D) (ok_size T6 D v1) c4 c5
  have vi := ok_init (P := l.prog) (w := w) (base := base) SC O3 D B FCSinit c6 vh
  have mk : MakS l.prog w K mg base 6 CS (spInit CS C3) := mak_of ⟨cmCS, maCSinit, miCSinit, ckCS⟩ (PySem.W.mg_of X G cgCS) FCSinit vi
  have r1 := ok_lookrun (P := l.prog) (w := w) (base := base) O2 T23 B ⟨_, PySem.W.mg_of X G m6⟩ (ok_step T22 B v1 (ok_askof T21 B w2))
  have r2 := ok_isrun (P := l.prog) (w := w) (base := base) (PySem.W.mg_of X G eg2) xrr T24 w6 r1
  have r3 := ok_along (P := l.prog) (w := w) (base := base) T25 w6 r1
  have t1 := ok_take (P := l.prog) (w := w) (base := base) T29
  have t2 := ok_picked (P := l.prog) (w := w) (base := base) T30 B t1
  exact ok_law F40 B ⟨ok_pool T28 B, ok_lweb T32 B t1 t2 (ok_ltos T31 B t1), ok_run T34 B t1, ok_bent T36 B t1, ok_num T35 B (ok_lwhole T33 B), r2, ok_refused ER T37 B mk r3, ok_doors T39 B (ok_noweb ER T38 B mk r2 r3) r2⟩
end Su
open PySem PySem.W PyProof.Rows
set_option maxRecDepth 100000 in
set_option maxHeartbeats 0 in
theorem PySem.Challenge.cw_surehand_k17_runs_looked_at_holds : PySem.Challenge.rw_surehand_k17_runs_looked_at.Holds := by
  w_on; o_law; k_head; (case hw => w_witness2)
  k_fill
  refine Su.walk_ofG (l := PySem.Challenge.rw_surehand_k17_runs_looked_at) (n := 63) (k := 10) (x := "_law_script") (CX := L2.CX0) (sp := Su.spLaw) rfl (by decide) rfl ⟨rfl, by decide, by decide⟩ (fun w h Y => PySem.W.kIn_of Y) ?F (fun _ _ a ns hl hS => ⟨a, ns, rfl, hS, hl, fun _ => rfl⟩) (fun _ _ _ _ h => h)
  case F =>
    intro w mg fa h KX G hmg
    refine' Su.all_mk KX G hmg ?a1 ?l1 ?c1 ?k1 ?a2 ?l2 ?c2 ?k2 ?a3 ?l3 ?c3 ?k3 ?a4 ?l4 ?c4 ?k4 ?a5 ?l5 ?c5 ?k5 ?a6 ?l6 ?c6 ?k6 ?a7 ?l7 ?c7 ?k7 ?a8 ?l8 ?c8 ?k8 ?a9 ?l9 ?c9 ?k9 ?a10 ?l10 ?c10 ?k10 ?a11 ?l11 ?c11 ?k11 ?a12 ?l12 ?c12 ?k12 ?a13 ?l13 ?c13 ?k13 ?a14 ?l14 ?c14 ?k14 ?a15 ?l15 ?c15 ?k15 ?a16 ?l16 ?c16 ?k16 ?a17 ?l17 ?c17 ?k17 ?a18 ?l18 ?c18 ?k18 ?a19 ?l19 ?c19 ?k19 ?a20 ?l20 ?c20 ?k20 ?a21 ?l21 ?c21 ?k21 ?a22 ?l22 ?c22 ?k22 ?a23 ?l23 ?c23 ?k23 ?a24 ?l24 ?c24 ?k24 ?a25 ?l25 ?c25 ?k25 ?a26 ?l26 ?c26 ?k26 ?a27 ?l27 ?c27 ?k27 ?a28 ?l28 ?c28 ?k28 ?a29 ?l29 ?c29 ?k29 ?a30 ?l30 ?c30 ?k30 ?a31 ?l31 ?c31 ?k31 ?a32 ?l32 ?c32 ?k32 ?a33 ?l33 ?c33 ?k33 ?a34 ?l34 ?c34 ?k34 ?a35 ?l35 ?c35 ?k35 ?a36 ?l36 ?c36 ?k36 ?a37 ?l37 ?c37 ?k37 ?a38 ?l38 ?c38 ?k38 ?a39 ?l39 ?c39 ?k39 ?a40 ?l40 ?c40 ?k40 ?m1 ?m2 ?m3 ?m4 ?m5 ?m6 ?eg1 ?ek1 ?ex1 ?et1 ?ec1 ?ga1 ?gg1 ?gc1 ?mo1 ?ed1 ?ei1 ?eo1 ?es1 ?en1 ?ef1 ?eh1 ?ev1 ?eu1 ?em1 ?el1 ?eq1 ?ew1 ?ey1 ?ez1 ?ea1 ?eb1 ?eg2 ?ek2 ?ex2 ?et2 ?ec2 ?ga2 ?gg2 ?gc2 ?mo2 ?ed2 ?ei2 ?eo2 ?es2 ?en2 ?ef2 ?eh2 ?ev2 ?eu2 ?em2 ?el2 ?eq2 ?ew2 ?ey2 ?ez2 ?ea2 ?eb2 ?eg3 ?ek3 ?ex3 ?et3 ?ec3 ?ga3 ?gg3 ?gc3 ?mo3 ?ed3 ?ei3 ?eo3 ?es3 ?en3 ?ef3 ?eh3 ?ev3 ?eu3 ?em3 ?el3 ?eq3 ?ew3 ?ey3 ?ez3 ?ea3 ?eb3 ?eg4 ?spG ?tkG ?nsG ?opG ?ntG ?eg5 ?veN ?xr ?xrr ?xww ?irr ?irv ?iro ?mW ?mW2 ?mZ ?mZ2 ?cgCS ?ckCS ?cmCS ?cpCS ?cdCS ?coCS ?csCS ?cfCS0 ?cfCS1 ?cfCS2 ?cfCS3 ?cfCS4 ?cfCS5 ?maCSinit ?miCSinit ?mkCSinit ?mlCSinit ?mcCSinit ?mqCSinit ?z1 ?z2 ?z3 ?z4 ?z5 ?z6 ?z7 ?z8 ?z9 ?z10 ?z11 ?z12 ?z13 ?z14 ?z15 ?z16 ?z17 ?z18 ?z19 ?z20 ?z21
    (case a1 => k_is); (case l1 => k_is); (case c1 => k_is); (case k1 => k_is); (case a2 => k_is); (case l2 => k_is)
    (case c2 => k_is); (case k2 => k_is); (case a3 => k_is); (case l3 => k_is); (case c3 => k_is); (case k3 => k_is)
    (case a4 => k_is); (case l4 => k_is); (case c4 => k_is); (case k4 => k_is); (case a5 => k_is); (case l5 => k_is)
    (case c5 => k_is); (case k5 => k_is); (case a6 => k_is); (case l6 => k_is); (case c6 => k_is); (case k6 => k_is)
    (case a7 => k_is); (case l7 => k_is); (case c7 => k_is); (case k7 => k_is); (case a8 => k_is); (case l8 => k_is)
    (case c8 => k_is); (case k8 => k_is); (case a9 => k_is); (case l9 => k_is); (case c9 => k_is); (case k9 => k_is)
    (case a10 => k_is); (case l10 => k_is); (case c10 => k_is); (case k10 => k_is); (case a11 => k_is); (case l11 => k_is)
    (case c11 => k_is); (case k11 => k_is); (case a12 => k_is); (case l12 => k_is); (case c12 => k_is); (case k12 => k_is)
    (case a13 => k_is); (case l13 => k_is); (case c13 => k_is); (case k13 => k_is); (case a14 => k_is); (case l14 => k_is)
    (case c14 => k_is); (case k14 => k_is); (case a15 => k_is); (case l15 => k_is); (case c15 => k_is); (case k15 => k_is)
    (case a16 => k_is); (case l16 => k_is); (case c16 => k_is); (case k16 => k_is); (case a17 => k_is); (case l17 => k_is)
    (case c17 => k_is); (case k17 => k_is); (case a18 => k_is); (case l18 => k_is); (case c18 => k_is); (case k18 => k_is)
    (case a19 => k_is); (case l19 => k_is); (case c19 => k_is); (case k19 => k_is); (case a20 => k_is); (case l20 => k_is)
    (case c20 => k_is); (case k20 => k_is); (case a21 => k_is); (case l21 => k_is); (case c21 => k_is); (case k21 => k_is)
    (case a22 => k_is); (case l22 => k_is); (case c22 => k_is); (case k22 => k_is); (case a23 => k_is); (case l23 => k_is)
    (case c23 => k_is); (case k23 => k_is); (case a24 => k_is); (case l24 => k_is); (case c24 => k_is); (case k24 => k_is)
    (case a25 => k_is); (case l25 => k_is); (case c25 => k_is); (case k25 => k_is); (case a26 => k_is); (case l26 => k_is)
    (case c26 => k_is); (case k26 => k_is); (case a27 => k_is); (case l27 => k_is); (case c27 => k_is); (case k27 => k_is)
    (case a28 => k_is); (case l28 => k_is); (case c28 => k_is); (case k28 => k_is); (case a29 => k_is); (case l29 => k_is)
    (case c29 => k_is); (case k29 => k_is); (case a30 => k_is); (case l30 => k_is); (case c30 => k_is); (case k30 => k_is)
    (case a31 => k_is); (case l31 => k_is); (case c31 => k_is); (case k31 => k_is); (case a32 => k_is); (case l32 => k_is)
    (case c32 => k_is); (case k32 => k_is); (case a33 => k_is); (case l33 => k_is); (case c33 => k_is); (case k33 => k_is)
    (case a34 => k_is); (case l34 => k_is); (case c34 => k_is); (case k34 => k_is); (case a35 => k_is); (case l35 => k_is)
    (case c35 => k_is); (case k35 => k_is); (case a36 => k_is); (case l36 => k_is); (case c36 => k_is); (case k36 => k_is)
    (case a37 => k_is); (case l37 => k_is); (case c37 => k_is); (case k37 => k_is); (case a38 => k_is); (case l38 => k_is)
    (case c38 => k_is); (case k38 => k_is); (case a39 => k_is); (case l39 => k_is); (case c39 => k_is); (case k39 => k_is)
    (case a40 => k_is); (case l40 => k_is); (case c40 => k_is); (case k40 => k_is); (case m1 => k_is); (case m2 => k_is)
    (case m3 => k_is); (case m4 => k_is); (case m5 => k_is); (case m6 => k_is); (case eg1 => k_is); (case ek1 => k_is)
    (case ex1 => k_is); (case et1 => k_is); (case ec1 => k_is); (case ga1 => k_is); (case gg1 => k_is); (case gc1 => k_is)
    (case mo1 => k_is); (case ed1 => k_is); (case ei1 => kx_is); (case eo1 => kx_is); (case es1 => k_is); (case en1 => k_is)
    (case ef1 => k_is); (case eh1 => k_is); (case ev1 => k_is); (case eu1 => ks_is); (case em1 => k_is); (case el1 => k_is)
    (case eq1 => k_is); (case ew1 => k_is); (case ey1 => rfl); (case ez1 => first | rfl | decide +kernel); (case ea1 => first | rfl | decide +kernel); (case eb1 => k_is)
    (case eg2 => k_is); (case ek2 => k_is); (case ex2 => k_is); (case et2 => k_is); (case ec2 => k_is); (case ga2 => k_is)
    (case gg2 => k_is); (case gc2 => k_is); (case mo2 => k_is); (case ed2 => k_is); (case ei2 => kx_is); (case eo2 => kx_is)
    (case es2 => k_is); (case en2 => k_is); (case ef2 => k_is); (case eh2 => k_is); (case ev2 => k_is); (case eu2 => ks_is)
    (case em2 => k_is); (case el2 => k_is); (case eq2 => k_is); (case ew2 => k_is); (case ey2 => rfl); (case ez2 => first | rfl | decide +kernel)
    (case ea2 => first | rfl | decide +kernel); (case eb2 => k_is); (case eg3 => k_is); (case ek3 => k_is); (case ex3 => k_is); (case et3 => k_is)
    (case ec3 => k_is); (case ga3 => k_is); (case gg3 => k_is); (case gc3 => k_is); (case mo3 => k_is); (case ed3 => k_is)
    (case ei3 => kx_is); (case eo3 => kx_is); (case es3 => k_is); (case en3 => k_is); (case ef3 => k_is); (case eh3 => k_is)
    (case ev3 => k_is); (case eu3 => ks_is); (case em3 => k_is); (case el3 => k_is); (case eq3 => k_is); (case ew3 => k_is)
    (case ey3 => rfl); (case ez3 => first | rfl | decide +kernel); (case ea3 => first | rfl | decide +kernel); (case eb3 => k_is); (case eg4 => k_is); (case spG => k_is)
    (case tkG => k_is); (case nsG => k_is); (case opG => k_is); (case ntG => first | rfl | decide +kernel); (case eg5 => k_is); (case veN => k_is)
    (case xr => kts_exm); (case xrr => kts_exm); (case xww => kts_exm); (case irr => kit_is); (case irv => kit_is); (case iro => kit_is)
    (case mW => k_is); (case mW2 => k_is); (case mZ => k_is); (case mZ2 => k_is); (case cgCS => k_is); (case ckCS => k_is)
    (case cmCS => k_is); (case cpCS => k_is); (case cdCS => k_is); (case coCS => k_is); (case csCS => k_is); (case cfCS0 => k_is)
    (case cfCS1 => k_is); (case cfCS2 => k_is); (case cfCS3 => k_is); (case cfCS4 => k_is); (case cfCS5 => k_is); (case maCSinit => k_is)
    (case miCSinit => k_is); (case mkCSinit => k_is); (case mlCSinit => k_is); (case mcCSinit => k_is); (case mqCSinit => k_is); (case z1 => k_is)
    (case z2 => k_is); (case z3 => k_is); (case z4 => k_is); (case z5 => k_is); (case z6 => k_is); (case z7 => k_is)
    (case z8 => k_is); (case z9 => k_is); (case z10 => k_is); (case z11 => k_is); (case z12 => k_is); (case z13 => k_is)
    (case z14 => k_is); (case z15 => k_is); (case z16 => k_is); (case z17 => k_is); (case z18 => k_is); (case z19 => k_is)
    (case z20 => k_is); (case z21 => k_is)

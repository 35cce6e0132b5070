import PyProof.Rows.All
import Wide.All
import OpenK.AllK
import Wide.FinOn
import HandS.ForMost
import HandS.SortInts
import HandS.TupAny
import HandS.Conv
import KE.KIndexOf
import PyProof.ReprRoads
import PyProof.ReprLen
import HandS.Comp
import HandS.Strs
import HandS.SetBool
import HandS.IsInst
import HandS.Rev
import HandS.Style
import HandS.TupLe
import HandS.Zip
import HandS.SetFor
import HandS.TupMul
import HandS.More
import HandS.ForExc
import HandS.ExcInit
import HandS.ExcValue
import KE.KExcSuper
import KE.KExcIs
import KE.KIsAll
import HandS.Exc
import KE.KExcInit
import KE.KSuper
import HandS.WordsExc
import HandS.ExcOwn
import PyProof.CallFns
import PyProof.WalksMore
import HandS.Codes
import KE.DataFind
import HandS.Defaults
import HandS.MakeKwOnly
import HandS.MakeKw
import HandS.Flow
import KE.KExcLine
import KE.RegKTryMore
import PyProof.ExcBaseAll.ValueError
import PyProof.InstStoreFacts
import PySem.Challenge.RW_surehand_k03_shelves_made
set_option Elab.async false
set_option linter.all false
set_option maxRecDepth 100000
set_option maxHeartbeats 4000000
/-! ### B0: what every law's text uses: a def by its name, calls, the end where nothing is being written out -/
namespace Su
open PySem PySem.Spec PyProof.Rows L2
/-- a def of the text stands under its name -/
structure At (K : PySem.W.Frag) (mg : Str → Option Value) (x : Str) (st : Stmt) (ps : List Str) : Prop where
  ex : ∃ (f : Addr) (fd : FuncData), Fun K x x st f fd ∧ mg x = some (.ref f) ∧ Binds K fd ps []
/-- a def that keeps a promise may be called by its name -/
structure Cal (P : Program) (w : World) (K : PySem.W.Frag) (mg : Str → Option Value) (base : Heap) (k : Nat) (x : Str) (ps : List Str) (sp : Sp) : Prop where
  ex : ∃ (f : Addr) (fd : FuncData), FnOk P w K mg base CX0 k f fd ps sp ∧ mg x = some (.ref f) ∧ PySem.W.keepIn K (.ref f) = true ∧ Binds K fd ps [] ∧ ∃ o : Obj, K.lookup f = some o ∧ o.data = .func fd
section
variable {P : Program} {w : World} {K : PySem.W.Frag} {mg : Str → Option Value} {base : Heap}
theorem cal_of {x : Str} {st : Stmt} {N ps : List Str} {k : Nat} {sp : Sp} (T : At K mg x st ps) (S : FnScope N ps (defScope st)) (len : ∀ vs H Q E, sp vs H Q E → vs.length = ps.length)
    (hb : ∀ (f : Addr) (cdv : Value) (A : Around) (outer : List Env) (s : Shared) (H : Hp) (vs : List V) (Q : VK) (E : XK), Room k (A.deeper (envOfC x (defScope st) s.heap.objs.size f cdv)) → sp vs H Q E →
      ∃ t, PSs (cxOf CX0 P w K mg base N x (defScope st) f cdv A outer s H E).nox (defBody st) t ∧ t { nx := fun _ H' => Q .non H', rt := Q } (start N vs) H) : Cal P w K mg base (k + 1) x ps sp := by
  obtain ⟨f, fd, F, hm, b⟩ := T.ex
  have z : ∃ o : Obj, K.lookup f = some o ∧ o.data = .func fd := by
    obtain ⟨oc, od, kV, doc, pm, an, cdv, ct, osl, _, lk, _⟩ := F.ex
    exact ⟨_, lk, rfl⟩
  exact ⟨f, fd, F.ok S len (fun cdv A outer s H vs Q E => hb f cdv A outer s H vs Q E), hm, F.kp, b, z⟩
end
section
variable {X : Cx} {k j : Nat} {x : Str} {ps : List Str} {sp : Sp} {p pos : Pos} {e : Expr} {es : List Expr} {t : TA}
theorem pe_own (C : Cal X.prog X.w X.K X.mg X.base k x ps sp) (hr : Room j X.A) (hk : k ≤ j) (hg : Gl X x) (ha : PA X (e :: es) t)
    (hdb : (x == ("__debug__" : Str)) = false := by decide) (he : starEach (e :: es) X.env = (false, eval e X.env) :: starEach es X.env := by rfl) (hpl : (backTo pos (starEach es X.env)).any (·.1) = false := by rfl) :
    PE X (.Call (.Name x p) (e :: es) [] pos) (tCall sp [] E0 t) := by
  obtain ⟨f, fd, F, hm, kp, b, _⟩ := C.ex
  exact pe_call F (hr.mono hk) hg hm kp b .nil (fun _ _ _ _ _ _ _ h => h.elim) ha hdb he hpl
theorem pe_own0 (C : Cal X.prog X.w X.K X.mg X.base k x ps sp) (hr : Room j X.A) (hk : k ≤ j) (hg : Gl X x) (hdb : (x == ("__debug__" : Str)) = false := by decide) :
    PE X (.Call (.Name x p) [] [] pos) (tCall sp [] E0 tNil) := by
  obtain ⟨f, fd, F, hm, kp, b, _⟩ := C.ex
  exact pe_call0 F (hr.mono hk) hg hm kp b .nil (fun _ _ _ _ _ _ _ h => h.elim) hdb
end
/-- the same promise, asked only where no object is being written out -/
structure FnG (P : Program) (w : World) (K : PySem.W.Frag) (mg : Str → Option Value) (base : Heap) (CX : CXT) (k : Nat) (f : Addr) (fd : FuncData) (ps : List Str) (sp : Sp) : Prop where
  len : ∀ vs H Q E, sp vs H Q E → vs.length = ps.length
  run : ∀ (A : Around) (outer : List Env) (s : Shared) (H : Hp) (args : Args) (us : List Value) (vs : List V) (Q : VK) (E : XK), A.guards = some [] → Room k A → Env0 P w K mg base A outer s H →
    BindsTo s fd args (ps.zip us) → Vals vs us → sp vs H Q E → codeAny (model P w) A (.call (.ref f) args) (CR CX outer P w H s Q E) s
theorem deeper_guards {A : Around} {e : Env} (h : A.guards = some []) : (A.deeper e).guards = some [] := by
  first
    | exact h
    | simpa [Around.deeper, Around.under, pushGuards, Code.guards, Code.isGuard] using h
theorem fnG_of {CX : CXT} {P : Program} {w : World} {K : PySem.W.Frag} {mg : Str → Option Value} {base : Heap} {k : Nat} {f : Addr} {nm ql : Str} {pr : Arguments} {bd : List Stmt} {sc : Scope} {dv kv dc pm cd ct oc : Value} {an od : Option Addr}
    {sl : Array (Option Value)} {N ps : List Str} {sp : Sp}
    (lk : K.lookup f = some ⟨oc, od, .func (PySem.W.fnOf nm ql pr bd sc dv kv dc pm an cd ct), sl⟩)
    (hcd : PySem.W.codeIn K cd ql = true) (S : FnScope N ps sc) (len : ∀ vs H Q E, sp vs H Q E → vs.length = ps.length)
    (hb : ∀ (A : Around) (outer : List Env) (s : Shared) (H : Hp) (vs : List V) (Q : VK) (E : XK), (A.deeper (envOfC ql sc s.heap.objs.size f cd)).guards = some [] → Room k (A.deeper (envOfC ql sc s.heap.objs.size f cd)) → sp vs H Q E →
      ∃ t, PSs (cxOf CX P w K mg base N ql sc f cd A outer s H E) bd t ∧ t { nx := fun _ H' => Q .non H', rt := Q } (start N vs) H) :
    FnG P w K mg base CX (k + 1) f (PySem.W.fnOf nm ql pr bd sc dv kv dc pm an cd ct) ps sp := by
  refine ⟨len, fun A outer s H args us vs Q E hgd hr e0 hbi rv hs => ?_⟩
  obtain ⟨t, ht, hq⟩ := hb A outer s H vs Q E (deeper_guards hgd) (hr.deeper _) hs
  -- the very same body, as a promise that asks for this surrounding alone
  have kin : K.In s.heap := e0.mod.kin.keeps fun b o z => (e0.bs b o z).1
  have nol : s.heap.NoLimit := e0.mod.nolimit.keeps fun b o z => (e0.bs b o z).1
  refine codeAny_call_function hr.depth (kin _ _ lk) rfl S.co S.gen rfl (PySem.W.codeRec_of kin hcd) (hbi _ _ _ _ ?_)
  refine wpAny_newFunctionEnv_cells S.kind (fun y hy => ?_) fun env he s1 x => ?_
  · rcases S.par y.1 (List.of_mem_zip (show (y.1, y.2) ∈ ps.zip us from hy)).1 with z | z
    · exact Or.inl z
    · exact Or.inr ⟨z, PySem.W.cellsFrom_some _ _ _ (Or.inl z)⟩
  · subst he
    refine ⟨nol.keeps x.toInCall.keep, codeAny_func (wpAny_mono (ht.run [] s1 (start N vs) H _ (inv_start S hr.hd e0 (len _ _ _ _ hs) rv x) hq) (fun fl s' z => ?_) fun _ _ z => z)⟩
    cases fl with
    | ret u =>
      obtain ⟨v, σ', H', J, r', q'⟩ := z
      exact ⟨v, H', J.os, J.bare, J.base, J.hok, r', q'⟩
    | next =>
      obtain ⟨σ', H', J, q'⟩ := z
      exact ⟨V.non, H', J.os, J.bare, J.base, J.hok, rfl, q'⟩
    | brk => exact (z.elim fun _ z => z.elim fun _ z => False.elim z.2)
    | cont => exact (z.elim fun _ z => z.elim fun _ z => False.elim z.2)
theorem hid_ns {h : Heap} {H : Hp} {b : Addr} {m : Str → Option Value} (no : ∀ (o : Obj) (es : Array DictEntry) (ep : Nat), h.get? b = some o → o.data = .dict es ep → H b = none) (n : h.Ns b m) : (hidT h H).Ns b m := by
  obtain ⟨o, es, ep, e, d, r⟩ := n
  exact ⟨o, es, ep, hidT_get e (no o es ep e d), d, r⟩
/-- the law's call, from a promise that is asked only where no object is being written out -/
theorem law_callG {P : Program} {w : World} {K : PySem.W.Frag} {mg mb : Str → Option Value} {CX : CXT} {k : Nat} {fa a : Addr} {fd : FuncData} {x : Str} {sp : Sp} {t : Shared} {vs : List Value} {ns : List Int}
    (KX : K.In t.heap) (g1 : t.heap.Ns mainGlobals mg) (g2 : t.heap.Ns builtinsNs mb) (g3 : ∀ y : Str, y ≠ "__name__" → mb y = bootBuiltins y) (g4 : t.heap.NoLimit) (g5 : t.gens = #[])
    (ha : t.heap.get? a = some { cls := .type "list", data := .seq vs.toArray }) (hi : IntsAre vs ns) (hl : ns.length ≤ sizeLine) (hr : Room k callerA)
    (F : ∀ bs : Heap, K.In bs → bs.Ns mainGlobals mg → FnG P w K mg bs CX k fa fd [x] sp) (hbi : ∀ (s : Shared) (u : Value), BindsTo s fd ⟨[u], []⟩ [(x, u)])
    (hsp : ∀ H : Hp, Only H → SqL K H a (ns.map V.int) → sp [.ref a] H (fun v _ => v = .bl true) fun _ _ _ => False)
    (hCX : ∀ H e s', CX [] H t (fun _ _ _ => False) e s' → False) :
    codeAny (model P w) callerA (.call (.ref fa) ⟨[.ref a], []⟩) (fun r s' => r = .ok (.ret (.bool true)) ∧ OldK t.heap s'.heap ∧ s'.os = t.os ∧ AllBare s'.gens) t := by
  have rv := vals_ints hi
  have main : ∀ H : Hp, Only H → SqL K H a (ns.map V.int) → HOk P w H t.heap → (∀ b, H b ≠ none → b = a) → (H a ≠ none → K.lookup a = none) →
      codeAny (model P w) callerA (.call (.ref fa) ⟨[.ref a], []⟩) (fun r s' => r = .ok (.ret (.bool true)) ∧ OldK t.heap s'.heap ∧ s'.os = t.os ∧ AllBare s'.gens) t := by
    intro H only hS hok one out
    have no : ∀ (b : Addr) (o : Obj) (es : Array DictEntry) (ep : Nat), t.heap.get? b = some o → o.data = .dict es ep → H b = none := by
      intro b o es ep e d
      cases z : H b with
      | none => rfl
      | some u =>
        obtain rfl : b = a := one b (by rw [z]; simp)
        rw [ha] at e
        cases e
        exact absurd d (by simp)
    have kb : K.In (hidT t.heap H) := by
      intro b o e
      refine hidT_get (KX b o e) ?_
      cases z : H b with
      | none => rfl
      | some u =>
        obtain rfl : b = a := one b (by rw [z]; simp)
        rw [out (by rw [z]; simp)] at e
        cases e
    have ng : (hidT t.heap H).Ns mainGlobals mg := hid_ns (no _) g1
    have md : Mod K mg (hidT t.heap H) := ⟨kb, ng, ⟨mb, hid_ns (no _) g2, g3⟩, g4.elim fun mc h => ⟨mc, hid_ns (no _) h.1, h.2⟩⟩
    have ev : Env0 P w K mg (hidT t.heap H) callerA [] t H :=
      ⟨rfl, md, fun b o e => of_hidT e, Nat.le_of_eq (hidT_size _ _), trivial, fun b z => (List.not_mem_nil z).elim, hok, .of_eq g5⟩
    refine codeAny_mono ((F _ kb ng).run callerA [] t H ⟨[.ref a], []⟩ [.ref a] [.ref a] _ _ rfl hr ev (hbi t (.ref a)) (.cons rfl .nil) (hsp H only hS)) fun r s' h => ?_
    match r, h with
    | .error e, h => exact (hCX H e s' h).elim
    | .ok .next, h => exact False.elim h
    | .ok .brk, h => exact False.elim h
    | .ok .cont, h => exact False.elim h
    | .ok (.ret u), h =>
      obtain ⟨v, H', os, bare, un, hok2, r2, q⟩ := h
      obtain rfl : v = .bl true := q
      obtain rfl : u = Value.bool true := r2
      refine ⟨rfl, OldK.of_keep fun b o e => ?_, os, bare⟩
      rcases only b with z | ⟨ob, xs, z⟩
      · exact un.keep b o e z (fun y => (List.not_mem_nil y).elim) (by simp)
      · have y1 := (hok b _ z).1
        have y2 := (hok2 b _ (un.frzs b ob _ z)).1
        rw [e] at y1
        cases y1
        exact y2
  cases hk : K.lookup a with
  | some o =>
    have e := KX a o hk
    rw [ha] at e
    cases e
    refine main (fun _ => none) (fun _ => .inl rfl) (.inr ⟨_, vs.toArray, _, hk, rfl, rfl, rfl, ?_, ?_⟩) (fun b u z => nomatch (show (none : Option HO) = some u from z)) (fun b z => absurd rfl z) fun z => absurd rfl z
    · rw [List.size_toArray, hi.length]
      exact hl
    · simpa using rv
  | none =>
    have at1 : (fun b => if b = a then some (HO.frz { cls := .type "list", data := .seq vs.toArray } (.lst (ns.map V.int))) else none : Hp) a = some (HO.frz { cls := .type "list", data := .seq vs.toArray } (.lst (ns.map V.int))) := if_pos rfl
    refine main (fun b => if b = a then some (.frz { cls := .type "list", data := .seq vs.toArray } (.lst (ns.map V.int))) else none) (fun b => ?_) (.inl (.inr ⟨_, at1⟩)) (fun b u z => ?_) (fun b z => ?_) fun _ => hk
    · by_cases e : b = a
      · exact .inr ⟨_, _, if_pos e⟩
      · exact .inl (if_neg e)
    · by_cases e : b = a
      · subst e
        have y := at1.symm.trans z
        cases y
        exact ⟨ha, by rw [List.length_map]; exact hl, vs, _, rv, ha⟩
      · exact nomatch ((if_neg e).symm.trans z)
    · by_cases e : b = a
      · exact e
      · exact absurd (if_neg e) z
theorem walk_ofG {l : PySem.W.OpenLaw} {n k : Nat} {q : Program} {loose : List Str} {XP : (Str → Option Value) → Heap → Prop} {YP : World → Heap → Prop} {d : DefRec} {K : Params → PySem.W.Frag} {CX : CXT} {sp : PySem.W.Frag → Sp} {x : Str}
    (hn : l.most = some n) (hn2 : n ≤ sizeLine) (hdf : d.params.defaults = []) (hr : Room k callerA) (hY : ∀ (w : World) (h : Heap), YP w h → (K w.params).In h)
    (F : ∀ (w : World) (mg : Str → Option Value) (fa : Addr) (h : Heap), (K w.params).In h → h.Ns mainGlobals mg → mg d.name = some (.ref fa) →
      ∃ fd : FuncData, (∀ (s : Shared) (u : Value), BindsTo s fd ⟨[u], []⟩ [(x, u)]) ∧
        ∀ bs : Heap, (K w.params).In bs → bs.Ns mainGlobals mg → FnG l.prog w (K w.params) mg bs CX k fa fd [x] (sp (K w.params)))
    (hsp : ∀ (K : PySem.W.Frag) (H : Hp) (a : Addr) (ns : List Int), ns.length ≤ n → SqL K H a (ns.map V.int) → sp K [.ref a] H (fun v _ => v = .bl true) fun _ _ _ => False)
    (hCX : ∀ (H : Hp) (s : Shared) (e : Value) (s' : Shared), CX [] H s (fun _ _ _ => False) e s' → False) :
    PySem.W.WalkO q loose XP YP l.row.toRowW d [] (fun f vs => PySem.call f vs) := by
  refine Att.attach_call hn hdf fun w s₀ t mg mb fa o pm cd doc a vs ns G Y ho hd hcd hmg hobj hints hlen hg => ?_
  have KX := hY w _ Y
  obtain ⟨fd, hb, hF⟩ := F w mg fa _ KX G.T.g hmg
  exact law_callG KX G.T.g G.T.b G.T.builtins G.T.nolimit hg hobj hints (Nat.le_trans hlen hn2) hr hF hb (fun H _ hS => hsp (K w.params) H a ns hlen hS) fun H e s' => hCX H t e s'
end Su
/-! ### B1: repr of data, t.index(n), a call by keywords alone, data that is small enough -/
namespace Su
open PySem PySem.Spec PyProof.Rows L2
/-- data of small numbers, of depth n at most, of weight m at most -/
structure Fine (d : PyData) (n m : Nat) : Prop where
  sh : d.showable = true
  nd : d.hasDict = false
  dp : d.depth ≤ n
  lv : d.leavesShort 13 = true
  wt : d.weight ≤ m
  cl : d.canLay0 = true
structure FineL (ds : List PyData) (n m : Nat) : Prop where
  sh : PyData.showableAll ds = true
  nd : PyData.hasDictAll ds = false
  dp : PyData.depthAll ds ≤ n
  lv : PyData.leavesShortAll 13 ds = true
  wt : PyData.weightAll ds ≤ m
  cl : PyData.canLayAll0 ds = true
theorem Fine.int {i : Int} (h1 : -1000000 ≤ i) (h2 : i ≤ 1000000) : Fine (.int i) 0 40 := by
  have hb : i.natAbs < 10 ^ 12 := by omega
  have e : i.natAbs < 2 ^ 20 := by omega
  have hl : i.natAbs.log2 < 39 := by
    by_cases z : i.natAbs = 0
    · rw [z]
      decide
    · exact (Nat.log2_lt z).mpr (by omega)
  refine ⟨?_, by simp [PyData.hasDict], by simp [PyData.depth], ?_, ?_, by first | rfl | simp [PyData.canLay0]⟩
  · simp only [PyData.showable, decide_eq_true_eq]
    omega
  · simp only [PyData.leavesShort, decide_eq_true_eq]
    exact PyData.shown_int_le hb
  · simp only [PyData.weight]
    split <;> omega
theorem Fine.bool (b : Bool) : Fine (.bool b) 0 0 := ⟨by simp [PyData.showable], by simp [PyData.hasDict], by simp [PyData.depth], by simp [PyData.leavesShort], by simp [PyData.weight], by first | rfl | simp [PyData.canLay0]⟩
theorem Fine.none : Fine .none 0 0 := ⟨by simp [PyData.showable], by simp [PyData.hasDict], by simp [PyData.depth], by simp [PyData.leavesShort], by simp [PyData.weight], by first | rfl | simp [PyData.canLay0]⟩
theorem FineL.nil {n : Nat} : FineL [] n 0 := ⟨by simp [PyData.showableAll], by simp [PyData.hasDictAll], by simp [PyData.depthAll], by simp [PyData.leavesShortAll], by simp [PyData.weightAll], by first | rfl | simp [PyData.canLayAll0]⟩
theorem FineL.cons {d : PyData} {ds : List PyData} {n m k : Nat} (h : Fine d n m) (t : FineL ds n k) : FineL (d :: ds) n (m + 1 + k) := by
  refine ⟨?_, ?_, ?_, ?_, ?_, ?_⟩
  · simp only [PyData.showableAll, h.sh, t.sh, Bool.and_self]
  · simp only [PyData.hasDictAll, h.nd, t.nd, Bool.or_self]
  · simp only [PyData.depthAll]
    have := h.dp
    have := t.dp
    omega
  · simp only [PyData.leavesShortAll, h.lv, t.lv, Bool.and_self]
  · simp only [PyData.weightAll]
    have := h.wt
    have := t.wt
    omega
  · simp only [PyData.canLayAll0, h.cl, t.cl, Bool.and_self]
theorem Fine.tuple {ds : List PyData} {n m : Nat} (t : FineL ds n m) : Fine (.tuple ds) (n + 1) m :=
  ⟨by simpa only [PyData.showable] using t.sh, by simpa only [PyData.hasDict] using t.nd, by simp only [PyData.depth]; have := t.dp; omega, by simpa only [PyData.leavesShort] using t.lv, by simpa only [PyData.weight] using t.wt, by simpa only [PyData.canLay0] using t.cl⟩
theorem Fine.list {ds : List PyData} {n m : Nat} (t : FineL ds n m) : Fine (.list ds) (n + 1) m :=
  ⟨by simpa only [PyData.showable] using t.sh, by simpa only [PyData.hasDict] using t.nd, by simp only [PyData.depth]; have := t.dp; omega, by simpa only [PyData.leavesShort] using t.lv, by simpa only [PyData.weight] using t.wt, by simpa only [PyData.canLay0] using t.cl⟩
theorem Fine.up {d : PyData} {n m n' m' : Nat} (h : Fine d n m) (a : n ≤ n') (b : m ≤ m') : Fine d n' m' := ⟨h.sh, h.nd, Nat.le_trans h.dp a, h.lv, Nat.le_trans h.wt b, h.cl⟩
theorem FineL.ints : ∀ ns : List Int, (∀ z ∈ ns, -1000000 ≤ z ∧ z ≤ 1000000) → FineL (ns.map PyData.int) 0 (41 * ns.length)
  | [], _ => FineL.nil
  | z :: ns, h => by
    have a := FineL.cons (Fine.int (h z List.mem_cons_self).1 (h z List.mem_cons_self).2) (FineL.ints ns fun y hy => h y (List.mem_cons_of_mem _ hy))
    have e : 40 + 1 + 41 * ns.length = 41 * (z :: ns).length := by
      rw [List.length_cons]
      omega
    rw [e] at a
    exact a
theorem Fine.len {d : PyData} {n m : Nat} (h : Fine d n m) (hm : m ≤ 1000000) : d.shown.length ≤ sizeLine := PyData.shown_fits (B := 13) (by decide) (by decide) h.lv (by have := h.wt; omega)
theorem Fine.shaped {d : PyData} {n m : Nat} (h : Fine d n m) (hn : n ≤ 64) : SeqAt.shaped d = true := by
  unfold SeqAt.shaped
  rw [h.cl, Bool.true_and, decide_eq_true_eq]
  exact Nat.le_trans h.dp hn
theorem Fine.eqv {d : PyData} {n m : Nat} (h : Fine d n m) : PyData.eqv d d = true := SeqAt.eqv_refl d h.cl
section
variable {X : Cx}
/-- repr(x), x a list or tuple of data -/
def rReprD (K : PySem.W.Frag) : List V → Hp → VK → Prop := fun xs H Q => ∃ (a : Addr) (d : PyData) (n m : Nat), xs = [.ref a] ∧ Dp K H (.ref a) d ∧ Fine d n m ∧ n ≤ 60 ∧ m ≤ 1000000 ∧ Q (.str d.shown) H
theorem call_reprD (hg : X.A.guards = some []) (hu : X.A.units + 64 < cLine) : CallR X (.builtin "repr") (rReprD X.K) := by
  intro pins s σ H xs us Q I r h
  obtain ⟨a, d, n, m, rfl, hd, hf, hn, hm, q⟩ := h
  rw [Vals.ref1 r]
  obtain ⟨as, rd⟩ := Dp.reads I d _ (.ref a) hd rfl
  refine repr_of_reads' rd hf.sh (PyData.noDict_hsm hf.nd) hg (by have := hf.dp; omega) (fun _ _ z => z) (fun h' u tk hk => ⟨.str d.shown, H, I.kept hk, ⟨u, rfl⟩, q⟩) (hf.len hm)
/-- t.index(n), t a tuple of ints that has n -/
def rTIndex (K : PySem.W.Frag) : V → List V → Hp → VK → Prop := fun x xs H Q => ∃ (p : Addr) (ns : List Int) (k : Int), x = .ref p ∧ xs = [.int k] ∧ SqT K H p (ns.map V.int) ∧ k ∈ ns ∧ Q (.int (ns.idxOf k : Nat)) H
theorem ints_of : ∀ {ns : List Int} {vs : List Value}, Vals (ns.map V.int) vs → IntsAre vs ns
  | [], _, r => by
    cases r
    exact .nil
  | n :: ns, _, r => by
    cases r with
    | cons r1 r2 =>
      obtain ⟨t, rfl⟩ := r1
      exact .cons _ _ (ints_of r2)
theorem mt_tindex : MtR X "tuple.index" (rTIndex X.K) := by
  intro pins s σ H x xs v us Q I rx rs h
  obtain ⟨p, ns, k, rfl, rfl, hq, hk, q⟩ := h
  cases rx
  obtain ⟨u, rfl, t, rfl⟩ := vals1 rs
  obtain ⟨its, r, pl, hz⟩ := I.tuple hq
  exact PySem.SeqAt.tuple_index_ints (l := p) (vs := its) pl (ints_of r) hk ⟨.int (ns.idxOf k : Nat), H, I.tok _, ⟨_, rfl⟩, q⟩
end
section
variable {X : Cx} {k j : Nat} {x : Str} {ps ks : List Str} {sp : Sp} {p pos : Pos} {kws : List Keyword} {tk : TA}
/-- a def that keeps a promise, called by keywords alone -/
structure KCal (P : Program) (w : World) (K : PySem.W.Frag) (mg : Str → Option Value) (base : Heap) (k : Nat) (x : Str) (ks : List Str) (gV : List V → List V → List V) (sp : Sp) : Prop where
  ex : ∃ (f : Addr) (fd : FuncData) (ps : List Str) (g : List Value → List Value → List Value), FnOk P w K mg base CX0 k f fd ps sp ∧ mg x = some (.ref f) ∧ PySem.W.keepIn K (.ref f) = true ∧ KBinds K fd ps ks g gV
variable {gV : List V → List V → List V}
def tKws (sp : Sp) (gV : List V → List V → List V) (tk : TA) : TE := fun σ H Q => tk σ H fun zs H2 => sp (gV [] zs) H2 Q E0
theorem pe_ownK (C : KCal X.prog X.w X.K X.mg X.base k x ks gV sp) (hr : Room j X.A) (hk : k ≤ j) (hg : Gl X x) (hkw : PK X kws tk)
    (hall : (backToKw pos (keywordEach kws X.env)).all (·.1.isSome) = true := by rfl) (hks : (backToKw pos (keywordEach kws X.env)).filterMap (·.1) = ks := by rfl) (hdb : (x == ("__debug__" : Str)) = false := by decide)
    (hpl : ((backTo pos (starEach [] X.env)).any (·.1) || (backToKw pos (keywordEach kws X.env)).any (·.1.isNone)) = false := by rfl) : PE X (.Call (.Name x p) [] kws pos) (tKws sp gV tk) := by
  obtain ⟨f, fd, ps, g, F, hm, kp, b⟩ := C.ex
  refine ⟨fun pins s σ H Q I h => ?_⟩
  refine wpAny_Call_Name_kw (ld_glob I hg hm ?_ hdb)
  refine PySem.W.callWith_KW0 (h₀ := X.base) I.ok.mod.kin kp hall (thn (hkw.run pos pins s σ H _ I h) fun ws s2 ⟨zs, H2, I2, rz, q2⟩ => ⟨I2.kIn, ?_⟩) hpl
  rw [hks]
  exact run_fnk F (hr.mono hk) b (fun _ _ _ _ _ _ _ z => z.elim) I2 .nil rz q2
end
end Su
/-! ### B2: tuples whose object is known to have no dict: their methods may be called -/
namespace Su
open PySem PySem.Spec PyProof.Rows L2
def PTup (H : Hp) (a : Addr) (xs : List V) : Prop := ∃ o : Obj, H a = some (.frz o (.tup xs)) ∧ o.dict = none
theorem PTup.sq {K : PySem.W.Frag} {H : Hp} {a : Addr} {xs : List V} (h : PTup H a xs) : SqT K H a xs := by
  obtain ⟨o, e, _⟩ := h
  exact .inl (.inr ⟨o, e⟩)
theorem PTup.same {H H' : Hp} {a : Addr} {xs : List V} (h : PTup H a xs) (s : Same H H') : PTup H' a xs := by
  obtain ⟨o, e, d⟩ := h
  exact ⟨o, s _ _ e, d⟩
theorem same_upd {H : Hp} {p : Addr} {o : HO} (h : H p = none) : Same H (upd H p o) := fun b x e => by
  rw [upd_ne (ne_of_none e h)]
  exact e
section
variable {X : Cx} {pins : List (Addr × Obj)} {σ : L2.St} {H : Hp} {s : Shared}
/-- a new tuple's object -/
abbrev tupO (its : List Value) : Obj := { cls := .type "tuple", data := .seq its.toArray }
theorem laidF {xs : List V} {its : List Value} (I : Inv X pins σ H s) (r : Vals xs its) (hz : xs.length ≤ sizeLine) (t' : Tok) :
    Inv X pins σ (upd H s.heap.objs.size (.frz (tupO its) (.tup xs))) { s with heap := s.heap.push (tupO its), toks := t' } := by
  refine I.laid (t' := t') (o := .frz (tupO its) (.tup xs)) (fun b ob q => Heap.get?_push_of_some _ q) (Nat.le_refl _) ?_
  exact ⟨Heap.get?_push_size _ rfl, hz, its, r, IsTup.new _ _⟩
theorem newF {xs : List V} {its : List Value} {Q : VK} (I : Inv X pins σ H s) (r : Vals xs its) (hz : xs.length ≤ sizeLine) (q : ∀ v H', Same H H' → H v = none → PTup H' v xs → Q (.ref v) H') (t' : Tok) :
    EP X pins σ Q (.ref s.heap.objs.size) { s with heap := s.heap.push (tupO its), toks := t' } :=
  have hf : H s.heap.objs.size = none := I.hok.fresh (Nat.le_refl _)
  ⟨.ref s.heap.objs.size, _, laidF I r hz t', rfl, q _ _ (same_upd hf) hf ⟨_, upd_same, rfl⟩⟩
end
section
variable {X : Cx} {es : List Expr} {t : TA} {pos : Pos}
def tTupF (t : TA) : TE := fun σ H Q => t σ H fun xs H1 => xs.length ≤ sizeLine ∧ ∀ v H', Same H1 H' → H1 v = none → PTup H' v xs → Q (.ref v) H'
theorem pe_tupF {x1} (h : PA X es t) : PE X (.Tuple es x1 pos) (tTupF t) := by
  refine ⟨fun pins s σ H Q I hq => ?_⟩
  refine wpAny_Tuple_spliced (thn (h.run pos pins s σ H _ I hq) fun us s1 ⟨xs, H1, I1, r, z, q⟩ => ⟨by rw [← r.length]; exact z, ?_⟩)
  exact newF I1 r z q s1.toks
def rTupL (K : PySem.W.Frag) : List V → Hp → VK → Prop := fun xs H Q => ∃ p ys, xs = [.ref p] ∧ SqL K H p ys ∧ ∀ v H', Same H H' → H v = none → PTup H' v ys → Q (.ref v) H'
theorem call_tupleF : CallR X (.type "tuple") (rTupL X.K) := by
  intro pins s σ H xs us Q I r h
  obtain ⟨p, ys, rfl, hq, q⟩ := h
  obtain ⟨u, rfl, rx⟩ := vals1 r
  cases rx
  obtain ⟨its, r', pl, hz⟩ := I.list hq
  have hlen := r'.length
  refine call_tuple_list pl.isList (fun h' kp => ?_) (by simp only [List.size_toArray] <;> omega)
  exact newF (s := { s with heap := h' }) (I.kept (t' := s.toks) kp) r' hz q s.toks
def rCatF : R2 := fun x y H Q => ∃ a b xs ys, x = .ref a ∧ y = .ref b ∧ PTup H a xs ∧ PTup H b ys ∧ xs.length + ys.length ≤ sizeLine ∧ ∀ v H', Same H H' → PTup H' v (xs ++ ys) → Q (.ref v) H'
theorem op_catF : OpR X (binaryOp .Add) rCatF := by
  intro pins s σ H x y v u Q I rx ry h
  obtain ⟨a, b, xs, ys, rfl, rfl, ha, hb, hz, q⟩ := h
  cases rx
  cases ry
  obtain ⟨its, r1, p1, _⟩ := I.tuple (ha.sq (K := X.K))
  obtain ⟨its2, r2, p2, _⟩ := I.tuple (hb.sq (K := X.K))
  by_cases hx : xs = []
  · subst hx
    cases r1
    exact cat_tup0 p1 p2 ⟨.ref b, H, I, rfl, q b H (Same.refl H) hb⟩
  · refine HT.cat_tup p1 p2 (fun z => hx (r1.nil_iff.mp z)) (fun z => ⟨.ref a, H, I, rfl, q a H (Same.refl H) ?_⟩) (fun z => ?_) (by rw [← r1.length, ← r2.length]; exact hz)
    · rw [r2.nil_iff.mp z, List.append_nil]
      exact ha
    · exact newF I (r1.append r2) (by rw [List.length_append]; exact hz) (fun v H' s' _ h => q v H' s' h) s.toks
def rSlF : V → Option Int → Option Int → Hp → VK → Prop := fun x lo hi H Q => ∃ a xs, x = .ref a ∧ PTup H a xs ∧ ∀ v H', Same H H' → PTup H' v (cutV xs lo hi) → Q (.ref v) H'
theorem sl_tupF : SlR X rSlF := by
  intro pins s σ H x v vl vu lo hi sl Q I rx hs pl pu h
  obtain ⟨a, xs, rfl, hx, q⟩ := h
  cases rx
  obtain ⟨its, r, ht, hz⟩ := I.tuple (hx.sq (K := X.K))
  have hlen : its.toArray.size = xs.length := by rw [List.size_toArray]; exact r.length.symm
  refine ⟨"tuple", _, PyProof.Rows.slot_tuple_getitem.lookup, ht.typeIs, ?_⟩
  by_cases hw : HT.sIx xs.length 0 lo = 0 ∧ HT.sIx xs.length xs.length hi = xs.length
  · refine getItem_tuple_whole ht hs pl pu (by rw [hlen]; exact hw) ⟨.ref a, H, I, rfl, q a H (Same.refl H) ?_⟩
    have z : cutV xs lo hi = xs := by
      unfold cutV
      rw [hw.1, hw.2, Nat.sub_zero, List.drop_zero, List.take_length]
    rw [z]
    exact hx
  · refine HT.getItem_tuple_cut ht hs pl pu (by rw [hlen]; exact hw) ?_ (by rw [hlen]; exact hz)
    rw [hlen]
    exact newF I ((r.drop (HT.sIx xs.length 0 lo)).take (HT.sIx xs.length xs.length hi - HT.sIx xs.length 0 lo)) (Nat.le_trans (cutV_length xs lo hi) hz) (fun v H' s' _ h => q v H' s' h) s.toks
/-- t.m(e, ..), t such a tuple -/
def tMT (r : V → List V → Hp → VK → Prop) (to : TE) (t : TA) : TE := fun σ H Q => to σ H fun x H1 => (∃ a xs, x = .ref a ∧ PTup H1 a xs) ∧ t σ H1 fun xs H2 => r x xs H2 Q
variable {o e : Expr} {to : TE} {name : Str} {apos cpos : Pos} {id : String} {r : V → List V → Hp → VK → Prop}
theorem pe_mT (slot : Slot "tuple" name id) (hty : typeOf (.builtin id) = pure (.type "method_descriptor")) (hm : MtR X id r) (ho : PE X o to) (ha : PA X (e :: es) t)
    (hbase : attributeBase o name X.env (eval o X.env) = eval o X.env := by rfl)
    (hfew : ((backTo cpos (starEach (e :: es) X.env)).all (fun x => !x.1) && (backToKw cpos (keywordEach [] X.env)).all (fun x => x.1.isSome) && decide ((e :: es).length + ([] : List Keyword).length + (if ([] : List Keyword).isEmpty then 0 else 1) < 30)) = true := by rfl)
    (hline : (apos.endLine == cpos.line) = true := by rfl) (hs : starEach (e :: es) X.env = (false, eval e X.env) :: starEach es X.env := by rfl) (hplain : (backTo cpos (starEach es X.env)).any (·.1) = false := by rfl) :
    PE X (.Call (.Attribute o name apos) (e :: es) [] cpos) (tMT r to t) := by
  refine ⟨fun pins s σ H Q I h => ?_⟩
  refine wpAny_Call_method_late hbase hfew hline rfl (thn (ho.run pins s σ H _ I h) fun v s1 ⟨x, H1, I1, r1, ⟨a, xs, ex, pt⟩, q1⟩ => ?_)
  subst ex
  cases r1
  obtain ⟨its, rv, tp, _⟩ := I1.tuple (pt.sq (K := X.K))
  obtain ⟨ob, eo, ed⟩ := pt
  have g1 := (I1.hok a _ eo).1
  refine ⟨"tuple", id, PySem.F.plainAttrs_tuple, slot, hty, tp.typeIs, fun b eb => ?_, ?_⟩
  · cases eb
    exact ⟨ob, g1, ed⟩
  have hA := ha.run cpos pins s1 σ H1 _ I1 q1
  rw [hs] at hA ⊢
  refine Calls.callWith_builtin (by show (false || (backTo cpos (starEach es X.env)).any (·.1)) = false; rw [hplain] <;> rfl) (Calls.evalArgs_plain ?_)
  exact thn hA fun us s2 ⟨vs, H2, I2, r2, q2⟩ => hm pins s2 σ H2 (.ref a) vs _ us Q I2 rfl r2 q2
end
end Su
/-! ### SC: a set of ints by a comprehension with two clauses -/
namespace Su
open PySem PySem.Spec PyProof.Rows L2
abbrev sc2 (e a b c d : Expr) (sp : Scope) (po : Pos) : Expr := .SetComp e [⟨a, b, [], 0⟩, ⟨c, d, [], 0⟩] sp po
section
variable {prog : Program} {w : World} {A : Around} {R : Result → Shared → Prop} {s : Shared} {e a b c d : Expr} {sp : Scope} {po : Pos} {it acc : Value} {env : Env}
theorem sc2_out : compTurn (sc2 e a b c d sp po) 0 it acc env = (do
      standAt b.pos
      match ← pyNext it with
      | none => pure (.done .next)
      | some v =>
        letOwnedTupleGo a it v
        assign a env v
        let x ← eval d env
        standAt d.pos
        let y ← foldedSetIterable d env x
        let _ ← runOwn (.compStart (sc2 e a b c d sp po) 1 (← holding [y] (pyIter y)) acc env) env
        again (.compLoop (sc2 e a b c d sp po) 0 it acc env)) := by rfl
theorem sc2_in : compTurn (sc2 e a b c d sp po) 1 it acc env = (do
      standAt d.pos
      match ← pyNext it with
      | none => pure (.done .next)
      | some v =>
        letOwnedTupleGo c it v
        assign c env v
        (do let x ← eval e env; standAt e.pos; let _ ← call (.builtin "set.add") [acc, x])
        again (.compLoop (sc2 e a b c d sp po) 1 it acc env)) := by rfl
/-- the tail of a turn that raises: the frame is noted -/
abbrev nb (prog : Program) (w : World) (A : Around) (env : Env) (R : Result → Shared → Prop) : Value → Shared → Prop := notedBy (model prog w) A env fun x u => R (.error x) u
theorem sc2_loop0 (hf : ∀ x, foldedSetIterable d env x = pure x) (J : Nat → Shared → Prop)
    (one : ∀ n u, J n u → wpAny (model prog w) A (pyNext it) (fun r u1 => match r with
      | none => R (.ok .next) u1
      | some v => wpAny (model prog w) A (letOwnedTupleGo a it v) (fun _ u2 => wpAny (model prog w) A (assign a env v) (fun _ u3 =>
          wpAny (model prog w) A (eval d env) (fun x u4 => wpAny (model prog w) A (pyIter x) (fun jt u5 =>
            codeAny (model prog w) A (.compStart (sc2 e a b c d sp po) 1 jt acc env) (fun r u6 => match r with
              | .ok _ => ∃ m, m < n ∧ J m u6
              | .error _ => False) u5) (nb prog w A env R) u4) (nb prog w A env R) u3) (nb prog w A env R) u2) (nb prog w A env R) u1) (nb prog w A env R) u)
    (n : Nat) (h : J n s) : codeAny (model prog w) A (.compLoop (sc2 e a b c d sp po) 0 it acc env) R s := by
  refine codeAny_loop rfl J (fun n u hJ => ?_) n h
  show wpAny _ A ((compTurn (sc2 e a b c d sp po) 0 it acc env).onRaise (fun x => do noteFrame x env; theTreesLotGoes x)) _ _ u
  refine wpAny_noted ?_
  rw [sc2_out]
  refine wpAny_bind (wpAny_standAt (wpAny_bind (wpAny_mono (one n u hJ) (fun r u1 h1 => ?_) fun _ _ k => k)))
  cases r with
  | none => exact wpAny_pure h1
  | some v =>
    refine wpAny_bind (wpAny_mono h1 (fun _ u2 h2 => wpAny_bind (wpAny_mono h2 (fun _ u3 h3 => ?_) fun _ _ k => k)) fun _ _ k => k)
    refine wpAny_bind (wpAny_mono h3 (fun x u4 h4 => ?_) fun _ _ k => k)
    refine wpAny_bind (wpAny_standAt (wpAny_bind (wpAny_of_eq (hf x) (wpAny_bind (wpAny_holding (wpAny_mono h4 (fun jt u5 h5 => ?_) fun _ _ k => k))))))
    refine wpAny_bind (wpAny_runOwn ?_)
    rw [Around.mark_none]
    refine codeAny_mono h5 fun r u6 hr => ?_
    cases r with
    | error x => exact hr.elim
    | ok f =>
      first
        | exact wpAny_pure ⟨rfl, hr⟩
        | exact wpAny_bind (wpAny_pure (wpAny_pure ⟨rfl, hr⟩))
theorem sc2_loop1 (J : Nat → Shared → Prop)
    (one : ∀ n u, J n u → wpAny (model prog w) A (pyNext it) (fun r u1 => match r with
      | none => R (.ok .next) u1
      | some v => wpAny (model prog w) A (letOwnedTupleGo c it v) (fun _ u2 => wpAny (model prog w) A (assign c env v) (fun _ u3 =>
          wpAny (model prog w) A (eval e env) (fun x u4 => wpAny (model prog w) A (call (.builtin "set.add") [acc, x]) (fun _ u5 => ∃ m, m < n ∧ J m u5) (nb prog w A env R) u4) (nb prog w A env R) u3)
            (nb prog w A env R) u2) (nb prog w A env R) u1) (nb prog w A env R) u)
    (n : Nat) (h : J n s) : codeAny (model prog w) A (.compLoop (sc2 e a b c d sp po) 1 it acc env) R s := by
  refine codeAny_loop rfl J (fun n u hJ => ?_) n h
  show wpAny _ A ((compTurn (sc2 e a b c d sp po) 1 it acc env).onRaise (fun x => do noteFrame x env; theTreesLotGoes x)) _ _ u
  refine wpAny_noted ?_
  rw [sc2_in]
  refine wpAny_bind (wpAny_standAt (wpAny_bind (wpAny_mono (one n u hJ) (fun r u1 h1 => ?_) fun _ _ k => k)))
  cases r with
  | none => exact wpAny_pure h1
  | some v =>
    refine wpAny_bind (wpAny_mono h1 (fun _ u2 h2 => wpAny_bind (wpAny_mono h2 (fun _ u3 h3 => ?_) fun _ _ k => k)) fun _ _ k => k)
    refine wpAny_bind (wpAny_bind (wpAny_mono h3 (fun x u4 h4 => wpAny_bind (wpAny_standAt (wpAny_bind (wpAny_mono h4 (fun _ u5 h5 => ?_) fun _ _ k => k)))) fun _ _ k => k))
    first
      | exact wpAny_pure (wpAny_pure ⟨rfl, h5⟩)
      | exact wpAny_pure ⟨rfl, h5⟩
theorem sc2_begin (h0 : codeAny (model prog w) A (.compLoop (sc2 e a b c d sp po) 1 it acc env) R s)
    (h : wpAny (model prog w) A (pyIter it) (fun jt u => codeAny (model prog w) A (.compLoop (sc2 e a b c d sp po) 1 jt acc env) R u) (nb prog w A env R) s) :
    codeAny (model prog w) A (.compStart (sc2 e a b c d sp po) 1 it acc env) R s := by
  refine codeAny_of_tree ?_
  show wpAny _ _ ((compStart (sc2 e a b c d sp po) 1 it acc env).onRaise (fun x => do noteFrame x env; standAt theWindowsPlace)) _ _ s
  refine wpAny_notedAt ?_
  unfold compStart
  show wpAny _ _ (ask >>= _) _ _ s
  refine wpAny_bind (wpAny_askSetting (wpAny_ite ?_))
  split
  · first
      | exact wpAny_pure ⟨rfl, h0⟩
      | exact wpAny_bind (wpAny_pure (wpAny_pure ⟨rfl, h0⟩))
  · refine wpAny_bind (wpAny_rule ?_)
    show wpAny _ _ (standAt d.pos >>= _) _ _ s
    exact wpAny_bind (wpAny_standAt (wpAny_bind (wpAny_mono h (fun jt u k => wpAny_pure ⟨rfl, k⟩) fun _ _ k => k)))
end
end Su
namespace Su
open PySem PySem.Spec PyProof.Rows L2
section
variable {X : Cx}
/-- what the comprehension asks: the outer walk, in each of its turns the inner one, and each int put into the set -/
def tSC (w : World) (wo : TI) (go : TG) (wn : TI) (gn : TG) (te : TE) (vs vs1 : List Nat) : TE := fun σ H Q => wo σ H fun J H1 => ∀ D, H1 D = none →
  ∃ W : Nat → Nat → Hp → Prop, (∃ m, W 0 m (upd H1 D (SetO w D (fun _ => false) 0))) ∧ ∀ i m H, W i m H →
    (J.stop i H ∧ Q (.ref D) H) ∨
    (J.go i H ∧ ∃ Nx : Hp → Prop, (∀ H', Nx H' → ∃ m', m' < m ∧ W (i + 1) m' H') ∧ ∀ x H', J.yld i H x H' → go x (wipe σ vs) H' fun σ2 H2 => wipe σ2 vs = wipe σ vs ∧
      wn σ2 H2 fun L H3 => ∃ U : Nat → Nat → Hp → Prop, (∃ m, U 0 m H3) ∧ ∀ j k H, U j k H →
        (L.stop j H ∧ Nx H) ∨
        (L.go j H ∧ ∃ Ny : Hp → Prop, (∀ H', Ny H' → ∃ k', k' < k ∧ U (j + 1) k' H') ∧ ∀ y H', L.yld j H y H' → gn y (wipe σ2 vs1) H' fun σ3 H4 => wipe σ3 vs1 = wipe σ2 vs1 ∧
          te σ3 H4 fun z H5 => ∃ (c : Int) (S : Int → Bool) (n : Nat), z = .int c ∧ H5 D = some (SetO w D S n) ∧ n + 1 < scanBound ∧
            Ny (upd H5 D (SetO w D (fun j => S j || decide (j = c)) (if S c = true then n else n + 1)))))
abbrev setE (w : World) : Obj := { cls := .type "set", dict := none, data := .set #[] 0 (.fresh 0 0 (!w.params.followText "set-order")) }
theorem put_int {pins : List (Addr × Obj)} {σ : L2.St} {H : Hp} {s : Shared} {E : Value → Shared → Prop} {D : Addr} {S : Int → Bool} {n : Nat} {k : Int} {v : Value} {Q : Value → Shared → Prop}
    (I : Inv X pins σ H s) (hD : H D = some (SetO X.w D S n)) (few : n + 1 < scanBound) (r : RelV (.int k) v)
    (h : ∀ t, Inv X pins σ (upd H D (SetO X.w D (fun j => S j || decide (j = k)) (if S k = true then n else n + 1))) t → Q .none t) :
    wpAny (model X.prog X.w) X.A (call (.builtin "set.add") [.ref D, v]) Q E s := by
  obtain ⟨tk, rfl⟩ := r
  refine setR_add (setO_get I hD) few fun g sb new => ?_
  have there : ∃ u, g.get? D = some u := by
    have ⟨o, _, _, _, ho, _⟩ := new
    exact ⟨o, ho⟩
  refine h _ (I.write (e := D) (t' := s.toks + 1) (by rw [hD]; trivial) (.inl rfl) (fun b u hb hu => ?_) there (setO_new new))
  exact (sb.2 b hb).trans hu
theorem pe_sc2 {e a b c d : Expr} {sp : Scope} {own : List (Str × Nat)} {vs1 : List Nat} {pos : Pos} {wo wn : TI} {go gn : TG} {te : TE} (hc : X.calm = true) (hN : X.N.Nodup) (pio : PI X a b wo)
    (ok : BlkOk X.N X.env.scope sp own) (hv : ∀ i ∈ vs1, i ∈ own.map (·.2))
    (pgo : ∀ (s : Shared) (H : Hp) (C : Addr) (cl : List (Str × Addr)) (fp : List Addr), PG (X.blk s H sp (compEnvC sp cl C X.env) fp) a go)
    (pin : ∀ (s : Shared) (H : Hp) (C : Addr) (cl : List (Str × Addr)) (fp : List Addr), PI (X.blk s H sp (compEnvC sp cl C X.env) fp) c d wn)
    (pgn : ∀ (s : Shared) (H : Hp) (C : Addr) (cl : List (Str × Addr)) (fp : List Addr), PG (X.blk s H sp (compEnvC sp cl C X.env) fp) c gn)
    (pe : ∀ (s : Shared) (H : Hp) (C : Addr) (cl : List (Str × Addr)) (fp : List Addr), PE (X.blk s H sp (compEnvC sp cl C X.env) fp) e te)
    (fo : ∀ x, foldedSetIterable b X.env x = pure x := by intro _; rfl) (fn : ∀ env x, foldedSetIterable d env x = pure x := by intro _ _; rfl) :
    PE X (sc2 e a b c d sp pos) (tSC X.w wo go wn gn te (own.map (·.2)) vs1) := by
  refine ⟨fun pins s σ H Q I hq => ?_⟩
  rw [PpSet.eval_SetComp]
  have cl0 : ∀ y ∈ sp.names, y.2 = .free → ∃ k, X.env.cells.lookup y.1 = some k := by
    intro y hy z
    rcases ok.free y hy z with k | k
    · exact I.ok.has _ (.inl k)
    · exact I.ok.has _ (.inr k)
  refine wpAny_comprehension_free (use := none) rfl fo (closure_ok cl0) ok.kind (fun y hy z => by rw [ok.uniq y hy, z]) ?_
  refine thn (pio.run pins s σ H _ I hq) fun xv s1 hx => thn hx fun iv s2 h2 => ?_
  obtain ⟨it, fa, tn, J, Hb, rfl, Ib, T, stb, fb, q⟩ := h2
  refine PpSet.newSet_ok (newEnv_comp ?_)
  generalize eD : s2.heap.objs.size = D
  obtain ⟨W, ⟨m0, w0⟩, turn⟩ := q D (Ib.hok.fresh (Nat.le_of_eq eD))
  generalize e3 : ({ s2 with heap := s2.heap.push (setE X.w) } : Shared) = s3
  have hp3 : s3.heap = s2.heap.push (setE X.w) := by rw [← e3]
  have Ic : Inv X pins σ (upd Hb D (SetO X.w D (fun _ => false) 0)) s3 := by
    rw [← e3]
    refine Ib.laid (t' := s2.toks) (fun _ _ z => Heap.get?_push_of_some _ z) (Nat.le_of_eq eD) ?_
    rw [← eD]
    exact setO_new (setR_fresh X.w)
  have small : ∀ x ∈ fa, x < s2.heap.objs.size := by
    intro x hx
    obtain ⟨o, z, _⟩ := T.obj _ _ stb x hx
    exact Heap.lt_size z
  have fc : ∀ x ∈ fa, FpOk X pins (upd Hb D (SetO X.w D (fun _ => false) 0)) x ∧ x < s3.heap.objs.size := by
    intro x hx
    have lt := small x hx
    constructor
    · refine ⟨?_, (fb x hx).2⟩
      rw [upd_ne (by rw [← eD]; exact Nat.ne_of_lt lt)]
      exact (fb x hx).1
    · rw [hp3, Heap.size_push]
      exact Nat.lt_succ_of_lt lt
  have stc : tn 0 s3.heap := T.keep _ _ _ stb fun _ _ _ z => by
    rw [hp3]
    exact Heap.get?_push_of_some _ z
  have Id := block_start Ic ok hN fc
  have qgo := pgo s3 (upd Hb D (SetO X.w D (fun _ => false) 0)) s3.heap.objs.size (cellsFrom (s3.heap.objs.size + 1) sp.names (cloFrom X.env.cells sp.names [])) fa
  have qin := pin s3 (upd Hb D (SetO X.w D (fun _ => false) 0)) s3.heap.objs.size (cellsFrom (s3.heap.objs.size + 1) sp.names (cloFrom X.env.cells sp.names [])) fa
  have qgn := pgn s3 (upd Hb D (SetO X.w D (fun _ => false) 0)) s3.heap.objs.size (cellsFrom (s3.heap.objs.size + 1) sp.names (cloFrom X.env.cells sp.names [])) fa
  have qe := pe s3 (upd Hb D (SetO X.w D (fun _ => false) 0)) s3.heap.objs.size (cellsFrom (s3.heap.objs.size + 1) sp.names (cloFrom X.env.cells sp.names [])) fa
  have nofa : ∀ x ∈ fa, (upd Hb D (SetO X.w D (fun _ => false) 0)) x = none := fun x hx => (fc x hx).1.1
  show codeAny _ _ (.compStart (sc2 e a b c d sp pos) 0 (.ref it) (.ref D) (compEnvC sp (cellsFrom (s3.heap.objs.size + 1) sp.names (cloFrom X.env.cells sp.names [])) s3.heap.objs.size X.env)) _ { s3 with heap := pushCells (s3.heap.push { cls := .type "dict", data := .dict #[] }) sp.names }
  generalize eE : compEnvC sp (cellsFrom (s3.heap.objs.size + 1) sp.names (cloFrom X.env.cells sp.names [])) s3.heap.objs.size X.env = en at Id qgo qin qgn qe ⊢
  have locE : en.locals = s3.heap.objs.size := by
    subst eE
    rfl
  generalize eH : upd Hb D (SetO X.w D (fun _ => false) 0) = Hc at Ic Id qgo qin qgn qe w0 nofa fc
  generalize e4 : ({ s3 with heap := pushCells (s3.heap.push { cls := .type "dict", data := .dict #[] }) sp.names } : Shared) = s4 at Id ⊢
  have std : tn 0 s4.heap := T.keep _ _ _ stc fun _ _ _ z => by
    rw [← e4]
    exact pushCells_keeps _ _ _ _ (Heap.get?_push_of_some _ z)
  have foot : ∀ {τ : L2.St} {G : Hp} {t : Shared}, Inv (X.blk s3 Hc sp en fa) [] τ G t → (∀ x ∈ fa, G x = none) → ∀ x ∈ fa, FpOk (X.blk s3 Hc sp en fa) [] G x := by
    intro τ G t It hn x hx
    refine ⟨hn x hx, (It.ok.exf x hx).1, It.ok.exfs x hx, .inl hx, fun y k z => (It.ok.exf x hx).2 y k z, fun p hp => ?_⟩
    exact absurd (show p ∈ ([] : List (Addr × Obj)) ++ [] from hp) (by simp)
  have main : codeAny (model X.prog X.w) X.A (.compLoop (sc2 e a b c d sp pos) 0 (.ref it) (.ref D) en) (compPost (model X.prog X.w) X.A X.xe none (fun u t => EP X pins σ Q u t) (.ref D) s3.heap.objs.size) s4 := by
    refine sc2_loop0 (fn en) (fun n t => ∃ i G, Inv (X.blk s3 Hc sp en fa) [] (wipe σ (own.map (·.2))) G t ∧ tn i t.heap ∧ (∀ x ∈ fa, G x = none) ∧ W i n G) ?_ m0 ⟨0, Hc, Id, std, nofa, w0⟩
    rintro n s5 ⟨i, H5, I5, st5, n5, w5⟩
    rcases turn i n H5 w5 with ⟨stop, qq⟩ | ⟨hgo, Nx, hNx, step⟩
    · refine thnF (T.done (X.blk s3 Hc sp en fa) rfl rfl rfl hc i [] s5 _ H5 (fun _ _ => False) I5 (foot I5 n5) st5 stop) fun r s6 ⟨hr, I6⟩ => ?_
      subst hr
      have I7 : Inv X pins σ H5 s6 := by
        refine Ic.call' (ch := fa) I6.os I6.base I6.hok I6.bare fun x hx => ?_
        have z := (fc x hx).1.2
        exact ⟨z.2.2.1, z.1, z.2.2.2.1, z.2.2.2.2⟩
      have nl : H5 s3.heap.objs.size = none := by
        have z : H5 en.locals = none := I6.free
        rwa [locE] at z
      obtain ⟨m, hn, _⟩ := I6.loc
      have hn2 : s6.heap.Ns en.locals m := hn
      rw [locE] at hn2
      obtain ⟨f0, f1, f2, f3, f4, f5⟩ := Ic.fpOk (Nat.le_refl _) nl
      refine ⟨m, hn2, fun g sb => ?_⟩
      exact ⟨.ref D, H5, I7.turned (t' := s6.toks) (fun y o hy z => (sb.2 y hy).trans z) f0 f1 f3 f4 f5, rfl, qq⟩
    · refine thnF (T.item (X.blk s3 Hc sp en fa) rfl rfl rfl hc i [] s5 _ H5 (fun _ _ => False) I5 (foot I5 n5) st5 hgo) fun r s6 ⟨u, hr, h6⟩ => ?_
      subst hr
      refine thnF h6 fun _ s7 ⟨x, H7, I7, r7, y7, st7, n7⟩ => ?_
      refine thnF (qgo.run _ s7 _ H7 x u _ (I7.pinned (foot I7 n7) (T.obj _ _ st7)) r7 (step x H7 y7)) fun _ s8 ⟨σ8, H8, I8, hw8, q8⟩ => ?_
      have shut : ∀ {τ : L2.St} {t : Shared} {G : Hp}, Inv (X.blk s3 Hc sp en fa) ([] ++ pinsAt fa s7.heap) τ G t → (wipe σ (own.map (·.2))).length = τ.length →
          (∀ (j : Nat) v, (wipe σ (own.map (·.2)))[j]? = some (some v) → τ[j]? = some (some v)) → Nx G →
          ∃ m, m < n ∧ ∃ i G, Inv (X.blk s3 Hc sp en fa) [] (wipe σ (own.map (·.2))) G t ∧ tn i t.heap ∧ (∀ x ∈ fa, G x = none) ∧ W i m G := by
        intro τ t G It hl hk nx
        obtain ⟨m', lt, w'⟩ := hNx G nx
        have held : ∀ y ∈ fa, ∀ o, s7.heap.get? y = some o → t.heap.get? y = some o ∧ G y = none := by
          intro y hy o z
          have k := It.pin (y, o) (List.mem_append_right _ (List.mem_append_right _ (mem_pinsAt hy z)))
          exact ⟨k.1, k.2.1⟩
        refine ⟨m', lt, i + 1, G, (It.unpinned (pins := [])).weak hl hk, T.keep _ _ _ st7 fun y hy o z => (held y hy o z).1, fun y hy => ?_, w'⟩
        obtain ⟨o, z, _⟩ := T.obj _ _ st7 y hy
        exact (held y hy o z).2
      have len8 : (wipe σ (own.map (·.2))).length = σ8.length := by
        rw [← hw8, wipe_length]
      have keep8 : ∀ (j : Nat) v, (wipe σ (own.map (·.2)))[j]? = some (some v) → (wipe σ8 vs1)[j]? = some (some v) := by
        intro j v z
        rw [← hw8] at z
        obtain ⟨z1, z2⟩ := wipe_some z
        rw [wipe_out fun k => z2 (hv j k)]
        exact z1
      refine thnF (qin.run _ s8 σ8 H8 _ I8 q8) fun xv s9 hx => thnF hx fun iw s10 h10 => ?_
      obtain ⟨jt, fi, tm, L, H10, rfl, I10, T1, st10, f10, U, ⟨m1, u1⟩, turn1⟩ := h10
      have foot1 : ∀ {G : Hp}, (∀ y ∈ fi, G y = none) → ∀ y ∈ fi, FpOk (X.blk s3 Hc sp en fa) ([] ++ pinsAt fa s7.heap) G y := fun hn y hy => ⟨hn y hy, (f10 y hy).2⟩
      have inner : codeAny (model X.prog X.w) X.A (.compLoop (sc2 e a b c d sp pos) 1 (.ref jt) (.ref D) en)
          (fun r t => match r with
            | .ok _ => ∃ m, m < n ∧ ∃ i G, Inv (X.blk s3 Hc sp en fa) [] (wipe σ (own.map (·.2))) G t ∧ tn i t.heap ∧ (∀ x ∈ fa, G x = none) ∧ W i m G
            | .error _ => False) s10 := by
        refine sc2_loop1 (fun k t => ∃ j G, Inv (X.blk s3 Hc sp en fa) ([] ++ pinsAt fa s7.heap) (wipe σ8 vs1) G t ∧ tm j t.heap ∧ (∀ y ∈ fi, G y = none) ∧ U j k G) ?_ m1
          ⟨0, H10, I10.weak (wipe_length _ _) (fun j v z => (wipe_some z).1), st10, fun y hy => (f10 y hy).1, u1⟩
        rintro k s11 ⟨j, H11, I11, st11, n11, w11⟩
        rcases turn1 j k H11 w11 with ⟨stop1, nx1⟩ | ⟨go1, Ny, hNy, step1⟩
        · refine thnF (T1.done (X.blk s3 Hc sp en fa) rfl rfl rfl hc j _ s11 (wipe σ8 vs1) H11 (fun _ _ => False) I11 (foot1 n11) st11 stop1) fun r s12 ⟨hr, I12⟩ => ?_
          subst hr
          exact shut I12 (len8.trans (wipe_length σ8 vs1).symm) keep8 nx1
        · refine thnF (T1.item (X.blk s3 Hc sp en fa) rfl rfl rfl hc j _ s11 (wipe σ8 vs1) H11 (fun _ _ => False) I11 (foot1 n11) st11 go1) fun r s12 ⟨v1, hr, h12⟩ => ?_
          subst hr
          refine thnF h12 fun _ s13 ⟨x1, H13, I13, r13, y13, st13, n13⟩ => ?_
          refine thnF (qgn.run _ s13 (wipe σ8 vs1) H13 x1 v1 _ (I13.pinned (foot1 n13) (T1.obj _ _ st13)) r13 (step1 x1 H13 y13)) fun _ s14 ⟨σ14, H14, I14, hw14, q14⟩ => ?_
          refine thnF (qe.run _ s14 σ14 H14 _ I14 q14) fun z s15 ⟨yv, H15, I15, r15, cc, S, nn, ey, hD15, few, nx⟩ => ?_
          subst ey
          refine put_int (X := X.blk s3 Hc sp en fa) I15 hD15 few r15 fun s16 I16 => ?_
          obtain ⟨m', lt, w'⟩ := hNy _ nx
          have held : ∀ y ∈ fi, ∀ o, s13.heap.get? y = some o → s16.heap.get? y = some o ∧ (upd H15 D (SetO X.w D (fun j => S j || decide (j = cc)) (if S cc = true then nn else nn + 1))) y = none := by
            intro y hy o z
            have k := I16.pin (y, o) (List.mem_append_right _ (List.mem_append_right _ (mem_pinsAt hy z)))
            exact ⟨k.1, k.2.1⟩
          refine ⟨m', lt, j + 1, _, I16.unpinned.weak (by rw [← hw14, wipe_length]) (fun j v z => by rw [← hw14] at z; exact (wipe_some z).1), T1.keep _ _ _ st13 fun y hy o z => (held y hy o z).1, fun y hy => ?_, w'⟩
          obtain ⟨o, z, _⟩ := T1.obj _ _ st13 y hy
          exact (held y hy o z).2
      exact sc2_begin inner (T1.self X.A 0 _ _ _ st10 inner)
  exact PpSet.codeAny_compStart_set main (T.self X.A 0 _ _ _ std main)
end
end Su
/-! ### PL: the pool from which a law draws -/
namespace Su
open PySem PySem.Spec PyProof.Rows L2
/-- the built-in names that the text does not bind -/
structure Bt (mg : Str → Option Value) : Prop where
  len : mg "len" = none
  sum : mg "sum" = none
  abs : mg "abs" = none
  int : mg "int" = none
  min : mg "min" = none
  max : mg "max" = none
  range : mg "range" = none
  sorted : mg "sorted" = none
  list : mg "list" = none
  tuple : mg "tuple" = none
  repr : mg "repr" = none
  set : mg "set" = none
  all : mg "all" = none
  isinstance : mg "isinstance" = none
  str : mg "str" = none
  bool : mg "bool" = none
  reversed : mg "reversed" = none
  enumerate : mg "enumerate" = none
  zip : mg "zip" = none
  any : mg "any" = none
  dict : mg "dict" = none
theorem cutV_ints (ns : List Int) (lo hi : Option Int) : ∃ ms : List Int, cutV (ns.map V.int) lo hi = ms.map V.int := by
  unfold cutV
  exact ⟨_, by rw [← List.map_drop, ← List.map_take]⟩
theorem atI_int {α : Type} {xs : List α} {i : Int} {v : α} (h0 : 0 ≤ i) (h : xs[i.toNat]? = some v) : atI xs i = some v := by
  have e := atI_nat h
  rw [Int.toNat_of_nonneg h0] at e
  exact e
theorem b01 (b : Bool) : -(2 ^ 64) < (if b = true then (1 : Int) else 0) ∧ (if b = true then (1 : Int) else 0) < 2 ^ 64 := by
  cases b <;> exact ⟨by decide, by decide⟩
/-! the pool -/
def PoolO (o : HO) : Prop := ∃ g m : Int, o = .lst [.int g, .int m] ∧ 0 ≤ g ∧ 0 ≤ m ∧ m < 2147483647
def PoolAt (H : Hp) (p : Addr) : Prop := ∃ o, H p = some o ∧ PoolO o
def spTake : Sp := fun vs H Q _ => ∃ (p : Addr) (many : Int), vs = [.ref p, .int many] ∧ PoolAt H p ∧ 1 ≤ many ∧ many < 1000000 ∧
  ∀ (r : Int) (o : HO), 0 ≤ r → r < many → PoolO o → Q (.int r) (upd H p o)
def spPool (K : PySem.W.Frag) : Sp := fun vs H Q _ => ∃ (a : Addr) (ns : List Int) (k : Int), vs = [.ref a, .int k] ∧ SqL K H a (ns.map V.int) ∧ 0 ≤ k ∧ k < 1000 ∧
  ∀ (p : Addr) (H' : Hp), Same H H' → H p = none → PoolAt H' p → Q (.ref p) H'
/-- all but what stands at p is as it was -/
def Kept (p : Addr) (H H' : Hp) : Prop := ∀ b o, H b = some o → b ≠ p → H' b = some o
theorem Kept.refl (p : Addr) (H : Hp) : Kept p H H := fun _ _ h _ => h
theorem Kept.trans {p : Addr} {H H1 H2 : Hp} (a : Kept p H H1) (b : Kept p H1 H2) : Kept p H H2 := fun c o h n => b c o (a c o h n) n
theorem Kept.same {p : Addr} {H H1 : Hp} (a : Same H H1) : Kept p H H1 := fun c o h _ => a c o h
theorem Kept.upd (p : Addr) (H : Hp) (o : HO) : Kept p H (upd H p o) := fun b x e n => by
  rw [upd_ne n]
  exact e
theorem Kept.set {p b : Addr} {H H1 : Hp} {o : HO} (a : Kept p H H1) (hb : H b = none) : Kept p H (L2.upd H1 b o) := fun c x e n => by
  rw [upd_ne (ne_of_none e hb)]
  exact a c x e n
theorem Kept.free {p b : Addr} {H H' : Hp} (a : Kept p H H') (n : b ≠ p) (h : H' b = none) : H b = none := by
  cases z : H b with
  | none => rfl
  | some o =>
    rw [a b o z n] at h
    cases h
theorem pool_ne {H : Hp} {p b : Addr} (h : PoolAt H p) (n : H b = none) : b ≠ p := by
  obtain ⟨o, e, _⟩ := h
  exact (ne_of_none e n).symm
theorem PoolAt.upd {H : Hp} {p b : Addr} {o : HO} (h : PoolAt H p) (n : p ≠ b) : PoolAt (upd H b o) p := by
  obtain ⟨x, e, z⟩ := h
  exact ⟨x, by rw [upd_ne n]; exact e, z⟩
theorem PoolAt.same {H H' : Hp} {p : Addr} (h : PoolAt H p) (s : Same H H') : PoolAt H' p := by
  obtain ⟨o, e, z⟩ := h
  exact ⟨o, s _ _ e, z⟩
theorem PTup.kept {p a : Addr} {H H' : Hp} {xs : List V} (h : PTup H a xs) (k : Kept p H H') (hp : PoolAt H p) : PTup H' a xs := by
  obtain ⟨o, e, d⟩ := h
  obtain ⟨x, e2, g, m, rfl, _⟩ := hp
  refine ⟨o, k _ _ e (fun z => ?_), d⟩
  subst z
  rw [e] at e2
  cases e2
theorem seq_kept {K : PySem.W.Frag} {p a : Addr} {H H' : Hp} {xs : List V} (k : Kept p H H') (n : a ≠ p) (h : SqL K H a xs) : SqL K H' a xs := by
  rcases h with (h | ⟨o, h⟩) | h
  · exact .inl (.inl (k _ _ h n))
  · exact .inl (.inr ⟨o, k _ _ h n⟩)
  · exact .inr h
theorem tyes {σ : L2.St} {H : Hp} {A B : Hp → Prop} (h : A H) : tYes σ H (fun b H3 => if b = true then A H3 else B H3) := (iteT h : if true = true then A H else B H)
theorem erase_map (f : Int → V) : ∀ (l : List Int) (j : Nat), (l.map f).eraseIdx j = (l.eraseIdx j).map f
  | [], _ => rfl
  | _ :: _, 0 => rfl
  | x :: l, j + 1 => by
    show f x :: (l.map f).eraseIdx j = f x :: (l.eraseIdx j).map f
    rw [erase_map f l j]
theorem free_upd {H : Hp} {a b : Addr} {o : HO} (h : upd H a o b = none) : b ≠ a ∧ H b = none := by
  by_cases e : b = a
  · subst e
    rw [upd_same] at h
    cases h
  · rw [upd_ne e] at h
    exact ⟨e, h⟩
theorem seqIx {i : Int} {n : Nat} (h0 : 0 ≤ i) (h : i < n) : seqIndex? i n = some i.toNat :=
  (ixN_seq (n := n) (i := i) (j := i.toNat) (by unfold ixN; rw [if_pos h0, if_pos h])).1
theorem erase_perm : ∀ (l : List Int) (j : Nat) (y : Int), l[j]? = some y → (y :: l.eraseIdx j).Perm l
  | [], j, y, h => by simp at h
  | x :: l, 0, y, h => by
    have e : x = y := by simpa using h
    rw [e]
    exact List.Perm.refl _
  | x :: l, j + 1, y, h => by
    have e : l[j]? = some y := by simpa using h
    exact (List.Perm.swap x y (l.eraseIdx j)).trans ((erase_perm l j y e).cons x)
abbrev rLenK (K : PySem.W.Frag) : List V → Hp → VK → Prop := fun xs H Q => ∃ p ys, xs = [.ref p] ∧ (SqL K H p ys ∨ SqT K H p ys) ∧ Q (.int ys.length) H
def spPicked (K : PySem.W.Frag) : Sp := fun vs H Q _ => ∃ (p b : Addr) (ns : List Int) (many : Int), vs = [.ref p, .ref b, .int many] ∧ PoolAt H p ∧ SqL K H b (ns.map V.int) ∧ b ≠ p ∧ ns.Nodup ∧ ns.length ≤ 1000 ∧ 0 ≤ many ∧
  ∀ (q : Addr) (H' : Hp) (ms : List Int), H q = none → Kept p H H' → PoolAt H' p → H' q = some (.lst (ms.map V.int)) → ms.Nodup → (∀ x ∈ ms, x ∈ ns) → ms.length = min many.toNat ns.length → ms.Pairwise (· ≤ ·) → Q (.ref q) H'
def hundred : List Int := (List.range 100).map fun i => ((i : Nat) : Int)
theorem hundred_rg : rgV 0 100 = hundred.map V.int := by
  unfold rgV hundred
  rw [List.map_map]
  rfl
theorem hundred_nd : hundred.Nodup := by decide +kernel
theorem hundred_len : hundred.length = 100 := rfl
theorem hundred_mem {x : Int} (h : x ∈ hundred) : 0 ≤ x ∧ x < 100 := by
  unfold hundred at h
  obtain ⟨i, hi, rfl⟩ := List.mem_map.mp h
  have := List.mem_range.mp hi
  omega
theorem cons_nil_fin {α : Type} {xs : List α} {r : Int} (n : Nat) (h : xs.length = n) (r0 : 0 ≤ r) (r1 : r < n) : ∃ v ∈ xs, atI xs r = some v := by
  have hr : r.toNat < xs.length := by omega
  exact ⟨xs[r.toNat], List.getElem_mem hr, atI_int r0 (List.getElem?_eq_getElem hr)⟩
theorem iteB {c : Bool} {A B : Prop} (h1 : c = true → A) (h2 : c = false → B) : if c = true then A else B := by
  cases c
  · exact iteF (h2 rfl)
  · exact iteT (h1 rfl)
theorem sorted_one : ∀ {xs ys : List Int}, xs.Pairwise (· < ·) → ys.Pairwise (· < ·) → (∀ k, k ∈ xs ↔ k ∈ ys) → xs = ys
  | [], [], _, _, _ => rfl
  | [], y :: ys, _, _, h => (List.not_mem_nil ((h y).mpr List.mem_cons_self)).elim
  | x :: xs, [], _, _, h => (List.not_mem_nil ((h x).mp List.mem_cons_self)).elim
  | x :: xs, y :: ys, hx, hy, h => by
    have px := List.pairwise_cons.mp hx
    have py := List.pairwise_cons.mp hy
    have e : x = y := by
      rcases List.mem_cons.mp ((h x).mp List.mem_cons_self) with z | z
      · exact z
      · rcases List.mem_cons.mp ((h y).mpr List.mem_cons_self) with z2 | z2
        · exact z2.symm
        · have h1 := py.1 x z
          have h2 := px.1 y z2
          omega
    subst e
    have r : xs = ys := sorted_one px.2 py.2 fun k => by
      constructor
      · intro hk
        rcases List.mem_cons.mp ((h k).mp (List.mem_cons_of_mem _ hk)) with z | z
        · have h1 := px.1 k hk
          omega
        · exact z
      · intro hk
        rcases List.mem_cons.mp ((h k).mpr (List.mem_cons_of_mem _ hk)) with z | z
        · have h1 := py.1 k hk
          omega
        · exact z
    rw [r]
theorem nodup_few {S : List Int} : ∀ {ms : List Int}, ms.Nodup → (∀ k ∈ ms, k ∈ S) → ms.length ≤ S.length := by
  induction S with
  | nil =>
    intro ms _ h
    cases ms with
    | nil => exact Nat.le_refl _
    | cons x l => exact (List.not_mem_nil (h x List.mem_cons_self)).elim
  | cons y S ih =>
    intro ms nd h
    have z := ih (ms := ms.erase y) (nd.erase y) fun k hk => by
      have h1 := (nd.mem_erase_iff.mp hk)
      rcases List.mem_cons.mp (h k h1.2) with e | e
      · exact absurd e h1.1
      · exact e
    rw [List.length_cons]
    by_cases hy : y ∈ ms
    · rw [List.length_erase_of_mem hy] at z
      omega
    · rw [List.erase_of_not_mem hy] at z
      omega
theorem fnG_fun {P : Program} {w : World} {K : PySem.W.Frag} {mg : Str → Option Value} {base : Heap} {x ql : Str} {st : Stmt} {f : Addr} {fd : FuncData} {N ps : List Str} {k : Nat} {sp : Sp} (F : Fun K x ql st f fd) (S : FnScope N ps (defScope st)) (len : ∀ vs H Q E, sp vs H Q E → vs.length = ps.length)
    (hb : ∀ (cdv : Value) (A : Around) (outer : List Env) (s : Shared) (H : Hp) (vs : List V) (Q : VK) (E : XK), (A.deeper (envOfC ql (defScope st) s.heap.objs.size f cdv)).guards = some [] → Room k (A.deeper (envOfC ql (defScope st) s.heap.objs.size f cdv)) → sp vs H Q E →
      ∃ t, PSs (cxOf CX0 P w K mg base N ql (defScope st) f cdv A outer s H E).nox (defBody st) t ∧ t { nx := fun _ H' => Q .non H', rt := Q } (start N vs) H) : FnG P w K mg base CX0 (k + 1) f fd ps sp := by
  obtain ⟨oc, od, kV, doc, pm, an, cdv, ct, osl, rfl, lk, hcd⟩ := F.ex
  refine fnG_of lk hcd S len fun A outer s H vs Q E hg hr hsp => ?_
  obtain ⟨t, h, q⟩ := hb cdv A outer s H vs Q E hg hr hsp
  exact ⟨t, h.nox, q⟩
section
variable {X : Cx} {e : Expr}
/-- a test that is never asked, an expression that is never reckoned -/
def tNo : TT := fun _ _ _ => False
theorem pt_never : PT X e tNo := ⟨fun _ _ _ _ _ _ h => h.elim⟩
def tNoE : TE := fun _ _ _ => False
theorem pe_never : PE X e tNoE := ⟨fun _ _ _ _ _ _ h => h.elim⟩
end
end Su
/-! ### SE: sets of ints: set(l), sorted(s) of any size -/
namespace Su
open PySem PySem.Spec PyProof.Rows L2
/-- the set that set(..) begins with -/
abbrev set0 (w : World) : Obj := { cls := .type "set", dict := none, data := .set #[] 0 (.fresh 0 0 (!w.params.followText "set-order")) }
section
variable {P : Program} {w : World} {A : Around} {E : Value → Shared → Prop} {s : Shared}
theorem set_of_list {l : Addr} {its : Array Value} (ns : List Int) {Q : Value → Shared → Prop} (hh : A.handled = none) (hl : s.heap.IsList l its) (ia : IntsAre its.toList ns) (few : ns.length + 1 < scanBound)
    (q : ∀ (h' : Heap) (tk c : Nat), SetR w h' s.heap.objs.size (fun j => decide (j ∈ ns)) c → c ≤ ns.length → (∀ b o, s.heap.get? b = some o → h'.get? b = some o) → Q (.ref s.heap.objs.size) { s with heap := h', toks := tk }) :
    wpAny (model P w) A (call (.type "set") [.ref l]) Q E s := by
  have sz : its.size = ns.length := by
    have z := IntsAre.length ia
    rwa [Array.length_toList] at z
  obtain ⟨c0, tl0, m0⟩ := F.called_set.mro
  have m1 := F.called_set.made
  have m2 := F.called_set.sub
  have m3 := F.called_set.notType
  have m4 := F.called_set.canCreate
  have m5 := F.typeCall_set_1 (.ref l)
  refine wpAny_call (codeAny_of_tree ?_)
  show wpAny _ _ (callAny (.type "set") _) _ _ _
  refine wpAny_pure ⟨Code.quiet_builtin _ (by decide +kernel), codeAny_builtin F.entry_type_call ?_⟩
  rw [Around.under_plain (weight_type_call_type "set" [.ref l] []) rfl]
  repeat (any_goals (first | assumption | wp_step))
  refine codeAny_mono (code_set_led1 (.ref l) (E := E) (Q₁ := fun x t => x = .ref s.heap.objs.size ∧ t = { s with heap := s.heap.push (set0 w) }) ⟨rfl, rfl⟩) fun r t hr => ?_
  match r, hr with
  | .error e, hr => exact hr
  | .ok .next, hr => exact hr.elim
  | .ok .brk, hr => exact hr.elim
  | .ok .cont, hr => exact hr.elim
  | .ok (.ret x), hr =>
    obtain ⟨rfl, rfl⟩ := hr
    have at0 : (s.heap.push (set0 w)).get? s.heap.objs.size = some (set0 w) := Heap.get?_push_size _ rfl
    have ty0 : Shared.TypeIs { s with heap := s.heap.push (set0 w) } (.ref s.heap.objs.size) "set" := ⟨_, at0, rfl⟩
    have n1 := F.called_set.init.lookup
    have n2 := F.called_set.init.bind (.ref s.heap.objs.size)
    repeat (any_goals (first | assumption | wp_step))
    refine codeAny_mono (codeAny_call_builtin (R := wants (fun r t => r = .none ∧ ∃ h' tk c, t = { s with heap := h', toks := tk } ∧ SetR w h' s.heap.objs.size (fun j => decide (j ∈ ns)) c ∧ c ≤ ns.length ∧ ∀ b o, s.heap.get? b = some o → h'.get? b = some o) E)
      F.called_set.init.plain F.entry_set_init (check_set_init_1 ty0 ?_)) fun r2 t2 hr2 => ?_
    · obtain ⟨⟨oc, od, odt, os⟩, ho, hc, nl, hd⟩ := hl
      simp only at hc hd
      subst hc hd
      have lt : l < s.heap.objs.size := Heap.lt_size ho
      have ho1 : (s.heap.push (set0 w)).get? l = some { cls := .type "list", dict := od, data := .seq its nl, slots := os } := Heap.get?_push_of_some _ ho
      have isl : (s.heap.push (set0 w)).IsList l its := ⟨_, ho1, rfl, nl, rfl⟩
      have p1 := F.sub_list_set
      have p2 := F.sub_list_frozenset
      have p3 : (Value.type "list" == Value.type "dict") = false := by decide
      unfold Builtin.«set.__init__» noKeywords Builtin.Frozenset.updateFrom
      generalize hPI : pyIter = PI
      wp_walk
      subst hPI
      refine wpAny_pyIter_list isl (wpAny_bind (wpAny_runValue ?_))
      have size1 : (s.heap.push (set0 w)).objs.size = s.heap.objs.size + 1 := Heap.size_push ..
      have ap : l ≠ (s.heap.push (set0 w)).objs.size := by
        rw [size1]
        exact Nat.ne_of_lt (Nat.lt_succ_of_lt lt)
      have ap2 : s.heap.objs.size ∉ [(s.heap.push (set0 w)).objs.size, l] := by
        rw [size1]
        simp only [List.mem_cons, List.not_mem_nil, or_false, not_or]
        exact ⟨Nat.ne_of_lt (Nat.lt_succ_self _), Nat.ne_of_gt lt⟩
      refine set_update_ints ((Walks.list (by simp [hh]) _ l ap its).toS) s.heap.objs.size ap2 ns sz few (fun i v hv => ?_) (its.size - 0) 0 _ (by omega) (Nat.zero_le _) ⟨⟨_, Heap.get?_push_size _ rfl, rfl, rfl⟩, isl.push _⟩ ⟨0, Nat.le_refl 0, setR_new_at (Heap.get?_push_of_some _ at0)⟩ fun t3 c3 mv hc3 hS3 => ?_
      · have hi : i < ns.length := by
          rw [← sz]
          exact (Array.getElem?_eq_some_iff.mp hv).1
        obtain ⟨tk, e⟩ := PyProof.Rows.IntsAre.int_at ia i v (by rw [Array.getElem?_toList]; exact hv)
        refine ⟨ns[i], tk, List.getElem?_eq_getElem hi, ?_⟩
        rw [e, List.getD_eq_getElem?_getD, List.getElem?_eq_getElem hi] <;> rfl
      · obtain ⟨h3, g3, d3, tk3, os3⟩ := t3
        obtain rfl : g3 = s.gens := mv.gens
        obtain rfl : d3 = s.drawn := mv.drawn
        obtain rfl : os3 = s.os := mv.os
        show wpAny _ _ _ _ _ _
        refine wpAny_pure ?_
        show wpAny _ _ (ret Value.none) _ _ _
        refine wpAny_pure ⟨rfl, h3, tk3, c3, rfl, hS3, by omega, fun b o e => ?_⟩
        have bl : b < s.heap.objs.size := Heap.lt_size e
        refine mv.heap b o ?_ (Heap.get?_push_of_some _ (Heap.get?_push_of_some _ e))
        rw [size1]
        simp only [List.mem_cons, List.not_mem_nil, or_false, not_or]
        exact ⟨Nat.ne_of_lt bl, Nat.ne_of_lt (Nat.lt_succ_of_lt bl)⟩
    · match r2, hr2 with
      | .error e, hr2 => exact hr2
      | .ok .next, hr2 => exact hr2.elim
      | .ok .brk, hr2 => exact hr2.elim
      | .ok .cont, hr2 => exact hr2.elim
      | .ok (.ret y), hr2 =>
        obtain ⟨rfl, h', tk, c, rfl, hS, hc, hk⟩ := hr2
        repeat (any_goals (first | assumption | wp_step))
        exact q _ _ _ hS hc hk
end
/-- a set of ints whose members are those of l -/
def SetIs (w : World) (H : Hp) (D : Addr) (l : List Int) : Prop := ∃ (S : Int → Bool) (n : Nat) (d : List Int), H D = some (SetO w D S n) ∧ d.Nodup ∧ d.length = n ∧ (∀ k, S k = true ↔ k ∈ d) ∧ ∀ k, k ∈ d ↔ k ∈ l
theorem SetIs.add {w : World} {H : Hp} {D : Addr} {l : List Int} (h : SetIs w H D l) {A : List Int} (hA : A.length < 1000) (hl : ∀ k ∈ l, k ∈ A) (c : Int) :
    ∃ (S : Int → Bool) (n : Nat), H D = some (SetO w D S n) ∧ n + 1 < scanBound ∧ ∀ (H' : Hp), H' D = some (SetO w D (fun j => S j || decide (j = c)) (if S c = true then n else n + 1)) → SetIs w H' D (l ++ [c]) := by
  obtain ⟨S, n, d, e, nd, hn, hS, hd⟩ := h
  have z := nodup_few (S := A) nd fun k hk => hl k ((hd k).mp hk)
  refine ⟨S, n, e, by unfold scanBound; omega, fun H' e' => ?_⟩
  by_cases hc : S c = true
  · rw [if_pos hc] at e'
    refine ⟨_, n, d, e', nd, hn, fun k => ?_, fun k => ?_⟩
    · rw [Bool.or_eq_true, decide_eq_true_eq, hS k]
      constructor
      · rintro (h | rfl)
        · exact h
        · exact (hS k).mp hc
      · exact .inl
    · rw [List.mem_append, List.mem_singleton, hd k]
      constructor
      · exact .inl
      · rintro (h | rfl)
        · exact h
        · exact (hd k).mp ((hS k).mp hc)
  · rw [if_neg hc] at e'
    refine ⟨_, n + 1, c :: d, e', List.nodup_cons.mpr ⟨fun h => hc ((hS c).mpr h), nd⟩, by rw [List.length_cons, hn], fun k => ?_, fun k => ?_⟩
    · rw [Bool.or_eq_true, decide_eq_true_eq, hS k, List.mem_cons]
      exact Or.comm
    · rw [List.mem_append, List.mem_singleton, List.mem_cons, hd k]
      exact Or.comm
theorem SetIs.of {w : World} {h : Heap} {H : Hp} {D : Addr} {S : Int → Bool} {c : Nat} {l : List Int} (R : SetR w h D S c) (e : H D = some (SetO w D S c)) (hl : ∀ k, S k = true ↔ k ∈ l) : SetIs w H D l := by
  obtain ⟨o, es, ep, t, ho, hex, hd, g, nd, hm, hb, hf, hn, _⟩ := R
  exact ⟨S, c, es.toList.map keyOf, e, nd, by rw [List.length_map, Array.length_toList]; exact hn, hm, fun k => (hm k).symm.trans (hl k)⟩
section
variable {X : Cx}
/-- set(l), l a list of ints -/
def rSetL (w : World) (K : PySem.W.Frag) : List V → Hp → VK → Prop := fun xs H Q => ∃ (l : Addr) (ns : List Int), xs = [.ref l] ∧ SqL K H l (ns.map V.int) ∧ ns.length ≤ 4000 ∧ ∀ (p : Addr) (H' : Hp), Same H H' → H p = none → SetIs w H' p ns → Q (.ref p) H'
theorem cr_setL (hc : X.calm = true) : CallR X (.type "set") (rSetL X.w X.K) := by
  intro pins s σ H xs us Q I r h
  obtain ⟨l, ns, rfl, hq, hl, q⟩ := h
  rw [Vals.ref1 r]
  obtain ⟨its, rv, pl, hz⟩ := I.list hq
  refine set_of_list ns (I.ok.hd hc) pl.isList (by simpa using ints_of rv) (by unfold scanBound; omega) fun h' tk c hR hc' hk => ?_
  have new : H s.heap.objs.size = none := I.hok.fresh (Nat.le_refl _)
  refine ⟨.ref s.heap.objs.size, _, I.laid (t' := tk) hk (Nat.le_refl _) (setO_new hR), rfl, q _ _ (same_upd new) new ?_⟩
  exact SetIs.of hR upd_same fun k => decide_eq_true_iff
/-- sorted(s), s a set of ints -/
theorem sorted_setA {P : Program} {w : World} {A : Around} {E : Value → Shared → Prop} {s : Shared} {a : Addr} {S : Int → Bool} {n : Nat} {Q : Value → Shared → Prop} (R : SetR w s.heap a S n) (hh : A.handled = none)
    (q : ∀ (t : Shared) (p : Addr) (out : Array Value) (c : Nat) (ns : List Int), (∀ b o, s.heap.get? b = some o → t.heap.get? b = some o) → t.gens = s.gens → t.os = s.os → s.heap.objs.size ≤ p →
      t.heap.get? p = some (seqObj "list" out c) → IntsAre out.toList ns → ns.Pairwise (· < ·) → (∀ k, k ∈ ns ↔ S k = true) → ns.length < 4096 → Q (.ref p) t) :
    wpAny (model P w) A (call (.builtin "sorted") [.ref a]) Q E s := by
  obtain ⟨o, es, ep, t, ho, hex, hd, g, nd, hm, hb, hf, hn, hr, hl⟩ := R
  refine Calls.call_function_entry kind_sorted plain_sorted entry_sorted (args_sorted1 _) ?_
  unfold Builtin.«sorted»
  refine wpAny_bind (m := checkCount "sorted" 1 1 _) (wpAny_pure (wpAny_bind (collect_set (A := A.in1) hh ⟨o, ho, hex.1, hd⟩ hf hb hr hl fun s1 vs k1 hz g1 o1 pm => ?_)))
  have len : vs.length = es.size := by
    rw [pm.length_eq, List.length_map, Array.length_toList]
  have hI : IntsAre vs (vs.map Builtin.Re.reRawOf) := L2.ints_of vs fun v hv => by
    obtain ⟨x, hx, z⟩ := List.mem_map.mp (pm.mem_iff.mp hv)
    obtain ⟨k, tk, h1, _⟩ := g x hx
    exact ⟨k, tk, z ▸ h1⟩
  have pk : (vs.map Builtin.Re.reRawOf).Perm (es.toList.map keyOf) := by
    have z := pm.map Builtin.Re.reRawOf
    rwa [List.map_map] at z
  have small : vs.length ≤ sizeLine := by
    have : es.size < 4096 := hb
    rw [len, sizeLine_eq]
    omega
  refine wpAny_bind (wpAny_newList ?_ small)
  have at1 : (s1.heap.push (seqObj "list" vs.toArray 0)).get? s1.heap.objs.size = some (seqObj "list" vs.toArray 0) := Heap.get?_push_size _ rfl
  refine wpAny_bind (wpAny_holding (wpAny_call_entry slot_list_sort ⟨_, at1, rfl⟩ entry_list_sort (SrtO.list_sort_ord SrtO.swo_int at1 small (fun h2 => SrtO.ints_sortable hI h2) fun out h1 h2 => ⟨_, rfl, ?_⟩) (args_list_sort _)))
  obtain ⟨k3, k4, k5⟩ := SrtO.ints_out hI h1 h2
  obtain ⟨c, hc⟩ := sortedHeap_at (vs := vs) (out := out.toArray) at1
  have pn := k4.trans pk
  refine wpAny_pure ⟨_, rfl, q _ s1.heap.objs.size out.toArray c (out.map SrtO.iv) (fun b u z => ?_) g1 o1 hz hc k3 (lt_of_le_nodup _ k5 (pn.nodup_iff.mpr nd)) (fun k => by rw [pn.mem_iff, ← hm k]) ?_⟩
  · have y := k1 b u z
    have lt := Heap.lt_size y
    show (sortedHeap (s1.heap.push (seqObj "list" vs.toArray 0)) s1.heap.objs.size vs out.toArray).get? b = some u
    rw [sortedHeap_old (Nat.ne_of_lt lt) (by rw [size_push']; exact Nat.lt_succ_of_lt lt)]
    exact Heap.get?_push_of_some _ y
  · rw [pn.length_eq, List.length_map, Array.length_toList]
    exact hb
def rSortedS (w : World) : List V → Hp → VK → Prop := fun vs H Q => ∃ (a : Addr) (l : List Int), vs = [.ref a] ∧ SetIs w H a l ∧ ∀ (ns : List Int) (p : Addr), ns.Pairwise (· < ·) → (∀ k : Int, k ∈ ns ↔ k ∈ l) → H p = none → Q (.ref p) (upd H p (.lst (ns.map V.int)))
theorem cr_sortedS (hc : X.calm = true) : CallR X (.builtin "sorted") (rSortedS X.w) := by
  intro pins s σ H vs us Q I r h
  obtain ⟨a, l, rfl, ⟨S, n, d, ha, nd, hn, hS, hd⟩, q⟩ := h
  rw [Vals.ref1 r]
  refine sorted_setA (setO_get I ha) (I.ok.hd hc) fun t p out c ns k g o hp hg hi hs hm hl => ?_
  have len : (ns.map V.int).length ≤ sizeLine := by
    rw [List.length_map, sizeLine_eq]
    omega
  have new : H p = none := I.hok.fresh hp
  have J : Inv X pins σ (upd H p (.lst (ns.map V.int))) { s with heap := t.heap, gens := t.gens, drawn := t.drawn, toks := t.toks } :=
    I.call (ch := []) (Un.laid k hp new) (I.hok.laid k hp ⟨len, out.toList, c, vals_of_ints hi, hg⟩) (by rw [g]; exact I.bare) (fun _ z => nomatch z)
  have et : t = { s with heap := t.heap, gens := t.gens, drawn := t.drawn, toks := t.toks } := by
    cases t
    cases s
    cases o
    rfl
  rw [et]
  exact ⟨.ref p, _, J, rfl, q ns p hs (fun k => (hm k).trans ((hS k).trans (hd k))) new⟩
end
end Su
/-! ### WA: webs in the heap -/
namespace Su
open PySem PySem.Spec PyProof.Rows L2
/-- a tuple, by whatever it was made -/
def T2 (H : Hp) (a : Addr) (xs : List V) : Prop := PTup H a xs ∨ H a = some (.tup xs)
theorem T2.sq {K : PySem.W.Frag} {H : Hp} {a : Addr} {xs : List V} (h : T2 H a xs) : SqT K H a xs := by
  rcases h with h | h
  · exact h.sq
  · exact .inl (.inl h)
theorem T2.same {H H' : Hp} {a : Addr} {xs : List V} (h : T2 H a xs) (s : Same H H') : T2 H' a xs := by
  rcases h with h | h
  · exact .inl (h.same s)
  · exact .inr (s _ _ h)
theorem T2.ty {K : PySem.W.Frag} {H : Hp} {a : Addr} {xs : List V} (h : T2 H a xs) : TyX K H (.ref a) (.type "tuple") := by
  rcases h with ⟨o, h, _⟩ | h
  · exact .fTuple h
  · exact .base (.tup h)
/-- all tuples stay -/
def K2 (H H' : Hp) : Prop := ∀ a xs, T2 H a xs → T2 H' a xs
theorem K2.same {H H' : Hp} (s : Same H H') : K2 H H' := fun _ _ h => h.same s
theorem K2.trans {H H1 H2 : Hp} (a : K2 H H1) (b : K2 H1 H2) : K2 H H2 := fun x xs h => b x xs (a x xs h)
/-- what is no tuple may be changed -/
theorem K2.upd {H : Hp} {a : Addr} {o u : HO} (e : H a = some o) (n : ∀ xs, o ≠ .tup xs) (n2 : ∀ b xs, o ≠ .frz b (.tup xs)) : K2 H (upd H a u) := by
  rintro b xs (⟨ob, h, d⟩ | h)
  · refine .inl ⟨ob, ?_, d⟩
    rw [upd_ne]
    · exact h
    · rintro rfl
      rw [e] at h
      cases h
      exact n2 _ _ rfl
  · refine .inr ?_
    rw [upd_ne]
    · exact h
    · rintro rfl
      rw [e] at h
      cases h
      exact n _ rfl
theorem K2.lst {H : Hp} {a : Addr} {xs : List V} {u : HO} (e : H a = some (.lst xs)) : K2 H (L2.upd H a u) := K2.upd e (fun _ z => nomatch z) (fun _ _ z => nomatch z)
abbrev Rw := List Int × List Int
def RowAt (H : Hp) (v : V) (r : Rw) : Prop := ∃ a b c, v = .ref a ∧ T2 H a [.ref b, .ref c] ∧ T2 H b (r.1.map V.int) ∧ T2 H c (r.2.map V.int)
theorem RowAt.keep {H H' : Hp} {v : V} {r : Rw} (k : K2 H H') (h : RowAt H v r) : RowAt H' v r := by
  obtain ⟨a, b, c, e, h1, h2, h3⟩ := h
  exact ⟨a, b, c, e, k _ _ h1, k _ _ h2, k _ _ h3⟩
def RowsAt (H : Hp) : List V → List Rw → Prop
  | [], [] => True
  | v :: vs, r :: rs => RowAt H v r ∧ RowsAt H vs rs
  | _, _ => False
theorem RowsAt.keep {H H' : Hp} (k : K2 H H') : ∀ {vs : List V} {rs : List Rw}, RowsAt H vs rs → RowsAt H' vs rs
  | [], [], _ => trivial
  | _ :: _, _ :: _, h => ⟨h.1.keep k, RowsAt.keep k h.2⟩
  | [], _ :: _, h => h.elim
  | _ :: _, [], h => h.elim
theorem RowsAt.len {H : Hp} : ∀ {vs : List V} {rs : List Rw}, RowsAt H vs rs → vs.length = rs.length
  | [], [], _ => rfl
  | _ :: _, _ :: _, h => by rw [List.length_cons, List.length_cons, RowsAt.len h.2]
  | [], _ :: _, h => h.elim
  | _ :: _, [], h => h.elim
theorem RowsAt.get {H : Hp} : ∀ {vs : List V} {rs : List Rw}, RowsAt H vs rs → ∀ {i : Nat} {v : V}, vs[i]? = some v → ∃ r, rs[i]? = some r ∧ RowAt H v r
  | [], [], _, i, v, e => by simp at e
  | _ :: _, _ :: _, h, 0, v, e => by
    obtain rfl := (by simpa using e : _ = v)
    exact ⟨_, rfl, h.1⟩
  | _ :: _, _ :: _, h, i + 1, v, e => RowsAt.get h.2 (i := i) (by simpa using e)
  | [], _ :: _, h, _, _, _ => h.elim
  | _ :: _, [], h, _, _, _ => h.elim
theorem RowsAt.app {H : Hp} : ∀ {vs ws : List V} {rs qs : List Rw}, RowsAt H vs rs → RowsAt H ws qs → RowsAt H (vs ++ ws) (rs ++ qs)
  | [], _, [], _, _, h => h
  | _ :: _, _, _ :: _, _, g, h => ⟨g.1, RowsAt.app g.2 h⟩
  | [], _, _ :: _, _, g, _ => g.elim
  | _ :: _, _, [], _, g, _ => g.elim
theorem RowsAt.snoc {H : Hp} {vs : List V} {rs : List Rw} {v : V} {r : Rw} (g : RowsAt H vs rs) (h : RowAt H v r) : RowsAt H (vs ++ [v]) (rs ++ [r]) := g.app ⟨h, trivial⟩
theorem RowsAt.of {H : Hp} : ∀ {vs : List V} {rs : List Rw}, vs.length = rs.length → (∀ (i : Nat) (v : V) (r : Rw), vs[i]? = some v → rs[i]? = some r → RowAt H v r) → RowsAt H vs rs
  | [], [], _, _ => trivial
  | v :: vs, r :: rs, e, h => ⟨h 0 v r rfl rfl, RowsAt.of (by simpa using e) fun i x y h1 h2 => h (i + 1) x y h1 h2⟩
  | [], _ :: _, e, _ => by simp at e
  | _ :: _, [], e, _ => by simp at e
/-- a web in the heap -/
def WebAt (H : Hp) (p : Addr) (rs : List Rw) : Prop := ∃ ws, H p = some (.lst ws) ∧ RowsAt H ws rs
theorem WebAt.same {H H' : Hp} {p : Addr} {rs : List Rw} (h : WebAt H p rs) (s : Same H H') : WebAt H' p rs := by
  obtain ⟨ws, e, r⟩ := h
  exact ⟨ws, s _ _ e, r.keep (K2.same s)⟩
/-- rising numbers within a bound -/
structure Ris (lo hi : Int) (ns : List Int) : Prop where
  pw : ns.Pairwise (· < ·)
  lo : ∀ k ∈ ns, lo ≤ k
  hi : ∀ k ∈ ns, k ≤ hi
structure RowOk (n : Nat) (r : Rw) : Prop where
  rooms : Ris 0 99 r.1
  few : r.1.length ≤ 6
  tos : Ris 0 ((n : Int) - 1) r.2
def allRooms (rs : List Rw) : List Int := (rs.map Prod.fst).flatten
structure WebOk (rs : List Rw) : Prop where
  pos : 1 ≤ rs.length
  few : rs.length ≤ 80
  row : ∀ r ∈ rs, RowOk rs.length r
  all : ∃ S : List Int, S.length ≤ 12 ∧ ∀ k ∈ allRooms rs, k ∈ S
theorem ris_len {ns : List Int} {n : Nat} : Ris 0 ((n : Int) - 1) ns → ns.length ≤ n := by
  induction n generalizing ns with
  | zero =>
    intro h
    cases ns with
    | nil => exact Nat.le_refl _
    | cons a l =>
      have h1 := h.lo a List.mem_cons_self
      have h2 := h.hi a List.mem_cons_self
      omega
  | succ n ih =>
    intro h
    rcases List.eq_nil_or_concat ns with e | ⟨l, a, e⟩
    · rw [e]
      exact Nat.zero_le _
    · rw [List.concat_eq_append] at e
      subst e
      have pw := List.pairwise_append.mp h.pw
      have ha := h.hi a (List.mem_append_right _ List.mem_cons_self)
      have z := ih (ns := l) ⟨pw.1, fun k hk => h.lo k (List.mem_append_left _ hk), fun k hk => by
        have := pw.2.2 k hk a List.mem_cons_self
        omega⟩
      rw [List.length_append]
      show l.length + 1 ≤ n + 1
      omega
section
variable {X : Cx}
/-- a slice of a tuple, whatever it is -/
def rSl2 : V → Option Int → Option Int → Hp → VK → Prop := fun x lo hi H Q => ∃ a xs, x = .ref a ∧ T2 H a xs ∧ ∀ v H', Same H H' → T2 H' v (cutV xs lo hi) → Q (.ref v) H'
theorem sl_tup2 : SlR X rSl2 := by
  intro pins s σ H x v vl vu lo hi sl Q I rx hs pl pu h
  obtain ⟨a, xs, rfl, hx, q⟩ := h
  refine sl_tupA pins s σ H _ v vl vu lo hi sl Q I rx hs pl pu ⟨a, xs, rfl, hx.sq, fun hw => q a H (Same.refl H) ?_, fun _ p np => q p _ (same_upd np) (.inr upd_same)⟩
  have z : cutV xs lo hi = xs := by
    unfold cutV
    rw [hw.1, hw.2, Nat.sub_zero, List.drop_zero, List.take_length]
  rw [z]
  exact hx
end
theorem cut_tail (xs : List V) : cutV xs (some 1) none = xs.drop 1 := by
  cases xs with
  | nil => rfl
  | cons x l =>
    have e1 : HT.sIx (x :: l).length 0 (some 1) = 1 := by
      have z := HT.sIx_nat (x :: l).length 0 1
      have z2 : HT.sIx (x :: l).length 0 (some (1 : Int)) = min 1 (x :: l).length := z
      rw [z2, List.length_cons]
      omega
    unfold cutV
    rw [e1, HT.sIx_none, List.take_of_length_le]
    rw [List.length_drop]
    exact Nat.le_refl _
theorem rep_all (n : Nat) : (List.replicate n true).all id = true := by
  rw [List.all_eq_true]
  intro x hx
  rw [List.eq_of_mem_replicate hx]
  rfl
theorem rep_snoc (n : Nat) : (List.replicate n (V.bl true)) ++ [V.bl true] = List.replicate (n + 1) (V.bl true) := by
  rw [← List.replicate_succ']
theorem rep_map (n : Nat) : (List.replicate n true).map V.bl = List.replicate n (V.bl true) := List.map_replicate
/-! a comprehension over zip of two tuples -/
open RZ in
theorem lc_zipT {K : PySem.W.Frag} {a b : Addr} {xs ys : List V} {g : TG} {tt : TT} {te : TE} {vs : List Nat} {σ : L2.St} {H1 : Hp} {D : Addr} {Qd : Hp → Prop} (hl : ys.length ≤ xs.length) (Pv : Nat → Hp → Prop) (h0 : Pv 0 (upd H1 D (.lst [])))
    (hq : ∀ i H, i ≤ ys.length → Pv i H → SqT K H a xs ∧ SqT K H b ys)
    (hs : ∀ (i : Nat) (x y : V) (T : Addr) (H : Hp), xs[i]? = some x → ys[i]? = some y → Pv i H → H T = none → g (.ref T) (wipe σ vs) (upd H T (.tup [x, y])) fun σ2 H2 => wipe σ2 vs = wipe σ vs ∧ tt σ2 H2 fun b H3 =>
      if b = true then te σ2 H3 fun y H4 => ∃ acc, H4 D = some (.lst acc) ∧ acc.length < sizeLine ∧ Pv (i + 1) (upd H4 D (.lst (acc ++ [y]))) else Pv (i + 1) H3) (hd : ∀ H, Pv ys.length H → Qd H) :
    ∃ W : Nat → Nat → Hp → Prop, (∃ m, W 0 m (upd H1 D (.lst []))) ∧ ∀ i m H, W i m H →
      ((ItzT K a b).stop i H ∧ Qd H) ∨ ((ItzT K a b).go i H ∧ ∃ Nx : Hp → Prop, (∀ H', Nx H' → ∃ m', m' < m ∧ W (i + 1) m' H') ∧ ∀ x H', (ItzT K a b).yld i H x H' → g x (wipe σ vs) H' fun σ2 H2 => wipe σ2 vs = wipe σ vs ∧ tt σ2 H2 fun b H3 =>
        if b = true then te σ2 H3 fun y H4 => ∃ acc, H4 D = some (.lst acc) ∧ acc.length < sizeLine ∧ Nx (upd H4 D (.lst (acc ++ [y]))) else Nx H3) := by
  refine ⟨fun i m H => m = ys.length - i ∧ i ≤ ys.length ∧ Pv i H, ⟨ys.length, (Nat.sub_zero _).symm, Nat.zero_le _, h0⟩, ?_⟩
  rintro i m H ⟨rfl, hi, p⟩
  obtain ⟨qx, qy⟩ := hq i H hi p
  by_cases hlt : i < ys.length
  · have hy : ys[i]? = some ys[i] := List.getElem?_eq_getElem hlt
    have hx : xs[i]? = some xs[i] := List.getElem?_eq_getElem (by omega)
    refine .inr ⟨⟨xs, ys, _, _, qx, qy, hx, hy⟩, Pv (i + 1), fun H' p' => ⟨ys.length - (i + 1), by omega, rfl, hlt, p'⟩, fun v H' y => ?_⟩
    obtain ⟨T, x', y', rfl, nT, rfl, f1, f2⟩ := y
    exact hs i x' y' T H (f1 xs qx) (f2 ys qy) p nT
  · have e : i = ys.length := by omega
    subst e
    exact .inl ⟨⟨xs, ys, qx, qy, .inr (Nat.le_refl _)⟩, hd H p⟩
section
variable {K : PySem.W.Frag} {a : Addr} {xs : List V}
theorem lc_enumS {g : TG} {tt : TT} {te : TE} {vs : List Nat} {σ : L2.St} {H1 : Hp} {D : Addr} {Qd : Hp → Prop} (Pv : Nat → Hp → Prop) (h0 : Pv 0 (upd H1 D (.lst []))) (hl : ∀ i H, i ≤ xs.length → Pv i H → SqL K H a xs)
    (hs : ∀ i x H T, xs[i]? = some x → Pv i H → H T = none → g (.ref T) (wipe σ vs) (upd H T (.tup [.int (i : Nat), x])) fun σ2 H2 => wipe σ2 vs = wipe σ vs ∧ tt σ2 H2 fun b H3 =>
      if b = true then te σ2 H3 fun y H4 => ∃ acc, H4 D = some (.lst acc) ∧ acc.length < sizeLine ∧ Pv (i + 1) (upd H4 D (.lst (acc ++ [y]))) else Pv (i + 1) H3) (hd : ∀ H, Pv xs.length H → Qd H) :
    ∃ W : Nat → Nat → Hp → Prop, (∃ m, W 0 m (upd H1 D (.lst []))) ∧ ∀ i m H, W i m H →
      ((Ite K a).stop i H ∧ Qd H) ∨ ((Ite K a).go i H ∧ ∃ Nx : Hp → Prop, (∀ H', Nx H' → ∃ m', m' < m ∧ W (i + 1) m' H') ∧ ∀ x H', (Ite K a).yld i H x H' → g x (wipe σ vs) H' fun σ2 H2 => wipe σ2 vs = wipe σ vs ∧ tt σ2 H2 fun b H3 =>
        if b = true then te σ2 H3 fun y H4 => ∃ acc, H4 D = some (.lst acc) ∧ acc.length < sizeLine ∧ Nx (upd H4 D (.lst (acc ++ [y]))) else Nx H3) := by
  refine ⟨fun i m H => m = xs.length - i ∧ i ≤ xs.length ∧ Pv i H, ⟨xs.length, (Nat.sub_zero _).symm, Nat.zero_le _, h0⟩, ?_⟩
  rintro i m H ⟨rfl, hi, p⟩
  have q := hl i H hi p
  by_cases hlt : i < xs.length
  · refine .inr ⟨⟨xs, xs[i], q, List.getElem?_eq_getElem hlt⟩, Pv (i + 1), fun H' p' => ⟨xs.length - (i + 1), by omega, rfl, hlt, p'⟩, fun v H' y => ?_⟩
    obtain ⟨T, x, rfl, nT, rfl, y⟩ := y
    exact hs i x H T (y xs q) p nT
  · have e : i = xs.length := by omega
    subst e
    exact .inl ⟨⟨xs, q, Nat.le_refl _⟩, hd H p⟩
theorem for_enumS {g : TG} {tb : TS} {D : Ends} {σ : L2.St} {H : Hp} (Pv : Nat → L2.St → Hp → Prop) (h0 : Pv 0 σ H) (hl : ∀ i σ H, i ≤ xs.length → Pv i σ H → SqL K H a xs)
    (hs : ∀ i x σ H T, xs[i]? = some x → Pv i σ H → H T = none → g (.ref T) σ (upd H T (.tup [.int (i : Nat), x])) fun σ2 H2 => tb { D with nx := Pv (i + 1), ct := Pv (i + 1), bk := D.nx } σ2 H2) (hd : ∀ σ H, Pv xs.length σ H → D.nx σ H) :
    ∃ W : Nat → Nat → L2.St → Hp → Prop, (∃ m, W 0 m σ H) ∧ ∀ i m σ H, W i m σ H →
      ((Ite K a).stop i H ∧ D.nx σ H) ∨ ((Ite K a).go i H ∧ ∃ N : L2.St → Hp → Prop, (∀ σ' H', N σ' H' → ∃ m', m' < m ∧ W (i + 1) m' σ' H') ∧ ∀ v H', (Ite K a).yld i H v H' → g v σ H' fun σ2 H2 => tb { D with nx := N, ct := N, bk := D.nx } σ2 H2) := by
  refine ⟨fun i m σ H => m = xs.length - i ∧ i ≤ xs.length ∧ Pv i σ H, ⟨xs.length, (Nat.sub_zero _).symm, Nat.zero_le _, h0⟩, ?_⟩
  rintro i m σ H ⟨rfl, hi, p⟩
  have q := hl i σ H hi p
  by_cases hlt : i < xs.length
  · refine .inr ⟨⟨xs, xs[i], q, List.getElem?_eq_getElem hlt⟩, Pv (i + 1), fun σ' H' p' => ⟨xs.length - (i + 1), by omega, rfl, hlt, p'⟩, fun v H' y => ?_⟩
    obtain ⟨T, x, rfl, nT, rfl, y⟩ := y
    exact hs i x σ H T (y xs q) p nT
  · have e : i = xs.length := by omega
    subst e
    exact .inl ⟨⟨xs, q, Nat.le_refl _⟩, hd σ H p⟩
end
theorem K2.of {p : Addr} {H H' : Hp} (k : Kept p H H') (hp : PoolAt H p) : K2 H H' := by
  rintro a xs (h | h)
  · exact .inl (h.kept k hp)
  · refine .inr (k _ _ h fun z => ?_)
    subst z
    obtain ⟨o, e, g, m, rfl, _⟩ := hp
    rw [e] at h
    cases h
theorem cut_to (xs : List V) (k : Nat) : cutV xs none (some (k : Int)) = xs.take k := by
  have e1 : HT.sIx xs.length xs.length (some (k : Int)) = min k xs.length := HT.sIx_nat xs.length xs.length k
  unfold cutV
  rw [e1, HT.sIx_none, Nat.sub_zero, List.drop_zero]
  by_cases h : k ≤ xs.length
  · rw [Nat.min_eq_left h]
  · rw [Nat.min_eq_right (by omega), List.take_length, List.take_of_length_le (by omega)]
theorem cut_from (xs : List V) (k : Nat) : cutV xs (some (k : Int)) none = xs.drop k := by
  have e1 : HT.sIx xs.length 0 (some (k : Int)) = min k xs.length := HT.sIx_nat xs.length 0 k
  unfold cutV
  rw [e1, HT.sIx_none]
  by_cases h : k ≤ xs.length
  · rw [Nat.min_eq_left h, List.take_of_length_le (by rw [List.length_drop]; exact Nat.le_refl _)]
  · rw [Nat.min_eq_right (by omega), List.drop_of_length_le (Nat.le_refl _), List.take_nil, List.drop_of_length_le (by omega)]
theorem pw_lt {ms : List Int} (h : ms.Pairwise (· ≤ ·)) (nd : ms.Nodup) : ms.Pairwise (· < ·) := by
  have z := h.and nd
  exact z.imp fun ⟨a, b⟩ => by omega
/-! a web as data, for repr -/
theorem dp_intsS {K : PySem.W.Frag} {H : Hp} : ∀ ns : List Int, DpAll K H (ns.map V.int) (ns.map PyData.int)
  | [] => .nil
  | n :: ns => .cons (.int n) (dp_intsS ns)
def rowD (r : Rw) : PyData := .tuple [.tuple (r.1.map PyData.int), .tuple (r.2.map PyData.int)]
def webD (rs : List Rw) : PyData := .list (rs.map rowD)
theorem rows_dp {K : PySem.W.Frag} {H : Hp} : ∀ {ws : List V} {rs : List Rw}, RowsAt H ws rs → DpAll K H ws (rs.map rowD)
  | [], [], _ => .nil
  | w :: ws, r :: rs, h => by
    obtain ⟨⟨a, b, c, rfl, h1, h2, h3⟩, t⟩ := h
    exact .cons (.tup h1.sq (.cons (.tup h2.sq (dp_intsS _)) (.cons (.tup h3.sq (dp_intsS _)) .nil))) (rows_dp t)
  | [], _ :: _, h => h.elim
  | _ :: _, [], h => h.elim
theorem WebAt.dp {K : PySem.W.Frag} {H : Hp} {p : Addr} {rs : List Rw} (h : WebAt H p rs) : Dp K H (.ref p) (webD rs) := by
  obtain ⟨ws, e, r⟩ := h
  exact .lst (SqL.of e) (rows_dp r)
theorem FineL.up {ds : List PyData} {n m n' m' : Nat} (h : FineL ds n m) (a : n ≤ n') (b : m ≤ m') : FineL ds n' m' := ⟨h.sh, h.nd, Nat.le_trans h.dp a, h.lv, Nat.le_trans h.wt b, h.cl⟩
theorem row_fine {n : Nat} {r : Rw} (ok : RowOk n r) (hn : n ≤ 80) : Fine (rowD r) 2 3600 := by
  have h1 := FineL.ints r.1 fun z hz => by
    have a := ok.rooms.lo z hz
    have b := ok.rooms.hi z hz
    omega
  have h2 := FineL.ints r.2 fun z hz => by
    have a := ok.tos.lo z hz
    have b := ok.tos.hi z hz
    omega
  have l1 := ok.few
  have l2 := ris_len ok.tos
  have z := Fine.tuple (FineL.cons (Fine.tuple h1) (FineL.cons (Fine.tuple h2) FineL.nil))
  exact z.up (Nat.le_refl _) (by omega)
theorem rows_fine {n : Nat} (hn : n ≤ 80) : ∀ {rs : List Rw}, (∀ r ∈ rs, RowOk n r) → FineL (rs.map rowD) 2 (3601 * rs.length)
  | [], _ => FineL.nil
  | r :: rs, h => by
    have a := FineL.cons (row_fine (h r List.mem_cons_self) hn) (rows_fine hn fun y hy => h y (List.mem_cons_of_mem _ hy))
    exact a.up (Nat.le_refl _) (by rw [List.length_cons]; omega)
theorem WebOk.fine {rs : List Rw} (ok : WebOk rs) : Fine (webD rs) 3 300000 := by
  have h := ok.few
  exact (Fine.list (rows_fine h ok.row)).up (Nat.le_refl _) (by omega)
end Su
/-! ### SF: a tuple times 0 or 1, the sorted keys of a dict -/
namespace Su
open PySem PySem.Spec PyProof.Rows L2
theorem tuple_mul0 (l : Addr) (items : Array Value) (n : Nat) (dd : Option Addr) (sl : Array (Option Value)) (u : Tok) (ne : items.isEmpty = false) :
    Meets (Builtin.«tuple.__mul__» ⟨[.ref l, .int 0 u], []⟩) (fun _ R s => s.heap.get? l = some { cls := .type "tuple", dict := dd, data := .seq items n, slots := sl } ∧ R (.ok (.ret (Value.ref s.heap.objs.size))) { s with heap := s.heap.push (tupO []) }) :=
  .of_wp fun prog w A R s h => by
    obtain ⟨hp, g, d, tk, os⟩ := s
    obtain ⟨hl, h⟩ := h
    have f1 := AutoSeq1.idx_int
    wp_walk using wpAny_loadPart' hl
    repeat (first
      | (refine wpAny_ite_false (by rw [ne]; rfl) ?_; wp_walk using wpAny_loadPart' hl)
      | (refine wpAny_ite_true rfl ?_; wp_walk using wpAny_loadPart' hl))
    exact ⟨_, rfl, h⟩
theorem tuple_mul1 (l : Addr) (items : Array Value) (n : Nat) (dd : Option Addr) (sl : Array (Option Value)) (u : Tok) :
    Meets (Builtin.«tuple.__mul__» ⟨[.ref l, .int 1 u], []⟩) (fun _ R s => s.heap.get? l = some { cls := .type "tuple", dict := dd, data := .seq items n, slots := sl } ∧ R (.ok (.ret (Value.ref l))) s) :=
  .of_wp fun prog w A R s h => by
    obtain ⟨hp, g, d, tk, os⟩ := s
    obtain ⟨hl, h⟩ := h
    have f1 := AutoSeq1.idx_int
    wp_walk using wpAny_loadPart' hl
    exact ⟨_, rfl, h⟩
section
variable {X : Cx}
/-- (x, ..) * k, k 0 or 1 -/
def rMul01 : R2 := fun x y H Q => ∃ (a : Addr) (k : Int) (xs : List V), x = .ref a ∧ y = .int k ∧ T2 H a xs ∧ xs ≠ [] ∧ (k = 0 ∨ k = 1) ∧ ∀ v H', Same H H' → T2 H' v (if k = 1 then xs else []) → Q (.ref v) H'
theorem op_mul01 : OpR X (binaryOp .Mult) rMul01 := by
  intro pins s σ H x y v u Q I rx ry h
  obtain ⟨a, k, xs, rfl, rfl, ha, ne, hk, q⟩ := h
  cases rx
  obtain ⟨t, rfl⟩ := ry
  obtain ⟨its, r, ⟨⟨cls, dd, data, sl⟩, ho, hc, n, hd⟩, hs⟩ := I.tuple (ha.sq (K := X.K))
  simp only at hc hd
  subst hc hd
  have ni : its.toArray.isEmpty = false := by
    cases its with
    | nil =>
      cases r
      exact absurd rfl ne
    | cons _ _ => rfl
  rcases hk with rfl | rfl
  · refine wpAny_binaryOp_repeat_ref (T := "tuple") (U := "int") (by decide) ⟨_, ho, rfl⟩ (fun s' => typeIs_int s' 0 t) noFill_tuple_mul F.fills_int_mul F.slot_int_rmul repeat_tuple F.slot_int_index.lookup
      (call_meets F.slot_int_rmul (typeIs_int s 0 t) F.entry_int_rmul (F.args_int_rmul_2 _ _) (int_rmul_tuple 0 t a its.toArray n dd sl)
        ⟨ho, rfl, ⟨_, ho, rfl⟩, call_meets F.slot_tuple_mul ⟨_, ho, rfl⟩ F.entry_tuple_mul (F.args_tuple_mul_2 _ _) (tuple_mul0 a its.toArray n dd sl t ni) ⟨ho, ?_⟩⟩)
    exact newF I .nil (Nat.zero_le _) (fun v H' s' _ h => q v H' s' (.inl h)) s.toks
  · refine wpAny_binaryOp_repeat_ref (T := "tuple") (U := "int") (by decide) ⟨_, ho, rfl⟩ (fun s' => typeIs_int s' 1 t) noFill_tuple_mul F.fills_int_mul F.slot_int_rmul repeat_tuple F.slot_int_index.lookup
      (call_meets F.slot_int_rmul (typeIs_int s 1 t) F.entry_int_rmul (F.args_int_rmul_2 _ _) (int_rmul_tuple 1 t a its.toArray n dd sl)
        ⟨ho, rfl, ⟨_, ho, rfl⟩, call_meets F.slot_tuple_mul ⟨_, ho, rfl⟩ F.entry_tuple_mul (F.args_tuple_mul_2 _ _) (tuple_mul1 a its.toArray n dd sl t) ⟨ho, ?_⟩⟩)
    exact ⟨.ref a, H, I, rfl, q a H (Same.refl H) ha⟩
/-- the keys of a dict, all ints -/
def KeysI (kvs : List (Key × V)) (ks : List Int) : Prop := kvs.map (·.1) = ks.map Sum.inl
theorem KeysI.len {kvs : List (Key × V)} {ks : List Int} (h : KeysI kvs ks) : kvs.length = ks.length := by
  have z := congrArg List.length h
  rwa [List.length_map, List.length_map] at z
theorem KeysI.put {kvs : List (Key × V)} {ks : List Int} (h : KeysI kvs ks) (nd : ks.Nodup) (k : Int) (v : V) : ∃ ks', KeysI (putK kvs (Sum.inl k) v) ks' ∧ ks'.Nodup ∧ ∀ j, j ∈ ks' ↔ j ∈ ks ∨ j = k := by
  unfold putK
  by_cases hk : (kvs.any fun kv => decide (kv.1 = Sum.inl k)) = true
  · rw [if_pos hk]
    refine ⟨ks, ?_, nd, fun j => ⟨.inl, ?_⟩⟩
    · unfold KeysI at h ⊢
      rw [← h, List.map_map]
      refine List.map_congr_left fun q _ => ?_
      show (if q.1 = Sum.inl k then (q.1, v) else q).1 = q.1
      split <;> rfl
    · rintro (z | rfl)
      · exact z
      · obtain ⟨q, hq, e⟩ := List.any_eq_true.mp hk
        have z : (Sum.inl j : Key) ∈ kvs.map (·.1) := by
          rw [← of_decide_eq_true e]
          exact List.mem_map_of_mem hq
        rw [h] at z
        obtain ⟨i, hi, e2⟩ := List.mem_map.mp z
        rw [← Sum.inl.inj e2]
        exact hi
  · rw [if_neg hk]
    have nk : k ∉ ks := fun hm => hk (by
      have z : (Sum.inl k : Key) ∈ kvs.map (·.1) := by
        rw [h]
        exact List.mem_map_of_mem hm
      obtain ⟨q, hq, e⟩ := List.mem_map.mp z
      exact List.any_eq_true.mpr ⟨q, hq, decide_eq_true e⟩)
    refine ⟨ks ++ [k], ?_, ?_, fun j => by rw [List.mem_append, List.mem_singleton]⟩
    · unfold KeysI at h ⊢
      rw [List.map_append, List.map_append, h]
      rfl
    · rw [List.nodup_append]
      refine ⟨nd, by simp, fun a ha b hb => ?_⟩
      rw [List.mem_singleton.mp hb]
      rintro rfl
      exact nk ha
/-- sorted(d), all keys ints -/
def rSortedDI : List V → Hp → VK → Prop := fun xs H Q => ∃ (a : Addr) (kvs : List (Key × V)) (ks : List Int), xs = [.ref a] ∧ H a = some (.dK kvs) ∧ KeysI kvs ks ∧ ks.length ≤ 4000 ∧
  ∀ (ys : List Int) (p : Addr), ys.Perm ks → ys.Pairwise (· ≤ ·) → H p = none → Q (.ref p) (upd H p (.lst (ys.map V.int)))
theorem cr_sortedDI (hc : X.calm = true) : CallR X (.builtin "sorted") rSortedDI := by
  intro pins s σ H xs us Q I r h
  obtain ⟨a, kvs, ks, rfl, hd, hks, few, q⟩ := h
  rw [Vals.ref1 r]
  obtain ⟨z, lo, vs, rel, dd⟩ := dk_rd I.hok (.inl hd)
  obtain ⟨ep, hat⟩ := dd.dictAt
  have keys : vs.map (·.1) = ks.map Sum.inl := rel.keys.symm.trans hks
  have len : vs.length = ks.length := by
    have y := congrArg List.length keys
    rwa [List.length_map, List.length_map] at y
  have small : vs.length ≤ sizeLine := by
    rw [len, sizeLine_eq]
    omega
  refine Calls.call_function_entry kind_sorted plain_sorted entry_sorted (args_sorted1 _) ?_
  unfold Builtin.«sorted»
  refine wpAny_bind (m := checkCount "sorted" 1 1 _) (wpAny_pure (wpAny_bind (PySem.W.kdu_collect (A := X.A.in1) (PySem.W.kdl_dict (knd := mixKind X.prog X.w) (kvs := vs) (ep := ep) lo) (I.ok.hd hc) hat small fun h' tk acc hk hacc => ?_)))
  have rv : Vals (vs.map fun p => kV p.1) acc.toList := keys_at (by rw [Array.length_toList, hacc.1]) fun j v e => hacc.2 j v (by rw [← Array.getElem?_toList]; exact e)
  have rv2 : Vals (ks.map V.int) acc.toList := by
    have y : (vs.map fun p => kV p.1) = ks.map V.int := by
      have y1 : (vs.map fun p => kV p.1) = (vs.map (·.1)).map kV := by rw [List.map_map]; rfl
      rw [y1, keys, List.map_map]
      rfl
    rwa [y] at rv
  have hI := rv2.ints
  have alen : acc.toList.length ≤ sizeLine := by
    rw [Array.length_toList, hacc.1]
    exact small
  have I1 : Inv X pins σ H { s with heap := h', toks := tk } := I.kept hk
  refine wpAny_bind (wpAny_newList ?_ alen)
  have at1 : (h'.push (seqObj "list" acc.toList.toArray 0)).get? h'.objs.size = some (seqObj "list" acc.toList.toArray 0) := Heap.get?_push_size _ rfl
  show wpAny _ _ _ _ _ { s with heap := h'.push (seqObj "list" acc.toList.toArray 0), toks := tk }
  refine wpAny_bind (wpAny_holding (wpAny_call_entry slot_list_sort ⟨_, at1, rfl⟩ entry_list_sort (SrtO.list_sort_ord SrtO.swo_int (s := { s with heap := h'.push (seqObj "list" acc.toList.toArray 0), toks := tk }) at1 alen (fun h2 => SrtO.ints_sortable hI h2) fun out h1 h2 => ⟨_, rfl, ?_⟩) (args_list_sort _)))
  obtain ⟨k3, k4, k5⟩ := SrtO.ints_out hI h1 h2
  obtain ⟨c, hcc⟩ := sortedHeap_at (vs := acc.toList) (out := out.toArray) at1
  have olen : ((out.map SrtO.iv).map V.int).length ≤ sizeLine := by
    rw [List.length_map, k4.length_eq, sizeLine_eq]
    omega
  refine wpAny_pure ⟨_, rfl, .ref h'.objs.size, upd H h'.objs.size (.lst ((out.map SrtO.iv).map V.int)), I1.laid (t' := tk) (fun b u e => ?_) (Nat.le_refl _) (show ObjOk X.prog X.w _ _ _ (.lst _) from ⟨olen, out, c, vals_of_ints k3, hcc⟩), rfl, q _ _ k4 k5 (I1.hok.fresh (Nat.le_refl _))⟩
  have lt : b < h'.objs.size := Heap.lt_size e
  rw [sortedHeap_old (Nat.ne_of_lt lt) (by rw [size_push']; exact Nat.lt_succ_of_lt lt)]
  exact Heap.get?_push_of_some _ e
end
end Su
/-! ### SG: l.extend(t), t a tuple; rows that are written -/
namespace Su
open PySem PySem.Spec PyProof.Rows L2
theorem ext_tup (l : Addr) (items : Array Value) (n : Nat) (b : Addr) (more : Array Value) (m : Nat) (dd : Option Addr) (sl : Array (Option Value)) (h0 : ¬(!items.isEmpty && Builtin.List.listTooLong (items.size + more.size)) = true) (h1 : items.size ≤ sizeLine) (h2 : items.size + more.size ≤ sizeLine + 1) :
    Meets (Builtin.«list.extend» ⟨[.ref l, .ref b], []⟩) (fun _ R s => s.heap.get? l = some { cls := .type "list", data := .seq items n } ∧ s.heap.get? b = some { cls := .type "tuple", dict := dd, data := .seq more m, slots := sl } ∧
      R (.ok (.ret .none)) { s with heap := s.heap.update l (Obj.mapSeq fun x => x ++ more) }) :=
  .of_wp fun prog w A R s h => by
    obtain ⟨hp, g, d, tk, os⟩ := s
    obtain ⟨hl, hb, h⟩ := h
    have f1 := AutoSeq1.idx_int
    have f2 := F.sub_tuple_tuple
    have f3 := F.sub_list_list
    have f4 := F.sub_tuple_list
    have f5 := F.sub_list_tuple
    have fits : (items ++ more).size ≤ sizeLine + 1 := by
      rw [Array.size_append]
      exact h2
    wp_walk using (wpAny_updateSeq hl rfl (hz := h1) (_hz' := fits)), wpAny_loadPart' hl, wpAny_loadPart' hb
    exact ⟨_, rfl, h⟩
section
variable {X : Cx}
def rExtT (K : PySem.W.Frag) : V → List V → Hp → VK → Prop := fun x vs H Q => ∃ l b xs zs, x = .ref l ∧ vs = [.ref b] ∧ H l = some (.lst xs) ∧ SqT K H b zs ∧ xs.length + zs.length ≤ sizeLine ∧ Q .non (upd H l (.lst (xs ++ zs)))
theorem mt_extT : MtM X "list.extend" (rExtT X.K) := by
  intro pins s σ H x vs v us Q I rx rv h
  obtain ⟨l, b, xs, zs, rfl, rfl, hH, hB, hz, q⟩ := h
  cases rx
  obtain ⟨u, rfl, ru⟩ := rv.one
  cases ru
  obtain ⟨z, its, n, r, hl, e⟩ := I.lstM hH
  obtain ⟨it2, r2, ⟨⟨cls, dd, data, sl⟩, ho, hc, m, hd⟩, _⟩ := I.tuple hB
  simp only at hc hd
  subst hc hd
  have hl2 := r2.length
  have fit : its.toArray.size + it2.toArray.size ≤ sizeLine := by
    rw [List.size_toArray, List.size_toArray]
    omega
  have short : ¬ (!its.toArray.isEmpty && Builtin.List.listTooLong (its.toArray.size + it2.toArray.size)) = true := by
    rw [notLongL fit, Bool.and_false]
    exact Bool.false_ne_true
  refine call_meets F.slot_list_extend ⟨_, e, rfl⟩ F.entry_list_extend (F.args_list_extend_2 _ _) (ext_tup l its.toArray n b it2.toArray m dd sl short (by rw [List.size_toArray]; omega) (by omega)) ⟨e, ho, ?_⟩
  refine ⟨.non, _, I.lset (its' := its ++ it2) hH e (by simp) (r.append r2) ?_, rfl, q⟩
  rw [List.length_append]
  omega
end
/-! written rows -/
def risB (hi : Int) : Int → List Int → Bool
  | _, [] => true
  | lo, k :: r => decide (lo ≤ k) && decide (k ≤ hi) && risB hi (k + 1) r
theorem ris_of {hi : Int} : ∀ {lo : Int} {l : List Int}, risB hi lo l = true → Ris lo hi l
  | _, [], _ => ⟨List.Pairwise.nil, fun _ h => (List.not_mem_nil h).elim, fun _ h => (List.not_mem_nil h).elim⟩
  | lo, k :: r, h => by
    unfold risB at h
    rw [Bool.and_eq_true, Bool.and_eq_true, decide_eq_true_eq, decide_eq_true_eq] at h
    have z := ris_of h.2
    refine ⟨List.pairwise_cons.mpr ⟨fun x hx => by have := z.lo x hx; omega, z.pw⟩, fun x hx => ?_, fun x hx => ?_⟩
    · rcases List.mem_cons.mp hx with e | e
      · rw [e]
        exact h.1.1
      · have := z.lo x e
        omega
    · rcases List.mem_cons.mp hx with e | e
      · rw [e]
        exact h.1.2
      · exact z.hi x e
def rowB (n : Nat) (r : Rw) : Bool := risB 99 0 r.1 && decide (r.1.length ≤ 6) && risB ((n : Int) - 1) 0 r.2
theorem row_of {n : Nat} {r : Rw} (h : rowB n r = true) : RowOk n r := by
  unfold rowB at h
  rw [Bool.and_eq_true, Bool.and_eq_true, decide_eq_true_eq] at h
  exact ⟨ris_of h.1.1, h.1.2, ris_of h.2⟩
def webB (A : List Int) (rs : List Rw) : Bool := decide (1 ≤ rs.length) && decide (rs.length ≤ 80) && rs.all (rowB rs.length) && decide (A.length ≤ 12) && (allRooms rs).all (fun k => decide (k ∈ A))
theorem web_of {A : List Int} {rs : List Rw} (h : webB A rs = true) : WebOk rs := by
  unfold webB at h
  simp only [Bool.and_eq_true, decide_eq_true_eq, List.all_eq_true] at h
  exact ⟨h.1.1.1.1, h.1.1.1.2, fun r hr => row_of (h.1.1.2 r hr), A, h.1.2, h.2⟩
def upto (n : Nat) : List Int := (List.range n).map fun i => ((i : Nat) : Int)
theorem upto_rg (n : Nat) : rgV 0 (n : Int) = (upto n).map V.int := by
  unfold rgV upto
  rw [List.map_map, show ((n : Int) - 0).toNat = n by omega]
  refine List.map_congr_left fun i _ => ?_
  show V.int (0 + (i : Nat)) = V.int (i : Int)
  rw [Int.zero_add]
theorem upto_mem {n : Nat} {k : Int} : k ∈ upto n ↔ 0 ≤ k ∧ k < n := by
  unfold upto
  rw [List.mem_map]
  constructor
  · rintro ⟨i, hi, rfl⟩
    have := List.mem_range.mp hi
    omega
  · intro h
    exact ⟨k.toNat, List.mem_range.mpr (by omega), by omega⟩
theorem upto_pw (n : Nat) : (upto n).Pairwise (· < ·) := by
  unfold upto
  rw [List.pairwise_map]
  exact List.pairwise_lt_range.imp fun h => by omega
end Su
/-! ### SI: a comprehension within another one -/
namespace Su
open PySem PySem.Spec PyProof.Rows L2
theorem blkOk_in {N : List Str} {sc scope : Scope} {own : List (Str × Nat)} (fr : List Str) (h : blkC N { kind := .function, names := fr.map fun x => (x, NameKind.cell), isGenerator := false, isCoroutine := false } scope own = true)
    (h2 : ∀ x ∈ fr, sc.names.lookup x = some .cell ∨ sc.names.lookup x = some .free) : BlkOk N sc scope own := by
  have b := blkOk_by h
  refine ⟨b.kind, b.uniq, b.ix, fun y hy e => ?_, b.own⟩
  refine h2 y.1 ?_
  have key : ∀ (l : List Str) (x : Str) (k : NameKind), (l.map fun x => (x, NameKind.cell)).lookup x = some k → x ∈ l := by
    intro l
    induction l with
    | nil =>
      intro x k e
      simp at e
    | cons a l ih =>
      intro x k e
      rw [List.map_cons, List.lookup_cons] at e
      by_cases hx : (x == a) = true
      · rw [eq_of_beq hx]
        exact List.mem_cons_self
      · rw [Bool.not_eq_true] at hx
        rw [hx] at e
        exact List.mem_cons_of_mem _ (ih x k e)
  rcases b.free y hy e with z | z
  · exact key _ _ _ z
  · exact key _ _ _ z
end Su
/-! ### XA: an exception that is caught and kept -/
namespace Su
open PySem PySem.Spec PyProof.Rows L2
/-- at a: an exception of the class cls, its dict at d -/
def exK (a : Addr) (cls : Value) (d : Option Addr) : HO := .ext fun h => ∃ (oe : Obj) (vs : Array Value), h.get? a = some oe ∧ Zc cls d oe ∧ oe.data = .fields vs
theorem exK_ok {P : Program} {w : World} {H : Hp} {h : Heap} {a : Addr} {cls : Value} {d : Option Addr} {oe : Obj} {vs : Array Value} (e : h.get? a = some oe) (z : Zc cls d oe) (hd : oe.data = .fields vs) : ObjOk P w H h a (exK a cls d) := by
  refine ⟨⟨oe, vs, e, z, hd⟩, ⟨oe, e⟩, fun h1 h2 p k => ?_⟩
  obtain ⟨o, v, e1, z1, d1⟩ := p
  exact ⟨o, v, k _ e1, z1, d1⟩
section
variable {X : Cx} {pins : List (Addr × Obj)} {σ : L2.St} {H : Hp} {s : Shared}
/-- what is new since the entry may be tracked from now on -/
theorem track {a : Addr} {o : HO} (I : Inv X pins σ H s) (ha : H a = none) (h0 : X.s_0.heap.get? a = none) (nl : a ≠ X.env.locals) (nc : ∀ x c, X.env.cells.lookup x = some c → c ≠ a) (np : ∀ p ∈ X.pn ++ pins, p.1 ≠ a)
    (new : ObjOk X.prog X.w (upd H a o) s.heap a o) : Inv X pins σ (upd H a o) s where
  ok := I.ok
  os := I.os
  bare := I.bare
  base := {
    keep := I.base.keep
    slot := I.base.slot
    free := fun b u q n x => by
      rw [upd_ne fun z => by rw [z, h0] at q; cases q]
      exact I.base.free b u q n x
    there := I.base.there
    tups := fun b xs q => by
      have z := I.base.tups b xs q
      rw [upd_ne (ne_of_none z ha)]
      exact z
    frzs := fun b u v q => by
      have z := I.base.frzs b u v q
      rw [upd_ne (ne_of_none z ha)]
      exact z
    tbls := fun b ps q => by
      obtain ⟨more, z⟩ := I.base.tbls b ps q
      exact ⟨more, by rw [upd_ne (ne_of_none z ha)]; exact z⟩ }
  loc := I.loc
  cell := I.cell
  free := by
    rw [upd_ne nl.symm]
    exact I.free
  freeC := fun x c e => by
    rw [upd_ne (nc x c e)]
    exact I.freeC x c e
  pin := fun p hp => by
    obtain ⟨p1, p2, p3⟩ := I.pin p hp
    exact ⟨p1, by rw [upd_ne (np p hp)]; exact p2, p3⟩
  hok := HOk.laidN I.hok (fun _ _ q => q) ha new
  len := I.len
end
def wKeep (K : PySem.W.Frag) (c : Value) (i : Nat) (ts : Addr → TS) (Wo : WX) (D : Ends) : WX := fun cls d σ H =>
  ∃ b, PySem.W.exmOne K cls c = some b ∧
    (b = true → ∀ a, H a = none → ts a { nx := fun σ' H' => D.nx (σ'.set i none) (upd H' a (exK a cls d)), rt := fun _ _ => False, bk := fun _ _ => False, ct := fun _ _ => False } (σ.set i (some (.ref a))) H) ∧
    (b = false → Wo cls d σ H)
section
variable {X : Cx} {x n : Str} {c : Value} {i : Nat} {body suite : List Stmt} {b0 : Stmt} {np pos pos' : Pos} {tb : WX → TS} {ts : Addr → TS} {Wo : WX}
/-- try: .. except x as n: suite, the exception tracked behind the suite -/
theorem ps_try_keep (hex : X.ex = []) (hs : X.stack = X.env :: X.outer) (hf : X.env.frame = some X.env.locals) (hN : X.N.Nodup) (hi : X.N[i]? = some n) (hln : X.env.kindOf n = some .local) (hc : Names X x c) (tk : Takes X Wo)
    (hb : ∀ (W : WX) (pn : List (Addr × Obj)) (xe : Value → Shared → Prop), Takes (X.tr pn xe) W → PassesOwn (model X.prog X.w) X.A X.env xe → PSs (X.tr pn xe) body (tb W))
    (hsu : ∀ (a : Addr) (oe : Obj) (pn : List (Addr × Obj)), PSs (X.suite a ((a, oe) :: pn)) (b0 :: suite) (ts a)) :
    PS X (.Try body [.ExceptHandler (some (.Name x np)) (some n) (b0 :: suite) pos'] [] [] pos) (fun D σ H => tb (wKeep X.K c i ts Wo D) D σ H) := by
  refine ⟨fun pins s σ H D I h => ?_⟩
  have ok := I.ok
  have frm : X.A.frames = some (X.env :: X.outer) := by
    rw [ok.frames, hs]
  refine wpAny_Try_except ?_
  refine wpAny_mono ((hb (wKeep X.K c i ts Wo D) (X.pn ++ pins) (fun u t => wpAny (model X.prog X.w) X.A (noteFrame u X.env) (fun _ t2 => wpAny (model X.prog X.w) X.A (setFlight u none) (fun _ t3 =>
    wpAny (model X.prog X.w) X.A (handleBy u X.env [.ExceptHandler (some (.Name x np)) (some n) (b0 :: suite) pos']) (SP X pins D) X.xe t3) X.xe t2) X.xe t) (fun u t xx => ?_) PassesOwn.looking).run [] s σ H D (I.toTry _) h) (fun fl t hsp => ?_) (fun _ _ z => z)
  · obtain ⟨a, B, sI, pins2, τ, G, cls, d, rfl, Jt, nb, up, sky, na, os, ag, b, hb1, hyes, hno⟩ := xx
    have J : Inv X pins τ G sI := Jt.ofTry ok
    have sky2 : Sky B (X.env :: X.outer) a (Zc cls d) X.env.locals t.heap := by
      rw [← hs]
      exact sky
    show wpAny (model X.prog X.w) X.A (noteFrame (.ref a) X.env) _ _ _
    refine Sky.land Zc.steady frm hf sky2 fun g3 fl3 up3 => ?_
    have J3 : Inv X pins τ G { t with heap := g3 } := J.landed nb fl3.1 (up.trans up3) os ag
    obtain ⟨oe3, vs3, at3, zc3, dt3⟩ := fl3.there
    have nofr : a ∉ frs (X.env :: X.outer) := by
      intro hm
      obtain ⟨_, o', e', hnf⟩ := fl3.2.2.1.mem hm
      rw [at3] at e'
      cases e'
      exact hnf _ dt3
    have nL : a ≠ X.env.locals := fun z => nofr (List.mem_filterMap.mpr ⟨X.env, List.mem_cons_self, by rw [hf, z]⟩)
    have nF : a ∉ X.fs := by
      intro hm
      obtain ⟨e, he, q⟩ := List.mem_filterMap.mp hm
      exact nofr (List.mem_filterMap.mpr ⟨e, List.mem_cons_of_mem _ he, q⟩)
    -- it wasn't there ahead
    have gone : sI.heap.get? a = none := by
      cases z : sI.heap.get? a with
      | none => rfl
      | some o =>
        have y := nb a o z (by rw [hs]; exact nofr)
        rw [fl3.2.1] at y
        cases y
    have gone0 : X.s_0.heap.get? a = none := by
      cases z : X.s_0.heap.get? a with
      | none => rfl
      | some o =>
        obtain ⟨o', y⟩ := J.base.there a o z (by rw [hex]; simp)
        rw [gone] at y
        cases y
    have noc : ∀ y k, X.env.cells.lookup y = some k → k ≠ a := by
      rintro y k e rfl
      obtain ⟨v, o, e1, _⟩ := J.cell y k e
      rw [gone] at e1
      cases e1
    have nop : ∀ q ∈ X.pn ++ pins, q.1 ≠ a := by
      intro q hq e
      have y := (J.pin q hq).1
      rw [e, gone] at y
      cases y
    have S3 := J3.suite at3 dt3 na nL nF
    refine wpAny_handleBy_cons (codeAny_handlers_test ?_) (by intro q; cases q)
    have LT : PySem.W.Looks (model X.prog X.w) g3 (typeOf (.ref a)) cls := fun A Q E s k q => wpAny_typeOf_ref (k _ _ at3) (by rw [zc3.1]; exact q)
    have LM := PySem.W.exm_one (M := model X.prog X.w) (J3.kIn) LT hb1
    have asked : ∀ {Q : Value → Shared → Prop} {E : Value → Shared → Prop}, Q c { t with heap := g3 } → wpAny (model X.prog X.w) (X.A.mark (some (.ref a))) (eval (.Name x np) X.env) Q E { t with heap := g3 } := by
      intro Q E q
      obtain ⟨hg, hdbg, hm | ⟨hm, hv, hnn⟩⟩ := hc
      · exact ld_glob (X := X.suite a ((a, oe3) :: (X.pn ++ pins))) S3 hg hm q hdbg
      · exact ld_blt (X := X.suite a ((a, oe3) :: (X.pn ++ pins))) S3 hg hm hv q hnn hdbg
    refine asked (LM.here ?_)
    cases b with
    | true =>
      refine codeAny_handlers_suite_as (HandSPX.lands_againZ fl3 fun g4 fl4 up4 => ?_)
      have J4 : Inv X pins τ G { t with heap := g4 } := J.landed nb fl4.1 ((up.trans up3).trans up4) os ag
      obtain ⟨oe4, vs4, at4, zc4, dt4⟩ := fl4.there
      have S4 := J4.suite at4 dt4 na nL nF
      refine store_ok (X := X.suite a ((a, oe4) :: (X.pn ++ pins))) (v := .ref a) S4 hN hi (.inl hln) rfl (fun t5 S5 => ?_) (.inr hln)
      refine wpAny_mono ((hsu a oe4 (X.pn ++ pins)).run [] t5 _ G _ S5 (hyes rfl a na)) (fun fl t6 hsp => ?_) (fun _ _ z => False.elim z)
      cases fl with
      | next =>
        obtain ⟨τ6, G6, S6, q6⟩ := hsp
        obtain ⟨p1, p2, _⟩ := S6.pin (a, oe4) (List.mem_append_left _ List.mem_cons_self)
        have J6 : Inv X pins τ6 (upd G6 a (exK a cls d)) t6 := track (S6.unsuite ok) p2 gone0 nL noc nop (exK_ok p1 zc4 dt4)
        exact gone_ok J6 hN hi hln fun t7 J7 => ⟨_, _, J7, q6⟩
      | brk =>
        obtain ⟨_, _, _, q6⟩ := hsp
        exact False.elim q6
      | cont =>
        obtain ⟨_, _, _, q6⟩ := hsp
        exact False.elim q6
      | ret u =>
        obtain ⟨_, _, _, _, _, q6⟩ := hsp
        exact False.elim q6
    | false =>
      show wpAny _ X.A (handleBy (.ref a) X.env []) _ _ _
      refine wpAny_handleBy_nil ?_
      obtain ⟨k1, k2, k3, oe, vs, T, oT, ts', he, hz, hd, h1, hr⟩ := id fl3
      unfold PySem.passOn
      refine wpAny_bind (wpAny_field he hd h1 ?_)
      rw [if_neg (show ¬ ((Value.ref T == Value.none) = true) from by simp)]
      have away : wpAny (model X.prog X.w) X.A (setFlight (.ref a) X.env.frame) (fun _ t4 => wpAny (model X.prog X.w) X.A (throw (.ref a) : Sem Flow) (SP X pins D) X.xe t4) X.xe { t with heap := g3 } := by
        rw [hf]
        refine HandSPX.setFlight_upZ fl3 fun g4 hh4 up4 => wpAny_throw (tk _ _ ?_)
        exact ⟨a, B, sI, pins, τ, G, cls, d, rfl, J, nb, (up.trans up3).trans up4, .inr (.inr (by rw [hs]; exact hh4)), na, os, ag, hno rfl⟩
      first
        | exact wpAny_bind (wpAny_pure (wpAny_bind away))
        | exact wpAny_bind away
  · cases fl with
    | next =>
      obtain ⟨τ, G, J, q⟩ := hsp
      exact wpAny_execs_nil ⟨τ, G, J.ofTry ok, q⟩
    | brk =>
      obtain ⟨τ, G, J, q⟩ := hsp
      exact ⟨τ, G, J.ofTry ok, q⟩
    | cont =>
      obtain ⟨τ, G, J, q⟩ := hsp
      exact ⟨τ, G, J.ofTry ok, q⟩
    | ret u =>
      obtain ⟨v, τ, G, J, r, q⟩ := hsp
      exact ⟨v, τ, G, J.ofTry ok, r, q⟩
end
end Su
/-! ### XB: what is asked of a kept exception: isinstance, a field -/
namespace Su
open PySem PySem.Spec PyProof.Rows L2
/-- what the written part says of an own exception class -/
structure ExcT (K : PySem.W.Frag) (C : Addr) : Prop where
  cl : (PySem.W.clsIn K C).isSome = true
  ga : PySem.W.findIn K (.ref C) "__getattribute__" = some (some (.builtin "BaseException.__getattribute__"))
  gg : PySem.W.findIn K (.ref C) "__getattr__" = some none
  sub : PySem.W.subIn K (.ref C) (.type "BaseException") = some true
  cc : PySem.W.findIn K (.ref C) "__class__" = some (some (.builtin "object.__class__"))
  sp : PySem.W.specialIn K (.builtin "object.__class__") "__get__" = some (some (.builtin "getset_descriptor.__get__"))
  tk : PySem.W.takesIn K (.builtin "object.__class__") = some true
  mr : PySem.W.mroIn K C (.type "object") = some true
  hd : PySem.W.hasDictIn K C = true
/-- its dict, if it has one, is told -/
def XdAt (H : Hp) (d : Option Addr) : Prop := ∀ dd, d = some dd → ∃ fs, H dd = some (.xd fs)
section
variable {X : Cx} {pins : List (Addr × Obj)} {σ : L2.St} {H : Hp} {s : Shared}
theorem exK_inst {a C : Addr} {d : Option Addr} (I : Inv X pins σ H s) (e : H a = some (exK a (.ref C) d)) (hd : XdAt H d) : ∃ (ox : Obj) (od : Option Obj), PySem.W.InstAt s.heap a ox C od := by
  obtain ⟨oe, vs, e1, z, dt⟩ := (I.hok a _ e).1
  have no : PySem.W.notCls oe = true := by
    unfold PySem.W.notCls
    rw [dt]
  cases d with
  | none => exact ⟨oe, none, e1, z.1, no, by rw [z.2]; trivial⟩
  | some dd =>
    obtain ⟨fs, hx⟩ := hd dd rfl
    obtain ⟨mA, hns, _⟩ := (show ObjOk X.prog X.w H s.heap dd (.xd fs) from I.hok dd _ hx)
    obtain ⟨od, ho, _⟩ := lookIn_ns hns
    exact ⟨oe, some od, e1, z.1, no, by rw [z.2]; exact ho⟩
theorem exK_kit {a C : Addr} {d : Option Addr} (T : ExcT X.K C) (I : Inv X pins σ H s) (e : H a = some (exK a (.ref C) d)) (hd : XdAt H d) : ∃ P : Heap → Prop, PySem.W.KitX X.K (.ref a) (.ref C) P ∧ P s.heap := by
  obtain ⟨ox, od, J⟩ := exK_inst I e hd
  exact ⟨_, PySem.W.kitx_exc T.cl T.ga T.gg T.sub T.cc T.sp T.tk T.mr, J⟩
/-- isinstance(e, c) -/
def rIsiE (K : PySem.W.Frag) : List V → Hp → VK → Prop := fun xs H Q => ∃ (a C : Addr) (d : Option Addr) (c : V) (u : Value) (b : Bool), xs = [.ref a, c] ∧ ClsV c u ∧ ExcT K C ∧ H a = some (exK a (.ref C) d) ∧ XdAt H d ∧ PySem.W.kitOne K (.ref C) u = some b ∧ Q (.bl b) H
theorem call_isiE : CallR X (.builtin "isinstance") (rIsiE X.K) := by
  intro pins s σ H xs us Q I r h
  obtain ⟨a, C, d, c, u, b, rfl, k, T, e, hd, ek, q⟩ := h
  obtain ⟨u1, u2, rfl, r1, r2⟩ := vals2 r
  cases r1
  have e2 := k.eq r2
  subst e2
  obtain ⟨P, Z, p⟩ := exK_kit T I e hd
  exact PySem.W.kia_one Z I.kIn p ek (fun z => nomatch z) fun tk => ⟨.bl b, H, I.tok tk, rfl, q⟩
/-- isinstance(e, (c, ..)) -/
def rIsiET (K : PySem.W.Frag) : List V → Hp → VK → Prop := fun xs H Q => ∃ (a C tp : Addr) (d : Option Addr) (cs : List V) (us : List Value) (b : Bool), xs = [.ref a, .ref tp] ∧ T2 H tp cs ∧ Paired ClsV cs us ∧ ExcT K C ∧ H a = some (exK a (.ref C) d) ∧ XdAt H d ∧
  PySem.W.kitAny K (.ref C) us = some b ∧ Q (.bl b) H
theorem call_isiET : CallR X (.builtin "isinstance") (rIsiET X.K) := by
  intro pins s σ H xs us Q I r h
  obtain ⟨a, C, tp, d, cs, ws, b, rfl, hT, k, T, e, hd, ek, q⟩ := h
  obtain ⟨u1, u2, rfl, r1, r2⟩ := vals2 r
  cases r1
  cases r2
  obtain ⟨P, Z, p⟩ := exK_kit T I e hd
  obtain ⟨its, rv, ⟨⟨oc, od, dt, sl⟩, h1, h2, n, h3⟩, _⟩ := I.tuple (hT.sq (K := X.K))
  have e3 := ClsV.all k rv
  subst e3
  simp only at h2 h3
  subst h2 h3
  exact PySem.W.kia_tup Z I.kIn p h1 ek (fun z => nomatch z) fun tk => ⟨.bl b, H, I.tok tk, rfl, q⟩
/-- e.f -/
def tXfld (K : PySem.W.Frag) (f : Str) (te : TE) : TE := fun σ H Q => te σ H fun x H1 => ∃ (a C dd : Addr) (fs : List (Str × V)) (v : V), x = .ref a ∧ ExcT K C ∧ PySem.W.findIn K (.ref C) f = some none ∧ H1 a = some (exK a (.ref C) (some dd)) ∧ H1 dd = some (.xd fs) ∧ fs.lookup f = some v ∧ Q v H1
theorem pe_xfld {e : Expr} {f : Str} {te : TE} {pos : Pos} (he : PE X e te) (hb : attributeBase e f X.env (eval e X.env) = eval e X.env := by rfl) : PE X (.Attribute e f pos) (tXfld X.K f te) := by
  refine ⟨fun pins s σ H Q I h => ?_⟩
  refine attr_of hb (thn (he.run pins s σ H _ I h) fun u s1 ⟨x, H1, I1, rx, a, C, dd, fs, v, ex, T, no, ea, ed, ef, q⟩ => ?_)
  subst ex
  cases rx
  obtain ⟨oe, vs, e1, z, dt⟩ := (I1.hok a _ ea).1
  obtain ⟨mA, hns, hr⟩ := (show ObjOk X.prog X.w H1 s1.heap dd (.xd fs) from I1.hok dd _ ed)
  obtain ⟨od, ho, hl⟩ := lookIn_ns hns
  obtain ⟨u, hu, ru⟩ := RelO.some_of (v := v) (o := mA f) (by rw [← ef]; exact hr f)
  have J : PySem.W.InstAt s1.heap a oe C (some od) := ⟨e1, z.1, by unfold PySem.W.notCls; rw [dt], by rw [z.2]; exact ho⟩
  exact HandSPX.exc_get I1.kIn J T.ga T.gg T.sub (PySem.W.findObj_own T.hd no rfl (by rw [hl, hu])) (handed_of ru) ⟨v, H1, I1.tok _, ru, q⟩
end
end Su
/-! ### XC: an own exception class, over another one, whose __init__ calls that of the built-in above and keeps a field -/
namespace Su
namespace XC
open PySem PySem.W PySem.Calls PyProof.Rows PySem.HandSPX Builtin Builtin.ObjectAttr
def inA (f : Str) (p1 p2 : Pos) : Arguments :=
  { posonlyargs := [], args := [{ arg := "self", annotation := none, pos := p1 }, { arg := f, annotation := none, pos := p2 }], vararg := none, kwonlyargs := [], kw_defaults := [], kwarg := none, defaults := [] }
def inB (f t : Str) (r1 r2 r3 r4 r5 r6 q1 q2 q3 q4 : Pos) : List Stmt :=
  [.Expr (.Call (.Attribute (.Call (.Name "super" r1) [] [] r2) "__init__" r3) [.Constant (.str t) 0 r4] [] r5) r6, .Assign [.Attribute (.Name "self" q1) f q2] (.Name f q3) q4]
def inS (f : Str) : Scope :=
  { kind := .function, names := [(PySem.Str.ofString "self", .local), (f, .local), (PySem.Str.ofString "__class__", .free), (PySem.Str.ofString "super", .globalImplicit)], isGenerator := false, isCoroutine := false, more := [] }
/-- a field's name -/
structure Fld (f : Str) : Prop where
  self : f ≠ "self"
  cl : f ≠ "__class__"
  su : f ≠ "super"
  db : (f == ("__debug__" : Str)) = false
  bnd : ∀ (q : Str) (p1 p2 : Pos) (bd : List Stmt) (doc pm : Value) (an : Option Addr) (cd ct : Value) (cc : Addr) (a b : Value), bindArgs (ksFn "__init__" q (inA f p1 p2) bd (inS f) .none .none doc pm an cd ct cc) ⟨[a, b], []⟩ = pure ([("self", a), (f, b)] : List (Str × Value))
  sw : ∀ (q : Str) (L a : Addr) (cd : Value) (cc : Addr) (t : Str) (r1 r2 r3 r4 r5 : Pos) (k : Nat), swapsWith (.Call (.Attribute (.Call (.Name "super" r1) [] [] r2) "__init__" r3) [.Constant (.str t) 0 r4] [] r5) none k (ksEnv q (inS f) L a cd cc) = pure false
  sx : ∀ (q : Str) (L a : Addr) (cd : Value) (cc : Addr) (q1 q2 q3 : Pos) (k : Nat), swapsWith (.Name f q3) (some (.Attribute (.Name "self" q1) f q2)) k (ksEnv q (inS f) L a cd cc) = pure false
theorem fld_row : Fld "row" := ⟨by decide, by decide, by decide, by decide, fun _ _ _ _ _ _ _ _ _ _ _ _ => by first | rfl | with_unfolding_all rfl, fun _ _ _ _ _ _ _ _ _ _ _ _ => by first | rfl | with_unfolding_all rfl, fun _ _ _ _ _ _ _ _ _ => by first | rfl | with_unfolding_all rfl⟩
theorem fld_number : Fld "number" := ⟨by decide, by decide, by decide, by decide, fun _ _ _ _ _ _ _ _ _ _ _ _ => by first | rfl | with_unfolding_all rfl, fun _ _ _ _ _ _ _ _ _ _ _ _ => by first | rfl | with_unfolding_all rfl, fun _ _ _ _ _ _ _ _ _ => by first | rfl | with_unfolding_all rfl⟩
theorem fld_part : Fld "part" := ⟨by decide, by decide, by decide, by decide, fun _ _ _ _ _ _ _ _ _ _ _ _ => by first | rfl | with_unfolding_all rfl, fun _ _ _ _ _ _ _ _ _ _ _ _ => by first | rfl | with_unfolding_all rfl, fun _ _ _ _ _ _ _ _ _ => by first | rfl | with_unfolding_all rfl⟩
theorem fld_room : Fld "room" := ⟨by decide, by decide, by decide, by decide, fun _ _ _ _ _ _ _ _ _ _ _ _ => by first | rfl | with_unfolding_all rfl, fun _ _ _ _ _ _ _ _ _ _ _ _ => by first | rfl | with_unfolding_all rfl, fun _ _ _ _ _ _ _ _ _ => by first | rfl | with_unfolding_all rfl⟩
theorem fld_to : Fld "to" := ⟨by decide, by decide, by decide, by decide, fun _ _ _ _ _ _ _ _ _ _ _ _ => by first | rfl | with_unfolding_all rfl, fun _ _ _ _ _ _ _ _ _ _ _ _ => by first | rfl | with_unfolding_all rfl, fun _ _ _ _ _ _ _ _ _ => by first | rfl | with_unfolding_all rfl⟩
theorem fld_name : Fld "name" := ⟨by decide, by decide, by decide, by decide, fun _ _ _ _ _ _ _ _ _ _ _ _ => by first | rfl | with_unfolding_all rfl, fun _ _ _ _ _ _ _ _ _ _ _ _ => by first | rfl | with_unfolding_all rfl, fun _ _ _ _ _ _ _ _ _ => by first | rfl | with_unfolding_all rfl⟩
/-- what the written part says of the class n at C, over the built-in B, with the field f, its __init__ at fI -/
structure Own (P : Program) (K : Frag) (mg : Str → Option Value) (n f : Str) (C fI : Addr) (B newId initId : String) (bmB : List Value) : Prop where
  fld : Fld f
  gC : mg n = some (.ref C)
  ini : excInitIn K C bmB newId = true
  ovr : excOver K C bmB = true
  base : ExcBaseFacts B newId initId bmB
  stor : StoreFacts B bmB "object.__setattr__" "object"
  kx : KxsFacts B initId
  sa : findIn K (.ref C) "__setattr__" = some (some (.builtin "object.__setattr__"))
  noN : findIn K (.ref C) f = some none
  iC : findIn K (.ref C) "__init__" = some (some (.ref fI))
  fC : isFn K (.ref fI) = true
  kC : keepIn K (.ref C) = true
  exC : subIn K (.ref C) (.type "BaseException") = some true
  tyC : typeIn K (.ref C) = some (.type "type")
  hdC : hasDictIn K C = true
  isB : subIn K (.ref C) (.type B) = some true
  sup : ks_superIn K C C "__init__" = some (some (.builtin initId))
  own : mroIn K C (.ref C) = some true
  nos : mg "super" = none
  opq : nsIn K cStatics "thirdparty.any" = some none
  ntop : (P.main.scope.names.lookup ("super" : Str)).isSome = false
  fn : ∃ (oc : Value) (od : Option Addr) (q : Str) (doc pm : Value) (an : Option Addr) (cda cc : Addr) (ct : Value) (osl : Array (Option Value)) (t : Str) (p1 p2 r1 r2 r3 r4 r5 r6 q1 q2 q3 q4 : Pos)
      (ccl : Value) (cdd : Option Addr) (vs : Array Value) (ccs : Array (Option Value)) (file : Str) (tf : Tok) (cl : Value) (cld : Option Addr) (csl : Array (Option Value)),
    K.lookup fI = some ⟨oc, od, .func (ksFn "__init__" q (inA f p1 p2) (inB f t r1 r2 r3 r4 r5 r6 q1 q2 q3 q4) (inS f) .none .none doc pm an (.ref cda) ct cc), osl⟩ ∧ codeIn K (.ref cda) q = true ∧
    K.lookup cda = some ⟨ccl, cdd, .fields vs, ccs⟩ ∧ vs[2]? = some (.str file tf) ∧ ((P.main.file : Str) == file) = true ∧ (r3.endLine == r5.line) = true ∧ K.lookup cc = some ⟨cl, cld, .cell (some (.ref C)), csl⟩
/-- what __init__ leaves of a fresh exception at x -/
structure Left (h h' : Heap) (x C dx t1 : Addr) (f : Str) (v : Value) : Prop where
  keep : ∀ b o, b ≠ x → h.get? b = some o → h'.get? b = some o
  obj : h'.get? x = some { cls := .ref C, dict := some dx, data := .fields #[.ref t1, .none, .none, .none, .bool false, .none] }
  dbig : h.objs.size ≤ dx
  dne : dx ≠ x
  ns : h'.Ns1 dx (fun y => if y = f then some v else none)
section
variable {P : Program} {w : World} {A : Around} {E : Value → Shared → Prop} {R : Result → Shared → Prop} {s : Shared} {K : Frag} {mg : Str → Option Value} {n f : Str} {C fI : Addr} {B newId initId : String} {bmB : List Value}
theorem ev_init {env : Env} {o : Expr} {m : Str} {t : Str} {r3 r4 r5 : Pos} (hl : (r3.endLine == r5.line) = true) : ∃ pl, eval (.Call (.Attribute o m r3) [.Constant (.str t) 0 r4] [] r5) env = (do
    let ov ← attributeBase o m env (eval o env); standAt r3.atName
    let (g, first) ← holding [ov] (getMethod ov m pl); callWith r5 g first (backTo r5 (starEach [.Constant (.str t) 0 r4] env)) []) := by
  have e1 : methodCallForm 1 (backTo r5 (starEach [.Constant (.str t) 0 r4] env)) (backToKw r5 (keywordEach [] env)) = true := rfl
  have e2 : methodCallPos true o env r3 r5 = pure r5 := by
    unfold methodCallPos
    rw [hl]
    rfl
  refine ⟨do return (← importBound o env).getD true, ?_⟩
  rw [arm_eval_Call]
  show (do let ov ← attributeBase o m env (eval o env); standAt r3.atName; methodCall o m r3 r5 env ov 1 (backTo r5 (starEach [.Constant (.str t) 0 r4] env)) (backToKw r5 (keywordEach [] env))) = _
  unfold methodCall
  rw [e1, e2]
  simp only [calleeOf, if_true, pure_bind]
  rfl
theorem put_new {x t1 : Addr} {v : Value} {tk : Tok} (T : Own P K mg n f C fI B newId initId bmB) (X : K.In s.heap) (hx : s.heap.get? x = some (excO C t1))
    (hq : ∀ h' tk' dx, (∀ b o, b ≠ x → s.heap.get? b = some o → h'.get? b = some o) → s.heap.objs.size ≤ dx → dx ≠ x → h'.get? x = some { cls := .ref C, dict := some dx, data := .fields #[.ref t1, .none, .none, .none, .bool false, .none] } →
      h'.Ns1 dx (fun y => if y = f then some v else none) → R (.ok (.ret .none)) { s with heap := h', toks := tk' }) :
    codeAny (model P w) A (.call (.builtin "object.__setattr__") ⟨[.ref x, .str f tk, v], []⟩) R s := by
  obtain ⟨cd, hc, hd⟩ := any_some T.hdC
  have hxs : x ≠ s.heap.objs.size := Nat.ne_of_lt (Heap.lt_size hx)
  refine osa_openX (od := none) (r := none) T.stor X ⟨hx, rfl, rfl, trivial⟩ T.ovr (by unfold takerIn; rw [T.noN]; rfl) fun b => ?_
  obtain ⟨hp, g, d, t, os⟩ := s
  refine wpAny_bind (wpAny_pure (wpAny_bind (instanceDict_exc hx (looks_clsIn X hc) hd ?_)))
  show wpAny _ _ (storeInDict hp.objs.size (.str f tk) f v) _ _ _
  refine store_in_new ?_ fun h' tk' hn' hs => ?_
  · exact ⟨_, #[], _, (Heap.get?_update_ne _ _ _ _ hxs.symm).trans (Heap.get?_push_at rfl rfl), rfl, fun e he => absurd he (by simp), fun _ => rfl⟩
  · have e1 : (hp.push (dictOf [] 0)).get? x = some (excO C t1) := Heap.get?_push_of_some _ hx
    exact hq h' tk' hp.objs.size (fun b o hb ho => (hs.2 b (Nat.ne_of_lt (Heap.lt_size ho))).trans ((Heap.get?_update_ne _ _ _ _ hb).trans (Heap.get?_push_of_some _ ho))) (Nat.le_refl _) hxs.symm ((hs.2 x hxs).trans (Heap.get?_update_self _ e1 rfl)) hn'
theorem kind_f (F : Fld f) : (inS f).names.lookup f = some .local := by
  show List.lookup f ((PySem.Str.ofString "self", NameKind.local) :: (f, NameKind.local) :: _) = _
  rw [List.lookup_cons, show (f == PySem.Str.ofString "self") = false from by simpa using F.self, List.lookup_cons, beq_self_eq_true]
theorem kind_c (F : Fld f) : (inS f).names.lookup ("__class__" : Str) = some .free := by
  show List.lookup ("__class__" : Str) ((PySem.Str.ofString "self", NameKind.local) :: (f, NameKind.local) :: (PySem.Str.ofString "__class__", NameKind.free) :: _) = _
  rw [List.lookup_cons, show (("__class__" : Str) == PySem.Str.ofString "self") = false from by decide, List.lookup_cons, show (("__class__" : Str) == f) = false from by simpa using Ne.symm F.cl, List.lookup_cons, show (("__class__" : Str) == PySem.Str.ofString "__class__") = true from by decide]
theorem kind_s (F : Fld f) : (inS f).names.lookup ("super" : Str) = some .globalImplicit := by
  show List.lookup ("super" : Str) ((PySem.Str.ofString "self", NameKind.local) :: (f, NameKind.local) :: (PySem.Str.ofString "__class__", NameKind.free) :: (PySem.Str.ofString "super", NameKind.globalImplicit) :: _) = _
  rw [List.lookup_cons, show (("super" : Str) == PySem.Str.ofString "self") = false from by decide, List.lookup_cons, show (("super" : Str) == f) = false from by simpa using Ne.symm F.su, List.lookup_cons, show (("super" : Str) == PySem.Str.ofString "__class__") = false from by decide, List.lookup_cons, show (("super" : Str) == PySem.Str.ofString "super") = true from by decide]
/-- the built-in's __init__, bound to x, called: its args are laid anew -/
theorem call_mw {u x t0 : Addr} {a : Value} {Q : Value → Shared → Prop} (T : Own P K mg n f C fI B newId initId bmB) (X : K.In s.heap) (hx : s.heap.get? x = some (excO C t0)) (hu : s.heap.get? u = some (kxs_mw initId x))
    (hq : ∀ h' t1, (∀ b o, b ≠ x → s.heap.get? b = some o → h'.get? b = some o) → h'.get? x = some (excO C t1) → Q .none { s with heap := h' }) : wpAny (model P w) A (call (.ref u) [a]) Q E s := by
  obtain ⟨nm, N', qn, bs, bm, hdct, sn, sub, ab, col, dd, k0, k1, k2, k3, k5, hC, hT⟩ := excInit_of X T.ini
  obtain ⟨hp, g, d, tk, os⟩ := s
  have z1 : (Value.type "method-wrapper" == Value.type "method" || Value.type "method-wrapper" == Value.type "builtin_function_or_method" || Value.type "method-wrapper" == Value.type "method-wrapper") = true := by decide
  refine wpAny_call (codeAny_of_tree (show wpAny _ A.in1 (callAny (.ref u) ⟨[a], []⟩) _ _ _ from ?_))
  simp only [callAny]
  refine wpAny_bind (wpAny_load hu (by simp only [kxs_mw, z1, if_true]; refine KFB.if_so (by decide) (wpAny_bind (check_bound_init T.base.toExcCallFacts hC hx rfl (wpAny_bind (wpAny_pure (wpAny_pure ?_))))); exact ⟨plainId_quiet T.base.init.plain _, codeAny_builtin T.base.initEntry (exc_init_tree (cls := .ref C) (t0 := t0) (dv := none) (c2 := .none) (c3 := .none) (b4 := .bool false) hx (by rw [sizeLine_eq]; exact (by decide : 1 ≤ 16777216)) fun h' k e _ => hq h' _ k e)⟩))
theorem x_init (T : Own P K mg n f C fI B newId initId bmB) {x t0 : Addr} {v : Value} (X : K.In s.heap) (hG : s.heap.Ns mainGlobals mg) (hB : ∃ mb, s.heap.Ns builtinsNs mb ∧ ∀ y : Str, y ≠ "__name__" → mb y = bootBuiltins y) (hlim : s.heap.NoLimit)
    (hx : s.heap.get? x = some (excO C t0)) (hnx : K.lookup x = none) (hroom : A.depth < recursionLimit) (hq : ∀ h' tk dx t1, Left s.heap h' x C dx t1 f v → R (.ok (.ret .none)) { s with heap := h', toks := tk }) :
    codeAny (model P w) A (.call (.ref fI) ⟨[.ref x, v], []⟩) R s := by
  obtain ⟨oc, od, q, doc, pm, an, cda, cc, ct, osl, t, p1, p2, r1, r2, r3, r4, r5, r6, q1, q2, q3, q4, ccl, cdd, vs, ccs, file, tf, cl, cld, csl, ho, hcd, hcode, hvs, hfile, hln, hcell⟩ := T.fn
  obtain ⟨hp, g, d, tk0, os⟩ := s
  refine ks_codeAny_call_defAt (fd := ksFn "__init__" q (inA f p1 p2) (inB f t r1 r2 r3 r4 r5 r6 q1 q2 q3 q4) (inS f) .none .none doc pm an (.ref cda) ct cc) (body := inB f t r1 r2 r3 r4 r5 r6 q1 q2 q3 q4) (binds := [("self", .ref x), (f, v)]) hroom (X _ _ ho) rfl hlim (codeRec_of X hcd) rfl
    (BindsTo.of_eq ?b) ?c ?l (fun h₁ hns k₁ => ?_) rfl rfl rfl
  case b => exact T.fld.bnd _ _ _ _ _ _ _ _ _ _ _ _
  case c =>
    intro y hy e
    rcases List.mem_cons.mp hy with rfl | hy
    · cases e
    rcases List.mem_cons.mp hy with rfl | hy
    · cases e
    rcases List.mem_cons.mp hy with rfl | hy
    · cases e
    rcases List.mem_cons.mp hy with rfl | hy
    · cases e
    cases hy
  case l =>
    intro y hy
    rcases List.mem_cons.mp hy with rfl | hy
    · rfl
    rcases List.mem_cons.mp hy with rfl | hy
    · exact kind_f T.fld
    cases hy
  have X1 : K.In h₁ := X.keeps k₁
  have hx1 := k₁ _ _ hx
  obtain ⟨mb, hb1, hb2⟩ := hB
  obtain ⟨cd, hc, hd⟩ := any_some T.hdC
  have lself : (fun y => List.lookup y ([("self", .ref x), (f, v)] : List (Str × Value)).reverse) "self" = some (.ref x) := by
    show List.lookup ("self" : Str) [(f, v), ("self", .ref x)] = _
    rw [List.lookup_cons, show (("self" : Str) == f) = false from by simpa using Ne.symm T.fld.self, List.lookup_cons, beq_self_eq_true]
  have lf : (fun y => List.lookup y ([("self", .ref x), (f, v)] : List (Str × Value)).reverse) f = some v := by
    show List.lookup f [(f, v), ("self", .ref x)] = _
    rw [List.lookup_cons, beq_self_eq_true]
  obtain ⟨oD, hD1, hD2⟩ : ∃ oD, h₁.get? C = some oD ∧ oD.data = .cls cd := by
    unfold clsIn at hc
    split at hc
    · rename_i c d cd' sl ho
      cases hc
      exact ⟨_, X1 _ _ ho, rfl⟩
    · cases hc
  show _root_.PySem.wpAt _ _ (.func _ (ksEnv q (inS f) hp.objs.size fI (.ref cda) cc)) (execs _ (ksEnv q (inS f) hp.objs.size fI (.ref cda) cc)) _ _ _
  obtain ⟨pl, ev⟩ := ev_init (env := ksEnv q (inS f) hp.objs.size fI (.ref cda) cc) (o := .Call (.Name "super" r1) [] [] r2) (m := "__init__") (t := t) (r4 := r4) hln
  refine ks_wpAt_execs_cons (ks_wpAt_Expr_any (ks_wpAt_MethodCall (pl := pl) ?_ ev) rfl (T.fld.sw _ _ _ _ _ _ _ _ _ _ _ _))
  refine ks_wpAt_super_base (env := ksEnv q (inS f) hp.objs.size fI (.ref cda) cc) (kind_s T.fld) (kind_c T.fld) (by decide) rfl (X1 _ _ ho) rfl rfl rfl (X1 _ _ hcode) rfl hvs hfile T.ntop ?_
  refine ks_loadName_global rfl (kind_s T.fld) (loadGlobal_builtin (env := ksEnv q (inS f) hp.objs.size fI (.ref cda) cc) (hG.keeps k₁) T.nos (hb1.keeps k₁) ((hb2 _ (by decide)).trans (show bootBuiltins "super" = some (.type "super") from by first | rfl | decide +kernel)) ⟨rfl, ?_⟩)
  refine wpAny_loadName_free rfl (kind_c T.fld) rfl ⟨_, X1 _ _ hcell, rfl⟩ (wpAny_loadName_local rfl rfl hns lself (ks_wpAny_isType_cls hD1 hD2 ⟨rfl, ?_⟩))
  refine ks_wpAny_call_super hD1 hD2 hx1 rfl (fun c e => by cases e) (looks_mroIn X1 T.own) (fun h2 e2 k2 => ?_)
  have X2 : K.In h2 := X1.keeps k2
  have hx2 := k2 _ _ hx1
  have Ix : InstAt h2 x (excO C t0) C none := ⟨hx2, rfl, rfl, trivial⟩
  have hm := T.sup
  unfold ks_superIn at hm
  rw [hc] at hm
  refine kxs_getMethod T.kx e2 (looks_opaque X2 T.opq) (l₀ := cd.mro) (fun A Q E s k q => wpAny_bind ((looks_clsIn X2 hc) A _ E s k (wpAny_pure q))) rfl X2 hm (Ix.type.andThen (looks_subIn X2 T.isB)) (ks_ne X2 Ix hc) (by decide) ?_
  have k3 : ∀ b o, h2.get? b = some o → (h2.push (kxs_mw initId x)).get? b = some o := fun b o e => Heap.get?_push_of_some _ e
  refine kxs_callWith (i := initId) (x := x) rfl (evalArgs_plain (spliced_more (wpAny_Constant_str (spliced_none ⟨Heap.get?_push_at rfl rfl, ?_⟩))))
  refine call_mw T (X2.keeps k3) (k3 _ _ hx2) (Heap.get?_push_at rfl rfl) fun h4 t1 k4 hx4 => ?_
  have kk : ∀ b o, h₁.get? b = some o → (h2.push (kxs_mw initId x)).get? b = some o := fun b o e => k3 _ _ (k2 _ _ e)
  have hxL : hp.objs.size ≠ x := Nat.ne_of_gt (Heap.lt_size hx)
  have n4 : h4.Ns hp.objs.size (fun y => List.lookup y ([("self", .ref x), (f, v)] : List (Str × Value)).reverse) := by
    obtain ⟨oL, es, ep, hL, r⟩ := hns.keeps kk
    exact ⟨oL, es, ep, k4 _ _ hxL hL, r⟩
  have X4 : K.In h4 := fun b o e => k4 b o (fun z => by rw [z, hnx] at e; cases e) (X2.keeps k3 b o e)
  have lt : hp.objs.size < h4.objs.size := n4.lt
  show _root_.PySem.wpAt _ _ _ (execs _ (ksEnv q (inS f) hp.objs.size fI (.ref cda) cc)) _ _ _
  refine ks_wpAt_execs_cons (ks_wpAt_Assign_Attr (wpAt_of_wpAny ?_) (T.fld.sx _ _ _ _ _ _ _ _ _))
  refine wpAny_Name (wpAny_loadName_local rfl (kind_f T.fld) n4 lf (wpAny_Name (wpAny_loadName_local rfl rfl n4 lself ?_) (by decide))) T.fld.db
  refine set_plain X4 (ox := excO C t1) (od := none) ⟨hx4, rfl, rfl, trivial⟩ T.sa (put_new T X4 hx4 fun h5 tk5 dx k5 dn dne hx5 hn5 => ?_)
  show _root_.PySem.wpAt _ _ _ (execs [] _) _ _ _
  refine wpAt_of_wpAny (wpAny_execs_nil (hq h5 tk5 dx t1 ⟨fun b o hb e => k5 b o hb (k4 b o hb (kk _ _ (k₁ _ _ e))), hx5, Nat.le_trans (Nat.le_of_lt lt) dn, dne, hn5⟩))
/-- n(v), made: its own dict at d holds the field -/
structure Made (h h' : Heap) (e C d : Addr) (f : Str) (v : Value) : Prop where
  keep : ∀ b o, h.get? b = some o → h'.get? b = some o
  new : h.objs.size ≤ e
  obj : ∃ oe us, h'.get? e = some oe ∧ oe.cls = .ref C ∧ oe.dict = some d ∧ oe.data = .fields us ∧ us[1]? = some .none
  dbig : h.objs.size ≤ d
  dne : d ≠ e
  ns : h'.Ns1 d (fun y => if y = f then some v else none)
theorem x_made (T : Own P K mg n f C fI B newId initId bmB) {v : Value} (X : K.In s.heap) (hG : s.heap.Ns mainGlobals mg) (hB : ∃ mb, s.heap.Ns builtinsNs mb ∧ ∀ y : Str, y ≠ "__name__" → mb y = bootBuiltins y) (hlim : s.heap.NoLimit) (hroom : A.depth + 1 < recursionLimit)
    (hq : ∀ h' tk e d, Made s.heap h' e C d f v → R (.ok (.ret (.ref e))) { s with heap := h', toks := tk }) : codeAny (model P w) A (.call (.ref C) ⟨[v], []⟩) R s := by
  obtain ⟨nm, N', qn, bs, bm, hdct, sn, sub, ab, col, dd, k0, k1, k2, k3, k5, hC, hT⟩ := excInit_of X T.ini
  obtain ⟨oI, hoI, hcI⟩ : ∃ oI, s.heap.get? fI = some oI ∧ oI.cls = .type "function" := by
    obtain ⟨o, ho, hc⟩ := Option.map_eq_some_iff.mp (show (K.lookup fI).map (fun z => z.cls) = some (.type "function") from beq_iff_eq.mp T.fC)
    exact ⟨o, X _ _ ho, hc⟩
  obtain ⟨hp, g, dr, tk, os⟩ := s
  have k : ∀ b o, hp.get? b = some o → ((hp.push (kdv_tup [v])).push (excO C hp.objs.size)).get? b = some o := fun b o e => Heap.get?_push_of_some _ (Heap.get?_push_of_some _ e)
  have hnx : K.lookup (hp.objs.size + 1) = none := by
    cases e : K.lookup (hp.objs.size + 1) with
    | none => rfl
    | some o => exact absurd (Nat.lt_of_succ_lt (Heap.lt_size (show hp.get? (hp.objs.size + 1) = some o from X _ _ e))) (Nat.lt_irrefl _)
  refine call_own T.base hT hC (looks_findIn X T.iC) (fun self => exc_bind hoI hcI self) (by rw [sizeLine_eq]; exact (by decide : 1 ≤ 16777216)) ?_
  obtain ⟨mb, hb1, hb2⟩ := hB
  refine x_init (s := ⟨(hp.push (kdv_tup [v])).push (excO C hp.objs.size), g, dr, tk, os⟩) T (X.keeps k) (hG.keeps k) ⟨mb, hb1.keeps k, hb2⟩ (hlim.keeps k) (by heap_get) hnx (show A.depth + 1 < recursionLimit from hroom) fun h' tk' dx t1 L => ?_
  have z : hp.objs.size + 1 + 1 ≤ dx := by
    have q := L.dbig
    first
      | (simpa only [Heap.size_push] using q)
      | exact q
      | (rw [Heap.size_push, Heap.size_push] at q; exact q)
  refine ⟨rfl, hq h' tk' (hp.objs.size + 1) dx ⟨fun b o e => L.keep b o (Nat.ne_of_lt (Nat.lt_succ_of_lt (Heap.lt_size e))) (k b o e), Nat.le_succ _, ⟨_, _, L.obj, rfl, rfl, rfl, rfl⟩, Nat.le_trans (Nat.le_trans (Nat.le_succ _) (Nat.le_succ _)) z, L.dne, L.ns⟩⟩
end
end XC
open PySem PySem.Spec PyProof.Rows L2
theorem relO_fld {f : Str} {v : V} {u : Value} (r : RelV v u) (y : Str) : RelO (List.lookup y [(f, v)]) (if y = f then some u else none) := by
  by_cases e : y = f
  · subst e
    rw [if_pos rfl, List.lookup_cons, beq_self_eq_true]
    exact r
  · rw [if_neg e, List.lookup_cons, show (y == f) = false from by simpa using e]
    trivial
section
variable {X : Cx} {n f : Str} {C fI : Addr} {B newId initId : String} {bmB : List Value}
/-- n(e): a new exception, its dict at d -/
def tMkX (C : Addr) (f : Str) (ta : TA) : L2.St → Hp → XK → Prop := fun σ H Q => ta σ H fun vs H1 => ∃ v, vs = [v] ∧ ∀ d, H1 d = none → Q (.ref C) (some d) (upd H1 d (.xd [(f, v)]))
theorem pmk_x {a : Expr} {ta : TA} {p pos : Pos} {k : Nat} (T : XC.Own X.prog X.K X.mg n f C fI B newId initId bmB) (hr : Room k X.A) (ha : PA X [a] ta) (hg : Gl X n := by rfl)
    (he : starEach (a :: []) X.env = (false, eval a X.env) :: starEach [] X.env := by rfl) (hpl : (backTo pos (starEach [] X.env)).any (·.1) = false := by rfl) (hdb : (n == ("__debug__" : Str)) = false := by decide) : PMk X (.Call (.Name n p) [a] [] pos) (tMkX C f ta) := by
  intro pins s σ H Q I h
  refine wpAny_Call_Name_kw (ld_glob I hg T.gC (PySem.W.callWith_K (h₀ := X.base) I.ok.mod.kin T.kC (thn (ha.run pos pins s σ H _ I h) fun us s1 ⟨vs, H1, I1, r1, v, ev, q1⟩ => ?_) he hpl) hdb)
  subst ev
  refine ⟨I1.kIn, ?_⟩
  obtain ⟨u1, rfl, rv⟩ := vals1 r1
  show wpAny _ _ (call (.ref C) [u1]) _ _ _
  have hlim := I1.nolimit
  obtain ⟨mb, hb1, hb2⟩ := I1.mod.blt
  have hG := I1.mod.glob.keeps I1.bk
  have hb := hb1.keeps I1.bk
  obtain ⟨hp, g, dr, tk, os⟩ := s1
  refine wpAny_call (XC.x_made T I1.kIn hG ⟨mb, hb, hb2⟩ hlim (by have := hr.dp; omega) fun h' tk' e d M => ?_)
  show MkP X pins σ Q (.ref e) ⟨h', g, dr, tk', os⟩
  obtain ⟨oe, fv, hoe, hc, hd, hdat, h1⟩ := M.obj
  obtain ⟨G', g1, g2⟩ := restrict h' fun b => decide (b ≠ e)
  have gk : ∀ b, b ≠ e → G'.get? b = h'.get? b := fun b hb => g1 b (decide_eq_true hb)
  have ge : G'.get? e = none := g2 e (by simp)
  have ob : ObjOk X.prog X.w (upd H1 d (.xd [(f, v)])) G' d (.xd [(f, v)]) := ⟨_, M.ns.at (fun o q => (gk d M.dne).trans q), fun y => relO_fld rv y⟩
  have J : Inv X pins σ (upd H1 d (.xd [(f, v)])) ⟨G', g, dr, tk', os⟩ := I1.laid (t' := tk') (fun b o q => (gk b (Nat.ne_of_lt (Nat.lt_of_lt_of_le (Heap.lt_size q) M.new))).trans (M.keep b o q)) M.dbig ob
  refine ⟨e, oe, fv, ⟨G', g, dr, tk', os⟩, _, .ref C, some d, rfl, J, fun b o q => ?_, ge, hoe, ⟨hc, hd⟩, hdat, h1, by rw [upd_ne (Ne.symm M.dne)]; exact I1.hok.fresh M.new, rfl, I1.bare, raises_own T.exC T.tyC, q1 d (I1.hok.fresh M.dbig)⟩
  by_cases hb : b = e
  · rw [hb] at q
    cases ge.symm.trans (show G'.get? e = some o from q)
  · exact (gk b hb).symm.trans q
/-- raise n(e) -/
def tRaiseX (C : Addr) (f : Str) (W : WX) (ta : TA) : TS := fun _ σ H => tMkX C f ta σ H fun cls d H' => W cls d σ H'
theorem ps_raiseX {a : Expr} {ta : TA} {W : WX} {p pos pos2 : Pos} {k : Nat} (hc : X.calm = true) (T : XC.Own X.prog X.K X.mg n f C fI B newId initId bmB) (hr : Room k X.A) (tk : Takes X W) (ha : PA X [a] ta) (hg : Gl X n := by rfl)
    (he : starEach (a :: []) X.env = (false, eval a X.env) :: starEach [] X.env := by rfl) (hpl : (backTo pos (starEach [] X.env)).any (·.1) = false := by rfl) (hdb : (n == ("__debug__" : Str)) = false := by decide) :
    PS X (.Raise (some (.Call (.Name n p) [a] [] pos)) none pos2) (tRaiseX C f W ta) := ps_raise hc tk (pmk_x T hr ha hg he hpl hdb)
end
end Su
/-! ### XD: defs that may let an exception out -/
namespace Su
open PySem PySem.Spec PyProof.Rows L2
structure CalX (P : Program) (w : World) (K : PySem.W.Frag) (mg : Str → Option Value) (base : Heap) (k : Nat) (x : Str) (ps : List Str) (sp : Sp) : Prop where
  ex : ∃ (f : Addr) (fd : FuncData), FnOk P w K mg base (L2.CX P w) k f fd ps sp ∧ mg x = some (.ref f) ∧ PySem.W.keepIn K (.ref f) = true ∧ Binds K fd ps [] ∧ ∃ o : Obj, K.lookup f = some o ∧ o.data = .func fd
section
variable {P : Program} {w : World} {K : PySem.W.Frag} {mg : Str → Option Value} {base : Heap}
theorem cal_ofX {x : Str} {st : Stmt} {N ps : List Str} {k : Nat} {sp : Sp} (T : At K mg x st ps) (S : FnScope N ps (defScope st)) (len : ∀ vs H Q E, sp vs H Q E → vs.length = ps.length)
    (hb : ∀ (f : Addr) (cdv : Value) (A : Around) (outer : List Env) (s : Shared) (H : Hp) (vs : List V) (Q : VK) (E : XK), Room k (A.deeper (envOfC x (defScope st) s.heap.objs.size f cdv)) → sp vs H Q E →
      ∃ t, PSs (cxOf (L2.CX P w) P w K mg base N x (defScope st) f cdv A outer s H E) (defBody st) t ∧ t { nx := fun _ H' => Q .non H', rt := Q } (start N vs) H) : CalX P w K mg base (k + 1) x ps sp := by
  obtain ⟨f, fd, F, hm, b⟩ := T.ex
  have z : ∃ o : Obj, K.lookup f = some o ∧ o.data = .func fd := by
    obtain ⟨oc, od, kV, doc, pm, an, cdv, ct, osl, _, lk, _⟩ := F.ex
    exact ⟨_, lk, rfl⟩
  exact ⟨f, fd, F.okX S len (fun cdv A outer s H vs Q E => hb f cdv A outer s H vs Q E), hm, F.kp, b, z⟩
end
section
variable {X : Cx} {x : Str} {ps : List Str} {sp : Sp} {k j : Nat} {e : Expr} {es : List Expr} {t : TA} {p pos : Pos} {W : WX}
theorem pe_ownX (tk : Takes X W) (C : CalX X.prog X.w X.K X.mg X.base k x ps sp) (hr : Room j X.A) (hk : k ≤ j) (hg : Gl X x) (ha : PA X (e :: es) t)
    (hdb : (x == ("__debug__" : Str)) = false := by decide) (he : starEach (e :: es) X.env = (false, eval e X.env) :: starEach es X.env := by rfl) (hpl : (backTo pos (starEach es X.env)).any (·.1) = false := by rfl) :
    PE X (.Call (.Name x p) (e :: es) [] pos) (tCallS sp (WE W) t) := by
  obtain ⟨f, fd, F, hm, kp, b, _⟩ := C.ex
  exact pe_callS F (hr.mono hk) hg hm kp b (fun σ => passAt tk σ) ha hdb he hpl
end
end Su
/-! ### XE: raise X('..'), X an own exception class without own __init__ -/
namespace Su
open PySem PySem.Spec PyProof.Rows L2
/-- what the written part says of the class n at C, over the built-in B -/
structure Own0 (K : PySem.W.Frag) (mg : Str → Option Value) (n : Str) (C : Addr) (B newId initId : String) (bmB : List Value) : Prop where
  base : ExcBaseFacts B newId initId bmB
  ini : PySem.W.excIn K C bmB newId = true
  gC : mg n = some (.ref C)
  kC : PySem.W.keepIn K (.ref C) = true
  exC : PySem.W.subIn K (.ref C) (.type "BaseException") = some true
  tyC : PySem.W.typeIn K (.ref C) = some (.type "type")
def tRaiseT (C : Addr) (W : WX) : TS := fun _ σ H => W (.ref C) none σ H
theorem ps_raiseT {X : Cx} {n m : Str} {C : Addr} {B newId initId : String} {bmB : List Value} {W : WX} {j : Nat} {p p2 pos pos2 : Pos} (hc : X.calm = true) (T : Own0 X.K X.mg n C B newId initId bmB) (tk : Takes X W) (hg : Gl X n := by rfl)
    (hdb : (n == ("__debug__" : Str)) = false := by decide) : PS X (.Raise (some (.Call (.Name n p) [.Constant (.str m) j p2] [] pos)) none pos2) (tRaiseT C W) :=
  ps_raise hc tk (pmk_own T.base T.ini T.gC T.kC (raises_own T.exC T.tyC) hg hdb)
end Su
/-! ### GA: things of any kind -/
namespace Su
open PySem PySem.Spec PyProof.Rows L2
inductive G where
  | non
  | bl (b : Bool)
  | int (i : Int)
  | str (s : Str)
  | lst (l : List G)
  | tup (l : List G)
  | dct
mutual
/-- the value is such a thing; its lists stand apart from p -/
inductive Tg (p : Addr) (H : Hp) : V → G → Prop
  | non : Tg p H .non .non
  | bl (b : Bool) : Tg p H (.bl b) (.bl b)
  | int (i : Int) : Tg p H (.int i) (.int i)
  | str (s : Str) : Tg p H (.str s) (.str s)
  | lst {a : Addr} {vs : List V} {ds : List G} (n : a ≠ p) (e : H a = some (.lst vs)) (t : TgL p H vs ds) : Tg p H (.ref a) (.lst ds)
  | tup {a : Addr} {vs : List V} {ds : List G} (e : T2 H a vs) (t : TgL p H vs ds) : Tg p H (.ref a) (.tup ds)
  | dct {a : Addr} (e : H a = some (.dK [])) : Tg p H (.ref a) .dct
inductive TgL (p : Addr) (H : Hp) : List V → List G → Prop
  | nil : TgL p H [] []
  | cons {v : V} {vs : List V} {d : G} {ds : List G} (h : Tg p H v d) (t : TgL p H vs ds) : TgL p H (v :: vs) (d :: ds)
end
/-- what keeps such things -/
structure Keeps (p : Addr) (H H' : Hp) : Prop where
  ls : ∀ a vs, a ≠ p → H a = some (.lst vs) → H' a = some (.lst vs)
  tw : ∀ a vs, T2 H a vs → T2 H' a vs
  dk : ∀ a kvs, H a = some (.dK kvs) → H' a = some (.dK kvs)
theorem Keeps.of {p : Addr} {H H' : Hp} (k : Kept p H H') (hp : PoolAt H p) : Keeps p H H' := by
  refine ⟨fun a vs n z => k _ _ z n, fun a vs h => K2.of k hp _ _ h, fun a kvs z => ?_⟩
  obtain ⟨o, e, g, m, rfl, _⟩ := hp
  exact k _ _ z (ne_of z e (by intro y; cases y))
theorem Keeps.same {p : Addr} {H H' : Hp} (s : Same H H') : Keeps p H H' := ⟨fun a vs n z => s _ _ z, fun a vs h => h.same s, fun a kvs z => s _ _ z⟩
mutual
theorem Tg.keep {p : Addr} {H H' : Hp} (k : Keeps p H H') : ∀ {v : V} {g : G}, Tg p H v g → Tg p H' v g
  | _, _, .non => .non
  | _, _, .bl b => .bl b
  | _, _, .int i => .int i
  | _, _, .str s => .str s
  | _, _, .lst n e t => .lst n (k.ls _ _ n e) (TgL.keep k t)
  | _, _, .tup e t => .tup (k.tw _ _ e) (TgL.keep k t)
  | _, _, .dct e => .dct (k.dk _ _ e)
theorem TgL.keep {p : Addr} {H H' : Hp} (k : Keeps p H H') : ∀ {vs : List V} {gs : List G}, TgL p H vs gs → TgL p H' vs gs
  | _, _, .nil => .nil
  | _, _, .cons h t => .cons (Tg.keep k h) (TgL.keep k t)
end
theorem TgL.len {p : Addr} {H : Hp} : ∀ {vs : List V} {gs : List G}, TgL p H vs gs → vs.length = gs.length
  | _, _, .nil => rfl
  | _, _, .cons _ t => by
    rw [List.length_cons, List.length_cons, TgL.len t]
theorem TgL.get {p : Addr} {H : Hp} : ∀ {vs : List V} {gs : List G}, TgL p H vs gs → ∀ {i : Nat} {v : V}, vs[i]? = some v → ∃ g, gs[i]? = some g ∧ Tg p H v g
  | _, _, .nil, i, v, e => by simp at e
  | _, _, .cons h t, 0, v, e => by
    obtain rfl := (by simpa using e : _ = v)
    exact ⟨_, rfl, h⟩
  | _, _, .cons h t, i + 1, v, e => TgL.get t (i := i) (by simpa using e)
theorem TgL.ints {p : Addr} {H : Hp} : ∀ ns : List Int, TgL p H (ns.map V.int) (ns.map G.int)
  | [] => .nil
  | n :: ns => .cons (.int n) (TgL.ints ns)
theorem TgL.app {p : Addr} {H : Hp} : ∀ {vs ws : List V} {gs hs : List G}, TgL p H vs gs → TgL p H ws hs → TgL p H (vs ++ ws) (gs ++ hs)
  | _, _, _, _, .nil, h => h
  | _, _, _, _, .cons x t, h => .cons x (TgL.app t h)
/-! kinds -/
def tyG : G → String
  | .non => "NoneType"
  | .bl _ => "bool"
  | .int _ => "int"
  | .str _ => "str"
  | .lst _ => "list"
  | .tup _ => "tuple"
  | .dct => "dict"
theorem Tg.ty {K : PySem.W.Frag} {p : Addr} {H : Hp} {v : V} {g : G} (h : Tg p H v g) : TyX K H v (.type (tyG g)) := by
  cases h with
  | non => exact .base .non
  | bl b => exact .base (.bl b)
  | int i => exact .base (.int i)
  | str s => exact .base (.str s)
  | lst n e t => exact .base (.lst e)
  | tup e t => exact e.ty
  | dct e => exact .base (.dK e)
def isInt : G → Bool
  | .non => false
  | .bl _ => true
  | .int _ => true
  | .str _ => false
  | .lst _ => false
  | .tup _ => false
  | .dct => false
theorem kit_int {K : PySem.W.Frag} (g : G) : PySem.W.kitOne K (.type (tyG g)) (.type "int") = some (isInt g) := by
  refine kit_ty ?_
  cases g
  · exact (by decide +kernel : kitB "NoneType" "int" = some false)
  · exact (by decide +kernel : kitB "bool" "int" = some true)
  · exact (by decide +kernel : kitB "int" "int" = some true)
  · exact (by decide +kernel : kitB "str" "int" = some false)
  · exact (by decide +kernel : kitB "list" "int" = some false)
  · exact (by decide +kernel : kitB "tuple" "int" = some false)
  · exact (by decide +kernel : kitB "dict" "int" = some false)
def isBool : G → Bool
  | .non => false
  | .bl _ => true
  | .int _ => false
  | .str _ => false
  | .lst _ => false
  | .tup _ => false
  | .dct => false
theorem kit_bool {K : PySem.W.Frag} (g : G) : PySem.W.kitOne K (.type (tyG g)) (.type "bool") = some (isBool g) := by
  refine kit_ty ?_
  cases g
  · exact (by decide +kernel : kitB "NoneType" "bool" = some false)
  · exact (by decide +kernel : kitB "bool" "bool" = some true)
  · exact (by decide +kernel : kitB "int" "bool" = some false)
  · exact (by decide +kernel : kitB "str" "bool" = some false)
  · exact (by decide +kernel : kitB "list" "bool" = some false)
  · exact (by decide +kernel : kitB "tuple" "bool" = some false)
  · exact (by decide +kernel : kitB "dict" "bool" = some false)
def isStr : G → Bool
  | .non => false
  | .bl _ => false
  | .int _ => false
  | .str _ => true
  | .lst _ => false
  | .tup _ => false
  | .dct => false
theorem kit_str {K : PySem.W.Frag} (g : G) : PySem.W.kitOne K (.type (tyG g)) (.type "str") = some (isStr g) := by
  refine kit_ty ?_
  cases g
  · exact (by decide +kernel : kitB "NoneType" "str" = some false)
  · exact (by decide +kernel : kitB "bool" "str" = some false)
  · exact (by decide +kernel : kitB "int" "str" = some false)
  · exact (by decide +kernel : kitB "str" "str" = some true)
  · exact (by decide +kernel : kitB "list" "str" = some false)
  · exact (by decide +kernel : kitB "tuple" "str" = some false)
  · exact (by decide +kernel : kitB "dict" "str" = some false)
def isTuple : G → Bool
  | .non => false
  | .bl _ => false
  | .int _ => false
  | .str _ => false
  | .lst _ => false
  | .tup _ => true
  | .dct => false
theorem kit_tuple {K : PySem.W.Frag} (g : G) : PySem.W.kitOne K (.type (tyG g)) (.type "tuple") = some (isTuple g) := by
  refine kit_ty ?_
  cases g
  · exact (by decide +kernel : kitB "NoneType" "tuple" = some false)
  · exact (by decide +kernel : kitB "bool" "tuple" = some false)
  · exact (by decide +kernel : kitB "int" "tuple" = some false)
  · exact (by decide +kernel : kitB "str" "tuple" = some false)
  · exact (by decide +kernel : kitB "list" "tuple" = some false)
  · exact (by decide +kernel : kitB "tuple" "tuple" = some true)
  · exact (by decide +kernel : kitB "dict" "tuple" = some false)
def isList : G → Bool
  | .non => false
  | .bl _ => false
  | .int _ => false
  | .str _ => false
  | .lst _ => true
  | .tup _ => false
  | .dct => false
theorem kit_list {K : PySem.W.Frag} (g : G) : PySem.W.kitOne K (.type (tyG g)) (.type "list") = some (isList g) := by
  refine kit_ty ?_
  cases g
  · exact (by decide +kernel : kitB "NoneType" "list" = some false)
  · exact (by decide +kernel : kitB "bool" "list" = some false)
  · exact (by decide +kernel : kitB "int" "list" = some false)
  · exact (by decide +kernel : kitB "str" "list" = some false)
  · exact (by decide +kernel : kitB "list" "list" = some true)
  · exact (by decide +kernel : kitB "tuple" "list" = some false)
  · exact (by decide +kernel : kitB "dict" "list" = some false)
end Su
/-! ### GB: such things as data -/
namespace Su
open PySem PySem.Spec PyProof.Rows L2
mutual
def toD : G → PyData
  | .non => .none
  | .bl b => .bool b
  | .int i => .int i
  | .str s => .str s
  | .lst l => .list (toDs l)
  | .tup l => .tuple (toDs l)
  | .dct => .dict []
def toDs : List G → List PyData
  | [] => []
  | g :: gs => toD g :: toDs gs
end
mutual
def okD : G → Bool
  | .dct => false
  | .lst l => okDs l
  | .tup l => okDs l
  | _ => true
def okDs : List G → Bool
  | [] => true
  | g :: gs => okD g && okDs gs
end
mutual
theorem Tg.dp {K : PySem.W.Frag} {p : Addr} {H : Hp} : ∀ {v : V} {g : G}, Tg p H v g → okD g = true → Dp K H v (toD g)
  | _, _, .non, _ => .non
  | _, _, .bl b, _ => .bl b
  | _, _, .int i, _ => .int i
  | _, _, .str s, _ => .str s
  | _, _, .lst n e t, h => .lst (SqL.of e) (TgL.dp t (by simpa only [okD] using h))
  | _, _, .tup e t, h => .tup e.sq (TgL.dp t (by simpa only [okD] using h))
  | _, _, .dct _, h => by simp [okD] at h
theorem TgL.dp {K : PySem.W.Frag} {p : Addr} {H : Hp} : ∀ {vs : List V} {gs : List G}, TgL p H vs gs → okDs gs = true → DpAll K H vs (toDs gs)
  | _, _, .nil, _ => .nil
  | _, _, .cons x t, h => by
    simp only [okDs, Bool.and_eq_true] at h
    exact .cons (Tg.dp x h.1) (TgL.dp t h.2)
end
theorem toDs_map : ∀ gs : List G, toDs gs = gs.map toD
  | [] => rfl
  | g :: gs => by
    show toD g :: toDs gs = toD g :: gs.map toD
    rw [toDs_map gs]
theorem okDs_all : ∀ gs : List G, okDs gs = gs.all okD
  | [] => rfl
  | g :: gs => by
    show (okD g && okDs gs) = (okD g && gs.all okD)
    rw [okDs_all gs]
theorem eqv_nilD (ds : List PyData) : PyData.eqv (.list ds) (.list []) = ds.isEmpty := by
  cases ds with
  | nil => rfl
  | cons x l => rfl
/-- a thing that may stand in a tuple -/
structure OkE (g : G) : Prop where
  ok : okD g = true
  cl : (toD g).canLay0 = true
  dp : (toD g).depth ≤ 4
theorem lay_all : ∀ {gs : List G}, (∀ g ∈ gs, OkE g) → PyData.canLayAll0 (toDs gs) = true ∧ PyData.depthAll (toDs gs) ≤ 4
  | [], _ => ⟨by simp [toDs, PyData.canLayAll0], by simp [toDs, PyData.depthAll]⟩
  | g :: gs, h => by
    obtain ⟨a, b⟩ := lay_all fun x hx => h x (List.mem_cons_of_mem _ hx)
    have c := h g List.mem_cons_self
    refine ⟨?_, ?_⟩
    · simp only [toDs, PyData.canLayAll0, c.cl, a, Bool.and_self]
    · simp only [toDs, PyData.depthAll]
      have := c.dp
      omega
/-- a list of such things beside [] -/
theorem OkE.list {gs : List G} (h : ∀ g ∈ gs, OkE g) : okDs gs = true ∧ SeqAt.shaped (.list (toDs gs)) = true := by
  obtain ⟨a, b⟩ := lay_all h
  refine ⟨?_, ?_⟩
  · rw [okDs_all, List.all_eq_true]
    exact fun g hg => (h g hg).ok
  · unfold SeqAt.shaped
    rw [Bool.and_eq_true, decide_eq_true_eq]
    refine ⟨by simp only [PyData.canLay0, a], ?_⟩
    simp only [PyData.depth]
    omega
theorem shaped_nil : SeqAt.shaped (.list []) = true := by
  have f2 : Fine (.list []) 1 0 := Fine.list FineL.nil
  exact f2.shaped (by decide)
end Su
/-! ### GC: repr of such things -/
namespace Su
open PySem PySem.Spec PyProof.Rows L2
structure Fz (g : G) (n m : Nat) : Prop where
  sh : (toD g).showable = true
  dp : (toD g).depth ≤ n
  lv : (toD g).leavesShort 30 = true
  wt : (toD g).weight ≤ m
structure FzL (gs : List G) (n m : Nat) : Prop where
  sh : PyData.showableAll (toDs gs) = true
  dp : PyData.depthAll (toDs gs) ≤ n
  lv : PyData.leavesShortAll 30 (toDs gs) = true
  wt : PyData.weightAll (toDs gs) ≤ m
theorem Fz.up {g : G} {n m n' m' : Nat} (h : Fz g n m) (a : n ≤ n') (b : m ≤ m') : Fz g n' m' := ⟨h.sh, Nat.le_trans h.dp a, h.lv, Nat.le_trans h.wt b⟩
theorem FzL.up {g : List G} {n m n' m' : Nat} (h : FzL g n m) (a : n ≤ n') (b : m ≤ m') : FzL g n' m' := ⟨h.sh, Nat.le_trans h.dp a, h.lv, Nat.le_trans h.wt b⟩
theorem Fz.int {i : Int} (h1 : -1000000 ≤ i) (h2 : i ≤ 1000000) : Fz (.int i) 0 40 := by
  have hb : i.natAbs < 10 ^ 12 := by omega
  have hl : i.natAbs.log2 < 39 := by
    by_cases z : i.natAbs = 0
    · rw [z]
      decide
    · exact (Nat.log2_lt z).mpr (by omega)
  refine ⟨?_, by simp [toD, PyData.depth], ?_, ?_⟩
  · simp only [toD, PyData.showable, decide_eq_true_eq]
    omega
  · simp only [toD, PyData.leavesShort, decide_eq_true_eq]
    exact Nat.le_trans (PyData.shown_int_le hb) (by decide)
  · simp only [toD, PyData.weight]
    split <;> omega
theorem Fz.none : Fz .non 0 0 := ⟨by simp [toD, PyData.showable], by simp [toD, PyData.depth], by simp [toD, PyData.leavesShort], by simp [toD, PyData.weight]⟩
theorem Fz.bool (b : Bool) : Fz (.bl b) 0 0 := ⟨by simp [toD, PyData.showable], by simp [toD, PyData.depth], by simp [toD, PyData.leavesShort], by simp [toD, PyData.weight]⟩
theorem Fz.dct : Fz .dct 1 0 := ⟨by simp [toD, PyData.showable, PyData.showableKv], by simp [toD, PyData.depth, PyData.depthKv], by simp [toD, PyData.leavesShort, PyData.leavesShortKv], by simp [toD, PyData.weight, PyData.weightKv]⟩
theorem FzL.nil {n : Nat} : FzL [] n 0 := ⟨by simp [toDs, PyData.showableAll], by simp [toDs, PyData.depthAll], by simp [toDs, PyData.leavesShortAll], by simp [toDs, PyData.weightAll]⟩
theorem FzL.cons {g : G} {gs : List G} {n m k : Nat} (h : Fz g n m) (t : FzL gs n k) : FzL (g :: gs) n (m + 1 + k) := by
  refine ⟨?_, ?_, ?_, ?_⟩
  · simp only [toDs, PyData.showableAll, h.sh, t.sh, Bool.and_self]
  · simp only [toDs, PyData.depthAll]
    have := h.dp
    have := t.dp
    omega
  · simp only [toDs, PyData.leavesShortAll, h.lv, t.lv, Bool.and_self]
  · simp only [toDs, PyData.weightAll]
    have := h.wt
    have := t.wt
    omega
theorem Fz.tup {gs : List G} {n m : Nat} (t : FzL gs n m) : Fz (.tup gs) (n + 1) m :=
  ⟨by simpa only [toD, PyData.showable] using t.sh, by simp only [toD, PyData.depth]; have := t.dp; omega, by simpa only [toD, PyData.leavesShort] using t.lv, by simpa only [toD, PyData.weight] using t.wt⟩
theorem Fz.lst {gs : List G} {n m : Nat} (t : FzL gs n m) : Fz (.lst gs) (n + 1) m :=
  ⟨by simpa only [toD, PyData.showable] using t.sh, by simp only [toD, PyData.depth]; have := t.dp; omega, by simpa only [toD, PyData.leavesShort] using t.lv, by simpa only [toD, PyData.weight] using t.wt⟩
theorem FzL.all {n m : Nat} : ∀ {gs : List G}, (∀ g ∈ gs, Fz g n m) → FzL gs n ((m + 1) * gs.length)
  | [], _ => FzL.nil
  | g :: gs, h => by
    have a := FzL.cons (h g List.mem_cons_self) (FzL.all fun y hy => h y (List.mem_cons_of_mem _ hy))
    have e : m + 1 + (m + 1) * gs.length = (m + 1) * (g :: gs).length := by
      rw [List.length_cons, Nat.mul_add, Nat.mul_one, Nat.add_comm]
    rw [e] at a
    exact a
theorem Fz.len {g : G} {n m : Nat} (h : Fz g n m) (hm : m ≤ 500000) : (toD g).shown.length ≤ sizeLine := by
  have a := PyData.shown_le 30 (by decide) (toD g) h.lv
  have b := h.wt
  rw [sizeLine_eq]
  omega
mutual
theorem okD_nd : ∀ g : G, okD g = true → (toD g).hasDict = false
  | .non, _ => by simp [toD, PyData.hasDict]
  | .bl _, _ => by simp [toD, PyData.hasDict]
  | .int _, _ => by simp [toD, PyData.hasDict]
  | .str _, _ => by simp [toD, PyData.hasDict]
  | .lst l, h => by
    simp only [toD, PyData.hasDict]
    exact okDs_nd l (by simpa only [okD] using h)
  | .tup l, h => by
    simp only [toD, PyData.hasDict]
    exact okDs_nd l (by simpa only [okD] using h)
  | .dct, h => by simp [okD] at h
theorem okDs_nd : ∀ gs : List G, okDs gs = true → PyData.hasDictAll (toDs gs) = false
  | [], _ => by simp [toDs, PyData.hasDictAll]
  | g :: gs, h => by
    simp only [okDs, Bool.and_eq_true] at h
    simp only [toDs, PyData.hasDictAll, okD_nd g h.1, okDs_nd gs h.2, Bool.or_self]
end
/-- a thing without a dict, or an empty dict -/
def Flat (g : G) : Prop := okD g = true ∨ g = .dct
section
variable {X : Cx} {pins : List (Addr × Obj)} {σ : L2.St} {H : Hp} {s : Shared} {p : Addr}
theorem flat_reads (I : Inv X pins σ H s) {v : V} {g : G} {u : Value} (h : Tg p H v g) (r : RelV v u) (fl : Flat g) : ∃ as, Reads s.heap u (toD g) as ∧ ((toD g).hasDict = true → sysModules ∉ as) := by
  rcases fl with ok | rfl
  · obtain ⟨as, rd⟩ := Dp.reads I (toD g) v u (h.dp ok) r
    exact ⟨as, rd, PyData.noDict_hsm (okD_nd g ok)⟩
  · cases h with
    | @dct a e =>
      cases r
      obtain ⟨_, lo, vs, kv, o, es, ep, ho, hx, hd, _, pr, _⟩ := dk_of I.hok e
      cases kv
      have ee : es.toList = [] := by
        cases hz : es.toList with
        | nil => rfl
        | cons x l =>
          rw [hz] at pr
          cases pr
      refine ⟨_, Reads.dict (kvs := []) ho hx.1 hd (by rw [ee]; exact .nil) (by rw [ee]; exact .nil), fun _ hm => ?_⟩
      rcases List.mem_append.mp hm with z | z
      · rcases List.mem_cons.mp z with y | y
        · rw [← y] at lo
          simp at lo
        · cases y
      · cases z
theorem rows_reads (I : Inv X pins σ H s) : ∀ {vs : List V} {gs : List G} {us : List Value}, TgL p H vs gs → Vals vs us → (∀ g ∈ gs, Flat g) → PyData.showableAll (toDs gs) = true → (∀ t ∈ PyData.shownAll (toDs gs), t.length ≤ sizeLine) →
    (∃ as, ReadsAll s.heap us (toDs gs) as) ∧ ∃ bs, ReadAtMost s.heap (PyData.depthAll (toDs gs)) bs ∧ ReprAllK X.prog X.w bs s.heap (PyData.depthAll (toDs gs)) us (PyData.shownAll (toDs gs))
  | _, _, _, .nil, r, _, _, _ => by
    cases r
    exact ⟨⟨_, .nil⟩, [], (fun _ h => nomatch h), by simp only [toDs, PyData.shownAll]; exact .nil⟩
  | _, _, _, .cons (d := d) (ds := ds) h t, r, fl, sh, hz => by
    cases r with
    | cons r1 r2 =>
      have sh' : (toD d).showable = true ∧ PyData.showableAll (toDs ds) = true := by simpa [toDs, PyData.showableAll] using sh
      obtain ⟨as, rd, hsm⟩ := flat_reads I h r1 (fl d List.mem_cons_self)
      obtain ⟨b1, hb1, k1⟩ := ReprK.of_reads (prog := X.prog) (w := X.w) rd sh'.1 hsm (hz _ (by simp only [toDs, PyData.shownAll]; exact List.mem_cons_self ..))
      obtain ⟨⟨as2, rd2⟩, b2, hb2, k2⟩ := rows_reads I t r2 (fun g hg => fl g (List.mem_cons_of_mem _ hg)) sh'.2 (fun t ht => hz t (by simp only [toDs, PyData.shownAll]; exact List.mem_cons_of_mem _ ht))
      refine ⟨⟨_, .cons rd rd2⟩, b1 ++ b2, ?_, ?_⟩
      · intro b hm
        simp only [toDs, PyData.depthAll]
        rcases List.mem_append.mp hm with hm | hm
        · obtain ⟨d', as', r', hd'⟩ := hb1 b hm
          exact ⟨d', as', r', Nat.le_trans hd' (Nat.le_max_left _ _)⟩
        · obtain ⟨d', as', r', hd'⟩ := hb2 b hm
          exact ⟨d', as', r', Nat.le_trans hd' (Nat.le_max_right _ _)⟩
      · simp only [toDs, PyData.depthAll, PyData.shownAll]
        exact .cons ((k1.more fun b hb => List.mem_append_left _ hb).level_le (Nat.le_max_left _ _)) (k2.more_le (fun b hb => List.mem_append_right _ hb) (Nat.le_max_right _ _))
end
/-- what may be shown: flat, or a list of flat things -/
structure Shw (g : G) : Prop where
  fz : Fz g 8 500000
  fl : Flat g ∨ ∃ gs, g = .lst gs ∧ ∀ x ∈ gs, Flat x
section
variable {X : Cx}
def rReprG : List V → Hp → VK → Prop := fun xs H Q => ∃ (p : Addr) (v : V) (g : G), xs = [v] ∧ Tg p H v g ∧ Shw g ∧ Q (.str (toD g).shown) H
theorem call_reprG (hg : X.A.guards = some []) (hu : X.A.units + 64 < cLine) : CallR X (.builtin "repr") rReprG := by
  intro pins s σ H xs us Q I r h
  obtain ⟨p, v, g, rfl, ht, sw, q⟩ := h
  obtain ⟨u, rfl, ru⟩ := vals1 r
  have hz := sw.fz.len (Nat.le_refl _)
  have hdp := sw.fz.dp
  have ht0 := ht
  rcases sw.fl with fl | ⟨gs, rfl, fl⟩
  · cases ht with
    | non =>
      cases ru
      simp only [toD, PyData.shown] at q
      exact PySem.P.repr_of_none ⟨.str _, H, I.tok _, ⟨_, rfl⟩, q⟩
    | bl b =>
      cases ru
      simp only [toD, PyData.shown] at q
      exact PySem.P.repr_of_bool ⟨.str _, H, I.tok _, ⟨_, rfl⟩, q⟩
    | int i =>
      obtain ⟨t, rfl⟩ := ru
      simp only [toD, PyData.shown] at q
      have z := sw.fz.sh
      simp only [toD, PyData.showable, decide_eq_true_eq] at z
      exact PySem.P.repr_of_int z ⟨.str _, H, I.tok _, ⟨_, rfl⟩, q⟩
    | str x =>
      obtain ⟨t, rfl⟩ := ru
      simp only [toD, PyData.shown] at q hz
      exact PySem.P.repr_of_str ⟨.str _, H, I.tok _, ⟨_, rfl⟩, q⟩ hz
    | @lst a vs ds n e t =>
      cases ru
      obtain ⟨as, rd, hsm⟩ := flat_reads I ht0 rfl fl
      exact repr_of_reads' rd sw.fz.sh hsm hg (by omega) (fun _ _ z => z) (fun h' u tk hk => ⟨.str _, H, I.kept hk, ⟨u, rfl⟩, q⟩) hz
    | @tup a vs ds e t =>
      cases ru
      obtain ⟨as, rd, hsm⟩ := flat_reads I ht0 rfl fl
      exact repr_of_reads' rd sw.fz.sh hsm hg (by omega) (fun _ _ z => z) (fun h' u tk hk => ⟨.str _, H, I.kept hk, ⟨u, rfl⟩, q⟩) hz
    | @dct a e =>
      cases ru
      obtain ⟨as, rd, hsm⟩ := flat_reads I ht0 rfl fl
      exact repr_of_reads' rd sw.fz.sh hsm hg (by omega) (fun _ _ z => z) (fun h' u tk hk => ⟨.str _, H, I.kept hk, ⟨u, rfl⟩, q⟩) hz
  · cases ht with
    | @lst a vs _ n e t =>
      cases ru
      obtain ⟨its, rv, ⟨o, na, ho, hc, _, hd⟩, _⟩ := I.list (SqL.of e)
      have hz' : (listText (PyData.shownAll (toDs gs))).length ≤ sizeLine := by simpa only [toD, PyData.shown] using hz
      have sh' : PyData.showableAll (toDs gs) = true := by simpa only [toD, PyData.showable] using sw.fz.sh
      obtain ⟨⟨as, rda⟩, bs, hb, hk⟩ := rows_reads I t rv fl sh' (fun t ht => Nat.le_trans (listText_mem_le ht) hz')
      have rd : Reads s.heap (.ref a) (.list (toDs gs)) (a :: as) := Reads.list ho hc hd (by simpa using rda)
      have hna : a ∉ bs := not_mem_of_deeper rd (by simp only [PyData.depth]; omega) hb
      have q2 : Q (.str (listText (PyData.shownAll (toDs gs)))) H := by simpa only [toD, PyData.shown] using q
      simp only [toD, PyData.depth] at hdp
      refine call_repr_slot (by omega) ⟨o, ho, hc⟩ F.slot_list_repr.toG ?_
      cases its with
      | nil =>
        have e0 : toDs gs = [] := by
          clear q q2 hz hz' hdp sw sh' hk hb hna rd ht0 fl
          generalize toDs gs = ds at rda ⊢
          cases rda
          rfl
        rw [e0] at q2
        simp only [PyData.shownAll, listText_nil] at q2
        exact call_list_repr_empty ⟨o, ho, hc⟩ ho hd ⟨_, _, rfl, .str _, H, I.kept fun _ _ e => e, ⟨_, rfl⟩, q2⟩
      | cons x l =>
        exact call_list_reprK ho hc hd hna (by simpa using hk.length_eq) (fun i y e => hk.item i y (by simpa using e)) hg (fun b _ => Clear.nil b) (by show X.A.units + 1 + (_ + 1) < cLine; omega) (fun _ _ z => z) (fun h' u tk hk => ⟨_, _, rfl, .str _, H, I.kept hk, ⟨u, rfl⟩, q2⟩) hz'
end
end Su
/-! ### SH: set(t), t a tuple of ints -/
namespace Su
open PySem PySem.Spec PyProof.Rows L2
section
variable {P : Program} {w : World} {A : Around} {E : Value → Shared → Prop} {s : Shared}
theorem set_of_tup {l : Addr} {its : Array Value} (ns : List Int) {Q : Value → Shared → Prop} (hh : A.handled = none) (hl : s.heap.IsTuple l its) (ia : IntsAre its.toList ns) (few : ns.length + 1 < scanBound)
    (q : ∀ (h' : Heap) (tk c : Nat), SetR w h' s.heap.objs.size (fun j => decide (j ∈ ns)) c → c ≤ ns.length → (∀ b o, s.heap.get? b = some o → h'.get? b = some o) → Q (.ref s.heap.objs.size) { s with heap := h', toks := tk }) :
    wpAny (model P w) A (call (.type "set") [.ref l]) Q E s := by
  have sz : its.size = ns.length := by
    have z := IntsAre.length ia
    rwa [Array.length_toList] at z
  obtain ⟨c0, tl0, m0⟩ := F.called_set.mro
  have m1 := F.called_set.made
  have m2 := F.called_set.sub
  have m3 := F.called_set.notType
  have m4 := F.called_set.canCreate
  have m5 := F.typeCall_set_1 (.ref l)
  refine wpAny_call (codeAny_of_tree ?_)
  show wpAny _ _ (callAny (.type "set") _) _ _ _
  refine wpAny_pure ⟨Code.quiet_builtin _ (by decide +kernel), codeAny_builtin F.entry_type_call ?_⟩
  rw [Around.under_plain (weight_type_call_type "set" [.ref l] []) rfl]
  repeat (any_goals (first | assumption | wp_step))
  refine codeAny_mono (code_set_led1 (.ref l) (E := E) (Q₁ := fun x t => x = .ref s.heap.objs.size ∧ t = { s with heap := s.heap.push (set0 w) }) ⟨rfl, rfl⟩) fun r t hr => ?_
  match r, hr with
  | .error e, hr => exact hr
  | .ok .next, hr => exact hr.elim
  | .ok .brk, hr => exact hr.elim
  | .ok .cont, hr => exact hr.elim
  | .ok (.ret x), hr =>
    obtain ⟨rfl, rfl⟩ := hr
    have at0 : (s.heap.push (set0 w)).get? s.heap.objs.size = some (set0 w) := Heap.get?_push_size _ rfl
    have ty0 : Shared.TypeIs { s with heap := s.heap.push (set0 w) } (.ref s.heap.objs.size) "set" := ⟨_, at0, rfl⟩
    have n1 := F.called_set.init.lookup
    have n2 := F.called_set.init.bind (.ref s.heap.objs.size)
    repeat (any_goals (first | assumption | wp_step))
    refine codeAny_mono (codeAny_call_builtin (R := wants (fun r t => r = .none ∧ ∃ h' tk c, t = { s with heap := h', toks := tk } ∧ SetR w h' s.heap.objs.size (fun j => decide (j ∈ ns)) c ∧ c ≤ ns.length ∧ ∀ b o, s.heap.get? b = some o → h'.get? b = some o) E)
      F.called_set.init.plain F.entry_set_init (check_set_init_1 ty0 ?_)) fun r2 t2 hr2 => ?_
    · obtain ⟨⟨oc, od, odt, os⟩, ho, hc, nl, hd⟩ := hl
      simp only at hc hd
      subst hc hd
      have lt : l < s.heap.objs.size := Heap.lt_size ho
      have ho1 : (s.heap.push (set0 w)).get? l = some { cls := .type "tuple", dict := od, data := .seq its nl, slots := os } := Heap.get?_push_of_some _ ho
      have isl : (s.heap.push (set0 w)).IsTuple l its := ⟨_, ho1, rfl, nl, rfl⟩
      have p1 := F.sub_tuple_set
      have p2 := F.sub_tuple_frozenset
      have p3 : (Value.type "tuple" == Value.type "dict") = false := by decide
      unfold Builtin.«set.__init__» noKeywords Builtin.Frozenset.updateFrom
      generalize hPI : pyIter = PI
      wp_walk
      subst hPI
      refine wpAny_pyIter_tuple isl (wpAny_bind (wpAny_runValue ?_))
      have size1 : (s.heap.push (set0 w)).objs.size = s.heap.objs.size + 1 := Heap.size_push ..
      have ap : l ≠ (s.heap.push (set0 w)).objs.size := by
        rw [size1]
        exact Nat.ne_of_lt (Nat.lt_succ_of_lt lt)
      have ap2 : s.heap.objs.size ∉ [(s.heap.push (set0 w)).objs.size, l] := by
        rw [size1]
        simp only [List.mem_cons, List.not_mem_nil, or_false, not_or]
        exact ⟨Nat.ne_of_lt (Nat.lt_succ_self _), Nat.ne_of_gt lt⟩
      refine set_update_ints ((Walks.tuple (by simp [hh]) _ l ap its).toS) s.heap.objs.size ap2 ns sz few (fun i v hv => ?_) (its.size - 0) 0 _ (by omega) (Nat.zero_le _) ⟨⟨_, Heap.get?_push_size _ rfl, rfl, rfl⟩, (isl.extBut (b := (s.heap.push (set0 w)).objs.size) (fun b o hb e => Heap.get?_push_of_some _ e) ap)⟩ ⟨0, Nat.le_refl 0, setR_new_at (Heap.get?_push_of_some _ at0)⟩ fun t3 c3 mv hc3 hS3 => ?_
      · have hi : i < ns.length := by
          rw [← sz]
          exact (Array.getElem?_eq_some_iff.mp hv).1
        obtain ⟨tk, e⟩ := PyProof.Rows.IntsAre.int_at ia i v (by rw [Array.getElem?_toList]; exact hv)
        refine ⟨ns[i], tk, List.getElem?_eq_getElem hi, ?_⟩
        rw [e, List.getD_eq_getElem?_getD, List.getElem?_eq_getElem hi] <;> rfl
      · obtain ⟨h3, g3, d3, tk3, os3⟩ := t3
        obtain rfl : g3 = s.gens := mv.gens
        obtain rfl : d3 = s.drawn := mv.drawn
        obtain rfl : os3 = s.os := mv.os
        show wpAny _ _ _ _ _ _
        refine wpAny_pure ?_
        show wpAny _ _ (ret Value.none) _ _ _
        refine wpAny_pure ⟨rfl, h3, tk3, c3, rfl, hS3, by omega, fun b o e => ?_⟩
        have bl : b < s.heap.objs.size := Heap.lt_size e
        refine mv.heap b o ?_ (Heap.get?_push_of_some _ (Heap.get?_push_of_some _ e))
        rw [size1]
        simp only [List.mem_cons, List.not_mem_nil, or_false, not_or]
        exact ⟨Nat.ne_of_lt bl, Nat.ne_of_lt (Nat.lt_succ_of_lt bl)⟩
    · match r2, hr2 with
      | .error e, hr2 => exact hr2
      | .ok .next, hr2 => exact hr2.elim
      | .ok .brk, hr2 => exact hr2.elim
      | .ok .cont, hr2 => exact hr2.elim
      | .ok (.ret y), hr2 =>
        obtain ⟨rfl, h', tk, c, rfl, hS, hc, hk⟩ := hr2
        repeat (any_goals (first | assumption | wp_step))
        exact q _ _ _ hS hc hk
end
section
variable {X : Cx}
def rSetT (w : World) (K : PySem.W.Frag) : List V → Hp → VK → Prop := fun xs H Q => ∃ (l : Addr) (ns : List Int), xs = [.ref l] ∧ SqT K H l (ns.map V.int) ∧ ns.length ≤ 4000 ∧ ∀ (p : Addr) (H' : Hp), Same H H' → H p = none → SetIs w H' p ns → Q (.ref p) H'
theorem cr_setT (hc : X.calm = true) : CallR X (.type "set") (rSetT X.w X.K) := by
  intro pins s σ H xs us Q I r h
  obtain ⟨l, ns, rfl, hq, hl, q⟩ := h
  rw [Vals.ref1 r]
  obtain ⟨its, rv, pl, hz⟩ := I.tuple hq
  refine set_of_tup ns (I.ok.hd hc) pl (by simpa using ints_of rv) (by unfold scanBound; omega) fun h' tk c hR hc' hk => ?_
  have new : H s.heap.objs.size = none := I.hok.fresh (Nat.le_refl _)
  exact ⟨.ref s.heap.objs.size, _, I.laid (t' := tk) hk (Nat.le_refl _) (setO_new hR), rfl, q _ _ (same_upd new) new (SetIs.of hR upd_same fun k => decide_eq_true_iff)⟩
end
end Su
/-! ### SK: a tuple so many times -/
namespace Su
open PySem PySem.Spec PyProof.Rows L2
section
variable {X : Cx}
def rRepA : R2 := fun x y H Q => ∃ (a : Addr) (k : Int) (xs : List V), x = .ref a ∧ y = .int k ∧ T2 H a xs ∧ xs ≠ [] ∧ 0 ≤ k ∧ k ≤ 1000 ∧ xs.length ≤ 1000 ∧ ∀ v H', Same H H' → T2 H' v (List.replicate k.toNat xs).flatten → Q (.ref v) H'
theorem op_repA : OpR X (binaryOp .Mult) rRepA := by
  intro pins s σ H x y v u Q I rx ry h
  obtain ⟨a, k, xs, rfl, rfl, ha, ne, k0, k1, hl, q⟩ := h
  by_cases h2 : 2 ≤ k
  · exact op_repT pins s σ H _ _ v u Q I rx ry ⟨a, k, xs, rfl, rfl, ha.sq, ne, h2, k1, hl, fun p np => q p _ (same_upd np) (.inr upd_same)⟩
  · refine op_mul01 pins s σ H _ _ v u Q I rx ry ⟨a, k, xs, rfl, rfl, ha, ne, by omega, fun v H' s' ht => q v H' s' ?_⟩
    have e : k = 0 ∨ k = 1 := by omega
    rcases e with rfl | rfl
    · exact ht
    · rw [show (List.replicate (1 : Int).toNat xs).flatten = xs from by simp]
      exact ht
end
end Su
/-! ### SL: a tuple so many times, its methods may be called -/
namespace Su
open PySem PySem.Spec PyProof.Rows L2
section
variable {X : Cx}
def rRepF : R2 := fun x y H Q => ∃ (a : Addr) (k : Int) (xs : List V), x = .ref a ∧ y = .int k ∧ PTup H a xs ∧ xs ≠ [] ∧ 0 ≤ k ∧ k ≤ 1000 ∧ xs.length ≤ 1000 ∧ ∀ v H', Same H H' → PTup H' v (List.replicate k.toNat xs).flatten → Q (.ref v) H'
theorem rep_flat_len {α : Type} (l : List α) : ∀ n : Nat, (List.replicate n l).flatten.length = n * l.length
  | 0 => by simp
  | n + 1 => by
    rw [List.replicate_succ, List.flatten_cons, List.length_append, rep_flat_len l n, Nat.add_mul, Nat.one_mul, Nat.add_comm]
theorem op_repF : OpR X (binaryOp .Mult) rRepF := by
  intro pins s σ H x y v u Q I rx ry h
  obtain ⟨a, k, xs, rfl, rfl, ha, ne, k0, k1, hl, q⟩ := h
  cases rx
  obtain ⟨t, rfl⟩ := ry
  obtain ⟨its, r, ⟨⟨cls, dv, data, sl⟩, ho, hc, n, hd⟩, hs⟩ := I.tuple (ha.sq (K := X.K))
  simp only at hc hd
  subst hc hd
  have le : its.length = xs.length := r.length.symm
  have pos : 0 < its.length := by
    rw [le]
    exact List.length_pos_iff.mpr ne
  have full : its.toArray.isEmpty = false := by
    cases its with
    | nil => simp at pos
    | cons _ _ => rfl
  have prod : k.toNat * xs.length ≤ 1000 * 1000 := Nat.mul_le_mul (by omega) hl
  have ty := fun (s' : Shared) => typeIs_int s' k t
  by_cases h2 : 2 ≤ k
  · have sz : its.toArray.size = its.length := List.size_toArray ..
    have small : ((its.toArray.size : Nat) : Int) * k ≤ 1000000 := by
      rw [sz, le]
      have z : ((xs.length : Nat) : Int) * k ≤ 1000 * k := Int.mul_le_mul_of_nonneg_right (by omega) k0
      omega
    have g0 : (decide (k < -(2 ^ 63)) || decide (k ≥ 2 ^ 63)) = false := by
      rw [Bool.or_eq_false_iff]
      exact ⟨decide_eq_false (by omega), decide_eq_false (by omega)⟩
    have g1 : (its.toArray.isEmpty || k == 1) = false := by
      rw [full]
      simpa using (by omega : ¬ k = 1)
    have g2 : (decide (k ≤ 0) || its.toArray.isEmpty) = false := by
      rw [full, Bool.or_false]
      exact decide_eq_false (by omega)
    have g4 : Builtin.Tuple.tupleTooMany (((its.toArray.size : Nat) : Int) * k) = false := by
      unfold Builtin.Tuple.tupleTooMany
      exact decide_eq_false (by rw [sizeLine_eq]; omega)
    have fl : (List.replicate k.toNat its).flatten.length ≤ sizeLine := by
      rw [rep_flat_len, le, sizeLine_eq]
      omega
    have M := tuple_mulW a its.toArray n dv sl k t g0 g1 g2 (by omega) g4 (by rw [size_rep, List.size_toArray]; exact fl)
    refine wpAny_binaryOp_repeat_ref (T := "tuple") (U := "int") (by decide) ⟨_, ho, rfl⟩ ty noFill_tuple_mul F.fills_int_mul F.slot_int_rmul repeat_tuple F.slot_int_index.lookup (call_meets F.slot_int_rmul (ty s) F.entry_int_rmul (F.args_int_rmul_2 _ _) (int_rmul_tuple k t a its.toArray n dv sl) ⟨ho, rfl, ⟨_, ho, rfl⟩, call_meets F.slot_tuple_mul ⟨_, ho, rfl⟩ F.entry_tuple_mul (F.args_tuple_mul_2 _ _) M ⟨ho, ?_⟩⟩)
    rw [size_rep]
    exact newF I (r.rep k.toNat) (by rw [rep_flat_len, sizeLine_eq]; omega) (fun v H' s' _ h => q v H' s' h) s.toks
  · have e : k = 0 ∨ k = 1 := by omega
    rcases e with rfl | rfl
    · refine wpAny_binaryOp_repeat_ref (T := "tuple") (U := "int") (by decide) ⟨_, ho, rfl⟩ ty noFill_tuple_mul F.fills_int_mul F.slot_int_rmul repeat_tuple F.slot_int_index.lookup (call_meets F.slot_int_rmul (ty s) F.entry_int_rmul (F.args_int_rmul_2 _ _) (int_rmul_tuple 0 t a its.toArray n dv sl) ⟨ho, rfl, ⟨_, ho, rfl⟩, call_meets F.slot_tuple_mul ⟨_, ho, rfl⟩ F.entry_tuple_mul (F.args_tuple_mul_2 _ _) (tuple_mul0 a its.toArray n dv sl t full) ⟨ho, ?_⟩⟩)
      exact newF I .nil (Nat.zero_le _) (fun v H' s' _ h => q v H' s' h) s.toks
    · refine wpAny_binaryOp_repeat_ref (T := "tuple") (U := "int") (by decide) ⟨_, ho, rfl⟩ ty noFill_tuple_mul F.fills_int_mul F.slot_int_rmul repeat_tuple F.slot_int_index.lookup (call_meets F.slot_int_rmul (ty s) F.entry_int_rmul (F.args_int_rmul_2 _ _) (int_rmul_tuple 1 t a its.toArray n dv sl) ⟨ho, rfl, ⟨_, ho, rfl⟩, call_meets F.slot_tuple_mul ⟨_, ho, rfl⟩ F.entry_tuple_mul (F.args_tuple_mul_2 _ _) (tuple_mul1 a its.toArray n dv sl t) ⟨ho, ?_⟩⟩)
      refine ⟨.ref a, H, I, rfl, q a H (Same.refl H) ?_⟩
      rw [show (List.replicate (1 : Int).toNat xs).flatten = xs from by simp]
      exact ha
end
end Su
namespace Su
open PySem PySem.Spec PyProof.Rows L2
def topS (i : Nat) : Stmt := PySem.Challenge.pw_surehand_k03_shelves_made.main.body.getD i (.Pass ⟨0, 0, 0, 0⟩)
abbrev s_wall : Stmt := topS 0
abbrev sIsWhole : Stmt := topS 13
abbrev sIsRoom : Stmt := topS 14
abbrev sIsWay : Stmt := topS 15
abbrev sIsSize : Stmt := topS 16
abbrev sHowMany : Stmt := topS 17
abbrev sIsSlot : Stmt := topS 18
abbrev sIsBit : Stmt := topS 19
abbrev sAreSlots : Stmt := topS 20
abbrev sAreBits : Stmt := topS 21
abbrev s_wrong_part : Stmt := topS 23
def bodyOf (s : Stmt) : List Stmt := match s with
  | .ClassDef (body := b) .. => b
  | _ => []
def shB (i : Nat) : Stmt := (bodyOf (topS 24)).getD i (.Pass ⟨0, 0, 0, 0⟩)
abbrev sS_init : Stmt := shB 0
abbrev sS_ask : Stmt := shB 1
abbrev sS_size : Stmt := shB 2
abbrev sS_way : Stmt := shB 3
abbrev sS_lay : Stmt := shB 4
abbrev sS_holds : Stmt := shB 5
abbrev sS_counts : Stmt := shB 6
abbrev sS_twin : Stmt := shB 7
abbrev sS_eq : Stmt := shB 8
abbrev sS_len : Stmt := shB 9
abbrev sS_str : Stmt := shB 10
abbrev sS_repr : Stmt := shB 11
abbrev sPool : Stmt := topS 26
abbrev sTake : Stmt := topS 27
abbrev sWhole : Stmt := topS 28
abbrev sPicked : Stmt := topS 29
abbrev sPlaces : Stmt := topS 30
abbrev sSort : Stmt := topS 31
abbrev sBig : Stmt := topS 32
abbrev sCells : Stmt := topS 33
abbrev sMarks : Stmt := topS 34
abbrev s_law_part : Stmt := topS 35
abbrev s_law_refused : Stmt := topS 36
abbrev sBent : Stmt := topS 37
abbrev sLaw : Stmt := topS 38
abbrev s_law_pool : Stmt := sPool
abbrev s_law_take : Stmt := sTake
abbrev s_law_picked : Stmt := sPicked
end Su
namespace Su
open PySem PySem.Spec PyProof.Rows L2
theorem sc_law_take : FnScope ["_law_pool_here", "_law_many", "_law_found"] ["_law_pool_here", "_law_many"] (defScope s_law_take) := ⟨rfl, rfl, rfl, by decide +kernel, rfl, by decide +kernel, by decide +kernel⟩
theorem sc_law_pool : FnScope ["_law_script", "_law_k", "_law_cell", "_law_great", "_law_mixed"] ["_law_script", "_law_k"] (defScope s_law_pool) := ⟨rfl, rfl, rfl, by decide +kernel, rfl, by decide +kernel, by decide +kernel⟩
section
variable {P : Program} {w : World} {K : PySem.W.Frag} {mg : Str → Option Value} {base : Heap}
theorem ok_take (T : At K mg "_law_take" s_law_take ["_law_pool_here", "_law_many"]) : Cal P w K mg base 1 "_law_take" ["_law_pool_here", "_law_many"] spTake := by
  refine cal_of T sc_law_take (fun vs H Q E h => ?_) (fun f cdv A outer s H vs Q E hr h => ?_)
  · obtain ⟨p, many, rfl, _⟩ := h
    rfl
  · obtain ⟨p, many, rfl, ⟨o, hp, g, m, rfl, g0, m0, m1⟩, n1, n2, q⟩ := h
    refine ⟨_, (pss_cons (ps_if (pt_cmpR op_gt (pe_ix ix_list (pv 0) pe_int (fun _ _ => rfl)) pe_int (nomark _)) (pss_cons (ps_set (i := 2) sc_law_take.nd rfl (Or.inl rfl) (pe_op op_mod (pe_ix ix_list (pv 0) pe_int (fun _ _ => rfl)) (pv 1)))
      (pss_cons (ps_asg (pe_op op_fdiv (pe_ix ix_list (pv 0) pe_int (fun _ _ => rfl)) (pv 1)) (pg_sub (pv 0) pe_int set_list))
      (pss_one (ps_ret (pv 2))))) pss_nil)
      (pss_cons (ps_asg (pe_op op_mod (pe_op op_add (pe_op op_mul (pe_ix ix_list (pv 0) pe_int (fun _ _ => rfl)) pe_int) pe_int) pe_int) (pg_sub (pv 0) pe_int set_list))
      (pss_one (ps_ret (pe_op op_mod (pe_op op_fdiv (pe_op op_mod (pe_op op_mul (pe_ix ix_list (pv 0) pe_int (fun _ _ => rfl)) (pe_ix ix_list (pv 0) pe_int (fun _ _ => rfl))) pe_int) pe_int) (pv 1)))))), ?_⟩
    refine ⟨_, rfl, p, _, _, _, rfl, rfl, SqL.of hp, atI_nat (j := 0) rfl, _, _, rfl, rfl, _, rfl, ite2 (fun e => ?_) (fun e => ?_)⟩
    · refine ⟨_, rfl, p, _, _, _, rfl, rfl, SqL.of hp, atI_nat (j := 0) rfl, _, rfl, _, _, rfl, rfl, (by omega), ?_⟩
      refine ⟨_, rfl, p, _, _, _, rfl, rfl, SqL.of hp, atI_nat (j := 0) rfl, _, rfl, _, _, rfl, rfl, ⟨by omega, by omega⟩, ?_⟩
      refine ⟨_, rfl, p, _, _, 0, rfl, rfl, hp, rfl, ?_⟩
      refine ⟨_, rfl, q _ _ (Int.emod_nonneg _ (by omega)) (Int.emod_lt_of_pos _ (by omega)) ⟨_, _, rfl, Int.ediv_nonneg g0 (by omega), m0, m1⟩⟩
    · refine ⟨_, rfl, p, _, _, _, rfl, rfl, SqL.of hp, atI_nat (j := 1) rfl, _, _, rfl, rfl, .inl ⟨by omega, by omega⟩, _, _, rfl, rfl, _, _, rfl, rfl, (by show (0 : Int) < 2147483647; decide), ?_⟩
      refine ⟨_, rfl, p, _, _, 1, rfl, rfl, hp, rfl, ?_⟩
      have e0 : 0 ≤ (m * 48271 + 11) % 2147483647 := Int.emod_nonneg _ (by decide)
      have e1 : (m * 48271 + 11) % 2147483647 < 2147483647 := Int.emod_lt_of_pos _ (by decide)
      refine ⟨_, rfl, p, _, _, _, rfl, rfl, SqL.of upd_same, atI_nat (j := 1) rfl, _, rfl, p, _, _, _, rfl, rfl, SqL.of upd_same, atI_nat (j := 1) rfl, _, _, rfl, rfl, .inl ⟨by omega, by omega⟩, _, _, rfl, rfl, (by show (0 : Int) < 2147483629; decide), _, _, rfl, rfl, ⟨by decide, by decide⟩, _, rfl, _, _, rfl, rfl, (by omega), ?_⟩
      exact q _ _ (Int.emod_nonneg _ (by omega)) (Int.emod_lt_of_pos _ (by omega)) ⟨_, _, rfl, g0, e0, e1⟩
theorem ok_pool (T : At K mg "_law_pool" s_law_pool ["_law_script", "_law_k"]) (B : Bt mg) : Cal P w K mg base 1 "_law_pool" ["_law_script", "_law_k"] (spPool K) := by
  refine cal_of T sc_law_pool (fun vs H Q E h => ?_) (fun f cdv A outer s H vs Q E hr h => ?_)
  · obtain ⟨a, ns, k, rfl, _⟩ := h
    rfl
  · obtain ⟨a, ns, k, rfl, hS, k0, k1, q⟩ := h
    refine ⟨_, (pss_cons (ps_set (i := 2) sc_law_pool.nd rfl (Or.inl rfl) (pe_op op_add (pe_op op_mul pe_int (pe_callB (cr_sum rfl) (by rfl) B.sum (by decide +kernel) (pa_cons (pe_slice sl_list (pv 0) po_none (po_some pe_int)) pa_nil))) (pv 1)))
      (pss_cons (ps_if (pt_cmpR op_lt (pv 1) (pe_callB call_len_seq (by rfl) B.len PySem.boot_len (pa_cons (pv 0) pa_nil)) (nomark _)) (pss_one (ps_set (i := 2) sc_law_pool.nd rfl (Or.inl rfl) (pe_ix ix_list (pv 0) (pv 1) (fun _ _ => rfl)))) pss_nil)
      (pss_cons (ps_set (i := 3) sc_law_pool.nd rfl (Or.inl rfl) (pe_callB call_abs (by rfl) B.abs (by decide +kernel) (pa_cons (pv 2) pa_nil)))
      (pss_cons (ps_set (i := 4) sc_law_pool.nd rfl (Or.inl rfl) (pe_op op_mod (pe_op op_mul (pe_op op_add (pe_op op_add (pe_op op_add (pe_op op_mod (pv 3) pe_int) (pe_op op_mul (pe_op op_mul pe_int (pv 1)) (pv 1))) (pe_op op_mul pe_int (pv 1))) pe_int) pe_int) pe_int))
      (pss_one (ps_ret (pe_lst (pa_cons (pe_op op_mul (pv 3) (pe_callTy call_int1 (by rfl) B.int (by decide +kernel) (pa_cons (pe_cmpR op_ge (pv 3) (pe_op op_pow pe_int pe_int) (nomark _)) pa_nil))) (pa_cons (pe_op op_mod (pe_op op_mul (pv 4) (pv 4)) pe_int) pa_nil))))))))), ?_⟩
    obtain ⟨ms, ems⟩ := cutV_ints ns none (some 63)
    refine ⟨_, rfl, 63, rfl, a, _, rfl, hS, fun c nc => ?_⟩
    rw [ems]
    have s1 : Same H (upd H c (.lst (ms.map V.int))) := same_upd nc
    refine ⟨c, ms, rfl, SqL.of upd_same, _, _, rfl, rfl, .inl ⟨by decide, by decide⟩, _, rfl, _, _, rfl, rfl, ?_⟩
    refine ⟨_, rfl, _, rfl, a, _, rfl, .inl (s1.seq hS), _, _, rfl, rfl, _, rfl, ite2 (fun e => ?_) (fun e => ?_)⟩
    rw [decide_eq_true_eq, List.length_map] at e
    obtain ⟨z, g⟩ : ∃ z : Int, atI (ns.map V.int) k = some (V.int z) := by
      have hk : k.toNat < ns.length := by omega
      exact ⟨_, atI_int (v := V.int ns[k.toNat]) k0 (by rw [List.getElem?_map, List.getElem?_eq_getElem hk]; rfl)⟩
    refine ⟨_, rfl, _, rfl, a, _, k, .int z, rfl, rfl, s1.seq hS, g, ?_⟩
    all_goals
      refine ⟨_, rfl, _, rfl, ?_⟩
      refine ⟨_, rfl, _, _, rfl, rfl, (by show (0 : Int) < 2147483629; decide), _, rfl, _, _, rfl, rfl, .inl ⟨by decide, by decide⟩, _, rfl, _, _, rfl, rfl, .inr ⟨by omega, by omega⟩, _, _, rfl, rfl, _, rfl, _, _, rfl, rfl, .inl ⟨by decide, by decide⟩, _, _, rfl, rfl, _, _, rfl, rfl, _, _, rfl, rfl, .inr ⟨by decide, by decide⟩, _, _, rfl, rfl, (by show (0 : Int) < 2147483647; decide), ?_⟩
      refine ⟨_, rfl, _, rfl, _, _, rfl, rfl, ⟨by decide, by decide, by decide⟩, _, _, rfl, rfl, .inr ⟨_, rfl, _, _, rfl, rfl, .inr ?_, ?_⟩⟩
      · exact b01 _
      refine ⟨_, rfl, _, rfl, _, _, rfl, rfl, .inl ?_, _, _, rfl, rfl, (by show (0 : Int) < 2147483629; decide), (by show 2 ≤ sizeLine; decide), fun p np => ?_⟩
      · refine ⟨Int.lt_of_lt_of_le (by decide) (Int.emod_nonneg _ (by decide)), Int.lt_trans (Int.emod_lt_of_pos _ (by decide)) (by decide)⟩
      refine q p _ (s1.trans (same_upd np)) (s1.free np) ⟨_, upd_same, _, _, rfl, ?_, Int.emod_nonneg _ (by decide), Int.lt_trans (Int.emod_lt_of_pos _ (by decide)) (by decide)⟩
      refine Int.mul_nonneg ?_ ?_ <;> split <;> omega
end
theorem sc_law_picked : FnScope ["_law_pool_here", "_law_some", "_law_many", "_law_left", "_law_k"] ["_law_pool_here", "_law_some", "_law_many"] (defScope s_law_picked) := ⟨rfl, rfl, rfl, by decide +kernel, rfl, by decide +kernel, by decide +kernel⟩
section
variable {P : Program} {w : World} {K : PySem.W.Frag} {mg : Str → Option Value} {base : Heap}
theorem ok_picked (T : At K mg "_law_picked" s_law_picked ["_law_pool_here", "_law_some", "_law_many"]) (B : Bt mg) (c_take : Cal P w K mg base 1 "_law_take" ["_law_pool_here", "_law_many"] spTake) :
    Cal P w K mg base 2 "_law_picked" ["_law_pool_here", "_law_some", "_law_many"] (spPicked K) := by
  refine cal_of T sc_law_picked (fun vs H Q E h => ?_) (fun f cdv A outer s H vs Q E hr h => ?_)
  · obtain ⟨p, b, ns, many, rfl, _⟩ := h
    rfl
  · obtain ⟨p, b, ns, many, rfl, hp, hS, hbp, nd, hl, m0, q⟩ := h
    refine ⟨_, (pss_cons (ps_set (i := 3) sc_law_picked.nd rfl (Or.inr rfl) (pe_callTy call_list_of (by rfl) B.list (by decide +kernel) (pa_cons (pv 1) pa_nil)))
      (pss_one (ps_ret (pe_callB cr_sortedI (by rfl) B.sorted (by decide +kernel) (pa_cons (pe_lc (own := [("_law_k", 4)]) (g := (gName 4)) (tt := tYes) (te := (tBM K "list" rPopAt (tVar 3) (tCons (tCall spTake [] E0 (tCons (tVar 0) (tCons (tCB (rLenK K) (tCons (tVar 3) tNil)) tNil))) tNil))) (by rfl) sc_law_picked.nd (pi_range1 (by rfl) B.range (pa_cons (pe_callB (call_min2 rfl) (by rfl) B.min (by decide +kernel) (pa_cons (pv 2) (pa_cons (pe_callB call_len_seq (by rfl) B.len PySem.boot_len (pa_cons (pv 3) pa_nil)) pa_nil))) pa_nil)) (blkOk_by (own := [("_law_k", 4)]) (N := ["_law_pool_here", "_law_some", "_law_many", "_law_left", "_law_k"]) (sc := defScope s_law_picked) (by decide +kernel)) (fun _ _ _ _ _ => (pg_name (i := 4) sc_law_picked.nd rfl (Or.inl rfl))) (fun _ _ _ _ _ => pts_nil) (fun _ _ _ _ _ => (pe_bm PySem.F.plainAttrs_list PySem.F.slot_list_pop PySem.F.type_list_pop mt_popAt (pv 3) (pa_cons (pe_own c_take hr (by decide) (by rfl) (pa_cons (pv 0) (pa_cons (pe_callB call_len_seq (by rfl) B.len PySem.boot_len (pa_cons (pv 3) pa_nil)) pa_nil))) pa_nil)))) pa_nil))))), ?_⟩
    refine ⟨_, rfl, b, _, rfl, .inl hS, fun l nl => ?_⟩
    have elp : l ≠ p := pool_ne hp nl
    have hl0 : (if ((ns.map V.int).length : Int) < many then ((ns.map V.int).length : Int) else many) = ((min many.toNat ns.length : Nat) : Int) := by
      rw [List.length_map]
      split <;> omega
    refine ⟨_, rfl, _, rfl, l, _, rfl, .inl (SqL.of upd_same), _, _, rfl, _, rfl, (by omega), (by omega), fun D nD => ?_⟩
    rw [hl0]
    refine lc_range (lo := 0) (n := min many.toNat ns.length) (fun i H2 => ∃ lf acc : List Int, H2 l = some (.lst (lf.map V.int)) ∧ H2 D = some (.lst (acc.map V.int)) ∧ acc.length = i ∧ (acc ++ lf).Perm ns ∧ PoolAt H2 p ∧ Kept p H H2) ?_ ?_ ?_
    · obtain ⟨eDl, nD0⟩ := free_upd nD
      refine ⟨ns, [], (by rw [upd_ne eDl.symm, upd_same]), upd_same, rfl, List.Perm.refl _, (hp.upd elp.symm).upd (pool_ne hp nD0).symm, ((Kept.refl p H).set nl).set nD0⟩
    · rintro i H2 hi ⟨lf, acc, h1, h2, hlen, hpm, hpo, hk⟩
      obtain ⟨eDl, nD0⟩ := free_upd nD
      have eDp : D ≠ p := pool_ne hp nD0
      have hll : acc.length + lf.length = ns.length := by
        have := hpm.length_eq
        rw [List.length_append] at this
        exact this
      refine ⟨rfl, tyes ?_⟩
      refine ⟨_, rfl, .inl ⟨rfl, _, SqL.of h1⟩, _, rfl, _, rfl, l, _, rfl, .inl (SqL.of h1), p, _, rfl, hpo, ?_, ?_, fun r o r0 r1 po => ?_⟩
      · rw [List.length_map]
        omega
      · rw [List.length_map]
        omega
      · rw [List.length_map] at r1
        have hr1 : r.toNat < lf.length := by omega
        refine ⟨l, lf.map V.int, r, r.toNat, V.int lf[r.toNat], rfl, rfl, (by rw [upd_ne elp]; exact h1), by omega, by omega, seqIx r0 (by rw [List.length_map]; exact r1), (by rw [List.getElem?_map, List.getElem?_eq_getElem hr1]; rfl), ?_⟩
        have hg : lf[r.toNat]? = some lf[r.toNat] := List.getElem?_eq_getElem hr1
        generalize lf[r.toNat] = y at *
        refine ⟨acc.map V.int, (by rw [upd_ne eDl, upd_ne eDp]; exact h2), ?_, lf.eraseIdx r.toNat, acc ++ [y], ?_, ?_, ?_, ?_, ?_, ?_⟩
        · rw [List.length_map]
          exact small1000 (by omega)
        · rw [upd_ne eDl.symm, upd_same, erase_map]
        · rw [upd_same, List.map_append]
          rfl
        · rw [List.length_append, hlen]
          rfl
        · rw [List.append_assoc]
          exact ((erase_perm lf r.toNat y hg).append_left acc).trans hpm
        · refine PoolAt.upd (PoolAt.upd ⟨o, upd_same, po⟩ elp.symm) eDp.symm
        · exact (((hk.trans (Kept.upd p H2 o)).set nl).set nD0)
    · rintro H2 ⟨lf, acc, h1, h2, hlen, hpm, hpo, hk⟩
      obtain ⟨eDl, nD0⟩ := free_upd nD
      refine ⟨D, acc, rfl, SqL.of h2, fun ms c pm so nc => ?_⟩
      have ecp : c ≠ p := pool_ne hpo nc
      have hsub : ∀ x ∈ ms, x ∈ ns := fun x hx => hpm.subset (List.mem_append_left _ (pm.subset hx))
      have hnd : (acc ++ lf).Nodup := hpm.nodup_iff.mpr nd
      exact q c _ ms (hk.free ecp nc) (hk.trans (Kept.same (same_upd nc))) (hpo.upd ecp.symm) upd_same (pm.nodup_iff.mpr (List.nodup_append.mp hnd).1) hsub (by rw [pm.length_eq, hlen]) so
end
end Su
namespace Su
open PySem PySem.Spec PyProof.Rows L2
def spPlaces : Sp := fun vs H Q _ => ∃ (p : Addr) (many : Int), vs = [.ref p, .int many] ∧ PoolAt H p ∧ 0 ≤ many ∧
  ∀ (q : Addr) (H' : Hp) (ms : List Int), H q = none → Kept p H H' → PoolAt H' p → H' q = some (.lst (ms.map V.int)) → ms.Nodup → (∀ x ∈ ms, 0 ≤ x ∧ x < 100) → ms.length = min many.toNat 100 → ms.Pairwise (· ≤ ·) → Q (.ref q) H'
def spSort : Sp := fun vs H Q _ => ∃ (p : Addr), vs = [.ref p] ∧ PoolAt H p ∧ ∀ (x : Str) (H' : Hp), Kept p H H' → PoolAt H' p → x = "last" ∨ x = "first" ∨ x = "tree" → Q (.str x) H'
def spBig : Sp := fun vs H Q _ => ∃ (p : Addr) (x : Str), vs = [.ref p, .str x] ∧ PoolAt H p ∧ ∀ (n : Int) (H' : Hp), Kept p H H' → PoolAt H' p → 1 ≤ n → n ≤ 8 → (x = "tree" → n = 1 ∨ n = 2 ∨ n = 4 ∨ n = 8) → Q (.int n) H'
theorem scPlaces : FnScope ["_law_pool_here", "_law_many"] ["_law_pool_here", "_law_many"] (defScope sPlaces) := ⟨rfl, rfl, rfl, by decide +kernel, rfl, by decide +kernel, by decide +kernel⟩
theorem scSort : FnScope ["_law_pool_here"] ["_law_pool_here"] (defScope sSort) := ⟨rfl, rfl, rfl, by decide +kernel, rfl, by decide +kernel, by decide +kernel⟩
theorem scBig : FnScope ["_law_pool_here", "_law_sort_here"] ["_law_pool_here", "_law_sort_here"] (defScope sBig) := ⟨rfl, rfl, rfl, by decide +kernel, rfl, by decide +kernel, by decide +kernel⟩
section
variable {P : Program} {w : World} {K : PySem.W.Frag} {mg : Str → Option Value} {base : Heap}
theorem ok_places (T : At K mg "_law_places" sPlaces ["_law_pool_here", "_law_many"]) (B : Bt mg) (c_picked : Cal P w K mg base 2 "_law_picked" ["_law_pool_here", "_law_some", "_law_many"] (spPicked K)) :
    Cal P w K mg base 3 "_law_places" ["_law_pool_here", "_law_many"] spPlaces := by
  refine cal_of T scPlaces (fun vs H Q E h => ?_) (fun f cdv A outer s H vs Q E hr h => ?_)
  · obtain ⟨p, many, rfl, _⟩ := h
    rfl
  · obtain ⟨p, many, rfl, hp, m0, q⟩ := h
    refine ⟨_, (pss_one (ps_ret (pe_own c_picked hr (by decide) (by rfl) (pa_cons (pv 0) (pa_cons (pe_listRg rfl (by rfl) B.list (prg_1 (by rfl) B.range pe_int)) (pa_cons (pv 1) pa_nil)))))), ?_⟩
    refine ⟨_, rfl, 100, rfl, ⟨by decide, by decide, by decide, by decide, by decide⟩, fun b nb => ?_⟩
    have ebp : b ≠ p := pool_ne hp nb
    rw [hundred_rg]
    refine ⟨_, rfl, p, b, hundred, many, rfl, hp.upd ebp.symm, SqL.of upd_same, ebp, hundred_nd, (by rw [hundred_len]; decide), m0, fun c H' ms nc hk hpo hc nd hm hl so => ?_⟩
    exact q c H' ms (free_upd nc).2 ((Kept.same (same_upd nb)).trans hk) hpo hc nd (fun x hx => hundred_mem (hm x hx)) (by rw [hl, hundred_len]) so
theorem ok_sort (T : At K mg "_law_sort" sSort ["_law_pool_here"]) (c_take : Cal P w K mg base 1 "_law_take" ["_law_pool_here", "_law_many"] spTake) :
    Cal P w K mg base 2 "_law_sort" ["_law_pool_here"] spSort := by
  refine cal_of T scSort (fun vs H Q E h => ?_) (fun f cdv A outer s H vs Q E hr h => ?_)
  · obtain ⟨p, rfl, _⟩ := h
    rfl
  · obtain ⟨p, rfl, hp, q⟩ := h
    refine ⟨_, (pss_one (ps_ret (pe_ix ix_list (pe_lst (pa_cons pe_str (pa_cons pe_str (pa_cons pe_str pa_nil)))) (pe_own c_take hr (by decide) (by rfl) (pa_cons (pv 0) (pa_cons pe_int pa_nil))) (fun _ _ => rfl)))), ?_⟩
    refine ⟨(by show 3 ≤ sizeLine; decide), fun l nl => ?_⟩
    have elp : l ≠ p := pool_ne hp nl
    refine ⟨_, rfl, p, _, rfl, hp.upd elp.symm, by decide, by decide, fun r o r0 r1 po => ?_⟩
    obtain ⟨v, hv, ev⟩ := cons_nil_fin (xs := [V.str "last", V.str "first", V.str "tree"]) 3 rfl r0 r1
    refine ⟨l, _, r, v, rfl, rfl, SqL.of (by rw [upd_ne elp, upd_same]), ev, ?_⟩
    have hk : Kept p H (upd (upd H l (.lst [V.str "last", V.str "first", V.str "tree"])) p o) := ((Kept.same (same_upd nl)).trans (Kept.upd p _ o))
    have hpo : PoolAt (upd (upd H l (.lst [V.str "last", V.str "first", V.str "tree"])) p o) p := ⟨o, upd_same, po⟩
    simp only [List.mem_cons, List.not_mem_nil, or_false] at hv
    rcases hv with rfl | rfl | rfl
    · exact q _ _ hk hpo (.inl rfl)
    · exact q _ _ hk hpo (.inr (.inl rfl))
    · exact q _ _ hk hpo (.inr (.inr rfl))
theorem ok_big (T : At K mg "_law_big" sBig ["_law_pool_here", "_law_sort_here"]) (c_take : Cal P w K mg base 1 "_law_take" ["_law_pool_here", "_law_many"] spTake) :
    Cal P w K mg base 2 "_law_big" ["_law_pool_here", "_law_sort_here"] spBig := by
  refine cal_of T scBig (fun vs H Q E h => ?_) (fun f cdv A outer s H vs Q E hr h => ?_)
  · obtain ⟨p, x, rfl, _⟩ := h
    rfl
  · obtain ⟨p, x, rfl, hp, q⟩ := h
    refine ⟨_, (pss_cons (ps_if (pt_cmpR op_eq (pv 1) pe_str (nomark _)) (pss_one (ps_ret (pe_ix ix_list (pe_lst (pa_cons pe_int (pa_cons pe_int (pa_cons pe_int (pa_cons pe_int pa_nil))))) (pe_own c_take hr (by decide) (by rfl) (pa_cons (pv 0) (pa_cons pe_int pa_nil))) (fun _ _ => rfl)))) pss_nil)
      (pss_one (ps_ret (pe_op op_add pe_int (pe_own c_take hr (by decide) (by rfl) (pa_cons (pv 0) (pa_cons pe_int pa_nil))))))), ?_⟩
    refine ⟨_, rfl, rfl, _, rfl, ite2 (fun e => ?_) (fun e => ?_)⟩
    · refine ⟨(by show 4 ≤ sizeLine; decide), fun l nl => ?_⟩
      have elp : l ≠ p := pool_ne hp nl
      refine ⟨_, rfl, p, _, rfl, hp.upd elp.symm, by decide, by decide, fun r o r0 r1 po => ?_⟩
      obtain ⟨v, hv, ev⟩ := cons_nil_fin (xs := [V.int 1, V.int 2, V.int 4, V.int 8]) 4 rfl r0 r1
      refine ⟨l, _, r, v, rfl, rfl, SqL.of (by rw [upd_ne elp, upd_same]), ev, ?_⟩
      have hk : Kept p H (upd (upd H l (.lst [V.int 1, V.int 2, V.int 4, V.int 8])) p o) := ((Kept.same (same_upd nl)).trans (Kept.upd p _ o))
      have hpo : PoolAt (upd (upd H l (.lst [V.int 1, V.int 2, V.int 4, V.int 8])) p o) p := ⟨o, upd_same, po⟩
      simp only [List.mem_cons, List.not_mem_nil, or_false] at hv
      rcases hv with rfl | rfl | rfl | rfl
      · exact q _ _ hk hpo (by decide) (by decide) fun _ => .inl rfl
      · exact q _ _ hk hpo (by decide) (by decide) fun _ => .inr (.inl rfl)
      · exact q _ _ hk hpo (by decide) (by decide) fun _ => .inr (.inr (.inl rfl))
      · exact q _ _ hk hpo (by decide) (by decide) fun _ => .inr (.inr (.inr rfl))
    · refine ⟨_, rfl, p, _, rfl, hp, by decide, by decide, fun r o r0 r1 po => ?_⟩
      refine ⟨_, _, rfl, rfl, q _ _ (Kept.upd p H o) ⟨o, upd_same, po⟩ (by omega) (by omega) fun z => ?_⟩
      subst z
      exact absurd (decide_eq_true rfl) e
end
end Su
namespace Su
open PySem PySem.Spec PyProof.Rows L2
/-- what stands in slots: -1, or rooms, none twice -/
structure Slots (n : Nat) (xs : List Int) : Prop where
  len : xs.length = n
  rng : ∀ x ∈ xs, -1 ≤ x ∧ x < 100
  one : ∀ v, v ≠ -1 → xs.count v ≤ 1
structure Bits (n : Nat) (xs : List Int) : Prop where
  len : xs.length = n
  rng : ∀ x ∈ xs, x = 0 ∨ x = 1
def spCells (K : PySem.W.Frag) : Sp := fun vs H Q _ => ∃ (p b : Addr) (n : Nat) (ns : List Int), vs = [.ref p, .int (n : Int), .ref b] ∧ PoolAt H p ∧ SqL K H b (ns.map V.int) ∧ ns.Nodup ∧ (∀ x ∈ ns, 0 ≤ x ∧ x < 100) ∧ ns.length ≤ 1000 ∧ n ≤ 8 ∧
  ∀ (q : Addr) (H' : Hp) (xs : List Int), H q = none → Kept p H H' → PoolAt H' p → PTup H' q (xs.map V.int) → Slots n xs → Q (.ref q) H'
def spMarks : Sp := fun vs H Q _ => ∃ (p : Addr) (n : Nat) (x : Str), vs = [.ref p, .int (n : Int), .str x] ∧ PoolAt H p ∧ 1 ≤ n ∧ n ≤ 8 ∧
  ∀ (q : Addr) (H' : Hp) (xs : List Int), H q = none → Kept p H H' → PoolAt H' p → PTup H' q (xs.map V.int) → (x = "tree" → Bits (n - 1) xs) → (x ≠ "tree" → xs = []) → Q (.ref q) H'
theorem scCells : FnScope ["_law_pool_here", "_law_big_here", "_law_some", "_law_left", "_law_found", "_law_k"] ["_law_pool_here", "_law_big_here", "_law_some"] (defScope sCells) := ⟨rfl, rfl, rfl, by decide +kernel, rfl, by decide +kernel, by decide +kernel⟩
theorem scMarks : FnScope ["_law_pool_here", "_law_big_here", "_law_sort_here", "_law_k"] ["_law_pool_here", "_law_big_here", "_law_sort_here"] (defScope sMarks) := ⟨rfl, rfl, rfl, by decide +kernel, rfl, by decide +kernel, by decide +kernel⟩
theorem dp_ints {K : PySem.W.Frag} {H : Hp} : ∀ ns : List Int, DpAll K H (ns.map V.int) (ns.map PyData.int)
  | [] => .nil
  | n :: ns => .cons (.int n) (dp_ints ns)
theorem fine_ints {ns : List Int} (h : ∀ x ∈ ns, -1 ≤ x ∧ x < 100) : FineL (ns.map PyData.int) 0 (41 * ns.length) := FineL.ints ns fun z hz => by
  have := h z hz
  omega
theorem set_nil_count (acc : List Int) (y v : Int) : ((acc ++ [-1]).set acc.length y).count v = acc.count v + (if y = v then 1 else 0) := by
  have e : (acc ++ [-1]).set acc.length y = acc ++ [y] := by
    rw [List.set_append_right _ _ (Nat.le_refl _), Nat.sub_self]
    rfl
  rw [e, List.count_append]
  by_cases h : y = v
  · subst h
    simp
  · simp [h, List.count_cons, List.count_nil]
section
variable {P : Program} {w : World} {K : PySem.W.Frag} {mg : Str → Option Value} {base : Heap}
theorem ok_cells (T : At K mg "_law_cells" sCells ["_law_pool_here", "_law_big_here", "_law_some"]) (B : Bt mg) (c_take : Cal P w K mg base 1 "_law_take" ["_law_pool_here", "_law_many"] spTake) :
    Cal P w K mg base 2 "_law_cells" ["_law_pool_here", "_law_big_here", "_law_some"] (spCells K) := by
  refine cal_of T scCells (fun vs H Q E h => ?_) (fun f cdv A outer s H vs Q E hr h => ?_)
  · obtain ⟨p, b, n, ns, rfl, _⟩ := h
    rfl
  · obtain ⟨p, b, n, ns, rfl, hp, hS, nd, hrg, hnl, hn, q⟩ := h
    refine ⟨_, (pss_cons (ps_set (i := 3) scCells.nd rfl (Or.inl rfl) (pe_callTy call_list_of (by rfl) B.list (by decide +kernel) (pa_cons (pv 2) pa_nil)))
      (pss_cons (ps_set (i := 4) scCells.nd rfl (Or.inl rfl) (pe_lst pa_nil))
      (pss_cons (ps_for PassesOwn.never rfl (pi_range1 (by rfl) B.range (pa_cons (pv 1) pa_nil)) (pg_name (i := 5) scCells.nd rfl (Or.inl rfl)) (pss_cons (ps_expr (pe_bm PySem.F.plainAttrs_list PySem.F.slot_list_append PySem.F.type_list_append mt_append (pv 4) (pa_cons (pe_un un_neg pe_int) pa_nil)))
      (pss_one (ps_if (PW.pt (pw_and (pt_cmpR (op_neD hr.units) (pv 3) (pe_lst pa_nil) (nomark _)) (pw_and1 (pt_cmpR op_gt (pe_own c_take hr (by decide) (by rfl) (pa_cons (pv 0) (pa_cons pe_int pa_nil))) pe_int (nomark _))))) (pss_one (ps_asg (pe_bm PySem.F.plainAttrs_list PySem.F.slot_list_pop PySem.F.type_list_pop mt_popAt (pv 3) (pa_cons (pe_own c_take hr (by decide) (by rfl) (pa_cons (pv 0) (pa_cons (pe_callB call_len_seq (by rfl) B.len PySem.boot_len (pa_cons (pv 3) pa_nil)) pa_nil))) pa_nil)) (pg_sub (pv 4) (pv 5) set_list))) pss_nil))))
      (pss_one (ps_ret (pe_callTy call_tupleF (by rfl) B.tuple (by decide +kernel) (pa_cons (pv 4) pa_nil))))))), ?_⟩
    refine ⟨_, rfl, b, _, rfl, .inl hS, fun l nl => ?_⟩
    have elp : l ≠ p := pool_ne hp nl
    refine ⟨Nat.zero_le _, fun D nD => ?_⟩
    obtain ⟨eDl, nD0⟩ := free_upd nD
    have eDp : D ≠ p := pool_ne hp nD0
    refine ⟨_, rfl, _, rfl, (by omega), (by omega), ?_⟩
    rw [show ((n : Int) : Int).toNat = n by omega]
    refine for_range (lo := 0) (n := n) (fun i σ H2 => ∃ (y : Option V) (lf acc : List Int), σ = [some (.ref p), some (.int (n : Int)), some (.ref b), some (.ref l), some (.ref D), y] ∧ H2 l = some (.lst (lf.map V.int)) ∧ H2 D = some (.lst (acc.map V.int)) ∧
      acc.length = i ∧ lf.length ≤ ns.length ∧ (∀ v, v ≠ -1 → acc.count v + lf.count v ≤ 1) ∧ (∀ x ∈ acc, -1 ≤ x ∧ x < 100) ∧ (∀ x ∈ lf, 0 ≤ x ∧ x < 100) ∧ PoolAt H2 p ∧ Kept p H H2) ?_ ?_ ?_
    · refine ⟨none, ns, [], rfl, (by rw [upd_ne eDl.symm, upd_same]), upd_same, rfl, Nat.le_refl _, fun v hv => ?_, fun x hx => (List.not_mem_nil hx).elim, hrg, (hp.upd elp.symm).upd eDp.symm, ((Kept.refl p H).set nl).set nD0⟩
      rw [List.count_nil, Nat.zero_add]
      exact List.nodup_iff_count.mp nd v
    · rintro i σ H2 hi ⟨y, lf, acc, rfl, h1, h2, hlen, hll, hc, hra, hrl, hpo, hk⟩
      -- found.append(-1)
      refine ⟨_, rfl, .inl ⟨rfl, _, SqL.of h2⟩, 1, rfl, D, _, _, rfl, rfl, h2, (by rw [List.length_map]; exact small1000 (by omega)), ?_⟩
      have h1' : (upd H2 D (.lst (acc.map V.int ++ [V.int (-1)]))) l = some (.lst (lf.map V.int)) := by
        rw [upd_ne eDl.symm]
        exact h1
      have e2 : acc.map V.int ++ [V.int (-1)] = (acc ++ [-1]).map V.int := by
        rw [List.map_append]
        rfl
      have hpo' : PoolAt (upd H2 D (.lst (acc.map V.int ++ [V.int (-1)]))) p := hpo.upd eDp.symm
      -- left != []
      refine ⟨_, rfl, Nat.zero_le _, fun c nc => ?_⟩
      obtain ⟨ecD, nc0⟩ := free_upd nc
      have ecp : c ≠ p := pool_ne hpo' nc
      have ecl : c ≠ l := (ne_of_none h1' nc).symm
      have hkc : Kept p H (upd (upd H2 D (.lst (acc.map V.int ++ [V.int (-1)]))) c (.lst [])) := (hk.set nD0).trans (Kept.same (same_upd nc))
      have f1 : Fine (.list (lf.map PyData.int)) 1 (41 * lf.length) := Fine.list (fine_ints fun x hx => by
        have := hrl x hx
        omega)
      have f2 : Fine (.list []) 1 0 := Fine.list FineL.nil
      have hlc : (upd (upd H2 D (.lst (acc.map V.int ++ [V.int (-1)]))) c (.lst [])) l = some (.lst (lf.map V.int)) := by
        rw [upd_ne ecl.symm]
        exact h1'
      have hDc : (upd (upd H2 D (.lst (acc.map V.int ++ [V.int (-1)]))) c (.lst [])) D = some (.lst ((acc ++ [-1]).map V.int)) := by
        rw [upd_ne ecD.symm, upd_same, e2]
      have hpc : PoolAt (upd (upd H2 D (.lst (acc.map V.int ++ [V.int (-1)]))) c (.lst [])) p := hpo'.upd ecp.symm
      refine ⟨_, _, .lst (SqL.of hlc) (dp_ints lf), .lst (SqL.of upd_same) .nil, f1.shaped (by decide), f2.shaped (by decide), _, rfl, ?_⟩
      generalize upd (upd H2 D (.lst (acc.map V.int ++ [V.int (-1)]))) c (.lst []) = H3 at *
      have skip : ∀ H4 : Hp, H4 l = some (.lst (lf.map V.int)) → H4 D = some (.lst ((acc ++ [-1]).map V.int)) → PoolAt H4 p → Kept p H H4 → ∃ (y : Option V) (lf acc : List Int), [some (V.ref p), some (.int (n : Int)), some (.ref b), some (.ref l), some (.ref D), some (.int (0 + (i : Int)))] = [some (.ref p), some (.int (n : Int)), some (.ref b), some (.ref l), some (.ref D), y] ∧ H4 l = some (.lst (lf.map V.int)) ∧ H4 D = some (.lst (acc.map V.int)) ∧
          acc.length = i + 1 ∧ lf.length ≤ ns.length ∧ (∀ v, v ≠ -1 → acc.count v + lf.count v ≤ 1) ∧ (∀ x ∈ acc, -1 ≤ x ∧ x < 100) ∧ (∀ x ∈ lf, 0 ≤ x ∧ x < 100) ∧ PoolAt H4 p ∧ Kept p H H4 := by
        intro H4 g1 g2 g3 g4
        refine ⟨_, lf, acc ++ [-1], rfl, g1, g2, (by rw [List.length_append, hlen]; rfl), hll, fun v hv => ?_, fun x hx => ?_, hrl, g3, g4⟩
        · rw [List.count_append, List.count_cons_of_ne (fun z => hv z.symm), List.count_nil]
          have := hc v hv
          omega
        · rcases List.mem_append.mp hx with z | z
          · exact hra x z
          · rw [List.mem_singleton.mp z]
            decide
      cases lf with
      | nil =>
        refine iteF ?_
        exact skip H3 hlc hDc hpc hkc
      | cons y0 lf0 =>
        refine iteT ?_
        refine ⟨_, rfl, p, _, rfl, hpc, by decide, by decide, fun r o r0 r1 po => ?_⟩
        have hlc2 : (upd H3 p o) l = some (.lst ((y0 :: lf0).map V.int)) := by
          rw [upd_ne elp]
          exact hlc
        have hDc2 : (upd H3 p o) D = some (.lst ((acc ++ [-1]).map V.int)) := by
          rw [upd_ne eDp]
          exact hDc
        have hpc2 : PoolAt (upd H3 p o) p := ⟨o, upd_same, po⟩
        refine ⟨_, _, rfl, rfl, _, rfl, ite2 (fun e => ?_) (fun e => ?_)⟩
        · refine ⟨_, rfl, .inl ⟨rfl, _, SqL.of hlc2⟩, _, rfl, _, rfl, l, _, rfl, .inl (SqL.of hlc2), p, _, rfl, hpc2, ?_, ?_, fun r o r0 r1 po => ?_⟩
          · rw [List.length_map, List.length_cons]
            omega
          · rw [List.length_map]
            omega
          · rw [List.length_map] at r1
            have hr1 : r.toNat < (y0 :: lf0).length := by omega
            refine ⟨l, (y0 :: lf0).map V.int, r, r.toNat, V.int (y0 :: lf0)[r.toNat], rfl, rfl, (by rw [upd_ne elp]; exact hlc2), by omega, by omega, seqIx r0 (by rw [List.length_map]; exact r1), (by rw [List.getElem?_map, List.getElem?_eq_getElem hr1]; rfl), ?_⟩
            have hg : (y0 :: lf0)[r.toNat]? = some (y0 :: lf0)[r.toNat] := List.getElem?_eq_getElem hr1
            generalize (y0 :: lf0)[r.toNat] = z at *
            generalize y0 :: lf0 = lf at *
            have hpm := erase_perm lf r.toNat z hg
            have ez : z ∈ lf := List.mem_of_getElem? hg
            have hz := hrl z ez
            refine ⟨_, rfl, _, rfl, D, (acc ++ [-1]).map V.int, 0 + (i : Int), acc.length, rfl, rfl, (by rw [upd_ne eDl, upd_ne eDp]; exact hDc2), ?_, ?_⟩
            · unfold ixN
              rw [if_pos (by omega), if_pos (by rw [List.length_map, List.length_append, hlen]; show (0 : Int) + (i : Int) < ((i + 1 : Nat) : Int); omega)]
              congr 1
              omega
            · refine ⟨_, lf.eraseIdx r.toNat, (acc ++ [-1]).set acc.length z, rfl, ?_, ?_, ?_, ?_, ?_, ?_, ?_, ?_, ?_⟩
              · rw [upd_ne eDl.symm, upd_same, erase_map]
              · rw [upd_same, List.map_set]
              · rw [List.length_set, List.length_append, hlen]
                rfl
              · have := hpm.length_eq
                rw [List.length_cons] at this
                omega
              · intro v hv
                rw [set_nil_count]
                have h9 := hc v hv
                have h8 := hpm.count_eq v
                rw [List.count_cons] at h8
                by_cases zz : z = v
                · subst zz
                  simp at h8 ⊢
                  omega
                · simp [zz] at h8 ⊢
                  omega
              · intro x hx
                rcases List.mem_or_eq_of_mem_set hx with z1 | z1
                · rcases List.mem_append.mp z1 with z2 | z2
                  · exact hra x z2
                  · rw [List.mem_singleton.mp z2]
                    decide
                · rw [z1]
                  omega
              · intro x hx
                exact hrl x (List.mem_of_mem_eraseIdx hx)
              · exact ((PoolAt.upd ⟨o, upd_same, po⟩ elp.symm).upd eDp.symm)
              · exact ((((hkc.trans (Kept.upd p _ _)).trans (Kept.upd p _ _)).set nl).set nD0)
        · exact skip _ hlc2 hDc2 hpc2 (hkc.trans (Kept.upd p _ _))
    · rintro σ H2 ⟨y, lf, acc, rfl, h1, h2, hlen, hll, hc, hra, hrl, hpo, hk⟩
      refine ⟨_, rfl, D, _, rfl, SqL.of h2, fun t H3 sm nt pt => ?_⟩
      have etp : t ≠ p := pool_ne hpo nt
      exact q t _ acc (hk.free etp nt) (hk.trans (Kept.same sm)) (hpo.same sm) pt ⟨hlen, hra, fun v hv => Nat.le_trans (Nat.le_add_right _ _) (hc v hv)⟩
theorem ok_marks (T : At K mg "_law_marks" sMarks ["_law_pool_here", "_law_big_here", "_law_sort_here"]) (B : Bt mg) (c_take : Cal P w K mg base 1 "_law_take" ["_law_pool_here", "_law_many"] spTake) :
    Cal P w K mg base 2 "_law_marks" ["_law_pool_here", "_law_big_here", "_law_sort_here"] spMarks := by
  refine cal_of T scMarks (fun vs H Q E h => ?_) (fun f cdv A outer s H vs Q E hr h => ?_)
  · obtain ⟨p, n, x, rfl, _⟩ := h
    rfl
  · obtain ⟨p, n, x, rfl, hp, hn1, hn, q⟩ := h
    refine ⟨_, (pss_one (ps_ret (pe_callTy call_tupleF (by rfl) B.tuple (by decide +kernel) (pa_cons (pe_lc (own := [("_law_k", 3)]) (g := (gName 3)) (tt := tYes) (te := (tCall spTake [] E0 (tCons (tVar 0) (tCons (tC (.int 2)) tNil)))) (by rfl) scMarks.nd (pi_range1 (by rfl) B.range (pa_cons (pe_op op_mul (pe_op op_sub (pv 1) pe_int) (pe_callTy call_int1 (by rfl) B.int (by decide +kernel) (pa_cons (pe_cmpR op_eq (pv 2) pe_str (nomark _)) pa_nil))) pa_nil)) (blkOk_by (own := [("_law_k", 3)]) (N := ["_law_pool_here", "_law_big_here", "_law_sort_here", "_law_k"]) (sc := defScope sMarks) (by decide +kernel)) (fun _ _ _ _ _ => (pg_name (i := 3) scMarks.nd rfl (Or.inl rfl))) (fun _ _ _ _ _ => pts_nil) (fun _ _ _ _ _ => (pe_own c_take hr (by decide) (by rfl) (pa_cons (pv 0) (pa_cons pe_int pa_nil))))) pa_nil)))), ?_⟩
    obtain ⟨m, hm, hm1, hm2⟩ : ∃ m : Nat, ((n : Int) - 1) * (if decide (V.str x = V.str "tree") = true then (1 : Int) else 0) = (m : Int) ∧ (x = "tree" → m = n - 1) ∧ (x ≠ "tree" → m = 0) := by
      by_cases e : x = "tree"
      · refine ⟨n - 1, ?_, fun _ => rfl, fun z => absurd e z⟩
        subst e
        rw [if_pos (decide_eq_true rfl)]
        omega
      · refine ⟨0, ?_, fun z => absurd z e, fun _ => rfl⟩
        rw [if_neg (fun z => e (V.str.inj (of_decide_eq_true z)))]
        omega
    have hm3 : m ≤ 8 := by
      by_cases e : x = "tree"
      · have := hm1 e
        omega
      · have := hm2 e
        omega
    refine ⟨_, rfl, _, _, rfl, rfl, _, rfl, rfl, .inr ⟨_, rfl, _, _, rfl, rfl, .inr (b01 _), ?_⟩⟩
    refine ⟨_, rfl, ?_, ?_, fun D nD => ?_⟩
    · show -(2 ^ 62) ≤ ((n : Int) - 1) * (if decide (V.str x = V.str "tree") = true then (1 : Int) else 0)
      rw [hm]
      omega
    · show ((n : Int) - 1) * (if decide (V.str x = V.str "tree") = true then (1 : Int) else 0) < 2 ^ 62
      rw [hm]
      omega
    have eDp : D ≠ p := pool_ne hp nD
    show ∃ W : Nat → Nat → Hp → Prop, _
    rw [show (((n : Int) - 1) * (if decide (V.str x = V.str "tree") = true then (1 : Int) else 0)) = (m : Int) from hm, show ((m : Int)).toNat = m by omega]
    refine lc_range (lo := 0) (n := m) (fun i H2 => ∃ acc : List Int, H2 D = some (.lst (acc.map V.int)) ∧ acc.length = i ∧ (∀ x ∈ acc, x = 0 ∨ x = 1) ∧ PoolAt H2 p ∧ Kept p H H2) ?_ ?_ ?_
    · exact ⟨[], upd_same, rfl, fun x hx => (List.not_mem_nil hx).elim, hp.upd eDp.symm, (Kept.refl p H).set nD⟩
    · rintro i H2 hi ⟨acc, h2, hlen, hb, hpo, hk⟩
      refine ⟨rfl, tyes ?_⟩
      refine ⟨_, rfl, p, _, rfl, hpo, by decide, by decide, fun r o r0 r1 po => ?_⟩
      refine ⟨acc.map V.int, (by rw [upd_ne eDp]; exact h2), (by rw [List.length_map]; exact small1000 (by omega)), acc ++ [r], (by rw [upd_same, List.map_append]; rfl), (by rw [List.length_append, hlen]; rfl), fun x hx => ?_, (PoolAt.upd ⟨o, upd_same, po⟩ eDp.symm), ((hk.trans (Kept.upd p _ _)).set nD)⟩
      rcases List.mem_append.mp hx with z | z
      · exact hb x z
      · rw [List.mem_singleton.mp z]
        omega
    · rintro H2 ⟨acc, h2, hlen, hb, hpo, hk⟩
      refine ⟨D, _, rfl, SqL.of h2, fun t H3 sm nt pt => ?_⟩
      have etp : t ≠ p := pool_ne hpo nt
      refine q t _ acc (hk.free etp nt) (hk.trans (Kept.same sm)) (hpo.same sm) pt (fun e => ⟨by rw [hlen, hm1 e], hb⟩) (fun e => ?_)
      have := hm2 e
      rw [this] at hlen
      exact List.length_eq_zero_iff.mp hlen
end
end Su
/-! ### C0: things of any kind -/
namespace Su
open PySem PySem.Spec PyProof.Rows L2
section
variable {X : Cx}
/-- len(set(l)), l a list of ints -/
def dd (ns : List Int) : List Int := PyProof.Rows.firstMet (fun i => ns.getD i 0) ns.length
def tLenSet (K : PySem.W.Frag) (ta : TE) : TE := fun σ H Q => ta σ H fun x H1 => ∃ (l : Addr) (ns : List Int), x = .ref l ∧ SqL K H1 l (ns.map V.int) ∧ ns.length ≤ 1000 ∧ Q (.int ((dd ns).length : Nat)) H1
theorem pe_lenSet {a : Expr} {ta : TE} {p p2 q pos : Pos} (hg : Gl X "len") (hm : X.mg "len" = none) (hg2 : Gl X "set") (hm2 : X.mg "set" = none) (ha : PE X a ta) (hc : X.calm = true := by rfl)
    (na : starEach [a] X.env = (false, eval a X.env) :: starEach [] X.env := by rfl) : PE X (.Call (.Name "len" p) [.Call (.Name "set" p2) [a] [] q] [] pos) (tLenSet X.K ta) := by
  refine ⟨fun pins s σ H Q I h => ?_⟩
  refine Call_ (ld_blt I hg hm boot_len ?_)
  refine PyProof.Rows.callWith_builtin1 (PyProof.Rows.args_cons ?_ rfl) rfl rfl
  refine Call_ (ld_blt I hg2 hm2 boot_set ?_)
  refine PyProof.Rows.callWith_type1 (PyProof.Rows.args_cons (thn (ha.run pins s σ H _ I h) fun v s1 ⟨x, H1, I1, r1, q1⟩ => PyProof.Rows.args_nil ?_) na) na rfl
  obtain ⟨l, ns, rfl, hq, hl, q1⟩ := q1
  cases r1
  obtain ⟨its, r, pl, hz⟩ := I1.list hq
  have hlen : its.toArray.size = ns.length := by rw [List.size_toArray, ← r.length, List.length_map]
  refine call_set_list (I1.ok.hd hc) pl.isList (by simpa using ints_of r) (by rw [hlen]; unfold scanBound; omega) fun h' tk hS hk => ?_
  refine PyProof.Rows.args_nil ?_
  rw [hlen] at hS
  have hle := PyProof.Rows.firstMet_length_le (fun i => ns.getD i 0) ns.length
  obtain ⟨o, es, ep, t, ho, hex, hd, _, _, _, hf, hn⟩ := hS
  have I2 : Inv X pins σ H1 { s1 with heap := h', toks := tk } := I1.kept fun b o e => hk b o (Heap.lt_size e) e
  exact call_len_set ho hex hd hf (by rw [hn]; omega) ⟨.int ((dd ns).length : Nat), H1, I2.tok _, ⟨_, by rw [hn]; rfl⟩, q1⟩
end
end Su
namespace Su
open PySem PySem.Spec PyProof.Rows L2
abbrev wayVs : List V := [.str "last", .str "first", .str "tree"]
abbrev sizeVs : List V := [.int 1, .int 2, .int 4, .int 8]
structure Gb (K : PySem.W.Frag) (mg : Str → Option Value) : Prop where
  last : ∃ t, mg "LAST_ROOM" = some (.int 99 t)
  most : ∃ t, mg "MOST_SLOTS" = some (.int 8 t)
  empty : ∃ t, mg "EMPTY" = some (.int (-1) t)
  ways : ∃ a, mg "WAYS" = some (.ref a) ∧ ∀ H, SqT K H a wayVs
  sizes : ∃ a, mg "TREE_SIZES" = some (.ref a) ∧ ∀ H, SqT K H a sizeVs
def wholeG : G → Bool
  | .int _ => true
  | _ => false
def roomG : G → Bool
  | .int i => decide (0 ≤ i) && decide (i ≤ 99)
  | _ => false
def slotG : G → Bool
  | .int i => (decide (0 ≤ i) && decide (i ≤ 99)) || decide (i = -1)
  | _ => false
def bitG : G → Bool
  | .int i => decide (0 ≤ i) && decide (i ≤ 1)
  | _ => false
def wayG : G → Bool
  | .str s => inV (.str s) wayVs
  | _ => false
def sizeG : G → Str → Bool
  | .int n, s => (decide (1 ≤ n) && decide (n ≤ 8)) && (!decide (s = "tree") || inV (.int n) sizeVs)
  | _, _ => false
def bitsN (n : Int) (s : Str) : Int := if s = "tree" then n - 1 else 0
def spWhole : Sp := fun vs H Q _ => ∃ (p : Addr) (v : V) (g : G), vs = [v] ∧ Tg p H v g ∧ Q (.bl (wholeG g)) H
def spRoom : Sp := fun vs H Q _ => ∃ (p : Addr) (v : V) (g : G), vs = [v] ∧ Tg p H v g ∧ Q (.bl (roomG g)) H
def spSlot : Sp := fun vs H Q _ => ∃ (p : Addr) (v : V) (g : G), vs = [v] ∧ Tg p H v g ∧ Q (.bl (slotG g)) H
def spBit : Sp := fun vs H Q _ => ∃ (p : Addr) (v : V) (g : G), vs = [v] ∧ Tg p H v g ∧ Q (.bl (bitG g)) H
def spWay : Sp := fun vs H Q _ => ∃ (p : Addr) (v : V) (g : G), vs = [v] ∧ Tg p H v g ∧ Q (.bl (wayG g)) H
def spSize : Sp := fun vs H Q _ => ∃ (p : Addr) (v : V) (g : G) (s : Str), vs = [v, .str s] ∧ Tg p H v g ∧ Q (.bl (sizeG g s)) H
def spHow : Sp := fun vs H Q _ => ∃ (n : Int) (s : Str), vs = [.int n, .str s] ∧ Q (.int (bitsN n s)) H
theorem scIsWhole : FnScope ["thing"] ["thing"] (defScope sIsWhole) := ⟨rfl, rfl, rfl, by decide +kernel, rfl, by decide +kernel, by decide +kernel⟩
theorem scIsRoom : FnScope ["thing"] ["thing"] (defScope sIsRoom) := ⟨rfl, rfl, rfl, by decide +kernel, rfl, by decide +kernel, by decide +kernel⟩
theorem scIsWay : FnScope ["thing"] ["thing"] (defScope sIsWay) := ⟨rfl, rfl, rfl, by decide +kernel, rfl, by decide +kernel, by decide +kernel⟩
theorem scIsSize : FnScope ["thing", "way"] ["thing", "way"] (defScope sIsSize) := ⟨rfl, rfl, rfl, by decide +kernel, rfl, by decide +kernel, by decide +kernel⟩
theorem scHowMany : FnScope ["size", "way"] ["size", "way"] (defScope sHowMany) := ⟨rfl, rfl, rfl, by decide +kernel, rfl, by decide +kernel, by decide +kernel⟩
theorem scIsSlot : FnScope ["thing"] ["thing"] (defScope sIsSlot) := ⟨rfl, rfl, rfl, by decide +kernel, rfl, by decide +kernel, by decide +kernel⟩
theorem scIsBit : FnScope ["thing"] ["thing"] (defScope sIsBit) := ⟨rfl, rfl, rfl, by decide +kernel, rfl, by decide +kernel, by decide +kernel⟩
theorem scWhole : FnScope ["_law_thing"] ["_law_thing"] (defScope sWhole) := ⟨rfl, rfl, rfl, by decide +kernel, rfl, by decide +kernel, by decide +kernel⟩
section
variable {P : Program} {w : World} {K : PySem.W.Frag} {mg : Str → Option Value} {base : Heap}
theorem ok_whole (T : At K mg "is_whole" sIsWhole ["thing"]) (B : Bt mg) : Cal P w K mg base 1 "is_whole" ["thing"] spWhole := by
  refine cal_of T scIsWhole (fun vs H Q E h => ?_) (fun f cdv A outer s H vs Q E hr h => ?_)
  · obtain ⟨p, v, g, rfl, _⟩ := h
    rfl
  · obtain ⟨p, v, g, rfl, hv, q⟩ := h
    refine ⟨_, (pss_one (ps_ret (pe_and (pe_callB call_isi (by rfl) B.isinstance (by decide +kernel) (pa_cons (pv 0) (pa_cons (pe_bltn (v := .ty "int") (u := .type "int") (by rfl) B.int (by decide +kernel) rfl) pa_nil))) (pe_one (pe_not (pe_callB call_isi (by rfl) B.isinstance (by decide +kernel) (pa_cons (pv 0) (pa_cons (pe_bltn (v := .ty "bool") (u := .type "bool") (by rfl) B.bool (by decide +kernel) rfl) pa_nil)))))))), ?_⟩
    refine ⟨_, rfl, v, .ty "int", _, _, _, rfl, .ty "int", hv.ty, kit_int g, _, rfl, iteB (fun e => ?_) (fun e => ?_)⟩
    · refine ⟨_, rfl, v, .ty "bool", _, _, _, rfl, .ty "bool", hv.ty, kit_bool g, _, rfl, ?_⟩
      have z : (!isBool g) = wholeG g := by
        cases g <;> first | rfl | cases e
      rw [z]
      exact q
    · have z : false = wholeG g := by
        cases g <;> first | rfl | cases e
      rw [z]
      exact q
theorem ok_lwhole (T : At K mg "_law_whole" sWhole ["_law_thing"]) (B : Bt mg) : Cal P w K mg base 1 "_law_whole" ["_law_thing"] spWhole := by
  refine cal_of T scWhole (fun vs H Q E h => ?_) (fun f cdv A outer s H vs Q E hr h => ?_)
  · obtain ⟨p, v, g, rfl, _⟩ := h
    rfl
  · obtain ⟨p, v, g, rfl, hv, q⟩ := h
    refine ⟨_, (pss_one (ps_ret (pe_and (pe_callB call_isi (by rfl) B.isinstance (by decide +kernel) (pa_cons (pv 0) (pa_cons (pe_bltn (v := .ty "int") (u := .type "int") (by rfl) B.int (by decide +kernel) rfl) pa_nil))) (pe_one (pe_not (pe_callB call_isi (by rfl) B.isinstance (by decide +kernel) (pa_cons (pv 0) (pa_cons (pe_bltn (v := .ty "bool") (u := .type "bool") (by rfl) B.bool (by decide +kernel) rfl) pa_nil)))))))), ?_⟩
    refine ⟨_, rfl, v, .ty "int", _, _, _, rfl, .ty "int", hv.ty, kit_int g, _, rfl, iteB (fun e => ?_) (fun e => ?_)⟩
    · refine ⟨_, rfl, v, .ty "bool", _, _, _, rfl, .ty "bool", hv.ty, kit_bool g, _, rfl, ?_⟩
      have z : (!isBool g) = wholeG g := by
        cases g <;> first | rfl | cases e
      rw [z]
      exact q
    · have z : false = wholeG g := by
        cases g <;> first | rfl | cases e
      rw [z]
      exact q
theorem whole_int {p : Addr} {H : Hp} {v : V} {g : G} (h : Tg p H v g) (e : wholeG g = true) : ∃ i, v = .int i ∧ g = .int i := by
  cases h with
  | int i => exact ⟨i, rfl, rfl⟩
  | _ => cases e
theorem ok_room (T : At K mg "is_room" sIsRoom ["thing"]) (D : Gb K mg) (c_is_whole : Cal P w K mg base 1 "is_whole" ["thing"] spWhole) : Cal P w K mg base 2 "is_room" ["thing"] spRoom := by
  obtain ⟨tl, mLast⟩ := D.last
  refine cal_of T scIsRoom (fun vs H Q E h => ?_) (fun f cdv A outer s H vs Q E hr h => ?_)
  · obtain ⟨p, v, g, rfl, _⟩ := h
    rfl
  · obtain ⟨p, v, g, rfl, hv, q⟩ := h
    refine ⟨_, (pss_one (ps_ret (pe_and (pe_own c_is_whole hr (by decide) (by rfl) (pa_cons (pv 0) pa_nil)) (pe_one (pe_chain op_le op_le pe_int (pv 0) (pe_glob (v := .int 99) rfl mLast ⟨_, rfl⟩)))))), ?_⟩
    refine ⟨_, rfl, p, v, g, rfl, hv, _, rfl, iteB (fun e => ?_) (fun e => ?_)⟩
    · obtain ⟨i, rfl, rfl⟩ := whole_int hv e
      refine ⟨_, rfl, _, _, rfl, rfl, _, rfl, iteB (fun e1 => ?_) (fun e1 => ?_)⟩
      · refine ⟨_, _, rfl, rfl, ?_⟩
        have z : decide (i ≤ 99) = roomG (.int i) := by
          show decide (i ≤ 99) = (decide (0 ≤ i) && decide (i ≤ 99))
          rw [e1, Bool.true_and]
        rw [← z] at q
        exact q
      · have z : false = roomG (.int i) := by
          show false = (decide (0 ≤ i) && decide (i ≤ 99))
          rw [e1, Bool.false_and]
        rw [z]
        exact q
    · have z : false = roomG g := by
        cases g <;> first | rfl | cases e
      rw [z]
      exact q
theorem ok_bit (T : At K mg "is_bit" sIsBit ["thing"]) (c_is_whole : Cal P w K mg base 1 "is_whole" ["thing"] spWhole) : Cal P w K mg base 2 "is_bit" ["thing"] spBit := by
  refine cal_of T scIsBit (fun vs H Q E h => ?_) (fun f cdv A outer s H vs Q E hr h => ?_)
  · obtain ⟨p, v, g, rfl, _⟩ := h
    rfl
  · obtain ⟨p, v, g, rfl, hv, q⟩ := h
    refine ⟨_, (pss_one (ps_ret (pe_and (pe_own c_is_whole hr (by decide) (by rfl) (pa_cons (pv 0) pa_nil)) (pe_one (pe_chain op_le op_le pe_int (pv 0) pe_int))))), ?_⟩
    refine ⟨_, rfl, p, v, g, rfl, hv, _, rfl, iteB (fun e => ?_) (fun e => ?_)⟩
    · obtain ⟨i, rfl, rfl⟩ := whole_int hv e
      refine ⟨_, rfl, _, _, rfl, rfl, _, rfl, iteB (fun e1 => ?_) (fun e1 => ?_)⟩
      · refine ⟨_, _, rfl, rfl, ?_⟩
        have z : decide (i ≤ 1) = bitG (.int i) := by
          show decide (i ≤ 1) = (decide (0 ≤ i) && decide (i ≤ 1))
          rw [e1, Bool.true_and]
        rw [← z] at q
        exact q
      · have z : false = bitG (.int i) := by
          show false = (decide (0 ≤ i) && decide (i ≤ 1))
          rw [e1, Bool.false_and]
        rw [z]
        exact q
    · have z : false = bitG g := by
        cases g <;> first | rfl | cases e
      rw [z]
      exact q
theorem ok_slot (T : At K mg "is_slot" sIsSlot ["thing"]) (D : Gb K mg) (c_is_whole : Cal P w K mg base 1 "is_whole" ["thing"] spWhole) (c_is_room : Cal P w K mg base 2 "is_room" ["thing"] spRoom) : Cal P w K mg base 3 "is_slot" ["thing"] spSlot := by
  obtain ⟨te, mEmpty⟩ := D.empty
  refine cal_of T scIsSlot (fun vs H Q E h => ?_) (fun f cdv A outer s H vs Q E hr h => ?_)
  · obtain ⟨p, v, g, rfl, _⟩ := h
    rfl
  · obtain ⟨p, v, g, rfl, hv, q⟩ := h
    refine ⟨_, (pss_one (ps_ret (pe_or (pe_own c_is_room hr (by decide) (by rfl) (pa_cons (pv 0) pa_nil)) (pe_one (pe_and (pe_own c_is_whole hr (by decide) (by rfl) (pa_cons (pv 0) pa_nil)) (pe_one (pe_cmpR op_eq (pv 0) (pe_glob (v := .int (-1)) rfl mEmpty ⟨_, rfl⟩) (nomark _)))))))), ?_⟩
    refine ⟨_, rfl, p, v, g, rfl, hv, _, rfl, iteB (fun e => ?_) (fun e => ?_)⟩
    · have z : true = slotG g := by
        cases g with
        | int i =>
          show true = ((decide (0 ≤ i) && decide (i ≤ 99)) || decide (i = -1))
          rw [show (decide (0 ≤ i) && decide (i ≤ 99)) = true from e, Bool.true_or]
        | _ => cases e
      rw [z]
      exact q
    · refine ⟨_, rfl, p, v, g, rfl, hv, _, rfl, iteB (fun e1 => ?_) (fun e1 => ?_)⟩
      · obtain ⟨i, rfl, rfl⟩ := whole_int hv e1
        refine ⟨_, rfl, rfl, ?_⟩
        have z : decide (V.int i = V.int (-1)) = slotG (.int i) := by
          show decide (V.int i = V.int (-1)) = ((decide (0 ≤ i) && decide (i ≤ 99)) || decide (i = -1))
          rw [show (decide (0 ≤ i) && decide (i ≤ 99)) = false from e, Bool.false_or]
          by_cases y : i = -1
          · subst y
            rfl
          · rw [decide_eq_false y, decide_eq_false (fun h => y (V.int.inj h))]
        rw [z]
        exact q
      · have z : false = slotG g := by
          cases g <;> first | rfl | cases e1
        rw [z]
        exact q
theorem ok_way (T : At K mg "is_way" sIsWay ["thing"]) (B : Bt mg) (D : Gb K mg) : Cal P w K mg base 1 "is_way" ["thing"] spWay := by
  obtain ⟨aWays, mWays, hW⟩ := D.ways
  refine cal_of T scIsWay (fun vs H Q E h => ?_) (fun f cdv A outer s H vs Q E hr h => ?_)
  · obtain ⟨p, v, g, rfl, _⟩ := h
    rfl
  · obtain ⟨p, v, g, rfl, hv, q⟩ := h
    refine ⟨_, (pss_one (ps_ret (pe_and (pe_callB call_isi (by rfl) B.isinstance (by decide +kernel) (pa_cons (pv 0) (pa_cons (pe_bltn (v := .ty "str") (u := .type "str") (by rfl) B.str (by decide +kernel) rfl) pa_nil))) (pe_one (pe_cmpR op_in_seq (pv 0) (pe_glob (v := .ref aWays) rfl mWays rfl) (by rfl)))))), ?_⟩
    refine ⟨_, rfl, v, .ty "str", _, _, _, rfl, .ty "str", hv.ty, kit_str g, _, rfl, iteB (fun e => ?_) (fun e => ?_)⟩
    · cases hv with
      | str s =>
        refine ⟨_, rfl, aWays, wayVs, rfl, .inr (hW H), rfl, rfl, ?_⟩
        exact q
      | _ => cases e
    · have z : false = wayG g := by
        cases g <;> first | rfl | cases e
      rw [z]
      exact q
theorem ok_size (T : At K mg "is_size" sIsSize ["thing", "way"]) (D : Gb K mg) (c_is_whole : Cal P w K mg base 1 "is_whole" ["thing"] spWhole) : Cal P w K mg base 2 "is_size" ["thing", "way"] spSize := by
  obtain ⟨tm, mMost⟩ := D.most
  obtain ⟨aSizes, mSizes, hZ⟩ := D.sizes
  refine cal_of T scIsSize (fun vs H Q E h => ?_) (fun f cdv A outer s H vs Q E hr h => ?_)
  · obtain ⟨p, v, g, s, rfl, _⟩ := h
    rfl
  · obtain ⟨p, v, g, s, rfl, hv, q⟩ := h
    refine ⟨_, (pss_cons (ps_if (PW.pt (pw_or (pt_not (pt_val (pe_own c_is_whole hr (by decide) (by rfl) (pa_cons (pv 0) pa_nil)))) (pw_or1 (pt_not (pt_chain op_le op_le pe_int (pv 0) (pe_glob (v := .int 8) rfl mMost ⟨_, rfl⟩)))))) (pss_one (ps_ret pe_bl)) pss_nil)
      (pss_one (ps_ret (pe_or (pe_cmpR op_ne (pv 1) pe_str (nomark _)) (pe_one (pe_cmpR op_in_seq (pv 0) (pe_glob (v := .ref aSizes) rfl mSizes rfl) (by rfl))))))), ?_⟩
    refine ⟨_, rfl, p, v, g, rfl, hv, _, rfl, iteB (fun e => ?_) (fun e => ?_)⟩
    · have z : false = sizeG g s := by
        cases g <;> first | rfl | cases e
      rw [z]
      exact q
    · have e' : wholeG g = true := by
        cases y : wholeG g with
        | true => rfl
        | false =>
          rw [y] at e
          cases e
      obtain ⟨i, rfl, rfl⟩ := whole_int hv e'
      have q : Q (.bl ((decide (1 ≤ i) && decide (i ≤ 8)) && (!decide (s = "tree") || inV (.int i) sizeVs))) H := q
      refine ⟨_, rfl, _, _, rfl, rfl, _, rfl, iteB (fun e1 => ?_) (fun e1 => ?_)⟩
      · rw [e1, Bool.true_and] at q
        refine ⟨_, _, rfl, rfl, _, rfl, iteB (fun e2 => ?_) (fun e2 => ?_)⟩
        · have e3 : decide (i ≤ 8) = false := by simpa using e2
          rw [e3, Bool.false_and] at q
          exact q
        · have e3 : decide (i ≤ 8) = true := by simpa using e2
          rw [e3, Bool.true_and] at q
          refine ⟨_, rfl, rfl, _, rfl, iteB (fun e4 => ?_) (fun e4 => ?_)⟩
          · have e5 : decide (s = "tree") = false := by
              cases y : decide (s = ("tree" : Str)) with
              | false => rfl
              | true =>
                rw [of_decide_eq_true y] at e4
                exact absurd e4 (by decide)
            rw [e5] at q
            exact q
          · have e5 : decide (s = "tree") = true := by
              cases y : decide (V.str s = V.str "tree") with
              | false =>
                rw [y] at e4
                cases e4
              | true => exact decide_eq_true (V.str.inj (of_decide_eq_true y))
            rw [e5] at q
            exact ⟨_, rfl, aSizes, sizeVs, rfl, .inr (hZ H), rfl, rfl, q⟩
      · rw [e1, Bool.false_and, Bool.false_and] at q
        exact ⟨_, rfl, iteT q⟩
theorem ok_how (T : At K mg "how_many_bits" sHowMany ["size", "way"]) : Cal P w K mg base 1 "how_many_bits" ["size", "way"] spHow := by
  refine cal_of T scHowMany (fun vs H Q E h => ?_) (fun f cdv A outer s H vs Q E hr h => ?_)
  · obtain ⟨n, s, rfl, _⟩ := h
    rfl
  · obtain ⟨n, s, rfl, q⟩ := h
    refine ⟨_, (pss_one (ps_ret (pe_ifExp (pt_cmpR op_eq (pv 1) pe_str (nomark _)) (pe_op op_sub (pv 0) pe_int) pe_int))), ?_⟩
    unfold bitsN at q
    refine ⟨_, rfl, rfl, _, rfl, iteB (fun e => ?_) (fun e => ?_)⟩
    · rw [if_pos (V.str.inj (of_decide_eq_true e))] at q
      exact ⟨_, rfl, _, _, rfl, rfl, q⟩
    · rw [if_neg (fun z => by rw [z] at e; exact absurd e (by decide))] at q
      exact q
end
end Su
namespace Su
open PySem PySem.Spec PyProof.Rows L2
def numG : G → Int
  | .int i => i
  | _ => 0
/-- the rooms among slots -/
def roomsOf (ds : List G) : List Int := (ds.map numG).filter fun i => !decide (i = -1)
def areSlotsG : G → Int → Bool
  | .tup ds, n => decide ((ds.length : Int) = n) && (ds.all slotG && decide ((dd (roomsOf ds)).length = (roomsOf ds).length))
  | _, _ => false
def areBitsG : G → Int → Str → Bool
  | .tup ds, n, s => decide ((ds.length : Int) = bitsN n s) && ds.all bitG
  | _, _, _ => false
/-- its tuples are not long -/
def few : G → Prop
  | .tup ds => ds.length ≤ 100
  | _ => True
def few2 : G → Prop
  | .tup ds => ∀ d ∈ ds, few d
  | _ => True
def layG (g gs gw : G) : Bool := match gs, gw, g with
  | .int n, .str s, .tup [d1, d2] => wayG (.str s) && (sizeG (.int n) s && (areSlotsG d1 n && areBitsG d2 n s))
  | _, _, _ => false
def spSlots : Sp := fun vs H Q _ => ∃ (p : Addr) (v : V) (g : G) (n : Int), vs = [v, .int n] ∧ Tg p H v g ∧ few g ∧ ∀ H', Same H H' → Q (.bl (areSlotsG g n)) H'
def spBits : Sp := fun vs H Q _ => ∃ (p : Addr) (v : V) (g : G) (n : Int) (s : Str), vs = [v, .int n, .str s] ∧ Tg p H v g ∧ few g ∧ ∀ H', Same H H' → Q (.bl (areBitsG g n s)) H'
def spLay : Sp := fun vs H Q _ => ∃ (p : Addr) (v vs' vw : V) (g gs gw : G), vs = [v, vs', vw] ∧ Tg p H v g ∧ Tg p H vs' gs ∧ Tg p H vw gw ∧ few2 g ∧ ∀ H', Same H H' → Q (.bl (layG g gs gw)) H'
theorem tg_tup {p : Addr} {H : Hp} {v : V} {g : G} (h : Tg p H v g) (e : isTuple g = true) : ∃ a vs ds, v = .ref a ∧ g = .tup ds ∧ T2 H a vs ∧ TgL p H vs ds := by
  cases h with
  | tup e2 t => exact ⟨_, _, _, rfl, rfl, e2, t⟩
  | _ => cases e
theorem iteNT {c A B : Prop} [Decidable c] (hc : ¬ c) (h : A) : if (!decide c) = true then A else B := by
  rw [if_pos (by simp [hc])]
  exact h
theorem all_map (f : G → Bool) (ds : List G) : ((ds.map f).all id) = ds.all f := by
  rw [List.all_map]
  rfl
theorem bTrue {b : Bool} (h : (!b) = false) : b = true := by
  cases b
  · cases h
  · rfl
theorem bFalse {b : Bool} (h : (!b) = true) : b = false := by
  cases b
  · rfl
  · cases h
theorem dec_int' (a b : Int) : decide (V.int a = V.int b) = decide (a = b) := by
  by_cases h : a = b
  · subst h
    rw [decide_eq_true rfl, decide_eq_true rfl]
  · rw [decide_eq_false h, decide_eq_false (fun z => h (V.int.inj z))]
theorem scAreSlots : FnScope ["thing", "size", "rooms", "slot"] ["thing", "size"] (defScope sAreSlots) := ⟨rfl, rfl, rfl, by decide +kernel, rfl, by decide +kernel, by decide +kernel⟩
theorem scAreBits : FnScope ["thing", "size", "way", "bit"] ["thing", "size", "way"] (defScope sAreBits) := ⟨rfl, rfl, rfl, by decide +kernel, rfl, by decide +kernel, by decide +kernel⟩
section
variable {P : Program} {w : World} {K : PySem.W.Frag} {mg : Str → Option Value} {base : Heap}
theorem ok_slots (T : At K mg "are_slots" sAreSlots ["thing", "size"]) (B : Bt mg) (D : Gb K mg) (c_is_slot : Cal P w K mg base 3 "is_slot" ["thing"] spSlot) : Cal P w K mg base 4 "are_slots" ["thing", "size"] spSlots := by
  obtain ⟨te, mEmpty⟩ := D.empty
  refine cal_of T scAreSlots (fun vs H Q E h => ?_) (fun f cdv A outer s H vs Q E hr h => ?_)
  · obtain ⟨p, v, g, n, rfl, _⟩ := h
    rfl
  · obtain ⟨p, v, g, n, rfl, hv, hf, q⟩ := h
    refine ⟨_, (pss_cons (ps_if (PW.pt (pw_or (pt_not (pt_val (pe_callB call_isi (by rfl) B.isinstance (by decide +kernel) (pa_cons (pv 0) (pa_cons (pe_bltn (v := .ty "tuple") (u := .type "tuple") (by rfl) B.tuple (by decide +kernel) rfl) pa_nil))))) (pw_or1 (pt_cmpR op_ne (pe_callB call_len_seq (by rfl) B.len PySem.boot_len (pa_cons (pv 0) pa_nil)) (pv 1) (nomark _))))) (pss_one (ps_ret pe_bl)) pss_nil)
      (pss_cons (ps_if (pt_not (pt_val (pe_callB (cr_all rfl) (by rfl) B.all (by decide +kernel) (pa_cons (pe_lc (own := [("slot", 3)]) (g := (gName 3)) (tt := tYes) (te := (tCall spSlot [] E0 (tCons (tVar 3) tNil))) (by rfl) scAreSlots.nd (pi_tup (pv 0)) (blkOk_by (own := [("slot", 3)]) (N := ["thing", "size", "rooms", "slot"]) (sc := defScope sAreSlots) (by decide +kernel)) (fun _ _ _ _ _ => (pg_name (i := 3) scAreSlots.nd rfl (Or.inl rfl))) (fun _ _ _ _ _ => pts_nil) (fun _ _ _ _ _ => (pe_own c_is_slot hr (by decide) (by rfl) (pa_cons (pv 3) pa_nil)))) pa_nil)))) (pss_one (ps_ret pe_bl)) pss_nil)
      (pss_cons (ps_setLc (i := 2) (own := [("slot", 3)]) (g := (gName 3)) (tt := (tTest (tOp rNe (tVar 3) (tC (.int (-1)))))) (te := (tVar 3)) (by rfl) scAreSlots.nd rfl rfl (sw_true rfl rfl rfl (by decide +kernel)) (pi_tup (pv 0)) (blkOk_by (own := [("slot", 3)]) (N := ["thing", "size", "rooms", "slot"]) (sc := defScope sAreSlots) (by decide +kernel)) (fun _ _ _ _ _ => (pg_name (i := 3) scAreSlots.nd rfl (Or.inl rfl))) (fun _ _ _ _ _ => pts_one (pt_cmpR op_ne (pv 3) (pe_glob (v := .int (-1)) rfl mEmpty ⟨_, rfl⟩) (nomark _))) (fun _ _ _ _ _ => (pv 3)))
      (pss_one (ps_ret (pe_cmpR op_eq (pe_lenSet (by rfl) B.len (by rfl) B.set (pv 2)) (pe_callB call_len_seq (by rfl) B.len PySem.boot_len (pa_cons (pv 2) pa_nil)) (nomark _))))))), ?_⟩
    refine ⟨_, rfl, v, .ty "tuple", _, _, _, rfl, .ty "tuple", hv.ty, kit_tuple g, _, rfl, iteB (fun e => ?_) (fun e => ?_)⟩
    · have z : false = areSlotsG g n := by
        have e' := bFalse e
        cases g <;> first | rfl | cases e'
      have q' := q H (Same.refl H)
      rw [← z] at q'
      exact q'
    obtain ⟨a, ws, ds, rfl, rfl, tw, tl⟩ := tg_tup hv (bTrue e)
    have q : ∀ H', Same H H' → Q (.bl (decide ((ds.length : Int) = n) && (ds.all slotG && decide ((dd (roomsOf ds)).length = (roomsOf ds).length)))) H' := q
    have hf : ds.length ≤ 100 := hf
    have hwl : ws.length = ds.length := tl.len
    refine ⟨_, rfl, a, _, rfl, .inr tw.sq, _, rfl, rfl, _, rfl, iteB (fun e1 => ?_) (fun e1 => ?_)⟩
    · have z : decide ((ds.length : Int) = n) = false := by
        have y := bFalse e1
        rw [dec_int', hwl] at y
        exact y
      have q' := q H (Same.refl H)
      rw [z, Bool.false_and] at q'
      exact q'
    have z1 : decide ((ds.length : Int) = n) = true := by
      have y := bTrue e1
      rw [dec_int', hwl] at y
      exact y
    rw [z1] at q
    -- all([is_slot(slot) for slot in thing])
    refine ⟨_, rfl, a, rfl, ⟨_, tw.sq⟩, fun D nD => ?_⟩
    refine lc_tup (K := K) (a := a) (xs := ws) (fun i H2 => Same H H2 ∧ H2 D = some (.lst (((ds.take i).map slotG).map V.bl))) ?_ ?_ ?_ ?_
    · exact ⟨same_upd nD, upd_same⟩
    · rintro i H2 _ ⟨s2, _⟩
      exact ((Keeps.same (p := p) s2).tw _ _ tw).sq
    · rintro i x H2 hx ⟨s2, hD⟩
      obtain ⟨g0, eg, hg0⟩ := tl.get hx
      refine ⟨rfl, tyes ?_⟩
      refine ⟨_, rfl, p, x, g0, rfl, hg0.keep (Keeps.same s2), _, hD, ?_, ?_, ?_⟩
      · rw [List.length_map, List.length_map, List.length_take]
        exact small1000 (by omega)
      · intro c o ec
        rw [upd_ne (ne_of_none ec nD)]
        exact s2 _ _ ec
      · rw [upd_same, List.take_add_one, eg, List.map_append, List.map_append]
        rfl
    · rintro H2 ⟨s2, hD⟩
      rw [hwl, List.take_length] at hD
      refine ⟨D, ds.map slotG, rfl, SqL.of hD, _, rfl, ?_⟩
      rw [all_map]
      refine iteB (fun e2 => ?_) (fun e2 => ?_)
      · have q' := q H2 s2
        rw [bFalse e2] at q'
        exact q'
      have e3 := bTrue e2
      rw [e3] at q
      -- rooms
      have tw2 := (Keeps.same (p := p) s2).tw _ _ tw
      refine ⟨_, rfl, a, rfl, ⟨_, tw2.sq⟩, fun D2 nD2 => ?_⟩
      refine lc_tup (K := K) (a := a) (xs := ws) (fun i H3 => Same H2 H3 ∧ H3 D2 = some (.lst ((roomsOf (ds.take i)).map V.int))) ?_ ?_ ?_ ?_
      · exact ⟨same_upd nD2, upd_same⟩
      · rintro i H3 _ ⟨s3, _⟩
        exact ((Keeps.same (p := p) s3).tw _ _ tw2).sq
      · rintro i x H3 hx ⟨s3, hD3⟩
        obtain ⟨g0, eg, hg0⟩ := tl.get hx
        have hsg : slotG g0 = true := List.all_eq_true.mp e3 g0 (List.mem_of_getElem? eg)
        obtain ⟨j, rfl, rfl⟩ : ∃ j, x = .int j ∧ g0 = .int j := by
          cases hg0 with
          | int j => exact ⟨j, rfl, rfl⟩
          | _ => cases hsg
        have et : roomsOf (ds.take (i + 1)) = roomsOf (ds.take i) ++ ([j].filter fun i => !decide (i = -1)) := by
          unfold roomsOf
          rw [List.take_add_one, eg, List.map_append, List.filter_append]
          rfl
        refine ⟨rfl, _, rfl, rfl, _, rfl, ?_⟩
        by_cases ee : j = -1
        · refine iteNS (congrArg V.int ee) ⟨s3, ?_⟩
          rw [et, List.filter_cons_of_neg (by simpa using ee), List.filter_nil, List.append_nil]
          exact hD3
        · refine iteNT (fun y => ee (V.int.inj y)) ?_
          refine ⟨_, rfl, _, hD3, ?_, ?_, ?_⟩
          · rw [List.length_map]
            have h1 := List.length_filter_le (fun i : Int => !decide (i = -1)) ((ds.take i).map numG)
            rw [List.length_map, List.length_take] at h1
            exact small1000 (show (roomsOf (ds.take i)).length ≤ 1000 by unfold roomsOf; omega)
          · intro c o ec
            rw [upd_ne (ne_of_none ec nD2)]
            exact s3 _ _ ec
          · rw [upd_same, et, List.filter_cons_of_pos (by simpa using ee), List.filter_nil, List.map_append]
            rfl
      · rintro H3 ⟨s3, hD3⟩
        rw [hwl, List.take_length] at hD3
        have hrl : (roomsOf ds).length ≤ 1000 := by
          have h1 := List.length_filter_le (fun i : Int => !decide (i = -1)) (ds.map numG)
          rw [List.length_map] at h1
          unfold roomsOf
          omega
        refine ⟨_, rfl, D2, roomsOf ds, rfl, SqL.of hD3, hrl, _, rfl, D2, _, rfl, .inl (SqL.of hD3), rfl, ?_⟩
        rw [dec_int', List.length_map]
        have q' := q H3 (s2.trans s3)
        rw [show decide (((dd (roomsOf ds)).length : Int) = ((roomsOf ds).length : Int)) = decide ((dd (roomsOf ds)).length = (roomsOf ds).length) by
          by_cases y : (dd (roomsOf ds)).length = (roomsOf ds).length
          · rw [decide_eq_true y, decide_eq_true (by omega)]
          · rw [decide_eq_false y, decide_eq_false (by omega)]]
        exact q'
theorem ok_bits (T : At K mg "are_bits" sAreBits ["thing", "size", "way"]) (B : Bt mg) (c_is_bit : Cal P w K mg base 2 "is_bit" ["thing"] spBit) (c_how_many_bits : Cal P w K mg base 1 "how_many_bits" ["size", "way"] spHow) : Cal P w K mg base 3 "are_bits" ["thing", "size", "way"] spBits := by
  refine cal_of T scAreBits (fun vs H Q E h => ?_) (fun f cdv A outer s H vs Q E hr h => ?_)
  · obtain ⟨p, v, g, n, z, rfl, _⟩ := h
    rfl
  · obtain ⟨p, v, g, n, y, rfl, hv, hf, q⟩ := h
    refine ⟨_, (pss_cons (ps_if (PW.pt (pw_or (pt_not (pt_val (pe_callB call_isi (by rfl) B.isinstance (by decide +kernel) (pa_cons (pv 0) (pa_cons (pe_bltn (v := .ty "tuple") (u := .type "tuple") (by rfl) B.tuple (by decide +kernel) rfl) pa_nil))))) (pw_or1 (pt_cmpR op_ne (pe_callB call_len_seq (by rfl) B.len PySem.boot_len (pa_cons (pv 0) pa_nil)) (pe_own c_how_many_bits hr (by decide) (by rfl) (pa_cons (pv 1) (pa_cons (pv 2) pa_nil))) (nomark _))))) (pss_one (ps_ret pe_bl)) pss_nil)
      (pss_one (ps_ret (pe_callB (cr_all rfl) (by rfl) B.all (by decide +kernel) (pa_cons (pe_lc (own := [("bit", 3)]) (g := (gName 3)) (tt := tYes) (te := (tCall spBit [] E0 (tCons (tVar 3) tNil))) (by rfl) scAreBits.nd (pi_tup (pv 0)) (blkOk_by (own := [("bit", 3)]) (N := ["thing", "size", "way", "bit"]) (sc := defScope sAreBits) (by decide +kernel)) (fun _ _ _ _ _ => (pg_name (i := 3) scAreBits.nd rfl (Or.inl rfl))) (fun _ _ _ _ _ => pts_nil) (fun _ _ _ _ _ => (pe_own c_is_bit hr (by decide) (by rfl) (pa_cons (pv 3) pa_nil)))) pa_nil))))), ?_⟩
    refine ⟨_, rfl, v, .ty "tuple", _, _, _, rfl, .ty "tuple", hv.ty, kit_tuple g, _, rfl, iteB (fun e => ?_) (fun e => ?_)⟩
    · have z : false = areBitsG g n y := by
        have e' := bFalse e
        cases g <;> first | rfl | cases e'
      have q' := q H (Same.refl H)
      rw [← z] at q'
      exact q'
    obtain ⟨a, ws, ds, rfl, rfl, tw, tl⟩ := tg_tup hv (bTrue e)
    have q : ∀ H', Same H H' → Q (.bl (decide ((ds.length : Int) = bitsN n y) && ds.all bitG)) H' := q
    have hf : ds.length ≤ 100 := hf
    have hwl : ws.length = ds.length := tl.len
    refine ⟨_, rfl, a, _, rfl, .inr tw.sq, _, rfl, _, rfl, n, y, rfl, rfl, _, rfl, iteB (fun e1 => ?_) (fun e1 => ?_)⟩
    · have z : decide ((ds.length : Int) = bitsN n y) = false := by
        have y := bFalse e1
        rw [dec_int', hwl] at y
        exact y
      have q' := q H (Same.refl H)
      rw [z, Bool.false_and] at q'
      exact q'
    have z1 : decide ((ds.length : Int) = bitsN n y) = true := by
      have y := bTrue e1
      rw [dec_int', hwl] at y
      exact y
    rw [z1] at q
    refine ⟨_, rfl, a, rfl, ⟨_, tw.sq⟩, fun D nD => ?_⟩
    refine lc_tup (K := K) (a := a) (xs := ws) (fun i H2 => Same H H2 ∧ H2 D = some (.lst (((ds.take i).map bitG).map V.bl))) ?_ ?_ ?_ ?_
    · exact ⟨same_upd nD, upd_same⟩
    · rintro i H2 _ ⟨s2, _⟩
      exact ((Keeps.same (p := p) s2).tw _ _ tw).sq
    · rintro i x H2 hx ⟨s2, hD⟩
      obtain ⟨g0, eg, hg0⟩ := tl.get hx
      refine ⟨rfl, tyes ?_⟩
      refine ⟨_, rfl, p, x, g0, rfl, hg0.keep (Keeps.same s2), _, hD, ?_, ?_, ?_⟩
      · rw [List.length_map, List.length_map, List.length_take]
        exact small1000 (by omega)
      · intro c o ec
        rw [upd_ne (ne_of_none ec nD)]
        exact s2 _ _ ec
      · rw [upd_same, List.take_add_one, eg, List.map_append, List.map_append]
        rfl
    · rintro H2 ⟨s2, hD⟩
      rw [hwl, List.take_length] at hD
      refine ⟨D, ds.map bitG, rfl, SqL.of hD, ?_⟩
      rw [all_map]
      exact q H2 s2
theorem tg_str {p : Addr} {H : Hp} {v : V} {g : G} (h : Tg p H v g) (e : wayG g = true) : ∃ s, v = .str s ∧ g = .str s := by
  cases h with
  | str s => exact ⟨s, rfl, rfl⟩
  | _ => cases e
theorem tg_size {p : Addr} {H : Hp} {v : V} {g : G} {s : Str} (h : Tg p H v g) (e : sizeG g s = true) : ∃ i, v = .int i ∧ g = .int i := by
  cases h with
  | int i => exact ⟨i, rfl, rfl⟩
  | _ => cases e
theorem layG_way {g gs gw : G} (e : wayG gw = false) : layG g gs gw = false := by
  unfold layG
  split
  · rw [e, Bool.false_and]
  · rfl
theorem layG_size {g gs : G} {s : Str} (e : sizeG gs s = false) : layG g gs (.str s) = false := by
  cases gs with
  | int n =>
    cases g with
    | tup ds =>
      match ds with
      | [] => rfl
      | [_] => rfl
      | [d1, d2] =>
        show (wayG (.str s) && (sizeG (.int n) s && (areSlotsG d1 n && areBitsG d2 n s))) = false
        rw [e, Bool.false_and, Bool.and_false]
      | _ :: _ :: _ :: _ => rfl
    | _ => rfl
  | _ => rfl
end
end Su
/-! ### S1: a shelf made, of things of any kind -/
namespace Su
open PySem PySem.Spec PyProof.Rows L2
def strG : G → Str
  | .str s => s
  | _ => ""
def isNon : G → Bool
  | .non => true
  | _ => false
/-- the part that isn't so -/
def partG (gz gw gc gm : G) : Option Str :=
  if wayG gw = true then (if sizeG gz (strG gw) = true then (if (!isNon gc && !areSlotsG gc (numG gz)) = true then some "slots" else if (!isNon gm && !areBitsG gm (numG gz) (strG gw)) = true then some "bits" else none) else some "size") else some "way"
def optV : Option Str → V
  | none => .non
  | some s => .str s
def spPart : Sp := fun vs H Q _ => ∃ (p : Addr) (vz vw vc vm : V) (gz gw gc gm : G), vs = [vz, vw, vc, vm] ∧ Tg p H vz gz ∧ Tg p H vw gw ∧ Tg p H vc gc ∧ Tg p H vm gm ∧ few gc ∧ few gm ∧ ∀ H', Same H H' → Q (optV (partG gz gw gc gm)) H'
theorem way_str {p : Addr} {H : Hp} {v : V} {g : G} (h : Tg p H v g) (e : wayG g = true) : ∃ s, v = .str s ∧ g = .str s := by
  cases h with
  | str s => exact ⟨s, rfl, rfl⟩
  | _ => cases e
theorem size_int {p : Addr} {H : Hp} {v : V} {g : G} {s : Str} (h : Tg p H v g) (e : sizeG g s = true) : ∃ n, v = .int n ∧ g = .int n := by
  cases h with
  | int n => exact ⟨n, rfl, rfl⟩
  | _ => cases e
theorem non_dec {p : Addr} {H : Hp} {v : V} {g : G} (h : Tg p H v g) : decide (v = .non) = isNon g := by
  cases h <;> rfl
theorem mid {R M : L2.St → Hp → Prop} {G : Prop} (hR : ∀ σ H, M σ H → R σ H) (h : (∀ σ H, M σ H → R σ H) → G) : G := h hR
theorem sc_wrong_part : FnScope ["size", "way", "slots", "bits"] ["size", "way", "slots", "bits"] (defScope s_wrong_part) := ⟨rfl, rfl, rfl, by decide +kernel, rfl, by decide +kernel, by decide +kernel⟩
section
variable {P : Program} {w : World} {K : PySem.W.Frag} {mg : Str → Option Value} {base : Heap}
theorem ok_part (T : At K mg "wrong_part" s_wrong_part ["size", "way", "slots", "bits"]) (c_is_way : Cal P w K mg base 1 "is_way" ["thing"] spWay) (c_is_size : Cal P w K mg base 2 "is_size" ["thing", "way"] spSize) (c_are_slots : Cal P w K mg base 4 "are_slots" ["thing", "size"] spSlots)
    (c_are_bits : Cal P w K mg base 3 "are_bits" ["thing", "size", "way"] spBits) : Cal P w K mg base 5 "wrong_part" ["size", "way", "slots", "bits"] spPart := by
  refine cal_of T sc_wrong_part (fun vs H Q E h => ?_) (fun f cdv A outer s H vs Q E hr h => ?_)
  · obtain ⟨p, vz, vw, vc, vm, gz, gw, gc, gm, rfl, _⟩ := h
    rfl
  · obtain ⟨p, vz, vw, vc, vm, gz, gw, gc, gm, rfl, hz, hw, hc, hm, fc, fm, q⟩ := h
    refine ⟨_, (pss_cons (ps_if (pt_not (pt_val (pe_own c_is_way hr (by decide) (by rfl) (pa_cons (pv 1) pa_nil)))) (pss_one (ps_ret pe_str)) pss_nil)
      (pss_cons (ps_if (pt_not (pt_val (pe_own c_is_size hr (by decide) (by rfl) (pa_cons (pv 0) (pa_cons (pv 1) pa_nil))))) (pss_one (ps_ret pe_str)) pss_nil)
      (pss_cons (ps_if (PW.pt (pw_and (pt_cmpR op_notN (pv 2) pe_non (nomark _)) (pw_and1 (pt_not (pt_val (pe_own c_are_slots hr (by decide) (by rfl) (pa_cons (pv 2) (pa_cons (pv 0) pa_nil)))))))) (pss_one (ps_ret pe_str)) pss_nil)
      (pss_cons (ps_if (PW.pt (pw_and (pt_cmpR op_notN (pv 3) pe_non (nomark _)) (pw_and1 (pt_not (pt_val (pe_own c_are_bits hr (by decide) (by rfl) (pa_cons (pv 3) (pa_cons (pv 0) (pa_cons (pv 1) pa_nil))))))))) (pss_one (ps_ret pe_str)) pss_nil)
      (pss_one (ps_ret pe_non)))))), ?_⟩
    refine ⟨_, rfl, p, vw, gw, rfl, hw, _, rfl, iteB (fun e => ?_) (fun e => ?_)⟩
    · have z := q H (Same.refl H)
      unfold partG at z
      rw [if_neg (by rw [bFalse e]; exact Bool.false_ne_true)] at z
      exact z
    have e1 := bTrue e
    obtain ⟨st, rfl, rfl⟩ := way_str hw e1
    unfold partG at q
    rw [if_pos e1] at q
    refine ⟨_, rfl, _, rfl, p, vz, gz, st, rfl, hz, _, rfl, iteB (fun e => ?_) (fun e => ?_)⟩
    · have z := q H (Same.refl H)
      rw [if_neg (by rw [show sizeG gz (strG (.str st)) = false from bFalse e]; exact Bool.false_ne_true)] at z
      exact z
    have e2 := bTrue e
    obtain ⟨n, rfl, rfl⟩ := size_int hz e2
    rw [if_pos (show sizeG (.int n) (strG (.str st)) = true from e2)] at q
    apply mid (M := fun σ H1 => σ = [some (.int n), some (.str st), some vc, some vm] ∧ Same H H1 ∧ (!isNon gc && !areSlotsG gc n) = false)
    case h =>
      intro rest
      refine ⟨_, rfl, rfl, _, rfl, ?_⟩
      rw [non_dec hc]
      refine iteB (fun z => ?_) (fun z => ?_)
      rotate_left
      · exact iteF (rest _ _ ⟨rfl, Same.refl H, by rw [z, Bool.false_and]⟩)
      refine ⟨_, rfl, _, rfl, p, vc, gc, n, rfl, hc, fc, fun H1 s1 => ⟨_, rfl, iteB (fun z2 => ?_) (fun z2 => ?_)⟩⟩
      · have y := q H1 s1
        rw [if_pos (show (!isNon gc && !areSlotsG gc (numG (.int n))) = true by rw [z, show (!areSlotsG gc (numG (.int n))) = true from z2]; rfl)] at y
        exact y
      · exact rest _ _ ⟨rfl, s1, by rw [z2, Bool.and_false]⟩
    case hR =>
      rintro _ H1 ⟨rfl, s1, e3⟩
      rw [if_neg (show ¬ (!isNon gc && !areSlotsG gc (numG (.int n))) = true by rw [show (!isNon gc && !areSlotsG gc (numG (.int n))) = false from e3]; exact Bool.false_ne_true)] at q
      have hm1 := hm.keep (Keeps.same s1)
      refine ⟨_, rfl, rfl, _, rfl, ?_⟩
      rw [non_dec hm]
      refine iteB (fun z => ?_) (fun z => ?_)
      rotate_left
      · refine iteF ?_
        have y := q H1 s1
        rw [if_neg (by rw [z, Bool.false_and]; exact Bool.false_ne_true)] at y
        exact y
      refine ⟨_, rfl, _, rfl, _, rfl, p, vm, gm, n, st, rfl, hm1, fm, fun H2 s2 => ⟨_, rfl, iteB (fun z2 => ?_) (fun z2 => ?_)⟩⟩
      · have y := q H2 (s1.trans s2)
        rw [if_pos (show (!isNon gm && !areBitsG gm (numG (.int n)) (strG (.str st))) = true by rw [z, show (!areBitsG gm (numG (.int n)) (strG (.str st))) = true from z2]; rfl)] at y
        exact y
      · have y := q H2 (s1.trans s2)
        rw [if_neg (show ¬ (!isNon gm && !areBitsG gm (numG (.int n)) (strG (.str st))) = true by rw [show (!areBitsG gm (numG (.int n)) (strG (.str st))) = false from z2, Bool.and_false]; exact Bool.false_ne_true)] at y
        exact y
end
end Su
/-! ### S2: the class of shelves -/
namespace Su
open PySem PySem.Spec PyProof.Rows L2
/-- what the written part says of the class at C -/
structure ShC (K : PySem.W.Frag) (C : Addr) : Prop where
  cl : Cls K C
  many : NoAttr K C "many"
  kept : NoAttr K C "kept_by"
  slots : NoAttr K C "slots"
  bits : NoAttr K C "bits"
  near : NoAttr K C "near"
  far : NoAttr K C "far"
/-- the fields of a shelf -/
def shF (vz vw va vb : V) (n f : Int) : List (Str × V) := [("many", vz), ("kept_by", vw), ("slots", va), ("bits", vb), ("near", .int n), ("far", .int f)]
def slotsI (g : G) (n : Int) : List Int := match g with
  | .tup ds => ds.map numG
  | _ => List.replicate n.toNat (-1)
def bitsI (g : G) (n : Int) (s : Str) : List Int := match g with
  | .tup ds => ds.map numG
  | _ => List.replicate (bitsN n s).toNat 0
def spInit (C CN : Addr) : Sp := fun vs H Q E => ∃ (p x dx : Addr) (vz vw vc vm : V) (gz gw gc gm : G), vs = [.ref x, vz, vw, vc, vm] ∧ H x = some (.ins C dx []) ∧ Tg p H vz gz ∧ Tg p H vw gw ∧ Tg p H vc gc ∧ Tg p H vm gm ∧ few gc ∧ few gm ∧
  (partG gz gw gc gm = none → ∀ (a b : Addr) (H' : Hp), (∀ c o, H c = some o → c ≠ x → H' c = some o) → H' x = some (.ins C dx (shF vz vw (.ref a) (.ref b) 0 0)) → T2 H' a ((slotsI gc (numG gz)).map V.int) → T2 H' b ((bitsI gm (numG gz) (strG gw)).map V.int) → Q .non H') ∧
  ∀ s, partG gz gw gc gm = some s → ∀ (H' : Hp) (d : Addr), Same H H' → H d = none → H' d = some (.xd [("part", .str s)]) → E (.ref CN) (some d) H'
theorem mid4 {t : TT} {ta tb : TE} {σ : L2.St} {H0 : Hp} {R : V → Hp → Prop} (M : V → Hp → Prop) (hR : ∀ v H, M v H → R v H) (h : (∀ v H, M v H → R v H) → tIf t ta tb σ H0 R) : tIf t ta tb σ H0 R := h hR
theorem mid5 {K : PySem.W.Frag} {fl : Str} {t : TT} {to ta tb : TE} {S : TS} {D : Ends} {r : V → Hp → Prop} {b c : L2.St → Hp → Prop} {σ : L2.St} {H0 : Hp} (M : V → Hp → Prop)
    (hR : ∀ v H, M v H → to σ H fun x H2 => ∃ a C dx fs, x = V.ref a ∧ H2 a = some (HO.ins C dx fs) ∧ Cls K C ∧ NoAttr K C fl ∧ fs.length < 1000 ∧ (Ends.mk (S D) r b c).nx σ (upd H2 a (HO.ins C dx (putF fl v fs))))
    (h : ∀ R : V → Hp → Prop, (∀ v H, M v H → R v H) → tIf t ta tb σ H0 R) : (Ends.mk (tSeq (sFld K to (tIf t ta tb) fl) S D) r b c).nx σ H0 := h _ hR
theorem ints_of_slots {p : Addr} {H : Hp} : ∀ {vs : List V} {ds : List G}, TgL p H vs ds → (∀ d ∈ ds, wholeG d = true) → vs = (ds.map numG).map V.int
  | _, _, .nil, _ => rfl
  | _, _, .cons (d := d) h t, e => by
    have e1 := e d List.mem_cons_self
    rw [List.map_cons, List.map_cons, ← ints_of_slots t fun x hx => e x (List.mem_cons_of_mem _ hx)]
    cases h with
    | int i => rfl
    | _ => cases e1
theorem slot_whole {d : G} (h : slotG d = true) : wholeG d = true := by
  cases d <;> first | rfl | cases h
theorem bit_whole {d : G} (h : bitG d = true) : wholeG d = true := by
  cases d <;> first | rfl | cases h
/-- what a part that is none tells -/
theorem part_none {gz gw gc gm : G} (h : partG gz gw gc gm = none) : wayG gw = true ∧ sizeG gz (strG gw) = true ∧ (isNon gc = true ∨ areSlotsG gc (numG gz) = true) ∧ (isNon gm = true ∨ areBitsG gm (numG gz) (strG gw) = true) := by
  unfold partG at h
  split at h
  · rename_i e1
    split at h
    · rename_i e2
      split at h
      · cases h
      · rename_i e3
        split at h
        · cases h
        · rename_i e4
          refine ⟨e1, e2, ?_, ?_⟩
          · cases a : isNon gc <;> cases b : areSlotsG gc (numG gz) <;> simp_all
          · cases a : isNon gm <;> cases b : areBitsG gm (numG gz) (strG gw) <;> simp_all
    · cases h
  · cases h
theorem size_rng {n : Int} {s : Str} (h : sizeG (.int n) s = true) : 1 ≤ n ∧ n ≤ 8 := by
  have z : ((decide (1 ≤ n) && decide (n ≤ 8)) && (!decide (s = "tree") || inV (.int n) sizeVs)) = true := h
  rw [Bool.and_eq_true, Bool.and_eq_true, decide_eq_true_eq, decide_eq_true_eq] at z
  exact z.1
theorem rep_ints (k : Nat) (i : Int) : (List.replicate k [V.int i]).flatten = (List.replicate k i).map V.int := by
  induction k with
  | zero => rfl
  | succ k ih =>
    rw [List.replicate_succ, List.flatten_cons, ih, List.replicate_succ]
    rfl
theorem slots_non {g : G} {n : Int} (z : isNon g = true) : slotsI g n = List.replicate n.toNat (-1) := by
  cases g <;> first | rfl | cases z
theorem bits_non {g : G} {n : Int} {s : Str} (z : isNon g = true) : bitsI g n s = List.replicate (bitsN n s).toNat 0 := by
  cases g <;> first | rfl | cases z
theorem slots_tup {p : Addr} {H : Hp} {v : V} {g : G} {n : Int} (hc : Tg p H v g) (sl : areSlotsG g n = true) : ∃ a, v = .ref a ∧ T2 H a ((slotsI g n).map V.int) := by
  obtain ⟨a, vs, ds, rfl, rfl, ha, tl⟩ := tg_tup hc (by cases g <;> first | rfl | cases sl)
  have sl2 : (decide ((ds.length : Int) = n) && (ds.all slotG && decide ((dd (roomsOf ds)).length = (roomsOf ds).length))) = true := sl
  rw [Bool.and_eq_true, Bool.and_eq_true] at sl2
  have hv := ints_of_slots tl fun d hd => slot_whole (List.all_eq_true.mp sl2.2.1 d hd)
  refine ⟨a, rfl, ?_⟩
  show T2 H a ((ds.map numG).map V.int)
  rw [← hv]
  exact ha
theorem bits_tup {p : Addr} {H : Hp} {v : V} {g : G} {n : Int} {s : Str} (hc : Tg p H v g) (sl : areBitsG g n s = true) : ∃ a, v = .ref a ∧ T2 H a ((bitsI g n s).map V.int) := by
  obtain ⟨a, vs, ds, rfl, rfl, ha, tl⟩ := tg_tup hc (by cases g <;> first | rfl | cases sl)
  have sl2 : (decide ((ds.length : Int) = bitsN n s) && ds.all bitG) = true := sl
  rw [Bool.and_eq_true] at sl2
  have hv := ints_of_slots tl fun d hd => bit_whole (List.all_eq_true.mp sl2.2 d hd)
  refine ⟨a, rfl, ?_⟩
  show T2 H a ((ds.map numG).map V.int)
  rw [← hv]
  exact ha
theorem scS_init : FnScope ["self", "size", "way", "slots", "bits", "part"] ["self", "size", "way", "slots", "bits"] (defScope sS_init) := ⟨rfl, rfl, rfl, by decide +kernel, rfl, by decide +kernel, by decide +kernel⟩
section
variable {P : Program} {w : World} {K : PySem.W.Frag} {mg : Str → Option Value} {base : Heap}
theorem ok_init {C CN fI : Addr} {newId initId : String} {bmB : List Value} (SC : ShC K C) (OS : XC.Own P K mg "NoShelf" "part" CN fI "ValueError" newId initId bmB) (D : Gb K mg) (B : Bt mg) {f : Addr} {fd : FuncData} {dvs : List V} {kws : List (Str × V)} (F : FunD K "__init__" "Shelf.__init__" (defArgs sS_init) (defBody sS_init) (defScope sS_init) dvs kws f fd)
    (c_wrong_part : Cal P w K mg base 5 "wrong_part" ["size", "way", "slots", "bits"] spPart) (c_how_many_bits : Cal P w K mg base 1 "how_many_bits" ["size", "way"] spHow) : FnOk P w K mg base (L2.CX P w) 6 f fd ["self", "size", "way", "slots", "bits"] (spInit C CN) := by
  obtain ⟨te, mEmpty⟩ := D.empty
  refine FunD.ok (CX := L2.CX P w) F scS_init (fun vs H Q E h => ?_) (fun cdv A outer s H vs Q E hr h => ?_)
  · obtain ⟨p, x, dx, vz, vw, vc, vm, gz, gw, gc, gm, rfl, _⟩ := h
    rfl
  · obtain ⟨p, x, dx, vz, vw, vc, vm, gz, gw, gc, gm, rfl, hx, hz, hw, hc, hm, fc, fm, qy, qn⟩ := h
    refine ⟨_, (pss_cons (ps_set (i := 5) scS_init.nd rfl (Or.inl rfl) (pe_own c_wrong_part hr (by decide) (by rfl) (pa_cons (pv 1) (pa_cons (pv 2) (pa_cons (pv 3) (pa_cons (pv 4) pa_nil))))))
      (pss_cons (ps_if (pt_cmpR op_notN (pv 5) pe_non (nomark _)) (pss_one (ps_raiseX rfl OS hr (takes_of rfl rfl rfl rfl) (pa_cons (pv 5) pa_nil))) pss_nil)
      (pss_cons (ps_fld (pv 0) (pv 1) (by rfl))
      (pss_cons (ps_fld (pv 0) (pv 2) (by rfl))
      (pss_cons (ps_fld (pv 0) (pe_ifExp (pt_cmpR op_isN (pv 3) pe_non (nomark _)) (pe_op op_repF (pe_tupF (pa_cons (pe_glob (v := .int (-1)) rfl mEmpty ⟨_, rfl⟩) pa_nil)) (pv 1)) (pe_callTy call_tupleT (by rfl) B.tuple (by decide +kernel) (pa_cons (pv 3) pa_nil))) (by rfl))
      (pss_cons (ps_fld (pv 0) (pe_ifExp (pt_cmpR op_isN (pv 4) pe_non (nomark _)) (pe_op op_repF (pe_tupF (pa_cons pe_int pa_nil)) (pe_own c_how_many_bits hr (by decide) (by rfl) (pa_cons (pv 1) (pa_cons (pv 2) pa_nil)))) (pe_callTy call_tupleT (by rfl) B.tuple (by decide +kernel) (pa_cons (pv 4) pa_nil))) (by rfl))
      (pss_cons (ps_fld (pv 0) pe_int (by rfl))
      (pss_one (ps_fld (pv 0) pe_int (by rfl)))))))))), ?_⟩
    refine ⟨_, rfl, _, rfl, _, rfl, _, rfl, p, vz, vw, vc, vm, gz, gw, gc, gm, rfl, hz, hw, hc, hm, fc, fm, fun H1 s1 => ?_⟩
    refine ⟨_, rfl, rfl, _, rfl, ?_⟩
    cases hp : partG gz gw gc gm with
    | some st =>
      refine iteB (fun _ => ?_) (fun z => by cases z)
      exact ⟨_, rfl, _, rfl, fun d hd => qn st hp _ d (s1.trans (same_upd hd)) (s1.free hd) upd_same⟩
    | none =>
      refine iteB (fun z => by cases z) (fun _ => ?_)
      obtain ⟨p1, p2, p3, p4⟩ := part_none hp
      obtain ⟨st, rfl, rfl⟩ := way_str hw p1
      obtain ⟨n, rfl, rfl⟩ := size_int hz p2
      obtain ⟨n1, n8⟩ := size_rng p2
      have hx1 := s1 _ _ hx
      refine ⟨_, rfl, _, rfl, x, C, dx, [], rfl, hx1, SC.cl, SC.many, (by decide), ?_⟩
      refine ⟨_, rfl, _, rfl, x, C, dx, _, rfl, upd_same, SC.cl, SC.kept, (by show 1 < 1000; decide), ?_⟩
      have hx3 : (upd (upd H1 x (.ins C dx (putF "many" (.int n) []))) x (.ins C dx (putF "kept_by" (.str st) (putF "many" (.int n) [])))) x = some (.ins C dx [("many", .int n), ("kept_by", .str st)]) := upd_same
      have kp3 : ∀ c o, H c = some o → c ≠ x → (upd (upd H1 x (.ins C dx (putF "many" (.int n) []))) x (.ins C dx (putF "kept_by" (.str st) (putF "many" (.int n) [])))) c = some o := fun c o e ne => by
        rw [upd_ne ne, upd_ne ne]
        exact s1 _ _ e
      have t3 : ∀ a xs, T2 H a xs → T2 (upd (upd H1 x (.ins C dx (putF "many" (.int n) []))) x (.ins C dx (putF "kept_by" (.str st) (putF "many" (.int n) [])))) a xs := fun a xs h => K2.upd (o := .ins C dx (putF "many" (.int n) [])) upd_same (fun _ z => nomatch z) (fun _ _ z => nomatch z) _ _ (K2.upd hx1 (fun _ z => nomatch z) (fun _ _ z => nomatch z) _ _ (h.same s1))
      generalize upd (upd H1 x (.ins C dx (putF "many" (.int n) []))) x (.ins C dx (putF "kept_by" (.str st) (putF "many" (.int n) []))) = H3 at hx3 kp3 t3 ⊢
      refine mid5 (M := fun v H4 => ∃ a, v = .ref a ∧ T2 H4 a ((slotsI gc n).map V.int) ∧ H4 x = some (.ins C dx [("many", .int n), ("kept_by", .str st)]) ∧ (∀ c o, H c = some o → c ≠ x → H4 c = some o) ∧ ∀ a xs, T2 H a xs → T2 H4 a xs) ?hR ?h
      case h =>
        intro R rest
        refine ⟨_, rfl, rfl, _, rfl, ?_⟩
        rw [non_dec hc]
        refine iteB (fun z => ?_) (fun z => ?_)
        · refine ⟨(by show 1 ≤ sizeLine; decide), fun t H4 s4 nt pt => ?_⟩
          refine ⟨_, rfl, t, n, [V.int (-1)], rfl, rfl, pt, (by simp), by omega, by omega, (by show 1 ≤ 1000; decide), fun v H5 s5 hv => ?_⟩
          refine rest _ _ ⟨v, rfl, ?_, s5 _ _ (s4 _ _ hx3), fun c o e ne => s5 _ _ (s4 _ _ (kp3 c o e ne)), fun a xs h => ((t3 a xs h).same s4).same s5⟩
          rw [rep_ints] at hv
          rw [slots_non z]
          exact .inl hv
        · have sl : areSlotsG gc n = true := by
            rcases p3 with y | y
            · rw [y] at z
              cases z
            · exact y
          obtain ⟨a, ea, ha⟩ := slots_tup hc sl
          refine ⟨_, rfl, a, _, (by show [vc] = [V.ref a]; rw [ea]), (t3 _ _ ha).sq, ?_⟩
          exact rest (V.ref a) H3 ⟨a, rfl, t3 _ _ ha, hx3, kp3, t3⟩
      case hR =>
        rintro _ H4 ⟨a, rfl, ta, hx4, kp4, t4⟩
        refine ⟨_, rfl, x, C, dx, _, rfl, hx4, SC.cl, SC.slots, (by show 2 < 1000; decide), ?_⟩
        have hx5 : (upd H4 x (.ins C dx (putF "slots" (.ref a) [("many", .int n), ("kept_by", .str st)]))) x = some (.ins C dx [("many", .int n), ("kept_by", .str st), ("slots", .ref a)]) := upd_same
        have ta5 : T2 (upd H4 x (.ins C dx (putF "slots" (.ref a) [("many", .int n), ("kept_by", .str st)]))) a ((slotsI gc n).map V.int) := K2.upd hx4 (fun _ z => nomatch z) (fun _ _ z => nomatch z) _ _ ta
        have kp5 : ∀ c o, H c = some o → c ≠ x → (upd H4 x (.ins C dx (putF "slots" (.ref a) [("many", .int n), ("kept_by", .str st)]))) c = some o := fun c o e ne => by
          rw [upd_ne ne]
          exact kp4 c o e ne
        have t5 : ∀ b xs, T2 H b xs → T2 (upd H4 x (.ins C dx (putF "slots" (.ref a) [("many", .int n), ("kept_by", .str st)]))) b xs := fun b xs h => K2.upd hx4 (fun _ z => nomatch z) (fun _ _ z => nomatch z) _ _ (t4 b xs h)
        generalize upd H4 x (.ins C dx (putF "slots" (.ref a) [("many", .int n), ("kept_by", .str st)])) = H5 at hx5 ta5 kp5 t5 ⊢
        refine mid5 (M := fun v H6 => ∃ b, v = .ref b ∧ T2 H6 b ((bitsI gm n st).map V.int) ∧ T2 H6 a ((slotsI gc n).map V.int) ∧ H6 x = some (.ins C dx [("many", .int n), ("kept_by", .str st), ("slots", .ref a)]) ∧ ∀ c o, H c = some o → c ≠ x → H6 c = some o) ?hR ?h
        case h =>
          intro R rest
          refine ⟨_, rfl, rfl, _, rfl, ?_⟩
          rw [non_dec hm]
          refine iteB (fun z => ?_) (fun z => ?_)
          · refine ⟨(by show 1 ≤ sizeLine; decide), fun t H6 s6 nt pt => ?_⟩
            refine ⟨_, rfl, _, rfl, n, st, rfl, ?_⟩
            have hb : 0 ≤ bitsN n st ∧ bitsN n st ≤ 1000 := by
              unfold bitsN
              split <;> omega
            refine ⟨t, bitsN n st, [V.int 0], rfl, rfl, pt, (by simp), hb.1, hb.2, (by show 1 ≤ 1000; decide), fun v H7 s7 hv => ?_⟩
            refine rest _ _ ⟨v, rfl, ?_, (ta5.same s6).same s7, s7 _ _ (s6 _ _ hx5), fun c o e ne => s7 _ _ (s6 _ _ (kp5 c o e ne))⟩
            rw [rep_ints] at hv
            rw [bits_non z]
            exact .inl hv
          · have sl : areBitsG gm n st = true := by
              rcases p4 with y | y
              · rw [y] at z
                cases z
              · exact y
            obtain ⟨b, eb, hb⟩ := bits_tup hm sl
            refine ⟨_, rfl, b, _, (by show [vm] = [V.ref b]; rw [eb]), (t5 _ _ hb).sq, ?_⟩
            exact rest (V.ref b) H5 ⟨b, rfl, t5 _ _ hb, ta5, hx5, kp5⟩
        case hR =>
          rintro _ H6 ⟨b, rfl, tb, ta6, hx6, kp6⟩
          refine ⟨_, rfl, x, C, dx, _, rfl, hx6, SC.cl, SC.bits, (by show 3 < 1000; decide), ?_⟩
          refine ⟨_, rfl, x, C, dx, _, rfl, upd_same, SC.cl, SC.near, (by show 4 < 1000; decide), ?_⟩
          refine ⟨_, rfl, x, C, dx, _, rfl, upd_same, SC.cl, SC.far, (by show 5 < 1000; decide), ?_⟩
          have K3 : ∀ {o1 o2 o3 : HO} {d : Addr} {xs : List V}, (∀ ys, o1 ≠ .tup ys) → (∀ c ys, o1 ≠ .frz c (.tup ys)) → (∀ ys, o2 ≠ .tup ys) → (∀ c ys, o2 ≠ .frz c (.tup ys)) → T2 H6 d xs → T2 (upd (upd (upd H6 x o1) x o2) x o3) d xs := fun n1 m1 n2 m2 h => K2.upd upd_same n2 m2 _ _ (K2.upd upd_same n1 m1 _ _ (K2.upd hx6 (fun _ z => nomatch z) (fun _ _ z => nomatch z) _ _ h))
          refine qy hp a b _ (fun c o e ne => ?_) upd_same (K3 (fun _ z => nomatch z) (fun _ _ z => nomatch z) (fun _ z => nomatch z) (fun _ _ z => nomatch z) ta6) (K3 (fun _ z => nomatch z) (fun _ _ z => nomatch z) (fun _ z => nomatch z) (fun _ _ z => nomatch z) tb)
          rw [upd_ne ne, upd_ne ne, upd_ne ne]
          exact kp6 c o e ne
end
end Su
/-! ### S3: what a shelf tells of itself -/
namespace Su
open PySem PySem.Spec PyProof.Rows L2
/-- a method that gives back a field -/
def spFld (C : Addr) (fl : Str) : Sp := fun vs H Q E => ∃ (x dx : Addr) (fs : List (Str × V)) (v : V), vs = [.ref x] ∧ H x = some (.ins C dx fs) ∧ fs.lookup fl = some v ∧ Q v H
/-- a method that gives back two fields, as a tuple -/
def spTwo (C : Addr) (f1 f2 : Str) : Sp := fun vs H Q E => ∃ (x dx : Addr) (fs : List (Str × V)) (v1 v2 : V), vs = [.ref x] ∧ H x = some (.ins C dx fs) ∧ fs.lookup f1 = some v1 ∧ fs.lookup f2 = some v2 ∧ ∀ t H', Same H H' → H t = none → PTup H' t [v1, v2] → Q (.ref t) H'
theorem scS_size : FnScope ["self"] ["self"] (defScope sS_size) := ⟨rfl, rfl, rfl, by decide +kernel, rfl, by decide +kernel, by decide +kernel⟩
theorem scS_way : FnScope ["self"] ["self"] (defScope sS_way) := ⟨rfl, rfl, rfl, by decide +kernel, rfl, by decide +kernel, by decide +kernel⟩
theorem scS_lay : FnScope ["self"] ["self"] (defScope sS_lay) := ⟨rfl, rfl, rfl, by decide +kernel, rfl, by decide +kernel, by decide +kernel⟩
theorem scS_counts : FnScope ["self"] ["self"] (defScope sS_counts) := ⟨rfl, rfl, rfl, by decide +kernel, rfl, by decide +kernel, by decide +kernel⟩
section
variable {P : Program} {w : World} {K : PySem.W.Frag} {mg : Str → Option Value} {base : Heap}
theorem okS_size {C : Addr} (SC : ShC K C) {f : Addr} {fd : FuncData} (F : Fun K "size" "Shelf.size" sS_size f fd) : FnOk P w K mg base CX0 1 f fd ["self"] (spFld C "many") := by
  refine F.ok scS_size (fun vs H Q E h => ?_) (fun cdv A outer s H vs Q E hr h => ?_)
  · obtain ⟨x, dx, fs, v, rfl, _⟩ := h
    rfl
  · obtain ⟨x, dx, fs, v, rfl, hx, hl, q⟩ := h
    refine ⟨_, (pss_one (ps_ret (pe_fld (pv 0) (by rfl)))), ?_⟩
    exact ⟨_, rfl, x, C, dx, fs, v, rfl, hx, SC.cl, SC.many, hl, q⟩
theorem okS_way {C : Addr} (SC : ShC K C) {f : Addr} {fd : FuncData} (F : Fun K "way" "Shelf.way" sS_way f fd) : FnOk P w K mg base CX0 1 f fd ["self"] (spFld C "kept_by") := by
  refine F.ok scS_way (fun vs H Q E h => ?_) (fun cdv A outer s H vs Q E hr h => ?_)
  · obtain ⟨x, dx, fs, v, rfl, _⟩ := h
    rfl
  · obtain ⟨x, dx, fs, v, rfl, hx, hl, q⟩ := h
    refine ⟨_, (pss_one (ps_ret (pe_fld (pv 0) (by rfl)))), ?_⟩
    exact ⟨_, rfl, x, C, dx, fs, v, rfl, hx, SC.cl, SC.kept, hl, q⟩
theorem okS_lay {C : Addr} (SC : ShC K C) {f : Addr} {fd : FuncData} (F : Fun K "lay" "Shelf.lay" sS_lay f fd) : FnOk P w K mg base CX0 1 f fd ["self"] (spTwo C "slots" "bits") := by
  refine F.ok scS_lay (fun vs H Q E h => ?_) (fun cdv A outer s H vs Q E hr h => ?_)
  · obtain ⟨x, dx, fs, v1, v2, rfl, _⟩ := h
    rfl
  · obtain ⟨x, dx, fs, v1, v2, rfl, hx, h1, h2, q⟩ := h
    refine ⟨_, (pss_one (ps_ret (pe_tupF (pa_cons (pe_fld (pv 0) (by rfl)) (pa_cons (pe_fld (pv 0) (by rfl)) pa_nil))))), ?_⟩
    refine ⟨_, rfl, x, C, dx, fs, v1, rfl, hx, SC.cl, SC.slots, h1, _, rfl, x, C, dx, fs, v2, rfl, hx, SC.cl, SC.bits, h2, (by show 2 ≤ sizeLine; decide), fun t H1 s1 nt pt => q t H1 s1 nt pt⟩
theorem okS_counts {C : Addr} (SC : ShC K C) {f : Addr} {fd : FuncData} (F : Fun K "counts" "Shelf.counts" sS_counts f fd) : FnOk P w K mg base CX0 1 f fd ["self"] (spTwo C "near" "far") := by
  refine F.ok scS_counts (fun vs H Q E h => ?_) (fun cdv A outer s H vs Q E hr h => ?_)
  · obtain ⟨x, dx, fs, v1, v2, rfl, _⟩ := h
    rfl
  · obtain ⟨x, dx, fs, v1, v2, rfl, hx, h1, h2, q⟩ := h
    refine ⟨_, (pss_one (ps_ret (pe_tupF (pa_cons (pe_fld (pv 0) (by rfl)) (pa_cons (pe_fld (pv 0) (by rfl)) pa_nil))))), ?_⟩
    refine ⟨_, rfl, x, C, dx, fs, v1, rfl, hx, SC.cl, SC.near, h1, _, rfl, x, C, dx, fs, v2, rfl, hx, SC.cl, SC.far, h2, (by show 2 ≤ sizeLine; decide), fun t H1 s1 nt pt => q t H1 s1 nt pt⟩
end
end Su
/-! ### S4: shelves made -/
namespace Su
open PySem PySem.Spec PyProof.Rows L2
def psI : List Str := ["self", "size", "way", "slots", "bits"]
def dvI : List V := [.int 4, .str "last", .non, .non]
/-- a class that may be made by its name -/
structure MakS (P : Program) (w : World) (K : PySem.W.Frag) (mg : Str → Option Value) (base : Heap) (k : Nat) (C : Addr) (sp : Sp) : Prop where
  ex : ∃ (f : Addr) (fd : FuncData), L2.Mk K C f ∧ FnOk P w K mg base (L2.CX P w) k f fd psI sp ∧ mg "Shelf" = some (.ref C) ∧ Binds K fd psI [] ∧ (∃ ds, Vals dvI ds ∧ Binds K fd psI ds) ∧
    (∃ its : List Value, KBn K fd psI 1 ["way"] (fun us ws => us ++ its.take 1 ++ ws ++ its.drop 2) (fun vs zs => vs ++ dvI.take 1 ++ zs ++ dvI.drop 2)) ∧
    (∃ its : List Value, KBn K fd psI 2 ["bits"] (fun us ws => us ++ (its.drop 1).take 2 ++ ws) (fun vs zs => vs ++ (dvI.drop 1).take 2 ++ zs)) ∧
    (∃ its : List Value, KBn K fd psI 1 ["slots", "bits", "way", "size"] (fun us ws => us ++ ws.drop 3 ++ (ws.drop 2).take 1 ++ ws.take 2) (fun vs zs => vs ++ zs.drop 3 ++ (zs.drop 2).take 1 ++ zs.take 2))
theorem Vals.take' {vs : List V} {us : List Value} (h : Vals vs us) : ∀ n, Vals (vs.take n) (us.take n) := by
  induction h with
  | nil => intro n; rw [List.take_nil, List.take_nil]; exact .nil
  | cons a _ ih =>
    intro n
    cases n with
    | zero => exact .nil
    | succ n => exact .cons a (ih n)
section
variable {P : Program} {w : World} {K : PySem.W.Frag} {mg : Str → Option Value} {base : Heap}
theorem mak_of {C f : Addr} {fd : FuncData} {k : Nat} {sp : Sp} (M : L2.Mk K C f) (hm : mg "Shelf" = some (.ref C)) (F : FunD K "__init__" "Shelf.__init__" (defArgs sS_init) (defBody sS_init) (defScope sS_init) dvI [] f fd) (o : FnOk P w K mg base (L2.CX P w) k f fd psI sp) : MakS P w K mg base k C sp := by
  have b4 : Binds K fd psI [] := by
    obtain ⟨ds, h1, h2⟩ := F.binds1 (ps := psI) 5 4 (by simp [dvI]) rfl fun T kV doc pm an cdv ct us its hu hi => match us, its, hu, hi with | [_, _, _, _, _], [_, _, _, _], _, _ => ⟨_, rfl, rfl⟩
    cases h1
    exact h2
  have b0 := F.binds1 (ps := psI) 1 0 (by simp [dvI]) rfl fun T kV doc pm an cdv ct us its hu hi => match us, its, hu, hi with | [_], [_, _, _, _], _, _ => ⟨_, rfl, rfl⟩
  have k1 := F.kbindsD (ps := psI) 1 ["way"] (fun us its ws => us ++ its.take 1 ++ ws ++ its.drop 2) (by simp [dvI]) (fun a b c => ((a.append (Vals.take' b 1)).append c).append (b.drop 2)) fun T kV doc pm an cdv ct us its ws hu hi hw => match us, its, ws, hu, hi, hw with | [_], [_, _, _, _], [_], _, _, _ => ⟨_, rfl, rfl⟩
  have k2 := F.kbindsD (ps := psI) 2 ["bits"] (fun us its ws => us ++ (its.drop 1).take 2 ++ ws) (by simp [dvI]) (fun a b c => (a.append (Vals.take' (b.drop 1) 2)).append c) fun T kV doc pm an cdv ct us its ws hu hi hw => match us, its, ws, hu, hi, hw with | [_, _], [_, _, _, _], [_], _, _, _ => ⟨_, rfl, rfl⟩
  have k4 := F.kbindsD (ps := psI) 1 ["slots", "bits", "way", "size"] (fun us its ws => us ++ ws.drop 3 ++ (ws.drop 2).take 1 ++ ws.take 2) (by simp [dvI]) (fun a b c => ((a.append (c.drop 3)).append (Vals.take' (c.drop 2) 1)).append (Vals.take' c 2)) fun T kV doc pm an cdv ct us its ws hu hi hw => match us, its, ws, hu, hi, hw with | [_], [_, _, _, _], [_, _, _, _], _, _, _ => ⟨_, rfl, rfl⟩
  exact ⟨f, fd, M, o, hm, b4, b0, k1, k2, k4⟩
end
section
variable {X : Cx} {CX : CXT} {k j : Nat} {f C : Addr} {fd : FuncData} {ps : List Str} {sp : Sp} {ds : List Value} {dvs : List V} {E : L2.St → XK} {x : Str} {p pos : Pos} {e : Expr} {es : List Expr} {kws : List Keyword} {t tk : TA} {W : WX}
def W0 : WX := fun _ _ _ _ => False
theorem pass00 {X : Cx} : Passes (L2.CX X.prog X.w) X (fun _ _ _ => False) := fun pins σ H s e s' I c => passAt (W := W0) takes0 σ pins H s e s' I c
/-- what a making tells, where what is let out may look at the slots -/
def tMakeS (C : Addr) (sp : Sp) (dvs : List V) (E : L2.St → XK) (t : TA) : TE := fun σ H Q => t σ H fun vs H1 => ∀ x dx, H1 x = none → H1 dx = none → dx ≠ x →
  sp (.ref x :: (vs ++ dvs)) (upd (upd H1 dx (.own x)) x (.ins C dx [])) (fun v H2 => v = .non ∧ Q (.ref x) H2) (E σ)
theorem run_makeS {pins : List (Addr × Obj)} {σ : L2.St} {H : Hp} {s : Shared} {Q : VK} {us : List Value} {vs : List V} (M : L2.Mk X.K C f) (F : FnOk X.prog X.w X.K X.mg X.base CX k f fd ps sp) (hr : Room (k + 1) X.A) (hb : Binds X.K fd ps ds) (hd : Vals dvs ds)
    (hx : PassesAt CX X σ (E σ)) (I : Inv X pins σ H s) (r : Vals vs us)
    (h : ∀ x dx, H x = none → H dx = none → dx ≠ x → sp (.ref x :: (vs ++ dvs)) (upd (upd H dx (.own x)) x (.ins C dx [])) (fun v H2 => v = .non ∧ Q (.ref x) H2) (E σ)) :
    wpAny (model X.prog X.w) X.A (call (.ref C) us) (EP X pins σ Q) X.xe s := by
  have I2 := Inv.made (C := C) I
  have hq := h (s.heap.objs.size + 1) s.heap.objs.size (I.hok.fresh (Nat.le_succ _)) (I.hok.fresh (Nat.le_refl _)) (Nat.ne_of_lt (Nat.lt_succ_self _))
  have r2 : Vals (V.ref (s.heap.objs.size + 1) :: (vs ++ dvs)) (Value.ref (s.heap.objs.size + 1) :: (us ++ ds)) := .cons rfl (r.append hd)
  have hl : (Value.ref (s.heap.objs.size + 1) :: us ++ ds).length = ps.length := r2.length.symm.trans (F.len _ _ _ _ hq)
  refine wpAny_call (make_map (f := f) I.kIn M.makes M.init (beq_iff_eq.mp M.fn) (codeAny_mono (F.run _ X.stack _ _ ⟨Value.ref (s.heap.objs.size + 1) :: us, []⟩ (Value.ref (s.heap.objs.size + 1) :: (us ++ ds)) _ _ (E σ) (hr.make C us [])
    (I2.env0.make C us []) (hb _ (Value.ref (s.heap.objs.size + 1) :: us) I2.kIn hl) r2 hq) fun r s' q => ?_))
  rcases r with z | z
  · exact hx pins _ _ z s' I2 q
  · cases z with
    | ret u =>
      obtain ⟨v, H', I3, rv, rfl, q3⟩ := I2.after q
      exact ⟨rv, .ref (s.heap.objs.size + 1), H', I3, rfl, q3⟩
    | _ => exact q.elim
theorem pe_shelfX (tk : Takes X W) (c : MakS X.prog X.w X.K X.mg X.base k C sp) (hr : Room j X.A) (hk : k + 1 ≤ j) (hg : Gl X "Shelf") (ha : PA X (e :: es) t)
    (he : starEach (e :: es) X.env = (false, eval e X.env) :: starEach es X.env := by rfl) (hpl : (backTo pos (starEach es X.env)).any (·.1) = false := by rfl) :
    PE X (.Call (.Name "Shelf" p) (e :: es) [] pos) (tMakeS C sp [] (WE W) t) := by
  obtain ⟨f, fd, M, F, hm, b4, _⟩ := c.ex
  refine ⟨fun pins s σ H Q I h => ?_⟩
  refine wpAny_Call_Name_kw (ld_glob I hg hm ?_ (by decide))
  refine PySem.W.callWith_K (h₀ := X.base) I.ok.mod.kin M.kp (thn (ha.run pos pins s σ H _ I h) fun us s1 ⟨vs, H1, I1, r, q⟩ => ⟨I1.kIn, ?_⟩) he hpl
  exact run_makeS M F (hr.mono hk) b4 .nil (passAt tk σ) I1 r q
theorem pe_shelf0 (c : MakS X.prog X.w X.K X.mg X.base k C sp) (hr : Room j X.A) (hk : k + 1 ≤ j) (hg : Gl X "Shelf") : PE X (.Call (.Name "Shelf" p) [] [] pos) (tMake C sp dvI (fun _ _ _ => False) tNil) := by
  obtain ⟨f, fd, M, F, hm, _, ⟨ds, hd, b0⟩, _⟩ := c.ex
  exact pe_make0 M F (hr.mono hk) hg hm b0 hd pass00
/-- Shelf(way = ..) -/
theorem pe_shelfW {kv : Expr} {p2 : Pos} (c : MakS X.prog X.w X.K X.mg X.base k C sp) (hr : Room j X.A) (hk : k + 1 ≤ j) (hg : Gl X "Shelf") (hkw : PK X [⟨some "way", kv, p2⟩] tk) : PE X (.Call (.Name "Shelf" p) [] [⟨some "way", kv, p2⟩] pos) (tMakeK C 0 1 sp (fun vs zs => vs ++ dvI.take 1 ++ zs ++ dvI.drop 2) (fun _ _ _ => False) tNil tk) := by
  obtain ⟨f, fd, M, F, hm, _, _, ⟨its, b⟩, _⟩ := c.ex
  exact pe_makeK0 M F (hr.mono hk) hg hm b pass00 hkw
/-- Shelf(.., bits = ..) -/
theorem pe_shelfB {kv : Expr} {p2 : Pos} (c : MakS X.prog X.w X.K X.mg X.base k C sp) (hr : Room j X.A) (hk : k + 1 ≤ j) (hg : Gl X "Shelf") (ha : PA X [e] t) (hkw : PK X [⟨some "bits", kv, p2⟩] tk) (he : starEach [e] X.env = (false, eval e X.env) :: starEach [] X.env := by rfl)
    (hpl : ((backTo pos (starEach [e] X.env)).any (·.1) || (backToKw pos (keywordEach [⟨some "bits", kv, p2⟩] X.env)).any (·.1.isNone)) = false := by rfl) :
    PE X (.Call (.Name "Shelf" p) [e] [⟨some "bits", kv, p2⟩] pos) (tMakeN C 1 1 sp (fun vs zs => vs ++ (dvI.drop 1).take 2 ++ zs) (fun _ _ _ => False) t tk) := by
  obtain ⟨f, fd, M, F, hm, _, _, _, ⟨its, b⟩, _⟩ := c.ex
  exact pe_makeN (n := 1) M F (hr.mono hk) hg hm b pass00 ha hkw (he := he) (hpl := hpl)
/-- Shelf(slots = .., bits = .., way = .., size = ..) -/
theorem pe_shelfA {k1 k2 k3 k4 : Expr} {p1 p2 p3 p4 : Pos} (c : MakS X.prog X.w X.K X.mg X.base k C sp) (hr : Room j X.A) (hk : k + 1 ≤ j) (hg : Gl X "Shelf") (hkw : PK X [⟨some "slots", k1, p1⟩, ⟨some "bits", k2, p2⟩, ⟨some "way", k3, p3⟩, ⟨some "size", k4, p4⟩] tk) :
    PE X (.Call (.Name "Shelf" p) [] [⟨some "slots", k1, p1⟩, ⟨some "bits", k2, p2⟩, ⟨some "way", k3, p3⟩, ⟨some "size", k4, p4⟩] pos) (tMakeK C 0 4 sp (fun vs zs => vs ++ zs.drop 3 ++ (zs.drop 2).take 1 ++ zs.take 2) (fun _ _ _ => False) tNil tk) := by
  obtain ⟨f, fd, M, F, hm, _, _, _, _, ⟨its, b⟩⟩ := c.ex
  exact pe_makeK0 M F (hr.mono hk) hg hm b pass00 hkw
end
end Su
/-! ### S5: shelves refused -/
namespace Su
open PySem PySem.Spec PyProof.Rows L2
/-- what the written part says of the errors -/
structure ErrS (K : PySem.W.Frag) (mg : Str → Option Value) (C CH CR CW CM : Addr) : Prop where
  he : mg "HandError" = some (.ref CH)
  ex : PySem.W.exmOne K (.ref C) (.ref CH) = some true
  ns : mg "NoShelf" = some (.ref C)
  nr : mg "NoRun" = some (.ref CR)
  nw : mg "NoWeb" = some (.ref CW)
  tm : mg "TooMany" = some (.ref CM)
  ve : mg "ValueError" = none
  x : ExcT K C
  nof : PySem.W.findIn K (.ref C) "part" = some none
  iw : PySem.W.kitOne K (.ref C) (.ref C) = some true
  iv : PySem.W.kitOne K (.ref C) (.type "ValueError") = some true
  io : PySem.W.kitAny K (.ref C) [.ref CR, .ref CW, .ref CM] = some false
def spRef : Sp := fun vs H Q _ => ∃ (p : Addr) (vz vw vc vm : V) (gz gw gc gm : G) (s : Str), vs = [vz, vw, vc, vm] ∧ Tg p H vz gz ∧ Tg p H vw gw ∧ Tg p H vc gc ∧ Tg p H vm gm ∧ few gc ∧ few gm ∧ partG gz gw gc gm = some s ∧ ∀ H', Same H H' → Q (.str s) H'
theorem sc_law_refused : FnScope ["_law_big_here", "_law_sort_here", "_law_cells_here", "_law_marks_here", "_law_found", "e"] ["_law_big_here", "_law_sort_here", "_law_cells_here", "_law_marks_here"] (defScope s_law_refused) := ⟨rfl, rfl, rfl, by decide +kernel, rfl, by decide +kernel, by decide +kernel⟩
section
variable {P : Program} {w : World} {K : PySem.W.Frag} {mg : Str → Option Value} {base : Heap}
theorem ok_refused {C CN CH CR CW CM : Addr} (ES : ErrS K mg CN CH CR CW CM) (T : At K mg "_law_refused" s_law_refused ["_law_big_here", "_law_sort_here", "_law_cells_here", "_law_marks_here"]) (B : Bt mg) (c_Shelf : MakS P w K mg base 6 C (spInit C CN)) : Cal P w K mg base 8 "_law_refused" ["_law_big_here", "_law_sort_here", "_law_cells_here", "_law_marks_here"] spRef := by
  refine cal_of T sc_law_refused (fun vs H Q E h => ?_) (fun f cdv A outer s H vs Q E hr h => ?_)
  · obtain ⟨p, vz, vw, vc, vm, gz, gw, gc, gm, st, rfl, _⟩ := h
    rfl
  · obtain ⟨p, vz, vw, vc, vm, gz, gw, gc, gm, st, rfl, hz, hw, hc, hm, fc, fm, hp, q⟩ := h
    have hHE := ES.he
    refine ⟨_, (pss_cons (ps_set (i := 4) sc_law_refused.nd rfl (Or.inl rfl) pe_non)
      (pss_cons (ps_try_keep (i := 5) (Wo := fun _ _ _ _ => False) rfl rfl rfl sc_law_refused.nd rfl rfl ⟨rfl, by decide, Or.inl hHE⟩ takes0 (fun W pn xe tk _ => (pss_one (ps_expr (pe_shelfX tk c_Shelf hr (by decide) (by rfl) (pa_cons (pv 0) (pa_cons (pv 1) (pa_cons (pv 2) (pa_cons (pv 3) pa_nil)))))))) (fun a oe pn => (pss_one (ps_set (i := 4) sc_law_refused.nd rfl (Or.inl rfl) (pv 5)))))
      (pss_cons (ps_if (PW.pt (pw_or (pt_not (pt_val (pe_callB call_isiE (by rfl) B.isinstance (by decide +kernel) (pa_cons (pv 4) (pa_cons (pe_glob (v := .ref CN) (by rfl) ES.ns rfl) pa_nil))))) (pw_or1 (pt_not (pt_val (pe_callB call_isiE (by rfl) B.isinstance (by decide +kernel) (pa_cons (pv 4) (pa_cons (pe_bltn (v := .ty "ValueError") (u := .type "ValueError") (by rfl) ES.ve (by decide +kernel) rfl) pa_nil)))))))) (pss_one (ps_ret pe_str)) pss_nil)
      (pss_cons (ps_if (pt_val (pe_callB call_isiET (by rfl) B.isinstance (by decide +kernel) (pa_cons (pv 4) (pa_cons (pe_tupF (pa_cons (pe_glob (v := .ref CR) (by rfl) ES.nr rfl) (pa_cons (pe_glob (v := .ref CW) (by rfl) ES.nw rfl) (pa_cons (pe_glob (v := .ref CM) (by rfl) ES.tm rfl) pa_nil)))) pa_nil)))) (pss_one (ps_ret pe_str)) pss_nil)
      (pss_one (ps_ret (pe_xfld (pv 4)))))))), ?_⟩
    refine ⟨_, rfl, _, rfl, _, rfl, _, rfl, fun x dx nx ndx ne => ?_⟩
    have s0 : Same H (upd (upd H dx (.own x)) x (.ins C dx [])) := (same_upd ndx).trans (same_upd (by rw [upd_ne (Ne.symm ne)]; exact nx))
    have k0 := Keeps.same (p := p) s0
    refine ⟨p, x, dx, vz, vw, vc, vm, gz, gw, gc, gm, rfl, upd_same, hz.keep k0, hw.keep k0, hc.keep k0, hm.keep k0, fc, fm, (fun e => absurd (hp.symm.trans e) (fun z => by cases z)), fun s2 e H1 d s1 nd hd => ?_⟩
    obtain rfl : st = s2 := by
      rw [hp] at e
      cases e
      rfl
    refine ⟨true, ES.ex, fun _ a na => ?_, fun z => by cases z⟩
    have da : d ≠ a := ne_of_none hd na
    have ha : (upd H1 a (exK a (.ref CN) (some d))) a = some (exK a (.ref CN) (some d)) := upd_same
    have hd2 : (upd H1 a (exK a (.ref CN) (some d))) d = some (.xd [("part", .str st)]) := by
      rw [upd_ne da]
      exact hd
    have xd : ∀ {H3 : Hp}, Same (upd H1 a (exK a (.ref CN) (some d))) H3 → XdAt H3 (some d) := fun s3 dd ed => by
      cases ed
      exact ⟨_, s3 _ _ hd2⟩
    refine ⟨_, rfl, ?_⟩
    refine ⟨_, rfl, a, CN, some d, .ref CN, .ref CN, true, rfl, .own CN, ES.x, ha, xd (Same.refl _), ES.iw, _, rfl, iteF ?_⟩
    refine ⟨_, rfl, a, CN, some d, .ty "ValueError", .type "ValueError", true, rfl, .ty "ValueError", ES.x, ha, xd (Same.refl _), ES.iv, _, rfl, iteF ?_⟩
    refine ⟨_, rfl, (by show 3 ≤ sizeLine; decide), fun tp H3 s3 ntp htp => ?_⟩
    refine ⟨a, CN, tp, some d, [.ref CR, .ref CW, .ref CM], [.ref CR, .ref CW, .ref CM], false, rfl, .inl htp, .cons (.own CR) (.cons (.own CW) (.cons (.own CM) .nil)), ES.x, s3 _ _ ha, xd s3, ES.io, _, rfl, iteF ?_⟩
    exact ⟨_, rfl, a, CN, d, _, .str st, rfl, ES.x, ES.nof, s3 _ _ ha, s3 _ _ hd2, (by simp [List.lookup]), q _ ((s0.trans s1).trans ((same_upd na).trans s3))⟩
end
end Su
namespace Su
open PySem PySem.Spec PyProof.Rows L2
/-! len(set(l)) -/
theorem fold_len : ∀ (l acc : List Int), (l.foldl step_dedup acc).length ≤ acc.length + l.length ∧ ((l.foldl step_dedup acc).length = acc.length + l.length ↔ (∀ x ∈ l, x ∉ acc) ∧ l.Nodup)
  | [], acc => ⟨Nat.le_refl _, ⟨fun _ => ⟨fun x hx => (List.not_mem_nil hx).elim, List.nodup_nil⟩, fun _ => rfl⟩⟩
  | y :: l, acc => by
    rw [List.foldl_cons]
    by_cases h : y ∈ acc
    · have e : step_dedup acc y = acc := by
        unfold step_dedup
        rw [if_pos]
        exact List.any_eq_true.mpr ⟨y, h, by simp⟩
      rw [e]
      have ih := (fold_len l acc).1
      refine ⟨by rw [List.length_cons]; omega, fun z => ?_, fun z => absurd h (z.1 y List.mem_cons_self)⟩
      rw [List.length_cons] at z
      omega
    · have e : step_dedup acc y = acc ++ [y] := by
        unfold step_dedup
        rw [if_neg]
        intro z
        obtain ⟨x, hx, hxy⟩ := List.any_eq_true.mp z
        have e2 : x = y := by simpa using hxy
        exact h (e2 ▸ hx)
      rw [e]
      obtain ⟨i1, i2⟩ := fold_len l (acc ++ [y])
      have el : (acc ++ [y]).length + l.length = acc.length + (y :: l).length := by
        rw [List.length_append, List.length_cons]
        show acc.length + 1 + l.length = acc.length + (l.length + 1)
        omega
      rw [el] at i1 i2
      refine ⟨i1, i2.trans ⟨fun z => ⟨fun x hx => ?_, ?_⟩, fun z => ⟨fun x hx hx2 => ?_, ?_⟩⟩⟩
      · rcases List.mem_cons.mp hx with q | q
        · rw [q]
          exact h
        · exact fun w => z.1 x q (List.mem_append_left _ w)
      · exact List.nodup_cons.mpr ⟨fun w => z.1 y w (List.mem_append_right _ List.mem_cons_self), z.2⟩
      · rcases List.mem_append.mp hx2 with q | q
        · exact z.1 x (List.mem_cons_of_mem _ hx) q
        · have e3 := List.mem_singleton.mp q
          exact (List.nodup_cons.mp z.2).1 (e3 ▸ hx)
      · exact (List.nodup_cons.mp z.2).2
theorem dd_fold (ns : List Int) : dd ns = ns.foldl step_dedup [] := by
  unfold dd PyProof.Rows.firstMet
  congr 1
  refine List.ext_getElem? fun i => ?_
  rw [List.getElem?_map]
  by_cases h : i < ns.length
  · rw [List.getElem?_range h, List.getElem?_eq_getElem h]
    simp [List.getD_eq_getElem?_getD, h]
  · rw [List.getElem?_eq_none (by rw [List.length_range]; omega), List.getElem?_eq_none (by omega)]
    rfl
theorem dd_nodup (ns : List Int) : (dd ns).length = ns.length ↔ ns.Nodup := by
  rw [dd_fold]
  have h := (fold_len ns []).2
  rw [List.length_nil, Nat.zero_add] at h
  exact h.trans ⟨fun z => z.2, fun z => ⟨fun x _ => List.not_mem_nil, z⟩⟩
/-- no room twice, as the law says it -/
theorem rooms_nodup (ns : List Int) : (ns.filter fun i => !decide (i = -1)).Nodup ↔ ∀ i, i ≠ -1 → ns.count i ≤ 1 := by
  rw [List.nodup_iff_count]
  constructor
  · intro h i hi
    have := h i
    rw [List.count_filter (by simpa using hi)] at this
    exact this
  · intro h i
    by_cases hi : i = -1
    · subst hi
      rw [List.count_eq_zero.mpr (fun z => by have := (List.mem_filter.mp z).2; simp at this)]
      exact Nat.zero_le _
    · rw [List.count_filter (by simpa using hi)]
      exact h i hi
section
variable {X : Cx}
/-- t.count(n) -/
def rTCount : V → List V → Hp → VK → Prop := fun x xs H Q => ∃ (p : Addr) (ns : List Int) (k : Int), x = .ref p ∧ xs = [.int k] ∧ PTup H p (ns.map V.int) ∧ Q (.int (ns.count k : Nat)) H
theorem countP_int (ns : List Int) (k : Int) : ((ns.map PyData.int).countP fun y => PyData.eqv y (.int k)) = ns.count k := by
  rw [List.countP_map, List.count]
  congr 1
theorem plain_ints : ∀ ns : List Int, PyData.plainAll (ns.map PyData.int) = true
  | [] => by first | rfl | simp [PyData.plainAll]
  | n :: ns => by
    rw [List.map_cons]
    have ih := plain_ints ns
    first
      | simp only [PyData.plainAll, PyData.plain, ih, Bool.and_self]
      | simp [PyData.plainAll, PyData.plain, ih]
theorem mt_tcount (hu : X.A.units + 1 < cLine) : MtR X "tuple.count" rTCount := by
  intro pins s σ H x xs v us Q I rx rs h
  obtain ⟨p, ns, k, rfl, rfl, hq, q⟩ := h
  cases rx
  obtain ⟨u, rfl, t, rfl⟩ := vals1 rs
  obtain ⟨its, r, pl, hz⟩ := I.tuple (hq.sq (K := X.K))
  obtain ⟨as, ra⟩ := Dp.readsAll I (ns.map PyData.int) _ _ (dp_ints ns) r
  refine PySem.SeqAt.count_tuple_data (vs := its.toArray) pl (by simpa using ra) (Reads.int k t) (plain_ints ns) (by first | rfl | simp [PyData.plain]) (by
    have e : (PyData.int k).depth = 0 := by simp [PyData.depth]
    rw [e, Nat.min_zero]
    omega) ?_
  rw [countP_int]
  exact ⟨.int (ns.count k : Nat), H, I.tok _, ⟨_, rfl⟩, q⟩
end
theorem slot_rng (i : Int) : slotG (.int i) = (decide (-1 ≤ i) && decide (i ≤ 99)) := by
  show ((decide (0 ≤ i) && decide (i ≤ 99)) || decide (i = -1)) = (decide (-1 ≤ i) && decide (i ≤ 99))
  rw [Bool.eq_iff_iff]
  simp only [Bool.or_eq_true, Bool.and_eq_true, decide_eq_true_eq]
  omega
theorem ints_all : ∀ {es : List G} {p : Addr} {H : Hp} {vs : List V}, TgL p H vs es → (∀ e ∈ es, wholeG e = true) → ∃ ns : List Int, es = ns.map G.int ∧ vs = ns.map V.int
  | [], _, _, _, .nil, _ => ⟨[], rfl, rfl⟩
  | g :: es, p, H, _, .cons h t, a => by
    obtain ⟨i, rfl, rfl⟩ := whole_int h (a g List.mem_cons_self)
    obtain ⟨ns, rfl, rfl⟩ := ints_all t fun e he => a e (List.mem_cons_of_mem _ he)
    exact ⟨i :: ns, rfl, rfl⟩
theorem tg_isStr {p : Addr} {H : Hp} {v : V} {g : G} (h : Tg p H v g) (e : isStr g = true) : ∃ s, v = .str s ∧ g = .str s := by
  cases h with
  | str s => exact ⟨s, rfl, rfl⟩
  | _ => cases e
theorem sizeG_eq (n : Int) (s : Str) : sizeG (.int n) s = ((decide (1 ≤ n) && decide (n ≤ 8)) && (!decide (s = "tree") || inV (.int n) sizeVs)) := rfl
theorem dec_str (a b : Str) : decide (V.str a = V.str b) = decide (a = b) := by
  by_cases h : a = b
  · subst h
    rw [decide_eq_true rfl, decide_eq_true rfl]
  · rw [decide_eq_false h, decide_eq_false (fun z => h (V.str.inj z))]
theorem filt_empty {α : Type} (f : α → Bool) : ∀ l : List α, (l.filter fun g => !f g).isEmpty = l.all f
  | [] => rfl
  | x :: l => by
    rw [List.filter_cons, List.all_cons, ← filt_empty f l]
    cases f x <;> rfl
theorem toDs_empty (gs : List G) : (toDs gs).isEmpty = gs.isEmpty := by
  cases gs <;> rfl
theorem map_empty {α β : Type} (f : α → β) (l : List α) : (l.map f).isEmpty = l.isEmpty := by
  cases l <;> rfl
theorem rooms_ints (ns : List Int) : roomsOf (ns.map G.int) = ns.filter fun i => !decide (i = -1) := by
  unfold roomsOf
  rw [List.map_map]
  congr 1
  exact List.map_id' ns
theorem dup_iff (ns : List Int) (h : ∀ i ∈ ns, -1 ≤ i) : (ns.filter fun i => decide (0 ≤ i) && decide (1 < ns.count i)).isEmpty = decide ((dd (roomsOf (ns.map G.int))).length = (roomsOf (ns.map G.int)).length) := by
  rw [rooms_ints, Bool.eq_iff_iff, decide_eq_true_eq, dd_nodup, rooms_nodup, List.isEmpty_iff, List.filter_eq_nil_iff]
  constructor
  · intro z i hi
    by_cases hm : i ∈ ns
    · have := z i hm
      have h1 := h i hm
      simp only [Bool.and_eq_true, decide_eq_true_eq, not_and] at this
      have := this (by omega)
      omega
    · rw [List.count_eq_zero.mpr hm]
      exact Nat.zero_le _
  · intro z i hm
    simp only [Bool.and_eq_true, decide_eq_true_eq, not_and]
    intro h0
    have := z i (by omega)
    omega
theorem bits_in (ms : List Int) : ((ms.filter fun i => !inV (V.int i) [V.int 0, V.int 1]).isEmpty) = (ms.map G.int).all bitG := by
  rw [filt_empty (fun i => inV (V.int i) [V.int 0, V.int 1]) ms, List.all_map]
  congr 1
  funext i
  show ((0 == i) || ((1 == i) || false)) = (decide (0 ≤ i) && decide (i ≤ 1))
  rw [Bool.eq_iff_iff]
  simp only [Bool.or_eq_true, Bool.and_eq_true, decide_eq_true_eq, beq_iff_eq, Bool.or_false]
  omega
end Su
/-! ### S6: the part that the law finds -/
namespace Su
open PySem PySem.Spec PyProof.Rows L2
def OkN : G → Prop
  | .tup ds => ds.length ≤ 100 ∧ ∀ d ∈ ds, OkE d
  | _ => True
def spPartL : Sp := fun vs H Q _ => ∃ (p : Addr) (vz vw vc vm : V) (gz gw gc gm : G), vs = [vz, vw, vc, vm] ∧ Tg p H vz gz ∧ Tg p H vw gw ∧ Tg p H vc gc ∧ Tg p H vm gm ∧ OkN gc ∧ OkN gm ∧ (∀ a xs, vc = .ref a → T2 H a xs → PTup H a xs) ∧ ∀ H', Same H H' → Q (optV (partG gz gw gc gm)) H'
theorem bit_one (i : Int) : inV (V.int i) [V.int 0, V.int 1] = bitG (.int i) := by
  show ((0 == i) || ((1 == i) || false)) = (decide (0 ≤ i) && decide (i ≤ 1))
  rw [Bool.eq_iff_iff]
  simp only [Bool.or_eq_true, Bool.and_eq_true, decide_eq_true_eq, beq_iff_eq, Bool.or_false]
  omega
theorem ints_one {ns : List Int} {p : Addr} {H : Hp} : TgL p H (ns.map V.int) (ns.map G.int) := TgL.ints _
theorem sc_law_part : FnScope ["_law_big_here", "_law_sort_here", "_law_cells_here", "_law_marks_here", "_law_cell", "_law_mark"] ["_law_big_here", "_law_sort_here", "_law_cells_here", "_law_marks_here"] (defScope s_law_part) := ⟨rfl, rfl, rfl, by decide +kernel, rfl, by decide +kernel, by decide +kernel⟩
section
variable {P : Program} {w : World} {K : PySem.W.Frag} {mg : Str → Option Value} {base : Heap}
theorem ok_lpart (T : At K mg "_law_part" s_law_part ["_law_big_here", "_law_sort_here", "_law_cells_here", "_law_marks_here"]) (B : Bt mg) (c_whole : Cal P w K mg base 1 "_law_whole" ["_law_thing"] spWhole) : Cal P w K mg base 2 "_law_part" ["_law_big_here", "_law_sort_here", "_law_cells_here", "_law_marks_here"] spPartL := by
  refine cal_of T sc_law_part (fun vs H Q E h => ?_) (fun f cdv A outer s H vs Q E hr h => ?_)
  · obtain ⟨p, vz, vw, vc, vm, gz, gw, gc, gm, rfl, _⟩ := h
    rfl
  · obtain ⟨p, vz, vw, vc, vm, gz, gw, gc, gm, rfl, hz, hw, hc, hm, oc, om, hpt, q⟩ := h
    have hu1 : A.units + 3 + 1 < cLine := by
      have := hr.un
      show _ < _
      exact Nat.lt_of_le_of_lt (by show A.units + 3 + 1 ≤ A.units + 3 + 16 * 1 + 200; omega) this
    refine ⟨_, (pss_cons (ps_if (PW.pt (pw_or (pt_not (pt_val (pe_callB call_isi (by rfl) B.isinstance (by decide +kernel) (pa_cons (pv 1) (pa_cons (pe_bltn (v := .ty "str") (u := .type "str") (by rfl) B.str (by decide +kernel) rfl) pa_nil))))) (pw_or1 (pt_cmpR op_notIn_seq (pv 1) (pe_tupF (pa_cons pe_str (pa_cons pe_str (pa_cons pe_str pa_nil)))) (by rfl))))) (pss_one (ps_ret pe_str)) pss_nil)
      (pss_cons (ps_if (PW.pt (pw_or (pt_not (pt_val (pe_own c_whole hr (by decide) (by rfl) (pa_cons (pv 0) pa_nil)))) (pw_or (pt_not (pt_chain op_le op_le pe_int (pv 0) pe_int)) (pw_or1 (PW.pt (pw_and (pt_cmpR op_eq (pv 1) pe_str (nomark _)) (pw_and1 (pt_cmpR op_notIn_seq (pv 0) (pe_tupF (pa_cons pe_int (pa_cons pe_int (pa_cons pe_int (pa_cons pe_int pa_nil))))) (by rfl))))))))) (pss_one (ps_ret pe_str)) pss_nil)
      (pss_cons (ps_if (pt_cmpR op_notN (pv 2) pe_non (nomark _)) (pss_cons (ps_if (PW.pt (pw_or (pt_not (pt_val (pe_callB call_isi (by rfl) B.isinstance (by decide +kernel) (pa_cons (pv 2) (pa_cons (pe_bltn (v := .ty "tuple") (u := .type "tuple") (by rfl) B.tuple (by decide +kernel) rfl) pa_nil))))) (pw_or1 (pt_cmpR op_ne (pe_callB call_len_seq (by rfl) B.len PySem.boot_len (pa_cons (pv 2) pa_nil)) (pv 0) (nomark _))))) (pss_one (ps_ret pe_str)) pss_nil)
      (pss_cons (ps_if (pt_cmpR (op_neD hr.units) (pe_lc (own := [("_law_cell", 4)]) (g := (gName 4)) (tt := _) (te := (tVar 4)) (by rfl) sc_law_part.nd (pi_tup (pv 2)) (blkOk_by (own := [("_law_cell", 4)]) (N := ["_law_big_here", "_law_sort_here", "_law_cells_here", "_law_marks_here", "_law_cell", "_law_mark"]) (sc := defScope s_law_part) (by decide +kernel)) (fun _ _ _ _ _ => (pg_name (i := 4) sc_law_part.nd rfl (Or.inl rfl))) (fun _ _ _ _ _ => pts_one (PW.pt (pw_or (pt_not (pt_val (pe_own c_whole hr (by decide) (by rfl) (pa_cons (pv 4) pa_nil)))) (pw_or1 (pt_not (pt_chain op_le op_le (pe_un un_neg pe_int) (pv 4) pe_int)))))) (fun _ _ _ _ _ => (pv 4))) (pe_lst pa_nil) (nomark _)) (pss_one (ps_ret pe_str)) pss_nil)
      (pss_one (ps_if (pt_cmpR (op_neD hr.units) (pe_lc (own := [("_law_cell", 4)]) (g := (gName 4)) (tt := _) (te := (tVar 4)) (by rfl) sc_law_part.nd (pi_tup (pv 2)) (blkOk_by (own := [("_law_cell", 4)]) (N := ["_law_big_here", "_law_sort_here", "_law_cells_here", "_law_marks_here", "_law_cell", "_law_mark"]) (sc := defScope s_law_part) (by decide +kernel)) (fun _ _ _ _ _ => (pg_name (i := 4) sc_law_part.nd rfl (Or.inl rfl))) (fun _ _ _ _ _ => pts_one (PW.pt (pw_and (pt_cmpR op_ge (pv 4) pe_int (nomark _)) (pw_and1 (pt_cmpR op_gt (pe_mT PySem.F.slot_tuple_count PySem.F.type_tuple_count (mt_tcount hu1) (pv 2) (pa_cons (pv 4) pa_nil)) pe_int (nomark _)))))) (fun _ _ _ _ _ => (pv 4))) (pe_lst pa_nil) (nomark _)) (pss_one (ps_ret pe_str)) pss_nil)))) pss_nil)
      (pss_cons (ps_if (pt_cmpR op_notN (pv 3) pe_non (nomark _)) (pss_cons (ps_if (PW.pt (pw_or (pt_not (pt_val (pe_callB call_isi (by rfl) B.isinstance (by decide +kernel) (pa_cons (pv 3) (pa_cons (pe_bltn (v := .ty "tuple") (u := .type "tuple") (by rfl) B.tuple (by decide +kernel) rfl) pa_nil))))) (pw_or1 (pt_cmpR op_ne (pe_callB call_len_seq (by rfl) B.len PySem.boot_len (pa_cons (pv 3) pa_nil)) (pe_ix ix_list (pe_lst (pa_cons pe_int (pa_cons (pe_op op_sub (pv 0) pe_int) pa_nil))) (pe_callTy call_int1 (by rfl) B.int (by decide +kernel) (pa_cons (pe_cmpR op_eq (pv 1) pe_str (nomark _)) pa_nil)) (fun _ _ => rfl)) (nomark _))))) (pss_one (ps_ret pe_str)) pss_nil)
      (pss_one (ps_if (pt_cmpR (op_neD hr.units) (pe_lc (own := [("_law_mark", 5)]) (g := (gName 5)) (tt := _) (te := (tVar 5)) (by rfl) sc_law_part.nd (pi_tup (pv 3)) (blkOk_by (own := [("_law_mark", 5)]) (N := ["_law_big_here", "_law_sort_here", "_law_cells_here", "_law_marks_here", "_law_cell", "_law_mark"]) (sc := defScope s_law_part) (by decide +kernel)) (fun _ _ _ _ _ => (pg_name (i := 5) sc_law_part.nd rfl (Or.inl rfl))) (fun _ _ _ _ _ => pts_one (PW.pt (pw_or (pt_not (pt_val (pe_own c_whole hr (by decide) (by rfl) (pa_cons (pv 5) pa_nil)))) (pw_or1 (pt_cmpR (show OpR _ _ (rIn K true) from op_notIn_seq) (pv 5) (pe_tupF (pa_cons pe_int (pa_cons pe_int pa_nil))) (by rfl)))))) (fun _ _ _ _ _ => (pv 5))) (pe_lst pa_nil) (nomark _)) (pss_one (ps_ret pe_str)) pss_nil))) pss_nil)
      (pss_one (ps_ret pe_non)))))), ?_⟩
    have fin : ∀ (o : Option Str) H', Same H H' → partG gz gw gc gm = o → Q (optV o) H' := fun o H' sm z => by
      have y := q H' sm
      rw [z] at y
      exact y
    refine ⟨_, rfl, vw, .ty "str", _, _, _, rfl, .ty "str", hw.ty, kit_str gw, _, rfl, iteB (fun e => ?_) (fun e => ?_)⟩
    · refine fin (some "way") H (Same.refl H) ?_
      have e' := bFalse e
      unfold partG
      rw [if_neg]
      cases gw <;> first | exact Bool.false_ne_true | cases e'
    obtain ⟨st, rfl, rfl⟩ := tg_isStr hw (bTrue e)
    refine ⟨_, rfl, (by show 3 ≤ sizeLine; decide), fun t1 H1 s1 n1 p1 => ?_⟩
    refine ⟨t1, wayVs, rfl, .inr p1.sq, rfl, rfl, _, rfl, iteB (fun e1 => ?_) (fun e1 => ?_)⟩
    · have e1' : (!inV (V.str st) wayVs) = true := e1
      refine fin (some "way") H1 s1 ?_
      unfold partG
      rw [if_neg (by rw [show wayG (.str st) = false from bFalse e1']; exact Bool.false_ne_true)]
    have hway : wayG (.str st) = true := bTrue (show (!inV (V.str st) wayVs) = false from e1)
    have sz : ∀ {H'}, Same H H' → sizeG gz st = false → Q (.str "size") H' := fun sm z => fin (some "size") _ sm (by
      unfold partG
      rw [if_pos hway, if_neg (by rw [show sizeG gz (strG (.str st)) = false from z]; exact Bool.false_ne_true)])
    apply mid (M := fun σ H2 => σ = [some vz, some (.str st), some vc, some vm, none, none] ∧ Same H H2 ∧ sizeG gz st = true)
    case h =>
      intro rest
      refine ⟨_, rfl, p, vz, gz, rfl, hz.keep (Keeps.same s1), _, rfl, iteB (fun e2 => ?_) (fun e2 => ?_)⟩
      · refine sz s1 ?_
        have e' := bFalse e2
        cases gz <;> first | rfl | cases e'
      obtain ⟨n, rfl, rfl⟩ := whole_int hz (bTrue e2)
      refine ⟨_, rfl, _, _, rfl, rfl, _, rfl, iteB (fun e3 => ?_) (fun e3 => ?_)⟩
      rotate_left
      · exact ⟨_, rfl, iteT (sz s1 (by rw [sizeG_eq, e3, Bool.false_and, Bool.false_and]))⟩
      refine ⟨_, _, rfl, rfl, _, rfl, iteB (fun e4 => ?_) (fun e4 => ?_)⟩
      · exact sz s1 (by rw [sizeG_eq, show decide (n ≤ 8) = false from bFalse e4, Bool.and_false, Bool.false_and])
      have hn : 1 ≤ n ∧ n ≤ 8 := ⟨of_decide_eq_true e3, of_decide_eq_true (bTrue e4)⟩
      refine ⟨_, rfl, rfl, _, rfl, iteB (fun e5 => ?_) (fun e5 => ?_)⟩
      · rw [dec_str] at e5
        refine ⟨_, rfl, (by show 4 ≤ sizeLine; decide), fun t2 Hc s2 n2 p2 => ?_⟩
        refine ⟨t2, sizeVs, rfl, .inr p2.sq, rfl, rfl, _, rfl, iteB (fun e6 => ?_) (fun e6 => ?_)⟩
        · have e6' : (!inV (V.int n) sizeVs) = true := e6
          exact sz (s1.trans s2) (by rw [sizeG_eq, e5, bFalse e6']; simp)
        · have e6' : (!inV (V.int n) sizeVs) = false := e6
          exact rest _ _ ⟨rfl, s1.trans s2, by
            rw [sizeG_eq, e3, show decide (n ≤ 8) = true from decide_eq_true hn.2, bTrue e6', Bool.or_true]
            rfl⟩
      · rw [dec_str] at e5
        exact iteF (rest _ _ ⟨rfl, s1, by
          rw [sizeG_eq, e3, show decide (n ≤ 8) = true from decide_eq_true hn.2, e5]
          rfl⟩)
    case hR =>
      rintro _ H2 ⟨rfl, s2, hsz⟩
      obtain ⟨n, rfl, rfl⟩ := size_int hz hsz
      obtain ⟨hn1, hn8⟩ := size_rng hsz
      have fin2 : ∀ (o : Option Str) H', Same H H' → (if (!isNon gc && !areSlotsG gc n) = true then some ("slots" : Str) else if (!isNon gm && !areBitsG gm n st) = true then some ("bits" : Str) else none) = o → Q (optV o) H' := fun o H' sm z => fin o H' sm (by
        unfold partG
        rw [if_pos hway, if_pos (show sizeG (.int n) (strG (.str st)) = true from hsz)]
        exact z)
      clear fin q
      apply mid (M := fun σ H3 => σ = [some (.int n), some (.str st), some vc, some vm, none, none] ∧ Same H H3 ∧ (!isNon gc && !areSlotsG gc n) = false)
      case h =>
        intro rest
        refine ⟨_, rfl, rfl, _, rfl, ?_⟩
        rw [non_dec hc]
        refine iteB (fun z => ?_) (fun z => ?_)
        rotate_left
        · exact rest _ _ ⟨rfl, s2, by rw [z, Bool.false_and]⟩
        have bad : ∀ {H'}, Same H H' → areSlotsG gc n = false → Q (.str "slots") H' := fun sm y => fin2 (some "slots") _ sm (by rw [z, y]; rfl)
        have hc2 := hc.keep (Keeps.same (p := p) s2)
        refine ⟨_, rfl, vc, .ty "tuple", _, _, _, rfl, .ty "tuple", hc2.ty, kit_tuple gc, _, rfl, iteB (fun e7 => ?_) (fun e7 => ?_)⟩
        · refine bad s2 ?_
          have e' := bFalse e7
          cases gc <;> first | rfl | cases e'
        obtain ⟨a, us, ds, rfl, rfl, tw0, tl0⟩ := tg_tup hc (bTrue e7)
        have tw := tw0.same s2
        have tl := tl0.keep (Keeps.same (p := p) s2)
        have hl : us.length = ds.length := tl.len
        refine ⟨_, rfl, a, _, rfl, .inr tw.sq, _, rfl, rfl, _, rfl, iteB (fun e11 => ?_) (fun e11 => ?_)⟩
        · refine bad s2 ?_
          have y := bFalse e11
          rw [dec_int', hl] at y
          show (decide ((ds.length : Int) = n) && _) = false
          rw [y, Bool.false_and]
        have hlen1 : decide ((ds.length : Int) = n) = true := by
          have y := bTrue e11
          rw [dec_int', hl] at y
          exact y
        have hsl : areSlotsG (.tup ds) n = (ds.all slotG && decide ((dd (roomsOf ds)).length = (roomsOf ds).length)) := by
          show (decide ((ds.length : Int) = n) && (ds.all slotG && decide ((dd (roomsOf ds)).length = (roomsOf ds).length))) = _
          rw [hlen1, Bool.true_and]
        -- slots that are none
        refine ⟨_, rfl, a, rfl, ⟨_, tw.sq⟩, fun D nD => ?_⟩
        refine lc_tup (K := K) (a := a) (xs := us) (fun i H3 => Same H2 H3 ∧ ∃ vs' hs', H3 D = some (.lst vs') ∧ TgL p H2 vs' hs' ∧ hs' = (ds.take i).filter (fun g => !slotG g)) ?_ ?_ ?_ ?_
        · exact ⟨same_upd nD, [], [], upd_same, .nil, rfl⟩
        · rintro i H3 _ ⟨s3, _⟩
          exact ((Keeps.same (p := p) s3).tw _ _ tw).sq
        · rintro i x H3 hx ⟨s3, vs', hs', hD, tl3, eh⟩
          obtain ⟨g0, eg, hg0⟩ := tl.get hx
          have hil : i < ds.length := (List.getElem?_eq_some_iff.mp eg).1
          have et : ds.take (i + 1) = ds.take i ++ [g0] := by
            rw [List.take_add_one, eg]
            rfl
          have hlv : vs'.length < sizeLine := by
            rw [tl3.len, eh]
            have z := List.length_filter_le (fun g => !slotG g) (ds.take i)
            rw [List.length_take] at z
            exact small1000 (by have := oc.1; omega)
          have yes : slotG g0 = false → ∃ acc, H3 D = some (.lst acc) ∧ acc.length < sizeLine ∧ Same H2 (upd H3 D (.lst (acc ++ [x]))) ∧ ∃ vs' hs', (upd H3 D (.lst (acc ++ [x]))) D = some (.lst vs') ∧ TgL p H2 vs' hs' ∧ hs' = (ds.take (i + 1)).filter (fun g => !slotG g) := fun z => by
            refine ⟨vs', hD, hlv, fun c o ec => ?_, vs' ++ [x], hs' ++ [g0], upd_same, tl3.app (.cons hg0 .nil), ?_⟩
            · rw [upd_ne (ne_of_none ec nD)]
              exact s3 _ _ ec
            · rw [et, List.filter_append, eh, List.filter_cons_of_pos (by rw [z]; rfl), List.filter_nil]
          have no : slotG g0 = true → Same H2 H3 ∧ ∃ vs' hs', H3 D = some (.lst vs') ∧ TgL p H2 vs' hs' ∧ hs' = (ds.take (i + 1)).filter (fun g => !slotG g) := fun z => by
            refine ⟨s3, vs', hs', hD, tl3, ?_⟩
            rw [et, List.filter_append, ← eh, List.filter_cons_of_neg (by rw [z]; decide), List.filter_nil, List.append_nil]
          refine ⟨rfl, _, rfl, p, x, g0, rfl, hg0.keep (Keeps.same s3), _, rfl, iteB (fun ea => ?_) (fun ea => ?_)⟩
          · refine iteT ⟨_, rfl, yes ?_⟩
            have e' := bFalse ea
            cases g0 <;> first | rfl | cases e'
          obtain ⟨j, rfl, rfl⟩ := whole_int hg0 (bTrue ea)
          refine ⟨1, rfl, _, rfl, _, _, rfl, rfl, _, rfl, iteB (fun eb => ?_) (fun eb => ?_)⟩
          · refine ⟨_, _, rfl, rfl, _, rfl, iteB (fun ec => ?_) (fun ec => ?_)⟩
            · exact ⟨_, rfl, yes (by rw [slot_rng, show decide (-1 ≤ j) = true from eb, show decide (j ≤ 99) = false from bFalse ec]; rfl)⟩
            · exact no (by rw [slot_rng, show decide (-1 ≤ j) = true from eb, show decide (j ≤ 99) = true from bTrue ec]; rfl)
          · exact ⟨_, rfl, iteT ⟨_, rfl, yes (by rw [slot_rng, show decide (-1 ≤ j) = false from eb]; rfl)⟩⟩
        · rintro H3 ⟨s3, vs', hs', hD, tl3, eh⟩
          rw [hl, List.take_length] at eh
          refine ⟨Nat.zero_le _, fun c nc => ?_⟩
          have ecD : D ≠ c := ne_of_none hD nc
          have s4 : Same H2 (upd H3 c (.lst [])) := s3.trans (same_upd nc)
          have okl := OkE.list (gs := hs') (fun g hg => oc.2 g ((List.mem_filter.mp (eh ▸ hg)).1))
          refine ⟨_, _, .lst (SqL.of (by rw [upd_ne ecD]; exact hD)) (TgL.dp (tl3.keep (Keeps.same (p := p) s4)) okl.1), .lst (SqL.of upd_same) .nil, okl.2, shaped_nil, _, rfl, ?_⟩
          rw [eqv_nilD, toDs_empty, eh, filt_empty]
          refine iteB (fun ed => ?_) (fun ed => ?_)
          · exact bad (s2.trans s4) (by rw [hsl, bFalse ed, Bool.false_and])
          have hall : ds.all slotG = true := bTrue ed
          rw [hall, Bool.true_and] at hsl
          have hwh : ∀ e ∈ ds, wholeG e = true := fun e he => by
            have z := List.all_eq_true.mp hall e he
            cases e <;> first | rfl | cases z
          obtain ⟨ns, rfl, rfl⟩ := ints_all tl hwh
          have hrg : ∀ i ∈ ns, -1 ≤ i ∧ i < 100 := fun i hi => by
            have z := List.all_eq_true.mp hall (.int i) (List.mem_map.mpr ⟨i, hi, rfl⟩)
            rw [slot_rng, Bool.and_eq_true, decide_eq_true_eq, decide_eq_true_eq] at z
            omega
          generalize upd H3 c (.lst []) = Hd at s4
          have twd := (Keeps.same (p := p) s4).tw _ _ tw
          have hns : ns.length ≤ 100 := by
            have z := oc.1
            rw [List.length_map] at z
            exact z
          -- rooms twice
          refine ⟨_, rfl, a, rfl, ⟨_, twd.sq⟩, fun D2 nD2 => ?_⟩
          refine lc_tup (K := K) (a := a) (xs := ns.map V.int) (fun i H5 => Same Hd H5 ∧ H5 D2 = some (.lst (((ns.take i).filter fun i => decide (0 ≤ i) && decide (1 < ns.count i)).map V.int))) ?_ ?_ ?_ ?_
          · exact ⟨same_upd nD2, upd_same⟩
          · rintro i H5 _ ⟨s5, _⟩
            exact ((Keeps.same (p := p) s5).tw _ _ twd).sq
          · rintro i x H5 hx ⟨s5, hD5⟩
            rw [List.getElem?_map] at hx
            obtain ⟨j, ej, rfl⟩ := Option.map_eq_some_iff.mp hx
            have hjm : j ∈ ns := List.mem_of_getElem? ej
            have et : ns.take (i + 1) = ns.take i ++ [j] := by
              rw [List.take_add_one, ej]
              rfl
            have no : (decide (0 ≤ j) && decide (1 < ns.count j)) = false → Same Hd H5 ∧ H5 D2 = some (.lst (((ns.take (i + 1)).filter fun i => decide (0 ≤ i) && decide (1 < ns.count i)).map V.int)) := fun z => by
              refine ⟨s5, ?_⟩
              rw [et, List.filter_append, List.filter_cons_of_neg (by rw [z]; decide), List.filter_nil, List.append_nil]
              exact hD5
            refine ⟨rfl, _, rfl, _, _, rfl, rfl, _, rfl, iteB (fun ea => ?_) (fun ea => ?_)⟩
            · have ptd : PTup H5 a (ns.map V.int) := ((hpt a _ rfl tw0).same s2).same (s4.trans s5)
              refine ⟨_, rfl, ⟨a, _, rfl, ptd⟩, _, rfl, a, ns, j, rfl, rfl, ptd, _, _, rfl, rfl, _, rfl, ?_⟩
              have e1 : decide ((1 : Int) < ((ns.count j : Nat) : Int)) = decide (1 < ns.count j) := by
                by_cases z : 1 < ns.count j
                · rw [decide_eq_true z, decide_eq_true (by omega)]
                · rw [decide_eq_false z, decide_eq_false (by omega)]
              rw [e1]
              refine iteB (fun eb => ?_) (fun eb => ?_)
              · refine ⟨_, rfl, _, hD5, ?_, ?_, ?_⟩
                · rw [List.length_map]
                  have z := List.length_filter_le (fun i => decide (0 ≤ i) && decide (1 < ns.count i)) (ns.take i)
                  rw [List.length_take] at z
                  exact small1000 (by omega)
                · intro c o ec
                  rw [upd_ne (ne_of_none ec nD2)]
                  exact s5 _ _ ec
                · rw [upd_same, et, List.filter_append, List.filter_cons_of_pos (by rw [show decide (0 ≤ j) = true from ea, eb]; rfl), List.filter_nil, List.map_append]
                  rfl
              · exact no (by rw [eb, Bool.and_false])
            · exact iteF (no (by rw [show decide (0 ≤ j) = false from ea, Bool.false_and]))
          · rintro H5 ⟨s5, hD5⟩
            rw [List.length_map, List.take_length] at hD5
            refine ⟨Nat.zero_le _, fun c nc => ?_⟩
            have ecD : D2 ≠ c := ne_of_none hD5 nc
            have s6 : Same H2 (upd H5 c (.lst [])) := (s4.trans s5).trans (same_upd nc)
            have f1 : Fine (.list ((ns.filter fun i => decide (0 ≤ i) && decide (1 < ns.count i)).map PyData.int)) 1 _ := Fine.list (fine_ints fun x hx => hrg x (List.mem_filter.mp hx).1)
            refine ⟨_, _, .lst (SqL.of (by rw [upd_ne ecD]; exact hD5)) (dp_ints _), .lst (SqL.of upd_same) .nil, f1.shaped (by decide), shaped_nil, _, rfl, ?_⟩
            rw [eqv_nilD, map_empty, dup_iff ns fun i hi => (hrg i hi).1]
            refine iteB (fun ee => ?_) (fun ee => ?_)
            · exact bad (s2.trans s6) (by rw [hsl, bFalse ee])
            exact rest _ _ ⟨rfl, s2.trans s6, by rw [hsl, bTrue ee]; exact Bool.and_false _⟩
      case hR =>
        rintro _ H3 ⟨rfl, s3, hno⟩
        have fin3 : ∀ (o : Option Str) H', Same H H' → (if (!isNon gm && !areBitsG gm n st) = true then some ("bits" : Str) else none) = o → Q (optV o) H' := fun o H' sm z => fin2 o H' sm (by
          rw [if_neg (by rw [hno]; exact Bool.false_ne_true)]
          exact z)
        clear fin2
        refine ⟨_, rfl, rfl, _, rfl, ?_⟩
        rw [non_dec hm]
        refine iteB (fun z => ?_) (fun z => ?_)
        rotate_left
        · exact fin3 none H3 s3 (by rw [if_neg]; rw [z, Bool.false_and]; exact Bool.false_ne_true)
        have bad : ∀ {H'}, Same H H' → areBitsG gm n st = false → Q (.str "bits") H' := fun sm y => fin3 (some "bits") _ sm (by rw [z, y]; rfl)
        have good : ∀ {H'}, Same H H' → areBitsG gm n st = true → Q .non H' := fun sm y => fin3 none _ sm (by rw [y, if_neg]; rw [Bool.not_true, Bool.and_false]; exact Bool.false_ne_true)
        have hm3 := hm.keep (Keeps.same (p := p) s3)
        refine ⟨_, rfl, vm, .ty "tuple", _, _, _, rfl, .ty "tuple", hm3.ty, kit_tuple gm, _, rfl, iteB (fun e7 => ?_) (fun e7 => ?_)⟩
        · refine bad s3 ?_
          have e' := bFalse e7
          cases gm <;> first | rfl | cases e'
        obtain ⟨b, us, ds, rfl, rfl, tw, tl⟩ := tg_tup hm3 (bTrue e7)
        have hl : us.length = ds.length := tl.len
        have hbt : areBitsG (.tup ds) n st = (decide ((ds.length : Int) = bitsN n st) && ds.all bitG) := rfl
        have hat : atI [V.int 0, V.int (n - 1)] (if decide (V.str st = V.str "tree") = true then (1 : Int) else 0) = some (V.int (bitsN n st)) := by
          unfold bitsN
          by_cases z : st = "tree"
          · rw [if_pos (decide_eq_true (congrArg V.str z)), if_pos z]
            rfl
          · rw [if_neg (fun y => z (V.str.inj (of_decide_eq_true y))), if_neg z]
            rfl
        refine ⟨_, rfl, b, _, rfl, .inr tw.sq, _, rfl, _, _, rfl, rfl, (by show 2 ≤ sizeLine; decide), fun l nl => ?_⟩
        have sg : Same H3 (upd H3 l (.lst [V.int 0, V.int (n - 1)])) := same_upd nl
        refine ⟨_, rfl, rfl, .inr ⟨_, rfl, l, _, _, _, rfl, rfl, SqL.of upd_same, hat, rfl, _, rfl, ?_⟩⟩
        rw [dec_int', hl]
        refine iteB (fun eg => ?_) (fun eg => ?_)
        · exact bad (s3.trans sg) (by rw [hbt, bFalse eg, Bool.false_and])
        rw [bTrue eg, Bool.true_and] at hbt
        generalize upd H3 l (.lst [V.int 0, V.int (n - 1)]) = Hg at sg
        have twg := tw.same sg
        refine ⟨_, rfl, b, rfl, ⟨_, twg.sq⟩, fun D nD => ?_⟩
        refine lc_tup (K := K) (a := b) (xs := us) (fun i H4 => Same Hg H4 ∧ ∃ vs' hs', H4 D = some (.lst vs') ∧ TgL p H3 vs' hs' ∧ hs' = (ds.take i).filter (fun g => !bitG g)) ?_ ?_ ?_ ?_
        · exact ⟨same_upd nD, [], [], upd_same, .nil, rfl⟩
        · rintro i H4 _ ⟨s4, _⟩
          exact (twg.same s4).sq
        · rintro i x H4 hx ⟨s4, vs', hs', hD, tl3, eh⟩
          obtain ⟨g0, eg0, hg0⟩ := tl.get hx
          have hil : i < ds.length := (List.getElem?_eq_some_iff.mp eg0).1
          have et : ds.take (i + 1) = ds.take i ++ [g0] := by
            rw [List.take_add_one, eg0]
            rfl
          have hlv : vs'.length < sizeLine := by
            rw [tl3.len, eh]
            have z := List.length_filter_le (fun g => !bitG g) (ds.take i)
            rw [List.length_take] at z
            exact small1000 (by have := om.1; omega)
          have yes : ∀ {H5}, Same H4 H5 → bitG g0 = false → ∃ acc, H5 D = some (.lst acc) ∧ acc.length < sizeLine ∧ Same Hg (upd H5 D (.lst (acc ++ [x]))) ∧ ∃ vs' hs', (upd H5 D (.lst (acc ++ [x]))) D = some (.lst vs') ∧ TgL p H3 vs' hs' ∧ hs' = (ds.take (i + 1)).filter (fun g => !bitG g) := fun s5 z => by
            refine ⟨vs', s5 _ _ hD, hlv, fun c o ec => ?_, vs' ++ [x], hs' ++ [g0], upd_same, tl3.app (.cons hg0 .nil), ?_⟩
            · rw [upd_ne (ne_of_none ec nD)]
              exact s5 _ _ (s4 _ _ ec)
            · rw [et, List.filter_append, eh, List.filter_cons_of_pos (by rw [z]; rfl), List.filter_nil]
          refine ⟨rfl, _, rfl, p, x, g0, rfl, hg0.keep (Keeps.same (sg.trans s4)), _, rfl, iteB (fun ea => ?_) (fun ea => ?_)⟩
          · refine ⟨_, rfl, yes (Same.refl _) ?_⟩
            have e' := bFalse ea
            cases g0 <;> first | rfl | cases e'
          obtain ⟨j, rfl, rfl⟩ := whole_int hg0 (bTrue ea)
          refine ⟨_, rfl, (by show 2 ≤ sizeLine; decide), fun t HA sA nt pt => ?_⟩
          refine ⟨t, [V.int 0, V.int 1], rfl, .inr pt.sq, rfl, rfl, _, rfl, iteB (fun ef => ?_) (fun ef => ?_)⟩
          · have ef' : (!inV (V.int j) [V.int 0, V.int 1]) = true := ef
            rw [bit_one] at ef'
            exact ⟨_, rfl, yes sA (bFalse ef')⟩
          · have ef' : (!inV (V.int j) [V.int 0, V.int 1]) = false := ef
            rw [bit_one] at ef'
            refine ⟨s4.trans sA, vs', hs', sA _ _ hD, tl3, ?_⟩
            rw [et, List.filter_append, ← eh, List.filter_cons_of_neg (by rw [ef']; decide), List.filter_nil, List.append_nil]
        · rintro H4 ⟨s4, vs', hs', hD, tl3, eh⟩
          rw [hl, List.take_length] at eh
          refine ⟨Nat.zero_le _, fun c nc => ?_⟩
          have ecD : D ≠ c := ne_of_none hD nc
          have s5 : Same H3 (upd H4 c (.lst [])) := (sg.trans s4).trans (same_upd nc)
          have okl := OkE.list (gs := hs') (fun g hg => om.2 g ((List.mem_filter.mp (eh ▸ hg)).1))
          refine ⟨_, _, .lst (SqL.of (by rw [upd_ne ecD]; exact hD)) (TgL.dp (tl3.keep (Keeps.same (p := p) s5)) okl.1), .lst (SqL.of upd_same) .nil, okl.2, shaped_nil, _, rfl, ?_⟩
          rw [eqv_nilD, toDs_empty, eh, filt_empty]
          refine iteB (fun ed => ?_) (fun ed => ?_)
          · exact bad (s3.trans s5) (by rw [hbt, bFalse ed])
          · exact good (s3.trans s5) (by rw [hbt, bTrue ed])
end
end Su
/-! ### S7a: things that the law hands to Shelf -/
namespace Su
open PySem PySem.Spec PyProof.Rows L2
def isSc : G → Bool
  | .non => true
  | .bl _ => true
  | .int _ => true
  | .str _ => true
  | _ => false
def scV : G → V
  | .bl b => .bl b
  | .int i => .int i
  | .str s => .str s
  | _ => .non
/-- a scalar that may be shown -/
structure ScF (g : G) : Prop where
  sc : isSc g = true
  ok : OkE g
  fz : Fz g 0 100
inductive Wt (p : Addr) (H : Hp) : V → G → Prop
  | sc {g : G} (h : ScF g) : Wt p H (scV g) g
  | tup {a : Addr} {ds : List G} (e : PTup H a (ds.map scV)) (h : ∀ d ∈ ds, ScF d) (l : ds.length ≤ 20) : Wt p H (.ref a) (.tup ds)
  | lst {a : Addr} {ds : List G} (n : a ≠ p) (e : H a = some (.lst (ds.map scV))) (h : ∀ d ∈ ds, ScF d) (l : ds.length ≤ 20) : Wt p H (.ref a) (.lst ds)
theorem sc_tg {p : Addr} {H : Hp} {g : G} (h : isSc g = true) : Tg p H (scV g) g := by
  cases g with
  | non => exact .non
  | bl b => exact .bl b
  | int i => exact .int i
  | str s => exact .str s
  | _ => cases h
theorem sc_tgL {p : Addr} {H : Hp} : ∀ {ds : List G}, (∀ d ∈ ds, ScF d) → TgL p H (ds.map scV) ds
  | [], _ => .nil
  | d :: ds, h => .cons (sc_tg (h d List.mem_cons_self).sc) (sc_tgL fun x hx => h x (List.mem_cons_of_mem _ hx))
theorem sc_okD {g : G} (h : isSc g = true) : okD g = true := by
  cases g <;> first | rfl | cases h
section
variable {p : Addr} {H H' : Hp} {v : V} {g : G}
theorem Wt.tg (h : Wt p H v g) : Tg p H v g := by
  cases h with
  | sc h => exact sc_tg h.sc
  | tup e h l => exact .tup (.inl e) (sc_tgL h)
  | lst n e h l => exact .lst n e (sc_tgL h)
theorem Wt.ok (h : Wt p H v g) : OkN g := by
  cases h with
  | sc h =>
    have z := h.sc
    cases g <;> first | trivial | cases z
  | tup e h l => exact ⟨by omega, fun d hd => (h d hd).ok⟩
  | lst n e h l => trivial
theorem Wt.few (h : Wt p H v g) : few g := by
  have z := h.ok
  cases g <;> first | trivial | exact z.1
theorem Wt.od (h : Wt p H v g) : okD g = true := by
  cases h with
  | sc h => exact sc_okD h.sc
  | tup e h l =>
    show okDs _ = true
    rw [okDs_all, List.all_eq_true]
    exact fun d hd => sc_okD (h d hd).sc
  | lst n e h l =>
    show okDs _ = true
    rw [okDs_all, List.all_eq_true]
    exact fun d hd => sc_okD (h d hd).sc
theorem Wt.fz (h : Wt p H v g) : Fz g 1 2020 := by
  cases h with
  | sc h => exact h.fz.up (by decide) (by decide)
  | tup e h l => exact (Fz.tup (FzL.all fun d hd => (h d hd).fz)).up (by decide) (by omega)
  | lst n e h l => exact (Fz.lst (FzL.all fun d hd => (h d hd).fz)).up (by decide) (by omega)
theorem Wt.pt (h : Wt p H v g) : ∀ a xs, v = .ref a → T2 H a xs → PTup H a xs := by
  intro a xs e t
  cases h with
  | sc h =>
    have z := h.sc
    cases g <;> first | (cases e; done) | cases z
  | tup e1 h l =>
    cases e
    obtain ⟨o, eo, ed⟩ := e1
    rcases t with t | t
    · exact t
    · rw [eo] at t
      cases t
  | lst n e1 h l =>
    cases e
    rcases t with t | t
    · exact t
    · rw [e1] at t
      cases t
theorem Wt.same (h : Wt p H v g) (s : Same H H') : Wt p H' v g := by
  cases h with
  | sc h => exact .sc h
  | tup e h l => exact .tup (e.same s) h l
  | lst n e h l => exact .lst n (s _ _ e) h l
theorem Wt.kept (h : Wt p H v g) (k : Kept p H H') (hp : PoolAt H p) : Wt p H' v g := by
  cases h with
  | sc h => exact .sc h
  | tup e h l => exact .tup (e.kept k hp) h l
  | lst n e h l => exact .lst n (k _ _ e n) h l
theorem Wt.put {L : Addr} {ys : List V} {o : HO} (h : Wt p H v g) (hL : H L = some (.lst ys)) (n : v ≠ .ref L) : Wt p (upd H L o) v g := by
  cases h with
  | sc h => exact .sc h
  | tup e h l =>
    obtain ⟨ob, eo, ed⟩ := e
    refine .tup ⟨ob, ?_, ed⟩ h l
    rw [upd_ne (fun z => n (by rw [z]))]
    exact eo
  | lst n2 e h l =>
    refine .lst n2 ?_ h l
    rw [upd_ne (fun z => n (by rw [z]))]
    exact e
end
theorem OkE.int (i : Int) : OkE (.int i) := ⟨rfl, rfl, by simp [toD, PyData.depth]⟩
theorem ScF.int {i : Int} (h1 : -1000000 ≤ i) (h2 : i ≤ 1000000) : ScF (.int i) := ⟨rfl, OkE.int _, (Fz.int h1 h2).up (by decide) (by decide)⟩
theorem ScF.bl (b : Bool) : ScF (.bl b) := ⟨rfl, ⟨rfl, rfl, by simp [toD, PyData.depth]⟩, (Fz.bool b).up (by decide) (by decide)⟩
theorem ScF.non : ScF .non := ⟨rfl, ⟨rfl, rfl, by simp [toD, PyData.depth]⟩, Fz.none.up (by decide) (by decide)⟩
theorem big_is : ((fun (i j : Int) => V.int (i ^ j.toNat)) 10 20) = V.int 100000000000000000000 := congrArg V.int (by decide +kernel)
theorem ScF.big : ScF (.int 100000000000000000000) := ⟨rfl, OkE.int _, ⟨by decide +kernel, by simp [toD, PyData.depth], by decide +kernel, by decide +kernel⟩⟩
theorem ScF.str {s : Str} (h0 : (PyData.str s).canLay0 = true) (h1 : PyData.leavesShort 30 (.str s) = true) (h2 : (PyData.str s).weight ≤ 100) : ScF (.str s) := ⟨rfl, ⟨rfl, h0, by simp [toD, PyData.depth]⟩, ⟨by simp [toD, PyData.showable], by simp [toD, PyData.depth], h1, h2⟩⟩
theorem sc_Last : ScF (.str "Last") := .str (by decide +kernel) (by decide +kernel) (by decide +kernel)
theorem sc_last : ScF (.str "last") := .str (by decide +kernel) (by decide +kernel) (by decide +kernel)
theorem sc_first : ScF (.str "first") := .str (by decide +kernel) (by decide +kernel) (by decide +kernel)
theorem sc_tree : ScF (.str "tree") := .str (by decide +kernel) (by decide +kernel) (by decide +kernel)
theorem sc_treeb : ScF (.str "tree ") := .str (by decide +kernel) (by decide +kernel) (by decide +kernel)
theorem sc_e : ScF (.str "") := .str (by decide +kernel) (by decide +kernel) (by decide +kernel)
theorem sc_4 : ScF (.str "4") := .str (by decide +kernel) (by decide +kernel) (by decide +kernel)
theorem sc_7 : ScF (.str "7") := .str (by decide +kernel) (by decide +kernel) (by decide +kernel)
theorem sc_0 : ScF (.str "0") := .str (by decide +kernel) (by decide +kernel) (by decide +kernel)
end Su
/-! ### S7: parts put otherwise -/
namespace Su
open PySem PySem.Spec PyProof.Rows L2
/-- whole numbers of a range, few of them -/
def Nums (lo hi : Int) (least : Nat) (v : V) (g : G) (H : Hp) : Prop := (v = .non ∧ g = .non) ∨ ∃ (a : Addr) (ns : List Int), v = .ref a ∧ g = .tup (ns.map G.int) ∧ PTup H a (ns.map V.int) ∧ least ≤ ns.length ∧ ns.length ≤ 8 ∧ ∀ i ∈ ns, lo ≤ i ∧ i ≤ hi
structure FourAt (p : Addr) (H : Hp) (F : Addr) (n : Int) (st : Str) (v2 v3 : V) (g2 g3 : G) : Prop where
  at_ : H F = some (.lst [.int n, .str st, v2, v3])
  ne : F ≠ p
  n1 : 1 ≤ n
  n8 : n ≤ 8
  w : inV (.str st) wayVs = true
  c : Nums (-1) 99 1 v2 g2 H
  m : Nums 0 1 0 v3 g3 H
theorem way_three {st : Str} (h : inV (.str st) wayVs = true) : st = "last" ∨ st = "first" ∨ st = "tree" := by
  have z : (("last" == st) || (("first" == st) || (("tree" == st) || false))) = true := h
  simp only [Bool.or_eq_true, beq_iff_eq, Bool.or_false] at z
  rcases z with z | z | z
  · exact .inl z.symm
  · exact .inr (.inl z.symm)
  · exact .inr (.inr z.symm)
theorem way_sc {st : Str} (h : inV (.str st) wayVs = true) : ScF (.str st) := by
  rcases way_three h with rfl | rfl | rfl
  · exact sc_last
  · exact sc_first
  · exact sc_tree
theorem Nums.wt {p : Addr} {lo hi : Int} {least : Nat} {v : V} {g : G} {H : Hp} (h : Nums lo hi least v g H) (h1 : -1000000 ≤ lo) (h2 : hi ≤ 1000000) : Wt p H v g := by
  rcases h with ⟨rfl, rfl⟩ | ⟨a, ns, rfl, rfl, e, _, l8, hi⟩
  · exact .sc .non
  · refine .tup (by rw [List.map_map]; exact e) (fun d hd => ?_) (by rw [List.length_map]; omega)
    obtain ⟨i, hm, rfl⟩ := List.mem_map.mp hd
    have := hi i hm
    exact .int (by omega) (by omega)
theorem Nums.ne {lo hi : Int} {least : Nat} {v : V} {g : G} {H : Hp} {L : Addr} (h : Nums lo hi least v g H) (nL : H L = none) : v ≠ .ref L := by
  rcases h with ⟨rfl, rfl⟩ | ⟨a, ns, rfl, rfl, ⟨ob, eo, _⟩, _⟩
  · exact fun z => by cases z
  · intro z
    cases z
    rw [nL] at eo
    cases eo
def spBent : Sp := fun vs H Q _ => ∃ (p F : Addr) (n : Int) (st : Str) (v2 v3 : V) (g2 g3 : G), vs = [.ref p, .ref F] ∧ PoolAt H p ∧ FourAt p H F n st v2 v3 g2 g3 ∧ ∀ (u : Addr) (H' : Hp) (w0 w1 w2 w3 : V) (h0 h1 h2 h3 : G), Kept p H H' → PoolAt H' p → H u = none → H' u = some (.lst [w0, w1, w2, w3]) → Wt p H' w0 h0 → Wt p H' w1 h1 → Wt p H' w2 h2 → Wt p H' w3 h3 → Q (.ref u) H'
theorem sc_ne {g : G} (h : isSc g = true) {L : Addr} : scV g ≠ .ref L := by
  cases g <;> first | (intro z; cases z; done) | cases h
theorem mid3 {R M : V → Hp → Prop} {G : Prop} (hR : ∀ v H, M v H → R v H) (h : (∀ v H, M v H → R v H) → G) : G := h hR
theorem cut_few {ns : List Int} {x : V} (h : ns.length ≤ 8) : [x].length + (cutV (ns.map V.int) (some 1) none).length ≤ 20 := by
  rw [show cutV (ns.map V.int) (some (1 : Int)) none = (ns.map V.int).drop 1 from cut_from (ns.map V.int) 1, List.length_drop, List.length_map]
  show 1 + _ ≤ 20
  omega
theorem cut1 (ns : List Int) : cutV (ns.map V.int) (some (1 : Int)) none = (ns.drop 1).map V.int := by
  rw [List.map_drop]
  exact cut_from (ns.map V.int) 1
theorem ref_ne {H : Hp} {a L : Addr} {xs ys : List V} (h : PTup H a xs) (e : H L = some (.lst ys)) : V.ref a ≠ .ref L := by
  intro z
  cases z
  obtain ⟨ob, eo, _⟩ := h
  rw [e] at eo
  cases eo
theorem wt_ints {p : Addr} {H : Hp} {a : Addr} {ns : List Int} {ds : List G} (e : PTup H a (ds.map scV ++ ns.map V.int)) (hd : ∀ d ∈ ds, ScF d) (h : ∀ i ∈ ns, -1000 ≤ i ∧ i ≤ 1000) (l : ds.length + ns.length ≤ 20) : Wt p H (.ref a) (.tup (ds ++ ns.map G.int)) := by
  refine .tup ?_ (fun d hm => ?_) (by rw [List.length_append, List.length_map]; exact l)
  · rw [List.map_append, List.map_map]
    exact e
  · rcases List.mem_append.mp hm with y | y
    · exact hd d y
    · obtain ⟨i, hi, rfl⟩ := List.mem_map.mp y
      have := h i hi
      exact .int (by omega) (by omega)
theorem bent_mid {p L b1 b2 l3 b4 b5 b6 b8 : Addr} {H : Hp} {ys : List V} {x : Int} {ns' : List Int} {m : Nat} {R : V → Prop} (l8 : (x :: ns').length ≤ 8) (rg : ∀ i ∈ x :: ns', -1 ≤ i ∧ i ≤ 99) (hm8 : m < 8) (el3 : l3 ≠ p) (eL3 : l3 ≠ L) (hL : H L = some (.lst ys))
    (p1 : PTup H b1 ((x :: ns').map V.int ++ [V.int (-1)])) (p2 : PTup H b2 (cutV ((x :: ns').map V.int) (some 1) none)) (h3 : H l3 = some (.lst ((x :: ns').map V.int))) (p4 : PTup H b4 ([V.bl true] ++ cutV ((x :: ns').map V.int) (some 1) none)) (p5 : PTup H b5 ([V.int 100] ++ cutV ((x :: ns').map V.int) (some 1) none))
    (p6 : PTup H b6 ([V.int (-2)] ++ cutV ((x :: ns').map V.int) (some 1) none)) {k : Nat} (p8 : PTup H b8 ((List.replicate k x).map V.int)) (hk : k ≤ 8)
    (fin : ∀ h, Wt p H ([V.ref b1, V.ref b2, V.ref l3, V.ref b4, V.ref b5, V.ref b6, V.str "7", V.ref b8].getD m .non) h → ([V.ref b1, V.ref b2, V.ref l3, V.ref b4, V.ref b5, V.ref b6, V.str "7", V.ref b8].getD m .non) ≠ .ref L → R ([V.ref b1, V.ref b2, V.ref l3, V.ref b4, V.ref b5, V.ref b6, V.str "7", V.ref b8].getD m .non)) :
    R ([V.ref b1, V.ref b2, V.ref l3, V.ref b4, V.ref b5, V.ref b6, V.str "7", V.ref b8].getD m .non) := by
  rw [cut1] at p2 p4 p5 p6
  have r1 : ∀ i ∈ x :: ns', -1000 ≤ i ∧ i ≤ 1000 := fun i hi => by have := rg i hi; omega
  have rd : ∀ i ∈ (x :: ns').drop 1, -1000 ≤ i ∧ i ≤ 1000 := fun i hi => r1 i (List.mem_of_mem_drop hi)
  have ld : ((x :: ns').drop 1).length ≤ 8 := by rw [List.length_drop]; omega
  have one : ∀ {d : G}, ScF d → ∀ e ∈ [d], ScF e := fun h e he => by rw [List.mem_singleton.mp he]; exact h
  match m, hm8 with
  | 0, _ => exact fin _ (wt_ints (ds := []) (ns := (x :: ns') ++ [-1]) (by rw [List.map_append]; exact p1) (fun d hd => (List.not_mem_nil hd).elim) (fun i hi => by
      rcases List.mem_append.mp hi with y | y
      · exact r1 i y
      · rw [List.mem_singleton.mp y]; decide) (by rw [List.length_append]; show 0 + (_ + 1) ≤ 20; omega)) (ref_ne p1 hL)
  | 1, _ => exact fin _ (wt_ints (ds := []) p2 (fun d hd => (List.not_mem_nil hd).elim) rd (by show 0 + _ ≤ 20; omega)) (ref_ne p2 hL)
  | 2, _ => exact fin _ (.lst (ds := (x :: ns').map G.int) el3 (by rw [List.map_map]; exact h3) (fun d hd => by
      obtain ⟨i, hi, rfl⟩ := List.mem_map.mp hd
      have := r1 i hi
      exact .int (by omega) (by omega)) (by rw [List.length_map]; omega)) (fun z => eL3 (V.ref.inj z))
  | 3, _ => exact fin _ (wt_ints (ds := [.bl true]) p4 (one (.bl true)) rd (by show 1 + _ ≤ 20; omega)) (ref_ne p4 hL)
  | 4, _ => exact fin _ (wt_ints (ds := [.int 100]) p5 (one (.int (by decide) (by decide))) rd (by show 1 + _ ≤ 20; omega)) (ref_ne p5 hL)
  | 5, _ => exact fin _ (wt_ints (ds := [.int (-2)]) p6 (one (.int (by decide) (by decide))) rd (by show 1 + _ ≤ 20; omega)) (ref_ne p6 hL)
  | 6, _ => exact fin _ (.sc sc_7) (fun z => by cases z)
  | 7, _ => exact fin _ (wt_ints (ds := []) (ns := List.replicate k x) p8 (fun d hd => (List.not_mem_nil hd).elim) (fun i hi => by rw [List.eq_of_mem_replicate hi]; exact r1 x List.mem_cons_self) (by rw [List.length_replicate]; show 0 + _ ≤ 20; omega)) (ref_ne p8 hL)
theorem wt_intsR {p : Addr} {H : Hp} {a : Addr} {ns : List Int} {d : G} (e : PTup H a (ns.map V.int ++ [scV d])) (hd : ScF d) (h : ∀ i ∈ ns, -1000 ≤ i ∧ i ≤ 1000) (l : ns.length ≤ 19) : Wt p H (.ref a) (.tup (ns.map G.int ++ [d])) := by
  refine .tup ?_ (fun x hm => ?_) (by rw [List.length_append, List.length_map]; show _ + 1 ≤ 20; omega)
  · rw [List.map_append, List.map_map]
    exact e
  · rcases List.mem_append.mp hm with y | y
    · obtain ⟨i, hi, rfl⟩ := List.mem_map.mp y
      have := h i hi
      exact .int (by omega) (by omega)
    · rw [List.mem_singleton.mp y]
      exact hd
theorem bent_low {p L b1 b2 l3 b4 b7 l8' : Addr} {H : Hp} {ys : List V} {ns : List Int} {m : Nat} {R : V → Prop} (l8 : ns.length ≤ 8) (rg : ∀ i ∈ ns, 0 ≤ i ∧ i ≤ 1) (hm8 : m < 8) (el3 : l3 ≠ p) (eL3 : l3 ≠ L) (el8 : l8' ≠ p) (eL8 : l8' ≠ L) (hL : H L = some (.lst ys))
    (p1 : PTup H b1 (ns.map V.int ++ [V.int 0])) (p2 : PTup H b2 (cutV (ns.map V.int) (some 1) none ++ [V.int 2])) (h3 : H l3 = some (.lst (ns.map V.int))) (p4 : PTup H b4 (cutV (ns.map V.int) (some 1) none ++ [V.bl true])) (p7 : PTup H b7 ([V.non] ++ cutV (ns.map V.int) (some 1) none)) (h8 : H l8' = some (.lst [V.int 0]))
    (fin : ∀ h, Wt p H ([V.ref b1, V.ref b2, V.ref l3, V.ref b4, V.int 0, V.str "0", V.ref b7, V.ref l8'].getD m .non) h → ([V.ref b1, V.ref b2, V.ref l3, V.ref b4, V.int 0, V.str "0", V.ref b7, V.ref l8'].getD m .non) ≠ .ref L → R ([V.ref b1, V.ref b2, V.ref l3, V.ref b4, V.int 0, V.str "0", V.ref b7, V.ref l8'].getD m .non)) :
    R ([V.ref b1, V.ref b2, V.ref l3, V.ref b4, V.int 0, V.str "0", V.ref b7, V.ref l8'].getD m .non) := by
  rw [cut1] at p2 p4 p7
  have r1 : ∀ i ∈ ns, -1000 ≤ i ∧ i ≤ 1000 := fun i hi => by have := rg i hi; omega
  have rd : ∀ i ∈ ns.drop 1, -1000 ≤ i ∧ i ≤ 1000 := fun i hi => r1 i (List.mem_of_mem_drop hi)
  have ld : (ns.drop 1).length ≤ 8 := by rw [List.length_drop]; omega
  have one : ∀ {d : G}, ScF d → ∀ e ∈ [d], ScF e := fun h e he => by rw [List.mem_singleton.mp he]; exact h
  match m, hm8 with
  | 0, _ => exact fin _ (wt_intsR (d := .int 0) p1 (.int (by decide) (by decide)) r1 (by omega)) (ref_ne p1 hL)
  | 1, _ => exact fin _ (wt_intsR (d := .int 2) p2 (.int (by decide) (by decide)) rd (by omega)) (ref_ne p2 hL)
  | 2, _ => exact fin _ (.lst (ds := ns.map G.int) el3 (by rw [List.map_map]; exact h3) (fun d hd => by
      obtain ⟨i, hi, rfl⟩ := List.mem_map.mp hd
      have := r1 i hi
      exact .int (by omega) (by omega)) (by rw [List.length_map]; omega)) (fun z => eL3 (V.ref.inj z))
  | 3, _ => exact fin _ (wt_intsR (d := .bl true) p4 (.bl true) rd (by omega)) (ref_ne p4 hL)
  | 4, _ => exact fin _ (.sc (.int (i := 0) (by decide) (by decide))) (fun z => by cases z)
  | 5, _ => exact fin _ (.sc sc_0) (fun z => by cases z)
  | 6, _ => exact fin _ (wt_ints (ds := [.non]) p7 (one .non) rd (by show 1 + _ ≤ 20; omega)) (ref_ne p7 hL)
  | 7, _ => exact fin _ (.lst (ds := [.int 0]) el8 h8 (one (.int (by decide) (by decide))) (by decide)) (fun z => eL8 (V.ref.inj z))
theorem bent_end {p L : Addr} {H H' : Hp} {Q : VK} {x0 x1 x2 x3 w : V} {g0 g1 g2 g3 h : G} {i : Nat}
    (q : ∀ (u : Addr) (H' : Hp) (w0 w1 w2 w3 : V) (h0 h1 h2 h3 : G), Kept p H H' → PoolAt H' p → H u = none → H' u = some (.lst [w0, w1, w2, w3]) → Wt p H' w0 h0 → Wt p H' w1 h1 → Wt p H' w2 h2 → Wt p H' w3 h3 → Q (.ref u) H')
    (hi : i < 4) (k : Kept p H H') (hp : PoolAt H' p) (nL : H L = none) (e : H' L = some (.lst ([x0, x1, x2, x3].set i w))) (W0 : Wt p H' x0 g0) (W1 : Wt p H' x1 g1) (W2 : Wt p H' x2 g2) (W3 : Wt p H' x3 g3) (Ww : Wt p H' w h) : Q (.ref L) H' := by
  obtain rfl | rfl | rfl | rfl : i = 0 ∨ i = 1 ∨ i = 2 ∨ i = 3 := by omega
  · exact q L H' w x1 x2 x3 h g1 g2 g3 k hp nL e Ww W1 W2 W3
  · exact q L H' x0 w x2 x3 g0 h g2 g3 k hp nL e W0 Ww W2 W3
  · exact q L H' x0 x1 w x3 g0 g1 h g3 k hp nL e W0 W1 Ww W3
  · exact q L H' x0 x1 x2 w g0 g1 g2 h k hp nL e W0 W1 W2 Ww
theorem scBent : FnScope ["_law_pool_here", "_law_four", "_law_turn", "_law_found", "_law_at", "_law_some", "_law_odd"] ["_law_pool_here", "_law_four"] (defScope sBent) := ⟨rfl, rfl, rfl, by decide +kernel, rfl, by decide +kernel, by decide +kernel⟩
section
variable {P : Program} {w : World} {K : PySem.W.Frag} {mg : Str → Option Value} {base : Heap}
theorem ok_bent (T : At K mg "_law_bent" sBent ["_law_pool_here", "_law_four"]) (B : Bt mg) (c_take : Cal P w K mg base 1 "_law_take" ["_law_pool_here", "_law_many"] spTake) : Cal P w K mg base 2 "_law_bent" ["_law_pool_here", "_law_four"] spBent := by
  refine cal_of T scBent (fun vs H Q E h => ?_) (fun f cdv A outer s H vs Q E hr h => ?_)
  · obtain ⟨p, F, n, st, v2, v3, g2, g3, rfl, _⟩ := h
    rfl
  · obtain ⟨p, F, n, st, v2, v3, g2, g3, rfl, hp, four, q⟩ := h
    refine ⟨_, (pss_cons (ps_set (i := 2) scBent.nd rfl (Or.inl rfl) (pe_own c_take hr (by decide) (by rfl) (pa_cons (pv 0) (pa_cons pe_int pa_nil))))
      (pss_cons (ps_set (i := 3) scBent.nd rfl (Or.inl rfl) (pe_callTy call_list_of (by rfl) B.list (by decide +kernel) (pa_cons (pv 1) pa_nil)))
      (pss_cons (ps_set (i := 4) scBent.nd rfl (Or.inl rfl) (pe_own c_take hr (by decide) (by rfl) (pa_cons (pv 0) (pa_cons pe_int pa_nil))))
      (pss_cons (ps_if (pt_cmpR op_eq (pv 2) pe_int (nomark _)) (pss_one (ps_asg (pe_ix ix_list (pe_lst (pa_cons pe_str (pa_cons pe_non (pa_cons pe_str (pa_cons pe_int (pa_cons (pe_lst (pa_cons pe_str pa_nil)) (pa_cons pe_str (pa_cons pe_bl (pa_cons (pe_tupF (pa_cons pe_str pa_nil)) pa_nil))))))))) (pv 4) (fun _ _ => rfl)) (pg_sub (pv 3) pe_int set_list))) (pss_one (ps_if (pt_cmpR op_eq (pv 2) pe_int (nomark _)) (pss_one (ps_asg (pe_ix ix_list (pe_lst (pa_cons pe_int (pa_cons pe_int (pa_cons (pe_un un_neg pe_int) (pa_cons pe_bl (pa_cons pe_non (pa_cons pe_str (pa_cons pe_int (pa_cons (pe_op op_pow pe_int pe_int) pa_nil))))))))) (pv 4) (fun _ _ => rfl)) (pg_sub (pv 3) pe_int set_list))) (pss_one (ps_if (pt_cmpR op_eq (pv 2) pe_int (nomark _)) (pss_cons (ps_set (i := 5) scBent.nd rfl (Or.inl rfl) (pe_orT (pe_ix ix_list (pv 1) pe_int (fun _ _ => rfl)) (pe_one (pe_tupF (pa_cons (pe_un un_neg pe_int) pa_nil)))))
      (pss_cons (ps_set (i := 6) scBent.nd rfl (Or.inl rfl) (pe_lst (pa_cons (pe_op op_catF (pv 5) (pe_tupF (pa_cons (pe_un un_neg pe_int) pa_nil))) (pa_cons (pe_slice sl_tupF (pv 5) (po_some pe_int) po_none) (pa_cons (pe_callTy call_list_of (by rfl) B.list (by decide +kernel) (pa_cons (pv 5) pa_nil)) (pa_cons (pe_op op_catF (pe_tupF (pa_cons pe_bl pa_nil)) (pe_slice sl_tupF (pv 5) (po_some pe_int) po_none)) (pa_cons (pe_op op_catF (pe_tupF (pa_cons pe_int pa_nil)) (pe_slice sl_tupF (pv 5) (po_some pe_int) po_none)) (pa_cons (pe_op op_catF (pe_tupF (pa_cons (pe_un un_neg pe_int) pa_nil)) (pe_slice sl_tupF (pv 5) (po_some pe_int) po_none)) (pa_cons pe_str pa_nil)))))))))
      (pss_one (ps_asg (pe_ix ix_list (pe_op op_cat (pv 6) (pe_lst (pa_cons (pe_op op_repF (pe_tupF (pa_cons (pe_ix ix_tup (pe_op op_catF (pv 5) (pe_tupF (pa_cons pe_int pa_nil))) pe_int (fun _ _ => rfl)) pa_nil)) (pe_callB call_len_seq (by rfl) B.len PySem.boot_len (pa_cons (pv 5) pa_nil))) pa_nil))) (pv 4) (fun _ _ => rfl)) (pg_sub (pv 3) pe_int set_list))))) (pss_one (ps_if (pt_cmpR op_eq (pv 2) pe_int (nomark _)) (pss_cons (ps_set (i := 5) scBent.nd rfl (Or.inl rfl) (pe_orT (pe_ix ix_list (pv 1) pe_int (fun _ _ => rfl)) (pe_one (pe_tupF pa_nil))))
      (pss_cons (ps_set (i := 6) scBent.nd rfl (Or.inl rfl) (pe_lst (pa_cons (pe_op op_catF (pv 5) (pe_tupF (pa_cons pe_int pa_nil))) (pa_cons (pe_op op_catF (pe_slice sl_tupF (pv 5) (po_some pe_int) po_none) (pe_tupF (pa_cons pe_int pa_nil))) (pa_cons (pe_callTy call_list_of (by rfl) B.list (by decide +kernel) (pa_cons (pv 5) pa_nil)) (pa_cons (pe_op op_catF (pe_slice sl_tupF (pv 5) (po_some pe_int) po_none) (pe_tupF (pa_cons pe_bl pa_nil))) (pa_cons pe_int (pa_cons pe_str (pa_cons (pe_op op_catF (pe_tupF (pa_cons pe_non pa_nil)) (pe_slice sl_tupF (pv 5) (po_some pe_int) po_none)) (pa_cons (pe_lst (pa_cons pe_int pa_nil)) pa_nil))))))))))
      (pss_one (ps_asg (pe_ix ix_list (pv 6) (pv 4) (fun _ _ => rfl)) (pg_sub (pv 3) pe_int set_list))))) pss_nil)))))))
      (pss_one (ps_ret (pv 3))))))), ?_⟩
    refine ⟨_, rfl, p, 6, rfl, hp, by decide, by decide, fun r o r0 r1 po => ?_⟩
    have k1 : Kept p H (upd H p o) := Kept.upd p H o
    have hp1 : PoolAt (upd H p o) p := ⟨o, upd_same, po⟩
    have hF1 := k1 _ _ four.at_ four.ne
    refine ⟨_, rfl, F, _, rfl, .inl (SqL.of hF1), fun L nL => ?_⟩
    have sL := same_upd (o := .lst [.int n, .str st, v2, v3]) nL
    have eL : L ≠ p := pool_ne hp1 nL
    have k2 := k1.trans (Kept.same sL)
    refine ⟨_, rfl, p, 8, rfl, hp1.same sL, by decide, by decide, fun r2 o2 r20 r21 po2 => ?_⟩
    have k3 := Kept.upd p (upd (upd H p o) L (.lst [.int n, .str st, v2, v3])) o2
    have k03 := k2.trans k3
    have hL3 := k3 _ _ (upd_same (H := upd H p o) (a := L) (o := .lst [.int n, .str st, v2, v3])) eL
    have hp3 : PoolAt (upd (upd (upd H p o) L (.lst [.int n, .str st, v2, v3])) p o2) p := ⟨o2, upd_same, po2⟩
    have hF3 := k03 _ _ four.at_ four.ne
    have nLH : H L = none := k1.free eL nL
    generalize upd (upd (upd H p o) L (.lst [.int n, .str st, v2, v3])) p o2 = H3 at k03 hL3 hp3 hF3 ⊢
    clear k3 k2 sL hF1 hp1 k1 nL
    obtain ⟨m, rfl⟩ : ∃ m : Nat, r2 = (m : Int) := ⟨r2.toNat, by omega⟩
    have hm8 : m < 8 := by omega
    -- the end: one of the four is put otherwise
    have fin : ∀ (i : Nat) (w : V) (h : G) (H4 : Hp), i < 4 → Same H3 H4 → Wt p H4 w h → w ≠ .ref L → Q (.ref L) (upd H4 L (.lst ([.int n, .str st, v2, v3].set i w))) := by
      intro i w h H4 hi s4 hw hne
      have hL4 := s4 _ _ hL3
      have k4 : Kept p H (upd H4 L (.lst ([.int n, .str st, v2, v3].set i w))) := fun b x e nb => by
        rw [upd_ne (ne_of_none e nLH)]
        exact s4 _ _ (k03 _ _ e nb)
      have hp4 : PoolAt (upd H4 L (.lst ([.int n, .str st, v2, v3].set i w))) p := by
        obtain ⟨ob, eo, pb⟩ := hp3.same s4
        exact ⟨ob, by rw [upd_ne (Ne.symm eL)]; exact eo, pb⟩
      have W0 : Wt p H4 (.int n) (.int n) := .sc (.int (by have := four.n1; omega) (by have := four.n8; omega))
      have W1 : Wt p H4 (.str st) (.str st) := .sc (way_sc four.w)
      have W2 := ((four.c.wt (p := p) (by decide) (by decide)).kept k03 hp).same s4
      have W3 := ((four.m.wt (p := p) (by decide) (by decide)).kept k03 hp).same s4
      have n2 : v2 ≠ .ref L := four.c.ne nLH
      have n3 : v3 ≠ .ref L := four.m.ne nLH
      have W0 := W0.put (o := .lst ([.int n, .str st, v2, v3].set i w)) hL4 (fun z => by cases z)
      have W1 := W1.put (o := .lst ([.int n, .str st, v2, v3].set i w)) hL4 (fun z => by cases z)
      have W2 := W2.put (o := .lst ([.int n, .str st, v2, v3].set i w)) hL4 n2
      have W3 := W3.put (o := .lst ([.int n, .str st, v2, v3].set i w)) hL4 n3
      have Ww := hw.put (o := .lst ([.int n, .str st, v2, v3].set i w)) hL4 hne
      exact bent_end q hi k4 hp4 nLH upd_same W0 W1 W2 W3 Ww
    refine ⟨_, rfl, rfl, _, rfl, iteB (fun z0 => ?_) (fun z0 => ?_)⟩
    · refine ⟨(by show 1 ≤ sizeLine; decide), fun l1 nl1 => ?_⟩
      refine ⟨(by show 1 ≤ sizeLine; decide), fun t1 H4 s4 nt1 pt1 => ?_⟩
      refine ⟨(by show 8 ≤ sizeLine; decide), fun l2 nl2 => ?_⟩
      have s3 := same_upd (o := .lst [V.str "last"]) nl1
      have s5 := same_upd (o := .lst [V.str "Last", V.non, V.str "", V.int 1, V.ref l1, V.str "tree ", V.bl true, V.ref t1]) nl2
      have s35 := (s3.trans s4).trans s5
      refine ⟨_, rfl, l2, _, (m : Int), ([V.str "Last", V.non, V.str "", V.int 1, V.ref l1, V.str "tree ", V.bl true, V.ref t1].getD m .non), rfl, rfl, SqL.of upd_same, atI_nat (by
        match m, hm8 with
        | 0, _ | 1, _ | 2, _ | 3, _ | 4, _ | 5, _ | 6, _ | 7, _ => rfl), ?_⟩
      refine ⟨_, rfl, L, _, 1, 1, rfl, rfl, s35 _ _ hL3, rfl, ⟨_, rfl, ?_⟩⟩
      have hl1 := (s4.trans s5) _ _ (upd_same (H := H3) (a := l1) (o := .lst [V.str "last"]))
      have el1 : l1 ≠ p := pool_ne hp3 nl1
      have eL1 : l1 ≠ L := fun z => by rw [z, hL3] at nl1; cases nl1
      have pt2 := pt1.same s5
      have eL2 : t1 ≠ L := fun z => by
        obtain ⟨ob, eo, _⟩ := pt1
        rw [z, (s3.trans s4) _ _ hL3] at eo
        cases eo
      have hw : ∃ h, Wt p (upd H4 l2 (.lst [V.str "Last", V.non, V.str "", V.int 1, V.ref l1, V.str "tree ", V.bl true, V.ref t1])) ([V.str "Last", V.non, V.str "", V.int 1, V.ref l1, V.str "tree ", V.bl true, V.ref t1].getD m .non) h ∧ ([V.str "Last", V.non, V.str "", V.int 1, V.ref l1, V.str "tree ", V.bl true, V.ref t1].getD m .non) ≠ .ref L := by
        match m, hm8 with
        | 0, _ => exact ⟨_, .sc sc_Last, fun z => by cases z⟩
        | 1, _ => exact ⟨_, .sc .non, fun z => by cases z⟩
        | 2, _ => exact ⟨_, .sc sc_e, fun z => by cases z⟩
        | 3, _ => exact ⟨_, .sc (.int (i := 1) (by decide) (by decide)), fun z => by cases z⟩
        | 4, _ => exact ⟨_, .lst (ds := [.str "last"]) el1 hl1 (fun d hd => by rw [List.mem_singleton.mp hd]; exact sc_last) (by decide), fun z => eL1 (V.ref.inj z)⟩
        | 5, _ => exact ⟨_, .sc sc_treeb, fun z => by cases z⟩
        | 6, _ => exact ⟨_, .sc (.bl true), fun z => by cases z⟩
        | 7, _ => exact ⟨_, .tup (ds := [.str "last"]) pt2 (fun d hd => by rw [List.mem_singleton.mp hd]; exact sc_last) (by decide), fun z => eL2 (V.ref.inj z)⟩
      obtain ⟨h, hw1, hw2⟩ := hw
      exact fin 1 _ h _ (by decide) s35 hw1 hw2
    refine ⟨_, rfl, rfl, _, rfl, iteB (fun z1 => ?_) (fun z1 => ?_)⟩
    · refine ⟨_, rfl, ?_⟩
      refine ⟨_, _, rfl, rfl, ⟨by decide, by decide, by decide⟩, ?_⟩
      obtain ⟨big, ebig, obig⟩ : ∃ big : Int, ((fun (i j : Int) => V.int (i ^ j.toNat)) 10 20) = V.int big ∧ ScF (.int big) := ⟨100000000000000000000, big_is, ScF.big⟩
      generalize ((fun (i j : Int) => V.int (i ^ j.toNat)) 10 20) = vbig at ebig ⊢
      subst ebig
      refine ⟨(by show 8 ≤ sizeLine; decide), fun l2 nl2 => ?_⟩
      have s5 := same_upd (o := .lst [V.int 0, V.int 9, V.int (-1), V.bl true, V.non, V.str "4", V.int 3, V.int big]) nl2
      refine ⟨_, rfl, l2, _, (m : Int), ([V.int 0, V.int 9, V.int (-1), V.bl true, V.non, V.str "4", V.int 3, V.int big].getD m .non), rfl, rfl, SqL.of upd_same, atI_nat (by
        match m, hm8 with
        | 0, _ | 1, _ | 2, _ | 3, _ | 4, _ | 5, _ | 6, _ | 7, _ => rfl), ?_⟩
      refine ⟨_, rfl, L, _, 0, 0, rfl, rfl, s5 _ _ hL3, rfl, ⟨_, rfl, ?_⟩⟩
      have hw : ∃ h, ScF h ∧ ([V.int 0, V.int 9, V.int (-1), V.bl true, V.non, V.str "4", V.int 3, V.int big].getD m .non) = scV h := by
        match m, hm8 with
        | 0, _ => exact ⟨.int 0, .int (by decide) (by decide), rfl⟩
        | 1, _ => exact ⟨.int 9, .int (by decide) (by decide), rfl⟩
        | 2, _ => exact ⟨.int (-1), .int (by decide) (by decide), rfl⟩
        | 3, _ => exact ⟨.bl true, .bl true, rfl⟩
        | 4, _ => exact ⟨.non, .non, rfl⟩
        | 5, _ => exact ⟨.str "4", sc_4, rfl⟩
        | 6, _ => exact ⟨.int 3, .int (by decide) (by decide), rfl⟩
        | 7, _ => exact ⟨.int big, obig, rfl⟩
      obtain ⟨h, hw1, hw2⟩ := hw
      rw [hw2]
      exact fin 0 _ h _ (by decide) s5 (.sc hw1) (sc_ne hw1.sc)
    refine ⟨_, rfl, rfl, _, rfl, iteB (fun z2 => ?_) (fun z2 => ?_)⟩
    · apply mid (M := fun σ H4 => ∃ (a : Addr) (ns : List Int), σ = [some (.ref p), some (.ref F), some (.int r), some (.ref L), some (.int (m : Int)), some (.ref a), none] ∧ Same H3 H4 ∧ PTup H4 a (ns.map V.int) ∧ 1 ≤ ns.length ∧ ns.length ≤ 8 ∧ ∀ i ∈ ns, -1 ≤ i ∧ i ≤ 99)
      case h =>
        intro rest
        refine ⟨_, rfl, F, _, 2, v2, rfl, rfl, SqL.of hF3, rfl, ?_⟩
        rcases four.c with ⟨e2, _⟩ | ⟨a, ns, e2, _, pt, l1, l8, rg⟩
        · refine ⟨false, (by rw [e2]; rfl), iteF ⟨_, rfl, (by show 1 ≤ sizeLine; decide), fun t H4 s4 nt pt => rest _ _ ⟨t, [-1], rfl, s4, pt, (by decide), (by decide), fun i hi => by rw [List.mem_singleton.mp hi]; decide⟩⟩⟩
        · have pt3 := pt.kept k03 hp
          refine ⟨true, (by rw [e2]; exact .inr (.inl ⟨_, pt3.sq, by cases ns with | nil => cases l1 | cons _ _ => rfl⟩)), iteT (rest _ _ ⟨a, ns, by rw [e2]; rfl, Same.refl _, pt3, l1, l8, rg⟩)⟩
      case hR =>
        rintro _ H4 ⟨a, ns, rfl, s4, pt, l1, l8, rg⟩
        have few8 : ∀ k, k ≤ 20 → k ≤ sizeLine := fun k h => Nat.le_of_lt (small1000 (by omega))
        refine ⟨_, rfl, _, rfl, (by show 1 ≤ sizeLine; decide), fun t1 H5 s5 nt1 pt1 => ?_⟩
        refine ⟨a, t1, _, _, rfl, rfl, pt.same s5, pt1, few8 _ (by rw [List.length_map]; show ns.length + 1 ≤ 20; omega), fun b1 H6 s6 pb1 => ?_⟩
        have s46 := s5.trans s6
        refine ⟨_, rfl, 1, rfl, a, _, rfl, pt.same s46, fun b2 H7 s7 pb2 => ?_⟩
        have s47 := s46.trans s7
        refine ⟨_, rfl, a, _, rfl, .inr (pt.same s47).sq, fun l3 nl3 => ?_⟩
        have s8 := same_upd (o := .lst (ns.map V.int)) nl3
        have s48 := s47.trans s8
        refine ⟨(by show 1 ≤ sizeLine; decide), fun t4 H9 s9 nt4 pt4 => ?_⟩
        have s49 := s48.trans s9
        refine ⟨_, rfl, 1, rfl, a, _, rfl, pt.same s49, fun c4 H10 s10 pc4 => ?_⟩
        refine ⟨t4, c4, _, _, rfl, rfl, pt4.same s10, pc4, few8 _ (cut_few l8), fun b4 H11 s11 pb4 => ?_⟩
        have s411 := (s49.trans s10).trans s11
        refine ⟨(by show 1 ≤ sizeLine; decide), fun t5 H12 s12 nt5 pt5 => ?_⟩
        have s412 := s411.trans s12
        refine ⟨_, rfl, 1, rfl, a, _, rfl, pt.same s412, fun c5 H13 s13 pc5 => ?_⟩
        refine ⟨t5, c5, _, _, rfl, rfl, pt5.same s13, pc5, few8 _ (cut_few l8), fun b5 H14 s14 pb5 => ?_⟩
        have s414 := (s412.trans s13).trans s14
        refine ⟨_, rfl, (by show 1 ≤ sizeLine; decide), fun t6 H15 s15 nt6 pt6 => ?_⟩
        have s415 := s414.trans s15
        refine ⟨_, rfl, 1, rfl, a, _, rfl, pt.same s415, fun c6 H16 s16 pc6 => ?_⟩
        refine ⟨t6, c6, _, _, rfl, rfl, pt6.same s16, pc6, few8 _ (cut_few l8), fun b6 H17 s17 pb6 => ?_⟩
        have s417 := (s415.trans s16).trans s17
        refine ⟨(by show 7 ≤ sizeLine; decide), fun lo nlo => ?_⟩
        have s18 := same_upd (o := .lst [V.ref b1, V.ref b2, V.ref l3, V.ref b4, V.ref b5, V.ref b6, V.str "7"]) nlo
        have s418 := s417.trans s18
        have hlo := upd_same (H := H17) (a := lo) (o := .lst [V.ref b1, V.ref b2, V.ref l3, V.ref b4, V.ref b5, V.ref b6, V.str "7"])
        have pb1 := pb1.same ((((((((((s7.trans s8).trans s9).trans s10).trans s11).trans s12).trans s13).trans s14).trans s15).trans s16).trans (s17.trans s18))
        have pb2 := pb2.same (((((((((s8.trans s9).trans s10).trans s11).trans s12).trans s13).trans s14).trans s15).trans s16).trans (s17.trans s18))
        have hl3 := ((((((((s9.trans s10).trans s11).trans s12).trans s13).trans s14).trans s15).trans s16).trans (s17.trans s18)) _ _ (upd_same (H := H7) (a := l3) (o := .lst (ns.map V.int)))
        have pb4 := pb4.same ((((s12.trans s13).trans s14).trans s15).trans (s16.trans (s17.trans s18)))
        have pb5 := pb5.same ((s15.trans s16).trans (s17.trans s18))
        have pb6 := pb6.same s18
        have el3 : l3 ≠ p := pool_ne (hp3.same (s4.trans s47)) nl3
        have eL3 : l3 ≠ L := fun z => by rw [z, (s4.trans s47) _ _ hL3] at nl3; cases nl3
        have pa := pt.same s418
        have s318 := s4.trans s418
        clear s18 s17 s16 s15 s14 s13 s12 s11 s10 s9 s8 s7 s6 s5 s46 s47 s48 s49 s411 s412 s414 s415 s417 pt1 pt4 pt5 pt6 pc4 pc5 pc6 s418 nlo nl3
        generalize upd H17 lo (.lst [V.ref b1, V.ref b2, V.ref l3, V.ref b4, V.ref b5, V.ref b6, V.str "7"]) = G0 at *
        refine ⟨_, rfl, _, rfl, (by show 1 ≤ sizeLine; decide), fun t7 G1 u1 nt7 pt7 => ?_⟩
        refine ⟨a, t7, _, _, rfl, rfl, pa.same u1, pt7, few8 _ (by rw [List.length_map]; show ns.length + 1 ≤ 20; omega), fun c7 G2 u2 pc7 => ?_⟩
        obtain ⟨x, ns', rfl⟩ : ∃ x ns', ns = x :: ns' := by
          cases ns with
          | nil => cases l1
          | cons x l => exact ⟨x, l, rfl⟩
        refine ⟨c7, _, ((0 : Nat) : Int), V.int x, rfl, rfl, pc7.sq, atI_nat rfl, ?_⟩
        refine ⟨(by show 1 ≤ sizeLine; decide), fun t8 G3 u3 nt8 pt8 => ?_⟩
        have u13 := (u1.trans u2).trans u3
        refine ⟨_, rfl, a, _, rfl, .inr (pa.same u13).sq, ?_⟩
        rw [List.length_map]
        refine ⟨t8, _, [V.int x], rfl, rfl, pt8, (by simp), (by omega), (by omega), (by show 1 ≤ 1000; decide), fun b8 G4 u4 pb8 => ?_⟩
        rw [rep_ints] at pb8
        refine ⟨(by show 1 ≤ sizeLine; decide), fun l8' nl8 => ?_⟩
        have u5 := same_upd (o := .lst [V.ref b8]) nl8
        have u05 := (u13.trans u4).trans u5
        refine ⟨_, _, _, _, rfl, rfl, u05 _ _ hlo, upd_same, few8 _ (by show 8 ≤ 20; decide), fun l9 nl9 => ?_⟩
        have u6 := same_upd (o := .lst ([V.ref b1, V.ref b2, V.ref l3, V.ref b4, V.ref b5, V.ref b6, V.str "7"] ++ [V.ref b8])) nl9
        have u06 := u05.trans u6
        refine ⟨_, rfl, l9, _, (m : Int), ([V.ref b1, V.ref b2, V.ref l3, V.ref b4, V.ref b5, V.ref b6, V.str "7", V.ref b8].getD m .non), rfl, rfl, SqL.of upd_same, atI_nat (by
          match m, hm8 with
          | 0, _ | 1, _ | 2, _ | 3, _ | 4, _ | 5, _ | 6, _ | 7, _ => rfl), ?_⟩
        refine ⟨_, rfl, L, _, 2, 2, rfl, rfl, u06 _ _ (s318 _ _ hL3), rfl, ⟨_, rfl, ?_⟩⟩
        have hL6 := u06 _ _ (s318 _ _ hL3)
        have pb1 := pb1.same u06
        have pb2 := pb2.same u06
        have hl3 := u06 _ _ hl3
        have pb4 := pb4.same u06
        have pb5 := pb5.same u06
        have pb6 := pb6.same u06
        have pb8 := pb8.same (u5.trans u6)
        have s3z := s318.trans u06
        generalize upd (upd G4 l8' (.lst [V.ref b8])) l9 (.lst ([V.ref b1, V.ref b2, V.ref l3, V.ref b4, V.ref b5, V.ref b6, V.str "7"] ++ [V.ref b8])) = G6 at pb1 pb2 hl3 pb4 pb5 pb6 pb8 s3z hL6 ⊢
        exact bent_mid (R := fun w => Q (V.ref L) (upd G6 L (.lst ([V.int n, V.str st, v2, v3].set 2 w)))) l8 rg hm8 el3 eL3 hL6 pb1 pb2 hl3 pb4 pb5 pb6 pb8 (by omega) fun h hw1 hw2 => fin 2 _ h _ (by decide) s3z hw1 hw2
    refine ⟨_, rfl, rfl, _, rfl, iteB (fun z3 => ?_) (fun z3 => ?_)⟩
    rotate_left
    · refine ⟨_, rfl, q L H3 _ _ _ _ _ _ _ _ k03 hp3 nLH hL3 (.sc (.int (by have := four.n1; omega) (by have := four.n8; omega))) (.sc (way_sc four.w)) ((four.c.wt (p := p) (by decide) (by decide)).kept k03 hp) ((four.m.wt (p := p) (by decide) (by decide)).kept k03 hp)⟩
    apply mid (M := fun σ H4 => ∃ (a : Addr) (ns : List Int), σ = [some (.ref p), some (.ref F), some (.int r), some (.ref L), some (.int (m : Int)), some (.ref a), none] ∧ Same H3 H4 ∧ PTup H4 a (ns.map V.int) ∧ ns.length ≤ 8 ∧ ∀ i ∈ ns, 0 ≤ i ∧ i ≤ 1)
    case h =>
      intro rest
      refine ⟨_, rfl, F, _, 3, v3, rfl, rfl, SqL.of hF3, rfl, ?_⟩
      rcases four.m with ⟨e2, _⟩ | ⟨a, ns, e2, _, pt, l1, l8, rg⟩
      · refine ⟨false, (by rw [e2]; rfl), iteF ⟨(by show 0 ≤ sizeLine; decide), fun t H4 s4 nt pt => rest _ _ ⟨t, [], rfl, s4, pt, (by decide), fun i hi => (List.not_mem_nil hi).elim⟩⟩⟩
      · have pt3 := pt.kept k03 hp
        cases hns : ns with
        | nil =>
          rw [hns] at pt3
          refine ⟨false, (by rw [e2]; exact .inr (.inl ⟨_, pt3.sq, rfl⟩)), iteF ⟨(by show 0 ≤ sizeLine; decide), fun t H4 s4 nt pt => rest _ _ ⟨t, [], rfl, s4, pt, (by decide), fun i hi => (List.not_mem_nil hi).elim⟩⟩⟩
        | cons y l =>
          refine ⟨true, (by rw [e2]; exact .inr (.inl ⟨_, pt3.sq, by rw [hns]; rfl⟩)), iteT (rest _ _ ⟨a, ns, by rw [e2]; rfl, Same.refl _, pt3, l8, rg⟩)⟩
    case hR =>
      rintro _ H4 ⟨a, ns, rfl, s4, pt, l8, rg⟩
      have few8 : ∀ k, k ≤ 20 → k ≤ sizeLine := fun k h => Nat.le_of_lt (small1000 (by omega))
      refine ⟨_, rfl, (by show 1 ≤ sizeLine; decide), fun t1 H5 s5 nt1 pt1 => ?_⟩
      refine ⟨a, t1, _, _, rfl, rfl, pt.same s5, pt1, few8 _ (by rw [List.length_map]; show ns.length + 1 ≤ 20; omega), fun b1 H6 s6 pb1 => ?_⟩
      have s46 := s5.trans s6
      refine ⟨_, rfl, 1, rfl, a, _, rfl, pt.same s46, fun c2 H7 s7 pc2 => ?_⟩
      refine ⟨(by show 1 ≤ sizeLine; decide), fun t2 H8 s8 nt2 pt2 => ?_⟩
      refine ⟨c2, t2, _, _, rfl, rfl, pc2.same s8, pt2, few8 _ (by rw [Nat.add_comm]; exact cut_few l8), fun b2 H9 s9 pb2 => ?_⟩
      have s49 := s46.trans (s7.trans (s8.trans s9))
      refine ⟨_, rfl, a, _, rfl, .inr (pt.same s49).sq, fun l3 nl3 => ?_⟩
      have s10 := same_upd (o := .lst (ns.map V.int)) nl3
      have s410 := s49.trans s10
      refine ⟨_, rfl, 1, rfl, a, _, rfl, pt.same s410, fun c4 H11 s11 pc4 => ?_⟩
      refine ⟨(by show 1 ≤ sizeLine; decide), fun t4 H12 s12 nt4 pt4 => ?_⟩
      refine ⟨c4, t4, _, _, rfl, rfl, pc4.same s12, pt4, few8 _ (by rw [Nat.add_comm]; exact cut_few l8), fun b4 H13 s13 pb4 => ?_⟩
      have s413 := s410.trans (s11.trans (s12.trans s13))
      refine ⟨(by show 1 ≤ sizeLine; decide), fun t7 H14 s14 nt7 pt7 => ?_⟩
      have s414 := s413.trans s14
      refine ⟨_, rfl, 1, rfl, a, _, rfl, pt.same s414, fun c7 H15 s15 pc7 => ?_⟩
      refine ⟨t7, c7, _, _, rfl, rfl, pt7.same s15, pc7, few8 _ (cut_few l8), fun b7 H16 s16 pb7 => ?_⟩
      have s416 := s414.trans (s15.trans s16)
      refine ⟨(by show 1 ≤ sizeLine; decide), fun l8' nl8 => ?_⟩
      have s17 := same_upd (o := .lst [V.int 0]) nl8
      refine ⟨(by show 8 ≤ sizeLine; decide), fun l9 nl9 => ?_⟩
      have s18 := same_upd (o := .lst [V.ref b1, V.ref b2, V.ref l3, V.ref b4, V.int 0, V.str "0", V.ref b7, V.ref l8']) nl9
      have s418 := s416.trans (s17.trans s18)
      refine ⟨_, rfl, _, rfl, l9, _, (m : Int), ([V.ref b1, V.ref b2, V.ref l3, V.ref b4, V.int 0, V.str "0", V.ref b7, V.ref l8'].getD m .non), rfl, rfl, SqL.of upd_same, atI_nat (by
        match m, hm8 with
        | 0, _ | 1, _ | 2, _ | 3, _ | 4, _ | 5, _ | 6, _ | 7, _ => rfl), ?_⟩
      have hL6 := (s4.trans s418) _ _ hL3
      refine ⟨_, rfl, L, _, 3, 3, rfl, rfl, hL6, rfl, ⟨_, rfl, ?_⟩⟩
      have pb1 := pb1.same (s7.trans (s8.trans (s9.trans (s10.trans (s11.trans (s12.trans (s13.trans (s14.trans (s15.trans (s16.trans (s17.trans s18)))))))))))
      have pb2 := pb2.same (s10.trans (s11.trans (s12.trans (s13.trans (s14.trans (s15.trans (s16.trans (s17.trans s18))))))))
      have hl3 := (s11.trans (s12.trans (s13.trans (s14.trans (s15.trans (s16.trans (s17.trans s18))))))) _ _ (upd_same (H := H9) (a := l3) (o := .lst (ns.map V.int)))
      have pb4 := pb4.same (s14.trans (s15.trans (s16.trans (s17.trans s18))))
      have pb7 := pb7.same (s17.trans s18)
      have hl8 := s18 _ _ (upd_same (H := H16) (a := l8') (o := .lst [V.int 0]))
      have el3 : l3 ≠ p := pool_ne (hp3.same (s4.trans s49)) nl3
      have eL3 : l3 ≠ L := fun z => by rw [z, (s4.trans s49) _ _ hL3] at nl3; cases nl3
      have el8 : l8' ≠ p := pool_ne (hp3.same (s4.trans s416)) nl8
      have eL8 : l8' ≠ L := fun z => by rw [z, (s4.trans s416) _ _ hL3] at nl8; cases nl8
      have s3z := s4.trans s418
      generalize upd (upd H16 l8' (.lst [V.int 0])) l9 (.lst [V.ref b1, V.ref b2, V.ref l3, V.ref b4, V.int 0, V.str "0", V.ref b7, V.ref l8']) = G6 at pb1 pb2 hl3 pb4 pb7 hl8 s3z hL6 ⊢
      exact bent_low (R := fun w => Q (V.ref L) (upd G6 L (.lst ([V.int n, V.str st, v2, v3].set 3 w)))) l8 rg hm8 el3 eL3 el8 eL8 hL6 pb1 pb2 hl3 pb4 pb7 hl8 fun h hw1 hw2 => fin 3 _ h _ (by decide) s3z hw1 hw2
end
end Su
/-! ### S8a: a shelf's methods, called -/
namespace Su
open PySem PySem.Spec PyProof.Rows L2
/-- a method of the class at C without arguments -/
structure MetS (P : Program) (w : World) (K : PySem.W.Frag) (mg : Str → Option Value) (base : Heap) (k : Nat) (C : Addr) (m : Str) (sp : Sp) : Prop where
  ex : ∃ (f : Addr) (fd : FuncData), Cls K C ∧ Meth K C m f ∧ FnOk P w K mg base CX0 k f fd ["self"] sp ∧ Binds K fd ["self"] []
section
variable {X : Cx} {k j : Nat} {C : Addr} {m : Str} {sp : Sp} {o : Expr} {ta : TE} {apos pos : Pos}
theorem pe_mtS {pl : Sem Bool} (c : MetS X.prog X.w X.K X.mg X.base k C m sp) (hr : Room j X.A) (hk : k ≤ j) (he : PE X o ta)
    (ht : eval (.Call (.Attribute o m apos) [] [] pos) X.env = (do
      let ov ← eval o X.env
      standAt apos.atName
      let (f, first) ← holding [ov] (getMethod ov m pl)
      callWith pos f first (backTo pos (starEach [] X.env)) (backToKw pos (keywordEach [] X.env))) := by rfl) :
    PE X (.Call (.Attribute o m apos) [] [] pos) (tMeth C m sp [] E0 ta tNil) := by
  obtain ⟨f, fd, hc, hm, F, b⟩ := c.ex
  exact pe_meth0 (pl := pl) he hc hm F (hr.mono hk) b .nil (fun _ _ _ _ _ _ _ h => h.elim) ht
end
end Su
/-! ### S8b: a shelf that is made, as the law sees it -/
namespace Su
open PySem PySem.Spec PyProof.Rows L2
/-- a shelf with these fields at x -/
structure ShAt (C : Addr) (H : Hp) (x : Addr) (vz vw : V) (ss bs : List Int) : Prop where
  ex : ∃ (dx a b : Addr), H x = some (.ins C dx (shF vz vw (.ref a) (.ref b) 0 0)) ∧ T2 H a (ss.map V.int) ∧ T2 H b (bs.map V.int)
theorem ShAt.same {C : Addr} {H H' : Hp} {x : Addr} {vz vw : V} {ss bs : List Int} (h : ShAt C H x vz vw ss bs) (s : Same H H') : ShAt C H' x vz vw ss bs := by
  obtain ⟨dx, a, b, h1, h2, h3⟩ := h.ex
  exact ⟨dx, a, b, s _ _ h1, h2.same s, h3.same s⟩
theorem use_shelf {C CN p : Addr} {H : Hp} {vz vw vc vm : V} {gz gw gc gm : G} {Q : VK} {E : XK} (hz : Tg p H vz gz) (hw : Tg p H vw gw) (hc : Tg p H vc gc) (hm : Tg p H vm gm) (fc : few gc) (fm : few gm) (hp : partG gz gw gc gm = none)
    (q : ∀ (x : Addr) (H' : Hp), Same H H' → H x = none → ShAt C H' x vz vw (slotsI gc (numG gz)) (bitsI gm (numG gz) (strG gw)) → Q (.ref x) H') :
    ∀ x dx, H x = none → H dx = none → dx ≠ x → spInit C CN [.ref x, vz, vw, vc, vm] (upd (upd H dx (.own x)) x (.ins C dx [])) (fun v H2 => v = .non ∧ Q (.ref x) H2) E := by
  intro x dx nx ndx ne
  have nx1 : (upd H dx (.own x)) x = none := by
    rw [upd_ne (Ne.symm ne)]
    exact nx
  have s0 : Same H (upd (upd H dx (.own x)) x (.ins C dx [])) := (same_upd ndx).trans (same_upd nx1)
  have k0 := Keeps.same (p := p) s0
  refine ⟨p, x, dx, vz, vw, vc, vm, gz, gw, gc, gm, rfl, upd_same, hz.keep k0, hw.keep k0, hc.keep k0, hm.keep k0, fc, fm, fun _ a b H' kp hx ta tb => ?_, fun s e => absurd (hp.symm.trans e) (fun z => by cases z)⟩
  exact ⟨rfl, q x H' (fun c o e => kp c o (s0 _ _ e) (ne_of_none e nx)) nx ⟨dx, a, b, hx, ta, tb⟩⟩
/-- the same with any continuation: the goal's is no pattern in the made instance -/
theorem use_shelf2 {C CN p x dx : Addr} {H : Hp} {vz vw vc vm : V} {gz gw gc gm : G} {Q : VK} {E : XK} (nx : H x = none) (ndx : H dx = none) (ne : dx ≠ x) (hz : Tg p H vz gz) (hw : Tg p H vw gw) (hc : Tg p H vc gc) (hm : Tg p H vm gm) (fc : few gc) (fm : few gm) (hp : partG gz gw gc gm = none)
    (q : ∀ H' : Hp, Same H H' → ShAt C H' x vz vw (slotsI gc (numG gz)) (bitsI gm (numG gz) (strG gw)) → Q .non H') : spInit C CN [.ref x, vz, vw, vc, vm] (upd (upd H dx (.own x)) x (.ins C dx [])) Q E := by
  have nx1 : (upd H dx (.own x)) x = none := by
    rw [upd_ne (Ne.symm ne)]
    exact nx
  have s0 : Same H (upd (upd H dx (.own x)) x (.ins C dx [])) := (same_upd ndx).trans (same_upd nx1)
  have k0 := Keeps.same (p := p) s0
  refine ⟨p, x, dx, vz, vw, vc, vm, gz, gw, gc, gm, rfl, upd_same, hz.keep k0, hw.keep k0, hc.keep k0, hm.keep k0, fc, fm, fun _ a b H' kp hx ta tb => ?_, fun s e => absurd (hp.symm.trans e) (fun z => by cases z)⟩
  exact q H' (fun c o e => kp c o (s0 _ _ e) (ne_of_none e nx)) ⟨dx, a, b, hx, ta, tb⟩
section
variable {K : PySem.W.Frag} {C x : Addr} {H : Hp} {vz vw : V} {ss bs : List Int} {Q : VK} {E : XK}
theorem use_size (h : ShAt C H x vz vw ss bs) (q : Q vz H) : spFld C "many" [.ref x] H Q E := by
  obtain ⟨dx, a, b, h1, _⟩ := h.ex
  exact ⟨x, dx, _, vz, rfl, h1, rfl, q⟩
theorem use_way (h : ShAt C H x vz vw ss bs) (q : Q vw H) : spFld C "kept_by" [.ref x] H Q E := by
  obtain ⟨dx, a, b, h1, _⟩ := h.ex
  exact ⟨x, dx, _, vw, rfl, h1, rfl, q⟩
theorem use_lay (h : ShAt C H x vz vw ss bs) (q : ∀ (t a b : Addr) (H' : Hp), Same H H' → H t = none → PTup H' t [.ref a, .ref b] → T2 H' a (ss.map V.int) → T2 H' b (bs.map V.int) → Q (.ref t) H') : spTwo C "slots" "bits" [.ref x] H Q E := by
  obtain ⟨dx, a, b, h1, h2, h3⟩ := h.ex
  exact ⟨x, dx, _, .ref a, .ref b, rfl, h1, rfl, rfl, fun t H' s nt pt => q t a b H' s nt pt (h2.same s) (h3.same s)⟩
theorem use_counts (h : ShAt C H x vz vw ss bs) (q : ∀ (t : Addr) (H' : Hp), Same H H' → H t = none → PTup H' t [.int 0, .int 0] → Q (.ref t) H') : spTwo C "near" "far" [.ref x] H Q E := by
  obtain ⟨dx, a, b, h1, _⟩ := h.ex
  exact ⟨x, dx, _, .int 0, .int 0, rfl, h1, rfl, rfl, fun t H' s nt pt => q t H' s nt pt⟩
end
theorem part_head : partG (.int 4) (.str "last") .non .non = none := by decide +kernel
theorem part_tree : partG (.int 4) (.str "tree") .non .non = none := by decide +kernel
theorem part_two : partG (.int 2) (.str "last") .non (.tup []) = none := by decide +kernel
end Su
/-! ### S8c: lays as data, and what the law keeps -/
namespace Su
open PySem PySem.Spec PyProof.Rows L2
theorem dp_intsL {K : PySem.W.Frag} {H : Hp} : ∀ ns : List Int, DpAll K H (ns.map V.int) (ns.map PyData.int)
  | [] => .nil
  | i :: ns => .cons (.int i) (dp_intsL ns)
theorem lay_intsL : ∀ ns : List Int, PyData.canLayAll0 (ns.map PyData.int) = true ∧ PyData.depthAll (ns.map PyData.int) = 0
  | [] => ⟨by simp [PyData.canLayAll0], by simp [PyData.depthAll]⟩
  | i :: ns => by
    obtain ⟨a, b⟩ := lay_intsL ns
    exact ⟨by simp only [List.map_cons, PyData.canLayAll0, a, Bool.and_true]; rfl, by simp [PyData.depthAll, b, PyData.depth]⟩
/-- a lay as data -/
def layD (ss bs : List Int) : PyData := .tuple [.tuple (ss.map PyData.int), .tuple (bs.map PyData.int)]
theorem dp_lay {K : PySem.W.Frag} {H : Hp} {t a b : Addr} {ss bs : List Int} (pt : PTup H t [.ref a, .ref b]) (ta : T2 H a (ss.map V.int)) (tb : T2 H b (bs.map V.int)) : Dp K H (.ref t) (layD ss bs) :=
  .tup pt.sq (.cons (.tup ta.sq (dp_intsL ss)) (.cons (.tup tb.sq (dp_intsL bs)) .nil))
theorem lay_ok (ss bs : List Int) : (layD ss bs).canLay0 = true ∧ (layD ss bs).depth ≤ 2 := by
  obtain ⟨a, b⟩ := lay_intsL ss
  obtain ⟨c, d⟩ := lay_intsL bs
  refine ⟨?_, ?_⟩
  · simp only [layD, PyData.canLay0, PyData.canLayAll0, a, c, Bool.and_self]
  · simp only [layD, PyData.depth, PyData.depthAll, b, d]
    decide
def cntD : PyData := .tuple [.int 0, .int 0]
theorem dp_cnt {K : PySem.W.Frag} {H : Hp} {t : Addr} (pt : PTup H t [.int 0, .int 0]) : Dp K H (.ref t) cntD := .tup pt.sq (.cons (.int 0) (.cons (.int 0) .nil))
theorem shaped_of {d : PyData} (a : d.canLay0 = true) (b : d.depth ≤ 64) : SeqAt.shaped d = true := by
  unfold SeqAt.shaped
  rw [a, Bool.true_and, decide_eq_true_eq]
  omega
theorem lay_shaped (ss bs : List Int) : SeqAt.shaped (layD ss bs) = true := shaped_of (lay_ok ss bs).1 (Nat.le_trans (lay_ok ss bs).2 (by decide))
theorem lay_eqv (ss bs : List Int) : PyData.eqv (layD ss bs) (layD ss bs) = true := SeqAt.eqv_refl _ (lay_ok ss bs).1
def headD (n : Int) (s : Str) (ss bs : List Int) : PyData := .list [.int n, .str s, layD ss bs, cntD]
def lastD (n : Int) (s : Str) (ss bs : List Int) : PyData := .list [layD ss bs, .int n, .str s, cntD]
theorem head_ok {n : Int} {s : Str} {ss bs : List Int} (h : PyData.strOk s = true) : SeqAt.shaped (headD n s ss bs) = true ∧ PyData.eqv (headD n s ss bs) (headD n s ss bs) = true := by
  obtain ⟨a, b⟩ := lay_ok ss bs
  have c : (headD n s ss bs).canLay0 = true := by simp only [headD, cntD, PyData.canLay0, PyData.canLayAll0, a, h, Bool.and_self]
  refine ⟨shaped_of c ?_, SeqAt.eqv_refl _ c⟩
  simp only [headD, cntD, PyData.depth, PyData.depthAll]
  omega
theorem last_ok {n : Int} {s : Str} {ss bs : List Int} (h : PyData.strOk s = true) : SeqAt.shaped (lastD n s ss bs) = true ∧ PyData.eqv (lastD n s ss bs) (lastD n s ss bs) = true := by
  obtain ⟨a, b⟩ := lay_ok ss bs
  have c : (lastD n s ss bs).canLay0 = true := by simp only [lastD, cntD, PyData.canLay0, PyData.canLayAll0, a, h, Bool.and_self]
  refine ⟨shaped_of c ?_, SeqAt.eqv_refl _ c⟩
  simp only [lastD, cntD, PyData.depth, PyData.depthAll]
  omega
theorem way_ok {s : Str} (h : wayG (.str s) = true) : PyData.strOk s = true := by
  rcases way_three h with rfl | rfl | rfl <;> decide +kernel
section
variable {p : Addr} {H H' : Hp} {v : V} {g : G}
theorem Wt.lay (h : Wt p H v g) : (toD g).canLay0 = true ∧ (toD g).depth ≤ 5 := by
  have all : ∀ {ds : List G}, (∀ d ∈ ds, ScF d) → PyData.canLayAll0 (toDs ds) = true ∧ PyData.depthAll (toDs ds) ≤ 4 := fun h => lay_all fun d hd => (h d hd).ok
  cases h with
  | sc h => exact ⟨h.ok.cl, Nat.le_trans h.ok.dp (by decide)⟩
  | tup e h l =>
    obtain ⟨a, b⟩ := all h
    exact ⟨by simp only [toD, PyData.canLay0, a], by simp only [toD, PyData.depth]; omega⟩
  | lst n e h l =>
    obtain ⟨a, b⟩ := all h
    exact ⟨by simp only [toD, PyData.canLay0, a], by simp only [toD, PyData.depth]; omega⟩
theorem Wt.shaped (h : Wt p H v g) : SeqAt.shaped (toD g) = true := shaped_of h.lay.1 (Nat.le_trans h.lay.2 (by decide))
theorem Wt.dp {K : PySem.W.Frag} (h : Wt p H v g) : Dp K H v (toD g) := h.tg.dp h.od
end
theorem four_tg {p L : Addr} {H : Hp} {w0 w1 w2 w3 : V} {h0 h1 h2 h3 : G} (n : L ≠ p) (e : H L = some (.lst [w0, w1, w2, w3])) (a0 : Wt p H w0 h0) (a1 : Wt p H w1 h1) (a2 : Wt p H w2 h2) (a3 : Wt p H w3 h3) : Tg p H (.ref L) (.lst [h0, h1, h2, h3]) ∧ Shw (.lst [h0, h1, h2, h3]) := by
  refine ⟨.lst n e (.cons a0.tg (.cons a1.tg (.cons a2.tg (.cons a3.tg .nil)))), (Fz.lst (FzL.cons a0.fz (FzL.cons a1.fz (FzL.cons a2.fz (FzL.cons a3.fz FzL.nil))))).up (by decide) (by decide), .inl (.inl ?_)⟩
  show okDs _ = true
  simp only [okDs, a0.od, a1.od, a2.od, a3.od, Bool.and_self]
theorem Nums.kept {p : Addr} {lo hi : Int} {least : Nat} {v : V} {g : G} {H H' : Hp} (h : Nums lo hi least v g H) (k : Kept p H H') (hp : PoolAt H p) : Nums lo hi least v g H' := by
  rcases h with h | ⟨a, ns, e1, e2, t, r⟩
  · exact .inl h
  · exact .inr ⟨a, ns, e1, e2, t.kept k hp, r⟩
theorem FourAt.kept {p : Addr} {H H' : Hp} {F : Addr} {n : Int} {st : Str} {v2 v3 : V} {g2 g3 : G} (h : FourAt p H F n st v2 v3 g2 g3) (k : Kept p H H') (hp : PoolAt H p) : FourAt p H' F n st v2 v3 g2 g3 :=
  ⟨k _ _ h.at_ h.ne, h.ne, h.n1, h.n8, h.w, h.c.kept k hp, h.m.kept k hp⟩
/-- what stands in the list of four -/
theorem FourAt.all {p : Addr} {H : Hp} {F : Addr} {n : Int} {st : Str} {v2 v3 : V} {g2 g3 : G} (h : FourAt p H F n st v2 v3 g2 g3) : ∀ v ∈ [V.int n, V.str st, v2, v3], ∃ g, Wt p H v g := by
  intro v hv
  simp only [List.mem_cons, List.not_mem_nil, or_false] at hv
  rcases hv with rfl | rfl | rfl | rfl
  · exact ⟨.int n, .sc (.int (by have := h.n1; omega) (by have := h.n8; omega))⟩
  · exact ⟨.str st, .sc (way_sc h.w)⟩
  · exact ⟨g2, h.c.wt (by decide) (by decide)⟩
  · exact ⟨g3, h.m.wt (by decide) (by decide)⟩
theorem len4 {vs : List V} (h : vs.length = 4) : ∃ a b c d, vs = [a, b, c, d] := by
  match vs, h with
  | [a, b, c, d], _ => exact ⟨a, b, c, d, rfl⟩
theorem getD4 {vs : List V} {i : Nat} (h : vs.length = 4) (hi : i < 4) : vs[i]? = some (vs.getD i .non) ∧ vs.getD i .non ∈ vs := by
  obtain ⟨a, b, c, d, rfl⟩ := len4 h
  match i, hi with
  | 0, _ | 1, _ | 2, _ | 3, _ => exact ⟨rfl, by simp⟩
/-- `x or y` of what was handed in as slots -/
theorem slots_len {g : G} {n : Int} (h : areSlotsG g n = true) (n1 : 1 ≤ n) : ∃ i l, slotsI g n = i :: l := by
  cases g with
  | tup ds =>
    have sl2 : (decide ((ds.length : Int) = n) && (ds.all slotG && decide ((dd (roomsOf ds)).length = (roomsOf ds).length))) = true := h
    rw [Bool.and_eq_true, decide_eq_true_eq] at sl2
    cases ds with
    | nil => exact absurd sl2.1 (by show ¬ ((0 : Nat) : Int) = n; omega)
    | cons d l => exact ⟨numG d, l.map numG, rfl⟩
  | _ => cases h
theorem bits_len {g : G} {n : Int} {s : Str} (h : areBitsG g n s = true) : ((bitsI g n s).length : Int) = bitsN n s := by
  cases g with
  | tup ds =>
    have sl2 : (decide ((ds.length : Int) = bitsN n s) && ds.all bitG) = true := h
    rw [Bool.and_eq_true, decide_eq_true_eq] at sl2
    show ((ds.map numG).length : Int) = _
    rw [List.length_map]
    exact sl2.1
  | _ => cases h
theorem PTup.put {H : Hp} {a L : Addr} {xs ys : List V} {o : HO} (h : PTup H a xs) (e : H L = some (.lst ys)) : PTup (upd H L o) a xs := by
  have n := ref_ne h e
  obtain ⟨ob, eo, ed⟩ := h
  refine ⟨ob, ?_, ed⟩
  rw [upd_ne (fun z => n (by rw [z]))]
  exact eo
theorem Nums.put {lo hi : Int} {least : Nat} {v : V} {g : G} {H : Hp} {L : Addr} {ys : List V} {o : HO} (h : Nums lo hi least v g H) (e : H L = some (.lst ys)) : Nums lo hi least v g (upd H L o) := by
  rcases h with h | ⟨a, ns, e1, e2, t, r⟩
  · exact .inl h
  · exact .inr ⟨a, ns, e1, e2, t.put e, r⟩
theorem FourAt.cells {p q : Addr} {H : Hp} {F : Addr} {n : Int} {k : Nat} {st : Str} {v2 v3 : V} {g2 g3 : G} {xs : List Int} (h : FourAt p H F n st v2 v3 g2 g3) (t : PTup H q (xs.map V.int)) (hk : (k : Int) = n) (sl : Slots k xs) : FourAt p (upd H F (.lst ([V.int n, V.str st, v2, v3].set 2 (.ref q)))) F n st (.ref q) v3 (.tup (xs.map G.int)) g3 := by
  refine ⟨upd_same, h.ne, h.n1, h.n8, h.w, .inr ⟨q, xs, rfl, rfl, t.put h.at_, ?_, ?_, fun i hi => ?_⟩, h.m.put h.at_⟩
  · have := sl.len
    have := h.n1
    omega
  · have := sl.len
    have := h.n8
    omega
  · have := sl.rng i hi
    omega
theorem FourAt.marks {p q : Addr} {H : Hp} {F : Addr} {n : Int} {k : Nat} {st : Str} {v2 v3 : V} {g2 g3 : G} {xs : List Int} (h : FourAt p H F n st v2 v3 g2 g3) (t : PTup H q (xs.map V.int)) (hk : (k : Int) = n) (b1 : st = "tree" → Bits (k - 1) xs) (b2 : st ≠ "tree" → xs = []) : FourAt p (upd H F (.lst ([V.int n, V.str st, v2, v3].set 3 (.ref q)))) F n st v2 (.ref q) g2 (.tup (xs.map G.int)) := by
  have z : xs.length ≤ 8 ∧ ∀ i ∈ xs, 0 ≤ i ∧ i ≤ 1 := by
    by_cases e : st = "tree"
    · have b := b1 e
      refine ⟨?_, fun i hi => ?_⟩
      · have := b.len
        have := h.n8
        omega
      · rcases b.rng i hi with y | y <;> omega
    · rw [b2 e]
      exact ⟨by decide, fun i hi => (List.not_mem_nil hi).elim⟩
  exact ⟨upd_same, h.ne, h.n1, h.n8, h.w, h.c.put h.at_, .inr ⟨q, xs, rfl, rfl, t.put h.at_, Nat.zero_le _, z.1, z.2⟩⟩
theorem mid6 {K : PySem.W.Frag} {ta tb : TE} {ts : TA} {σ : L2.St} {H0 : Hp} {R : List V → Hp → Prop} (M : V → Hp → Prop) (hR : ∀ v H, M v H → ts σ H (fun xs H2 => R (v :: xs) H2)) (h : ∀ R' : V → Hp → Prop, (∀ v H, M v H → R' v H) → tOrT K ta tb σ H0 R') : tCons (tOrT K ta tb) ts σ H0 R := h _ hR
theorem way_in {x : Str} (h : x = "last" ∨ x = "first" ∨ x = "tree") : inV (.str x) wayVs = true := by
  rcases h with rfl | rfl | rfl <;> decide +kernel
end Su
/-! ### S8: the law -/
namespace Su
open PySem PySem.Spec PyProof.Rows L2
def spLaw (K : PySem.W.Frag) : Sp := fun vs H Q _ => ∃ (a : Addr) (ns : List Int), vs = [.ref a] ∧ SqL K H a (ns.map V.int) ∧ ns.length ≤ 63 ∧ ∀ H', Q (.bl true) H'
structure Calls (P : Program) (w : World) (K : PySem.W.Frag) (mg : Str → Option Value) (base : Heap) (C CN : Addr) : Prop where
  made : MakS P w K mg base 6 C (spInit C CN)
  size : MetS P w K mg base 1 C "size" (spFld C "many")
  way : MetS P w K mg base 1 C "way" (spFld C "kept_by")
  lay : MetS P w K mg base 1 C "lay" (spTwo C "slots" "bits")
  counts : MetS P w K mg base 1 C "counts" (spTwo C "near" "far")
  pool : Cal P w K mg base 1 "_law_pool" ["_law_script", "_law_k"] (spPool K)
  take : Cal P w K mg base 1 "_law_take" ["_law_pool_here", "_law_many"] spTake
  sort : Cal P w K mg base 2 "_law_sort" ["_law_pool_here"] spSort
  big : Cal P w K mg base 2 "_law_big" ["_law_pool_here", "_law_sort_here"] spBig
  cells : Cal P w K mg base 2 "_law_cells" ["_law_pool_here", "_law_big_here", "_law_some"] (spCells K)
  places : Cal P w K mg base 3 "_law_places" ["_law_pool_here", "_law_many"] spPlaces
  marks : Cal P w K mg base 2 "_law_marks" ["_law_pool_here", "_law_big_here", "_law_sort_here"] spMarks
  bent : Cal P w K mg base 2 "_law_bent" ["_law_pool_here", "_law_four"] spBent
  part : Cal P w K mg base 2 "_law_part" ["_law_big_here", "_law_sort_here", "_law_cells_here", "_law_marks_here"] spPartL
  refused : Cal P w K mg base 8 "_law_refused" ["_law_big_here", "_law_sort_here", "_law_cells_here", "_law_marks_here"] spRef
theorem scLaw : FnScope ["_law_script", "_law_k", "_law_pool_here", "_law_sort_here", "_law_big_here", "_law_four", "_law_turn", "_law_some", "_law_other", "_law_kept", "_law_due", "_law_one", "_law_cells_here", "_law_lay", "_law_at"] ["_law_script"] (defScope sLaw) := ⟨rfl, rfl, rfl, by decide +kernel, rfl, by decide +kernel, by decide +kernel⟩
section
variable {P : Program} {w : World} {K : PySem.W.Frag} {mg : Str → Option Value} {base : Heap}
theorem ok_law {C CN f : Addr} {fd : FuncData} (F : Fun K "law" "law" sLaw f fd) (B : Bt mg) (CA : Calls P w K mg base C CN) : FnG P w K mg base CX0 9 f fd ["_law_script"] (spLaw K) := by
  obtain ⟨c_Shelf, m_size, m_way, m_lay, m_counts, c_pool, c_take, c_sort, c_big, c_cells, c_places, c_marks, c_bent, c_part, c_refused⟩ := CA
  refine fnG_fun F scLaw (fun vs H Q E h => ?_) (fun cdv A outer s H vs Q E hg hr h => ?_)
  · obtain ⟨a, ns, rfl, _⟩ := h
    rfl
  · obtain ⟨a, ns, rfl, hS, hlen, q⟩ := h
    refine ⟨_, (pss_cons (ps_if (pt_cmpR (op_neD hr.units) (pe_lst (pa_cons (pe_mtS m_size hr (by decide) (pe_shelf0 c_Shelf hr (by decide) (by rfl))) (pa_cons (pe_mtS m_way hr (by decide) (pe_shelf0 c_Shelf hr (by decide) (by rfl))) (pa_cons (pe_mtS m_lay hr (by decide) (pe_shelf0 c_Shelf hr (by decide) (by rfl))) (pa_cons (pe_mtS m_counts hr (by decide) (pe_shelf0 c_Shelf hr (by decide) (by rfl))) pa_nil))))) (pe_lst (pa_cons pe_int (pa_cons pe_str (pa_cons (pe_tupF (pa_cons (pe_op op_repF (pe_tupF (pa_cons (pe_un un_neg pe_int) pa_nil)) pe_int) (pa_cons (pe_tupF pa_nil) pa_nil))) (pa_cons (pe_tupF (pa_cons pe_int (pa_cons pe_int pa_nil))) pa_nil))))) (nomark _)) (pss_one (ps_ret pe_bl)) pss_nil)
      (pss_cons (ps_if (PW.pt (pw_or (pt_cmpR (op_neD hr.units) (pe_mtS m_lay hr (by decide) (pe_shelfW c_Shelf hr (by decide) (by rfl) (pk_cons pe_str pk_nil))) (pe_tupF (pa_cons (pe_op op_repF (pe_tupF (pa_cons (pe_un un_neg pe_int) pa_nil)) pe_int) (pa_cons (pe_tupF (pa_cons pe_int (pa_cons pe_int (pa_cons pe_int pa_nil)))) pa_nil))) (nomark _)) (pw_or1 (pt_cmpR (op_neD hr.units) (pe_mtS m_lay hr (by decide) (pe_shelfB c_Shelf hr (by decide) (by rfl) (pa_cons pe_int pa_nil) (pk_cons (pe_tupF pa_nil) pk_nil))) (pe_tupF (pa_cons (pe_tupF (pa_cons (pe_un un_neg pe_int) (pa_cons (pe_un un_neg pe_int) pa_nil))) (pa_cons (pe_tupF pa_nil) pa_nil))) (nomark _))))) (pss_one (ps_ret pe_bl)) pss_nil)
      (pss_cons (ps_for PassesOwn.never rfl (pi_range1 (by rfl) B.range (pa_cons (pe_callB (call_max2 rfl) (by rfl) B.max (by decide +kernel) (pa_cons pe_int (pa_cons (pe_callB (call_min2 rfl) (by rfl) B.min (by decide +kernel) (pa_cons (pe_callB call_len_seq (by rfl) B.len PySem.boot_len (pa_cons (pv 0) pa_nil)) (pa_cons pe_int pa_nil))) pa_nil))) pa_nil)) (pg_name (i := 1) scLaw.nd rfl (Or.inl rfl)) (pss_cons (ps_set (i := 2) scLaw.nd rfl (Or.inl rfl) (pe_own c_pool hr (by decide) (by rfl) (pa_cons (pv 0) (pa_cons (pv 1) pa_nil))))
      (pss_cons (ps_set (i := 3) scLaw.nd rfl (Or.inl rfl) (pe_own c_sort hr (by decide) (by rfl) (pa_cons (pv 2) pa_nil)))
      (pss_cons (ps_set (i := 4) scLaw.nd rfl (Or.inl rfl) (pe_own c_big hr (by decide) (by rfl) (pa_cons (pv 2) (pa_cons (pv 3) pa_nil))))
      (pss_cons (ps_set (i := 5) scLaw.nd rfl (Or.inr rfl) (pe_lst (pa_cons (pv 4) (pa_cons (pv 3) (pa_cons pe_non (pa_cons pe_non pa_nil))))))
      (pss_cons (ps_if (pt_cmpR op_gt (pe_own c_take hr (by decide) (by rfl) (pa_cons (pv 2) (pa_cons pe_int pa_nil))) pe_int (nomark _)) (pss_one (ps_asg (pe_own c_cells hr (by decide) (by rfl) (pa_cons (pv 2) (pa_cons (pv 4) (pa_cons (pe_own c_places hr (by decide) (by rfl) (pa_cons (pv 2) (pa_cons pe_int pa_nil))) pa_nil)))) (pg_sub (pv 5) pe_int set_list))) pss_nil)
      (pss_cons (ps_if (pt_cmpR op_gt (pe_own c_take hr (by decide) (by rfl) (pa_cons (pv 2) (pa_cons pe_int pa_nil))) pe_int (nomark _)) (pss_one (ps_asg (pe_own c_marks hr (by decide) (by rfl) (pa_cons (pv 2) (pa_cons (pv 4) (pa_cons (pv 3) pa_nil)))) (pg_sub (pv 5) pe_int set_list))) pss_nil)
      (pss_one (ps_for PassesOwn.never rfl (pi_range1 (by rfl) B.range (pa_cons pe_int pa_nil)) (pg_name (i := 6) scLaw.nd rfl (Or.inl rfl)) (pss_cons (ps_set (i := 7) scLaw.nd rfl (Or.inr rfl) (pe_own c_bent hr (by decide) (by rfl) (pa_cons (pv 2) (pa_cons (pv 5) pa_nil))))
      (pss_cons (ps_if (pt_cmpR op_eq (pe_own c_take hr (by decide) (by rfl) (pa_cons (pv 2) (pa_cons pe_int pa_nil))) pe_int (nomark _)) (pss_cons (ps_set (i := 8) scLaw.nd rfl (Or.inr rfl) (pe_own c_bent hr (by decide) (by rfl) (pa_cons (pv 2) (pa_cons (pv 5) pa_nil))))
      (pss_one (ps_set (i := 7) scLaw.nd rfl (Or.inr rfl) (pe_lc (own := [("_law_at", 14)]) (g := (gName 14)) (tt := tYes) (te := (tIf (tTest (tOp (rEqD K) (tOp (rIxL K) (tVar 7) (tVar 14)) (tOp (rIxL K) (tVar 5) (tVar 14)))) (tOp (rIxL K) (tVar 8) (tVar 14)) (tOp (rIxL K) (tVar 7) (tVar 14)))) (by rfl) scLaw.nd (pi_range1 (by rfl) B.range (pa_cons pe_int pa_nil)) (blkOk_by (own := [("_law_at", 14)]) (N := ["_law_script", "_law_k", "_law_pool_here", "_law_sort_here", "_law_big_here", "_law_four", "_law_turn", "_law_some", "_law_other", "_law_kept", "_law_due", "_law_one", "_law_cells_here", "_law_lay", "_law_at"]) (sc := defScope sLaw) (by decide +kernel)) (fun _ _ _ _ _ => (pg_name (i := 14) scLaw.nd rfl (Or.inl rfl))) (fun _ _ _ _ _ => pts_nil) (fun _ _ _ _ _ => (pe_ifExp (pt_cmpR (op_eqD hr.units) (pe_ix ix_list (pv 7) (pv 14) (fun _ _ => rfl)) (pe_ix ix_list (pv 5) (pv 14) (fun _ _ => rfl)) (nomark _)) (pe_ix ix_list (pv 8) (pv 14) (fun _ _ => rfl)) (pe_ix ix_list (pv 7) (pv 14) (fun _ _ => rfl)))))))) pss_nil)
      (pss_cons (ps_set (i := 9) scLaw.nd rfl (Or.inl rfl) (pe_callB (call_reprG hg hr.units) (by rfl) B.repr (by decide +kernel) (pa_cons (pv 7) pa_nil)))
      (pss_cons (ps_set (i := 10) scLaw.nd rfl (Or.inl rfl) (pe_own c_part hr (by decide) (by rfl) (pa_cons (pe_ix ix_list (pv 7) pe_int (fun _ _ => rfl)) (pa_cons (pe_ix ix_list (pv 7) pe_int (fun _ _ => rfl)) (pa_cons (pe_ix ix_list (pv 7) pe_int (fun _ _ => rfl)) (pa_cons (pe_ix ix_list (pv 7) pe_int (fun _ _ => rfl)) pa_nil))))))
      (pss_one (ps_if (pt_cmpR op_notN (pv 10) pe_non (nomark _)) (pss_one (ps_if (PW.pt (pw_or (pt_cmpR op_ne (pe_own c_refused hr (by decide) (by rfl) (pa_cons (pe_ix ix_list (pv 7) pe_int (fun _ _ => rfl)) (pa_cons (pe_ix ix_list (pv 7) pe_int (fun _ _ => rfl)) (pa_cons (pe_ix ix_list (pv 7) pe_int (fun _ _ => rfl)) (pa_cons (pe_ix ix_list (pv 7) pe_int (fun _ _ => rfl)) pa_nil))))) (pv 10) (nomark _)) (pw_or1 (pt_cmpR op_ne (pe_callB (call_reprG hg hr.units) (by rfl) B.repr (by decide +kernel) (pa_cons (pv 7) pa_nil)) (pv 9) (nomark _))))) (pss_one (ps_ret pe_bl)) pss_nil)) (pss_cons (ps_set (i := 11) scLaw.nd rfl (Or.inl rfl) (pe_shelfA c_Shelf hr (by decide) (by rfl) (pk_cons (pe_ix ix_list (pv 7) pe_int (fun _ _ => rfl)) (pk_cons (pe_ix ix_list (pv 7) pe_int (fun _ _ => rfl)) (pk_cons (pe_ix ix_list (pv 7) pe_int (fun _ _ => rfl)) (pk_cons (pe_ix ix_list (pv 7) pe_int (fun _ _ => rfl)) pk_nil))))))
      (pss_cons (ps_set (i := 12) scLaw.nd rfl (Or.inl rfl) (pe_orT (pe_ix ix_list (pv 7) pe_int (fun _ _ => rfl)) (pe_one (pe_op op_repF (pe_tupF (pa_cons (pe_un un_neg pe_int) pa_nil)) (pe_ix ix_list (pv 7) pe_int (fun _ _ => rfl))))))
      (pss_cons (ps_set (i := 13) scLaw.nd rfl (Or.inl rfl) (pe_tupF (pa_cons (pv 12) (pa_cons (pe_orT (pe_ix ix_list (pv 7) pe_int (fun _ _ => rfl)) (pe_one (pe_op op_repF (pe_tupF (pa_cons pe_int pa_nil)) (pe_op op_mul (pe_op op_sub (pe_ix ix_list (pv 7) pe_int (fun _ _ => rfl)) pe_int) (pe_callTy call_int1 (by rfl) B.int (by decide +kernel) (pa_cons (pe_cmpR op_eq (pe_ix ix_list (pv 7) pe_int (fun _ _ => rfl)) pe_str (nomark _)) pa_nil)))))) pa_nil))))
      (pss_one (ps_if (pt_cmpR (op_neD hr.units) (pe_lst (pa_cons (pe_mtS m_lay hr (by decide) (pv 11)) (pa_cons (pe_mtS m_size hr (by decide) (pv 11)) (pa_cons (pe_mtS m_way hr (by decide) (pv 11)) (pa_cons (pe_mtS m_counts hr (by decide) (pv 11)) pa_nil))))) (pe_lst (pa_cons (pv 13) (pa_cons (pe_ix ix_list (pv 7) pe_int (fun _ _ => rfl)) (pa_cons (pe_ix ix_list (pv 7) pe_int (fun _ _ => rfl)) (pa_cons (pe_tupF (pa_cons pe_int (pa_cons pe_int pa_nil))) pa_nil))))) (nomark _)) (pss_one (ps_ret pe_bl)) pss_nil))))))))))))))))))))
      (pss_one (ps_ret pe_bl))))), ?_⟩
    refine fun x1 d1 n1 m1 e1 => use_shelf2 (p := 0) (gz := .int 4) (gw := .str "last") (gc := .non) (gm := .non) n1 m1 e1 (.int 4) (.str "last") .non .non trivial trivial part_head fun H1 s1 h1 => ⟨rfl, ?_⟩
    obtain ⟨dx1, a1, b1, hx1, ta1, tb1⟩ := h1.ex
    refine ⟨x1, dx1, _, rfl, hx1, rfl, x1, dx1, _, .int 4, rfl, hx1, rfl, ?_⟩
    refine fun x2 d2 n2 m2 e2 => use_shelf2 (p := 0) (gz := .int 4) (gw := .str "last") (gc := .non) (gm := .non) n2 m2 e2 (.int 4) (.str "last") .non .non trivial trivial part_head fun H2 s2 h2 => ⟨rfl, ?_⟩
    obtain ⟨dx2, a2, b2, hx2, ta2, tb2⟩ := h2.ex
    refine ⟨x2, dx2, _, rfl, hx2, rfl, x2, dx2, _, .str "last", rfl, hx2, rfl, ?_⟩
    refine fun x3 d3 n3 m3 e3 => use_shelf2 (p := 0) (gz := .int 4) (gw := .str "last") (gc := .non) (gm := .non) n3 m3 e3 (.int 4) (.str "last") .non .non trivial trivial part_head fun H3 s3 h3 => ⟨rfl, ?_⟩
    obtain ⟨dx3, a3, b3, hx3, ta3, tb3⟩ := h3.ex
    refine ⟨x3, dx3, _, rfl, hx3, rfl, x3, dx3, _, .ref a3, .ref b3, rfl, hx3, rfl, rfl, fun t3 G3 u3 nt3 pt3 => ?_⟩
    refine fun x4 d4 n4 m4 e4 => use_shelf2 (p := 0) (gz := .int 4) (gw := .str "last") (gc := .non) (gm := .non) n4 m4 e4 (.int 4) (.str "last") .non .non trivial trivial part_head fun H4 s4 h4 => ⟨rfl, ?_⟩
    obtain ⟨dx4, a4, b4, hx4, ta4, tb4⟩ := h4.ex
    refine ⟨x4, dx4, _, rfl, hx4, rfl, x4, dx4, _, .int 0, .int 0, rfl, hx4, rfl, rfl, fun t4 G4 u4 nt4 pt4 => ?_⟩
    refine ⟨(by show 4 ≤ sizeLine; decide), fun l1 nl1 => ?_⟩
    have w1 := same_upd (o := .lst [V.int 4, V.str "last", V.ref t3, V.ref t4]) nl1
    refine ⟨_, rfl, (by show 1 ≤ sizeLine; decide), fun r1 I1 v1 nr1 pr1 => ?_⟩
    refine ⟨r1, 4, [V.int (-1)], rfl, rfl, pr1, (by simp), by omega, by omega, (by show 1 ≤ 1000; decide), fun r2 I2 v2 pr2 => ?_⟩
    rw [rep_ints] at pr2
    refine ⟨(by show 0 ≤ sizeLine; decide), fun r3 I3 v3 nr3 pr3 => ?_⟩
    refine ⟨(by show 2 ≤ sizeLine; decide), fun r4 I4 v4 nr4 pr4 => ?_⟩
    refine ⟨(by show 2 ≤ sizeLine; decide), fun r5 I5 v5 nr5 pr5 => ?_⟩
    refine ⟨(by show 4 ≤ sizeLine; decide), fun l2 nl2 => ?_⟩
    have w2 := same_upd (o := .lst [V.int 4, V.str "last", V.ref r4, V.ref r5]) nl2
    have z5 := v5.trans w2
    have z4 := v4.trans z5
    have z3 := v3.trans z4
    have zz := (w1.trans (v1.trans v2)).trans z3
    have g4 := (s4.trans u4).trans zz
    have hk := head_ok (n := 4) (s := "last") (ss := List.replicate 4 (-1)) (bs := []) (by decide +kernel)
    refine ⟨headD 4 "last" (List.replicate 4 (-1)) [], headD 4 "last" (List.replicate 4 (-1)) [], .lst (SqL.of (((v1.trans v2).trans z3) _ _ (upd_same (a := l1)))) (.cons (.int 4) (.cons (.str _) (.cons (dp_lay (pt3.same g4) (ta3.same (u3.trans g4)) (tb3.same (u3.trans g4))) (.cons (dp_cnt (pt4.same zz)) .nil)))),
      .lst (SqL.of upd_same) (.cons (.int 4) (.cons (.str _) (.cons (dp_lay (pr4.same z5) (.inl (pr2.same z3)) (.inl (pr3.same z4))) (.cons (dp_cnt (pr5.same w2)) .nil)))), hk.1, hk.1, _, rfl, iteB (fun z => absurd z (by rw [hk.2]; decide)) (fun _ => ?_)⟩
    have sA : Same H (upd I5 l2 (.lst [V.int 4, V.str "last", V.ref r4, V.ref r5])) := (((s1.trans s2).trans s3).trans u3).trans g4
    generalize upd I5 l2 (.lst [V.int 4, V.str "last", V.ref r4, V.ref r5]) = J at sA ⊢
    clear z5 z4 z3 zz g4 w2 w1 v1 v2 v3 v4 v5 pr1 pr2 pr3 pr4 pr5 h1 h2 h3 h4
    refine ⟨rfl, rfl, fun x5 d5 n5 m5 e5 => use_shelf2 (p := 0) (gz := .int 4) (gw := .str "tree") (gc := .non) (gm := .non) n5 m5 e5 (.int 4) (.str "tree") .non .non trivial trivial part_tree fun H5 s5 h5 => ⟨rfl, ?_⟩⟩
    obtain ⟨dx5, a5, b5, hx5, ta5, tb5⟩ := h5.ex
    refine ⟨x5, dx5, _, rfl, hx5, rfl, x5, dx5, _, .ref a5, .ref b5, rfl, hx5, rfl, rfl, fun t5 G5 u5 nt5 pt5 => ?_⟩
    refine ⟨_, rfl, (by show 1 ≤ sizeLine; decide), fun r1 I1 v1 nr1 pr1 => ?_⟩
    refine ⟨r1, 4, [V.int (-1)], rfl, rfl, pr1, (by simp), by omega, by omega, (by show 1 ≤ 1000; decide), fun r2 I2 v2 pr2 => ?_⟩
    rw [rep_ints] at pr2
    refine ⟨(by show 3 ≤ sizeLine; decide), fun r3 I3 v3 nr3 pr3 => ?_⟩
    refine ⟨(by show 2 ≤ sizeLine; decide), fun r4 I4 v4 nr4 pr4 => ?_⟩
    have z3 := v3.trans v4
    have g5 := (v1.trans v2).trans z3
    refine ⟨layD (List.replicate 4 (-1)) [0, 0, 0], layD (List.replicate 4 (-1)) [0, 0, 0], dp_lay (pt5.same g5) (ta5.same (u5.trans g5)) (tb5.same (u5.trans g5)), dp_lay pr4 (.inl (pr2.same z3)) (.inl (pr3.same v4)), lay_shaped _ _, lay_shaped _ _, _, rfl, iteB (fun z => absurd z (by rw [lay_eqv]; decide)) (fun _ => ?_)⟩
    refine ⟨(by show 0 ≤ sizeLine; decide), fun c6 K6 y6 nc6 pc6 => ⟨rfl, rfl, fun x6 d6 n6 m6 e6 => use_shelf2 (p := 0) (gz := .int 2) (gw := .str "last") (gc := .non) (gm := .tup []) n6 m6 e6 (.int 2) (.str "last") .non (.tup (.inl pc6) .nil) trivial (by show 0 ≤ _; omega) part_two fun H6 s6 h6 => ⟨rfl, ?_⟩⟩⟩
    obtain ⟨dx6, a6, b6, hx6, ta6, tb6⟩ := h6.ex
    refine ⟨x6, dx6, _, rfl, hx6, rfl, x6, dx6, _, .ref a6, .ref b6, rfl, hx6, rfl, rfl, fun t6 G6 u6 nt6 pt6 => ?_⟩
    refine ⟨_, rfl, _, rfl, (by show 2 ≤ sizeLine; decide), fun r5 I5 v5 nr5 pr5 => ?_⟩
    refine ⟨(by show 0 ≤ sizeLine; decide), fun r6 I6 v6 nr6 pr6 => ?_⟩
    refine ⟨(by show 2 ≤ sizeLine; decide), fun r7 I7 v7 nr7 pr7 => ?_⟩
    have z6 := v6.trans v7
    have g6 := v5.trans z6
    refine ⟨layD [-1, -1] [], layD [-1, -1] [], dp_lay (pt6.same g6) (ta6.same (u6.trans g6)) (tb6.same (u6.trans g6)), dp_lay pr7 (.inl (pr5.same z6)) (.inl (pr6.same v7)), lay_shaped _ _, lay_shaped _ _, _, rfl, iteB (fun z => absurd z (by rw [lay_eqv]; decide)) (fun _ => ?_)⟩
    have sB : Same H I7 := ((sA.trans (s5.trans u5)).trans g5).trans ((y6.trans (s6.trans u6)).trans g6)
    have hS7 : SqL K I7 a (ns.map V.int) := sB.seq hS
    clear z6 g6 pr1 pr2 pr3 pr4 pr5 pr6 pr7 z3 g5 h5 h6 sA s5 u5 y6 s6 u6 v1 v2 v3 v4 v5 v6 v7 s1 s2 s3 s4 u3 u4
    clear hS
    obtain ⟨m, hm, hm2⟩ : ∃ m : Nat, (if (if (12 : Int) < ((ns.map V.int).length : Int) then 12 else ((ns.map V.int).length : Int)) > 1 then (if (12 : Int) < ((ns.map V.int).length : Int) then 12 else ((ns.map V.int).length : Int)) else 1) = (m : Int) ∧ m ≤ 12 := by
      rw [List.length_map]
      refine ⟨(if (if (12 : Int) < (ns.length : Int) then 12 else (ns.length : Int)) > 1 then (if (12 : Int) < (ns.length : Int) then 12 else (ns.length : Int)) else 1).toNat, ?_, ?_⟩
      all_goals
        by_cases e1 : (12 : Int) < (ns.length : Int)
        · simp only [e1, if_true]
          decide
        · simp only [e1, if_false]
          split <;> omega
    refine ⟨_, rfl, a, _, rfl, .inl hS7, _, _, rfl, _, _, rfl, ?_⟩
    refine ⟨(m : Int), congrArg (fun z => [V.int z]) hm, by omega, by omega, ?_⟩
    rw [show ((m : Int)).toNat = m by omega]
    refine for_range (lo := 0) (n := m) (fun i σ H2 => ∃ y1 y2 y3 y4 y5 y6 y7 y8 y9 y10 y11 y12 y13 y14 : Option V, σ = [some (.ref a), y1, y2, y3, y4, y5, y6, y7, y8, y9, y10, y11, y12, y13, y14] ∧ SqL K H2 a (ns.map V.int)) ?_ ?_ ?_
    · exact ⟨none, none, none, none, none, none, none, none, none, none, none, none, none, none, rfl, hS7⟩
    rotate_left
    · rintro σ H2 ⟨y1, y2, y3, y4, y5, y6, y7, y8, y9, y10, y11, y12, y13, y14, rfl, _⟩
      exact q H2
    clear hx1 hx2 hx3 hx4 hx5 hx6 ta1 ta2 ta3 ta4 ta5 ta6 tb1 tb2 tb3 tb4 tb5 tb6 pt3 pt4 pt5 pt6 pc6 sB
    rintro i σ Hs hi ⟨y1, y2, y3, y4, y5, y6, y7, y8, y9, y10, y11, y12, y13, y14, rfl, hSs⟩
    refine ⟨_, rfl, _, rfl, a, ns, _, rfl, hSs, by omega, by omega, fun p H1 s1 np hp1 => ?_⟩
    have back : ∀ {Hn : Hp}, Kept p H1 Hn → SqL K Hn a (ns.map V.int) := fun {Hn} k => Same.seq (fun b o e => k b o (s1 b o e) (ne_of_none e np)) hSs
    refine ⟨_, rfl, p, rfl, hp1, fun st H2 k2 hp2 hst => ?_⟩
    refine ⟨_, rfl, _, rfl, p, st, rfl, hp2, fun n H3 k3 hp3 n1 n8 nt => ?_⟩
    obtain ⟨kn, ekn⟩ : ∃ kn : Nat, (kn : Int) = n := ⟨n.toNat, by omega⟩
    refine ⟨_, rfl, _, rfl, (by show 4 ≤ sizeLine; decide), fun F nF => ?_⟩
    have eF : F ≠ p := pool_ne hp3 nF
    have four : FourAt p (upd H3 F (.lst [V.int n, V.str st, V.non, V.non])) F n st .non .non .non .non := ⟨upd_same, eF, n1, n8, way_in hst, .inl ⟨rfl, rfl⟩, .inl ⟨rfl, rfl⟩⟩
    have nF1 : H1 F = none := (k2.trans k3).free eF nF
    have k4 : Kept p H1 (upd H3 F (.lst [V.int n, V.str st, V.non, V.non])) := (k2.trans k3).set nF1
    have hp4 : PoolAt (upd H3 F (.lst [V.int n, V.str st, V.non, V.non])) p := hp3.upd (Ne.symm eF)
    generalize upd H3 F (.lst [V.int n, V.str st, V.non, V.non]) = H4 at four k4 hp4 ⊢
    apply mid (M := fun σ H5 => ∃ v2 g2, σ = [some (.ref a), some (.int (0 + (i : Int))), some (.ref p), some (.str st), some (.int n), some (.ref F), y6, y7, y8, y9, y10, y11, y12, y13, y14] ∧ FourAt p H5 F n st v2 .non g2 .non ∧ Kept p H1 H5 ∧ PoolAt H5 p)
    case h =>
      intro rest
      refine ⟨_, rfl, p, 4, rfl, hp4, by decide, by decide, fun r o r0 r4 po => ?_⟩
      have k5 := Kept.upd p H4 o
      have hp5 : PoolAt (upd H4 p o) p := ⟨o, upd_same, po⟩
      generalize upd H4 p o = H5 at k5 hp5 ⊢
      refine ⟨_, _, rfl, rfl, _, rfl, iteB (fun z => ?_) (fun z => ?_)⟩
      rotate_left
      · exact rest _ _ ⟨_, _, rfl, four.kept k5 hp4, k4.trans k5, hp5⟩
      refine ⟨_, rfl, _, rfl, _, rfl, p, 9, rfl, hp5, by decide, fun b H6 ms nb k6 hp6 hb nd rg ln _ => ?_⟩
      refine ⟨p, b, kn, ms, (by rw [ekn]; rfl), hp6, SqL.of hb, nd, rg, (by rw [ln]; exact Nat.le_trans (Nat.min_le_right _ _) (by decide)), (by omega), fun c H7 xs nc k7 hp7 tc sl => ?_⟩
      have four7 := ((four.kept k5 hp4).kept k6 hp5).kept k7 hp6
      refine ⟨_, rfl, F, _, 2, 2, rfl, rfl, four7.at_, rfl, ?_⟩
      exact rest _ _ ⟨_, _, rfl, four7.cells tc ekn sl, (((k4.trans k5).trans k6).trans k7).set nF1, hp7.upd (Ne.symm eF)⟩
    case hR =>
      rintro _ H4 ⟨v2, g2, rfl, four, k4, hp4⟩
      apply mid (M := fun σ H5 => ∃ v3 g3, σ = [some (.ref a), some (.int (0 + (i : Int))), some (.ref p), some (.str st), some (.int n), some (.ref F), y6, y7, y8, y9, y10, y11, y12, y13, y14] ∧ FourAt p H5 F n st v2 v3 g2 g3 ∧ Kept p H1 H5 ∧ PoolAt H5 p)
      case h =>
        intro rest
        refine ⟨_, rfl, p, 4, rfl, hp4, by decide, by decide, fun r o r0 r4 po => ?_⟩
        have k5 := Kept.upd p H4 o
        have hp5 : PoolAt (upd H4 p o) p := ⟨o, upd_same, po⟩
        generalize upd H4 p o = H5 at k5 hp5 ⊢
        refine ⟨_, _, rfl, rfl, _, rfl, iteB (fun z => ?_) (fun z => ?_)⟩
        rotate_left
        · exact rest _ _ ⟨_, _, rfl, four.kept k5 hp4, k4.trans k5, hp5⟩
        refine ⟨_, rfl, _, rfl, _, rfl, p, kn, st, (by rw [ekn]; rfl), hp5, (by omega), (by omega), fun c H7 xs nc k7 hp7 tc b1 b2 => ?_⟩
        have four7 := (four.kept k5 hp4).kept k7 hp5
        refine ⟨_, rfl, F, _, 3, 3, rfl, rfl, four7.at_, rfl, ?_⟩
        exact rest _ _ ⟨_, _, rfl, four7.marks tc ekn b1 b2, ((k4.trans k5).trans k7).set nF1, hp7.upd (Ne.symm eF)⟩
      case hR =>
        rintro _ H4 ⟨v3, g3, rfl, four, k4, hp4⟩
        refine ⟨4, rfl, by decide, by decide, ?_⟩
        refine for_range (lo := 0) (n := 4) (fun j σ H5 => ∃ y6 y7 y8 y9 y10 y11 y12 y13 y14 : Option V, σ = [some (.ref a), some (.int (0 + (i : Int))), some (.ref p), some (.str st), some (.int n), some (.ref F), y6, y7, y8, y9, y10, y11, y12, y13, y14] ∧ FourAt p H5 F n st v2 v3 g2 g3 ∧ Kept p H1 H5 ∧ PoolAt H5 p) ?_ ?_ ?_
        · exact ⟨y6, y7, y8, y9, y10, y11, y12, y13, y14, rfl, four, k4, hp4⟩
        rotate_left
        · rintro σ H5 ⟨y6, y7, y8, y9, y10, y11, y12, y13, y14, rfl, _, k5, _⟩
          exact ⟨_, _, _, _, _, _, _, _, _, _, _, _, _, _, rfl, back k5⟩
        rintro j σ H4 hj ⟨y6, y7, y8, y9, y10, y11, y12, y13, y14, rfl, four, k4, hp4⟩
        refine ⟨_, rfl, _, rfl, p, F, n, st, v2, v3, g2, g3, rfl, hp4, four, fun L H5 w0 w1 w2 w3 h0 h1 h2 h3 k5 hp5 nL hL W0 W1 W2 W3 => ?_⟩
        have eL : L ≠ p := pool_ne hp4 nL
        have nL1 : H1 L = none := k4.free eL nL
        have hT : ∀ v ∈ [w0, w1, w2, w3], ∃ g, Wt p H5 v g := by
          intro v hv
          simp only [List.mem_cons, List.not_mem_nil, or_false] at hv
          rcases hv with rfl | rfl | rfl | rfl
          · exact ⟨_, W0⟩
          · exact ⟨_, W1⟩
          · exact ⟨_, W2⟩
          · exact ⟨_, W3⟩
        have four5 := four.kept k5 hp4
        apply mid (M := fun σ H6 => ∃ (y8 : Option V) (L : Addr) (vs : List V), σ = [some (.ref a), some (.int (0 + (i : Int))), some (.ref p), some (.str st), some (.int n), some (.ref F), some (.int (0 + (j : Int))), some (.ref L), y8, y9, y10, y11, y12, y13, y14] ∧ FourAt p H6 F n st v2 v3 g2 g3 ∧ Kept p H1 H6 ∧ PoolAt H6 p ∧ L ≠ p ∧ H6 L = some (.lst vs) ∧ vs.length = 4 ∧ ∀ v ∈ vs, ∃ g, Wt p H6 v g)
        case h =>
          intro rest
          refine ⟨_, rfl, p, 2, rfl, hp5, by decide, by decide, fun r o r0 r4 po => ?_⟩
          have k6 := Kept.upd p H5 o
          have hp6 : PoolAt (upd H5 p o) p := ⟨o, upd_same, po⟩
          generalize upd H5 p o = H6 at k6 hp6 ⊢
          have four6 := four5.kept k6 hp5
          have hL6 := k6 _ _ hL eL
          have hT6 : ∀ v ∈ [w0, w1, w2, w3], ∃ g, Wt p H6 v g := fun v hv => by
            obtain ⟨g, w⟩ := hT v hv
            exact ⟨g, w.kept k6 hp5⟩
          refine ⟨rfl, _, rfl, iteB (fun z => ?_) (fun z => ?_)⟩
          rotate_left
          · exact rest _ _ ⟨_, L, _, rfl, four6, (k4.trans k5).trans k6, hp6, eL, hL6, rfl, hT6⟩
          refine ⟨_, rfl, _, rfl, p, F, n, st, v2, v3, g2, g3, rfl, hp6, four6, fun O H7 u0 u1 u2 u3 o0 o1 o2 o3 k7 hp7 nO hO U0 U1 U2 U3 => ?_⟩
          have four7 := four6.kept k7 hp6
          have hL7 := k7 _ _ hL6 eL
          have hT7 : ∀ v ∈ [w0, w1, w2, w3], ∃ g, Wt p H7 v g := fun v hv => by
            obtain ⟨g, w⟩ := hT6 v hv
            exact ⟨g, w.kept k7 hp6⟩
          have hO7 : ∀ v ∈ [u0, u1, u2, u3], ∃ g, Wt p H7 v g := by
            intro v hv
            simp only [List.mem_cons, List.not_mem_nil, or_false] at hv
            rcases hv with rfl | rfl | rfl | rfl
            · exact ⟨_, U0⟩
            · exact ⟨_, U1⟩
            · exact ⟨_, U2⟩
            · exact ⟨_, U3⟩
          refine ⟨4, rfl, by decide, by decide, fun D nD => ?_⟩
          refine lc_range (lo := 0) (n := 4) (fun j HH => ∃ vs : List V, HH D = some (.lst vs) ∧ vs.length = j ∧ (∀ v ∈ vs, ∃ g, Wt p H7 v g) ∧ Same H7 HH) ?_ ?_ ?_
          · exact ⟨[], upd_same, rfl, fun v hv => (List.not_mem_nil hv).elim, same_upd nD⟩
          · rintro t HH ht ⟨vs, hD, lv, hvs, sH⟩
            obtain ⟨q1, q2⟩ := getD4 (vs := [w0, w1, w2, w3]) (i := t) rfl ht
            obtain ⟨q3, q4⟩ := getD4 (vs := [V.int n, V.str st, v2, v3]) (i := t) rfl ht
            obtain ⟨q5, q6⟩ := getD4 (vs := [u0, u1, u2, u3]) (i := t) rfl ht
            obtain ⟨ga, wa⟩ := hT7 _ q2
            obtain ⟨gb, wb⟩ := four7.all _ q4
            have at0 : ∀ {xs : List V} {v : V}, xs[t]? = some v → atI xs (0 + (t : Int)) = some v := fun h => by rw [Int.zero_add]; exact atI_nat h
            have put : ∀ y : V, (∃ g, Wt p H7 y g) → ∃ acc, HH D = some (.lst acc) ∧ acc.length < sizeLine ∧ ∃ vs : List V, (upd HH D (.lst (acc ++ [y]))) D = some (.lst vs) ∧ vs.length = t + 1 ∧ (∀ v ∈ vs, ∃ g, Wt p H7 v g) ∧ Same H7 (upd HH D (.lst (acc ++ [y]))) := fun y hy => by
              refine ⟨vs, hD, small1000 (by omega), vs ++ [y], upd_same, by rw [List.length_append, lv]; rfl, fun v hv => ?_, fun c o ec => ?_⟩
              · rcases List.mem_append.mp hv with h | h
                · exact hvs v h
                · rw [List.mem_singleton.mp h]
                  exact hy
              · rw [upd_ne (ne_of_none ec nD)]
                exact sH _ _ ec
            refine ⟨rfl, tyes ?_⟩
            refine ⟨_, rfl, _, rfl, L, _, _, _, rfl, rfl, SqL.of (sH _ _ hL7), at0 q1, ?_⟩
            refine ⟨_, rfl, _, rfl, F, _, _, _, rfl, rfl, SqL.of (sH _ _ four7.at_), at0 q3, ?_⟩
            refine ⟨toD ga, toD gb, (wa.same sH).dp, (wb.same sH).dp, wa.shaped, wb.shaped, _, rfl, iteB (fun z => ?_) (fun z => ?_)⟩
            · exact ⟨_, rfl, _, rfl, O, _, _, _, rfl, rfl, SqL.of (sH _ _ hO), at0 q5, put _ (hO7 _ q6)⟩
            · exact ⟨_, rfl, _, rfl, L, _, _, _, rfl, rfl, SqL.of (sH _ _ hL7), at0 q1, put _ ⟨ga, wa⟩⟩
          · rintro HH ⟨vs, hD, lv, hvs, sH⟩
            refine rest _ _ ⟨_, D, vs, rfl, four7.kept (Kept.same sH) hp7, (((k4.trans k5).trans k6).trans k7).trans (Kept.same sH), hp7.same sH, pool_ne hp7 nD, hD, lv, fun v hv => ?_⟩
            obtain ⟨g, w⟩ := hvs v hv
            exact ⟨g, w.same sH⟩
        case hR =>
          rintro _ H6 ⟨y8, L, vs, rfl, four6, k6, hp6, eL, hL, lv, hvs⟩
          obtain ⟨w0, w1, w2, w3, rfl⟩ := len4 lv
          obtain ⟨h0, W0⟩ := hvs w0 (by simp)
          obtain ⟨h1, W1⟩ := hvs w1 (by simp)
          obtain ⟨h2, W2⟩ := hvs w2 (by simp)
          obtain ⟨h3, W3⟩ := hvs w3 (by simp)
          obtain ⟨tg, sw⟩ := four_tg eL hL W0 W1 W2 W3
          have ended : ∀ {H7 : Hp}, Same H6 H7 → FourAt p H7 F n st v2 v3 g2 g3 ∧ Kept p H1 H7 ∧ PoolAt H7 p := fun s7 => ⟨four6.kept (Kept.same s7) hp6, k6.trans (Kept.same s7), hp6.same s7⟩
          refine ⟨_, rfl, p, .ref L, _, rfl, tg, sw, ?_⟩
          refine ⟨_, rfl, L, _, 0, w0, rfl, rfl, SqL.of hL, rfl, _, rfl, L, _, 1, w1, rfl, rfl, SqL.of hL, rfl, _, rfl, L, _, 2, w2, rfl, rfl, SqL.of hL, rfl, _, rfl, L, _, 3, w3, rfl, rfl, SqL.of hL, rfl, ?_⟩
          refine ⟨p, w0, w1, w2, w3, h0, h1, h2, h3, rfl, W0.tg, W1.tg, W2.tg, W3.tg, W2.ok, W3.ok, W2.pt, fun H7 s7 => ?_⟩
          have hL7 := s7 _ _ hL
          have V0 := W0.same s7
          have V1 := W1.same s7
          have V2 := W2.same s7
          have V3 := W3.same s7
          have tg7 := tg.keep (Keeps.same (p := p) s7)
          refine ⟨_, rfl, rfl, _, rfl, ?_⟩
          cases hp : partG h0 h1 h2 h3 with
          | some sx =>
            refine iteB (fun _ => ?_) (fun z => by cases z)
            refine ⟨_, rfl, L, _, 0, w0, rfl, rfl, SqL.of hL7, rfl, _, rfl, L, _, 1, w1, rfl, rfl, SqL.of hL7, rfl, _, rfl, L, _, 2, w2, rfl, rfl, SqL.of hL7, rfl, _, rfl, L, _, 3, w3, rfl, rfl, SqL.of hL7, rfl, ?_⟩
            refine ⟨p, w0, w1, w2, w3, h0, h1, h2, h3, sx, rfl, V0.tg, V1.tg, V2.tg, V3.tg, V2.few, V3.few, hp, fun H8 s8 => ?_⟩
            refine ⟨_, rfl, rfl, _, rfl, iteNS rfl ?_⟩
            refine ⟨_, rfl, p, .ref L, _, rfl, tg7.keep (Keeps.same (p := p) s8), sw, _, rfl, rfl, _, rfl, iteNS rfl ?_⟩
            obtain ⟨r1, r2, r3⟩ := ended (s7.trans s8)
            exact ⟨_, _, _, _, _, _, _, _, _, rfl, r1, r2, r3⟩
          | none =>
            refine iteB (fun z => by cases z) (fun _ => ?_)
            obtain ⟨p1, p2, p3, p4⟩ := part_none hp
            obtain ⟨sw1, ew1, eh1⟩ := way_str V1.tg p1
            rw [eh1] at p1 p2 p4
            obtain ⟨nz, ew0, eh0⟩ := size_int V0.tg p2
            rw [eh0] at p2 p3 p4
            obtain ⟨z1, z8⟩ := size_rng p2
            refine ⟨_, rfl, L, _, 2, w2, rfl, rfl, SqL.of hL7, rfl, _, rfl, L, _, 3, w3, rfl, rfl, SqL.of hL7, rfl, _, rfl, L, _, 1, w1, rfl, rfl, SqL.of hL7, rfl, _, rfl, L, _, 0, w0, rfl, rfl, SqL.of hL7, rfl, ?_⟩
            refine ⟨rfl, rfl, fun x d nx nd ne => use_shelf2 (p := p) nx nd ne V0.tg V1.tg V2.tg V3.tg V2.few V3.few hp fun H8 s8 h8 => ⟨rfl, ?_⟩⟩
            rw [eh0, eh1] at h8
            obtain ⟨dx, as, bs, hx, ta, tb⟩ := h8.ex
            have hL8 := s8 _ _ hL7
            apply mid (M := fun σ H9 => ∃ ac : Addr, σ = [some (.ref a), some (.int (0 + (i : Int))), some (.ref p), some (.str st), some (.int n), some (.ref F), some (.int (0 + (j : Int))), some (.ref L), y8, some (.str (toD (.lst [h0, h1, h2, h3])).shown), some .non, some (.ref x), some (.ref ac), y13, y14] ∧ Same H8 H9 ∧ T2 H9 ac ((slotsI h2 nz).map V.int))
            case h =>
              intro rest
              refine ⟨_, rfl, L, _, 2, w2, rfl, rfl, SqL.of hL8, rfl, ?_⟩
              rcases p3 with y | y
              · have e2 : w2 = .non := by
                  have := non_dec V2.tg
                  rw [y, decide_eq_true_eq] at this
                  exact this
                refine ⟨false, (by rw [e2]; rfl), iteF ⟨_, rfl, (by show 1 ≤ sizeLine; decide), fun t H9 s9 nt pt => ?_⟩⟩
                refine ⟨_, rfl, L, _, 0, w0, rfl, rfl, SqL.of (s9 _ _ hL8), rfl, ?_⟩
                refine ⟨t, nz, [V.int (-1)], rfl, (by rw [ew0]), pt, (by simp), by omega, by omega, (by show 1 ≤ 1000; decide), fun ac H10 s10 hv => ?_⟩
                rw [rep_ints] at hv
                refine rest _ _ ⟨ac, rfl, s9.trans s10, ?_⟩
                rw [slots_non y]
                exact .inl hv
              · obtain ⟨ac, e2, t2⟩ := slots_tup (V2.tg.keep (Keeps.same (p := p) s8)) y
                obtain ⟨i0, il, e0⟩ := slots_len y z1
                refine ⟨true, (by rw [e2]; exact .inr (.inl ⟨_, t2.sq, by rw [show slotsI h2 (numG (.int nz)) = i0 :: il from e0]; rfl⟩)), iteT (rest _ _ ⟨ac, by rw [e2]; rfl, Same.refl _, t2⟩)⟩
            case hR =>
              rintro _ H9 ⟨ac, rfl, s9, tac⟩
              have hL9 := s9 _ _ hL8
              refine ⟨_, rfl, ?_⟩
              refine mid6 (M := fun v H10 => ∃ bc : Addr, v = .ref bc ∧ Same H9 H10 ∧ T2 H10 bc ((bitsI h3 nz sw1).map V.int)) ?hR2 ?h2
              case h2 =>
                intro R rest
                refine ⟨_, rfl, L, _, 3, w3, rfl, rfl, SqL.of hL9, rfl, ?_⟩
                have U3 := (V3.tg.keep (Keeps.same (p := p) s8)).keep (Keeps.same (p := p) s9)
                have hA : (TruV K w3 H9 false ∧ bitsI h3 nz sw1 = List.replicate (bitsN nz sw1).toNat 0) ∨ (TruV K w3 H9 true ∧ ∃ bc, w3 = .ref bc ∧ T2 H9 bc ((bitsI h3 nz sw1).map V.int)) := by
                  rcases p4 with y | y
                  · have e3 : w3 = .non := by
                      have := non_dec V3.tg
                      rw [y, decide_eq_true_eq] at this
                      exact this
                    exact .inl ⟨by rw [e3]; rfl, bits_non y⟩
                  · obtain ⟨bc, e3, t3⟩ := bits_tup U3 y
                    have bl := bits_len y
                    cases hb : bitsI h3 nz sw1 with
                    | nil =>
                      rw [show bitsI h3 (numG (.int nz)) (strG (.str sw1)) = [] from hb] at t3 bl
                      refine .inl ⟨by rw [e3]; exact .inr (.inl ⟨_, t3.sq, rfl⟩), ?_⟩
                      rw [show bitsN nz sw1 = 0 from bl.symm]
                      rfl
                    | cons i0 il =>
                      rw [show bitsI h3 (numG (.int nz)) (strG (.str sw1)) = i0 :: il from hb] at t3
                      exact .inr ⟨by rw [e3]; exact .inr (.inl ⟨_, t3.sq, rfl⟩), bc, e3, t3⟩
                rcases hA with ⟨tv, eb⟩ | ⟨tv, bc, e3, t3⟩
                · refine ⟨false, tv, iteF ⟨(by show 1 ≤ sizeLine; decide), fun t H10 s10 nt pt => ?_⟩⟩
                  have hL10 := s10 _ _ hL9
                  refine ⟨_, rfl, L, _, 0, w0, rfl, rfl, SqL.of hL10, rfl, nz, 1, ew0, rfl, ?_⟩
                  refine ⟨_, rfl, L, _, 1, w1, rfl, rfl, SqL.of hL10, rfl, (by rw [ew1]; rfl), .inr ⟨_, rfl, ?_⟩⟩
                  have eN : (nz - 1) * (if decide (w1 = V.str "tree") = true then 1 else 0) = bitsN nz sw1 := by
                    rw [ew1]
                    unfold bitsN
                    by_cases et : sw1 = "tree"
                    · rw [if_pos et, if_pos (by rw [et]; exact decide_eq_true rfl)]
                      omega
                    · rw [if_neg et, if_neg (by rw [decide_eq_true_eq]; exact fun z => et (V.str.inj z))]
                      omega
                  have hb : 0 ≤ bitsN nz sw1 ∧ bitsN nz sw1 ≤ 1000 := by
                    unfold bitsN
                    split <;> omega
                  refine ⟨nz - 1, _, rfl, rfl, .inl ⟨by omega, by omega⟩, ?_⟩
                  refine ⟨t, bitsN nz sw1, [V.int 0], rfl, congrArg V.int eN, pt, (by simp), hb.1, hb.2, (by show 1 ≤ 1000; decide), fun bc H11 s11 hv => ?_⟩
                  rw [rep_ints] at hv
                  refine rest _ _ ⟨bc, rfl, s10.trans s11, ?_⟩
                  rw [eb]
                  exact .inl hv
                · exact ⟨true, tv, iteT (rest _ _ ⟨bc, e3, Same.refl _, t3⟩)⟩
              case hR2 =>
                rintro _ H10 ⟨bc, rfl, s10, tbc⟩
                refine ⟨(by show 2 ≤ sizeLine; decide), fun tl H11 s11 ntl ptl => ?_⟩
                have s811 := s9.trans (s10.trans s11)
                have hx11 := s811 _ _ hx
                refine ⟨_, rfl, x, dx, _, rfl, hx11, rfl, x, dx, _, .ref as, .ref bs, rfl, hx11, rfl, rfl, fun t1 H12 s12 nt1 pt1 => ?_⟩
                have hx12 := s12 _ _ hx11
                refine ⟨_, rfl, x, dx, _, rfl, hx12, rfl, x, dx, _, w0, rfl, hx12, rfl, ?_⟩
                refine ⟨_, rfl, x, dx, _, rfl, hx12, rfl, x, dx, _, w1, rfl, hx12, rfl, ?_⟩
                refine ⟨_, rfl, x, dx, _, rfl, hx12, rfl, x, dx, _, .int 0, .int 0, rfl, hx12, rfl, rfl, fun t2 H13 s13 nt2 pt2 => ?_⟩
                refine ⟨(by show 4 ≤ sizeLine; decide), fun l1 nl1 => ?_⟩
                have s14 := same_upd (o := .lst [V.ref t1, w0, w1, V.ref t2]) nl1
                have s814 := s811.trans ((s12.trans s13).trans s14)
                have hL14 := s814 _ _ hL8
                refine ⟨_, rfl, _, rfl, L, _, 0, w0, rfl, rfl, SqL.of hL14, rfl, _, rfl, L, _, 1, w1, rfl, rfl, SqL.of hL14, rfl, (by show 2 ≤ sizeLine; decide), fun t3 H15 s15 nt3 pt3 => ?_⟩
                refine ⟨(by show 4 ≤ sizeLine; decide), fun l2 nl2 => ?_⟩
                have s16 := same_upd (o := .lst [V.ref tl, w0, w1, V.ref t3]) nl2
                have lk := last_ok (n := nz) (s := sw1) (ss := slotsI h2 nz) (bs := bitsI h3 nz sw1) (way_ok p1)
                have s1216 := (s13.trans s14).trans (s15.trans s16)
                have s816 := s814.trans (s15.trans s16)
                have s1116 := s12.trans s1216
                have d0 : ∀ {Hn : Hp}, Dp K Hn w0 (.int nz) := by rw [ew0]; exact .int nz
                have d1 : ∀ {Hn : Hp}, Dp K Hn w1 (.str sw1) := by rw [ew1]; exact .str sw1
                refine ⟨lastD nz sw1 (slotsI h2 nz) (bitsI h3 nz sw1), lastD nz sw1 (slotsI h2 nz) (bitsI h3 nz sw1), .lst (SqL.of ((s15.trans s16) _ _ (upd_same (a := l1)))) (.cons (dp_lay (pt1.same s1216) (ta.same s816) (tb.same s816)) (.cons d0 (.cons d1 (.cons (dp_cnt (pt2.same (s14.trans (s15.trans s16)))) .nil)))),
                  .lst (SqL.of upd_same) (.cons (dp_lay (ptl.same s1116) (tac.same ((s10.trans s11).trans s1116)) (tbc.same (s11.trans s1116))) (.cons d0 (.cons d1 (.cons (dp_cnt (pt3.same s16)) .nil)))), lk.1, lk.1, _, rfl, iteB (fun z => absurd z (by rw [lk.2]; decide)) (fun _ => ?_)⟩
                obtain ⟨r1, r2, r3⟩ := ended (s7.trans (s8.trans s816))
                exact ⟨_, _, _, _, _, _, _, _, _, rfl, r1, r2, r3⟩
end
end Su
namespace Su
open PySem PySem.Spec PyProof.Rows L2
theorem at_mk {K : PySem.W.Frag} {h : Heap} {mg : Str → Option Value} {x : Str} {st : Stmt} {f : Addr} {fd : FuncData} {ps : List Str} (X : K.In h) (G : h.Ns mainGlobals mg) (a : PySem.W.nsIn K mainGlobals x = some (some (.ref f))) (F : Fun K x x st f fd) (b : Binds K fd ps []) : At K mg x st ps :=
  ⟨f, fd, F, PySem.W.mg_of X G a, b⟩
theorem all_mk {l : PySem.W.OpenLaw} {w : World} {K : PySem.W.Frag} {h : Heap} {mg : Str → Option Value} {fa f1 f2 f3 f4 f5 f6 f7 f8 f9 f10 f11 f12 f13 f14 f15 f16 f17 f18 f19 f20 f21 f22 f23 : Addr} {g1 g2 g3 : Tok} {C1 : Addr} {cdC1 : ClassData} {fI1 cda1 cc1 : Addr} {oc_1 doc_1 pm_1 ct_1 ccl1 cl_1 : Value} {od_1 an_1 cdd1 cld1 : Option Addr} {q_1 t_1 file1 : Str} {osl1 ccs1 csl1 : Array (Option Value)} {vs1 : Array Value} {tf1 : Tok} {p1_1 p2_1 r1_1 r2_1 r3_1 r4_1 r5_1 r6_1 q1_1 q2_1 q3_1 q4_1 : Pos} {C3 : Addr} {C4 C5 C6 : Addr} {aW aZ : Addr} {u1 u2 u3 u4 u5 u6 u7 : Tok} {dW dZ : Option Addr} {nW nZ : Nat} {slW slZ : Array (Option Value)} {CS : Addr} {fCSinit : Addr} {ocCSinit kVCSinit dcCSinit pmCSinit cdCSinit ctCSinit : Value} {odCSinit anCSinit : Option Addr} {slCSinit : Array (Option Value)} {aDCSinit : Addr} {dDCSinit : Option Addr} {nDCSinit : Nat} {sDCSinit : Array (Option Value)} {tkCSinit_0 tkCSinit_1 : Tok} {fCSsize : Addr} {ocCSsize kVCSsize dcCSsize pmCSsize cdCSsize ctCSsize : Value} {odCSsize anCSsize : Option Addr} {slCSsize : Array (Option Value)} {fCSway : Addr} {ocCSway kVCSway dcCSway pmCSway cdCSway ctCSway : Value} {odCSway anCSway : Option Addr} {slCSway : Array (Option Value)} {fCSlay : Addr} {ocCSlay kVCSlay dcCSlay pmCSlay cdCSlay ctCSlay : Value} {odCSlay anCSlay : Option Addr} {slCSlay : Array (Option Value)} {fCScounts : Addr} {ocCScounts kVCScounts dcCScounts pmCScounts cdCScounts ctCScounts : Value} {odCScounts anCScounts : Option Addr} {slCScounts : Array (Option Value)} (X : K.In h) (G : h.Ns mainGlobals mg) (hfa : mg "law" = some (.ref fa))
    {od1 an1 od2 an2 od3 an3 od4 an4 od5 an5 od6 an6 od7 an7 od8 an8 od9 an9 od10 an10 od11 an11 od12 an12 od13 an13 od14 an14 od15 an15 od16 an16 od17 an17 od18 an18 od19 an19 od20 an20 od21 an21 od22 an22 od23 an23 : Option Addr} {sl1 sl2 sl3 sl4 sl5 sl6 sl7 sl8 sl9 sl10 sl11 sl12 sl13 sl14 sl15 sl16 sl17 sl18 sl19 sl20 sl21 sl22 sl23 : Array (Option Value)} {oc1 kV1 dc1 pm1 cd1 ct1 oc2 kV2 dc2 pm2 cd2 ct2 oc3 kV3 dc3 pm3 cd3 ct3 oc4 kV4 dc4 pm4 cd4 ct4 oc5 kV5 dc5 pm5 cd5 ct5 oc6 kV6 dc6 pm6 cd6 ct6 oc7 kV7 dc7 pm7 cd7 ct7 oc8 kV8 dc8 pm8 cd8 ct8 oc9 kV9 dc9 pm9 cd9 ct9 oc10 kV10 dc10 pm10 cd10 ct10 oc11 kV11 dc11 pm11 cd11 ct11 oc12 kV12 dc12 pm12 cd12 ct12 oc13 kV13 dc13 pm13 cd13 ct13 oc14 kV14 dc14 pm14 cd14 ct14 oc15 kV15 dc15 pm15 cd15 ct15 oc16 kV16 dc16 pm16 cd16 ct16 oc17 kV17 dc17 pm17 cd17 ct17 oc18 kV18 dc18 pm18 cd18 ct18 oc19 kV19 dc19 pm19 cd19 ct19 oc20 kV20 dc20 pm20 cd20 ct20 oc21 kV21 dc21 pm21 cd21 ct21 oc22 kV22 dc22 pm22 cd22 ct22 oc23 kV23 dc23 pm23 cd23 ct23 : Value}
    (a1 : PySem.W.nsIn K mainGlobals "is_whole" = some (some (.ref f1))) (l1 : K.lookup f1 = some ⟨oc1, od1, .func (PySem.W.fnOf "is_whole" "is_whole" (defArgs sIsWhole) (defBody sIsWhole) (defScope sIsWhole) .none kV1 dc1 pm1 an1 cd1 ct1), sl1⟩) (c1 : PySem.W.codeIn K cd1 "is_whole" = true) (k1 : PySem.W.keepIn K (.ref f1) = true)
    (a2 : PySem.W.nsIn K mainGlobals "is_room" = some (some (.ref f2))) (l2 : K.lookup f2 = some ⟨oc2, od2, .func (PySem.W.fnOf "is_room" "is_room" (defArgs sIsRoom) (defBody sIsRoom) (defScope sIsRoom) .none kV2 dc2 pm2 an2 cd2 ct2), sl2⟩) (c2 : PySem.W.codeIn K cd2 "is_room" = true) (k2 : PySem.W.keepIn K (.ref f2) = true)
    (a3 : PySem.W.nsIn K mainGlobals "is_way" = some (some (.ref f3))) (l3 : K.lookup f3 = some ⟨oc3, od3, .func (PySem.W.fnOf "is_way" "is_way" (defArgs sIsWay) (defBody sIsWay) (defScope sIsWay) .none kV3 dc3 pm3 an3 cd3 ct3), sl3⟩) (c3 : PySem.W.codeIn K cd3 "is_way" = true) (k3 : PySem.W.keepIn K (.ref f3) = true)
    (a4 : PySem.W.nsIn K mainGlobals "is_size" = some (some (.ref f4))) (l4 : K.lookup f4 = some ⟨oc4, od4, .func (PySem.W.fnOf "is_size" "is_size" (defArgs sIsSize) (defBody sIsSize) (defScope sIsSize) .none kV4 dc4 pm4 an4 cd4 ct4), sl4⟩) (c4 : PySem.W.codeIn K cd4 "is_size" = true) (k4 : PySem.W.keepIn K (.ref f4) = true)
    (a5 : PySem.W.nsIn K mainGlobals "how_many_bits" = some (some (.ref f5))) (l5 : K.lookup f5 = some ⟨oc5, od5, .func (PySem.W.fnOf "how_many_bits" "how_many_bits" (defArgs sHowMany) (defBody sHowMany) (defScope sHowMany) .none kV5 dc5 pm5 an5 cd5 ct5), sl5⟩) (c5 : PySem.W.codeIn K cd5 "how_many_bits" = true) (k5 : PySem.W.keepIn K (.ref f5) = true)
    (a6 : PySem.W.nsIn K mainGlobals "is_slot" = some (some (.ref f6))) (l6 : K.lookup f6 = some ⟨oc6, od6, .func (PySem.W.fnOf "is_slot" "is_slot" (defArgs sIsSlot) (defBody sIsSlot) (defScope sIsSlot) .none kV6 dc6 pm6 an6 cd6 ct6), sl6⟩) (c6 : PySem.W.codeIn K cd6 "is_slot" = true) (k6 : PySem.W.keepIn K (.ref f6) = true)
    (a7 : PySem.W.nsIn K mainGlobals "is_bit" = some (some (.ref f7))) (l7 : K.lookup f7 = some ⟨oc7, od7, .func (PySem.W.fnOf "is_bit" "is_bit" (defArgs sIsBit) (defBody sIsBit) (defScope sIsBit) .none kV7 dc7 pm7 an7 cd7 ct7), sl7⟩) (c7 : PySem.W.codeIn K cd7 "is_bit" = true) (k7 : PySem.W.keepIn K (.ref f7) = true)
    (a8 : PySem.W.nsIn K mainGlobals "are_slots" = some (some (.ref f8))) (l8 : K.lookup f8 = some ⟨oc8, od8, .func (PySem.W.fnOf "are_slots" "are_slots" (defArgs sAreSlots) (defBody sAreSlots) (defScope sAreSlots) .none kV8 dc8 pm8 an8 cd8 ct8), sl8⟩) (c8 : PySem.W.codeIn K cd8 "are_slots" = true) (k8 : PySem.W.keepIn K (.ref f8) = true)
    (a9 : PySem.W.nsIn K mainGlobals "are_bits" = some (some (.ref f9))) (l9 : K.lookup f9 = some ⟨oc9, od9, .func (PySem.W.fnOf "are_bits" "are_bits" (defArgs sAreBits) (defBody sAreBits) (defScope sAreBits) .none kV9 dc9 pm9 an9 cd9 ct9), sl9⟩) (c9 : PySem.W.codeIn K cd9 "are_bits" = true) (k9 : PySem.W.keepIn K (.ref f9) = true)
    (a10 : PySem.W.nsIn K mainGlobals "wrong_part" = some (some (.ref f10))) (l10 : K.lookup f10 = some ⟨oc10, od10, .func (PySem.W.fnOf "wrong_part" "wrong_part" (defArgs s_wrong_part) (defBody s_wrong_part) (defScope s_wrong_part) .none kV10 dc10 pm10 an10 cd10 ct10), sl10⟩) (c10 : PySem.W.codeIn K cd10 "wrong_part" = true) (k10 : PySem.W.keepIn K (.ref f10) = true)
    (a11 : PySem.W.nsIn K mainGlobals "_law_pool" = some (some (.ref f11))) (l11 : K.lookup f11 = some ⟨oc11, od11, .func (PySem.W.fnOf "_law_pool" "_law_pool" (defArgs s_law_pool) (defBody s_law_pool) (defScope s_law_pool) .none kV11 dc11 pm11 an11 cd11 ct11), sl11⟩) (c11 : PySem.W.codeIn K cd11 "_law_pool" = true) (k11 : PySem.W.keepIn K (.ref f11) = true)
    (a12 : PySem.W.nsIn K mainGlobals "_law_take" = some (some (.ref f12))) (l12 : K.lookup f12 = some ⟨oc12, od12, .func (PySem.W.fnOf "_law_take" "_law_take" (defArgs s_law_take) (defBody s_law_take) (defScope s_law_take) .none kV12 dc12 pm12 an12 cd12 ct12), sl12⟩) (c12 : PySem.W.codeIn K cd12 "_law_take" = true) (k12 : PySem.W.keepIn K (.ref f12) = true)
    (a13 : PySem.W.nsIn K mainGlobals "_law_whole" = some (some (.ref f13))) (l13 : K.lookup f13 = some ⟨oc13, od13, .func (PySem.W.fnOf "_law_whole" "_law_whole" (defArgs sWhole) (defBody sWhole) (defScope sWhole) .none kV13 dc13 pm13 an13 cd13 ct13), sl13⟩) (c13 : PySem.W.codeIn K cd13 "_law_whole" = true) (k13 : PySem.W.keepIn K (.ref f13) = true)
    (a14 : PySem.W.nsIn K mainGlobals "_law_picked" = some (some (.ref f14))) (l14 : K.lookup f14 = some ⟨oc14, od14, .func (PySem.W.fnOf "_law_picked" "_law_picked" (defArgs s_law_picked) (defBody s_law_picked) (defScope s_law_picked) .none kV14 dc14 pm14 an14 cd14 ct14), sl14⟩) (c14 : PySem.W.codeIn K cd14 "_law_picked" = true) (k14 : PySem.W.keepIn K (.ref f14) = true)
    (a15 : PySem.W.nsIn K mainGlobals "_law_places" = some (some (.ref f15))) (l15 : K.lookup f15 = some ⟨oc15, od15, .func (PySem.W.fnOf "_law_places" "_law_places" (defArgs sPlaces) (defBody sPlaces) (defScope sPlaces) .none kV15 dc15 pm15 an15 cd15 ct15), sl15⟩) (c15 : PySem.W.codeIn K cd15 "_law_places" = true) (k15 : PySem.W.keepIn K (.ref f15) = true)
    (a16 : PySem.W.nsIn K mainGlobals "_law_sort" = some (some (.ref f16))) (l16 : K.lookup f16 = some ⟨oc16, od16, .func (PySem.W.fnOf "_law_sort" "_law_sort" (defArgs sSort) (defBody sSort) (defScope sSort) .none kV16 dc16 pm16 an16 cd16 ct16), sl16⟩) (c16 : PySem.W.codeIn K cd16 "_law_sort" = true) (k16 : PySem.W.keepIn K (.ref f16) = true)
    (a17 : PySem.W.nsIn K mainGlobals "_law_big" = some (some (.ref f17))) (l17 : K.lookup f17 = some ⟨oc17, od17, .func (PySem.W.fnOf "_law_big" "_law_big" (defArgs sBig) (defBody sBig) (defScope sBig) .none kV17 dc17 pm17 an17 cd17 ct17), sl17⟩) (c17 : PySem.W.codeIn K cd17 "_law_big" = true) (k17 : PySem.W.keepIn K (.ref f17) = true)
    (a18 : PySem.W.nsIn K mainGlobals "_law_cells" = some (some (.ref f18))) (l18 : K.lookup f18 = some ⟨oc18, od18, .func (PySem.W.fnOf "_law_cells" "_law_cells" (defArgs sCells) (defBody sCells) (defScope sCells) .none kV18 dc18 pm18 an18 cd18 ct18), sl18⟩) (c18 : PySem.W.codeIn K cd18 "_law_cells" = true) (k18 : PySem.W.keepIn K (.ref f18) = true)
    (a19 : PySem.W.nsIn K mainGlobals "_law_marks" = some (some (.ref f19))) (l19 : K.lookup f19 = some ⟨oc19, od19, .func (PySem.W.fnOf "_law_marks" "_law_marks" (defArgs sMarks) (defBody sMarks) (defScope sMarks) .none kV19 dc19 pm19 an19 cd19 ct19), sl19⟩) (c19 : PySem.W.codeIn K cd19 "_law_marks" = true) (k19 : PySem.W.keepIn K (.ref f19) = true)
    (a20 : PySem.W.nsIn K mainGlobals "_law_part" = some (some (.ref f20))) (l20 : K.lookup f20 = some ⟨oc20, od20, .func (PySem.W.fnOf "_law_part" "_law_part" (defArgs s_law_part) (defBody s_law_part) (defScope s_law_part) .none kV20 dc20 pm20 an20 cd20 ct20), sl20⟩) (c20 : PySem.W.codeIn K cd20 "_law_part" = true) (k20 : PySem.W.keepIn K (.ref f20) = true)
    (a21 : PySem.W.nsIn K mainGlobals "_law_refused" = some (some (.ref f21))) (l21 : K.lookup f21 = some ⟨oc21, od21, .func (PySem.W.fnOf "_law_refused" "_law_refused" (defArgs s_law_refused) (defBody s_law_refused) (defScope s_law_refused) .none kV21 dc21 pm21 an21 cd21 ct21), sl21⟩) (c21 : PySem.W.codeIn K cd21 "_law_refused" = true) (k21 : PySem.W.keepIn K (.ref f21) = true)
    (a22 : PySem.W.nsIn K mainGlobals "_law_bent" = some (some (.ref f22))) (l22 : K.lookup f22 = some ⟨oc22, od22, .func (PySem.W.fnOf "_law_bent" "_law_bent" (defArgs sBent) (defBody sBent) (defScope sBent) .none kV22 dc22 pm22 an22 cd22 ct22), sl22⟩) (c22 : PySem.W.codeIn K cd22 "_law_bent" = true) (k22 : PySem.W.keepIn K (.ref f22) = true)
    (a23 : PySem.W.nsIn K mainGlobals "law" = some (some (.ref f23))) (l23 : K.lookup f23 = some ⟨oc23, od23, .func (PySem.W.fnOf "law" "law" (defArgs sLaw) (defBody sLaw) (defScope sLaw) .none kV23 dc23 pm23 an23 cd23 ct23), sl23⟩) (c23 : PySem.W.codeIn K cd23 "law" = true) (k23 : PySem.W.keepIn K (.ref f23) = true)
    (m1 : PySem.W.nsIn K mainGlobals "LAST_ROOM" = some (some (.int 99 g1)))
    (m2 : PySem.W.nsIn K mainGlobals "MOST_SLOTS" = some (some (.int 8 g2)))
    (m3 : PySem.W.nsIn K mainGlobals "EMPTY" = some (some (.int (-1) g3)))
    (eg1 : PySem.W.nsIn K mainGlobals "NoShelf" = some (some (.ref C1)))
    (ek1 : PySem.W.keepIn K (.ref C1) = true)
    (ex1 : PySem.W.subIn K (.ref C1) (.type "BaseException") = some true)
    (et1 : PySem.W.typeIn K (.ref C1) = some (.type "type"))
    (ec1 : PySem.W.clsIn K C1 = some cdC1)
    (ga1 : PySem.W.findIn K (.ref C1) "__getattribute__" = some (some (.builtin "BaseException.__getattribute__")))
    (gg1 : PySem.W.findIn K (.ref C1) "__getattr__" = some none)
    (gc1 : PySem.W.findIn K (.ref C1) "__class__" = some (some (.builtin "object.__class__")))
    (mo1 : PySem.W.mroIn K C1 (.type "object") = some true)
    (ed1 : PySem.W.hasDictIn K C1 = true)
    (ei1 : PySem.W.excInitIn K C1 [.type "ValueError", .type "Exception", .type "BaseException", .type "object"] "ValueError.__new__" = true)
    (eo1 : PySem.W.excOver K C1 [.type "ValueError", .type "Exception", .type "BaseException", .type "object"] = true)
    (es1 : PySem.W.findIn K (.ref C1) "__setattr__" = some (some (.builtin "object.__setattr__")))
    (en1 : PySem.W.findIn K (.ref C1) "part" = some none)
    (ef1 : PySem.W.findIn K (.ref C1) "__init__" = some (some (.ref fI1)))
    (eh1 : PySem.W.isFn K (.ref fI1) = true)
    (ev1 : PySem.W.subIn K (.ref C1) (.type "ValueError") = some true)
    (eu1 : PySem.W.ks_superIn K C1 C1 "__init__" = some (some (.builtin "ValueError.__init__")))
    (em1 : PySem.W.mroIn K C1 (.ref C1) = some true)
    (el1 : K.lookup fI1 = some ⟨oc_1, od_1, .func (PySem.W.ksFn "__init__" q_1 (XC.inA "part" p1_1 p2_1) (XC.inB "part" t_1 r1_1 r2_1 r3_1 r4_1 r5_1 r6_1 q1_1 q2_1 q3_1 q4_1) (XC.inS "part") .none .none doc_1 pm_1 an_1 (.ref cda1) ct_1 cc1), osl1⟩)
    (eq1 : PySem.W.codeIn K (.ref cda1) q_1 = true)
    (ew1 : K.lookup cda1 = some ⟨ccl1, cdd1, .fields vs1, ccs1⟩)
    (ey1 : vs1[2]? = some (.str file1 tf1))
    (ez1 : ((l.prog.main.file : Str) == file1) = true)
    (ea1 : (r3_1.endLine == r5_1.line) = true)
    (eb1 : K.lookup cc1 = some ⟨cl_1, cld1, .cell (some (.ref C1)), csl1⟩)
    (eg3 : PySem.W.nsIn K mainGlobals "HandError" = some (some (.ref C3)))
    (spG : PySem.W.specialIn K (.builtin "object.__class__") "__get__" = some (some (.builtin "getset_descriptor.__get__")))
    (tkG : PySem.W.takesIn K (.builtin "object.__class__") = some true)
    (nsG : PySem.W.nsIn K mainGlobals "super" = some none)
    (opG : PySem.W.nsIn K cStatics "thirdparty.any" = some none)
    (ntG : (l.prog.main.scope.names.lookup ("super" : Str)).isSome = false)
    (eg4 : PySem.W.nsIn K mainGlobals "NoRun" = some (some (.ref C4)))
    (eg5 : PySem.W.nsIn K mainGlobals "NoWeb" = some (some (.ref C5)))
    (eg6 : PySem.W.nsIn K mainGlobals "TooMany" = some (some (.ref C6)))
    (veN : PySem.W.nsIn K mainGlobals "ValueError" = some none)
    (xw : PySem.W.exmOne K (.ref C1) (.ref C3) = some true)
    (iww : PySem.W.kitOne K (.ref C1) (.ref C1) = some true)
    (iwv : PySem.W.kitOne K (.ref C1) (.type "ValueError") = some true)
    (iwo : PySem.W.kitAny K (.ref C1) [.ref C4, .ref C5, .ref C6] = some false)
    (mW : PySem.W.nsIn K mainGlobals "WAYS" = some (some (.ref aW)))
    (mW2 : K.lookup aW = some ⟨.type "tuple", dW, .seq #[.str "last" u1, .str "first" u2, .str "tree" u3] nW, slW⟩)
    (mZ : PySem.W.nsIn K mainGlobals "TREE_SIZES" = some (some (.ref aZ)))
    (mZ2 : K.lookup aZ = some ⟨.type "tuple", dZ, .seq #[.int 1 u4, .int 2 u5, .int 4 u6, .int 8 u7] nZ, slZ⟩)
    (cgCS : PySem.W.nsIn K mainGlobals "Shelf" = some (some (.ref CS)))
    (ckCS : PySem.W.keepIn K (.ref CS) = true)
    (cmCS : PySem.W.makesIn K CS = true)
    (cpCS : PySem.W.plainGet K CS Str.empty = true)
    (cdCS : PySem.W.hasDictIn K CS = true)
    (coCS : PySem.W.plainOver K CS = true)
    (csCS : PySem.W.findIn K (.ref CS) "__setattr__" = some (some (.builtin "object.__setattr__")))
    (cfCS0 : PySem.W.findIn K (.ref CS) "many" = some none)
    (cfCS1 : PySem.W.findIn K (.ref CS) "kept_by" = some none)
    (cfCS2 : PySem.W.findIn K (.ref CS) "slots" = some none)
    (cfCS3 : PySem.W.findIn K (.ref CS) "bits" = some none)
    (cfCS4 : PySem.W.findIn K (.ref CS) "near" = some none)
    (cfCS5 : PySem.W.findIn K (.ref CS) "far" = some none)
    (maCSinit : PySem.W.findIn K (.ref CS) "__init__" = some (some (.ref fCSinit)))
    (miCSinit : PySem.W.isFn K (.ref fCSinit) = true)
    (mkCSinit : PySem.W.keepIn K (.ref fCSinit) = true)
    (mlCSinit : K.lookup fCSinit = some ⟨ocCSinit, odCSinit, .func (PySem.W.fnOf "__init__" "Shelf.__init__" (defArgs sS_init) (defBody sS_init) (defScope sS_init) (.ref aDCSinit) kVCSinit dcCSinit pmCSinit anCSinit cdCSinit ctCSinit), slCSinit⟩)
    (mcCSinit : PySem.W.codeIn K cdCSinit "Shelf.__init__" = true)
    (mqCSinit : K.lookup aDCSinit = some ⟨.type "tuple", dDCSinit, .seq #[.int 4 tkCSinit_0, .str "last" tkCSinit_1, .none, .none] nDCSinit, sDCSinit⟩)
    (maCSsize : PySem.W.findIn K (.ref CS) "size" = some (some (.ref fCSsize)))
    (miCSsize : PySem.W.isFn K (.ref fCSsize) = true)
    (mkCSsize : PySem.W.keepIn K (.ref fCSsize) = true)
    (mlCSsize : K.lookup fCSsize = some ⟨ocCSsize, odCSsize, .func (PySem.W.fnOf "size" "Shelf.size" (defArgs sS_size) (defBody sS_size) (defScope sS_size) .none kVCSsize dcCSsize pmCSsize anCSsize cdCSsize ctCSsize), slCSsize⟩)
    (mcCSsize : PySem.W.codeIn K cdCSsize "Shelf.size" = true)
    (maCSway : PySem.W.findIn K (.ref CS) "way" = some (some (.ref fCSway)))
    (miCSway : PySem.W.isFn K (.ref fCSway) = true)
    (mkCSway : PySem.W.keepIn K (.ref fCSway) = true)
    (mlCSway : K.lookup fCSway = some ⟨ocCSway, odCSway, .func (PySem.W.fnOf "way" "Shelf.way" (defArgs sS_way) (defBody sS_way) (defScope sS_way) .none kVCSway dcCSway pmCSway anCSway cdCSway ctCSway), slCSway⟩)
    (mcCSway : PySem.W.codeIn K cdCSway "Shelf.way" = true)
    (maCSlay : PySem.W.findIn K (.ref CS) "lay" = some (some (.ref fCSlay)))
    (miCSlay : PySem.W.isFn K (.ref fCSlay) = true)
    (mkCSlay : PySem.W.keepIn K (.ref fCSlay) = true)
    (mlCSlay : K.lookup fCSlay = some ⟨ocCSlay, odCSlay, .func (PySem.W.fnOf "lay" "Shelf.lay" (defArgs sS_lay) (defBody sS_lay) (defScope sS_lay) .none kVCSlay dcCSlay pmCSlay anCSlay cdCSlay ctCSlay), slCSlay⟩)
    (mcCSlay : PySem.W.codeIn K cdCSlay "Shelf.lay" = true)
    (maCScounts : PySem.W.findIn K (.ref CS) "counts" = some (some (.ref fCScounts)))
    (miCScounts : PySem.W.isFn K (.ref fCScounts) = true)
    (mkCScounts : PySem.W.keepIn K (.ref fCScounts) = true)
    (mlCScounts : K.lookup fCScounts = some ⟨ocCScounts, odCScounts, .func (PySem.W.fnOf "counts" "Shelf.counts" (defArgs sS_counts) (defBody sS_counts) (defScope sS_counts) .none kVCScounts dcCScounts pmCScounts anCScounts cdCScounts ctCScounts), slCScounts⟩)
    (mcCScounts : PySem.W.codeIn K cdCScounts "Shelf.counts" = true)
    (z1 : PySem.W.nsIn K mainGlobals "len" = some none) (z2 : PySem.W.nsIn K mainGlobals "sum" = some none) (z3 : PySem.W.nsIn K mainGlobals "abs" = some none) (z4 : PySem.W.nsIn K mainGlobals "int" = some none) (z5 : PySem.W.nsIn K mainGlobals "min" = some none) (z6 : PySem.W.nsIn K mainGlobals "max" = some none) (z7 : PySem.W.nsIn K mainGlobals "range" = some none) (z8 : PySem.W.nsIn K mainGlobals "sorted" = some none) (z9 : PySem.W.nsIn K mainGlobals "list" = some none) (z10 : PySem.W.nsIn K mainGlobals "tuple" = some none) (z11 : PySem.W.nsIn K mainGlobals "repr" = some none) (z12 : PySem.W.nsIn K mainGlobals "set" = some none) (z13 : PySem.W.nsIn K mainGlobals "all" = some none) (z14 : PySem.W.nsIn K mainGlobals "isinstance" = some none) (z15 : PySem.W.nsIn K mainGlobals "str" = some none) (z16 : PySem.W.nsIn K mainGlobals "bool" = some none) (z17 : PySem.W.nsIn K mainGlobals "reversed" = some none) (z18 : PySem.W.nsIn K mainGlobals "enumerate" = some none) (z19 : PySem.W.nsIn K mainGlobals "zip" = some none) (z20 : PySem.W.nsIn K mainGlobals "any" = some none) (z21 : PySem.W.nsIn K mainGlobals "dict" = some none) :
    ∃ fd : FuncData, (∀ (s : Shared) (v : Value), BindsTo s fd ⟨[v], []⟩ [("_law_script", v)]) ∧ ∀ base : Heap, K.In base → base.Ns mainGlobals mg → FnG l.prog w K mg base CX0 9 fa fd ["_law_script"] (spLaw K) := by
  have e := hfa.symm.trans (PySem.W.mg_of X G a23)
  cases e
  have B : Bt mg := ⟨PySem.W.mg_none_of X G z1, PySem.W.mg_none_of X G z2, PySem.W.mg_none_of X G z3, PySem.W.mg_none_of X G z4, PySem.W.mg_none_of X G z5, PySem.W.mg_none_of X G z6, PySem.W.mg_none_of X G z7, PySem.W.mg_none_of X G z8, PySem.W.mg_none_of X G z9, PySem.W.mg_none_of X G z10, PySem.W.mg_none_of X G z11, PySem.W.mg_none_of X G z12, PySem.W.mg_none_of X G z13, PySem.W.mg_none_of X G z14, PySem.W.mg_none_of X G z15, PySem.W.mg_none_of X G z16, PySem.W.mg_none_of X G z17, PySem.W.mg_none_of X G z18, PySem.W.mg_none_of X G z19, PySem.W.mg_none_of X G z20, PySem.W.mg_none_of X G z21⟩
  have F1 := fun_mk (st := sIsWhole) l1 c1 k1
  have b1 := F1.binds (ps := ["thing"]) fun _ _ _ _ _ _ us hl => match us, hl with | [_], _ => rfl
  have T1 := at_mk X G a1 F1 b1
  have F2 := fun_mk (st := sIsRoom) l2 c2 k2
  have b2 := F2.binds (ps := ["thing"]) fun _ _ _ _ _ _ us hl => match us, hl with | [_], _ => rfl
  have T2 := at_mk X G a2 F2 b2
  have F3 := fun_mk (st := sIsWay) l3 c3 k3
  have b3 := F3.binds (ps := ["thing"]) fun _ _ _ _ _ _ us hl => match us, hl with | [_], _ => rfl
  have T3 := at_mk X G a3 F3 b3
  have F4 := fun_mk (st := sIsSize) l4 c4 k4
  have b4 := F4.binds (ps := ["thing", "way"]) fun _ _ _ _ _ _ us hl => match us, hl with | [_, _], _ => rfl
  have T4 := at_mk X G a4 F4 b4
  have F5 := fun_mk (st := sHowMany) l5 c5 k5
  have b5 := F5.binds (ps := ["size", "way"]) fun _ _ _ _ _ _ us hl => match us, hl with | [_, _], _ => rfl
  have T5 := at_mk X G a5 F5 b5
  have F6 := fun_mk (st := sIsSlot) l6 c6 k6
  have b6 := F6.binds (ps := ["thing"]) fun _ _ _ _ _ _ us hl => match us, hl with | [_], _ => rfl
  have T6 := at_mk X G a6 F6 b6
  have F7 := fun_mk (st := sIsBit) l7 c7 k7
  have b7 := F7.binds (ps := ["thing"]) fun _ _ _ _ _ _ us hl => match us, hl with | [_], _ => rfl
  have T7 := at_mk X G a7 F7 b7
  have F8 := fun_mk (st := sAreSlots) l8 c8 k8
  have b8 := F8.binds (ps := ["thing", "size"]) fun _ _ _ _ _ _ us hl => match us, hl with | [_, _], _ => rfl
  have T8 := at_mk X G a8 F8 b8
  have F9 := fun_mk (st := sAreBits) l9 c9 k9
  have b9 := F9.binds (ps := ["thing", "size", "way"]) fun _ _ _ _ _ _ us hl => match us, hl with | [_, _, _], _ => rfl
  have T9 := at_mk X G a9 F9 b9
  have F10 := fun_mk (st := s_wrong_part) l10 c10 k10
  have b10 := F10.binds (ps := ["size", "way", "slots", "bits"]) fun _ _ _ _ _ _ us hl => match us, hl with | [_, _, _, _], _ => rfl
  have T10 := at_mk X G a10 F10 b10
  have F11 := fun_mk (st := s_law_pool) l11 c11 k11
  have b11 := F11.binds (ps := ["_law_script", "_law_k"]) fun _ _ _ _ _ _ us hl => match us, hl with | [_, _], _ => rfl
  have T11 := at_mk X G a11 F11 b11
  have F12 := fun_mk (st := s_law_take) l12 c12 k12
  have b12 := F12.binds (ps := ["_law_pool_here", "_law_many"]) fun _ _ _ _ _ _ us hl => match us, hl with | [_, _], _ => rfl
  have T12 := at_mk X G a12 F12 b12
  have F13 := fun_mk (st := sWhole) l13 c13 k13
  have b13 := F13.binds (ps := ["_law_thing"]) fun _ _ _ _ _ _ us hl => match us, hl with | [_], _ => rfl
  have T13 := at_mk X G a13 F13 b13
  have F14 := fun_mk (st := s_law_picked) l14 c14 k14
  have b14 := F14.binds (ps := ["_law_pool_here", "_law_some", "_law_many"]) fun _ _ _ _ _ _ us hl => match us, hl with | [_, _, _], _ => rfl
  have T14 := at_mk X G a14 F14 b14
  have F15 := fun_mk (st := sPlaces) l15 c15 k15
  have b15 := F15.binds (ps := ["_law_pool_here", "_law_many"]) fun _ _ _ _ _ _ us hl => match us, hl with | [_, _], _ => rfl
  have T15 := at_mk X G a15 F15 b15
  have F16 := fun_mk (st := sSort) l16 c16 k16
  have b16 := F16.binds (ps := ["_law_pool_here"]) fun _ _ _ _ _ _ us hl => match us, hl with | [_], _ => rfl
  have T16 := at_mk X G a16 F16 b16
  have F17 := fun_mk (st := sBig) l17 c17 k17
  have b17 := F17.binds (ps := ["_law_pool_here", "_law_sort_here"]) fun _ _ _ _ _ _ us hl => match us, hl with | [_, _], _ => rfl
  have T17 := at_mk X G a17 F17 b17
  have F18 := fun_mk (st := sCells) l18 c18 k18
  have b18 := F18.binds (ps := ["_law_pool_here", "_law_big_here", "_law_some"]) fun _ _ _ _ _ _ us hl => match us, hl with | [_, _, _], _ => rfl
  have T18 := at_mk X G a18 F18 b18
  have F19 := fun_mk (st := sMarks) l19 c19 k19
  have b19 := F19.binds (ps := ["_law_pool_here", "_law_big_here", "_law_sort_here"]) fun _ _ _ _ _ _ us hl => match us, hl with | [_, _, _], _ => rfl
  have T19 := at_mk X G a19 F19 b19
  have F20 := fun_mk (st := s_law_part) l20 c20 k20
  have b20 := F20.binds (ps := ["_law_big_here", "_law_sort_here", "_law_cells_here", "_law_marks_here"]) fun _ _ _ _ _ _ us hl => match us, hl with | [_, _, _, _], _ => rfl
  have T20 := at_mk X G a20 F20 b20
  have F21 := fun_mk (st := s_law_refused) l21 c21 k21
  have b21 := F21.binds (ps := ["_law_big_here", "_law_sort_here", "_law_cells_here", "_law_marks_here"]) fun _ _ _ _ _ _ us hl => match us, hl with | [_, _, _, _], _ => rfl
  have T21 := at_mk X G a21 F21 b21
  have F22 := fun_mk (st := sBent) l22 c22 k22
  have b22 := F22.binds (ps := ["_law_pool_here", "_law_four"]) fun _ _ _ _ _ _ us hl => match us, hl with | [_, _], _ => rfl
  have T22 := at_mk X G a22 F22 b22
  have F23 := fun_mk (st := sLaw) l23 c23 k23
  refine ⟨PySem.W.fnOf "law" "law" (defArgs sLaw) (defBody sLaw) (defScope sLaw) .none kV23 dc23 pm23 an23 cd23 ct23, fun s v => .of_eq rfl, fun base _ _ => ?_⟩
  have O1 : XC.Own l.prog K mg "NoShelf" "part" C1 fI1 "ValueError" "ValueError.__new__" "ValueError.__init__" [.type "ValueError", .type "Exception", .type "BaseException", .type "object"] := ⟨XC.fld_part, PySem.W.mg_of X G eg1, ei1, eo1, PySem.F.excBase_ValueError, PySem.F.store_ValueError, PySem.W.kxs_ValueError, es1, en1, ef1, eh1, ek1, ex1, et1, ed1, ev1, eu1, em1, PySem.W.mg_none_of X G nsG, opG, ntG, _, _, _, _, _, _, _, _, _, _, _, _, _, _, _, _, _, _, _, _, _, _, _, _, _, _, _, _, _, _, _, _, el1, eq1, ew1, ey1, ez1, ea1, eb1⟩
  have ES : ErrS K mg C1 C3 C4 C5 C6 := ⟨PySem.W.mg_of X G eg3, xw, PySem.W.mg_of X G eg1, PySem.W.mg_of X G eg4, PySem.W.mg_of X G eg5, PySem.W.mg_of X G eg6, PySem.W.mg_none_of X G veN, ⟨by rw [ec1]; rfl, ga1, gg1, ex1, gc1, spG, tkG, mo1, ed1⟩, en1, iww, iwv, iwo⟩
  have D : Gb K mg := ⟨⟨_, PySem.W.mg_of X G m1⟩, ⟨_, PySem.W.mg_of X G m2⟩, ⟨_, PySem.W.mg_of X G m3⟩, ⟨aW, PySem.W.mg_of X G mW, fun H => .inr ⟨_, _, _, mW2, rfl, rfl, by show 3 ≤ sizeLine; decide, .cons ⟨_, rfl⟩ (.cons ⟨_, rfl⟩ (.cons ⟨_, rfl⟩ .nil))⟩⟩, ⟨aZ, PySem.W.mg_of X G mZ, fun H => .inr ⟨_, _, _, mZ2, rfl, rfl, by show 4 ≤ sizeLine; decide, .cons ⟨_, rfl⟩ (.cons ⟨_, rfl⟩ (.cons ⟨_, rfl⟩ (.cons ⟨_, rfl⟩ .nil)))⟩⟩⟩
  have clsCS : Cls K CS := ⟨cpCS, cdCS, coCS, csCS⟩
  have FCSinit : FunD K "__init__" "Shelf.__init__" (defArgs sS_init) (defBody sS_init) (defScope sS_init) [.int 4, .str "last", .non, .non] [] fCSinit _ := ⟨⟨ocCSinit, odCSinit, _, kVCSinit, dcCSinit, pmCSinit, anCSinit, cdCSinit, ctCSinit, slCSinit, rfl, mlCSinit, mcCSinit, .inr ⟨by simp, aDCSinit, _, [.int 4 tkCSinit_0, .str "last" tkCSinit_1, .none, .none], nDCSinit, rfl, mqCSinit, rfl, .cons ⟨_, rfl⟩ (.cons ⟨_, rfl⟩ (.cons rfl (.cons rfl (.nil))))⟩, .inl rfl⟩, mkCSinit⟩
  have FCSsize := fun_mk (st := sS_size) mlCSsize mcCSsize mkCSsize
  have MCSsize : Meth K CS "size" fCSsize := ⟨maCSsize, miCSsize, mkCSsize⟩
  have FCSway := fun_mk (st := sS_way) mlCSway mcCSway mkCSway
  have MCSway : Meth K CS "way" fCSway := ⟨maCSway, miCSway, mkCSway⟩
  have FCSlay := fun_mk (st := sS_lay) mlCSlay mcCSlay mkCSlay
  have MCSlay : Meth K CS "lay" fCSlay := ⟨maCSlay, miCSlay, mkCSlay⟩
  have FCScounts := fun_mk (st := sS_counts) mlCScounts mcCScounts mkCScounts
  have MCScounts : Meth K CS "counts" fCScounts := ⟨maCScounts, miCScounts, mkCScounts⟩
  have SC : ShC K CS := ⟨clsCS, cfCS0, cfCS1, cfCS2, cfCS3, cfCS4, cfCS5⟩
  have v1 := ok_whole (P := l.prog) (w := w) (base := base) T1 B
  have v2 := ok_room (P := l.prog) (w := w) (base := base) T2 D v1
  have v3 := ok_slot (P := l.prog) (w := w) (base := base) T6 D v1 v2
  have v4 := ok_slots (P := l.prog) (w := w) (base := base) T8 B D v3
  have vh := ok_how (P := l.prog) (w := w) (base := base) T5
  have v5 := ok_bits (P := l.prog) (w := w) (base := base) T9 B (ok_bit T7 v1) vh
  have v6 := ok_part (P := l.prog) (w := w) (base := base) T10 (ok_way T3 B D) (ok_size T4 D v1) v4 v5
  have vi := ok_init (P := l.prog) (w := w) (base := base) SC O1 D B FCSinit v6 vh
  have mk : MakS l.prog w K mg base 6 CS (spInit CS C1) := mak_of ⟨cmCS, maCSinit, miCSinit, ckCS⟩ (PySem.W.mg_of X G cgCS) FCSinit vi
  have s1 : MetS l.prog w K mg base 1 CS "size" (spFld CS "many") := ⟨_, _, clsCS, MCSsize, okS_size SC FCSsize, (FCSsize).binds (ps := ["self"]) fun _ _ _ _ _ _ us hl => match us, hl with | [_], _ => rfl⟩
  have s2 : MetS l.prog w K mg base 1 CS "way" (spFld CS "kept_by") := ⟨_, _, clsCS, MCSway, okS_way SC FCSway, (FCSway).binds (ps := ["self"]) fun _ _ _ _ _ _ us hl => match us, hl with | [_], _ => rfl⟩
  have s3 : MetS l.prog w K mg base 1 CS "lay" (spTwo CS "slots" "bits") := ⟨_, _, clsCS, MCSlay, okS_lay SC FCSlay, (FCSlay).binds (ps := ["self"]) fun _ _ _ _ _ _ us hl => match us, hl with | [_], _ => rfl⟩
  have s4 : MetS l.prog w K mg base 1 CS "counts" (spTwo CS "near" "far") := ⟨_, _, clsCS, MCScounts, okS_counts SC FCScounts, (FCScounts).binds (ps := ["self"]) fun _ _ _ _ _ _ us hl => match us, hl with | [_], _ => rfl⟩
  have t1 := ok_take (P := l.prog) (w := w) (base := base) T12
  have t2 := ok_picked (P := l.prog) (w := w) (base := base) T14 B t1
  have t3 := ok_lwhole (P := l.prog) (w := w) (base := base) T13 B
  exact ok_law F23 B ⟨mk, s1, s2, s3, s4, ok_pool T11 B, t1, ok_sort T16 t1, ok_big T17 t1, ok_cells T18 B t1, ok_places T15 B t2, ok_marks T19 B t1, ok_bent T22 B t1, ok_lpart T20 B t3, ok_refused ES T21 B mk⟩
end Su
open PySem PySem.W PyProof.Rows
set_option maxRecDepth 100000 in
set_option maxHeartbeats 0 in
theorem PySem.Challenge.cw_surehand_k03_shelves_made_holds : PySem.Challenge.rw_surehand_k03_shelves_made.Holds := by
  w_on; o_law; k_head; (case hw => w_witness2)
  k_fill
  refine Su.walk_ofG (l := PySem.Challenge.rw_surehand_k03_shelves_made) (n := 63) (k := 9) (x := "_law_script") (CX := L2.CX0) (sp := Su.spLaw) rfl (by decide) rfl ⟨rfl, by decide, by decide⟩ (fun w h Y => PySem.W.kIn_of Y) ?F (fun _ _ a ns hl hS => ⟨a, ns, rfl, hS, hl, fun _ => rfl⟩) (fun _ _ _ _ h => h)
  case F =>
    intro w mg fa h KX G hmg
    refine' Su.all_mk KX G hmg ?a1 ?l1 ?c1 ?k1 ?a2 ?l2 ?c2 ?k2 ?a3 ?l3 ?c3 ?k3 ?a4 ?l4 ?c4 ?k4 ?a5 ?l5 ?c5 ?k5 ?a6 ?l6 ?c6 ?k6 ?a7 ?l7 ?c7 ?k7 ?a8 ?l8 ?c8 ?k8 ?a9 ?l9 ?c9 ?k9 ?a10 ?l10 ?c10 ?k10 ?a11 ?l11 ?c11 ?k11 ?a12 ?l12 ?c12 ?k12 ?a13 ?l13 ?c13 ?k13 ?a14 ?l14 ?c14 ?k14 ?a15 ?l15 ?c15 ?k15 ?a16 ?l16 ?c16 ?k16 ?a17 ?l17 ?c17 ?k17 ?a18 ?l18 ?c18 ?k18 ?a19 ?l19 ?c19 ?k19 ?a20 ?l20 ?c20 ?k20 ?a21 ?l21 ?c21 ?k21 ?a22 ?l22 ?c22 ?k22 ?a23 ?l23 ?c23 ?k23 ?m1 ?m2 ?m3 ?eg1 ?ek1 ?ex1 ?et1 ?ec1 ?ga1 ?gg1 ?gc1 ?mo1 ?ed1 ?ei1 ?eo1 ?es1 ?en1 ?ef1 ?eh1 ?ev1 ?eu1 ?em1 ?el1 ?eq1 ?ew1 ?ey1 ?ez1 ?ea1 ?eb1 ?eg3 ?spG ?tkG ?nsG ?opG ?ntG ?eg4 ?eg5 ?eg6 ?veN ?xw ?iww ?iwv ?iwo ?mW ?mW2 ?mZ ?mZ2 ?cgCS ?ckCS ?cmCS ?cpCS ?cdCS ?coCS ?csCS ?cfCS0 ?cfCS1 ?cfCS2 ?cfCS3 ?cfCS4 ?cfCS5 ?maCSinit ?miCSinit ?mkCSinit ?mlCSinit ?mcCSinit ?mqCSinit ?maCSsize ?miCSsize ?mkCSsize ?mlCSsize ?mcCSsize ?maCSway ?miCSway ?mkCSway ?mlCSway ?mcCSway ?maCSlay ?miCSlay ?mkCSlay ?mlCSlay ?mcCSlay ?maCScounts ?miCScounts ?mkCScounts ?mlCScounts ?mcCScounts ?z1 ?z2 ?z3 ?z4 ?z5 ?z6 ?z7 ?z8 ?z9 ?z10 ?z11 ?z12 ?z13 ?z14 ?z15 ?z16 ?z17 ?z18 ?z19 ?z20 ?z21
    (case a1 => k_is); (case l1 => k_is); (case c1 => k_is); (case k1 => k_is); (case a2 => k_is); (case l2 => k_is)
    (case c2 => k_is); (case k2 => k_is); (case a3 => k_is); (case l3 => k_is); (case c3 => k_is); (case k3 => k_is)
    (case a4 => k_is); (case l4 => k_is); (case c4 => k_is); (case k4 => k_is); (case a5 => k_is); (case l5 => k_is)
    (case c5 => k_is); (case k5 => k_is); (case a6 => k_is); (case l6 => k_is); (case c6 => k_is); (case k6 => k_is)
    (case a7 => k_is); (case l7 => k_is); (case c7 => k_is); (case k7 => k_is); (case a8 => k_is); (case l8 => k_is)
    (case c8 => k_is); (case k8 => k_is); (case a9 => k_is); (case l9 => k_is); (case c9 => k_is); (case k9 => k_is)
    (case a10 => k_is); (case l10 => k_is); (case c10 => k_is); (case k10 => k_is); (case a11 => k_is); (case l11 => k_is)
    (case c11 => k_is); (case k11 => k_is); (case a12 => k_is); (case l12 => k_is); (case c12 => k_is); (case k12 => k_is)
    (case a13 => k_is); (case l13 => k_is); (case c13 => k_is); (case k13 => k_is); (case a14 => k_is); (case l14 => k_is)
    (case c14 => k_is); (case k14 => k_is); (case a15 => k_is); (case l15 => k_is); (case c15 => k_is); (case k15 => k_is)
    (case a16 => k_is); (case l16 => k_is); (case c16 => k_is); (case k16 => k_is); (case a17 => k_is); (case l17 => k_is)
    (case c17 => k_is); (case k17 => k_is); (case a18 => k_is); (case l18 => k_is); (case c18 => k_is); (case k18 => k_is)
    (case a19 => k_is); (case l19 => k_is); (case c19 => k_is); (case k19 => k_is); (case a20 => k_is); (case l20 => k_is)
    (case c20 => k_is); (case k20 => k_is); (case a21 => k_is); (case l21 => k_is); (case c21 => k_is); (case k21 => k_is)
    (case a22 => k_is); (case l22 => k_is); (case c22 => k_is); (case k22 => k_is); (case a23 => k_is); (case l23 => k_is)
    (case c23 => k_is); (case k23 => k_is); (case m1 => k_is); (case m2 => k_is); (case m3 => k_is); (case eg1 => k_is)
    (case ek1 => k_is); (case ex1 => k_is); (case et1 => k_is); (case ec1 => k_is); (case ga1 => k_is); (case gg1 => k_is)
    (case gc1 => k_is); (case mo1 => k_is); (case ed1 => k_is); (case ei1 => kx_is); (case eo1 => kx_is); (case es1 => k_is)
    (case en1 => k_is); (case ef1 => k_is); (case eh1 => k_is); (case ev1 => k_is); (case eu1 => ks_is); (case em1 => k_is)
    (case el1 => k_is); (case eq1 => k_is); (case ew1 => k_is); (case ey1 => rfl); (case ez1 => first | rfl | decide +kernel); (case ea1 => first | rfl | decide +kernel)
    (case eb1 => k_is); (case eg3 => k_is); (case spG => k_is); (case tkG => k_is); (case nsG => k_is); (case opG => k_is)
    (case ntG => first | rfl | decide +kernel); (case eg4 => k_is); (case eg5 => k_is); (case eg6 => k_is); (case veN => k_is); (case xw => kts_exm)
    (case iww => kit_is); (case iwv => kit_is); (case iwo => kit_is); (case mW => k_is); (case mW2 => k_is); (case mZ => k_is)
    (case mZ2 => k_is); (case cgCS => k_is); (case ckCS => k_is); (case cmCS => k_is); (case cpCS => k_is); (case cdCS => k_is)
    (case coCS => k_is); (case csCS => k_is); (case cfCS0 => k_is); (case cfCS1 => k_is); (case cfCS2 => k_is); (case cfCS3 => k_is)
    (case cfCS4 => k_is); (case cfCS5 => k_is); (case maCSinit => k_is); (case miCSinit => k_is); (case mkCSinit => k_is); (case mlCSinit => k_is)
    (case mcCSinit => k_is); (case mqCSinit => k_is); (case maCSsize => k_is); (case miCSsize => k_is); (case mkCSsize => k_is); (case mlCSsize => k_is)
    (case mcCSsize => k_is); (case maCSway => k_is); (case miCSway => k_is); (case mkCSway => k_is); (case mlCSway => k_is); (case mcCSway => k_is)
    (case maCSlay => k_is); (case miCSlay => k_is); (case mkCSlay => k_is); (case mlCSlay => k_is); (case mcCSlay => k_is); (case maCScounts => k_is)
    (case miCScounts => k_is); (case mkCScounts => k_is); (case mlCScounts => k_is); (case mcCScounts => k_is); (case z1 => k_is); (case z2 => k_is)
    (case z3 => k_is); (case z4 => k_is); (case z5 => k_is); (case z6 => k_is); (case z7 => k_is); (case z8 => k_is)
    (case z9 => k_is); (case z10 => k_is); (case z11 => k_is); (case z12 => k_is); (case z13 => k_is); (case z14 => k_is)
    (case z15 => k_is); (case z16 => k_is); (case z17 => k_is); (case z18 => k_is); (case z19 => k_is); (case z20 => k_is)
    (case z21 => k_is)

import PyProof.Rows.All
import Wide.All
import OpenK.AllK
import Wide.FinOn
import HandS.ForMost
import HandS.SortInts
import HandS.TupAny
import HandS.Conv
import KE.KIndexOf
import PyProof.ReprRoads
import PyProof.ReprLen
import HandS.IsInst
import HandS.Strs
import HandS.Rev
import HandS.Style
import HandS.TupLe
import HandS.Zip
import HandS.Comp
import HandS.SetBool
import HandS.SetFor
import HandS.TupMul
import HandS.More
import HandS.ForExc
import HandS.ExcInit
import HandS.ExcValue
import KE.KExcSuper
import KE.KExcIs
import KE.KIsAll
import HandS.Exc
import KE.KExcInit
import KE.KSuper
import HandS.WordsExc
import HandS.ExcOwn
import PyProof.CallFns
import PyProof.WalksMore
import HandS.Text
import PyProof.StrOps2
import HandS.TryOnly
import HandS.Codes
import HandS.Deep
import HandS.Dict
import HandS.Flow
import KE.KExcLine
import KE.RegKTryMore
import PyProof.ExcBaseAll.ValueError
import PyProof.InstStoreFacts
import PySem.Challenge.RW_surehand_k10_whole_terms_in_terms
set_option Elab.async false
set_option linter.all false
set_option maxRecDepth 100000
set_option maxHeartbeats 4000000
/-! ### B0: what every law's text uses: a def by its name, calls, the end where nothing is being written out -/
namespace Su
open PySem PySem.Spec PyProof.Rows L2
/-- a def of the text stands under its name -/
structure At (K : PySem.W.Frag) (mg : Str → Option Value) (x : Str) (st : Stmt) (ps : List Str) : Prop where
  ex : ∃ (f : Addr) (fd : FuncData), Fun K x x st f fd ∧ mg x = some (.ref f) ∧ Binds K fd ps []
/-- a def that keeps a promise may be called by its name -/
structure Cal (P : Program) (w : World) (K : PySem.W.Frag) (mg : Str → Option Value) (base : Heap) (k : Nat) (x : Str) (ps : List Str) (sp : Sp) : Prop where
  ex : ∃ (f : Addr) (fd : FuncData), FnOk P w K mg base CX0 k f fd ps sp ∧ mg x = some (.ref f) ∧ PySem.W.keepIn K (.ref f) = true ∧ Binds K fd ps [] ∧ ∃ o : Obj, K.lookup f = some o ∧ o.data = .func fd
section
variable {P : Program} {w : World} {K : PySem.W.Frag} {mg : Str → Option Value} {base : Heap}
theorem cal_of {x : Str} {st : Stmt} {N ps : List Str} {k : Nat} {sp : Sp} (T : At K mg x st ps) (S : FnScope N ps (defScope st)) (len : ∀ vs H Q E, sp vs H Q E → vs.length = ps.length)
    (hb : ∀ (f : Addr) (cdv : Value) (A : Around) (outer : List Env) (s : Shared) (H : Hp) (vs : List V) (Q : VK) (E : XK), Room k (A.deeper (envOfC x (defScope st) s.heap.objs.size f cdv)) → sp vs H Q E →
      ∃ t, PSs (cxOf CX0 P w K mg base N x (defScope st) f cdv A outer s H E).nox (defBody st) t ∧ t { nx := fun _ H' => Q .non H', rt := Q } (start N vs) H) : Cal P w K mg base (k + 1) x ps sp := by
  obtain ⟨f, fd, F, hm, b⟩ := T.ex
  have z : ∃ o : Obj, K.lookup f = some o ∧ o.data = .func fd := by
    obtain ⟨oc, od, kV, doc, pm, an, cdv, ct, osl, _, lk, _⟩ := F.ex
    exact ⟨_, lk, rfl⟩
  exact ⟨f, fd, F.ok S len (fun cdv A outer s H vs Q E => hb f cdv A outer s H vs Q E), hm, F.kp, b, z⟩
end
section
variable {X : Cx} {k j : Nat} {x : Str} {ps : List Str} {sp : Sp} {p pos : Pos} {e : Expr} {es : List Expr} {t : TA}
theorem pe_own (C : Cal X.prog X.w X.K X.mg X.base k x ps sp) (hr : Room j X.A) (hk : k ≤ j) (hg : Gl X x) (ha : PA X (e :: es) t)
    (hdb : (x == ("__debug__" : Str)) = false := by decide) (he : starEach (e :: es) X.env = (false, eval e X.env) :: starEach es X.env := by rfl) (hpl : (backTo pos (starEach es X.env)).any (·.1) = false := by rfl) :
    PE X (.Call (.Name x p) (e :: es) [] pos) (tCall sp [] E0 t) := by
  obtain ⟨f, fd, F, hm, kp, b, _⟩ := C.ex
  exact pe_call F (hr.mono hk) hg hm kp b .nil (fun _ _ _ _ _ _ _ h => h.elim) ha hdb he hpl
theorem pe_own0 (C : Cal X.prog X.w X.K X.mg X.base k x ps sp) (hr : Room j X.A) (hk : k ≤ j) (hg : Gl X x) (hdb : (x == ("__debug__" : Str)) = false := by decide) :
    PE X (.Call (.Name x p) [] [] pos) (tCall sp [] E0 tNil) := by
  obtain ⟨f, fd, F, hm, kp, b, _⟩ := C.ex
  exact pe_call0 F (hr.mono hk) hg hm kp b .nil (fun _ _ _ _ _ _ _ h => h.elim) hdb
end
/-- the same promise, asked only where no object is being written out -/
structure FnG (P : Program) (w : World) (K : PySem.W.Frag) (mg : Str → Option Value) (base : Heap) (CX : CXT) (k : Nat) (f : Addr) (fd : FuncData) (ps : List Str) (sp : Sp) : Prop where
  len : ∀ vs H Q E, sp vs H Q E → vs.length = ps.length
  run : ∀ (A : Around) (outer : List Env) (s : Shared) (H : Hp) (args : Args) (us : List Value) (vs : List V) (Q : VK) (E : XK), A.guards = some [] → Room k A → Env0 P w K mg base A outer s H →
    BindsTo s fd args (ps.zip us) → Vals vs us → sp vs H Q E → codeAny (model P w) A (.call (.ref f) args) (CR CX outer P w H s Q E) s
theorem deeper_guards {A : Around} {e : Env} (h : A.guards = some []) : (A.deeper e).guards = some [] := by
  first
    | exact h
    | simpa [Around.deeper, Around.under, pushGuards, Code.guards, Code.isGuard] using h
theorem fnG_of {CX : CXT} {P : Program} {w : World} {K : PySem.W.Frag} {mg : Str → Option Value} {base : Heap} {k : Nat} {f : Addr} {nm ql : Str} {pr : Arguments} {bd : List Stmt} {sc : Scope} {dv kv dc pm cd ct oc : Value} {an od : Option Addr}
    {sl : Array (Option Value)} {N ps : List Str} {sp : Sp}
    (lk : K.lookup f = some ⟨oc, od, .func (PySem.W.fnOf nm ql pr bd sc dv kv dc pm an cd ct), sl⟩)
    (hcd : PySem.W.codeIn K cd ql = true) (S : FnScope N ps sc) (len : ∀ vs H Q E, sp vs H Q E → vs.length = ps.length)
    (hb : ∀ (A : Around) (outer : List Env) (s : Shared) (H : Hp) (vs : List V) (Q : VK) (E : XK), (A.deeper (envOfC ql sc s.heap.objs.size f cd)).guards = some [] → Room k (A.deeper (envOfC ql sc s.heap.objs.size f cd)) → sp vs H Q E →
      ∃ t, PSs (cxOf CX P w K mg base N ql sc f cd A outer s H E) bd t ∧ t { nx := fun _ H' => Q .non H', rt := Q } (start N vs) H) :
    FnG P w K mg base CX (k + 1) f (PySem.W.fnOf nm ql pr bd sc dv kv dc pm an cd ct) ps sp := by
  refine ⟨len, fun A outer s H args us vs Q E hgd hr e0 hbi rv hs => ?_⟩
  obtain ⟨t, ht, hq⟩ := hb A outer s H vs Q E (deeper_guards hgd) (hr.deeper _) hs
  -- the very same body, as a promise that asks for this surrounding alone
  have kin : K.In s.heap := e0.mod.kin.keeps fun b o z => (e0.bs b o z).1
  have nol : s.heap.NoLimit := e0.mod.nolimit.keeps fun b o z => (e0.bs b o z).1
  refine codeAny_call_function hr.depth (kin _ _ lk) rfl S.co S.gen rfl (PySem.W.codeRec_of kin hcd) (hbi _ _ _ _ ?_)
  refine wpAny_newFunctionEnv_cells S.kind (fun y hy => ?_) fun env he s1 x => ?_
  · rcases S.par y.1 (List.of_mem_zip (show (y.1, y.2) ∈ ps.zip us from hy)).1 with z | z
    · exact Or.inl z
    · exact Or.inr ⟨z, PySem.W.cellsFrom_some _ _ _ (Or.inl z)⟩
  · subst he
    refine ⟨nol.keeps x.toInCall.keep, codeAny_func (wpAny_mono (ht.run [] s1 (start N vs) H _ (inv_start S hr.hd e0 (len _ _ _ _ hs) rv x) hq) (fun fl s' z => ?_) fun _ _ z => z)⟩
    cases fl with
    | ret u =>
      obtain ⟨v, σ', H', J, r', q'⟩ := z
      exact ⟨v, H', J.os, J.bare, J.base, J.hok, r', q'⟩
    | next =>
      obtain ⟨σ', H', J, q'⟩ := z
      exact ⟨V.non, H', J.os, J.bare, J.base, J.hok, rfl, q'⟩
    | brk => exact (z.elim fun _ z => z.elim fun _ z => False.elim z.2)
    | cont => exact (z.elim fun _ z => z.elim fun _ z => False.elim z.2)
theorem hid_ns {h : Heap} {H : Hp} {b : Addr} {m : Str → Option Value} (no : ∀ (o : Obj) (es : Array DictEntry) (ep : Nat), h.get? b = some o → o.data = .dict es ep → H b = none) (n : h.Ns b m) : (hidT h H).Ns b m := by
  obtain ⟨o, es, ep, e, d, r⟩ := n
  exact ⟨o, es, ep, hidT_get e (no o es ep e d), d, r⟩
/-- the law's call, from a promise that is asked only where no object is being written out -/
theorem law_callG {P : Program} {w : World} {K : PySem.W.Frag} {mg mb : Str → Option Value} {CX : CXT} {k : Nat} {fa a : Addr} {fd : FuncData} {x : Str} {sp : Sp} {t : Shared} {vs : List Value} {ns : List Int}
    (KX : K.In t.heap) (g1 : t.heap.Ns mainGlobals mg) (g2 : t.heap.Ns builtinsNs mb) (g3 : ∀ y : Str, y ≠ "__name__" → mb y = bootBuiltins y) (g4 : t.heap.NoLimit) (g5 : t.gens = #[])
    (ha : t.heap.get? a = some { cls := .type "list", data := .seq vs.toArray }) (hi : IntsAre vs ns) (hl : ns.length ≤ sizeLine) (hr : Room k callerA)
    (F : ∀ bs : Heap, K.In bs → bs.Ns mainGlobals mg → FnG P w K mg bs CX k fa fd [x] sp) (hbi : ∀ (s : Shared) (u : Value), BindsTo s fd ⟨[u], []⟩ [(x, u)])
    (hsp : ∀ H : Hp, Only H → SqL K H a (ns.map V.int) → sp [.ref a] H (fun v _ => v = .bl true) fun _ _ _ => False)
    (hCX : ∀ H e s', CX [] H t (fun _ _ _ => False) e s' → False) :
    codeAny (model P w) callerA (.call (.ref fa) ⟨[.ref a], []⟩) (fun r s' => r = .ok (.ret (.bool true)) ∧ OldK t.heap s'.heap ∧ s'.os = t.os ∧ AllBare s'.gens) t := by
  have rv := vals_ints hi
  have main : ∀ H : Hp, Only H → SqL K H a (ns.map V.int) → HOk P w H t.heap → (∀ b, H b ≠ none → b = a) → (H a ≠ none → K.lookup a = none) →
      codeAny (model P w) callerA (.call (.ref fa) ⟨[.ref a], []⟩) (fun r s' => r = .ok (.ret (.bool true)) ∧ OldK t.heap s'.heap ∧ s'.os = t.os ∧ AllBare s'.gens) t := by
    intro H only hS hok one out
    have no : ∀ (b : Addr) (o : Obj) (es : Array DictEntry) (ep : Nat), t.heap.get? b = some o → o.data = .dict es ep → H b = none := by
      intro b o es ep e d
      cases z : H b with
      | none => rfl
      | some u =>
        obtain rfl : b = a := one b (by rw [z]; simp)
        rw [ha] at e
        cases e
        exact absurd d (by simp)
    have kb : K.In (hidT t.heap H) := by
      intro b o e
      refine hidT_get (KX b o e) ?_
      cases z : H b with
      | none => rfl
      | some u =>
        obtain rfl : b = a := one b (by rw [z]; simp)
        rw [out (by rw [z]; simp)] at e
        cases e
    have ng : (hidT t.heap H).Ns mainGlobals mg := hid_ns (no _) g1
    have md : Mod K mg (hidT t.heap H) := ⟨kb, ng, ⟨mb, hid_ns (no _) g2, g3⟩, g4.elim fun mc h => ⟨mc, hid_ns (no _) h.1, h.2⟩⟩
    have ev : Env0 P w K mg (hidT t.heap H) callerA [] t H :=
      ⟨rfl, md, fun b o e => of_hidT e, Nat.le_of_eq (hidT_size _ _), trivial, fun b z => (List.not_mem_nil z).elim, hok, .of_eq g5⟩
    refine codeAny_mono ((F _ kb ng).run callerA [] t H ⟨[.ref a], []⟩ [.ref a] [.ref a] _ _ rfl hr ev (hbi t (.ref a)) (.cons rfl .nil) (hsp H only hS)) fun r s' h => ?_
    match r, h with
    | .error e, h => exact (hCX H e s' h).elim
    | .ok .next, h => exact False.elim h
    | .ok .brk, h => exact False.elim h
    | .ok .cont, h => exact False.elim h
    | .ok (.ret u), h =>
      obtain ⟨v, H', os, bare, un, hok2, r2, q⟩ := h
      obtain rfl : v = .bl true := q
      obtain rfl : u = Value.bool true := r2
      refine ⟨rfl, OldK.of_keep fun b o e => ?_, os, bare⟩
      rcases only b with z | ⟨ob, xs, z⟩
      · exact un.keep b o e z (fun y => (List.not_mem_nil y).elim) (by simp)
      · have y1 := (hok b _ z).1
        have y2 := (hok2 b _ (un.frzs b ob _ z)).1
        rw [e] at y1
        cases y1
        exact y2
  cases hk : K.lookup a with
  | some o =>
    have e := KX a o hk
    rw [ha] at e
    cases e
    refine main (fun _ => none) (fun _ => .inl rfl) (.inr ⟨_, vs.toArray, _, hk, rfl, rfl, rfl, ?_, ?_⟩) (fun b u z => nomatch (show (none : Option HO) = some u from z)) (fun b z => absurd rfl z) fun z => absurd rfl z
    · rw [List.size_toArray, hi.length]
      exact hl
    · simpa using rv
  | none =>
    have at1 : (fun b => if b = a then some (HO.frz { cls := .type "list", data := .seq vs.toArray } (.lst (ns.map V.int))) else none : Hp) a = some (HO.frz { cls := .type "list", data := .seq vs.toArray } (.lst (ns.map V.int))) := if_pos rfl
    refine main (fun b => if b = a then some (.frz { cls := .type "list", data := .seq vs.toArray } (.lst (ns.map V.int))) else none) (fun b => ?_) (.inl (.inr ⟨_, at1⟩)) (fun b u z => ?_) (fun b z => ?_) fun _ => hk
    · by_cases e : b = a
      · exact .inr ⟨_, _, if_pos e⟩
      · exact .inl (if_neg e)
    · by_cases e : b = a
      · subst e
        have y := at1.symm.trans z
        cases y
        exact ⟨ha, by rw [List.length_map]; exact hl, vs, _, rv, ha⟩
      · exact nomatch ((if_neg e).symm.trans z)
    · by_cases e : b = a
      · exact e
      · exact absurd (if_neg e) z
theorem walk_ofG {l : PySem.W.OpenLaw} {n k : Nat} {q : Program} {loose : List Str} {XP : (Str → Option Value) → Heap → Prop} {YP : World → Heap → Prop} {d : DefRec} {K : Params → PySem.W.Frag} {CX : CXT} {sp : PySem.W.Frag → Sp} {x : Str}
    (hn : l.most = some n) (hn2 : n ≤ sizeLine) (hdf : d.params.defaults = []) (hr : Room k callerA) (hY : ∀ (w : World) (h : Heap), YP w h → (K w.params).In h)
    (F : ∀ (w : World) (mg : Str → Option Value) (fa : Addr) (h : Heap), (K w.params).In h → h.Ns mainGlobals mg → mg d.name = some (.ref fa) →
      ∃ fd : FuncData, (∀ (s : Shared) (u : Value), BindsTo s fd ⟨[u], []⟩ [(x, u)]) ∧
        ∀ bs : Heap, (K w.params).In bs → bs.Ns mainGlobals mg → FnG l.prog w (K w.params) mg bs CX k fa fd [x] (sp (K w.params)))
    (hsp : ∀ (K : PySem.W.Frag) (H : Hp) (a : Addr) (ns : List Int), ns.length ≤ n → SqL K H a (ns.map V.int) → sp K [.ref a] H (fun v _ => v = .bl true) fun _ _ _ => False)
    (hCX : ∀ (H : Hp) (s : Shared) (e : Value) (s' : Shared), CX [] H s (fun _ _ _ => False) e s' → False) :
    PySem.W.WalkO q loose XP YP l.row.toRowW d [] (fun f vs => PySem.call f vs) := by
  refine Att.attach_call hn hdf fun w s₀ t mg mb fa o pm cd doc a vs ns G Y ho hd hcd hmg hobj hints hlen hg => ?_
  have KX := hY w _ Y
  obtain ⟨fd, hb, hF⟩ := F w mg fa _ KX G.T.g hmg
  exact law_callG KX G.T.g G.T.b G.T.builtins G.T.nolimit hg hobj hints (Nat.le_trans hlen hn2) hr hF hb (fun H _ hS => hsp (K w.params) H a ns hlen hS) fun H e s' => hCX H t e s'
end Su
/-! ### B1: repr of data, t.index(n), a call by keywords alone, data that is small enough -/
namespace Su
open PySem PySem.Spec PyProof.Rows L2
/-- data of small numbers, of depth n at most, of weight m at most -/
structure Fine (d : PyData) (n m : Nat) : Prop where
  sh : d.showable = true
  nd : d.hasDict = false
  dp : d.depth ≤ n
  lv : d.leavesShort 13 = true
  wt : d.weight ≤ m
  cl : d.canLay0 = true
structure FineL (ds : List PyData) (n m : Nat) : Prop where
  sh : PyData.showableAll ds = true
  nd : PyData.hasDictAll ds = false
  dp : PyData.depthAll ds ≤ n
  lv : PyData.leavesShortAll 13 ds = true
  wt : PyData.weightAll ds ≤ m
  cl : PyData.canLayAll0 ds = true
theorem Fine.int {i : Int} (h1 : -1000000 ≤ i) (h2 : i ≤ 1000000) : Fine (.int i) 0 40 := by
  have hb : i.natAbs < 10 ^ 12 := by omega
  have e : i.natAbs < 2 ^ 20 := by omega
  have hl : i.natAbs.log2 < 39 := by
    by_cases z : i.natAbs = 0
    · rw [z]
      decide
    · exact (Nat.log2_lt z).mpr (by omega)
  refine ⟨?_, by simp [PyData.hasDict], by simp [PyData.depth], ?_, ?_, by first | rfl | simp [PyData.canLay0]⟩
  · simp only [PyData.showable, decide_eq_true_eq]
    omega
  · simp only [PyData.leavesShort, decide_eq_true_eq]
    exact PyData.shown_int_le hb
  · simp only [PyData.weight]
    split <;> omega
theorem Fine.bool (b : Bool) : Fine (.bool b) 0 0 := ⟨by simp [PyData.showable], by simp [PyData.hasDict], by simp [PyData.depth], by simp [PyData.leavesShort], by simp [PyData.weight], by first | rfl | simp [PyData.canLay0]⟩
theorem Fine.none : Fine .none 0 0 := ⟨by simp [PyData.showable], by simp [PyData.hasDict], by simp [PyData.depth], by simp [PyData.leavesShort], by simp [PyData.weight], by first | rfl | simp [PyData.canLay0]⟩
theorem FineL.nil {n : Nat} : FineL [] n 0 := ⟨by simp [PyData.showableAll], by simp [PyData.hasDictAll], by simp [PyData.depthAll], by simp [PyData.leavesShortAll], by simp [PyData.weightAll], by first | rfl | simp [PyData.canLayAll0]⟩
theorem FineL.cons {d : PyData} {ds : List PyData} {n m k : Nat} (h : Fine d n m) (t : FineL ds n k) : FineL (d :: ds) n (m + 1 + k) := by
  refine ⟨?_, ?_, ?_, ?_, ?_, ?_⟩
  · simp only [PyData.showableAll, h.sh, t.sh, Bool.and_self]
  · simp only [PyData.hasDictAll, h.nd, t.nd, Bool.or_self]
  · simp only [PyData.depthAll]
    have := h.dp
    have := t.dp
    omega
  · simp only [PyData.leavesShortAll, h.lv, t.lv, Bool.and_self]
  · simp only [PyData.weightAll]
    have := h.wt
    have := t.wt
    omega
  · simp only [PyData.canLayAll0, h.cl, t.cl, Bool.and_self]
theorem Fine.tuple {ds : List PyData} {n m : Nat} (t : FineL ds n m) : Fine (.tuple ds) (n + 1) m :=
  ⟨by simpa only [PyData.showable] using t.sh, by simpa only [PyData.hasDict] using t.nd, by simp only [PyData.depth]; have := t.dp; omega, by simpa only [PyData.leavesShort] using t.lv, by simpa only [PyData.weight] using t.wt, by simpa only [PyData.canLay0] using t.cl⟩
theorem Fine.list {ds : List PyData} {n m : Nat} (t : FineL ds n m) : Fine (.list ds) (n + 1) m :=
  ⟨by simpa only [PyData.showable] using t.sh, by simpa only [PyData.hasDict] using t.nd, by simp only [PyData.depth]; have := t.dp; omega, by simpa only [PyData.leavesShort] using t.lv, by simpa only [PyData.weight] using t.wt, by simpa only [PyData.canLay0] using t.cl⟩
theorem Fine.up {d : PyData} {n m n' m' : Nat} (h : Fine d n m) (a : n ≤ n') (b : m ≤ m') : Fine d n' m' := ⟨h.sh, h.nd, Nat.le_trans h.dp a, h.lv, Nat.le_trans h.wt b, h.cl⟩
theorem FineL.ints : ∀ ns : List Int, (∀ z ∈ ns, -1000000 ≤ z ∧ z ≤ 1000000) → FineL (ns.map PyData.int) 0 (41 * ns.length)
  | [], _ => FineL.nil
  | z :: ns, h => by
    have a := FineL.cons (Fine.int (h z List.mem_cons_self).1 (h z List.mem_cons_self).2) (FineL.ints ns fun y hy => h y (List.mem_cons_of_mem _ hy))
    have e : 40 + 1 + 41 * ns.length = 41 * (z :: ns).length := by
      rw [List.length_cons]
      omega
    rw [e] at a
    exact a
theorem Fine.len {d : PyData} {n m : Nat} (h : Fine d n m) (hm : m ≤ 1000000) : d.shown.length ≤ sizeLine := PyData.shown_fits (B := 13) (by decide) (by decide) h.lv (by have := h.wt; omega)
theorem Fine.shaped {d : PyData} {n m : Nat} (h : Fine d n m) (hn : n ≤ 64) : SeqAt.shaped d = true := by
  unfold SeqAt.shaped
  rw [h.cl, Bool.true_and, decide_eq_true_eq]
  exact Nat.le_trans h.dp hn
theorem Fine.eqv {d : PyData} {n m : Nat} (h : Fine d n m) : PyData.eqv d d = true := SeqAt.eqv_refl d h.cl
section
variable {X : Cx}
/-- repr(x), x a list or tuple of data -/
def rReprD (K : PySem.W.Frag) : List V → Hp → VK → Prop := fun xs H Q => ∃ (a : Addr) (d : PyData) (n m : Nat), xs = [.ref a] ∧ Dp K H (.ref a) d ∧ Fine d n m ∧ n ≤ 60 ∧ m ≤ 1000000 ∧ Q (.str d.shown) H
theorem call_reprD (hg : X.A.guards = some []) (hu : X.A.units + 64 < cLine) : CallR X (.builtin "repr") (rReprD X.K) := by
  intro pins s σ H xs us Q I r h
  obtain ⟨a, d, n, m, rfl, hd, hf, hn, hm, q⟩ := h
  rw [Vals.ref1 r]
  obtain ⟨as, rd⟩ := Dp.reads I d _ (.ref a) hd rfl
  refine repr_of_reads' rd hf.sh (PyData.noDict_hsm hf.nd) hg (by have := hf.dp; omega) (fun _ _ z => z) (fun h' u tk hk => ⟨.str d.shown, H, I.kept hk, ⟨u, rfl⟩, q⟩) (hf.len hm)
/-- t.index(n), t a tuple of ints that has n -/
def rTIndex (K : PySem.W.Frag) : V → List V → Hp → VK → Prop := fun x xs H Q => ∃ (p : Addr) (ns : List Int) (k : Int), x = .ref p ∧ xs = [.int k] ∧ SqT K H p (ns.map V.int) ∧ k ∈ ns ∧ Q (.int (ns.idxOf k : Nat)) H
theorem ints_of : ∀ {ns : List Int} {vs : List Value}, Vals (ns.map V.int) vs → IntsAre vs ns
  | [], _, r => by
    cases r
    exact .nil
  | n :: ns, _, r => by
    cases r with
    | cons r1 r2 =>
      obtain ⟨t, rfl⟩ := r1
      exact .cons _ _ (ints_of r2)
theorem mt_tindex : MtR X "tuple.index" (rTIndex X.K) := by
  intro pins s σ H x xs v us Q I rx rs h
  obtain ⟨p, ns, k, rfl, rfl, hq, hk, q⟩ := h
  cases rx
  obtain ⟨u, rfl, t, rfl⟩ := vals1 rs
  obtain ⟨its, r, pl, hz⟩ := I.tuple hq
  exact PySem.SeqAt.tuple_index_ints (l := p) (vs := its) pl (ints_of r) hk ⟨.int (ns.idxOf k : Nat), H, I.tok _, ⟨_, rfl⟩, q⟩
end
section
variable {X : Cx} {k j : Nat} {x : Str} {ps ks : List Str} {sp : Sp} {p pos : Pos} {kws : List Keyword} {tk : TA}
/-- a def that keeps a promise, called by keywords alone -/
structure KCal (P : Program) (w : World) (K : PySem.W.Frag) (mg : Str → Option Value) (base : Heap) (k : Nat) (x : Str) (ks : List Str) (gV : List V → List V → List V) (sp : Sp) : Prop where
  ex : ∃ (f : Addr) (fd : FuncData) (ps : List Str) (g : List Value → List Value → List Value), FnOk P w K mg base CX0 k f fd ps sp ∧ mg x = some (.ref f) ∧ PySem.W.keepIn K (.ref f) = true ∧ KBinds K fd ps ks g gV
variable {gV : List V → List V → List V}
def tKws (sp : Sp) (gV : List V → List V → List V) (tk : TA) : TE := fun σ H Q => tk σ H fun zs H2 => sp (gV [] zs) H2 Q E0
theorem pe_ownK (C : KCal X.prog X.w X.K X.mg X.base k x ks gV sp) (hr : Room j X.A) (hk : k ≤ j) (hg : Gl X x) (hkw : PK X kws tk)
    (hall : (backToKw pos (keywordEach kws X.env)).all (·.1.isSome) = true := by rfl) (hks : (backToKw pos (keywordEach kws X.env)).filterMap (·.1) = ks := by rfl) (hdb : (x == ("__debug__" : Str)) = false := by decide)
    (hpl : ((backTo pos (starEach [] X.env)).any (·.1) || (backToKw pos (keywordEach kws X.env)).any (·.1.isNone)) = false := by rfl) : PE X (.Call (.Name x p) [] kws pos) (tKws sp gV tk) := by
  obtain ⟨f, fd, ps, g, F, hm, kp, b⟩ := C.ex
  refine ⟨fun pins s σ H Q I h => ?_⟩
  refine wpAny_Call_Name_kw (ld_glob I hg hm ?_ hdb)
  refine PySem.W.callWith_KW0 (h₀ := X.base) I.ok.mod.kin kp hall (thn (hkw.run pos pins s σ H _ I h) fun ws s2 ⟨zs, H2, I2, rz, q2⟩ => ⟨I2.kIn, ?_⟩) hpl
  rw [hks]
  exact run_fnk F (hr.mono hk) b (fun _ _ _ _ _ _ _ z => z.elim) I2 .nil rz q2
end
end Su
/-! ### B2: tuples whose object is known to have no dict: their methods may be called -/
namespace Su
open PySem PySem.Spec PyProof.Rows L2
def PTup (H : Hp) (a : Addr) (xs : List V) : Prop := ∃ o : Obj, H a = some (.frz o (.tup xs)) ∧ o.dict = none
theorem PTup.sq {K : PySem.W.Frag} {H : Hp} {a : Addr} {xs : List V} (h : PTup H a xs) : SqT K H a xs := by
  obtain ⟨o, e, _⟩ := h
  exact .inl (.inr ⟨o, e⟩)
theorem PTup.same {H H' : Hp} {a : Addr} {xs : List V} (h : PTup H a xs) (s : Same H H') : PTup H' a xs := by
  obtain ⟨o, e, d⟩ := h
  exact ⟨o, s _ _ e, d⟩
theorem same_upd {H : Hp} {p : Addr} {o : HO} (h : H p = none) : Same H (upd H p o) := fun b x e => by
  rw [upd_ne (ne_of_none e h)]
  exact e
section
variable {X : Cx} {pins : List (Addr × Obj)} {σ : L2.St} {H : Hp} {s : Shared}
/-- a new tuple's object -/
abbrev tupO (its : List Value) : Obj := { cls := .type "tuple", data := .seq its.toArray }
theorem laidF {xs : List V} {its : List Value} (I : Inv X pins σ H s) (r : Vals xs its) (hz : xs.length ≤ sizeLine) (t' : Tok) :
    Inv X pins σ (upd H s.heap.objs.size (.frz (tupO its) (.tup xs))) { s with heap := s.heap.push (tupO its), toks := t' } := by
  refine I.laid (t' := t') (o := .frz (tupO its) (.tup xs)) (fun b ob q => Heap.get?_push_of_some _ q) (Nat.le_refl _) ?_
  exact ⟨Heap.get?_push_size _ rfl, hz, its, r, IsTup.new _ _⟩
theorem newF {xs : List V} {its : List Value} {Q : VK} (I : Inv X pins σ H s) (r : Vals xs its) (hz : xs.length ≤ sizeLine) (q : ∀ v H', Same H H' → H v = none → PTup H' v xs → Q (.ref v) H') (t' : Tok) :
    EP X pins σ Q (.ref s.heap.objs.size) { s with heap := s.heap.push (tupO its), toks := t' } :=
  have hf : H s.heap.objs.size = none := I.hok.fresh (Nat.le_refl _)
  ⟨.ref s.heap.objs.size, _, laidF I r hz t', rfl, q _ _ (same_upd hf) hf ⟨_, upd_same, rfl⟩⟩
end
section
variable {X : Cx} {es : List Expr} {t : TA} {pos : Pos}
def tTupF (t : TA) : TE := fun σ H Q => t σ H fun xs H1 => xs.length ≤ sizeLine ∧ ∀ v H', Same H1 H' → H1 v = none → PTup H' v xs → Q (.ref v) H'
theorem pe_tupF {x1} (h : PA X es t) : PE X (.Tuple es x1 pos) (tTupF t) := by
  refine ⟨fun pins s σ H Q I hq => ?_⟩
  refine wpAny_Tuple_spliced (thn (h.run pos pins s σ H _ I hq) fun us s1 ⟨xs, H1, I1, r, z, q⟩ => ⟨by rw [← r.length]; exact z, ?_⟩)
  exact newF I1 r z q s1.toks
def rTupL (K : PySem.W.Frag) : List V → Hp → VK → Prop := fun xs H Q => ∃ p ys, xs = [.ref p] ∧ SqL K H p ys ∧ ∀ v H', Same H H' → H v = none → PTup H' v ys → Q (.ref v) H'
theorem call_tupleF : CallR X (.type "tuple") (rTupL X.K) := by
  intro pins s σ H xs us Q I r h
  obtain ⟨p, ys, rfl, hq, q⟩ := h
  obtain ⟨u, rfl, rx⟩ := vals1 r
  cases rx
  obtain ⟨its, r', pl, hz⟩ := I.list hq
  have hlen := r'.length
  refine call_tuple_list pl.isList (fun h' kp => ?_) (by simp only [List.size_toArray] <;> omega)
  exact newF (s := { s with heap := h' }) (I.kept (t' := s.toks) kp) r' hz q s.toks
def rCatF : R2 := fun x y H Q => ∃ a b xs ys, x = .ref a ∧ y = .ref b ∧ PTup H a xs ∧ PTup H b ys ∧ xs.length + ys.length ≤ sizeLine ∧ ∀ v H', Same H H' → PTup H' v (xs ++ ys) → Q (.ref v) H'
theorem op_catF : OpR X (binaryOp .Add) rCatF := by
  intro pins s σ H x y v u Q I rx ry h
  obtain ⟨a, b, xs, ys, rfl, rfl, ha, hb, hz, q⟩ := h
  cases rx
  cases ry
  obtain ⟨its, r1, p1, _⟩ := I.tuple (ha.sq (K := X.K))
  obtain ⟨its2, r2, p2, _⟩ := I.tuple (hb.sq (K := X.K))
  by_cases hx : xs = []
  · subst hx
    cases r1
    exact cat_tup0 p1 p2 ⟨.ref b, H, I, rfl, q b H (Same.refl H) hb⟩
  · refine HT.cat_tup p1 p2 (fun z => hx (r1.nil_iff.mp z)) (fun z => ⟨.ref a, H, I, rfl, q a H (Same.refl H) ?_⟩) (fun z => ?_) (by rw [← r1.length, ← r2.length]; exact hz)
    · rw [r2.nil_iff.mp z, List.append_nil]
      exact ha
    · exact newF I (r1.append r2) (by rw [List.length_append]; exact hz) (fun v H' s' _ h => q v H' s' h) s.toks
def rSlF : V → Option Int → Option Int → Hp → VK → Prop := fun x lo hi H Q => ∃ a xs, x = .ref a ∧ PTup H a xs ∧ ∀ v H', Same H H' → PTup H' v (cutV xs lo hi) → Q (.ref v) H'
theorem sl_tupF : SlR X rSlF := by
  intro pins s σ H x v vl vu lo hi sl Q I rx hs pl pu h
  obtain ⟨a, xs, rfl, hx, q⟩ := h
  cases rx
  obtain ⟨its, r, ht, hz⟩ := I.tuple (hx.sq (K := X.K))
  have hlen : its.toArray.size = xs.length := by rw [List.size_toArray]; exact r.length.symm
  refine ⟨"tuple", _, PyProof.Rows.slot_tuple_getitem.lookup, ht.typeIs, ?_⟩
  by_cases hw : HT.sIx xs.length 0 lo = 0 ∧ HT.sIx xs.length xs.length hi = xs.length
  · refine getItem_tuple_whole ht hs pl pu (by rw [hlen]; exact hw) ⟨.ref a, H, I, rfl, q a H (Same.refl H) ?_⟩
    have z : cutV xs lo hi = xs := by
      unfold cutV
      rw [hw.1, hw.2, Nat.sub_zero, List.drop_zero, List.take_length]
    rw [z]
    exact hx
  · refine HT.getItem_tuple_cut ht hs pl pu (by rw [hlen]; exact hw) ?_ (by rw [hlen]; exact hz)
    rw [hlen]
    exact newF I ((r.drop (HT.sIx xs.length 0 lo)).take (HT.sIx xs.length xs.length hi - HT.sIx xs.length 0 lo)) (Nat.le_trans (cutV_length xs lo hi) hz) (fun v H' s' _ h => q v H' s' h) s.toks
/-- t.m(e, ..), t such a tuple -/
def tMT (r : V → List V → Hp → VK → Prop) (to : TE) (t : TA) : TE := fun σ H Q => to σ H fun x H1 => (∃ a xs, x = .ref a ∧ PTup H1 a xs) ∧ t σ H1 fun xs H2 => r x xs H2 Q
variable {o e : Expr} {to : TE} {name : Str} {apos cpos : Pos} {id : String} {r : V → List V → Hp → VK → Prop}
theorem pe_mT (slot : Slot "tuple" name id) (hty : typeOf (.builtin id) = pure (.type "method_descriptor")) (hm : MtR X id r) (ho : PE X o to) (ha : PA X (e :: es) t)
    (hbase : attributeBase o name X.env (eval o X.env) = eval o X.env := by rfl)
    (hfew : ((backTo cpos (starEach (e :: es) X.env)).all (fun x => !x.1) && (backToKw cpos (keywordEach [] X.env)).all (fun x => x.1.isSome) && decide ((e :: es).length + ([] : List Keyword).length + (if ([] : List Keyword).isEmpty then 0 else 1) < 30)) = true := by rfl)
    (hline : (apos.endLine == cpos.line) = true := by rfl) (hs : starEach (e :: es) X.env = (false, eval e X.env) :: starEach es X.env := by rfl) (hplain : (backTo cpos (starEach es X.env)).any (·.1) = false := by rfl) :
    PE X (.Call (.Attribute o name apos) (e :: es) [] cpos) (tMT r to t) := by
  refine ⟨fun pins s σ H Q I h => ?_⟩
  refine wpAny_Call_method_late hbase hfew hline rfl (thn (ho.run pins s σ H _ I h) fun v s1 ⟨x, H1, I1, r1, ⟨a, xs, ex, pt⟩, q1⟩ => ?_)
  subst ex
  cases r1
  obtain ⟨its, rv, tp, _⟩ := I1.tuple (pt.sq (K := X.K))
  obtain ⟨ob, eo, ed⟩ := pt
  have g1 := (I1.hok a _ eo).1
  refine ⟨"tuple", id, PySem.F.plainAttrs_tuple, slot, hty, tp.typeIs, fun b eb => ?_, ?_⟩
  · cases eb
    exact ⟨ob, g1, ed⟩
  have hA := ha.run cpos pins s1 σ H1 _ I1 q1
  rw [hs] at hA ⊢
  refine Calls.callWith_builtin (by show (false || (backTo cpos (starEach es X.env)).any (·.1)) = false; rw [hplain] <;> rfl) (Calls.evalArgs_plain ?_)
  exact thn hA fun us s2 ⟨vs, H2, I2, r2, q2⟩ => hm pins s2 σ H2 (.ref a) vs _ us Q I2 rfl r2 q2
end
end Su
/-! ### PL: the pool from which a law draws -/
namespace Su
open PySem PySem.Spec PyProof.Rows L2
/-- the built-in names that the text does not bind -/
structure Bt (mg : Str → Option Value) : Prop where
  len : mg "len" = none
  sum : mg "sum" = none
  abs : mg "abs" = none
  int : mg "int" = none
  min : mg "min" = none
  max : mg "max" = none
  range : mg "range" = none
  sorted : mg "sorted" = none
  list : mg "list" = none
  tuple : mg "tuple" = none
  repr : mg "repr" = none
  set : mg "set" = none
  all : mg "all" = none
  isinstance : mg "isinstance" = none
  str : mg "str" = none
  bool : mg "bool" = none
  reversed : mg "reversed" = none
  enumerate : mg "enumerate" = none
  zip : mg "zip" = none
  any : mg "any" = none
  dict : mg "dict" = none
theorem cutV_ints (ns : List Int) (lo hi : Option Int) : ∃ ms : List Int, cutV (ns.map V.int) lo hi = ms.map V.int := by
  unfold cutV
  exact ⟨_, by rw [← List.map_drop, ← List.map_take]⟩
theorem atI_int {α : Type} {xs : List α} {i : Int} {v : α} (h0 : 0 ≤ i) (h : xs[i.toNat]? = some v) : atI xs i = some v := by
  have e := atI_nat h
  rw [Int.toNat_of_nonneg h0] at e
  exact e
theorem b01 (b : Bool) : -(2 ^ 64) < (if b = true then (1 : Int) else 0) ∧ (if b = true then (1 : Int) else 0) < 2 ^ 64 := by
  cases b <;> exact ⟨by decide, by decide⟩
/-! the pool -/
def PoolO (o : HO) : Prop := ∃ g m : Int, o = .lst [.int g, .int m] ∧ 0 ≤ g ∧ 0 ≤ m ∧ m < 2147483647
def PoolAt (H : Hp) (p : Addr) : Prop := ∃ o, H p = some o ∧ PoolO o
def spTake : Sp := fun vs H Q _ => ∃ (p : Addr) (many : Int), vs = [.ref p, .int many] ∧ PoolAt H p ∧ 1 ≤ many ∧ many < 1000000 ∧
  ∀ (r : Int) (o : HO), 0 ≤ r → r < many → PoolO o → Q (.int r) (upd H p o)
def spPool (K : PySem.W.Frag) : Sp := fun vs H Q _ => ∃ (a : Addr) (ns : List Int) (k : Int), vs = [.ref a, .int k] ∧ SqL K H a (ns.map V.int) ∧ 0 ≤ k ∧ k < 1000 ∧
  ∀ (p : Addr) (H' : Hp), Same H H' → H p = none → PoolAt H' p → Q (.ref p) H'
/-- all but what stands at p is as it was -/
def Kept (p : Addr) (H H' : Hp) : Prop := ∀ b o, H b = some o → b ≠ p → H' b = some o
theorem Kept.refl (p : Addr) (H : Hp) : Kept p H H := fun _ _ h _ => h
theorem Kept.trans {p : Addr} {H H1 H2 : Hp} (a : Kept p H H1) (b : Kept p H1 H2) : Kept p H H2 := fun c o h n => b c o (a c o h n) n
theorem Kept.same {p : Addr} {H H1 : Hp} (a : Same H H1) : Kept p H H1 := fun c o h _ => a c o h
theorem Kept.upd (p : Addr) (H : Hp) (o : HO) : Kept p H (upd H p o) := fun b x e n => by
  rw [upd_ne n]
  exact e
theorem Kept.set {p b : Addr} {H H1 : Hp} {o : HO} (a : Kept p H H1) (hb : H b = none) : Kept p H (L2.upd H1 b o) := fun c x e n => by
  rw [upd_ne (ne_of_none e hb)]
  exact a c x e n
theorem Kept.free {p b : Addr} {H H' : Hp} (a : Kept p H H') (n : b ≠ p) (h : H' b = none) : H b = none := by
  cases z : H b with
  | none => rfl
  | some o =>
    rw [a b o z n] at h
    cases h
theorem pool_ne {H : Hp} {p b : Addr} (h : PoolAt H p) (n : H b = none) : b ≠ p := by
  obtain ⟨o, e, _⟩ := h
  exact (ne_of_none e n).symm
theorem PoolAt.upd {H : Hp} {p b : Addr} {o : HO} (h : PoolAt H p) (n : p ≠ b) : PoolAt (upd H b o) p := by
  obtain ⟨x, e, z⟩ := h
  exact ⟨x, by rw [upd_ne n]; exact e, z⟩
theorem PoolAt.same {H H' : Hp} {p : Addr} (h : PoolAt H p) (s : Same H H') : PoolAt H' p := by
  obtain ⟨o, e, z⟩ := h
  exact ⟨o, s _ _ e, z⟩
theorem PTup.kept {p a : Addr} {H H' : Hp} {xs : List V} (h : PTup H a xs) (k : Kept p H H') (hp : PoolAt H p) : PTup H' a xs := by
  obtain ⟨o, e, d⟩ := h
  obtain ⟨x, e2, g, m, rfl, _⟩ := hp
  refine ⟨o, k _ _ e (fun z => ?_), d⟩
  subst z
  rw [e] at e2
  cases e2
theorem seq_kept {K : PySem.W.Frag} {p a : Addr} {H H' : Hp} {xs : List V} (k : Kept p H H') (n : a ≠ p) (h : SqL K H a xs) : SqL K H' a xs := by
  rcases h with (h | ⟨o, h⟩) | h
  · exact .inl (.inl (k _ _ h n))
  · exact .inl (.inr ⟨o, k _ _ h n⟩)
  · exact .inr h
theorem tyes {σ : L2.St} {H : Hp} {A B : Hp → Prop} (h : A H) : tYes σ H (fun b H3 => if b = true then A H3 else B H3) := (iteT h : if true = true then A H else B H)
theorem erase_map (f : Int → V) : ∀ (l : List Int) (j : Nat), (l.map f).eraseIdx j = (l.eraseIdx j).map f
  | [], _ => rfl
  | _ :: _, 0 => rfl
  | x :: l, j + 1 => by
    show f x :: (l.map f).eraseIdx j = f x :: (l.eraseIdx j).map f
    rw [erase_map f l j]
theorem free_upd {H : Hp} {a b : Addr} {o : HO} (h : upd H a o b = none) : b ≠ a ∧ H b = none := by
  by_cases e : b = a
  · subst e
    rw [upd_same] at h
    cases h
  · rw [upd_ne e] at h
    exact ⟨e, h⟩
theorem seqIx {i : Int} {n : Nat} (h0 : 0 ≤ i) (h : i < n) : seqIndex? i n = some i.toNat :=
  (ixN_seq (n := n) (i := i) (j := i.toNat) (by unfold ixN; rw [if_pos h0, if_pos h])).1
theorem erase_perm : ∀ (l : List Int) (j : Nat) (y : Int), l[j]? = some y → (y :: l.eraseIdx j).Perm l
  | [], j, y, h => by simp at h
  | x :: l, 0, y, h => by
    have e : x = y := by simpa using h
    rw [e]
    exact List.Perm.refl _
  | x :: l, j + 1, y, h => by
    have e : l[j]? = some y := by simpa using h
    exact (List.Perm.swap x y (l.eraseIdx j)).trans ((erase_perm l j y e).cons x)
abbrev rLenK (K : PySem.W.Frag) : List V → Hp → VK → Prop := fun xs H Q => ∃ p ys, xs = [.ref p] ∧ (SqL K H p ys ∨ SqT K H p ys) ∧ Q (.int ys.length) H
def spPicked (K : PySem.W.Frag) : Sp := fun vs H Q _ => ∃ (p b : Addr) (ns : List Int) (many : Int), vs = [.ref p, .ref b, .int many] ∧ PoolAt H p ∧ SqL K H b (ns.map V.int) ∧ b ≠ p ∧ ns.Nodup ∧ ns.length ≤ 1000 ∧ 0 ≤ many ∧
  ∀ (q : Addr) (H' : Hp) (ms : List Int), H q = none → Kept p H H' → PoolAt H' p → H' q = some (.lst (ms.map V.int)) → ms.Nodup → (∀ x ∈ ms, x ∈ ns) → ms.length = min many.toNat ns.length → ms.Pairwise (· ≤ ·) → Q (.ref q) H'
def hundred : List Int := (List.range 100).map fun i => ((i : Nat) : Int)
theorem hundred_rg : rgV 0 100 = hundred.map V.int := by
  unfold rgV hundred
  rw [List.map_map]
  rfl
theorem hundred_nd : hundred.Nodup := by decide +kernel
theorem hundred_len : hundred.length = 100 := rfl
theorem hundred_mem {x : Int} (h : x ∈ hundred) : 0 ≤ x ∧ x < 100 := by
  unfold hundred at h
  obtain ⟨i, hi, rfl⟩ := List.mem_map.mp h
  have := List.mem_range.mp hi
  omega
theorem cons_nil_fin {α : Type} {xs : List α} {r : Int} (n : Nat) (h : xs.length = n) (r0 : 0 ≤ r) (r1 : r < n) : ∃ v ∈ xs, atI xs r = some v := by
  have hr : r.toNat < xs.length := by omega
  exact ⟨xs[r.toNat], List.getElem_mem hr, atI_int r0 (List.getElem?_eq_getElem hr)⟩
theorem iteB {c : Bool} {A B : Prop} (h1 : c = true → A) (h2 : c = false → B) : if c = true then A else B := by
  cases c
  · exact iteF (h2 rfl)
  · exact iteT (h1 rfl)
theorem sorted_one : ∀ {xs ys : List Int}, xs.Pairwise (· < ·) → ys.Pairwise (· < ·) → (∀ k, k ∈ xs ↔ k ∈ ys) → xs = ys
  | [], [], _, _, _ => rfl
  | [], y :: ys, _, _, h => (List.not_mem_nil ((h y).mpr List.mem_cons_self)).elim
  | x :: xs, [], _, _, h => (List.not_mem_nil ((h x).mp List.mem_cons_self)).elim
  | x :: xs, y :: ys, hx, hy, h => by
    have px := List.pairwise_cons.mp hx
    have py := List.pairwise_cons.mp hy
    have e : x = y := by
      rcases List.mem_cons.mp ((h x).mp List.mem_cons_self) with z | z
      · exact z
      · rcases List.mem_cons.mp ((h y).mpr List.mem_cons_self) with z2 | z2
        · exact z2.symm
        · have h1 := py.1 x z
          have h2 := px.1 y z2
          omega
    subst e
    have r : xs = ys := sorted_one px.2 py.2 fun k => by
      constructor
      · intro hk
        rcases List.mem_cons.mp ((h k).mp (List.mem_cons_of_mem _ hk)) with z | z
        · have h1 := px.1 k hk
          omega
        · exact z
      · intro hk
        rcases List.mem_cons.mp ((h k).mpr (List.mem_cons_of_mem _ hk)) with z | z
        · have h1 := py.1 k hk
          omega
        · exact z
    rw [r]
theorem nodup_few {S : List Int} : ∀ {ms : List Int}, ms.Nodup → (∀ k ∈ ms, k ∈ S) → ms.length ≤ S.length := by
  induction S with
  | nil =>
    intro ms _ h
    cases ms with
    | nil => exact Nat.le_refl _
    | cons x l => exact (List.not_mem_nil (h x List.mem_cons_self)).elim
  | cons y S ih =>
    intro ms nd h
    have z := ih (ms := ms.erase y) (nd.erase y) fun k hk => by
      have h1 := (nd.mem_erase_iff.mp hk)
      rcases List.mem_cons.mp (h k h1.2) with e | e
      · exact absurd e h1.1
      · exact e
    rw [List.length_cons]
    by_cases hy : y ∈ ms
    · rw [List.length_erase_of_mem hy] at z
      omega
    · rw [List.erase_of_not_mem hy] at z
      omega
theorem fnG_fun {P : Program} {w : World} {K : PySem.W.Frag} {mg : Str → Option Value} {base : Heap} {x ql : Str} {st : Stmt} {f : Addr} {fd : FuncData} {N ps : List Str} {k : Nat} {sp : Sp} (F : Fun K x ql st f fd) (S : FnScope N ps (defScope st)) (len : ∀ vs H Q E, sp vs H Q E → vs.length = ps.length)
    (hb : ∀ (cdv : Value) (A : Around) (outer : List Env) (s : Shared) (H : Hp) (vs : List V) (Q : VK) (E : XK), (A.deeper (envOfC ql (defScope st) s.heap.objs.size f cdv)).guards = some [] → Room k (A.deeper (envOfC ql (defScope st) s.heap.objs.size f cdv)) → sp vs H Q E →
      ∃ t, PSs (cxOf CX0 P w K mg base N ql (defScope st) f cdv A outer s H E).nox (defBody st) t ∧ t { nx := fun _ H' => Q .non H', rt := Q } (start N vs) H) : FnG P w K mg base CX0 (k + 1) f fd ps sp := by
  obtain ⟨oc, od, kV, doc, pm, an, cdv, ct, osl, rfl, lk, hcd⟩ := F.ex
  refine fnG_of lk hcd S len fun A outer s H vs Q E hg hr hsp => ?_
  obtain ⟨t, h, q⟩ := hb cdv A outer s H vs Q E hg hr hsp
  exact ⟨t, h.nox, q⟩
section
variable {X : Cx} {e : Expr}
/-- a test that is never asked, an expression that is never reckoned -/
def tNo : TT := fun _ _ _ => False
theorem pt_never : PT X e tNo := ⟨fun _ _ _ _ _ _ h => h.elim⟩
def tNoE : TE := fun _ _ _ => False
theorem pe_never : PE X e tNoE := ⟨fun _ _ _ _ _ _ h => h.elim⟩
end
end Su
/-! ### SC: a set of ints by a comprehension with two clauses -/
namespace Su
open PySem PySem.Spec PyProof.Rows L2
abbrev sc2 (e a b c d : Expr) (sp : Scope) (po : Pos) : Expr := .SetComp e [⟨a, b, [], 0⟩, ⟨c, d, [], 0⟩] sp po
section
variable {prog : Program} {w : World} {A : Around} {R : Result → Shared → Prop} {s : Shared} {e a b c d : Expr} {sp : Scope} {po : Pos} {it acc : Value} {env : Env}
theorem sc2_out : compTurn (sc2 e a b c d sp po) 0 it acc env = (do
      standAt b.pos
      match ← pyNext it with
      | none => pure (.done .next)
      | some v =>
        letOwnedTupleGo a it v
        assign a env v
        let x ← eval d env
        standAt d.pos
        let y ← foldedSetIterable d env x
        let _ ← runOwn (.compStart (sc2 e a b c d sp po) 1 (← holding [y] (pyIter y)) acc env) env
        again (.compLoop (sc2 e a b c d sp po) 0 it acc env)) := by rfl
theorem sc2_in : compTurn (sc2 e a b c d sp po) 1 it acc env = (do
      standAt d.pos
      match ← pyNext it with
      | none => pure (.done .next)
      | some v =>
        letOwnedTupleGo c it v
        assign c env v
        (do let x ← eval e env; standAt e.pos; let _ ← call (.builtin "set.add") [acc, x])
        again (.compLoop (sc2 e a b c d sp po) 1 it acc env)) := by rfl
/-- the tail of a turn that raises: the frame is noted -/
abbrev nb (prog : Program) (w : World) (A : Around) (env : Env) (R : Result → Shared → Prop) : Value → Shared → Prop := notedBy (model prog w) A env fun x u => R (.error x) u
theorem sc2_loop0 (hf : ∀ x, foldedSetIterable d env x = pure x) (J : Nat → Shared → Prop)
    (one : ∀ n u, J n u → wpAny (model prog w) A (pyNext it) (fun r u1 => match r with
      | none => R (.ok .next) u1
      | some v => wpAny (model prog w) A (letOwnedTupleGo a it v) (fun _ u2 => wpAny (model prog w) A (assign a env v) (fun _ u3 =>
          wpAny (model prog w) A (eval d env) (fun x u4 => wpAny (model prog w) A (pyIter x) (fun jt u5 =>
            codeAny (model prog w) A (.compStart (sc2 e a b c d sp po) 1 jt acc env) (fun r u6 => match r with
              | .ok _ => ∃ m, m < n ∧ J m u6
              | .error _ => False) u5) (nb prog w A env R) u4) (nb prog w A env R) u3) (nb prog w A env R) u2) (nb prog w A env R) u1) (nb prog w A env R) u)
    (n : Nat) (h : J n s) : codeAny (model prog w) A (.compLoop (sc2 e a b c d sp po) 0 it acc env) R s := by
  refine codeAny_loop rfl J (fun n u hJ => ?_) n h
  show wpAny _ A ((compTurn (sc2 e a b c d sp po) 0 it acc env).onRaise (fun x => do noteFrame x env; theTreesLotGoes x)) _ _ u
  refine wpAny_noted ?_
  rw [sc2_out]
  refine wpAny_bind (wpAny_standAt (wpAny_bind (wpAny_mono (one n u hJ) (fun r u1 h1 => ?_) fun _ _ k => k)))
  cases r with
  | none => exact wpAny_pure h1
  | some v =>
    refine wpAny_bind (wpAny_mono h1 (fun _ u2 h2 => wpAny_bind (wpAny_mono h2 (fun _ u3 h3 => ?_) fun _ _ k => k)) fun _ _ k => k)
    refine wpAny_bind (wpAny_mono h3 (fun x u4 h4 => ?_) fun _ _ k => k)
    refine wpAny_bind (wpAny_standAt (wpAny_bind (wpAny_of_eq (hf x) (wpAny_bind (wpAny_holding (wpAny_mono h4 (fun jt u5 h5 => ?_) fun _ _ k => k))))))
    refine wpAny_bind (wpAny_runOwn ?_)
    rw [Around.mark_none]
    refine codeAny_mono h5 fun r u6 hr => ?_
    cases r with
    | error x => exact hr.elim
    | ok f =>
      first
        | exact wpAny_pure ⟨rfl, hr⟩
        | exact wpAny_bind (wpAny_pure (wpAny_pure ⟨rfl, hr⟩))
theorem sc2_loop1 (J : Nat → Shared → Prop)
    (one : ∀ n u, J n u → wpAny (model prog w) A (pyNext it) (fun r u1 => match r with
      | none => R (.ok .next) u1
      | some v => wpAny (model prog w) A (letOwnedTupleGo c it v) (fun _ u2 => wpAny (model prog w) A (assign c env v) (fun _ u3 =>
          wpAny (model prog w) A (eval e env) (fun x u4 => wpAny (model prog w) A (call (.builtin "set.add") [acc, x]) (fun _ u5 => ∃ m, m < n ∧ J m u5) (nb prog w A env R) u4) (nb prog w A env R) u3)
            (nb prog w A env R) u2) (nb prog w A env R) u1) (nb prog w A env R) u)
    (n : Nat) (h : J n s) : codeAny (model prog w) A (.compLoop (sc2 e a b c d sp po) 1 it acc env) R s := by
  refine codeAny_loop rfl J (fun n u hJ => ?_) n h
  show wpAny _ A ((compTurn (sc2 e a b c d sp po) 1 it acc env).onRaise (fun x => do noteFrame x env; theTreesLotGoes x)) _ _ u
  refine wpAny_noted ?_
  rw [sc2_in]
  refine wpAny_bind (wpAny_standAt (wpAny_bind (wpAny_mono (one n u hJ) (fun r u1 h1 => ?_) fun _ _ k => k)))
  cases r with
  | none => exact wpAny_pure h1
  | some v =>
    refine wpAny_bind (wpAny_mono h1 (fun _ u2 h2 => wpAny_bind (wpAny_mono h2 (fun _ u3 h3 => ?_) fun _ _ k => k)) fun _ _ k => k)
    refine wpAny_bind (wpAny_bind (wpAny_mono h3 (fun x u4 h4 => wpAny_bind (wpAny_standAt (wpAny_bind (wpAny_mono h4 (fun _ u5 h5 => ?_) fun _ _ k => k)))) fun _ _ k => k))
    first
      | exact wpAny_pure (wpAny_pure ⟨rfl, h5⟩)
      | exact wpAny_pure ⟨rfl, h5⟩
theorem sc2_begin (h0 : codeAny (model prog w) A (.compLoop (sc2 e a b c d sp po) 1 it acc env) R s)
    (h : wpAny (model prog w) A (pyIter it) (fun jt u => codeAny (model prog w) A (.compLoop (sc2 e a b c d sp po) 1 jt acc env) R u) (nb prog w A env R) s) :
    codeAny (model prog w) A (.compStart (sc2 e a b c d sp po) 1 it acc env) R s := by
  refine codeAny_of_tree ?_
  show wpAny _ _ ((compStart (sc2 e a b c d sp po) 1 it acc env).onRaise (fun x => do noteFrame x env; standAt theWindowsPlace)) _ _ s
  refine wpAny_notedAt ?_
  unfold compStart
  show wpAny _ _ (ask >>= _) _ _ s
  refine wpAny_bind (wpAny_askSetting (wpAny_ite ?_))
  split
  · first
      | exact wpAny_pure ⟨rfl, h0⟩
      | exact wpAny_bind (wpAny_pure (wpAny_pure ⟨rfl, h0⟩))
  · refine wpAny_bind (wpAny_rule ?_)
    show wpAny _ _ (standAt d.pos >>= _) _ _ s
    exact wpAny_bind (wpAny_standAt (wpAny_bind (wpAny_mono h (fun jt u k => wpAny_pure ⟨rfl, k⟩) fun _ _ k => k)))
end
end Su
namespace Su
open PySem PySem.Spec PyProof.Rows L2
section
variable {X : Cx}
/-- what the comprehension asks: the outer walk, in each of its turns the inner one, and each int put into the set -/
def tSC (w : World) (wo : TI) (go : TG) (wn : TI) (gn : TG) (te : TE) (vs vs1 : List Nat) : TE := fun σ H Q => wo σ H fun J H1 => ∀ D, H1 D = none →
  ∃ W : Nat → Nat → Hp → Prop, (∃ m, W 0 m (upd H1 D (SetO w D (fun _ => false) 0))) ∧ ∀ i m H, W i m H →
    (J.stop i H ∧ Q (.ref D) H) ∨
    (J.go i H ∧ ∃ Nx : Hp → Prop, (∀ H', Nx H' → ∃ m', m' < m ∧ W (i + 1) m' H') ∧ ∀ x H', J.yld i H x H' → go x (wipe σ vs) H' fun σ2 H2 => wipe σ2 vs = wipe σ vs ∧
      wn σ2 H2 fun L H3 => ∃ U : Nat → Nat → Hp → Prop, (∃ m, U 0 m H3) ∧ ∀ j k H, U j k H →
        (L.stop j H ∧ Nx H) ∨
        (L.go j H ∧ ∃ Ny : Hp → Prop, (∀ H', Ny H' → ∃ k', k' < k ∧ U (j + 1) k' H') ∧ ∀ y H', L.yld j H y H' → gn y (wipe σ2 vs1) H' fun σ3 H4 => wipe σ3 vs1 = wipe σ2 vs1 ∧
          te σ3 H4 fun z H5 => ∃ (c : Int) (S : Int → Bool) (n : Nat), z = .int c ∧ H5 D = some (SetO w D S n) ∧ n + 1 < scanBound ∧
            Ny (upd H5 D (SetO w D (fun j => S j || decide (j = c)) (if S c = true then n else n + 1)))))
abbrev setE (w : World) : Obj := { cls := .type "set", dict := none, data := .set #[] 0 (.fresh 0 0 (!w.params.followText "set-order")) }
theorem put_int {pins : List (Addr × Obj)} {σ : L2.St} {H : Hp} {s : Shared} {E : Value → Shared → Prop} {D : Addr} {S : Int → Bool} {n : Nat} {k : Int} {v : Value} {Q : Value → Shared → Prop}
    (I : Inv X pins σ H s) (hD : H D = some (SetO X.w D S n)) (few : n + 1 < scanBound) (r : RelV (.int k) v)
    (h : ∀ t, Inv X pins σ (upd H D (SetO X.w D (fun j => S j || decide (j = k)) (if S k = true then n else n + 1))) t → Q .none t) :
    wpAny (model X.prog X.w) X.A (call (.builtin "set.add") [.ref D, v]) Q E s := by
  obtain ⟨tk, rfl⟩ := r
  refine setR_add (setO_get I hD) few fun g sb new => ?_
  have there : ∃ u, g.get? D = some u := by
    have ⟨o, _, _, _, ho, _⟩ := new
    exact ⟨o, ho⟩
  refine h _ (I.write (e := D) (t' := s.toks + 1) (by rw [hD]; trivial) (.inl rfl) (fun b u hb hu => ?_) there (setO_new new))
  exact (sb.2 b hb).trans hu
theorem pe_sc2 {e a b c d : Expr} {sp : Scope} {own : List (Str × Nat)} {vs1 : List Nat} {pos : Pos} {wo wn : TI} {go gn : TG} {te : TE} (hc : X.calm = true) (hN : X.N.Nodup) (pio : PI X a b wo)
    (ok : BlkOk X.N X.env.scope sp own) (hv : ∀ i ∈ vs1, i ∈ own.map (·.2))
    (pgo : ∀ (s : Shared) (H : Hp) (C : Addr) (cl : List (Str × Addr)) (fp : List Addr), PG (X.blk s H sp (compEnvC sp cl C X.env) fp) a go)
    (pin : ∀ (s : Shared) (H : Hp) (C : Addr) (cl : List (Str × Addr)) (fp : List Addr), PI (X.blk s H sp (compEnvC sp cl C X.env) fp) c d wn)
    (pgn : ∀ (s : Shared) (H : Hp) (C : Addr) (cl : List (Str × Addr)) (fp : List Addr), PG (X.blk s H sp (compEnvC sp cl C X.env) fp) c gn)
    (pe : ∀ (s : Shared) (H : Hp) (C : Addr) (cl : List (Str × Addr)) (fp : List Addr), PE (X.blk s H sp (compEnvC sp cl C X.env) fp) e te)
    (fo : ∀ x, foldedSetIterable b X.env x = pure x := by intro _; rfl) (fn : ∀ env x, foldedSetIterable d env x = pure x := by intro _ _; rfl) :
    PE X (sc2 e a b c d sp pos) (tSC X.w wo go wn gn te (own.map (·.2)) vs1) := by
  refine ⟨fun pins s σ H Q I hq => ?_⟩
  rw [PpSet.eval_SetComp]
  have cl0 : ∀ y ∈ sp.names, y.2 = .free → ∃ k, X.env.cells.lookup y.1 = some k := by
    intro y hy z
    rcases ok.free y hy z with k | k
    · exact I.ok.has _ (.inl k)
    · exact I.ok.has _ (.inr k)
  refine wpAny_comprehension_free (use := none) rfl fo (closure_ok cl0) ok.kind (fun y hy z => by rw [ok.uniq y hy, z]) ?_
  refine thn (pio.run pins s σ H _ I hq) fun xv s1 hx => thn hx fun iv s2 h2 => ?_
  obtain ⟨it, fa, tn, J, Hb, rfl, Ib, T, stb, fb, q⟩ := h2
  refine PpSet.newSet_ok (newEnv_comp ?_)
  generalize eD : s2.heap.objs.size = D
  obtain ⟨W, ⟨m0, w0⟩, turn⟩ := q D (Ib.hok.fresh (Nat.le_of_eq eD))
  generalize e3 : ({ s2 with heap := s2.heap.push (setE X.w) } : Shared) = s3
  have hp3 : s3.heap = s2.heap.push (setE X.w) := by rw [← e3]
  have Ic : Inv X pins σ (upd Hb D (SetO X.w D (fun _ => false) 0)) s3 := by
    rw [← e3]
    refine Ib.laid (t' := s2.toks) (fun _ _ z => Heap.get?_push_of_some _ z) (Nat.le_of_eq eD) ?_
    rw [← eD]
    exact setO_new (setR_fresh X.w)
  have small : ∀ x ∈ fa, x < s2.heap.objs.size := by
    intro x hx
    obtain ⟨o, z, _⟩ := T.obj _ _ stb x hx
    exact Heap.lt_size z
  have fc : ∀ x ∈ fa, FpOk X pins (upd Hb D (SetO X.w D (fun _ => false) 0)) x ∧ x < s3.heap.objs.size := by
    intro x hx
    have lt := small x hx
    constructor
    · refine ⟨?_, (fb x hx).2⟩
      rw [upd_ne (by rw [← eD]; exact Nat.ne_of_lt lt)]
      exact (fb x hx).1
    · rw [hp3, Heap.size_push]
      exact Nat.lt_succ_of_lt lt
  have stc : tn 0 s3.heap := T.keep _ _ _ stb fun _ _ _ z => by
    rw [hp3]
    exact Heap.get?_push_of_some _ z
  have Id := block_start Ic ok hN fc
  have qgo := pgo s3 (upd Hb D (SetO X.w D (fun _ => false) 0)) s3.heap.objs.size (cellsFrom (s3.heap.objs.size + 1) sp.names (cloFrom X.env.cells sp.names [])) fa
  have qin := pin s3 (upd Hb D (SetO X.w D (fun _ => false) 0)) s3.heap.objs.size (cellsFrom (s3.heap.objs.size + 1) sp.names (cloFrom X.env.cells sp.names [])) fa
  have qgn := pgn s3 (upd Hb D (SetO X.w D (fun _ => false) 0)) s3.heap.objs.size (cellsFrom (s3.heap.objs.size + 1) sp.names (cloFrom X.env.cells sp.names [])) fa
  have qe := pe s3 (upd Hb D (SetO X.w D (fun _ => false) 0)) s3.heap.objs.size (cellsFrom (s3.heap.objs.size + 1) sp.names (cloFrom X.env.cells sp.names [])) fa
  have nofa : ∀ x ∈ fa, (upd Hb D (SetO X.w D (fun _ => false) 0)) x = none := fun x hx => (fc x hx).1.1
  show codeAny _ _ (.compStart (sc2 e a b c d sp pos) 0 (.ref it) (.ref D) (compEnvC sp (cellsFrom (s3.heap.objs.size + 1) sp.names (cloFrom X.env.cells sp.names [])) s3.heap.objs.size X.env)) _ { s3 with heap := pushCells (s3.heap.push { cls := .type "dict", data := .dict #[] }) sp.names }
  generalize eE : compEnvC sp (cellsFrom (s3.heap.objs.size + 1) sp.names (cloFrom X.env.cells sp.names [])) s3.heap.objs.size X.env = en at Id qgo qin qgn qe ⊢
  have locE : en.locals = s3.heap.objs.size := by
    subst eE
    rfl
  generalize eH : upd Hb D (SetO X.w D (fun _ => false) 0) = Hc at Ic Id qgo qin qgn qe w0 nofa fc
  generalize e4 : ({ s3 with heap := pushCells (s3.heap.push { cls := .type "dict", data := .dict #[] }) sp.names } : Shared) = s4 at Id ⊢
  have std : tn 0 s4.heap := T.keep _ _ _ stc fun _ _ _ z => by
    rw [← e4]
    exact pushCells_keeps _ _ _ _ (Heap.get?_push_of_some _ z)
  have foot : ∀ {τ : L2.St} {G : Hp} {t : Shared}, Inv (X.blk s3 Hc sp en fa) [] τ G t → (∀ x ∈ fa, G x = none) → ∀ x ∈ fa, FpOk (X.blk s3 Hc sp en fa) [] G x := by
    intro τ G t It hn x hx
    refine ⟨hn x hx, (It.ok.exf x hx).1, It.ok.exfs x hx, .inl hx, fun y k z => (It.ok.exf x hx).2 y k z, fun p hp => ?_⟩
    exact absurd (show p ∈ ([] : List (Addr × Obj)) ++ [] from hp) (by simp)
  have main : codeAny (model X.prog X.w) X.A (.compLoop (sc2 e a b c d sp pos) 0 (.ref it) (.ref D) en) (compPost (model X.prog X.w) X.A X.xe none (fun u t => EP X pins σ Q u t) (.ref D) s3.heap.objs.size) s4 := by
    refine sc2_loop0 (fn en) (fun n t => ∃ i G, Inv (X.blk s3 Hc sp en fa) [] (wipe σ (own.map (·.2))) G t ∧ tn i t.heap ∧ (∀ x ∈ fa, G x = none) ∧ W i n G) ?_ m0 ⟨0, Hc, Id, std, nofa, w0⟩
    rintro n s5 ⟨i, H5, I5, st5, n5, w5⟩
    rcases turn i n H5 w5 with ⟨stop, qq⟩ | ⟨hgo, Nx, hNx, step⟩
    · refine thnF (T.done (X.blk s3 Hc sp en fa) rfl rfl rfl hc i [] s5 _ H5 (fun _ _ => False) I5 (foot I5 n5) st5 stop) fun r s6 ⟨hr, I6⟩ => ?_
      subst hr
      have I7 : Inv X pins σ H5 s6 := by
        refine Ic.call' (ch := fa) I6.os I6.base I6.hok I6.bare fun x hx => ?_
        have z := (fc x hx).1.2
        exact ⟨z.2.2.1, z.1, z.2.2.2.1, z.2.2.2.2⟩
      have nl : H5 s3.heap.objs.size = none := by
        have z : H5 en.locals = none := I6.free
        rwa [locE] at z
      obtain ⟨m, hn, _⟩ := I6.loc
      have hn2 : s6.heap.Ns en.locals m := hn
      rw [locE] at hn2
      obtain ⟨f0, f1, f2, f3, f4, f5⟩ := Ic.fpOk (Nat.le_refl _) nl
      refine ⟨m, hn2, fun g sb => ?_⟩
      exact ⟨.ref D, H5, I7.turned (t' := s6.toks) (fun y o hy z => (sb.2 y hy).trans z) f0 f1 f3 f4 f5, rfl, qq⟩
    · refine thnF (T.item (X.blk s3 Hc sp en fa) rfl rfl rfl hc i [] s5 _ H5 (fun _ _ => False) I5 (foot I5 n5) st5 hgo) fun r s6 ⟨u, hr, h6⟩ => ?_
      subst hr
      refine thnF h6 fun _ s7 ⟨x, H7, I7, r7, y7, st7, n7⟩ => ?_
      refine thnF (qgo.run _ s7 _ H7 x u _ (I7.pinned (foot I7 n7) (T.obj _ _ st7)) r7 (step x H7 y7)) fun _ s8 ⟨σ8, H8, I8, hw8, q8⟩ => ?_
      have shut : ∀ {τ : L2.St} {t : Shared} {G : Hp}, Inv (X.blk s3 Hc sp en fa) ([] ++ pinsAt fa s7.heap) τ G t → (wipe σ (own.map (·.2))).length = τ.length →
          (∀ (j : Nat) v, (wipe σ (own.map (·.2)))[j]? = some (some v) → τ[j]? = some (some v)) → Nx G →
          ∃ m, m < n ∧ ∃ i G, Inv (X.blk s3 Hc sp en fa) [] (wipe σ (own.map (·.2))) G t ∧ tn i t.heap ∧ (∀ x ∈ fa, G x = none) ∧ W i m G := by
        intro τ t G It hl hk nx
        obtain ⟨m', lt, w'⟩ := hNx G nx
        have held : ∀ y ∈ fa, ∀ o, s7.heap.get? y = some o → t.heap.get? y = some o ∧ G y = none := by
          intro y hy o z
          have k := It.pin (y, o) (List.mem_append_right _ (List.mem_append_right _ (mem_pinsAt hy z)))
          exact ⟨k.1, k.2.1⟩
        refine ⟨m', lt, i + 1, G, (It.unpinned (pins := [])).weak hl hk, T.keep _ _ _ st7 fun y hy o z => (held y hy o z).1, fun y hy => ?_, w'⟩
        obtain ⟨o, z, _⟩ := T.obj _ _ st7 y hy
        exact (held y hy o z).2
      have len8 : (wipe σ (own.map (·.2))).length = σ8.length := by
        rw [← hw8, wipe_length]
      have keep8 : ∀ (j : Nat) v, (wipe σ (own.map (·.2)))[j]? = some (some v) → (wipe σ8 vs1)[j]? = some (some v) := by
        intro j v z
        rw [← hw8] at z
        obtain ⟨z1, z2⟩ := wipe_some z
        rw [wipe_out fun k => z2 (hv j k)]
        exact z1
      refine thnF (qin.run _ s8 σ8 H8 _ I8 q8) fun xv s9 hx => thnF hx fun iw s10 h10 => ?_
      obtain ⟨jt, fi, tm, L, H10, rfl, I10, T1, st10, f10, U, ⟨m1, u1⟩, turn1⟩ := h10
      have foot1 : ∀ {G : Hp}, (∀ y ∈ fi, G y = none) → ∀ y ∈ fi, FpOk (X.blk s3 Hc sp en fa) ([] ++ pinsAt fa s7.heap) G y := fun hn y hy => ⟨hn y hy, (f10 y hy).2⟩
      have inner : codeAny (model X.prog X.w) X.A (.compLoop (sc2 e a b c d sp pos) 1 (.ref jt) (.ref D) en)
          (fun r t => match r with
            | .ok _ => ∃ m, m < n ∧ ∃ i G, Inv (X.blk s3 Hc sp en fa) [] (wipe σ (own.map (·.2))) G t ∧ tn i t.heap ∧ (∀ x ∈ fa, G x = none) ∧ W i m G
            | .error _ => False) s10 := by
        refine sc2_loop1 (fun k t => ∃ j G, Inv (X.blk s3 Hc sp en fa) ([] ++ pinsAt fa s7.heap) (wipe σ8 vs1) G t ∧ tm j t.heap ∧ (∀ y ∈ fi, G y = none) ∧ U j k G) ?_ m1
          ⟨0, H10, I10.weak (wipe_length _ _) (fun j v z => (wipe_some z).1), st10, fun y hy => (f10 y hy).1, u1⟩
        rintro k s11 ⟨j, H11, I11, st11, n11, w11⟩
        rcases turn1 j k H11 w11 with ⟨stop1, nx1⟩ | ⟨go1, Ny, hNy, step1⟩
        · refine thnF (T1.done (X.blk s3 Hc sp en fa) rfl rfl rfl hc j _ s11 (wipe σ8 vs1) H11 (fun _ _ => False) I11 (foot1 n11) st11 stop1) fun r s12 ⟨hr, I12⟩ => ?_
          subst hr
          exact shut I12 (len8.trans (wipe_length σ8 vs1).symm) keep8 nx1
        · refine thnF (T1.item (X.blk s3 Hc sp en fa) rfl rfl rfl hc j _ s11 (wipe σ8 vs1) H11 (fun _ _ => False) I11 (foot1 n11) st11 go1) fun r s12 ⟨v1, hr, h12⟩ => ?_
          subst hr
          refine thnF h12 fun _ s13 ⟨x1, H13, I13, r13, y13, st13, n13⟩ => ?_
          refine thnF (qgn.run _ s13 (wipe σ8 vs1) H13 x1 v1 _ (I13.pinned (foot1 n13) (T1.obj _ _ st13)) r13 (step1 x1 H13 y13)) fun _ s14 ⟨σ14, H14, I14, hw14, q14⟩ => ?_
          refine thnF (qe.run _ s14 σ14 H14 _ I14 q14) fun z s15 ⟨yv, H15, I15, r15, cc, S, nn, ey, hD15, few, nx⟩ => ?_
          subst ey
          refine put_int (X := X.blk s3 Hc sp en fa) I15 hD15 few r15 fun s16 I16 => ?_
          obtain ⟨m', lt, w'⟩ := hNy _ nx
          have held : ∀ y ∈ fi, ∀ o, s13.heap.get? y = some o → s16.heap.get? y = some o ∧ (upd H15 D (SetO X.w D (fun j => S j || decide (j = cc)) (if S cc = true then nn else nn + 1))) y = none := by
            intro y hy o z
            have k := I16.pin (y, o) (List.mem_append_right _ (List.mem_append_right _ (mem_pinsAt hy z)))
            exact ⟨k.1, k.2.1⟩
          refine ⟨m', lt, j + 1, _, I16.unpinned.weak (by rw [← hw14, wipe_length]) (fun j v z => by rw [← hw14] at z; exact (wipe_some z).1), T1.keep _ _ _ st13 fun y hy o z => (held y hy o z).1, fun y hy => ?_, w'⟩
          obtain ⟨o, z, _⟩ := T1.obj _ _ st13 y hy
          exact (held y hy o z).2
      exact sc2_begin inner (T1.self X.A 0 _ _ _ st10 inner)
  exact PpSet.codeAny_compStart_set main (T.self X.A 0 _ _ _ std main)
end
end Su
/-! ### SE: sets of ints: set(l), sorted(s) of any size -/
namespace Su
open PySem PySem.Spec PyProof.Rows L2
/-- the set that set(..) begins with -/
abbrev set0 (w : World) : Obj := { cls := .type "set", dict := none, data := .set #[] 0 (.fresh 0 0 (!w.params.followText "set-order")) }
section
variable {P : Program} {w : World} {A : Around} {E : Value → Shared → Prop} {s : Shared}
theorem set_of_list {l : Addr} {its : Array Value} (ns : List Int) {Q : Value → Shared → Prop} (hh : A.handled = none) (hl : s.heap.IsList l its) (ia : IntsAre its.toList ns) (few : ns.length + 1 < scanBound)
    (q : ∀ (h' : Heap) (tk c : Nat), SetR w h' s.heap.objs.size (fun j => decide (j ∈ ns)) c → c ≤ ns.length → (∀ b o, s.heap.get? b = some o → h'.get? b = some o) → Q (.ref s.heap.objs.size) { s with heap := h', toks := tk }) :
    wpAny (model P w) A (call (.type "set") [.ref l]) Q E s := by
  have sz : its.size = ns.length := by
    have z := IntsAre.length ia
    rwa [Array.length_toList] at z
  obtain ⟨c0, tl0, m0⟩ := F.called_set.mro
  have m1 := F.called_set.made
  have m2 := F.called_set.sub
  have m3 := F.called_set.notType
  have m4 := F.called_set.canCreate
  have m5 := F.typeCall_set_1 (.ref l)
  refine wpAny_call (codeAny_of_tree ?_)
  show wpAny _ _ (callAny (.type "set") _) _ _ _
  refine wpAny_pure ⟨Code.quiet_builtin _ (by decide +kernel), codeAny_builtin F.entry_type_call ?_⟩
  rw [Around.under_plain (weight_type_call_type "set" [.ref l] []) rfl]
  repeat (any_goals (first | assumption | wp_step))
  refine codeAny_mono (code_set_led1 (.ref l) (E := E) (Q₁ := fun x t => x = .ref s.heap.objs.size ∧ t = { s with heap := s.heap.push (set0 w) }) ⟨rfl, rfl⟩) fun r t hr => ?_
  match r, hr with
  | .error e, hr => exact hr
  | .ok .next, hr => exact hr.elim
  | .ok .brk, hr => exact hr.elim
  | .ok .cont, hr => exact hr.elim
  | .ok (.ret x), hr =>
    obtain ⟨rfl, rfl⟩ := hr
    have at0 : (s.heap.push (set0 w)).get? s.heap.objs.size = some (set0 w) := Heap.get?_push_size _ rfl
    have ty0 : Shared.TypeIs { s with heap := s.heap.push (set0 w) } (.ref s.heap.objs.size) "set" := ⟨_, at0, rfl⟩
    have n1 := F.called_set.init.lookup
    have n2 := F.called_set.init.bind (.ref s.heap.objs.size)
    repeat (any_goals (first | assumption | wp_step))
    refine codeAny_mono (codeAny_call_builtin (R := wants (fun r t => r = .none ∧ ∃ h' tk c, t = { s with heap := h', toks := tk } ∧ SetR w h' s.heap.objs.size (fun j => decide (j ∈ ns)) c ∧ c ≤ ns.length ∧ ∀ b o, s.heap.get? b = some o → h'.get? b = some o) E)
      F.called_set.init.plain F.entry_set_init (check_set_init_1 ty0 ?_)) fun r2 t2 hr2 => ?_
    · obtain ⟨⟨oc, od, odt, os⟩, ho, hc, nl, hd⟩ := hl
      simp only at hc hd
      subst hc hd
      have lt : l < s.heap.objs.size := Heap.lt_size ho
      have ho1 : (s.heap.push (set0 w)).get? l = some { cls := .type "list", dict := od, data := .seq its nl, slots := os } := Heap.get?_push_of_some _ ho
      have isl : (s.heap.push (set0 w)).IsList l its := ⟨_, ho1, rfl, nl, rfl⟩
      have p1 := F.sub_list_set
      have p2 := F.sub_list_frozenset
      have p3 : (Value.type "list" == Value.type "dict") = false := by decide
      unfold Builtin.«set.__init__» noKeywords Builtin.Frozenset.updateFrom
      generalize hPI : pyIter = PI
      wp_walk
      subst hPI
      refine wpAny_pyIter_list isl (wpAny_bind (wpAny_runValue ?_))
      have size1 : (s.heap.push (set0 w)).objs.size = s.heap.objs.size + 1 := Heap.size_push ..
      have ap : l ≠ (s.heap.push (set0 w)).objs.size := by
        rw [size1]
        exact Nat.ne_of_lt (Nat.lt_succ_of_lt lt)
      have ap2 : s.heap.objs.size ∉ [(s.heap.push (set0 w)).objs.size, l] := by
        rw [size1]
        simp only [List.mem_cons, List.not_mem_nil, or_false, not_or]
        exact ⟨Nat.ne_of_lt (Nat.lt_succ_self _), Nat.ne_of_gt lt⟩
      refine set_update_ints ((Walks.list (by simp [hh]) _ l ap its).toS) s.heap.objs.size ap2 ns sz few (fun i v hv => ?_) (its.size - 0) 0 _ (by omega) (Nat.zero_le _) ⟨⟨_, Heap.get?_push_size _ rfl, rfl, rfl⟩, isl.push _⟩ ⟨0, Nat.le_refl 0, setR_new_at (Heap.get?_push_of_some _ at0)⟩ fun t3 c3 mv hc3 hS3 => ?_
      · have hi : i < ns.length := by
          rw [← sz]
          exact (Array.getElem?_eq_some_iff.mp hv).1
        obtain ⟨tk, e⟩ := PyProof.Rows.IntsAre.int_at ia i v (by rw [Array.getElem?_toList]; exact hv)
        refine ⟨ns[i], tk, List.getElem?_eq_getElem hi, ?_⟩
        rw [e, List.getD_eq_getElem?_getD, List.getElem?_eq_getElem hi] <;> rfl
      · obtain ⟨h3, g3, d3, tk3, os3⟩ := t3
        obtain rfl : g3 = s.gens := mv.gens
        obtain rfl : d3 = s.drawn := mv.drawn
        obtain rfl : os3 = s.os := mv.os
        show wpAny _ _ _ _ _ _
        refine wpAny_pure ?_
        show wpAny _ _ (ret Value.none) _ _ _
        refine wpAny_pure ⟨rfl, h3, tk3, c3, rfl, hS3, by omega, fun b o e => ?_⟩
        have bl : b < s.heap.objs.size := Heap.lt_size e
        refine mv.heap b o ?_ (Heap.get?_push_of_some _ (Heap.get?_push_of_some _ e))
        rw [size1]
        simp only [List.mem_cons, List.not_mem_nil, or_false, not_or]
        exact ⟨Nat.ne_of_lt bl, Nat.ne_of_lt (Nat.lt_succ_of_lt bl)⟩
    · match r2, hr2 with
      | .error e, hr2 => exact hr2
      | .ok .next, hr2 => exact hr2.elim
      | .ok .brk, hr2 => exact hr2.elim
      | .ok .cont, hr2 => exact hr2.elim
      | .ok (.ret y), hr2 =>
        obtain ⟨rfl, h', tk, c, rfl, hS, hc, hk⟩ := hr2
        repeat (any_goals (first | assumption | wp_step))
        exact q _ _ _ hS hc hk
end
/-- a set of ints whose members are those of l -/
def SetIs (w : World) (H : Hp) (D : Addr) (l : List Int) : Prop := ∃ (S : Int → Bool) (n : Nat) (d : List Int), H D = some (SetO w D S n) ∧ d.Nodup ∧ d.length = n ∧ (∀ k, S k = true ↔ k ∈ d) ∧ ∀ k, k ∈ d ↔ k ∈ l
theorem SetIs.add {w : World} {H : Hp} {D : Addr} {l : List Int} (h : SetIs w H D l) {A : List Int} (hA : A.length < 1000) (hl : ∀ k ∈ l, k ∈ A) (c : Int) :
    ∃ (S : Int → Bool) (n : Nat), H D = some (SetO w D S n) ∧ n + 1 < scanBound ∧ ∀ (H' : Hp), H' D = some (SetO w D (fun j => S j || decide (j = c)) (if S c = true then n else n + 1)) → SetIs w H' D (l ++ [c]) := by
  obtain ⟨S, n, d, e, nd, hn, hS, hd⟩ := h
  have z := nodup_few (S := A) nd fun k hk => hl k ((hd k).mp hk)
  refine ⟨S, n, e, by unfold scanBound; omega, fun H' e' => ?_⟩
  by_cases hc : S c = true
  · rw [if_pos hc] at e'
    refine ⟨_, n, d, e', nd, hn, fun k => ?_, fun k => ?_⟩
    · rw [Bool.or_eq_true, decide_eq_true_eq, hS k]
      constructor
      · rintro (h | rfl)
        · exact h
        · exact (hS k).mp hc
      · exact .inl
    · rw [List.mem_append, List.mem_singleton, hd k]
      constructor
      · exact .inl
      · rintro (h | rfl)
        · exact h
        · exact (hd k).mp ((hS k).mp hc)
  · rw [if_neg hc] at e'
    refine ⟨_, n + 1, c :: d, e', List.nodup_cons.mpr ⟨fun h => hc ((hS c).mpr h), nd⟩, by rw [List.length_cons, hn], fun k => ?_, fun k => ?_⟩
    · rw [Bool.or_eq_true, decide_eq_true_eq, hS k, List.mem_cons]
      exact Or.comm
    · rw [List.mem_append, List.mem_singleton, List.mem_cons, hd k]
      exact Or.comm
theorem SetIs.of {w : World} {h : Heap} {H : Hp} {D : Addr} {S : Int → Bool} {c : Nat} {l : List Int} (R : SetR w h D S c) (e : H D = some (SetO w D S c)) (hl : ∀ k, S k = true ↔ k ∈ l) : SetIs w H D l := by
  obtain ⟨o, es, ep, t, ho, hex, hd, g, nd, hm, hb, hf, hn, _⟩ := R
  exact ⟨S, c, es.toList.map keyOf, e, nd, by rw [List.length_map, Array.length_toList]; exact hn, hm, fun k => (hm k).symm.trans (hl k)⟩
section
variable {X : Cx}
/-- set(l), l a list of ints -/
def rSetL (w : World) (K : PySem.W.Frag) : List V → Hp → VK → Prop := fun xs H Q => ∃ (l : Addr) (ns : List Int), xs = [.ref l] ∧ SqL K H l (ns.map V.int) ∧ ns.length ≤ 4000 ∧ ∀ (p : Addr) (H' : Hp), Same H H' → H p = none → SetIs w H' p ns → Q (.ref p) H'
theorem cr_setL (hc : X.calm = true) : CallR X (.type "set") (rSetL X.w X.K) := by
  intro pins s σ H xs us Q I r h
  obtain ⟨l, ns, rfl, hq, hl, q⟩ := h
  rw [Vals.ref1 r]
  obtain ⟨its, rv, pl, hz⟩ := I.list hq
  refine set_of_list ns (I.ok.hd hc) pl.isList (by simpa using ints_of rv) (by unfold scanBound; omega) fun h' tk c hR hc' hk => ?_
  have new : H s.heap.objs.size = none := I.hok.fresh (Nat.le_refl _)
  refine ⟨.ref s.heap.objs.size, _, I.laid (t' := tk) hk (Nat.le_refl _) (setO_new hR), rfl, q _ _ (same_upd new) new ?_⟩
  exact SetIs.of hR upd_same fun k => decide_eq_true_iff
/-- sorted(s), s a set of ints -/
theorem sorted_setA {P : Program} {w : World} {A : Around} {E : Value → Shared → Prop} {s : Shared} {a : Addr} {S : Int → Bool} {n : Nat} {Q : Value → Shared → Prop} (R : SetR w s.heap a S n) (hh : A.handled = none)
    (q : ∀ (t : Shared) (p : Addr) (out : Array Value) (c : Nat) (ns : List Int), (∀ b o, s.heap.get? b = some o → t.heap.get? b = some o) → t.gens = s.gens → t.os = s.os → s.heap.objs.size ≤ p →
      t.heap.get? p = some (seqObj "list" out c) → IntsAre out.toList ns → ns.Pairwise (· < ·) → (∀ k, k ∈ ns ↔ S k = true) → ns.length < 4096 → Q (.ref p) t) :
    wpAny (model P w) A (call (.builtin "sorted") [.ref a]) Q E s := by
  obtain ⟨o, es, ep, t, ho, hex, hd, g, nd, hm, hb, hf, hn, hr, hl⟩ := R
  refine Calls.call_function_entry kind_sorted plain_sorted entry_sorted (args_sorted1 _) ?_
  unfold Builtin.«sorted»
  refine wpAny_bind (m := checkCount "sorted" 1 1 _) (wpAny_pure (wpAny_bind (collect_set (A := A.in1) hh ⟨o, ho, hex.1, hd⟩ hf hb hr hl fun s1 vs k1 hz g1 o1 pm => ?_)))
  have len : vs.length = es.size := by
    rw [pm.length_eq, List.length_map, Array.length_toList]
  have hI : IntsAre vs (vs.map Builtin.Re.reRawOf) := L2.ints_of vs fun v hv => by
    obtain ⟨x, hx, z⟩ := List.mem_map.mp (pm.mem_iff.mp hv)
    obtain ⟨k, tk, h1, _⟩ := g x hx
    exact ⟨k, tk, z ▸ h1⟩
  have pk : (vs.map Builtin.Re.reRawOf).Perm (es.toList.map keyOf) := by
    have z := pm.map Builtin.Re.reRawOf
    rwa [List.map_map] at z
  have small : vs.length ≤ sizeLine := by
    have : es.size < 4096 := hb
    rw [len, sizeLine_eq]
    omega
  refine wpAny_bind (wpAny_newList ?_ small)
  have at1 : (s1.heap.push (seqObj "list" vs.toArray 0)).get? s1.heap.objs.size = some (seqObj "list" vs.toArray 0) := Heap.get?_push_size _ rfl
  refine wpAny_bind (wpAny_holding (wpAny_call_entry slot_list_sort ⟨_, at1, rfl⟩ entry_list_sort (SrtO.list_sort_ord SrtO.swo_int at1 small (fun h2 => SrtO.ints_sortable hI h2) fun out h1 h2 => ⟨_, rfl, ?_⟩) (args_list_sort _)))
  obtain ⟨k3, k4, k5⟩ := SrtO.ints_out hI h1 h2
  obtain ⟨c, hc⟩ := sortedHeap_at (vs := vs) (out := out.toArray) at1
  have pn := k4.trans pk
  refine wpAny_pure ⟨_, rfl, q _ s1.heap.objs.size out.toArray c (out.map SrtO.iv) (fun b u z => ?_) g1 o1 hz hc k3 (lt_of_le_nodup _ k5 (pn.nodup_iff.mpr nd)) (fun k => by rw [pn.mem_iff, ← hm k]) ?_⟩
  · have y := k1 b u z
    have lt := Heap.lt_size y
    show (sortedHeap (s1.heap.push (seqObj "list" vs.toArray 0)) s1.heap.objs.size vs out.toArray).get? b = some u
    rw [sortedHeap_old (Nat.ne_of_lt lt) (by rw [size_push']; exact Nat.lt_succ_of_lt lt)]
    exact Heap.get?_push_of_some _ y
  · rw [pn.length_eq, List.length_map, Array.length_toList]
    exact hb
def rSortedS (w : World) : List V → Hp → VK → Prop := fun vs H Q => ∃ (a : Addr) (l : List Int), vs = [.ref a] ∧ SetIs w H a l ∧ ∀ (ns : List Int) (p : Addr), ns.Pairwise (· < ·) → (∀ k : Int, k ∈ ns ↔ k ∈ l) → H p = none → Q (.ref p) (upd H p (.lst (ns.map V.int)))
theorem cr_sortedS (hc : X.calm = true) : CallR X (.builtin "sorted") (rSortedS X.w) := by
  intro pins s σ H vs us Q I r h
  obtain ⟨a, l, rfl, ⟨S, n, d, ha, nd, hn, hS, hd⟩, q⟩ := h
  rw [Vals.ref1 r]
  refine sorted_setA (setO_get I ha) (I.ok.hd hc) fun t p out c ns k g o hp hg hi hs hm hl => ?_
  have len : (ns.map V.int).length ≤ sizeLine := by
    rw [List.length_map, sizeLine_eq]
    omega
  have new : H p = none := I.hok.fresh hp
  have J : Inv X pins σ (upd H p (.lst (ns.map V.int))) { s with heap := t.heap, gens := t.gens, drawn := t.drawn, toks := t.toks } :=
    I.call (ch := []) (Un.laid k hp new) (I.hok.laid k hp ⟨len, out.toList, c, vals_of_ints hi, hg⟩) (by rw [g]; exact I.bare) (fun _ z => nomatch z)
  have et : t = { s with heap := t.heap, gens := t.gens, drawn := t.drawn, toks := t.toks } := by
    cases t
    cases s
    cases o
    rfl
  rw [et]
  exact ⟨.ref p, _, J, rfl, q ns p hs (fun k => (hm k).trans ((hS k).trans (hd k))) new⟩
end
end Su
/-! ### WA: webs in the heap -/
namespace Su
open PySem PySem.Spec PyProof.Rows L2
/-- a tuple, by whatever it was made -/
def T2 (H : Hp) (a : Addr) (xs : List V) : Prop := PTup H a xs ∨ H a = some (.tup xs)
theorem T2.sq {K : PySem.W.Frag} {H : Hp} {a : Addr} {xs : List V} (h : T2 H a xs) : SqT K H a xs := by
  rcases h with h | h
  · exact h.sq
  · exact .inl (.inl h)
theorem T2.same {H H' : Hp} {a : Addr} {xs : List V} (h : T2 H a xs) (s : Same H H') : T2 H' a xs := by
  rcases h with h | h
  · exact .inl (h.same s)
  · exact .inr (s _ _ h)
theorem T2.ty {K : PySem.W.Frag} {H : Hp} {a : Addr} {xs : List V} (h : T2 H a xs) : TyX K H (.ref a) (.type "tuple") := by
  rcases h with ⟨o, h, _⟩ | h
  · exact .fTuple h
  · exact .base (.tup h)
/-- all tuples stay -/
def K2 (H H' : Hp) : Prop := ∀ a xs, T2 H a xs → T2 H' a xs
theorem K2.same {H H' : Hp} (s : Same H H') : K2 H H' := fun _ _ h => h.same s
theorem K2.trans {H H1 H2 : Hp} (a : K2 H H1) (b : K2 H1 H2) : K2 H H2 := fun x xs h => b x xs (a x xs h)
/-- what is no tuple may be changed -/
theorem K2.upd {H : Hp} {a : Addr} {o u : HO} (e : H a = some o) (n : ∀ xs, o ≠ .tup xs) (n2 : ∀ b xs, o ≠ .frz b (.tup xs)) : K2 H (upd H a u) := by
  rintro b xs (⟨ob, h, d⟩ | h)
  · refine .inl ⟨ob, ?_, d⟩
    rw [upd_ne]
    · exact h
    · rintro rfl
      rw [e] at h
      cases h
      exact n2 _ _ rfl
  · refine .inr ?_
    rw [upd_ne]
    · exact h
    · rintro rfl
      rw [e] at h
      cases h
      exact n _ rfl
theorem K2.lst {H : Hp} {a : Addr} {xs : List V} {u : HO} (e : H a = some (.lst xs)) : K2 H (L2.upd H a u) := K2.upd e (fun _ z => nomatch z) (fun _ _ z => nomatch z)
abbrev Rw := List Int × List Int
def RowAt (H : Hp) (v : V) (r : Rw) : Prop := ∃ a b c, v = .ref a ∧ T2 H a [.ref b, .ref c] ∧ T2 H b (r.1.map V.int) ∧ T2 H c (r.2.map V.int)
theorem RowAt.keep {H H' : Hp} {v : V} {r : Rw} (k : K2 H H') (h : RowAt H v r) : RowAt H' v r := by
  obtain ⟨a, b, c, e, h1, h2, h3⟩ := h
  exact ⟨a, b, c, e, k _ _ h1, k _ _ h2, k _ _ h3⟩
def RowsAt (H : Hp) : List V → List Rw → Prop
  | [], [] => True
  | v :: vs, r :: rs => RowAt H v r ∧ RowsAt H vs rs
  | _, _ => False
theorem RowsAt.keep {H H' : Hp} (k : K2 H H') : ∀ {vs : List V} {rs : List Rw}, RowsAt H vs rs → RowsAt H' vs rs
  | [], [], _ => trivial
  | _ :: _, _ :: _, h => ⟨h.1.keep k, RowsAt.keep k h.2⟩
  | [], _ :: _, h => h.elim
  | _ :: _, [], h => h.elim
theorem RowsAt.len {H : Hp} : ∀ {vs : List V} {rs : List Rw}, RowsAt H vs rs → vs.length = rs.length
  | [], [], _ => rfl
  | _ :: _, _ :: _, h => by rw [List.length_cons, List.length_cons, RowsAt.len h.2]
  | [], _ :: _, h => h.elim
  | _ :: _, [], h => h.elim
theorem RowsAt.get {H : Hp} : ∀ {vs : List V} {rs : List Rw}, RowsAt H vs rs → ∀ {i : Nat} {v : V}, vs[i]? = some v → ∃ r, rs[i]? = some r ∧ RowAt H v r
  | [], [], _, i, v, e => by simp at e
  | _ :: _, _ :: _, h, 0, v, e => by
    obtain rfl := (by simpa using e : _ = v)
    exact ⟨_, rfl, h.1⟩
  | _ :: _, _ :: _, h, i + 1, v, e => RowsAt.get h.2 (i := i) (by simpa using e)
  | [], _ :: _, h, _, _, _ => h.elim
  | _ :: _, [], h, _, _, _ => h.elim
theorem RowsAt.app {H : Hp} : ∀ {vs ws : List V} {rs qs : List Rw}, RowsAt H vs rs → RowsAt H ws qs → RowsAt H (vs ++ ws) (rs ++ qs)
  | [], _, [], _, _, h => h
  | _ :: _, _, _ :: _, _, g, h => ⟨g.1, RowsAt.app g.2 h⟩
  | [], _, _ :: _, _, g, _ => g.elim
  | _ :: _, _, [], _, g, _ => g.elim
theorem RowsAt.snoc {H : Hp} {vs : List V} {rs : List Rw} {v : V} {r : Rw} (g : RowsAt H vs rs) (h : RowAt H v r) : RowsAt H (vs ++ [v]) (rs ++ [r]) := g.app ⟨h, trivial⟩
theorem RowsAt.of {H : Hp} : ∀ {vs : List V} {rs : List Rw}, vs.length = rs.length → (∀ (i : Nat) (v : V) (r : Rw), vs[i]? = some v → rs[i]? = some r → RowAt H v r) → RowsAt H vs rs
  | [], [], _, _ => trivial
  | v :: vs, r :: rs, e, h => ⟨h 0 v r rfl rfl, RowsAt.of (by simpa using e) fun i x y h1 h2 => h (i + 1) x y h1 h2⟩
  | [], _ :: _, e, _ => by simp at e
  | _ :: _, [], e, _ => by simp at e
/-- a web in the heap -/
def WebAt (H : Hp) (p : Addr) (rs : List Rw) : Prop := ∃ ws, H p = some (.lst ws) ∧ RowsAt H ws rs
theorem WebAt.same {H H' : Hp} {p : Addr} {rs : List Rw} (h : WebAt H p rs) (s : Same H H') : WebAt H' p rs := by
  obtain ⟨ws, e, r⟩ := h
  exact ⟨ws, s _ _ e, r.keep (K2.same s)⟩
/-- rising numbers within a bound -/
structure Ris (lo hi : Int) (ns : List Int) : Prop where
  pw : ns.Pairwise (· < ·)
  lo : ∀ k ∈ ns, lo ≤ k
  hi : ∀ k ∈ ns, k ≤ hi
structure RowOk (n : Nat) (r : Rw) : Prop where
  rooms : Ris 0 99 r.1
  few : r.1.length ≤ 6
  tos : Ris 0 ((n : Int) - 1) r.2
def allRooms (rs : List Rw) : List Int := (rs.map Prod.fst).flatten
structure WebOk (rs : List Rw) : Prop where
  pos : 1 ≤ rs.length
  few : rs.length ≤ 80
  row : ∀ r ∈ rs, RowOk rs.length r
  all : ∃ S : List Int, S.length ≤ 12 ∧ ∀ k ∈ allRooms rs, k ∈ S
theorem ris_len {ns : List Int} {n : Nat} : Ris 0 ((n : Int) - 1) ns → ns.length ≤ n := by
  induction n generalizing ns with
  | zero =>
    intro h
    cases ns with
    | nil => exact Nat.le_refl _
    | cons a l =>
      have h1 := h.lo a List.mem_cons_self
      have h2 := h.hi a List.mem_cons_self
      omega
  | succ n ih =>
    intro h
    rcases List.eq_nil_or_concat ns with e | ⟨l, a, e⟩
    · rw [e]
      exact Nat.zero_le _
    · rw [List.concat_eq_append] at e
      subst e
      have pw := List.pairwise_append.mp h.pw
      have ha := h.hi a (List.mem_append_right _ List.mem_cons_self)
      have z := ih (ns := l) ⟨pw.1, fun k hk => h.lo k (List.mem_append_left _ hk), fun k hk => by
        have := pw.2.2 k hk a List.mem_cons_self
        omega⟩
      rw [List.length_append]
      show l.length + 1 ≤ n + 1
      omega
section
variable {X : Cx}
/-- a slice of a tuple, whatever it is -/
def rSl2 : V → Option Int → Option Int → Hp → VK → Prop := fun x lo hi H Q => ∃ a xs, x = .ref a ∧ T2 H a xs ∧ ∀ v H', Same H H' → T2 H' v (cutV xs lo hi) → Q (.ref v) H'
theorem sl_tup2 : SlR X rSl2 := by
  intro pins s σ H x v vl vu lo hi sl Q I rx hs pl pu h
  obtain ⟨a, xs, rfl, hx, q⟩ := h
  refine sl_tupA pins s σ H _ v vl vu lo hi sl Q I rx hs pl pu ⟨a, xs, rfl, hx.sq, fun hw => q a H (Same.refl H) ?_, fun _ p np => q p _ (same_upd np) (.inr upd_same)⟩
  have z : cutV xs lo hi = xs := by
    unfold cutV
    rw [hw.1, hw.2, Nat.sub_zero, List.drop_zero, List.take_length]
  rw [z]
  exact hx
end
theorem cut_tail (xs : List V) : cutV xs (some 1) none = xs.drop 1 := by
  cases xs with
  | nil => rfl
  | cons x l =>
    have e1 : HT.sIx (x :: l).length 0 (some 1) = 1 := by
      have z := HT.sIx_nat (x :: l).length 0 1
      have z2 : HT.sIx (x :: l).length 0 (some (1 : Int)) = min 1 (x :: l).length := z
      rw [z2, List.length_cons]
      omega
    unfold cutV
    rw [e1, HT.sIx_none, List.take_of_length_le]
    rw [List.length_drop]
    exact Nat.le_refl _
theorem rep_all (n : Nat) : (List.replicate n true).all id = true := by
  rw [List.all_eq_true]
  intro x hx
  rw [List.eq_of_mem_replicate hx]
  rfl
theorem rep_snoc (n : Nat) : (List.replicate n (V.bl true)) ++ [V.bl true] = List.replicate (n + 1) (V.bl true) := by
  rw [← List.replicate_succ']
theorem rep_map (n : Nat) : (List.replicate n true).map V.bl = List.replicate n (V.bl true) := List.map_replicate
/-! a comprehension over zip of two tuples -/
open RZ in
theorem lc_zipT {K : PySem.W.Frag} {a b : Addr} {xs ys : List V} {g : TG} {tt : TT} {te : TE} {vs : List Nat} {σ : L2.St} {H1 : Hp} {D : Addr} {Qd : Hp → Prop} (hl : ys.length ≤ xs.length) (Pv : Nat → Hp → Prop) (h0 : Pv 0 (upd H1 D (.lst [])))
    (hq : ∀ i H, i ≤ ys.length → Pv i H → SqT K H a xs ∧ SqT K H b ys)
    (hs : ∀ (i : Nat) (x y : V) (T : Addr) (H : Hp), xs[i]? = some x → ys[i]? = some y → Pv i H → H T = none → g (.ref T) (wipe σ vs) (upd H T (.tup [x, y])) fun σ2 H2 => wipe σ2 vs = wipe σ vs ∧ tt σ2 H2 fun b H3 =>
      if b = true then te σ2 H3 fun y H4 => ∃ acc, H4 D = some (.lst acc) ∧ acc.length < sizeLine ∧ Pv (i + 1) (upd H4 D (.lst (acc ++ [y]))) else Pv (i + 1) H3) (hd : ∀ H, Pv ys.length H → Qd H) :
    ∃ W : Nat → Nat → Hp → Prop, (∃ m, W 0 m (upd H1 D (.lst []))) ∧ ∀ i m H, W i m H →
      ((ItzT K a b).stop i H ∧ Qd H) ∨ ((ItzT K a b).go i H ∧ ∃ Nx : Hp → Prop, (∀ H', Nx H' → ∃ m', m' < m ∧ W (i + 1) m' H') ∧ ∀ x H', (ItzT K a b).yld i H x H' → g x (wipe σ vs) H' fun σ2 H2 => wipe σ2 vs = wipe σ vs ∧ tt σ2 H2 fun b H3 =>
        if b = true then te σ2 H3 fun y H4 => ∃ acc, H4 D = some (.lst acc) ∧ acc.length < sizeLine ∧ Nx (upd H4 D (.lst (acc ++ [y]))) else Nx H3) := by
  refine ⟨fun i m H => m = ys.length - i ∧ i ≤ ys.length ∧ Pv i H, ⟨ys.length, (Nat.sub_zero _).symm, Nat.zero_le _, h0⟩, ?_⟩
  rintro i m H ⟨rfl, hi, p⟩
  obtain ⟨qx, qy⟩ := hq i H hi p
  by_cases hlt : i < ys.length
  · have hy : ys[i]? = some ys[i] := List.getElem?_eq_getElem hlt
    have hx : xs[i]? = some xs[i] := List.getElem?_eq_getElem (by omega)
    refine .inr ⟨⟨xs, ys, _, _, qx, qy, hx, hy⟩, Pv (i + 1), fun H' p' => ⟨ys.length - (i + 1), by omega, rfl, hlt, p'⟩, fun v H' y => ?_⟩
    obtain ⟨T, x', y', rfl, nT, rfl, f1, f2⟩ := y
    exact hs i x' y' T H (f1 xs qx) (f2 ys qy) p nT
  · have e : i = ys.length := by omega
    subst e
    exact .inl ⟨⟨xs, ys, qx, qy, .inr (Nat.le_refl _)⟩, hd H p⟩
section
variable {K : PySem.W.Frag} {a : Addr} {xs : List V}
theorem lc_enumS {g : TG} {tt : TT} {te : TE} {vs : List Nat} {σ : L2.St} {H1 : Hp} {D : Addr} {Qd : Hp → Prop} (Pv : Nat → Hp → Prop) (h0 : Pv 0 (upd H1 D (.lst []))) (hl : ∀ i H, i ≤ xs.length → Pv i H → SqL K H a xs)
    (hs : ∀ i x H T, xs[i]? = some x → Pv i H → H T = none → g (.ref T) (wipe σ vs) (upd H T (.tup [.int (i : Nat), x])) fun σ2 H2 => wipe σ2 vs = wipe σ vs ∧ tt σ2 H2 fun b H3 =>
      if b = true then te σ2 H3 fun y H4 => ∃ acc, H4 D = some (.lst acc) ∧ acc.length < sizeLine ∧ Pv (i + 1) (upd H4 D (.lst (acc ++ [y]))) else Pv (i + 1) H3) (hd : ∀ H, Pv xs.length H → Qd H) :
    ∃ W : Nat → Nat → Hp → Prop, (∃ m, W 0 m (upd H1 D (.lst []))) ∧ ∀ i m H, W i m H →
      ((Ite K a).stop i H ∧ Qd H) ∨ ((Ite K a).go i H ∧ ∃ Nx : Hp → Prop, (∀ H', Nx H' → ∃ m', m' < m ∧ W (i + 1) m' H') ∧ ∀ x H', (Ite K a).yld i H x H' → g x (wipe σ vs) H' fun σ2 H2 => wipe σ2 vs = wipe σ vs ∧ tt σ2 H2 fun b H3 =>
        if b = true then te σ2 H3 fun y H4 => ∃ acc, H4 D = some (.lst acc) ∧ acc.length < sizeLine ∧ Nx (upd H4 D (.lst (acc ++ [y]))) else Nx H3) := by
  refine ⟨fun i m H => m = xs.length - i ∧ i ≤ xs.length ∧ Pv i H, ⟨xs.length, (Nat.sub_zero _).symm, Nat.zero_le _, h0⟩, ?_⟩
  rintro i m H ⟨rfl, hi, p⟩
  have q := hl i H hi p
  by_cases hlt : i < xs.length
  · refine .inr ⟨⟨xs, xs[i], q, List.getElem?_eq_getElem hlt⟩, Pv (i + 1), fun H' p' => ⟨xs.length - (i + 1), by omega, rfl, hlt, p'⟩, fun v H' y => ?_⟩
    obtain ⟨T, x, rfl, nT, rfl, y⟩ := y
    exact hs i x H T (y xs q) p nT
  · have e : i = xs.length := by omega
    subst e
    exact .inl ⟨⟨xs, q, Nat.le_refl _⟩, hd H p⟩
theorem for_enumS {g : TG} {tb : TS} {D : Ends} {σ : L2.St} {H : Hp} (Pv : Nat → L2.St → Hp → Prop) (h0 : Pv 0 σ H) (hl : ∀ i σ H, i ≤ xs.length → Pv i σ H → SqL K H a xs)
    (hs : ∀ i x σ H T, xs[i]? = some x → Pv i σ H → H T = none → g (.ref T) σ (upd H T (.tup [.int (i : Nat), x])) fun σ2 H2 => tb { D with nx := Pv (i + 1), ct := Pv (i + 1), bk := D.nx } σ2 H2) (hd : ∀ σ H, Pv xs.length σ H → D.nx σ H) :
    ∃ W : Nat → Nat → L2.St → Hp → Prop, (∃ m, W 0 m σ H) ∧ ∀ i m σ H, W i m σ H →
      ((Ite K a).stop i H ∧ D.nx σ H) ∨ ((Ite K a).go i H ∧ ∃ N : L2.St → Hp → Prop, (∀ σ' H', N σ' H' → ∃ m', m' < m ∧ W (i + 1) m' σ' H') ∧ ∀ v H', (Ite K a).yld i H v H' → g v σ H' fun σ2 H2 => tb { D with nx := N, ct := N, bk := D.nx } σ2 H2) := by
  refine ⟨fun i m σ H => m = xs.length - i ∧ i ≤ xs.length ∧ Pv i σ H, ⟨xs.length, (Nat.sub_zero _).symm, Nat.zero_le _, h0⟩, ?_⟩
  rintro i m σ H ⟨rfl, hi, p⟩
  have q := hl i σ H hi p
  by_cases hlt : i < xs.length
  · refine .inr ⟨⟨xs, xs[i], q, List.getElem?_eq_getElem hlt⟩, Pv (i + 1), fun σ' H' p' => ⟨xs.length - (i + 1), by omega, rfl, hlt, p'⟩, fun v H' y => ?_⟩
    obtain ⟨T, x, rfl, nT, rfl, y⟩ := y
    exact hs i x σ H T (y xs q) p nT
  · have e : i = xs.length := by omega
    subst e
    exact .inl ⟨⟨xs, q, Nat.le_refl _⟩, hd σ H p⟩
end
theorem K2.of {p : Addr} {H H' : Hp} (k : Kept p H H') (hp : PoolAt H p) : K2 H H' := by
  rintro a xs (h | h)
  · exact .inl (h.kept k hp)
  · refine .inr (k _ _ h fun z => ?_)
    subst z
    obtain ⟨o, e, g, m, rfl, _⟩ := hp
    rw [e] at h
    cases h
theorem cut_to (xs : List V) (k : Nat) : cutV xs none (some (k : Int)) = xs.take k := by
  have e1 : HT.sIx xs.length xs.length (some (k : Int)) = min k xs.length := HT.sIx_nat xs.length xs.length k
  unfold cutV
  rw [e1, HT.sIx_none, Nat.sub_zero, List.drop_zero]
  by_cases h : k ≤ xs.length
  · rw [Nat.min_eq_left h]
  · rw [Nat.min_eq_right (by omega), List.take_length, List.take_of_length_le (by omega)]
theorem cut_from (xs : List V) (k : Nat) : cutV xs (some (k : Int)) none = xs.drop k := by
  have e1 : HT.sIx xs.length 0 (some (k : Int)) = min k xs.length := HT.sIx_nat xs.length 0 k
  unfold cutV
  rw [e1, HT.sIx_none]
  by_cases h : k ≤ xs.length
  · rw [Nat.min_eq_left h, List.take_of_length_le (by rw [List.length_drop]; exact Nat.le_refl _)]
  · rw [Nat.min_eq_right (by omega), List.drop_of_length_le (Nat.le_refl _), List.take_nil, List.drop_of_length_le (by omega)]
theorem pw_lt {ms : List Int} (h : ms.Pairwise (· ≤ ·)) (nd : ms.Nodup) : ms.Pairwise (· < ·) := by
  have z := h.and nd
  exact z.imp fun ⟨a, b⟩ => by omega
/-! a web as data, for repr -/
theorem dp_intsS {K : PySem.W.Frag} {H : Hp} : ∀ ns : List Int, DpAll K H (ns.map V.int) (ns.map PyData.int)
  | [] => .nil
  | n :: ns => .cons (.int n) (dp_intsS ns)
def rowD (r : Rw) : PyData := .tuple [.tuple (r.1.map PyData.int), .tuple (r.2.map PyData.int)]
def webD (rs : List Rw) : PyData := .list (rs.map rowD)
theorem rows_dp {K : PySem.W.Frag} {H : Hp} : ∀ {ws : List V} {rs : List Rw}, RowsAt H ws rs → DpAll K H ws (rs.map rowD)
  | [], [], _ => .nil
  | w :: ws, r :: rs, h => by
    obtain ⟨⟨a, b, c, rfl, h1, h2, h3⟩, t⟩ := h
    exact .cons (.tup h1.sq (.cons (.tup h2.sq (dp_intsS _)) (.cons (.tup h3.sq (dp_intsS _)) .nil))) (rows_dp t)
  | [], _ :: _, h => h.elim
  | _ :: _, [], h => h.elim
theorem WebAt.dp {K : PySem.W.Frag} {H : Hp} {p : Addr} {rs : List Rw} (h : WebAt H p rs) : Dp K H (.ref p) (webD rs) := by
  obtain ⟨ws, e, r⟩ := h
  exact .lst (SqL.of e) (rows_dp r)
theorem FineL.up {ds : List PyData} {n m n' m' : Nat} (h : FineL ds n m) (a : n ≤ n') (b : m ≤ m') : FineL ds n' m' := ⟨h.sh, h.nd, Nat.le_trans h.dp a, h.lv, Nat.le_trans h.wt b, h.cl⟩
theorem row_fine {n : Nat} {r : Rw} (ok : RowOk n r) (hn : n ≤ 80) : Fine (rowD r) 2 3600 := by
  have h1 := FineL.ints r.1 fun z hz => by
    have a := ok.rooms.lo z hz
    have b := ok.rooms.hi z hz
    omega
  have h2 := FineL.ints r.2 fun z hz => by
    have a := ok.tos.lo z hz
    have b := ok.tos.hi z hz
    omega
  have l1 := ok.few
  have l2 := ris_len ok.tos
  have z := Fine.tuple (FineL.cons (Fine.tuple h1) (FineL.cons (Fine.tuple h2) FineL.nil))
  exact z.up (Nat.le_refl _) (by omega)
theorem rows_fine {n : Nat} (hn : n ≤ 80) : ∀ {rs : List Rw}, (∀ r ∈ rs, RowOk n r) → FineL (rs.map rowD) 2 (3601 * rs.length)
  | [], _ => FineL.nil
  | r :: rs, h => by
    have a := FineL.cons (row_fine (h r List.mem_cons_self) hn) (rows_fine hn fun y hy => h y (List.mem_cons_of_mem _ hy))
    exact a.up (Nat.le_refl _) (by rw [List.length_cons]; omega)
theorem WebOk.fine {rs : List Rw} (ok : WebOk rs) : Fine (webD rs) 3 300000 := by
  have h := ok.few
  exact (Fine.list (rows_fine h ok.row)).up (Nat.le_refl _) (by omega)
end Su
/-! ### SF: a tuple times 0 or 1, the sorted keys of a dict -/
namespace Su
open PySem PySem.Spec PyProof.Rows L2
theorem tuple_mul0 (l : Addr) (items : Array Value) (n : Nat) (dd : Option Addr) (sl : Array (Option Value)) (u : Tok) (ne : items.isEmpty = false) :
    Meets (Builtin.«tuple.__mul__» ⟨[.ref l, .int 0 u], []⟩) (fun _ R s => s.heap.get? l = some { cls := .type "tuple", dict := dd, data := .seq items n, slots := sl } ∧ R (.ok (.ret (Value.ref s.heap.objs.size))) { s with heap := s.heap.push (tupO []) }) :=
  .of_wp fun prog w A R s h => by
    obtain ⟨hp, g, d, tk, os⟩ := s
    obtain ⟨hl, h⟩ := h
    have f1 := AutoSeq1.idx_int
    wp_walk using wpAny_loadPart' hl
    repeat (first
      | (refine wpAny_ite_false (by rw [ne]; rfl) ?_; wp_walk using wpAny_loadPart' hl)
      | (refine wpAny_ite_true rfl ?_; wp_walk using wpAny_loadPart' hl))
    exact ⟨_, rfl, h⟩
theorem tuple_mul1 (l : Addr) (items : Array Value) (n : Nat) (dd : Option Addr) (sl : Array (Option Value)) (u : Tok) :
    Meets (Builtin.«tuple.__mul__» ⟨[.ref l, .int 1 u], []⟩) (fun _ R s => s.heap.get? l = some { cls := .type "tuple", dict := dd, data := .seq items n, slots := sl } ∧ R (.ok (.ret (Value.ref l))) s) :=
  .of_wp fun prog w A R s h => by
    obtain ⟨hp, g, d, tk, os⟩ := s
    obtain ⟨hl, h⟩ := h
    have f1 := AutoSeq1.idx_int
    wp_walk using wpAny_loadPart' hl
    exact ⟨_, rfl, h⟩
section
variable {X : Cx}
/-- (x, ..) * k, k 0 or 1 -/
def rMul01 : R2 := fun x y H Q => ∃ (a : Addr) (k : Int) (xs : List V), x = .ref a ∧ y = .int k ∧ T2 H a xs ∧ xs ≠ [] ∧ (k = 0 ∨ k = 1) ∧ ∀ v H', Same H H' → T2 H' v (if k = 1 then xs else []) → Q (.ref v) H'
theorem op_mul01 : OpR X (binaryOp .Mult) rMul01 := by
  intro pins s σ H x y v u Q I rx ry h
  obtain ⟨a, k, xs, rfl, rfl, ha, ne, hk, q⟩ := h
  cases rx
  obtain ⟨t, rfl⟩ := ry
  obtain ⟨its, r, ⟨⟨cls, dd, data, sl⟩, ho, hc, n, hd⟩, hs⟩ := I.tuple (ha.sq (K := X.K))
  simp only at hc hd
  subst hc hd
  have ni : its.toArray.isEmpty = false := by
    cases its with
    | nil =>
      cases r
      exact absurd rfl ne
    | cons _ _ => rfl
  rcases hk with rfl | rfl
  · refine wpAny_binaryOp_repeat_ref (T := "tuple") (U := "int") (by decide) ⟨_, ho, rfl⟩ (fun s' => typeIs_int s' 0 t) noFill_tuple_mul F.fills_int_mul F.slot_int_rmul repeat_tuple F.slot_int_index.lookup
      (call_meets F.slot_int_rmul (typeIs_int s 0 t) F.entry_int_rmul (F.args_int_rmul_2 _ _) (int_rmul_tuple 0 t a its.toArray n dd sl)
        ⟨ho, rfl, ⟨_, ho, rfl⟩, call_meets F.slot_tuple_mul ⟨_, ho, rfl⟩ F.entry_tuple_mul (F.args_tuple_mul_2 _ _) (tuple_mul0 a its.toArray n dd sl t ni) ⟨ho, ?_⟩⟩)
    exact newF I .nil (Nat.zero_le _) (fun v H' s' _ h => q v H' s' (.inl h)) s.toks
  · refine wpAny_binaryOp_repeat_ref (T := "tuple") (U := "int") (by decide) ⟨_, ho, rfl⟩ (fun s' => typeIs_int s' 1 t) noFill_tuple_mul F.fills_int_mul F.slot_int_rmul repeat_tuple F.slot_int_index.lookup
      (call_meets F.slot_int_rmul (typeIs_int s 1 t) F.entry_int_rmul (F.args_int_rmul_2 _ _) (int_rmul_tuple 1 t a its.toArray n dd sl)
        ⟨ho, rfl, ⟨_, ho, rfl⟩, call_meets F.slot_tuple_mul ⟨_, ho, rfl⟩ F.entry_tuple_mul (F.args_tuple_mul_2 _ _) (tuple_mul1 a its.toArray n dd sl t) ⟨ho, ?_⟩⟩)
    exact ⟨.ref a, H, I, rfl, q a H (Same.refl H) ha⟩
/-- the keys of a dict, all ints -/
def KeysI (kvs : List (Key × V)) (ks : List Int) : Prop := kvs.map (·.1) = ks.map Sum.inl
theorem KeysI.len {kvs : List (Key × V)} {ks : List Int} (h : KeysI kvs ks) : kvs.length = ks.length := by
  have z := congrArg List.length h
  rwa [List.length_map, List.length_map] at z
theorem KeysI.put {kvs : List (Key × V)} {ks : List Int} (h : KeysI kvs ks) (nd : ks.Nodup) (k : Int) (v : V) : ∃ ks', KeysI (putK kvs (Sum.inl k) v) ks' ∧ ks'.Nodup ∧ ∀ j, j ∈ ks' ↔ j ∈ ks ∨ j = k := by
  unfold putK
  by_cases hk : (kvs.any fun kv => decide (kv.1 = Sum.inl k)) = true
  · rw [if_pos hk]
    refine ⟨ks, ?_, nd, fun j => ⟨.inl, ?_⟩⟩
    · unfold KeysI at h ⊢
      rw [← h, List.map_map]
      refine List.map_congr_left fun q _ => ?_
      show (if q.1 = Sum.inl k then (q.1, v) else q).1 = q.1
      split <;> rfl
    · rintro (z | rfl)
      · exact z
      · obtain ⟨q, hq, e⟩ := List.any_eq_true.mp hk
        have z : (Sum.inl j : Key) ∈ kvs.map (·.1) := by
          rw [← of_decide_eq_true e]
          exact List.mem_map_of_mem hq
        rw [h] at z
        obtain ⟨i, hi, e2⟩ := List.mem_map.mp z
        rw [← Sum.inl.inj e2]
        exact hi
  · rw [if_neg hk]
    have nk : k ∉ ks := fun hm => hk (by
      have z : (Sum.inl k : Key) ∈ kvs.map (·.1) := by
        rw [h]
        exact List.mem_map_of_mem hm
      obtain ⟨q, hq, e⟩ := List.mem_map.mp z
      exact List.any_eq_true.mpr ⟨q, hq, decide_eq_true e⟩)
    refine ⟨ks ++ [k], ?_, ?_, fun j => by rw [List.mem_append, List.mem_singleton]⟩
    · unfold KeysI at h ⊢
      rw [List.map_append, List.map_append, h]
      rfl
    · rw [List.nodup_append]
      refine ⟨nd, by simp, fun a ha b hb => ?_⟩
      rw [List.mem_singleton.mp hb]
      rintro rfl
      exact nk ha
/-- sorted(d), all keys ints -/
def rSortedDI : List V → Hp → VK → Prop := fun xs H Q => ∃ (a : Addr) (kvs : List (Key × V)) (ks : List Int), xs = [.ref a] ∧ H a = some (.dK kvs) ∧ KeysI kvs ks ∧ ks.length ≤ 4000 ∧
  ∀ (ys : List Int) (p : Addr), ys.Perm ks → ys.Pairwise (· ≤ ·) → H p = none → Q (.ref p) (upd H p (.lst (ys.map V.int)))
theorem cr_sortedDI (hc : X.calm = true) : CallR X (.builtin "sorted") rSortedDI := by
  intro pins s σ H xs us Q I r h
  obtain ⟨a, kvs, ks, rfl, hd, hks, few, q⟩ := h
  rw [Vals.ref1 r]
  obtain ⟨z, lo, vs, rel, dd⟩ := dk_rd I.hok (.inl hd)
  obtain ⟨ep, hat⟩ := dd.dictAt
  have keys : vs.map (·.1) = ks.map Sum.inl := rel.keys.symm.trans hks
  have len : vs.length = ks.length := by
    have y := congrArg List.length keys
    rwa [List.length_map, List.length_map] at y
  have small : vs.length ≤ sizeLine := by
    rw [len, sizeLine_eq]
    omega
  refine Calls.call_function_entry kind_sorted plain_sorted entry_sorted (args_sorted1 _) ?_
  unfold Builtin.«sorted»
  refine wpAny_bind (m := checkCount "sorted" 1 1 _) (wpAny_pure (wpAny_bind (PySem.W.kdu_collect (A := X.A.in1) (PySem.W.kdl_dict (knd := mixKind X.prog X.w) (kvs := vs) (ep := ep) lo) (I.ok.hd hc) hat small fun h' tk acc hk hacc => ?_)))
  have rv : Vals (vs.map fun p => kV p.1) acc.toList := keys_at (by rw [Array.length_toList, hacc.1]) fun j v e => hacc.2 j v (by rw [← Array.getElem?_toList]; exact e)
  have rv2 : Vals (ks.map V.int) acc.toList := by
    have y : (vs.map fun p => kV p.1) = ks.map V.int := by
      have y1 : (vs.map fun p => kV p.1) = (vs.map (·.1)).map kV := by rw [List.map_map]; rfl
      rw [y1, keys, List.map_map]
      rfl
    rwa [y] at rv
  have hI := rv2.ints
  have alen : acc.toList.length ≤ sizeLine := by
    rw [Array.length_toList, hacc.1]
    exact small
  have I1 : Inv X pins σ H { s with heap := h', toks := tk } := I.kept hk
  refine wpAny_bind (wpAny_newList ?_ alen)
  have at1 : (h'.push (seqObj "list" acc.toList.toArray 0)).get? h'.objs.size = some (seqObj "list" acc.toList.toArray 0) := Heap.get?_push_size _ rfl
  show wpAny _ _ _ _ _ { s with heap := h'.push (seqObj "list" acc.toList.toArray 0), toks := tk }
  refine wpAny_bind (wpAny_holding (wpAny_call_entry slot_list_sort ⟨_, at1, rfl⟩ entry_list_sort (SrtO.list_sort_ord SrtO.swo_int (s := { s with heap := h'.push (seqObj "list" acc.toList.toArray 0), toks := tk }) at1 alen (fun h2 => SrtO.ints_sortable hI h2) fun out h1 h2 => ⟨_, rfl, ?_⟩) (args_list_sort _)))
  obtain ⟨k3, k4, k5⟩ := SrtO.ints_out hI h1 h2
  obtain ⟨c, hcc⟩ := sortedHeap_at (vs := acc.toList) (out := out.toArray) at1
  have olen : ((out.map SrtO.iv).map V.int).length ≤ sizeLine := by
    rw [List.length_map, k4.length_eq, sizeLine_eq]
    omega
  refine wpAny_pure ⟨_, rfl, .ref h'.objs.size, upd H h'.objs.size (.lst ((out.map SrtO.iv).map V.int)), I1.laid (t' := tk) (fun b u e => ?_) (Nat.le_refl _) (show ObjOk X.prog X.w _ _ _ (.lst _) from ⟨olen, out, c, vals_of_ints k3, hcc⟩), rfl, q _ _ k4 k5 (I1.hok.fresh (Nat.le_refl _))⟩
  have lt : b < h'.objs.size := Heap.lt_size e
  rw [sortedHeap_old (Nat.ne_of_lt lt) (by rw [size_push']; exact Nat.lt_succ_of_lt lt)]
  exact Heap.get?_push_of_some _ e
end
end Su
/-! ### SG: l.extend(t), t a tuple; rows that are written -/
namespace Su
open PySem PySem.Spec PyProof.Rows L2
theorem ext_tup (l : Addr) (items : Array Value) (n : Nat) (b : Addr) (more : Array Value) (m : Nat) (dd : Option Addr) (sl : Array (Option Value)) (h0 : ¬(!items.isEmpty && Builtin.List.listTooLong (items.size + more.size)) = true) (h1 : items.size ≤ sizeLine) (h2 : items.size + more.size ≤ sizeLine + 1) :
    Meets (Builtin.«list.extend» ⟨[.ref l, .ref b], []⟩) (fun _ R s => s.heap.get? l = some { cls := .type "list", data := .seq items n } ∧ s.heap.get? b = some { cls := .type "tuple", dict := dd, data := .seq more m, slots := sl } ∧
      R (.ok (.ret .none)) { s with heap := s.heap.update l (Obj.mapSeq fun x => x ++ more) }) :=
  .of_wp fun prog w A R s h => by
    obtain ⟨hp, g, d, tk, os⟩ := s
    obtain ⟨hl, hb, h⟩ := h
    have f1 := AutoSeq1.idx_int
    have f2 := F.sub_tuple_tuple
    have f3 := F.sub_list_list
    have f4 := F.sub_tuple_list
    have f5 := F.sub_list_tuple
    have fits : (items ++ more).size ≤ sizeLine + 1 := by
      rw [Array.size_append]
      exact h2
    wp_walk using (wpAny_updateSeq hl rfl (hz := h1) (_hz' := fits)), wpAny_loadPart' hl, wpAny_loadPart' hb
    exact ⟨_, rfl, h⟩
section
variable {X : Cx}
def rExtT (K : PySem.W.Frag) : V → List V → Hp → VK → Prop := fun x vs H Q => ∃ l b xs zs, x = .ref l ∧ vs = [.ref b] ∧ H l = some (.lst xs) ∧ SqT K H b zs ∧ xs.length + zs.length ≤ sizeLine ∧ Q .non (upd H l (.lst (xs ++ zs)))
theorem mt_extT : MtM X "list.extend" (rExtT X.K) := by
  intro pins s σ H x vs v us Q I rx rv h
  obtain ⟨l, b, xs, zs, rfl, rfl, hH, hB, hz, q⟩ := h
  cases rx
  obtain ⟨u, rfl, ru⟩ := rv.one
  cases ru
  obtain ⟨z, its, n, r, hl, e⟩ := I.lstM hH
  obtain ⟨it2, r2, ⟨⟨cls, dd, data, sl⟩, ho, hc, m, hd⟩, _⟩ := I.tuple hB
  simp only at hc hd
  subst hc hd
  have hl2 := r2.length
  have fit : its.toArray.size + it2.toArray.size ≤ sizeLine := by
    rw [List.size_toArray, List.size_toArray]
    omega
  have short : ¬ (!its.toArray.isEmpty && Builtin.List.listTooLong (its.toArray.size + it2.toArray.size)) = true := by
    rw [notLongL fit, Bool.and_false]
    exact Bool.false_ne_true
  refine call_meets F.slot_list_extend ⟨_, e, rfl⟩ F.entry_list_extend (F.args_list_extend_2 _ _) (ext_tup l its.toArray n b it2.toArray m dd sl short (by rw [List.size_toArray]; omega) (by omega)) ⟨e, ho, ?_⟩
  refine ⟨.non, _, I.lset (its' := its ++ it2) hH e (by simp) (r.append r2) ?_, rfl, q⟩
  rw [List.length_append]
  omega
end
/-! written rows -/
def risB (hi : Int) : Int → List Int → Bool
  | _, [] => true
  | lo, k :: r => decide (lo ≤ k) && decide (k ≤ hi) && risB hi (k + 1) r
theorem ris_of {hi : Int} : ∀ {lo : Int} {l : List Int}, risB hi lo l = true → Ris lo hi l
  | _, [], _ => ⟨List.Pairwise.nil, fun _ h => (List.not_mem_nil h).elim, fun _ h => (List.not_mem_nil h).elim⟩
  | lo, k :: r, h => by
    unfold risB at h
    rw [Bool.and_eq_true, Bool.and_eq_true, decide_eq_true_eq, decide_eq_true_eq] at h
    have z := ris_of h.2
    refine ⟨List.pairwise_cons.mpr ⟨fun x hx => by have := z.lo x hx; omega, z.pw⟩, fun x hx => ?_, fun x hx => ?_⟩
    · rcases List.mem_cons.mp hx with e | e
      · rw [e]
        exact h.1.1
      · have := z.lo x e
        omega
    · rcases List.mem_cons.mp hx with e | e
      · rw [e]
        exact h.1.2
      · exact z.hi x e
def rowB (n : Nat) (r : Rw) : Bool := risB 99 0 r.1 && decide (r.1.length ≤ 6) && risB ((n : Int) - 1) 0 r.2
theorem row_of {n : Nat} {r : Rw} (h : rowB n r = true) : RowOk n r := by
  unfold rowB at h
  rw [Bool.and_eq_true, Bool.and_eq_true, decide_eq_true_eq] at h
  exact ⟨ris_of h.1.1, h.1.2, ris_of h.2⟩
def webB (A : List Int) (rs : List Rw) : Bool := decide (1 ≤ rs.length) && decide (rs.length ≤ 80) && rs.all (rowB rs.length) && decide (A.length ≤ 12) && (allRooms rs).all (fun k => decide (k ∈ A))
theorem web_of {A : List Int} {rs : List Rw} (h : webB A rs = true) : WebOk rs := by
  unfold webB at h
  simp only [Bool.and_eq_true, decide_eq_true_eq, List.all_eq_true] at h
  exact ⟨h.1.1.1.1, h.1.1.1.2, fun r hr => row_of (h.1.1.2 r hr), A, h.1.2, h.2⟩
def upto (n : Nat) : List Int := (List.range n).map fun i => ((i : Nat) : Int)
theorem upto_rg (n : Nat) : rgV 0 (n : Int) = (upto n).map V.int := by
  unfold rgV upto
  rw [List.map_map, show ((n : Int) - 0).toNat = n by omega]
  refine List.map_congr_left fun i _ => ?_
  show V.int (0 + (i : Nat)) = V.int (i : Int)
  rw [Int.zero_add]
theorem upto_mem {n : Nat} {k : Int} : k ∈ upto n ↔ 0 ≤ k ∧ k < n := by
  unfold upto
  rw [List.mem_map]
  constructor
  · rintro ⟨i, hi, rfl⟩
    have := List.mem_range.mp hi
    omega
  · intro h
    exact ⟨k.toNat, List.mem_range.mpr (by omega), by omega⟩
theorem upto_pw (n : Nat) : (upto n).Pairwise (· < ·) := by
  unfold upto
  rw [List.pairwise_map]
  exact List.pairwise_lt_range.imp fun h => by omega
end Su
/-! ### SI: a comprehension within another one -/
namespace Su
open PySem PySem.Spec PyProof.Rows L2
theorem blkOk_in {N : List Str} {sc scope : Scope} {own : List (Str × Nat)} (fr : List Str) (h : blkC N { kind := .function, names := fr.map fun x => (x, NameKind.cell), isGenerator := false, isCoroutine := false } scope own = true)
    (h2 : ∀ x ∈ fr, sc.names.lookup x = some .cell ∨ sc.names.lookup x = some .free) : BlkOk N sc scope own := by
  have b := blkOk_by h
  refine ⟨b.kind, b.uniq, b.ix, fun y hy e => ?_, b.own⟩
  refine h2 y.1 ?_
  have key : ∀ (l : List Str) (x : Str) (k : NameKind), (l.map fun x => (x, NameKind.cell)).lookup x = some k → x ∈ l := by
    intro l
    induction l with
    | nil =>
      intro x k e
      simp at e
    | cons a l ih =>
      intro x k e
      rw [List.map_cons, List.lookup_cons] at e
      by_cases hx : (x == a) = true
      · rw [eq_of_beq hx]
        exact List.mem_cons_self
      · rw [Bool.not_eq_true] at hx
        rw [hx] at e
        exact List.mem_cons_of_mem _ (ih x k e)
  rcases b.free y hy e with z | z
  · exact key _ _ _ z
  · exact key _ _ _ z
end Su
/-! ### XA: an exception that is caught and kept -/
namespace Su
open PySem PySem.Spec PyProof.Rows L2
/-- at a: an exception of the class cls, its dict at d -/
def exK (a : Addr) (cls : Value) (d : Option Addr) : HO := .ext fun h => ∃ (oe : Obj) (vs : Array Value), h.get? a = some oe ∧ Zc cls d oe ∧ oe.data = .fields vs
theorem exK_ok {P : Program} {w : World} {H : Hp} {h : Heap} {a : Addr} {cls : Value} {d : Option Addr} {oe : Obj} {vs : Array Value} (e : h.get? a = some oe) (z : Zc cls d oe) (hd : oe.data = .fields vs) : ObjOk P w H h a (exK a cls d) := by
  refine ⟨⟨oe, vs, e, z, hd⟩, ⟨oe, e⟩, fun h1 h2 p k => ?_⟩
  obtain ⟨o, v, e1, z1, d1⟩ := p
  exact ⟨o, v, k _ e1, z1, d1⟩
section
variable {X : Cx} {pins : List (Addr × Obj)} {σ : L2.St} {H : Hp} {s : Shared}
/-- what is new since the entry may be tracked from now on -/
theorem track {a : Addr} {o : HO} (I : Inv X pins σ H s) (ha : H a = none) (h0 : X.s_0.heap.get? a = none) (nl : a ≠ X.env.locals) (nc : ∀ x c, X.env.cells.lookup x = some c → c ≠ a) (np : ∀ p ∈ X.pn ++ pins, p.1 ≠ a)
    (new : ObjOk X.prog X.w (upd H a o) s.heap a o) : Inv X pins σ (upd H a o) s where
  ok := I.ok
  os := I.os
  bare := I.bare
  base := {
    keep := I.base.keep
    slot := I.base.slot
    free := fun b u q n x => by
      rw [upd_ne fun z => by rw [z, h0] at q; cases q]
      exact I.base.free b u q n x
    there := I.base.there
    tups := fun b xs q => by
      have z := I.base.tups b xs q
      rw [upd_ne (ne_of_none z ha)]
      exact z
    frzs := fun b u v q => by
      have z := I.base.frzs b u v q
      rw [upd_ne (ne_of_none z ha)]
      exact z
    tbls := fun b ps q => by
      obtain ⟨more, z⟩ := I.base.tbls b ps q
      exact ⟨more, by rw [upd_ne (ne_of_none z ha)]; exact z⟩ }
  loc := I.loc
  cell := I.cell
  free := by
    rw [upd_ne nl.symm]
    exact I.free
  freeC := fun x c e => by
    rw [upd_ne (nc x c e)]
    exact I.freeC x c e
  pin := fun p hp => by
    obtain ⟨p1, p2, p3⟩ := I.pin p hp
    exact ⟨p1, by rw [upd_ne (np p hp)]; exact p2, p3⟩
  hok := HOk.laidN I.hok (fun _ _ q => q) ha new
  len := I.len
end
def wKeep (K : PySem.W.Frag) (c : Value) (i : Nat) (ts : Addr → TS) (Wo : WX) (D : Ends) : WX := fun cls d σ H =>
  ∃ b, PySem.W.exmOne K cls c = some b ∧
    (b = true → ∀ a, H a = none → ts a { nx := fun σ' H' => D.nx (σ'.set i none) (upd H' a (exK a cls d)), rt := fun _ _ => False, bk := fun _ _ => False, ct := fun _ _ => False } (σ.set i (some (.ref a))) H) ∧
    (b = false → Wo cls d σ H)
section
variable {X : Cx} {x n : Str} {c : Value} {i : Nat} {body suite : List Stmt} {b0 : Stmt} {np pos pos' : Pos} {tb : WX → TS} {ts : Addr → TS} {Wo : WX}
/-- try: .. except x as n: suite, the exception tracked behind the suite -/
theorem ps_try_keep (hex : X.ex = []) (hs : X.stack = X.env :: X.outer) (hf : X.env.frame = some X.env.locals) (hN : X.N.Nodup) (hi : X.N[i]? = some n) (hln : X.env.kindOf n = some .local) (hc : Names X x c) (tk : Takes X Wo)
    (hb : ∀ (W : WX) (pn : List (Addr × Obj)) (xe : Value → Shared → Prop), Takes (X.tr pn xe) W → PassesOwn (model X.prog X.w) X.A X.env xe → PSs (X.tr pn xe) body (tb W))
    (hsu : ∀ (a : Addr) (oe : Obj) (pn : List (Addr × Obj)), PSs (X.suite a ((a, oe) :: pn)) (b0 :: suite) (ts a)) :
    PS X (.Try body [.ExceptHandler (some (.Name x np)) (some n) (b0 :: suite) pos'] [] [] pos) (fun D σ H => tb (wKeep X.K c i ts Wo D) D σ H) := by
  refine ⟨fun pins s σ H D I h => ?_⟩
  have ok := I.ok
  have frm : X.A.frames = some (X.env :: X.outer) := by
    rw [ok.frames, hs]
  refine wpAny_Try_except ?_
  refine wpAny_mono ((hb (wKeep X.K c i ts Wo D) (X.pn ++ pins) (fun u t => wpAny (model X.prog X.w) X.A (noteFrame u X.env) (fun _ t2 => wpAny (model X.prog X.w) X.A (setFlight u none) (fun _ t3 =>
    wpAny (model X.prog X.w) X.A (handleBy u X.env [.ExceptHandler (some (.Name x np)) (some n) (b0 :: suite) pos']) (SP X pins D) X.xe t3) X.xe t2) X.xe t) (fun u t xx => ?_) PassesOwn.looking).run [] s σ H D (I.toTry _) h) (fun fl t hsp => ?_) (fun _ _ z => z)
  · obtain ⟨a, B, sI, pins2, τ, G, cls, d, rfl, Jt, nb, up, sky, na, os, ag, b, hb1, hyes, hno⟩ := xx
    have J : Inv X pins τ G sI := Jt.ofTry ok
    have sky2 : Sky B (X.env :: X.outer) a (Zc cls d) X.env.locals t.heap := by
      rw [← hs]
      exact sky
    show wpAny (model X.prog X.w) X.A (noteFrame (.ref a) X.env) _ _ _
    refine Sky.land Zc.steady frm hf sky2 fun g3 fl3 up3 => ?_
    have J3 : Inv X pins τ G { t with heap := g3 } := J.landed nb fl3.1 (up.trans up3) os ag
    obtain ⟨oe3, vs3, at3, zc3, dt3⟩ := fl3.there
    have nofr : a ∉ frs (X.env :: X.outer) := by
      intro hm
      obtain ⟨_, o', e', hnf⟩ := fl3.2.2.1.mem hm
      rw [at3] at e'
      cases e'
      exact hnf _ dt3
    have nL : a ≠ X.env.locals := fun z => nofr (List.mem_filterMap.mpr ⟨X.env, List.mem_cons_self, by rw [hf, z]⟩)
    have nF : a ∉ X.fs := by
      intro hm
      obtain ⟨e, he, q⟩ := List.mem_filterMap.mp hm
      exact nofr (List.mem_filterMap.mpr ⟨e, List.mem_cons_of_mem _ he, q⟩)
    -- it wasn't there ahead
    have gone : sI.heap.get? a = none := by
      cases z : sI.heap.get? a with
      | none => rfl
      | some o =>
        have y := nb a o z (by rw [hs]; exact nofr)
        rw [fl3.2.1] at y
        cases y
    have gone0 : X.s_0.heap.get? a = none := by
      cases z : X.s_0.heap.get? a with
      | none => rfl
      | some o =>
        obtain ⟨o', y⟩ := J.base.there a o z (by rw [hex]; simp)
        rw [gone] at y
        cases y
    have noc : ∀ y k, X.env.cells.lookup y = some k → k ≠ a := by
      rintro y k e rfl
      obtain ⟨v, o, e1, _⟩ := J.cell y k e
      rw [gone] at e1
      cases e1
    have nop : ∀ q ∈ X.pn ++ pins, q.1 ≠ a := by
      intro q hq e
      have y := (J.pin q hq).1
      rw [e, gone] at y
      cases y
    have S3 := J3.suite at3 dt3 na nL nF
    refine wpAny_handleBy_cons (codeAny_handlers_test ?_) (by intro q; cases q)
    have LT : PySem.W.Looks (model X.prog X.w) g3 (typeOf (.ref a)) cls := fun A Q E s k q => wpAny_typeOf_ref (k _ _ at3) (by rw [zc3.1]; exact q)
    have LM := PySem.W.exm_one (M := model X.prog X.w) (J3.kIn) LT hb1
    have asked : ∀ {Q : Value → Shared → Prop} {E : Value → Shared → Prop}, Q c { t with heap := g3 } → wpAny (model X.prog X.w) (X.A.mark (some (.ref a))) (eval (.Name x np) X.env) Q E { t with heap := g3 } := by
      intro Q E q
      obtain ⟨hg, hdbg, hm | ⟨hm, hv, hnn⟩⟩ := hc
      · exact ld_glob (X := X.suite a ((a, oe3) :: (X.pn ++ pins))) S3 hg hm q hdbg
      · exact ld_blt (X := X.suite a ((a, oe3) :: (X.pn ++ pins))) S3 hg hm hv q hnn hdbg
    refine asked (LM.here ?_)
    cases b with
    | true =>
      refine codeAny_handlers_suite_as (HandSPX.lands_againZ fl3 fun g4 fl4 up4 => ?_)
      have J4 : Inv X pins τ G { t with heap := g4 } := J.landed nb fl4.1 ((up.trans up3).trans up4) os ag
      obtain ⟨oe4, vs4, at4, zc4, dt4⟩ := fl4.there
      have S4 := J4.suite at4 dt4 na nL nF
      refine store_ok (X := X.suite a ((a, oe4) :: (X.pn ++ pins))) (v := .ref a) S4 hN hi (.inl hln) rfl (fun t5 S5 => ?_) (.inr hln)
      refine wpAny_mono ((hsu a oe4 (X.pn ++ pins)).run [] t5 _ G _ S5 (hyes rfl a na)) (fun fl t6 hsp => ?_) (fun _ _ z => False.elim z)
      cases fl with
      | next =>
        obtain ⟨τ6, G6, S6, q6⟩ := hsp
        obtain ⟨p1, p2, _⟩ := S6.pin (a, oe4) (List.mem_append_left _ List.mem_cons_self)
        have J6 : Inv X pins τ6 (upd G6 a (exK a cls d)) t6 := track (S6.unsuite ok) p2 gone0 nL noc nop (exK_ok p1 zc4 dt4)
        exact gone_ok J6 hN hi hln fun t7 J7 => ⟨_, _, J7, q6⟩
      | brk =>
        obtain ⟨_, _, _, q6⟩ := hsp
        exact False.elim q6
      | cont =>
        obtain ⟨_, _, _, q6⟩ := hsp
        exact False.elim q6
      | ret u =>
        obtain ⟨_, _, _, _, _, q6⟩ := hsp
        exact False.elim q6
    | false =>
      show wpAny _ X.A (handleBy (.ref a) X.env []) _ _ _
      refine wpAny_handleBy_nil ?_
      obtain ⟨k1, k2, k3, oe, vs, T, oT, ts', he, hz, hd, h1, hr⟩ := id fl3
      unfold PySem.passOn
      refine wpAny_bind (wpAny_field he hd h1 ?_)
      rw [if_neg (show ¬ ((Value.ref T == Value.none) = true) from by simp)]
      have away : wpAny (model X.prog X.w) X.A (setFlight (.ref a) X.env.frame) (fun _ t4 => wpAny (model X.prog X.w) X.A (throw (.ref a) : Sem Flow) (SP X pins D) X.xe t4) X.xe { t with heap := g3 } := by
        rw [hf]
        refine HandSPX.setFlight_upZ fl3 fun g4 hh4 up4 => wpAny_throw (tk _ _ ?_)
        exact ⟨a, B, sI, pins, τ, G, cls, d, rfl, J, nb, (up.trans up3).trans up4, .inr (.inr (by rw [hs]; exact hh4)), na, os, ag, hno rfl⟩
      first
        | exact wpAny_bind (wpAny_pure (wpAny_bind away))
        | exact wpAny_bind away
  · cases fl with
    | next =>
      obtain ⟨τ, G, J, q⟩ := hsp
      exact wpAny_execs_nil ⟨τ, G, J.ofTry ok, q⟩
    | brk =>
      obtain ⟨τ, G, J, q⟩ := hsp
      exact ⟨τ, G, J.ofTry ok, q⟩
    | cont =>
      obtain ⟨τ, G, J, q⟩ := hsp
      exact ⟨τ, G, J.ofTry ok, q⟩
    | ret u =>
      obtain ⟨v, τ, G, J, r, q⟩ := hsp
      exact ⟨v, τ, G, J.ofTry ok, r, q⟩
end
end Su
/-! ### XB: what is asked of a kept exception: isinstance, a field -/
namespace Su
open PySem PySem.Spec PyProof.Rows L2
/-- what the written part says of an own exception class -/
structure ExcT (K : PySem.W.Frag) (C : Addr) : Prop where
  cl : (PySem.W.clsIn K C).isSome = true
  ga : PySem.W.findIn K (.ref C) "__getattribute__" = some (some (.builtin "BaseException.__getattribute__"))
  gg : PySem.W.findIn K (.ref C) "__getattr__" = some none
  sub : PySem.W.subIn K (.ref C) (.type "BaseException") = some true
  cc : PySem.W.findIn K (.ref C) "__class__" = some (some (.builtin "object.__class__"))
  sp : PySem.W.specialIn K (.builtin "object.__class__") "__get__" = some (some (.builtin "getset_descriptor.__get__"))
  tk : PySem.W.takesIn K (.builtin "object.__class__") = some true
  mr : PySem.W.mroIn K C (.type "object") = some true
  hd : PySem.W.hasDictIn K C = true
/-- its dict, if it has one, is told -/
def XdAt (H : Hp) (d : Option Addr) : Prop := ∀ dd, d = some dd → ∃ fs, H dd = some (.xd fs)
section
variable {X : Cx} {pins : List (Addr × Obj)} {σ : L2.St} {H : Hp} {s : Shared}
theorem exK_inst {a C : Addr} {d : Option Addr} (I : Inv X pins σ H s) (e : H a = some (exK a (.ref C) d)) (hd : XdAt H d) : ∃ (ox : Obj) (od : Option Obj), PySem.W.InstAt s.heap a ox C od := by
  obtain ⟨oe, vs, e1, z, dt⟩ := (I.hok a _ e).1
  have no : PySem.W.notCls oe = true := by
    unfold PySem.W.notCls
    rw [dt]
  cases d with
  | none => exact ⟨oe, none, e1, z.1, no, by rw [z.2]; trivial⟩
  | some dd =>
    obtain ⟨fs, hx⟩ := hd dd rfl
    obtain ⟨mA, hns, _⟩ := (show ObjOk X.prog X.w H s.heap dd (.xd fs) from I.hok dd _ hx)
    obtain ⟨od, ho, _⟩ := lookIn_ns hns
    exact ⟨oe, some od, e1, z.1, no, by rw [z.2]; exact ho⟩
theorem exK_kit {a C : Addr} {d : Option Addr} (T : ExcT X.K C) (I : Inv X pins σ H s) (e : H a = some (exK a (.ref C) d)) (hd : XdAt H d) : ∃ P : Heap → Prop, PySem.W.KitX X.K (.ref a) (.ref C) P ∧ P s.heap := by
  obtain ⟨ox, od, J⟩ := exK_inst I e hd
  exact ⟨_, PySem.W.kitx_exc T.cl T.ga T.gg T.sub T.cc T.sp T.tk T.mr, J⟩
/-- isinstance(e, c) -/
def rIsiE (K : PySem.W.Frag) : List V → Hp → VK → Prop := fun xs H Q => ∃ (a C : Addr) (d : Option Addr) (c : V) (u : Value) (b : Bool), xs = [.ref a, c] ∧ ClsV c u ∧ ExcT K C ∧ H a = some (exK a (.ref C) d) ∧ XdAt H d ∧ PySem.W.kitOne K (.ref C) u = some b ∧ Q (.bl b) H
theorem call_isiE : CallR X (.builtin "isinstance") (rIsiE X.K) := by
  intro pins s σ H xs us Q I r h
  obtain ⟨a, C, d, c, u, b, rfl, k, T, e, hd, ek, q⟩ := h
  obtain ⟨u1, u2, rfl, r1, r2⟩ := vals2 r
  cases r1
  have e2 := k.eq r2
  subst e2
  obtain ⟨P, Z, p⟩ := exK_kit T I e hd
  exact PySem.W.kia_one Z I.kIn p ek (fun z => nomatch z) fun tk => ⟨.bl b, H, I.tok tk, rfl, q⟩
/-- isinstance(e, (c, ..)) -/
def rIsiET (K : PySem.W.Frag) : List V → Hp → VK → Prop := fun xs H Q => ∃ (a C tp : Addr) (d : Option Addr) (cs : List V) (us : List Value) (b : Bool), xs = [.ref a, .ref tp] ∧ T2 H tp cs ∧ Paired ClsV cs us ∧ ExcT K C ∧ H a = some (exK a (.ref C) d) ∧ XdAt H d ∧
  PySem.W.kitAny K (.ref C) us = some b ∧ Q (.bl b) H
theorem call_isiET : CallR X (.builtin "isinstance") (rIsiET X.K) := by
  intro pins s σ H xs us Q I r h
  obtain ⟨a, C, tp, d, cs, ws, b, rfl, hT, k, T, e, hd, ek, q⟩ := h
  obtain ⟨u1, u2, rfl, r1, r2⟩ := vals2 r
  cases r1
  cases r2
  obtain ⟨P, Z, p⟩ := exK_kit T I e hd
  obtain ⟨its, rv, ⟨⟨oc, od, dt, sl⟩, h1, h2, n, h3⟩, _⟩ := I.tuple (hT.sq (K := X.K))
  have e3 := ClsV.all k rv
  subst e3
  simp only at h2 h3
  subst h2 h3
  exact PySem.W.kia_tup Z I.kIn p h1 ek (fun z => nomatch z) fun tk => ⟨.bl b, H, I.tok tk, rfl, q⟩
/-- e.f -/
def tXfld (K : PySem.W.Frag) (f : Str) (te : TE) : TE := fun σ H Q => te σ H fun x H1 => ∃ (a C dd : Addr) (fs : List (Str × V)) (v : V), x = .ref a ∧ ExcT K C ∧ PySem.W.findIn K (.ref C) f = some none ∧ H1 a = some (exK a (.ref C) (some dd)) ∧ H1 dd = some (.xd fs) ∧ fs.lookup f = some v ∧ Q v H1
theorem pe_xfld {e : Expr} {f : Str} {te : TE} {pos : Pos} (he : PE X e te) (hb : attributeBase e f X.env (eval e X.env) = eval e X.env := by rfl) : PE X (.Attribute e f pos) (tXfld X.K f te) := by
  refine ⟨fun pins s σ H Q I h => ?_⟩
  refine attr_of hb (thn (he.run pins s σ H _ I h) fun u s1 ⟨x, H1, I1, rx, a, C, dd, fs, v, ex, T, no, ea, ed, ef, q⟩ => ?_)
  subst ex
  cases rx
  obtain ⟨oe, vs, e1, z, dt⟩ := (I1.hok a _ ea).1
  obtain ⟨mA, hns, hr⟩ := (show ObjOk X.prog X.w H1 s1.heap dd (.xd fs) from I1.hok dd _ ed)
  obtain ⟨od, ho, hl⟩ := lookIn_ns hns
  obtain ⟨u, hu, ru⟩ := RelO.some_of (v := v) (o := mA f) (by rw [← ef]; exact hr f)
  have J : PySem.W.InstAt s1.heap a oe C (some od) := ⟨e1, z.1, by unfold PySem.W.notCls; rw [dt], by rw [z.2]; exact ho⟩
  exact HandSPX.exc_get I1.kIn J T.ga T.gg T.sub (PySem.W.findObj_own T.hd no rfl (by rw [hl, hu])) (handed_of ru) ⟨v, H1, I1.tok _, ru, q⟩
end
end Su
/-! ### XC: an own exception class, over another one, whose __init__ calls that of the built-in above and keeps a field -/
namespace Su
namespace XC
open PySem PySem.W PySem.Calls PyProof.Rows PySem.HandSPX Builtin Builtin.ObjectAttr
def inA (f : Str) (p1 p2 : Pos) : Arguments :=
  { posonlyargs := [], args := [{ arg := "self", annotation := none, pos := p1 }, { arg := f, annotation := none, pos := p2 }], vararg := none, kwonlyargs := [], kw_defaults := [], kwarg := none, defaults := [] }
def inB (f t : Str) (r1 r2 r3 r4 r5 r6 q1 q2 q3 q4 : Pos) : List Stmt :=
  [.Expr (.Call (.Attribute (.Call (.Name "super" r1) [] [] r2) "__init__" r3) [.Constant (.str t) 0 r4] [] r5) r6, .Assign [.Attribute (.Name "self" q1) f q2] (.Name f q3) q4]
def inS (f : Str) : Scope :=
  { kind := .function, names := [(PySem.Str.ofString "self", .local), (f, .local), (PySem.Str.ofString "__class__", .free), (PySem.Str.ofString "super", .globalImplicit)], isGenerator := false, isCoroutine := false, more := [] }
/-- a field's name -/
structure Fld (f : Str) : Prop where
  self : f ≠ "self"
  cl : f ≠ "__class__"
  su : f ≠ "super"
  db : (f == ("__debug__" : Str)) = false
  bnd : ∀ (q : Str) (p1 p2 : Pos) (bd : List Stmt) (doc pm : Value) (an : Option Addr) (cd ct : Value) (cc : Addr) (a b : Value), bindArgs (ksFn "__init__" q (inA f p1 p2) bd (inS f) .none .none doc pm an cd ct cc) ⟨[a, b], []⟩ = pure ([("self", a), (f, b)] : List (Str × Value))
  sw : ∀ (q : Str) (L a : Addr) (cd : Value) (cc : Addr) (t : Str) (r1 r2 r3 r4 r5 : Pos) (k : Nat), swapsWith (.Call (.Attribute (.Call (.Name "super" r1) [] [] r2) "__init__" r3) [.Constant (.str t) 0 r4] [] r5) none k (ksEnv q (inS f) L a cd cc) = pure false
  sx : ∀ (q : Str) (L a : Addr) (cd : Value) (cc : Addr) (q1 q2 q3 : Pos) (k : Nat), swapsWith (.Name f q3) (some (.Attribute (.Name "self" q1) f q2)) k (ksEnv q (inS f) L a cd cc) = pure false
theorem fld_row : Fld "row" := ⟨by decide, by decide, by decide, by decide, fun _ _ _ _ _ _ _ _ _ _ _ _ => by first | rfl | with_unfolding_all rfl, fun _ _ _ _ _ _ _ _ _ _ _ _ => by first | rfl | with_unfolding_all rfl, fun _ _ _ _ _ _ _ _ _ => by first | rfl | with_unfolding_all rfl⟩
theorem fld_number : Fld "number" := ⟨by decide, by decide, by decide, by decide, fun _ _ _ _ _ _ _ _ _ _ _ _ => by first | rfl | with_unfolding_all rfl, fun _ _ _ _ _ _ _ _ _ _ _ _ => by first | rfl | with_unfolding_all rfl, fun _ _ _ _ _ _ _ _ _ => by first | rfl | with_unfolding_all rfl⟩
theorem fld_part : Fld "part" := ⟨by decide, by decide, by decide, by decide, fun _ _ _ _ _ _ _ _ _ _ _ _ => by first | rfl | with_unfolding_all rfl, fun _ _ _ _ _ _ _ _ _ _ _ _ => by first | rfl | with_unfolding_all rfl, fun _ _ _ _ _ _ _ _ _ => by first | rfl | with_unfolding_all rfl⟩
theorem fld_room : Fld "room" := ⟨by decide, by decide, by decide, by decide, fun _ _ _ _ _ _ _ _ _ _ _ _ => by first | rfl | with_unfolding_all rfl, fun _ _ _ _ _ _ _ _ _ _ _ _ => by first | rfl | with_unfolding_all rfl, fun _ _ _ _ _ _ _ _ _ => by first | rfl | with_unfolding_all rfl⟩
theorem fld_to : Fld "to" := ⟨by decide, by decide, by decide, by decide, fun _ _ _ _ _ _ _ _ _ _ _ _ => by first | rfl | with_unfolding_all rfl, fun _ _ _ _ _ _ _ _ _ _ _ _ => by first | rfl | with_unfolding_all rfl, fun _ _ _ _ _ _ _ _ _ => by first | rfl | with_unfolding_all rfl⟩
theorem fld_name : Fld "name" := ⟨by decide, by decide, by decide, by decide, fun _ _ _ _ _ _ _ _ _ _ _ _ => by first | rfl | with_unfolding_all rfl, fun _ _ _ _ _ _ _ _ _ _ _ _ => by first | rfl | with_unfolding_all rfl, fun _ _ _ _ _ _ _ _ _ => by first | rfl | with_unfolding_all rfl⟩
/-- what the written part says of the class n at C, over the built-in B, with the field f, its __init__ at fI -/
structure Own (P : Program) (K : Frag) (mg : Str → Option Value) (n f : Str) (C fI : Addr) (B newId initId : String) (bmB : List Value) : Prop where
  fld : Fld f
  gC : mg n = some (.ref C)
  ini : excInitIn K C bmB newId = true
  ovr : excOver K C bmB = true
  base : ExcBaseFacts B newId initId bmB
  stor : StoreFacts B bmB "object.__setattr__" "object"
  kx : KxsFacts B initId
  sa : findIn K (.ref C) "__setattr__" = some (some (.builtin "object.__setattr__"))
  noN : findIn K (.ref C) f = some none
  iC : findIn K (.ref C) "__init__" = some (some (.ref fI))
  fC : isFn K (.ref fI) = true
  kC : keepIn K (.ref C) = true
  exC : subIn K (.ref C) (.type "BaseException") = some true
  tyC : typeIn K (.ref C) = some (.type "type")
  hdC : hasDictIn K C = true
  isB : subIn K (.ref C) (.type B) = some true
  sup : ks_superIn K C C "__init__" = some (some (.builtin initId))
  own : mroIn K C (.ref C) = some true
  nos : mg "super" = none
  opq : nsIn K cStatics "thirdparty.any" = some none
  ntop : (P.main.scope.names.lookup ("super" : Str)).isSome = false
  fn : ∃ (oc : Value) (od : Option Addr) (q : Str) (doc pm : Value) (an : Option Addr) (cda cc : Addr) (ct : Value) (osl : Array (Option Value)) (t : Str) (p1 p2 r1 r2 r3 r4 r5 r6 q1 q2 q3 q4 : Pos)
      (ccl : Value) (cdd : Option Addr) (vs : Array Value) (ccs : Array (Option Value)) (file : Str) (tf : Tok) (cl : Value) (cld : Option Addr) (csl : Array (Option Value)),
    K.lookup fI = some ⟨oc, od, .func (ksFn "__init__" q (inA f p1 p2) (inB f t r1 r2 r3 r4 r5 r6 q1 q2 q3 q4) (inS f) .none .none doc pm an (.ref cda) ct cc), osl⟩ ∧ codeIn K (.ref cda) q = true ∧
    K.lookup cda = some ⟨ccl, cdd, .fields vs, ccs⟩ ∧ vs[2]? = some (.str file tf) ∧ ((P.main.file : Str) == file) = true ∧ (r3.endLine == r5.line) = true ∧ K.lookup cc = some ⟨cl, cld, .cell (some (.ref C)), csl⟩
/-- what __init__ leaves of a fresh exception at x -/
structure Left (h h' : Heap) (x C dx t1 : Addr) (f : Str) (v : Value) : Prop where
  keep : ∀ b o, b ≠ x → h.get? b = some o → h'.get? b = some o
  obj : h'.get? x = some { cls := .ref C, dict := some dx, data := .fields #[.ref t1, .none, .none, .none, .bool false, .none] }
  dbig : h.objs.size ≤ dx
  dne : dx ≠ x
  ns : h'.Ns1 dx (fun y => if y = f then some v else none)
section
variable {P : Program} {w : World} {A : Around} {E : Value → Shared → Prop} {R : Result → Shared → Prop} {s : Shared} {K : Frag} {mg : Str → Option Value} {n f : Str} {C fI : Addr} {B newId initId : String} {bmB : List Value}
theorem ev_init {env : Env} {o : Expr} {m : Str} {t : Str} {r3 r4 r5 : Pos} (hl : (r3.endLine == r5.line) = true) : ∃ pl, eval (.Call (.Attribute o m r3) [.Constant (.str t) 0 r4] [] r5) env = (do
    let ov ← attributeBase o m env (eval o env); standAt r3.atName
    let (g, first) ← holding [ov] (getMethod ov m pl); callWith r5 g first (backTo r5 (starEach [.Constant (.str t) 0 r4] env)) []) := by
  have e1 : methodCallForm 1 (backTo r5 (starEach [.Constant (.str t) 0 r4] env)) (backToKw r5 (keywordEach [] env)) = true := rfl
  have e2 : methodCallPos true o env r3 r5 = pure r5 := by
    unfold methodCallPos
    rw [hl]
    rfl
  refine ⟨do return (← importBound o env).getD true, ?_⟩
  rw [arm_eval_Call]
  show (do let ov ← attributeBase o m env (eval o env); standAt r3.atName; methodCall o m r3 r5 env ov 1 (backTo r5 (starEach [.Constant (.str t) 0 r4] env)) (backToKw r5 (keywordEach [] env))) = _
  unfold methodCall
  rw [e1, e2]
  simp only [calleeOf, if_true, pure_bind]
  rfl
theorem put_new {x t1 : Addr} {v : Value} {tk : Tok} (T : Own P K mg n f C fI B newId initId bmB) (X : K.In s.heap) (hx : s.heap.get? x = some (excO C t1))
    (hq : ∀ h' tk' dx, (∀ b o, b ≠ x → s.heap.get? b = some o → h'.get? b = some o) → s.heap.objs.size ≤ dx → dx ≠ x → h'.get? x = some { cls := .ref C, dict := some dx, data := .fields #[.ref t1, .none, .none, .none, .bool false, .none] } →
      h'.Ns1 dx (fun y => if y = f then some v else none) → R (.ok (.ret .none)) { s with heap := h', toks := tk' }) :
    codeAny (model P w) A (.call (.builtin "object.__setattr__") ⟨[.ref x, .str f tk, v], []⟩) R s := by
  obtain ⟨cd, hc, hd⟩ := any_some T.hdC
  have hxs : x ≠ s.heap.objs.size := Nat.ne_of_lt (Heap.lt_size hx)
  refine osa_openX (od := none) (r := none) T.stor X ⟨hx, rfl, rfl, trivial⟩ T.ovr (by unfold takerIn; rw [T.noN]; rfl) fun b => ?_
  obtain ⟨hp, g, d, t, os⟩ := s
  refine wpAny_bind (wpAny_pure (wpAny_bind (instanceDict_exc hx (looks_clsIn X hc) hd ?_)))
  show wpAny _ _ (storeInDict hp.objs.size (.str f tk) f v) _ _ _
  refine store_in_new ?_ fun h' tk' hn' hs => ?_
  · exact ⟨_, #[], _, (Heap.get?_update_ne _ _ _ _ hxs.symm).trans (Heap.get?_push_at rfl rfl), rfl, fun e he => absurd he (by simp), fun _ => rfl⟩
  · have e1 : (hp.push (dictOf [] 0)).get? x = some (excO C t1) := Heap.get?_push_of_some _ hx
    exact hq h' tk' hp.objs.size (fun b o hb ho => (hs.2 b (Nat.ne_of_lt (Heap.lt_size ho))).trans ((Heap.get?_update_ne _ _ _ _ hb).trans (Heap.get?_push_of_some _ ho))) (Nat.le_refl _) hxs.symm ((hs.2 x hxs).trans (Heap.get?_update_self _ e1 rfl)) hn'
theorem kind_f (F : Fld f) : (inS f).names.lookup f = some .local := by
  show List.lookup f ((PySem.Str.ofString "self", NameKind.local) :: (f, NameKind.local) :: _) = _
  rw [List.lookup_cons, show (f == PySem.Str.ofString "self") = false from by simpa using F.self, List.lookup_cons, beq_self_eq_true]
theorem kind_c (F : Fld f) : (inS f).names.lookup ("__class__" : Str) = some .free := by
  show List.lookup ("__class__" : Str) ((PySem.Str.ofString "self", NameKind.local) :: (f, NameKind.local) :: (PySem.Str.ofString "__class__", NameKind.free) :: _) = _
  rw [List.lookup_cons, show (("__class__" : Str) == PySem.Str.ofString "self") = false from by decide, List.lookup_cons, show (("__class__" : Str) == f) = false from by simpa using Ne.symm F.cl, List.lookup_cons, show (("__class__" : Str) == PySem.Str.ofString "__class__") = true from by decide]
theorem kind_s (F : Fld f) : (inS f).names.lookup ("super" : Str) = some .globalImplicit := by
  show List.lookup ("super" : Str) ((PySem.Str.ofString "self", NameKind.local) :: (f, NameKind.local) :: (PySem.Str.ofString "__class__", NameKind.free) :: (PySem.Str.ofString "super", NameKind.globalImplicit) :: _) = _
  rw [List.lookup_cons, show (("super" : Str) == PySem.Str.ofString "self") = false from by decide, List.lookup_cons, show (("super" : Str) == f) = false from by simpa using Ne.symm F.su, List.lookup_cons, show (("super" : Str) == PySem.Str.ofString "__class__") = false from by decide, List.lookup_cons, show (("super" : Str) == PySem.Str.ofString "super") = true from by decide]
/-- the built-in's __init__, bound to x, called: its args are laid anew -/
theorem call_mw {u x t0 : Addr} {a : Value} {Q : Value → Shared → Prop} (T : Own P K mg n f C fI B newId initId bmB) (X : K.In s.heap) (hx : s.heap.get? x = some (excO C t0)) (hu : s.heap.get? u = some (kxs_mw initId x))
    (hq : ∀ h' t1, (∀ b o, b ≠ x → s.heap.get? b = some o → h'.get? b = some o) → h'.get? x = some (excO C t1) → Q .none { s with heap := h' }) : wpAny (model P w) A (call (.ref u) [a]) Q E s := by
  obtain ⟨nm, N', qn, bs, bm, hdct, sn, sub, ab, col, dd, k0, k1, k2, k3, k5, hC, hT⟩ := excInit_of X T.ini
  obtain ⟨hp, g, d, tk, os⟩ := s
  have z1 : (Value.type "method-wrapper" == Value.type "method" || Value.type "method-wrapper" == Value.type "builtin_function_or_method" || Value.type "method-wrapper" == Value.type "method-wrapper") = true := by decide
  refine wpAny_call (codeAny_of_tree (show wpAny _ A.in1 (callAny (.ref u) ⟨[a], []⟩) _ _ _ from ?_))
  simp only [callAny]
  refine wpAny_bind (wpAny_load hu (by simp only [kxs_mw, z1, if_true]; refine KFB.if_so (by decide) (wpAny_bind (check_bound_init T.base.toExcCallFacts hC hx rfl (wpAny_bind (wpAny_pure (wpAny_pure ?_))))); exact ⟨plainId_quiet T.base.init.plain _, codeAny_builtin T.base.initEntry (exc_init_tree (cls := .ref C) (t0 := t0) (dv := none) (c2 := .none) (c3 := .none) (b4 := .bool false) hx (by rw [sizeLine_eq]; exact (by decide : 1 ≤ 16777216)) fun h' k e _ => hq h' _ k e)⟩))
theorem x_init (T : Own P K mg n f C fI B newId initId bmB) {x t0 : Addr} {v : Value} (X : K.In s.heap) (hG : s.heap.Ns mainGlobals mg) (hB : ∃ mb, s.heap.Ns builtinsNs mb ∧ ∀ y : Str, y ≠ "__name__" → mb y = bootBuiltins y) (hlim : s.heap.NoLimit)
    (hx : s.heap.get? x = some (excO C t0)) (hnx : K.lookup x = none) (hroom : A.depth < recursionLimit) (hq : ∀ h' tk dx t1, Left s.heap h' x C dx t1 f v → R (.ok (.ret .none)) { s with heap := h', toks := tk }) :
    codeAny (model P w) A (.call (.ref fI) ⟨[.ref x, v], []⟩) R s := by
  obtain ⟨oc, od, q, doc, pm, an, cda, cc, ct, osl, t, p1, p2, r1, r2, r3, r4, r5, r6, q1, q2, q3, q4, ccl, cdd, vs, ccs, file, tf, cl, cld, csl, ho, hcd, hcode, hvs, hfile, hln, hcell⟩ := T.fn
  obtain ⟨hp, g, d, tk0, os⟩ := s
  refine ks_codeAny_call_defAt (fd := ksFn "__init__" q (inA f p1 p2) (inB f t r1 r2 r3 r4 r5 r6 q1 q2 q3 q4) (inS f) .none .none doc pm an (.ref cda) ct cc) (body := inB f t r1 r2 r3 r4 r5 r6 q1 q2 q3 q4) (binds := [("self", .ref x), (f, v)]) hroom (X _ _ ho) rfl hlim (codeRec_of X hcd) rfl
    (BindsTo.of_eq ?b) ?c ?l (fun h₁ hns k₁ => ?_) rfl rfl rfl
  case b => exact T.fld.bnd _ _ _ _ _ _ _ _ _ _ _ _
  case c =>
    intro y hy e
    rcases List.mem_cons.mp hy with rfl | hy
    · cases e
    rcases List.mem_cons.mp hy with rfl | hy
    · cases e
    rcases List.mem_cons.mp hy with rfl | hy
    · cases e
    rcases List.mem_cons.mp hy with rfl | hy
    · cases e
    cases hy
  case l =>
    intro y hy
    rcases List.mem_cons.mp hy with rfl | hy
    · rfl
    rcases List.mem_cons.mp hy with rfl | hy
    · exact kind_f T.fld
    cases hy
  have X1 : K.In h₁ := X.keeps k₁
  have hx1 := k₁ _ _ hx
  obtain ⟨mb, hb1, hb2⟩ := hB
  obtain ⟨cd, hc, hd⟩ := any_some T.hdC
  have lself : (fun y => List.lookup y ([("self", .ref x), (f, v)] : List (Str × Value)).reverse) "self" = some (.ref x) := by
    show List.lookup ("self" : Str) [(f, v), ("self", .ref x)] = _
    rw [List.lookup_cons, show (("self" : Str) == f) = false from by simpa using Ne.symm T.fld.self, List.lookup_cons, beq_self_eq_true]
  have lf : (fun y => List.lookup y ([("self", .ref x), (f, v)] : List (Str × Value)).reverse) f = some v := by
    show List.lookup f [(f, v), ("self", .ref x)] = _
    rw [List.lookup_cons, beq_self_eq_true]
  obtain ⟨oD, hD1, hD2⟩ : ∃ oD, h₁.get? C = some oD ∧ oD.data = .cls cd := by
    unfold clsIn at hc
    split at hc
    · rename_i c d cd' sl ho
      cases hc
      exact ⟨_, X1 _ _ ho, rfl⟩
    · cases hc
  show _root_.PySem.wpAt _ _ (.func _ (ksEnv q (inS f) hp.objs.size fI (.ref cda) cc)) (execs _ (ksEnv q (inS f) hp.objs.size fI (.ref cda) cc)) _ _ _
  obtain ⟨pl, ev⟩ := ev_init (env := ksEnv q (inS f) hp.objs.size fI (.ref cda) cc) (o := .Call (.Name "super" r1) [] [] r2) (m := "__init__") (t := t) (r4 := r4) hln
  refine ks_wpAt_execs_cons (ks_wpAt_Expr_any (ks_wpAt_MethodCall (pl := pl) ?_ ev) rfl (T.fld.sw _ _ _ _ _ _ _ _ _ _ _ _))
  refine ks_wpAt_super_base (env := ksEnv q (inS f) hp.objs.size fI (.ref cda) cc) (kind_s T.fld) (kind_c T.fld) (by decide) rfl (X1 _ _ ho) rfl rfl rfl (X1 _ _ hcode) rfl hvs hfile T.ntop ?_
  refine ks_loadName_global rfl (kind_s T.fld) (loadGlobal_builtin (env := ksEnv q (inS f) hp.objs.size fI (.ref cda) cc) (hG.keeps k₁) T.nos (hb1.keeps k₁) ((hb2 _ (by decide)).trans (show bootBuiltins "super" = some (.type "super") from by first | rfl | decide +kernel)) ⟨rfl, ?_⟩)
  refine wpAny_loadName_free rfl (kind_c T.fld) rfl ⟨_, X1 _ _ hcell, rfl⟩ (wpAny_loadName_local rfl rfl hns lself (ks_wpAny_isType_cls hD1 hD2 ⟨rfl, ?_⟩))
  refine ks_wpAny_call_super hD1 hD2 hx1 rfl (fun c e => by cases e) (looks_mroIn X1 T.own) (fun h2 e2 k2 => ?_)
  have X2 : K.In h2 := X1.keeps k2
  have hx2 := k2 _ _ hx1
  have Ix : InstAt h2 x (excO C t0) C none := ⟨hx2, rfl, rfl, trivial⟩
  have hm := T.sup
  unfold ks_superIn at hm
  rw [hc] at hm
  refine kxs_getMethod T.kx e2 (looks_opaque X2 T.opq) (l₀ := cd.mro) (fun A Q E s k q => wpAny_bind ((looks_clsIn X2 hc) A _ E s k (wpAny_pure q))) rfl X2 hm (Ix.type.andThen (looks_subIn X2 T.isB)) (ks_ne X2 Ix hc) (by decide) ?_
  have k3 : ∀ b o, h2.get? b = some o → (h2.push (kxs_mw initId x)).get? b = some o := fun b o e => Heap.get?_push_of_some _ e
  refine kxs_callWith (i := initId) (x := x) rfl (evalArgs_plain (spliced_more (wpAny_Constant_str (spliced_none ⟨Heap.get?_push_at rfl rfl, ?_⟩))))
  refine call_mw T (X2.keeps k3) (k3 _ _ hx2) (Heap.get?_push_at rfl rfl) fun h4 t1 k4 hx4 => ?_
  have kk : ∀ b o, h₁.get? b = some o → (h2.push (kxs_mw initId x)).get? b = some o := fun b o e => k3 _ _ (k2 _ _ e)
  have hxL : hp.objs.size ≠ x := Nat.ne_of_gt (Heap.lt_size hx)
  have n4 : h4.Ns hp.objs.size (fun y => List.lookup y ([("self", .ref x), (f, v)] : List (Str × Value)).reverse) := by
    obtain ⟨oL, es, ep, hL, r⟩ := hns.keeps kk
    exact ⟨oL, es, ep, k4 _ _ hxL hL, r⟩
  have X4 : K.In h4 := fun b o e => k4 b o (fun z => by rw [z, hnx] at e; cases e) (X2.keeps k3 b o e)
  have lt : hp.objs.size < h4.objs.size := n4.lt
  show _root_.PySem.wpAt _ _ _ (execs _ (ksEnv q (inS f) hp.objs.size fI (.ref cda) cc)) _ _ _
  refine ks_wpAt_execs_cons (ks_wpAt_Assign_Attr (wpAt_of_wpAny ?_) (T.fld.sx _ _ _ _ _ _ _ _ _))
  refine wpAny_Name (wpAny_loadName_local rfl (kind_f T.fld) n4 lf (wpAny_Name (wpAny_loadName_local rfl rfl n4 lself ?_) (by decide))) T.fld.db
  refine set_plain X4 (ox := excO C t1) (od := none) ⟨hx4, rfl, rfl, trivial⟩ T.sa (put_new T X4 hx4 fun h5 tk5 dx k5 dn dne hx5 hn5 => ?_)
  show _root_.PySem.wpAt _ _ _ (execs [] _) _ _ _
  refine wpAt_of_wpAny (wpAny_execs_nil (hq h5 tk5 dx t1 ⟨fun b o hb e => k5 b o hb (k4 b o hb (kk _ _ (k₁ _ _ e))), hx5, Nat.le_trans (Nat.le_of_lt lt) dn, dne, hn5⟩))
/-- n(v), made: its own dict at d holds the field -/
structure Made (h h' : Heap) (e C d : Addr) (f : Str) (v : Value) : Prop where
  keep : ∀ b o, h.get? b = some o → h'.get? b = some o
  new : h.objs.size ≤ e
  obj : ∃ oe us, h'.get? e = some oe ∧ oe.cls = .ref C ∧ oe.dict = some d ∧ oe.data = .fields us ∧ us[1]? = some .none
  dbig : h.objs.size ≤ d
  dne : d ≠ e
  ns : h'.Ns1 d (fun y => if y = f then some v else none)
theorem x_made (T : Own P K mg n f C fI B newId initId bmB) {v : Value} (X : K.In s.heap) (hG : s.heap.Ns mainGlobals mg) (hB : ∃ mb, s.heap.Ns builtinsNs mb ∧ ∀ y : Str, y ≠ "__name__" → mb y = bootBuiltins y) (hlim : s.heap.NoLimit) (hroom : A.depth + 1 < recursionLimit)
    (hq : ∀ h' tk e d, Made s.heap h' e C d f v → R (.ok (.ret (.ref e))) { s with heap := h', toks := tk }) : codeAny (model P w) A (.call (.ref C) ⟨[v], []⟩) R s := by
  obtain ⟨nm, N', qn, bs, bm, hdct, sn, sub, ab, col, dd, k0, k1, k2, k3, k5, hC, hT⟩ := excInit_of X T.ini
  obtain ⟨oI, hoI, hcI⟩ : ∃ oI, s.heap.get? fI = some oI ∧ oI.cls = .type "function" := by
    obtain ⟨o, ho, hc⟩ := Option.map_eq_some_iff.mp (show (K.lookup fI).map (fun z => z.cls) = some (.type "function") from beq_iff_eq.mp T.fC)
    exact ⟨o, X _ _ ho, hc⟩
  obtain ⟨hp, g, dr, tk, os⟩ := s
  have k : ∀ b o, hp.get? b = some o → ((hp.push (kdv_tup [v])).push (excO C hp.objs.size)).get? b = some o := fun b o e => Heap.get?_push_of_some _ (Heap.get?_push_of_some _ e)
  have hnx : K.lookup (hp.objs.size + 1) = none := by
    cases e : K.lookup (hp.objs.size + 1) with
    | none => rfl
    | some o => exact absurd (Nat.lt_of_succ_lt (Heap.lt_size (show hp.get? (hp.objs.size + 1) = some o from X _ _ e))) (Nat.lt_irrefl _)
  refine call_own T.base hT hC (looks_findIn X T.iC) (fun self => exc_bind hoI hcI self) (by rw [sizeLine_eq]; exact (by decide : 1 ≤ 16777216)) ?_
  obtain ⟨mb, hb1, hb2⟩ := hB
  refine x_init (s := ⟨(hp.push (kdv_tup [v])).push (excO C hp.objs.size), g, dr, tk, os⟩) T (X.keeps k) (hG.keeps k) ⟨mb, hb1.keeps k, hb2⟩ (hlim.keeps k) (by heap_get) hnx (show A.depth + 1 < recursionLimit from hroom) fun h' tk' dx t1 L => ?_
  have z : hp.objs.size + 1 + 1 ≤ dx := by
    have q := L.dbig
    first
      | (simpa only [Heap.size_push] using q)
      | exact q
      | (rw [Heap.size_push, Heap.size_push] at q; exact q)
  refine ⟨rfl, hq h' tk' (hp.objs.size + 1) dx ⟨fun b o e => L.keep b o (Nat.ne_of_lt (Nat.lt_succ_of_lt (Heap.lt_size e))) (k b o e), Nat.le_succ _, ⟨_, _, L.obj, rfl, rfl, rfl, rfl⟩, Nat.le_trans (Nat.le_trans (Nat.le_succ _) (Nat.le_succ _)) z, L.dne, L.ns⟩⟩
end
end XC
open PySem PySem.Spec PyProof.Rows L2
theorem relO_fld {f : Str} {v : V} {u : Value} (r : RelV v u) (y : Str) : RelO (List.lookup y [(f, v)]) (if y = f then some u else none) := by
  by_cases e : y = f
  · subst e
    rw [if_pos rfl, List.lookup_cons, beq_self_eq_true]
    exact r
  · rw [if_neg e, List.lookup_cons, show (y == f) = false from by simpa using e]
    trivial
section
variable {X : Cx} {n f : Str} {C fI : Addr} {B newId initId : String} {bmB : List Value}
/-- n(e): a new exception, its dict at d -/
def tMkX (C : Addr) (f : Str) (ta : TA) : L2.St → Hp → XK → Prop := fun σ H Q => ta σ H fun vs H1 => ∃ v, vs = [v] ∧ ∀ d, H1 d = none → Q (.ref C) (some d) (upd H1 d (.xd [(f, v)]))
theorem pmk_x {a : Expr} {ta : TA} {p pos : Pos} {k : Nat} (T : XC.Own X.prog X.K X.mg n f C fI B newId initId bmB) (hr : Room k X.A) (ha : PA X [a] ta) (hg : Gl X n := by rfl)
    (he : starEach (a :: []) X.env = (false, eval a X.env) :: starEach [] X.env := by rfl) (hpl : (backTo pos (starEach [] X.env)).any (·.1) = false := by rfl) (hdb : (n == ("__debug__" : Str)) = false := by decide) : PMk X (.Call (.Name n p) [a] [] pos) (tMkX C f ta) := by
  intro pins s σ H Q I h
  refine wpAny_Call_Name_kw (ld_glob I hg T.gC (PySem.W.callWith_K (h₀ := X.base) I.ok.mod.kin T.kC (thn (ha.run pos pins s σ H _ I h) fun us s1 ⟨vs, H1, I1, r1, v, ev, q1⟩ => ?_) he hpl) hdb)
  subst ev
  refine ⟨I1.kIn, ?_⟩
  obtain ⟨u1, rfl, rv⟩ := vals1 r1
  show wpAny _ _ (call (.ref C) [u1]) _ _ _
  have hlim := I1.nolimit
  obtain ⟨mb, hb1, hb2⟩ := I1.mod.blt
  have hG := I1.mod.glob.keeps I1.bk
  have hb := hb1.keeps I1.bk
  obtain ⟨hp, g, dr, tk, os⟩ := s1
  refine wpAny_call (XC.x_made T I1.kIn hG ⟨mb, hb, hb2⟩ hlim (by have := hr.dp; omega) fun h' tk' e d M => ?_)
  show MkP X pins σ Q (.ref e) ⟨h', g, dr, tk', os⟩
  obtain ⟨oe, fv, hoe, hc, hd, hdat, h1⟩ := M.obj
  obtain ⟨G', g1, g2⟩ := restrict h' fun b => decide (b ≠ e)
  have gk : ∀ b, b ≠ e → G'.get? b = h'.get? b := fun b hb => g1 b (decide_eq_true hb)
  have ge : G'.get? e = none := g2 e (by simp)
  have ob : ObjOk X.prog X.w (upd H1 d (.xd [(f, v)])) G' d (.xd [(f, v)]) := ⟨_, M.ns.at (fun o q => (gk d M.dne).trans q), fun y => relO_fld rv y⟩
  have J : Inv X pins σ (upd H1 d (.xd [(f, v)])) ⟨G', g, dr, tk', os⟩ := I1.laid (t' := tk') (fun b o q => (gk b (Nat.ne_of_lt (Nat.lt_of_lt_of_le (Heap.lt_size q) M.new))).trans (M.keep b o q)) M.dbig ob
  refine ⟨e, oe, fv, ⟨G', g, dr, tk', os⟩, _, .ref C, some d, rfl, J, fun b o q => ?_, ge, hoe, ⟨hc, hd⟩, hdat, h1, by rw [upd_ne (Ne.symm M.dne)]; exact I1.hok.fresh M.new, rfl, I1.bare, raises_own T.exC T.tyC, q1 d (I1.hok.fresh M.dbig)⟩
  by_cases hb : b = e
  · rw [hb] at q
    cases ge.symm.trans (show G'.get? e = some o from q)
  · exact (gk b hb).symm.trans q
/-- raise n(e) -/
def tRaiseX (C : Addr) (f : Str) (W : WX) (ta : TA) : TS := fun _ σ H => tMkX C f ta σ H fun cls d H' => W cls d σ H'
theorem ps_raiseX {a : Expr} {ta : TA} {W : WX} {p pos pos2 : Pos} {k : Nat} (hc : X.calm = true) (T : XC.Own X.prog X.K X.mg n f C fI B newId initId bmB) (hr : Room k X.A) (tk : Takes X W) (ha : PA X [a] ta) (hg : Gl X n := by rfl)
    (he : starEach (a :: []) X.env = (false, eval a X.env) :: starEach [] X.env := by rfl) (hpl : (backTo pos (starEach [] X.env)).any (·.1) = false := by rfl) (hdb : (n == ("__debug__" : Str)) = false := by decide) :
    PS X (.Raise (some (.Call (.Name n p) [a] [] pos)) none pos2) (tRaiseX C f W ta) := ps_raise hc tk (pmk_x T hr ha hg he hpl hdb)
end
end Su
/-! ### XD: defs that may let an exception out -/
namespace Su
open PySem PySem.Spec PyProof.Rows L2
structure CalX (P : Program) (w : World) (K : PySem.W.Frag) (mg : Str → Option Value) (base : Heap) (k : Nat) (x : Str) (ps : List Str) (sp : Sp) : Prop where
  ex : ∃ (f : Addr) (fd : FuncData), FnOk P w K mg base (L2.CX P w) k f fd ps sp ∧ mg x = some (.ref f) ∧ PySem.W.keepIn K (.ref f) = true ∧ Binds K fd ps [] ∧ ∃ o : Obj, K.lookup f = some o ∧ o.data = .func fd
section
variable {P : Program} {w : World} {K : PySem.W.Frag} {mg : Str → Option Value} {base : Heap}
theorem cal_ofX {x : Str} {st : Stmt} {N ps : List Str} {k : Nat} {sp : Sp} (T : At K mg x st ps) (S : FnScope N ps (defScope st)) (len : ∀ vs H Q E, sp vs H Q E → vs.length = ps.length)
    (hb : ∀ (f : Addr) (cdv : Value) (A : Around) (outer : List Env) (s : Shared) (H : Hp) (vs : List V) (Q : VK) (E : XK), Room k (A.deeper (envOfC x (defScope st) s.heap.objs.size f cdv)) → sp vs H Q E →
      ∃ t, PSs (cxOf (L2.CX P w) P w K mg base N x (defScope st) f cdv A outer s H E) (defBody st) t ∧ t { nx := fun _ H' => Q .non H', rt := Q } (start N vs) H) : CalX P w K mg base (k + 1) x ps sp := by
  obtain ⟨f, fd, F, hm, b⟩ := T.ex
  have z : ∃ o : Obj, K.lookup f = some o ∧ o.data = .func fd := by
    obtain ⟨oc, od, kV, doc, pm, an, cdv, ct, osl, _, lk, _⟩ := F.ex
    exact ⟨_, lk, rfl⟩
  exact ⟨f, fd, F.okX S len (fun cdv A outer s H vs Q E => hb f cdv A outer s H vs Q E), hm, F.kp, b, z⟩
end
section
variable {X : Cx} {x : Str} {ps : List Str} {sp : Sp} {k j : Nat} {e : Expr} {es : List Expr} {t : TA} {p pos : Pos} {W : WX}
theorem pe_ownX (tk : Takes X W) (C : CalX X.prog X.w X.K X.mg X.base k x ps sp) (hr : Room j X.A) (hk : k ≤ j) (hg : Gl X x) (ha : PA X (e :: es) t)
    (hdb : (x == ("__debug__" : Str)) = false := by decide) (he : starEach (e :: es) X.env = (false, eval e X.env) :: starEach es X.env := by rfl) (hpl : (backTo pos (starEach es X.env)).any (·.1) = false := by rfl) :
    PE X (.Call (.Name x p) (e :: es) [] pos) (tCallS sp (WE W) t) := by
  obtain ⟨f, fd, F, hm, kp, b, _⟩ := C.ex
  exact pe_callS F (hr.mono hk) hg hm kp b (fun σ => passAt tk σ) ha hdb he hpl
end
end Su
/-! ### XE: raise X('..'), X an own exception class without own __init__ -/
namespace Su
open PySem PySem.Spec PyProof.Rows L2
/-- what the written part says of the class n at C, over the built-in B -/
structure Own0 (K : PySem.W.Frag) (mg : Str → Option Value) (n : Str) (C : Addr) (B newId initId : String) (bmB : List Value) : Prop where
  base : ExcBaseFacts B newId initId bmB
  ini : PySem.W.excIn K C bmB newId = true
  gC : mg n = some (.ref C)
  kC : PySem.W.keepIn K (.ref C) = true
  exC : PySem.W.subIn K (.ref C) (.type "BaseException") = some true
  tyC : PySem.W.typeIn K (.ref C) = some (.type "type")
def tRaiseT (C : Addr) (W : WX) : TS := fun _ σ H => W (.ref C) none σ H
theorem ps_raiseT {X : Cx} {n m : Str} {C : Addr} {B newId initId : String} {bmB : List Value} {W : WX} {j : Nat} {p p2 pos pos2 : Pos} (hc : X.calm = true) (T : Own0 X.K X.mg n C B newId initId bmB) (tk : Takes X W) (hg : Gl X n := by rfl)
    (hdb : (n == ("__debug__" : Str)) = false := by decide) : PS X (.Raise (some (.Call (.Name n p) [.Constant (.str m) j p2] [] pos)) none pos2) (tRaiseT C W) :=
  ps_raise hc tk (pmk_own T.base T.ini T.gC T.kC (raises_own T.exC T.tyC) hg hdb)
end Su
/-! ### GA: things of any kind -/
namespace Su
open PySem PySem.Spec PyProof.Rows L2
inductive G where
  | non
  | bl (b : Bool)
  | int (i : Int)
  | str (s : Str)
  | lst (l : List G)
  | tup (l : List G)
  | dct
mutual
/-- the value is such a thing; its lists stand apart from p -/
inductive Tg (p : Addr) (H : Hp) : V → G → Prop
  | non : Tg p H .non .non
  | bl (b : Bool) : Tg p H (.bl b) (.bl b)
  | int (i : Int) : Tg p H (.int i) (.int i)
  | str (s : Str) : Tg p H (.str s) (.str s)
  | lst {a : Addr} {vs : List V} {ds : List G} (n : a ≠ p) (e : H a = some (.lst vs)) (t : TgL p H vs ds) : Tg p H (.ref a) (.lst ds)
  | tup {a : Addr} {vs : List V} {ds : List G} (e : T2 H a vs) (t : TgL p H vs ds) : Tg p H (.ref a) (.tup ds)
  | dct {a : Addr} (e : H a = some (.dK [])) : Tg p H (.ref a) .dct
inductive TgL (p : Addr) (H : Hp) : List V → List G → Prop
  | nil : TgL p H [] []
  | cons {v : V} {vs : List V} {d : G} {ds : List G} (h : Tg p H v d) (t : TgL p H vs ds) : TgL p H (v :: vs) (d :: ds)
end
/-- what keeps such things -/
structure Keeps (p : Addr) (H H' : Hp) : Prop where
  ls : ∀ a vs, a ≠ p → H a = some (.lst vs) → H' a = some (.lst vs)
  tw : ∀ a vs, T2 H a vs → T2 H' a vs
  dk : ∀ a kvs, H a = some (.dK kvs) → H' a = some (.dK kvs)
theorem Keeps.of {p : Addr} {H H' : Hp} (k : Kept p H H') (hp : PoolAt H p) : Keeps p H H' := by
  refine ⟨fun a vs n z => k _ _ z n, fun a vs h => K2.of k hp _ _ h, fun a kvs z => ?_⟩
  obtain ⟨o, e, g, m, rfl, _⟩ := hp
  exact k _ _ z (ne_of z e (by intro y; cases y))
theorem Keeps.same {p : Addr} {H H' : Hp} (s : Same H H') : Keeps p H H' := ⟨fun a vs n z => s _ _ z, fun a vs h => h.same s, fun a kvs z => s _ _ z⟩
mutual
theorem Tg.keep {p : Addr} {H H' : Hp} (k : Keeps p H H') : ∀ {v : V} {g : G}, Tg p H v g → Tg p H' v g
  | _, _, .non => .non
  | _, _, .bl b => .bl b
  | _, _, .int i => .int i
  | _, _, .str s => .str s
  | _, _, .lst n e t => .lst n (k.ls _ _ n e) (TgL.keep k t)
  | _, _, .tup e t => .tup (k.tw _ _ e) (TgL.keep k t)
  | _, _, .dct e => .dct (k.dk _ _ e)
theorem TgL.keep {p : Addr} {H H' : Hp} (k : Keeps p H H') : ∀ {vs : List V} {gs : List G}, TgL p H vs gs → TgL p H' vs gs
  | _, _, .nil => .nil
  | _, _, .cons h t => .cons (Tg.keep k h) (TgL.keep k t)
end
theorem TgL.len {p : Addr} {H : Hp} : ∀ {vs : List V} {gs : List G}, TgL p H vs gs → vs.length = gs.length
  | _, _, .nil => rfl
  | _, _, .cons _ t => by
    rw [List.length_cons, List.length_cons, TgL.len t]
theorem TgL.get {p : Addr} {H : Hp} : ∀ {vs : List V} {gs : List G}, TgL p H vs gs → ∀ {i : Nat} {v : V}, vs[i]? = some v → ∃ g, gs[i]? = some g ∧ Tg p H v g
  | _, _, .nil, i, v, e => by simp at e
  | _, _, .cons h t, 0, v, e => by
    obtain rfl := (by simpa using e : _ = v)
    exact ⟨_, rfl, h⟩
  | _, _, .cons h t, i + 1, v, e => TgL.get t (i := i) (by simpa using e)
theorem TgL.ints {p : Addr} {H : Hp} : ∀ ns : List Int, TgL p H (ns.map V.int) (ns.map G.int)
  | [] => .nil
  | n :: ns => .cons (.int n) (TgL.ints ns)
theorem TgL.app {p : Addr} {H : Hp} : ∀ {vs ws : List V} {gs hs : List G}, TgL p H vs gs → TgL p H ws hs → TgL p H (vs ++ ws) (gs ++ hs)
  | _, _, _, _, .nil, h => h
  | _, _, _, _, .cons x t, h => .cons x (TgL.app t h)
/-! kinds -/
def tyG : G → String
  | .non => "NoneType"
  | .bl _ => "bool"
  | .int _ => "int"
  | .str _ => "str"
  | .lst _ => "list"
  | .tup _ => "tuple"
  | .dct => "dict"
theorem Tg.ty {K : PySem.W.Frag} {p : Addr} {H : Hp} {v : V} {g : G} (h : Tg p H v g) : TyX K H v (.type (tyG g)) := by
  cases h with
  | non => exact .base .non
  | bl b => exact .base (.bl b)
  | int i => exact .base (.int i)
  | str s => exact .base (.str s)
  | lst n e t => exact .base (.lst e)
  | tup e t => exact e.ty
  | dct e => exact .base (.dK e)
def isInt : G → Bool
  | .non => false
  | .bl _ => true
  | .int _ => true
  | .str _ => false
  | .lst _ => false
  | .tup _ => false
  | .dct => false
theorem kit_int {K : PySem.W.Frag} (g : G) : PySem.W.kitOne K (.type (tyG g)) (.type "int") = some (isInt g) := by
  refine kit_ty ?_
  cases g
  · exact (by decide +kernel : kitB "NoneType" "int" = some false)
  · exact (by decide +kernel : kitB "bool" "int" = some true)
  · exact (by decide +kernel : kitB "int" "int" = some true)
  · exact (by decide +kernel : kitB "str" "int" = some false)
  · exact (by decide +kernel : kitB "list" "int" = some false)
  · exact (by decide +kernel : kitB "tuple" "int" = some false)
  · exact (by decide +kernel : kitB "dict" "int" = some false)
def isBool : G → Bool
  | .non => false
  | .bl _ => true
  | .int _ => false
  | .str _ => false
  | .lst _ => false
  | .tup _ => false
  | .dct => false
theorem kit_bool {K : PySem.W.Frag} (g : G) : PySem.W.kitOne K (.type (tyG g)) (.type "bool") = some (isBool g) := by
  refine kit_ty ?_
  cases g
  · exact (by decide +kernel : kitB "NoneType" "bool" = some false)
  · exact (by decide +kernel : kitB "bool" "bool" = some true)
  · exact (by decide +kernel : kitB "int" "bool" = some false)
  · exact (by decide +kernel : kitB "str" "bool" = some false)
  · exact (by decide +kernel : kitB "list" "bool" = some false)
  · exact (by decide +kernel : kitB "tuple" "bool" = some false)
  · exact (by decide +kernel : kitB "dict" "bool" = some false)
def isStr : G → Bool
  | .non => false
  | .bl _ => false
  | .int _ => false
  | .str _ => true
  | .lst _ => false
  | .tup _ => false
  | .dct => false
theorem kit_str {K : PySem.W.Frag} (g : G) : PySem.W.kitOne K (.type (tyG g)) (.type "str") = some (isStr g) := by
  refine kit_ty ?_
  cases g
  · exact (by decide +kernel : kitB "NoneType" "str" = some false)
  · exact (by decide +kernel : kitB "bool" "str" = some false)
  · exact (by decide +kernel : kitB "int" "str" = some false)
  · exact (by decide +kernel : kitB "str" "str" = some true)
  · exact (by decide +kernel : kitB "list" "str" = some false)
  · exact (by decide +kernel : kitB "tuple" "str" = some false)
  · exact (by decide +kernel : kitB "dict" "str" = some false)
def isTuple : G → Bool
  | .non => false
  | .bl _ => false
  | .int _ => false
  | .str _ => false
  | .lst _ => false
  | .tup _ => true
  | .dct => false
theorem kit_tuple {K : PySem.W.Frag} (g : G) : PySem.W.kitOne K (.type (tyG g)) (.type "tuple") = some (isTuple g) := by
  refine kit_ty ?_
  cases g
  · exact (by decide +kernel : kitB "NoneType" "tuple" = some false)
  · exact (by decide +kernel : kitB "bool" "tuple" = some false)
  · exact (by decide +kernel : kitB "int" "tuple" = some false)
  · exact (by decide +kernel : kitB "str" "tuple" = some false)
  · exact (by decide +kernel : kitB "list" "tuple" = some false)
  · exact (by decide +kernel : kitB "tuple" "tuple" = some true)
  · exact (by decide +kernel : kitB "dict" "tuple" = some false)
def isList : G → Bool
  | .non => false
  | .bl _ => false
  | .int _ => false
  | .str _ => false
  | .lst _ => true
  | .tup _ => false
  | .dct => false
theorem kit_list {K : PySem.W.Frag} (g : G) : PySem.W.kitOne K (.type (tyG g)) (.type "list") = some (isList g) := by
  refine kit_ty ?_
  cases g
  · exact (by decide +kernel : kitB "NoneType" "list" = some false)
  · exact (by decide +kernel : kitB "bool" "list" = some false)
  · exact (by decide +kernel : kitB "int" "list" = some false)
  · exact (by decide +kernel : kitB "str" "list" = some false)
  · exact (by decide +kernel : kitB "list" "list" = some true)
  · exact (by decide +kernel : kitB "tuple" "list" = some false)
  · exact (by decide +kernel : kitB "dict" "list" = some false)
end Su
/-! ### GB: such things as data -/
namespace Su
open PySem PySem.Spec PyProof.Rows L2
mutual
def toD : G → PyData
  | .non => .none
  | .bl b => .bool b
  | .int i => .int i
  | .str s => .str s
  | .lst l => .list (toDs l)
  | .tup l => .tuple (toDs l)
  | .dct => .dict []
def toDs : List G → List PyData
  | [] => []
  | g :: gs => toD g :: toDs gs
end
mutual
def okD : G → Bool
  | .dct => false
  | .lst l => okDs l
  | .tup l => okDs l
  | _ => true
def okDs : List G → Bool
  | [] => true
  | g :: gs => okD g && okDs gs
end
mutual
theorem Tg.dp {K : PySem.W.Frag} {p : Addr} {H : Hp} : ∀ {v : V} {g : G}, Tg p H v g → okD g = true → Dp K H v (toD g)
  | _, _, .non, _ => .non
  | _, _, .bl b, _ => .bl b
  | _, _, .int i, _ => .int i
  | _, _, .str s, _ => .str s
  | _, _, .lst n e t, h => .lst (SqL.of e) (TgL.dp t (by simpa only [okD] using h))
  | _, _, .tup e t, h => .tup e.sq (TgL.dp t (by simpa only [okD] using h))
  | _, _, .dct _, h => by simp [okD] at h
theorem TgL.dp {K : PySem.W.Frag} {p : Addr} {H : Hp} : ∀ {vs : List V} {gs : List G}, TgL p H vs gs → okDs gs = true → DpAll K H vs (toDs gs)
  | _, _, .nil, _ => .nil
  | _, _, .cons x t, h => by
    simp only [okDs, Bool.and_eq_true] at h
    exact .cons (Tg.dp x h.1) (TgL.dp t h.2)
end
theorem toDs_map : ∀ gs : List G, toDs gs = gs.map toD
  | [] => rfl
  | g :: gs => by
    show toD g :: toDs gs = toD g :: gs.map toD
    rw [toDs_map gs]
theorem okDs_all : ∀ gs : List G, okDs gs = gs.all okD
  | [] => rfl
  | g :: gs => by
    show (okD g && okDs gs) = (okD g && gs.all okD)
    rw [okDs_all gs]
theorem eqv_nilD (ds : List PyData) : PyData.eqv (.list ds) (.list []) = ds.isEmpty := by
  cases ds with
  | nil => rfl
  | cons x l => rfl
/-- a thing that may stand in a tuple -/
structure OkE (g : G) : Prop where
  ok : okD g = true
  cl : (toD g).canLay0 = true
  dp : (toD g).depth ≤ 4
theorem lay_all : ∀ {gs : List G}, (∀ g ∈ gs, OkE g) → PyData.canLayAll0 (toDs gs) = true ∧ PyData.depthAll (toDs gs) ≤ 4
  | [], _ => ⟨by simp [toDs, PyData.canLayAll0], by simp [toDs, PyData.depthAll]⟩
  | g :: gs, h => by
    obtain ⟨a, b⟩ := lay_all fun x hx => h x (List.mem_cons_of_mem _ hx)
    have c := h g List.mem_cons_self
    refine ⟨?_, ?_⟩
    · simp only [toDs, PyData.canLayAll0, c.cl, a, Bool.and_self]
    · simp only [toDs, PyData.depthAll]
      have := c.dp
      omega
/-- a list of such things beside [] -/
theorem OkE.list {gs : List G} (h : ∀ g ∈ gs, OkE g) : okDs gs = true ∧ SeqAt.shaped (.list (toDs gs)) = true := by
  obtain ⟨a, b⟩ := lay_all h
  refine ⟨?_, ?_⟩
  · rw [okDs_all, List.all_eq_true]
    exact fun g hg => (h g hg).ok
  · unfold SeqAt.shaped
    rw [Bool.and_eq_true, decide_eq_true_eq]
    refine ⟨by simp only [PyData.canLay0, a], ?_⟩
    simp only [PyData.depth]
    omega
theorem shaped_nil : SeqAt.shaped (.list []) = true := by
  have f2 : Fine (.list []) 1 0 := Fine.list FineL.nil
  exact f2.shaped (by decide)
end Su
/-! ### GC: repr of such things -/
namespace Su
open PySem PySem.Spec PyProof.Rows L2
structure Fz (g : G) (n m : Nat) : Prop where
  sh : (toD g).showable = true
  dp : (toD g).depth ≤ n
  lv : (toD g).leavesShort 30 = true
  wt : (toD g).weight ≤ m
structure FzL (gs : List G) (n m : Nat) : Prop where
  sh : PyData.showableAll (toDs gs) = true
  dp : PyData.depthAll (toDs gs) ≤ n
  lv : PyData.leavesShortAll 30 (toDs gs) = true
  wt : PyData.weightAll (toDs gs) ≤ m
theorem Fz.up {g : G} {n m n' m' : Nat} (h : Fz g n m) (a : n ≤ n') (b : m ≤ m') : Fz g n' m' := ⟨h.sh, Nat.le_trans h.dp a, h.lv, Nat.le_trans h.wt b⟩
theorem FzL.up {g : List G} {n m n' m' : Nat} (h : FzL g n m) (a : n ≤ n') (b : m ≤ m') : FzL g n' m' := ⟨h.sh, Nat.le_trans h.dp a, h.lv, Nat.le_trans h.wt b⟩
theorem Fz.int {i : Int} (h1 : -1000000 ≤ i) (h2 : i ≤ 1000000) : Fz (.int i) 0 40 := by
  have hb : i.natAbs < 10 ^ 12 := by omega
  have hl : i.natAbs.log2 < 39 := by
    by_cases z : i.natAbs = 0
    · rw [z]
      decide
    · exact (Nat.log2_lt z).mpr (by omega)
  refine ⟨?_, by simp [toD, PyData.depth], ?_, ?_⟩
  · simp only [toD, PyData.showable, decide_eq_true_eq]
    omega
  · simp only [toD, PyData.leavesShort, decide_eq_true_eq]
    exact Nat.le_trans (PyData.shown_int_le hb) (by decide)
  · simp only [toD, PyData.weight]
    split <;> omega
theorem Fz.none : Fz .non 0 0 := ⟨by simp [toD, PyData.showable], by simp [toD, PyData.depth], by simp [toD, PyData.leavesShort], by simp [toD, PyData.weight]⟩
theorem Fz.bool (b : Bool) : Fz (.bl b) 0 0 := ⟨by simp [toD, PyData.showable], by simp [toD, PyData.depth], by simp [toD, PyData.leavesShort], by simp [toD, PyData.weight]⟩
theorem Fz.dct : Fz .dct 1 0 := ⟨by simp [toD, PyData.showable, PyData.showableKv], by simp [toD, PyData.depth, PyData.depthKv], by simp [toD, PyData.leavesShort, PyData.leavesShortKv], by simp [toD, PyData.weight, PyData.weightKv]⟩
theorem FzL.nil {n : Nat} : FzL [] n 0 := ⟨by simp [toDs, PyData.showableAll], by simp [toDs, PyData.depthAll], by simp [toDs, PyData.leavesShortAll], by simp [toDs, PyData.weightAll]⟩
theorem FzL.cons {g : G} {gs : List G} {n m k : Nat} (h : Fz g n m) (t : FzL gs n k) : FzL (g :: gs) n (m + 1 + k) := by
  refine ⟨?_, ?_, ?_, ?_⟩
  · simp only [toDs, PyData.showableAll, h.sh, t.sh, Bool.and_self]
  · simp only [toDs, PyData.depthAll]
    have := h.dp
    have := t.dp
    omega
  · simp only [toDs, PyData.leavesShortAll, h.lv, t.lv, Bool.and_self]
  · simp only [toDs, PyData.weightAll]
    have := h.wt
    have := t.wt
    omega
theorem Fz.tup {gs : List G} {n m : Nat} (t : FzL gs n m) : Fz (.tup gs) (n + 1) m :=
  ⟨by simpa only [toD, PyData.showable] using t.sh, by simp only [toD, PyData.depth]; have := t.dp; omega, by simpa only [toD, PyData.leavesShort] using t.lv, by simpa only [toD, PyData.weight] using t.wt⟩
theorem Fz.lst {gs : List G} {n m : Nat} (t : FzL gs n m) : Fz (.lst gs) (n + 1) m :=
  ⟨by simpa only [toD, PyData.showable] using t.sh, by simp only [toD, PyData.depth]; have := t.dp; omega, by simpa only [toD, PyData.leavesShort] using t.lv, by simpa only [toD, PyData.weight] using t.wt⟩
theorem FzL.all {n m : Nat} : ∀ {gs : List G}, (∀ g ∈ gs, Fz g n m) → FzL gs n ((m + 1) * gs.length)
  | [], _ => FzL.nil
  | g :: gs, h => by
    have a := FzL.cons (h g List.mem_cons_self) (FzL.all fun y hy => h y (List.mem_cons_of_mem _ hy))
    have e : m + 1 + (m + 1) * gs.length = (m + 1) * (g :: gs).length := by
      rw [List.length_cons, Nat.mul_add, Nat.mul_one, Nat.add_comm]
    rw [e] at a
    exact a
theorem Fz.len {g : G} {n m : Nat} (h : Fz g n m) (hm : m ≤ 500000) : (toD g).shown.length ≤ sizeLine := by
  have a := PyData.shown_le 30 (by decide) (toD g) h.lv
  have b := h.wt
  rw [sizeLine_eq]
  omega
mutual
theorem okD_nd : ∀ g : G, okD g = true → (toD g).hasDict = false
  | .non, _ => by simp [toD, PyData.hasDict]
  | .bl _, _ => by simp [toD, PyData.hasDict]
  | .int _, _ => by simp [toD, PyData.hasDict]
  | .str _, _ => by simp [toD, PyData.hasDict]
  | .lst l, h => by
    simp only [toD, PyData.hasDict]
    exact okDs_nd l (by simpa only [okD] using h)
  | .tup l, h => by
    simp only [toD, PyData.hasDict]
    exact okDs_nd l (by simpa only [okD] using h)
  | .dct, h => by simp [okD] at h
theorem okDs_nd : ∀ gs : List G, okDs gs = true → PyData.hasDictAll (toDs gs) = false
  | [], _ => by simp [toDs, PyData.hasDictAll]
  | g :: gs, h => by
    simp only [okDs, Bool.and_eq_true] at h
    simp only [toDs, PyData.hasDictAll, okD_nd g h.1, okDs_nd gs h.2, Bool.or_self]
end
/-- a thing without a dict, or an empty dict -/
def Flat (g : G) : Prop := okD g = true ∨ g = .dct
section
variable {X : Cx} {pins : List (Addr × Obj)} {σ : L2.St} {H : Hp} {s : Shared} {p : Addr}
theorem flat_reads (I : Inv X pins σ H s) {v : V} {g : G} {u : Value} (h : Tg p H v g) (r : RelV v u) (fl : Flat g) : ∃ as, Reads s.heap u (toD g) as ∧ ((toD g).hasDict = true → sysModules ∉ as) := by
  rcases fl with ok | rfl
  · obtain ⟨as, rd⟩ := Dp.reads I (toD g) v u (h.dp ok) r
    exact ⟨as, rd, PyData.noDict_hsm (okD_nd g ok)⟩
  · cases h with
    | @dct a e =>
      cases r
      obtain ⟨_, lo, vs, kv, o, es, ep, ho, hx, hd, _, pr, _⟩ := dk_of I.hok e
      cases kv
      have ee : es.toList = [] := by
        cases hz : es.toList with
        | nil => rfl
        | cons x l =>
          rw [hz] at pr
          cases pr
      refine ⟨_, Reads.dict (kvs := []) ho hx.1 hd (by rw [ee]; exact .nil) (by rw [ee]; exact .nil), fun _ hm => ?_⟩
      rcases List.mem_append.mp hm with z | z
      · rcases List.mem_cons.mp z with y | y
        · rw [← y] at lo
          simp at lo
        · cases y
      · cases z
theorem rows_reads (I : Inv X pins σ H s) : ∀ {vs : List V} {gs : List G} {us : List Value}, TgL p H vs gs → Vals vs us → (∀ g ∈ gs, Flat g) → PyData.showableAll (toDs gs) = true → (∀ t ∈ PyData.shownAll (toDs gs), t.length ≤ sizeLine) →
    (∃ as, ReadsAll s.heap us (toDs gs) as) ∧ ∃ bs, ReadAtMost s.heap (PyData.depthAll (toDs gs)) bs ∧ ReprAllK X.prog X.w bs s.heap (PyData.depthAll (toDs gs)) us (PyData.shownAll (toDs gs))
  | _, _, _, .nil, r, _, _, _ => by
    cases r
    exact ⟨⟨_, .nil⟩, [], (fun _ h => nomatch h), by simp only [toDs, PyData.shownAll]; exact .nil⟩
  | _, _, _, .cons (d := d) (ds := ds) h t, r, fl, sh, hz => by
    cases r with
    | cons r1 r2 =>
      have sh' : (toD d).showable = true ∧ PyData.showableAll (toDs ds) = true := by simpa [toDs, PyData.showableAll] using sh
      obtain ⟨as, rd, hsm⟩ := flat_reads I h r1 (fl d List.mem_cons_self)
      obtain ⟨b1, hb1, k1⟩ := ReprK.of_reads (prog := X.prog) (w := X.w) rd sh'.1 hsm (hz _ (by simp only [toDs, PyData.shownAll]; exact List.mem_cons_self ..))
      obtain ⟨⟨as2, rd2⟩, b2, hb2, k2⟩ := rows_reads I t r2 (fun g hg => fl g (List.mem_cons_of_mem _ hg)) sh'.2 (fun t ht => hz t (by simp only [toDs, PyData.shownAll]; exact List.mem_cons_of_mem _ ht))
      refine ⟨⟨_, .cons rd rd2⟩, b1 ++ b2, ?_, ?_⟩
      · intro b hm
        simp only [toDs, PyData.depthAll]
        rcases List.mem_append.mp hm with hm | hm
        · obtain ⟨d', as', r', hd'⟩ := hb1 b hm
          exact ⟨d', as', r', Nat.le_trans hd' (Nat.le_max_left _ _)⟩
        · obtain ⟨d', as', r', hd'⟩ := hb2 b hm
          exact ⟨d', as', r', Nat.le_trans hd' (Nat.le_max_right _ _)⟩
      · simp only [toDs, PyData.depthAll, PyData.shownAll]
        exact .cons ((k1.more fun b hb => List.mem_append_left _ hb).level_le (Nat.le_max_left _ _)) (k2.more_le (fun b hb => List.mem_append_right _ hb) (Nat.le_max_right _ _))
end
/-- what may be shown: flat, or a list of flat things -/
structure Shw (g : G) : Prop where
  fz : Fz g 40 500000
  fl : Flat g ∨ ∃ gs, g = .lst gs ∧ ∀ x ∈ gs, Flat x
section
variable {X : Cx}
def rReprG : List V → Hp → VK → Prop := fun xs H Q => ∃ (p : Addr) (v : V) (g : G), xs = [v] ∧ Tg p H v g ∧ Shw g ∧ Q (.str (toD g).shown) H
theorem call_reprG (hg : X.A.guards = some []) (hu : X.A.units + 64 < cLine) : CallR X (.builtin "repr") rReprG := by
  intro pins s σ H xs us Q I r h
  obtain ⟨p, v, g, rfl, ht, sw, q⟩ := h
  obtain ⟨u, rfl, ru⟩ := vals1 r
  have hz := sw.fz.len (Nat.le_refl _)
  have hdp := sw.fz.dp
  have ht0 := ht
  rcases sw.fl with fl | ⟨gs, rfl, fl⟩
  · cases ht with
    | non =>
      cases ru
      simp only [toD, PyData.shown] at q
      exact PySem.P.repr_of_none ⟨.str _, H, I.tok _, ⟨_, rfl⟩, q⟩
    | bl b =>
      cases ru
      simp only [toD, PyData.shown] at q
      exact PySem.P.repr_of_bool ⟨.str _, H, I.tok _, ⟨_, rfl⟩, q⟩
    | int i =>
      obtain ⟨t, rfl⟩ := ru
      simp only [toD, PyData.shown] at q
      have z := sw.fz.sh
      simp only [toD, PyData.showable, decide_eq_true_eq] at z
      exact PySem.P.repr_of_int z ⟨.str _, H, I.tok _, ⟨_, rfl⟩, q⟩
    | str x =>
      obtain ⟨t, rfl⟩ := ru
      simp only [toD, PyData.shown] at q hz
      exact PySem.P.repr_of_str ⟨.str _, H, I.tok _, ⟨_, rfl⟩, q⟩ hz
    | @lst a vs ds n e t =>
      cases ru
      obtain ⟨as, rd, hsm⟩ := flat_reads I ht0 rfl fl
      exact repr_of_reads' rd sw.fz.sh hsm hg (by omega) (fun _ _ z => z) (fun h' u tk hk => ⟨.str _, H, I.kept hk, ⟨u, rfl⟩, q⟩) hz
    | @tup a vs ds e t =>
      cases ru
      obtain ⟨as, rd, hsm⟩ := flat_reads I ht0 rfl fl
      exact repr_of_reads' rd sw.fz.sh hsm hg (by omega) (fun _ _ z => z) (fun h' u tk hk => ⟨.str _, H, I.kept hk, ⟨u, rfl⟩, q⟩) hz
    | @dct a e =>
      cases ru
      obtain ⟨as, rd, hsm⟩ := flat_reads I ht0 rfl fl
      exact repr_of_reads' rd sw.fz.sh hsm hg (by omega) (fun _ _ z => z) (fun h' u tk hk => ⟨.str _, H, I.kept hk, ⟨u, rfl⟩, q⟩) hz
  · cases ht with
    | @lst a vs _ n e t =>
      cases ru
      obtain ⟨its, rv, ⟨o, na, ho, hc, _, hd⟩, _⟩ := I.list (SqL.of e)
      have hz' : (listText (PyData.shownAll (toDs gs))).length ≤ sizeLine := by simpa only [toD, PyData.shown] using hz
      have sh' : PyData.showableAll (toDs gs) = true := by simpa only [toD, PyData.showable] using sw.fz.sh
      obtain ⟨⟨as, rda⟩, bs, hb, hk⟩ := rows_reads I t rv fl sh' (fun t ht => Nat.le_trans (listText_mem_le ht) hz')
      have rd : Reads s.heap (.ref a) (.list (toDs gs)) (a :: as) := Reads.list ho hc hd (by simpa using rda)
      have hna : a ∉ bs := not_mem_of_deeper rd (by simp only [PyData.depth]; omega) hb
      have q2 : Q (.str (listText (PyData.shownAll (toDs gs)))) H := by simpa only [toD, PyData.shown] using q
      simp only [toD, PyData.depth] at hdp
      refine call_repr_slot (by omega) ⟨o, ho, hc⟩ F.slot_list_repr.toG ?_
      cases its with
      | nil =>
        have e0 : toDs gs = [] := by
          clear q q2 hz hz' hdp sw sh' hk hb hna rd ht0 fl
          generalize toDs gs = ds at rda ⊢
          cases rda
          rfl
        rw [e0] at q2
        simp only [PyData.shownAll, listText_nil] at q2
        exact call_list_repr_empty ⟨o, ho, hc⟩ ho hd ⟨_, _, rfl, .str _, H, I.kept fun _ _ e => e, ⟨_, rfl⟩, q2⟩
      | cons x l =>
        exact call_list_reprK ho hc hd hna (by simpa using hk.length_eq) (fun i y e => hk.item i y (by simpa using e)) hg (fun b _ => Clear.nil b) (by show X.A.units + 1 + (_ + 1) < cLine; omega) (fun _ _ z => z) (fun h' u tk hk => ⟨_, _, rfl, .str _, H, I.kept hk, ⟨u, rfl⟩, q2⟩) hz'
end
end Su
/-! ### SH: set(t), t a tuple of ints -/
namespace Su
open PySem PySem.Spec PyProof.Rows L2
section
variable {P : Program} {w : World} {A : Around} {E : Value → Shared → Prop} {s : Shared}
theorem set_of_tup {l : Addr} {its : Array Value} (ns : List Int) {Q : Value → Shared → Prop} (hh : A.handled = none) (hl : s.heap.IsTuple l its) (ia : IntsAre its.toList ns) (few : ns.length + 1 < scanBound)
    (q : ∀ (h' : Heap) (tk c : Nat), SetR w h' s.heap.objs.size (fun j => decide (j ∈ ns)) c → c ≤ ns.length → (∀ b o, s.heap.get? b = some o → h'.get? b = some o) → Q (.ref s.heap.objs.size) { s with heap := h', toks := tk }) :
    wpAny (model P w) A (call (.type "set") [.ref l]) Q E s := by
  have sz : its.size = ns.length := by
    have z := IntsAre.length ia
    rwa [Array.length_toList] at z
  obtain ⟨c0, tl0, m0⟩ := F.called_set.mro
  have m1 := F.called_set.made
  have m2 := F.called_set.sub
  have m3 := F.called_set.notType
  have m4 := F.called_set.canCreate
  have m5 := F.typeCall_set_1 (.ref l)
  refine wpAny_call (codeAny_of_tree ?_)
  show wpAny _ _ (callAny (.type "set") _) _ _ _
  refine wpAny_pure ⟨Code.quiet_builtin _ (by decide +kernel), codeAny_builtin F.entry_type_call ?_⟩
  rw [Around.under_plain (weight_type_call_type "set" [.ref l] []) rfl]
  repeat (any_goals (first | assumption | wp_step))
  refine codeAny_mono (code_set_led1 (.ref l) (E := E) (Q₁ := fun x t => x = .ref s.heap.objs.size ∧ t = { s with heap := s.heap.push (set0 w) }) ⟨rfl, rfl⟩) fun r t hr => ?_
  match r, hr with
  | .error e, hr => exact hr
  | .ok .next, hr => exact hr.elim
  | .ok .brk, hr => exact hr.elim
  | .ok .cont, hr => exact hr.elim
  | .ok (.ret x), hr =>
    obtain ⟨rfl, rfl⟩ := hr
    have at0 : (s.heap.push (set0 w)).get? s.heap.objs.size = some (set0 w) := Heap.get?_push_size _ rfl
    have ty0 : Shared.TypeIs { s with heap := s.heap.push (set0 w) } (.ref s.heap.objs.size) "set" := ⟨_, at0, rfl⟩
    have n1 := F.called_set.init.lookup
    have n2 := F.called_set.init.bind (.ref s.heap.objs.size)
    repeat (any_goals (first | assumption | wp_step))
    refine codeAny_mono (codeAny_call_builtin (R := wants (fun r t => r = .none ∧ ∃ h' tk c, t = { s with heap := h', toks := tk } ∧ SetR w h' s.heap.objs.size (fun j => decide (j ∈ ns)) c ∧ c ≤ ns.length ∧ ∀ b o, s.heap.get? b = some o → h'.get? b = some o) E)
      F.called_set.init.plain F.entry_set_init (check_set_init_1 ty0 ?_)) fun r2 t2 hr2 => ?_
    · obtain ⟨⟨oc, od, odt, os⟩, ho, hc, nl, hd⟩ := hl
      simp only at hc hd
      subst hc hd
      have lt : l < s.heap.objs.size := Heap.lt_size ho
      have ho1 : (s.heap.push (set0 w)).get? l = some { cls := .type "tuple", dict := od, data := .seq its nl, slots := os } := Heap.get?_push_of_some _ ho
      have isl : (s.heap.push (set0 w)).IsTuple l its := ⟨_, ho1, rfl, nl, rfl⟩
      have p1 := F.sub_tuple_set
      have p2 := F.sub_tuple_frozenset
      have p3 : (Value.type "tuple" == Value.type "dict") = false := by decide
      unfold Builtin.«set.__init__» noKeywords Builtin.Frozenset.updateFrom
      generalize hPI : pyIter = PI
      wp_walk
      subst hPI
      refine wpAny_pyIter_tuple isl (wpAny_bind (wpAny_runValue ?_))
      have size1 : (s.heap.push (set0 w)).objs.size = s.heap.objs.size + 1 := Heap.size_push ..
      have ap : l ≠ (s.heap.push (set0 w)).objs.size := by
        rw [size1]
        exact Nat.ne_of_lt (Nat.lt_succ_of_lt lt)
      have ap2 : s.heap.objs.size ∉ [(s.heap.push (set0 w)).objs.size, l] := by
        rw [size1]
        simp only [List.mem_cons, List.not_mem_nil, or_false, not_or]
        exact ⟨Nat.ne_of_lt (Nat.lt_succ_self _), Nat.ne_of_gt lt⟩
      refine set_update_ints ((Walks.tuple (by simp [hh]) _ l ap its).toS) s.heap.objs.size ap2 ns sz few (fun i v hv => ?_) (its.size - 0) 0 _ (by omega) (Nat.zero_le _) ⟨⟨_, Heap.get?_push_size _ rfl, rfl, rfl⟩, (isl.extBut (b := (s.heap.push (set0 w)).objs.size) (fun b o hb e => Heap.get?_push_of_some _ e) ap)⟩ ⟨0, Nat.le_refl 0, setR_new_at (Heap.get?_push_of_some _ at0)⟩ fun t3 c3 mv hc3 hS3 => ?_
      · have hi : i < ns.length := by
          rw [← sz]
          exact (Array.getElem?_eq_some_iff.mp hv).1
        obtain ⟨tk, e⟩ := PyProof.Rows.IntsAre.int_at ia i v (by rw [Array.getElem?_toList]; exact hv)
        refine ⟨ns[i], tk, List.getElem?_eq_getElem hi, ?_⟩
        rw [e, List.getD_eq_getElem?_getD, List.getElem?_eq_getElem hi] <;> rfl
      · obtain ⟨h3, g3, d3, tk3, os3⟩ := t3
        obtain rfl : g3 = s.gens := mv.gens
        obtain rfl : d3 = s.drawn := mv.drawn
        obtain rfl : os3 = s.os := mv.os
        show wpAny _ _ _ _ _ _
        refine wpAny_pure ?_
        show wpAny _ _ (ret Value.none) _ _ _
        refine wpAny_pure ⟨rfl, h3, tk3, c3, rfl, hS3, by omega, fun b o e => ?_⟩
        have bl : b < s.heap.objs.size := Heap.lt_size e
        refine mv.heap b o ?_ (Heap.get?_push_of_some _ (Heap.get?_push_of_some _ e))
        rw [size1]
        simp only [List.mem_cons, List.not_mem_nil, or_false, not_or]
        exact ⟨Nat.ne_of_lt bl, Nat.ne_of_lt (Nat.lt_succ_of_lt bl)⟩
    · match r2, hr2 with
      | .error e, hr2 => exact hr2
      | .ok .next, hr2 => exact hr2.elim
      | .ok .brk, hr2 => exact hr2.elim
      | .ok .cont, hr2 => exact hr2.elim
      | .ok (.ret y), hr2 =>
        obtain ⟨rfl, h', tk, c, rfl, hS, hc, hk⟩ := hr2
        repeat (any_goals (first | assumption | wp_step))
        exact q _ _ _ hS hc hk
end
section
variable {X : Cx}
def rSetT (w : World) (K : PySem.W.Frag) : List V → Hp → VK → Prop := fun xs H Q => ∃ (l : Addr) (ns : List Int), xs = [.ref l] ∧ SqT K H l (ns.map V.int) ∧ ns.length ≤ 4000 ∧ ∀ (p : Addr) (H' : Hp), Same H H' → H p = none → SetIs w H' p ns → Q (.ref p) H'
theorem cr_setT (hc : X.calm = true) : CallR X (.type "set") (rSetT X.w X.K) := by
  intro pins s σ H xs us Q I r h
  obtain ⟨l, ns, rfl, hq, hl, q⟩ := h
  rw [Vals.ref1 r]
  obtain ⟨its, rv, pl, hz⟩ := I.tuple hq
  refine set_of_tup ns (I.ok.hd hc) pl (by simpa using ints_of rv) (by unfold scanBound; omega) fun h' tk c hR hc' hk => ?_
  have new : H s.heap.objs.size = none := I.hok.fresh (Nat.le_refl _)
  exact ⟨.ref s.heap.objs.size, _, I.laid (t' := tk) hk (Nat.le_refl _) (setO_new hR), rfl, q _ _ (same_upd new) new (SetIs.of hR upd_same fun k => decide_eq_true_iff)⟩
end
end Su
/-! ### SJ: tuples, however made, behind one another -/
namespace Su
open PySem PySem.Spec PyProof.Rows L2
section
variable {X : Cx}
def rCat2 : R2 := fun x y H Q => ∃ a b xs ys, x = .ref a ∧ y = .ref b ∧ T2 H a xs ∧ T2 H b ys ∧ xs.length + ys.length ≤ sizeLine ∧ ∀ v H', Same H H' → T2 H' v (xs ++ ys) → Q (.ref v) H'
theorem op_cat2 : OpR X (binaryOp .Add) rCat2 := by
  intro pins s σ H x y v u Q I rx ry h
  obtain ⟨a, b, xs, ys, rfl, rfl, ha, hb, hz, q⟩ := h
  cases rx
  cases ry
  obtain ⟨its, r1, p1, _⟩ := I.tuple (ha.sq (K := X.K))
  obtain ⟨its2, r2, p2, _⟩ := I.tuple (hb.sq (K := X.K))
  by_cases hx : xs = []
  · subst hx
    cases r1
    exact cat_tup0 p1 p2 ⟨.ref b, H, I, rfl, q b H (Same.refl H) hb⟩
  · refine HT.cat_tup p1 p2 (fun z => hx (r1.nil_iff.mp z)) (fun z => ⟨.ref a, H, I, rfl, q a H (Same.refl H) ?_⟩) (fun z => ?_) (by rw [← r1.length, ← r2.length]; exact hz)
    · rw [r2.nil_iff.mp z, List.append_nil]
      exact ha
    · exact newF I (r1.append r2) (by rw [List.length_append]; exact hz) (fun v H' s' _ h => q v H' s' (.inl h)) s.toks
end
end Su
/-! ### PM: terms of programs -/
namespace Su
open PySem PySem.Spec PyProof.Rows L2
inductive Tm where
  | ask (rs : List Int)
  | rest
  | thn (ts : List Tm)
  | frk (ts : List Tm)
  | rnd (least : Int) (most : Option Int) (t : Tm)
  | call (nm : Str)
def mostV : Option Int → V
  | none => .non
  | some k => .int k
mutual
inductive TmAt (H : Hp) : V → Tm → Prop
  | ask {a b : Addr} {rs : List Int} (e : PTup H a [.str "ask", .ref b]) (r : PTup H b (rs.map V.int)) : TmAt H (.ref a) (.ask rs)
  | rest {a : Addr} (e : PTup H a [.str "rest"]) : TmAt H (.ref a) .rest
  | thn {a b : Addr} {vs : List V} {ts : List Tm} (e : PTup H a [.str "then", .ref b]) (r : PTup H b vs) (t : TmL H vs ts) : TmAt H (.ref a) (.thn ts)
  | frk {a b : Addr} {vs : List V} {ts : List Tm} (e : PTup H a [.str "fork", .ref b]) (r : PTup H b vs) (t : TmL H vs ts) : TmAt H (.ref a) (.frk ts)
  | rnd {a : Addr} {v : V} {l : Int} {m : Option Int} {t : Tm} (e : PTup H a [.str "round", .int l, mostV m, v]) (r : TmAt H v t) : TmAt H (.ref a) (.rnd l m t)
  | call {a : Addr} {nm : Str} (e : PTup H a [.str "call", .str nm]) : TmAt H (.ref a) (.call nm)
inductive TmL (H : Hp) : List V → List Tm → Prop
  | nil : TmL H [] []
  | cons {v : V} {vs : List V} {t : Tm} {ts : List Tm} (h : TmAt H v t) (r : TmL H vs ts) : TmL H (v :: vs) (t :: ts)
end
/-- tuples are kept -/
def KT (H H' : Hp) : Prop := ∀ a vs, PTup H a vs → PTup H' a vs
theorem KT.same {H H' : Hp} (s : Same H H') : KT H H' := fun _ _ h => h.same s
theorem KT.of {p : Addr} {H H' : Hp} (k : Kept p H H') (hp : PoolAt H p) : KT H H' := fun _ _ h => h.kept k hp
theorem KT.trans {H H1 H2 : Hp} (a : KT H H1) (b : KT H1 H2) : KT H H2 := fun x vs h => b x vs (a x vs h)
mutual
theorem TmAt.keep {H H' : Hp} (k : KT H H') : ∀ {v : V} {t : Tm}, TmAt H v t → TmAt H' v t
  | _, _, .ask e r => .ask (k _ _ e) (k _ _ r)
  | _, _, .rest e => .rest (k _ _ e)
  | _, _, .thn e r t => .thn (k _ _ e) (k _ _ r) (TmL.keep k t)
  | _, _, .frk e r t => .frk (k _ _ e) (k _ _ r) (TmL.keep k t)
  | _, _, .rnd e r => .rnd (k _ _ e) (TmAt.keep k r)
  | _, _, .call e => .call (k _ _ e)
theorem TmL.keep {H H' : Hp} (k : KT H H') : ∀ {vs : List V} {ts : List Tm}, TmL H vs ts → TmL H' vs ts
  | _, _, .nil => .nil
  | _, _, .cons h t => .cons (TmAt.keep k h) (TmL.keep k t)
end
theorem TmL.len {H : Hp} : ∀ {vs : List V} {ts : List Tm}, TmL H vs ts → vs.length = ts.length
  | _, _, .nil => rfl
  | _, _, .cons _ t => by
    rw [List.length_cons, List.length_cons, TmL.len t]
theorem TmL.get {H : Hp} : ∀ {vs : List V} {ts : List Tm}, TmL H vs ts → ∀ {i : Nat} {v : V}, vs[i]? = some v → ∃ t, ts[i]? = some t ∧ TmAt H v t
  | _, _, .nil, i, v, e => by simp at e
  | _, _, .cons h t, 0, v, e => by
    obtain rfl := (by simpa using e : _ = v)
    exact ⟨_, rfl, h⟩
  | _, _, .cons h t, i + 1, v, e => TmL.get t (i := i) (by simpa using e)
theorem TmL.app {H : Hp} : ∀ {vs ws : List V} {ts us : List Tm}, TmL H vs ts → TmL H ws us → TmL H (vs ++ ws) (ts ++ us)
  | _, _, _, _, .nil, h => h
  | _, _, _, _, .cons x t, h => .cons x (TmL.app t h)
/-- at most so deep; what holds of every call, of every ask -/
def Lv (C : Str → Prop) (R : List Int → Prop) : Nat → Tm → Prop
  | 0, _ => False
  | _ + 1, .ask rs => R rs
  | _ + 1, .rest => True
  | d + 1, .thn ts => ts.length ≤ 3 ∧ ∀ t ∈ ts, Lv C R d t
  | d + 1, .frk ts => ts.length ≤ 3 ∧ ∀ t ∈ ts, Lv C R d t
  | d + 1, .rnd l m t => (0 ≤ l ∧ l ≤ 100 ∧ ∀ k, m = some k → 0 ≤ k ∧ k ≤ 100) ∧ Lv C R d t
  | _ + 1, .call nm => C nm
theorem Lv.imp {C C' : Str → Prop} {R R' : List Int → Prop} (hc : ∀ n, C n → C' n) (hR : ∀ r, R r → R' r) : ∀ {d : Nat} {t : Tm}, Lv C R d t → Lv C' R' d t
  | 0, _, h => h.elim
  | d + 1, .ask rs, h => hR rs h
  | d + 1, .rest, _ => trivial
  | d + 1, .thn ts, h => ⟨h.1, fun t ht => Lv.imp hc hR (h.2 t ht)⟩
  | d + 1, .frk ts, h => ⟨h.1, fun t ht => Lv.imp hc hR (h.2 t ht)⟩
  | d + 1, .rnd l m t, h => ⟨h.1, Lv.imp hc hR h.2⟩
  | d + 1, .call nm, h => hc nm h
theorem Lv.up {C : Str → Prop} {R : List Int → Prop} : ∀ {d : Nat} {t : Tm}, Lv C R d t → Lv C R (d + 1) t
  | 0, _, h => h.elim
  | d + 1, .ask rs, h => h
  | d + 1, .rest, _ => trivial
  | d + 1, .thn ts, h => ⟨h.1, fun t ht => Lv.up (h.2 t ht)⟩
  | d + 1, .frk ts, h => ⟨h.1, fun t ht => Lv.up (h.2 t ht)⟩
  | d + 1, .rnd l m t, h => ⟨h.1, Lv.up h.2⟩
  | d + 1, .call nm, h => h
/-! the reach and the rooms, in numbers -/
def reachF (env : Str → Int) : Nat → Tm → Int
  | 0, _ => 0
  | _ + 1, .ask _ => 1
  | _ + 1, .rest => 1
  | d + 1, .thn ts => (ts.map (reachF env d)).sum
  | d + 1, .frk ts => (ts.map (reachF env d)).sum + 1
  | d + 1, .rnd l none t => reachF env d t * (l + 1) + 1
  | d + 1, .rnd l (some k) t => reachF env d t * k + k - l
  | _ + 1, .call nm => env nm
def roomsF : Nat → Tm → List Int
  | 0, _ => []
  | _ + 1, .ask rs => rs
  | _ + 1, .rest => []
  | d + 1, .thn ts => (ts.map (roomsF d)).flatten
  | d + 1, .frk ts => (ts.map (roomsF d)).flatten
  | d + 1, .rnd _ _ t => roomsF d t
  | _ + 1, .call _ => []
end Su
/-! ### PS: a list comprehension over a text; one sign in a text; a text times a number -/
namespace Su
open PySem PySem.Spec PyProof.Rows L2
abbrev lett : Str := "abcdefghijklmnopqrstuvwxyz"
def rSign : R2 := fun x y H Q => ∃ (c : Nat) (z : Str), x = .str ⟨#[c]⟩ ∧ y = .str z ∧ Q (.bl (decide (c ∈ z.cps.toList))) H
theorem op_sign {X : Cx} : OpR X (compareOp .In) rSign := op_in_sign
theorem lc_str {x : Str} {g : TG} {tt : TT} {te : TE} {vs : List Nat} {σ : L2.St} {H1 : Hp} {D : Addr} {Qd : Hp → Prop} (Pv : Nat → Hp → Prop) (h0 : Pv 0 (upd H1 D (.lst [])))
    (hs : ∀ i c H, x.cps[i]? = some c → Pv i H → g (.str ⟨#[c]⟩) (wipe σ vs) H fun σ2 H2 => wipe σ2 vs = wipe σ vs ∧ tt σ2 H2 fun b H3 =>
      if b = true then te σ2 H3 fun y H4 => ∃ acc, H4 D = some (.lst acc) ∧ acc.length < sizeLine ∧ Pv (i + 1) (upd H4 D (.lst (acc ++ [y]))) else Pv (i + 1) H3) (hd : ∀ H, Pv x.cps.size H → Qd H) :
    ∃ W : Nat → Nat → Hp → Prop, (∃ m, W 0 m (upd H1 D (.lst []))) ∧ ∀ i m H, W i m H →
      ((Its x).stop i H ∧ Qd H) ∨ ((Its x).go i H ∧ ∃ Nx : Hp → Prop, (∀ H', Nx H' → ∃ m', m' < m ∧ W (i + 1) m' H') ∧ ∀ y H', (Its x).yld i H y H' → g y (wipe σ vs) H' fun σ2 H2 => wipe σ2 vs = wipe σ vs ∧ tt σ2 H2 fun b H3 =>
        if b = true then te σ2 H3 fun y H4 => ∃ acc, H4 D = some (.lst acc) ∧ acc.length < sizeLine ∧ Nx (upd H4 D (.lst (acc ++ [y]))) else Nx H3) := by
  refine ⟨fun i m H => m = x.cps.size - i ∧ i ≤ x.cps.size ∧ Pv i H, ⟨x.cps.size, by simp, Nat.zero_le _, h0⟩, ?_⟩
  rintro i m H ⟨rfl, hi, p⟩
  by_cases hlt : i < x.cps.size
  · refine .inr ⟨hlt, Pv (i + 1), fun H' p' => ⟨x.cps.size - (i + 1), by omega, rfl, hlt, p'⟩, fun y H' yy => ?_⟩
    obtain ⟨e, c, ec, rfl⟩ := yy
    subst e
    exact hs i c _ ec p
  · have e : i = x.cps.size := by omega
    subst e
    exact .inl ⟨Nat.le_refl _, hd H p⟩
theorem fold_size (xs : Array Nat) : ∀ (n : Nat) (acc : Array Nat), ((List.replicate n xs).foldl (· ++ ·) acc).size = acc.size + n * xs.size
  | 0, acc => by simp
  | n + 1, acc => by
    rw [List.replicate_succ, List.foldl_cons, fold_size xs n, Array.size_append, Nat.succ_mul]
    omega
/-- a short text some times -/
def rMulS : R2 := fun x y H Q => ∃ (a : Str) (n : Nat), x = .str a ∧ y = .int (n : Int) ∧ 1 ≤ n ∧ n ≤ 1000 ∧ 1 ≤ a.length ∧ a.length ≤ 1000 ∧ Q (.str ⟨(List.replicate n a.cps).foldl (· ++ ·) #[]⟩) H
theorem op_mulS {X : Cx} : OpR X (binaryOp .Mult) rMulS := by
  intro pins s σ H x y v u Q I rx ry h
  obtain ⟨a, n, rfl, rfl, h1, h2, h3, h4, q⟩ := h
  obtain ⟨t, rfl⟩ := rx
  obtain ⟨t', rfl⟩ := ry
  refine PySem.P.mul_str ?_ ?_ ?_ ?_
  · rw [decide_eq_false (by omega), decide_eq_false (by omega)]
    rfl
  · intro _ _ z
    have z2 : (a.length : Int) * n ≤ 1000 * 1000 := by
      have : a.length * n ≤ 1000 * 1000 := Nat.mul_le_mul h4 h2
      omega
    have z3 : (1000 * 1000 : Int) ≤ 2 ^ 63 - 1 := by decide
    have z4 : (a.length : Int) ≤ (2 ^ 63 - 1) / (n : Int) := Int.le_ediv_of_mul_le (by omega) (Int.le_trans z2 z3)
    omega
  · intro _ _
    have z2 : a.length * n ≤ 1000 * 1000 := Nat.mul_le_mul h4 h2
    unfold Builtin.Str.tooLong
    rw [Int.toNat_natCast]
    have hb : sizeLine = 16777216 := rfl
    exact decide_eq_false (by omega)
  · rw [if_neg (by omega)]
    by_cases e : n = 1
    · subst e
      rw [if_pos (by simp)]
      have e2 : (⟨(List.replicate 1 a.cps).foldl (· ++ ·) #[]⟩ : Str) = a := by
        show (⟨#[] ++ a.cps⟩ : Str) = a
        rw [Array.empty_append]
      rw [e2] at q
      exact ⟨.str a, _, I, ⟨t, rfl⟩, q⟩
    · rw [if_neg (by simp; omega)]
      rw [Int.toNat_natCast]
      refine ⟨?_, .str _, _, I.tok _, ⟨_, rfl⟩, q⟩
      have z2 : n * a.length ≤ 1000 * 1000 := Nat.mul_le_mul h2 h4
      have hb : sizeLine = 16777216 := rfl
      show ((List.replicate n a.cps).foldl (· ++ ·) #[]).size ≤ sizeLine
      rw [fold_size]
      have z3 : a.length = a.cps.size := rfl
      rw [← z3, Array.size_empty]
      omega
end Su
/-! ### PR: programs that are drawn, as things -/
namespace Su
open PySem PySem.Spec PyProof.Rows L2
/-! texts that are not too long -/
mutual
def okS : G → Bool
  | .str s => decide (s.length ≤ 1000)
  | .lst l => okSs l
  | .tup l => okSs l
  | .non => true
  | .bl _ => true
  | .int _ => true
  | .dct => true
def okSs : List G → Bool
  | [] => true
  | g :: gs => okS g && okSs gs
end
theorem okSs_mem : ∀ {gs : List G} {g : G}, okSs gs = true → g ∈ gs → okS g = true
  | x :: gs, g, h, m => by
    unfold okSs at h
    rw [Bool.and_eq_true] at h
    rcases List.mem_cons.mp m with z | z
    · rw [z]
      exact h.1
    · exact okSs_mem h.2 z
theorem okSs_of : ∀ {gs : List G}, (∀ g ∈ gs, okS g = true) → okSs gs = true
  | [], _ => by unfold okSs; rfl
  | x :: gs, h => by
    unfold okSs
    rw [h x List.mem_cons_self, okSs_of fun g hg => h g (List.mem_cons_of_mem _ hg)]
    rfl
/-- a thing without dicts, that may be shown and compared -/
structure Nc (g : G) (n m : Nat) : Prop where
  fz : Fz g n m
  ok : okD g = true
  cl : (toD g).canLay0 = true
  st : okS g = true
structure NcL (gs : List G) (n m : Nat) : Prop where
  fz : FzL gs n m
  ok : okDs gs = true
  cl : PyData.canLayAll0 (toDs gs) = true
  st : okSs gs = true
theorem Nc.up {g : G} {n m n' m' : Nat} (h : Nc g n m) (a : n ≤ n') (b : m ≤ m') : Nc g n' m' := ⟨h.fz.up a b, h.ok, h.cl, h.st⟩
theorem NcL.up {g : List G} {n m n' m' : Nat} (h : NcL g n m) (a : n ≤ n') (b : m ≤ m') : NcL g n' m' := ⟨h.fz.up a b, h.ok, h.cl, h.st⟩
theorem Nc.tup {gs : List G} {n m : Nat} (t : NcL gs n m) : Nc (.tup gs) (n + 1) m := ⟨Fz.tup t.fz, by simpa only [okD] using t.ok, by simpa only [toD, PyData.canLay0] using t.cl, by simpa only [okS] using t.st⟩
theorem Nc.lst {gs : List G} {n m : Nat} (t : NcL gs n m) : Nc (.lst gs) (n + 1) m := ⟨Fz.lst t.fz, by simpa only [okD] using t.ok, by simpa only [toD, PyData.canLay0] using t.cl, by simpa only [okS] using t.st⟩
theorem NcL.nil {n : Nat} : NcL [] n 0 := ⟨FzL.nil, rfl, by simp [toDs, PyData.canLayAll0], by unfold okSs; rfl⟩
theorem NcL.cons {g : G} {gs : List G} {n m k : Nat} (h : Nc g n m) (t : NcL gs n k) : NcL (g :: gs) n (m + 1 + k) := by
  refine ⟨FzL.cons h.fz t.fz, ?_, ?_, ?_⟩
  · simp only [okDs, h.ok, t.ok, Bool.and_self]
  · simp only [toDs, PyData.canLayAll0, h.cl, t.cl, Bool.and_self]
  · simp only [okSs, h.st, t.st, Bool.and_self]
theorem NcL.all {n m : Nat} : ∀ {gs : List G}, (∀ g ∈ gs, Nc g n m) → NcL gs n ((m + 1) * gs.length)
  | [], _ => NcL.nil
  | g :: gs, h => by
    have a := NcL.cons (h g List.mem_cons_self) (NcL.all fun y hy => h y (List.mem_cons_of_mem _ hy))
    have e : m + 1 + (m + 1) * gs.length = (m + 1) * (g :: gs).length := by
      rw [List.length_cons, Nat.mul_add, Nat.mul_one, Nat.add_comm]
    rw [e] at a
    exact a
theorem Nc.int {i : Int} (h1 : -1000000 ≤ i := by decide) (h2 : i ≤ 1000000 := by decide) : Nc (.int i) 0 40 := ⟨Fz.int h1 h2, rfl, rfl, rfl⟩
theorem Nc.none : Nc .non 0 0 := ⟨Fz.none, rfl, rfl, rfl⟩
theorem Nc.bool (b : Bool) : Nc (.bl b) 0 0 := ⟨Fz.bool b, rfl, rfl, rfl⟩
theorem Nc.str {s : Str} {m : Nat} (h : s.cps.size ≤ m := by decide +kernel) (h2 : ∀ c ∈ s.cps.toList, c < 1000 := by decide +kernel) (hm : m ≤ 1000 := by decide) : Nc (.str s) 0 m := by
  refine ⟨⟨by simp [toD, PyData.showable], by simp [toD, PyData.depth], ?_, ?_⟩, rfl, ?_, ?_⟩
  · simp only [toD, PyData.leavesShort, List.all_eq_true, decide_eq_true_eq]
    intro c hc
    exact Nat.lt_of_lt_of_le (h2 c hc) (by decide)
  · simp only [toD, PyData.weight]
    exact h
  · simp only [toD, PyData.canLay0, PyData.strOk]
    rw [← Array.all_toList, List.all_eq_true]
    intro c hc
    have z := h2 c hc
    rw [decide_eq_true_eq]
    omega
  · show decide (s.cps.size ≤ 1000) = true
    rw [decide_eq_true_eq]
    omega
theorem NcL.ints : ∀ ns : List Int, (∀ k ∈ ns, -1000 ≤ k ∧ k ≤ 1000) → NcL (ns.map G.int) 0 (41 * ns.length)
  | [], _ => NcL.nil
  | n :: ns, h => by
    have h1 := h n List.mem_cons_self
    have a := NcL.cons (Nc.int (i := n) (by omega) (by omega)) (NcL.ints ns fun y hy => h y (List.mem_cons_of_mem _ hy))
    exact a.up (Nat.le_refl _) (by rw [List.length_cons]; omega)
/-- what a thing without dicts is when it's taken apart -/
structure OkT (g : G) : Prop where
  ok : okD g = true
  cl : (toD g).canLay0 = true
  dp : (toD g).depth ≤ 40
  st : okS g = true
theorem Nc.okT {g : G} {n m : Nat} (h : Nc g n m) (hn : n ≤ 40) : OkT g := ⟨h.ok, h.cl, Nat.le_trans h.fz.dp hn, h.st⟩
theorem okTs_mem {gs : List G} (h : okDs gs = true) (c : PyData.canLayAll0 (toDs gs) = true) (d : PyData.depthAll (toDs gs) ≤ 40) (s : okSs gs = true) : ∀ {x : G}, x ∈ gs → OkT x := by
  induction gs with
  | nil => exact fun hx => (List.not_mem_nil hx).elim
  | cons g gs ih =>
    intro x hx
    simp only [okDs, Bool.and_eq_true] at h
    simp only [toDs, PyData.canLayAll0, Bool.and_eq_true] at c
    simp only [toDs, PyData.depthAll] at d
    simp only [okSs, Bool.and_eq_true] at s
    rcases List.mem_cons.mp hx with z | z
    · rw [z]
      exact ⟨h.1, c.1, by omega, s.1⟩
    · exact ih h.2 c.2 (by omega) s.2 z
theorem OkT.mem {gs : List G} (h : OkT (.tup gs)) {x : G} (hx : x ∈ gs) : OkT x := by
  have ok := h.ok
  have cl := h.cl
  have dp := h.dp
  have st := h.st
  simp only [okD] at ok
  simp only [toD, PyData.canLay0] at cl
  simp only [toD, PyData.depth] at dp
  simp only [okS] at st
  exact okTs_mem ok cl (by omega) st hx
theorem OkT.shaped {g : G} (h : OkT g) : SeqAt.shaped (toD g) = true := by
  unfold SeqAt.shaped
  rw [h.cl, Bool.true_and, decide_eq_true_eq]
  exact Nat.le_trans h.dp (by decide)
/-! terms -/
theorem TmL.snoc {H : Hp} {v : V} {t : Tm} (h : TmAt H v t) : ∀ {vs : List V} {ts : List Tm}, TmL H vs ts → TmL H (vs ++ [v]) (ts ++ [t])
  | _, _, .nil => .cons h .nil
  | _, _, .cons h1 r => .cons h1 (TmL.snoc h r)
def Few (S : List Int) (r : List Int) : Prop := r.length ≤ 3 ∧ ∀ k ∈ r, k ∈ S
def PrL (H : Hp) : List V → List (Str × Tm) → Prop
  | [], [] => True
  | v :: vs, q :: qs => (∃ a u, v = .ref a ∧ PTup H a [.str q.1, u] ∧ TmAt H u q.2) ∧ PrL H vs qs
  | _, _ => False
theorem PrL.keep {H H' : Hp} (k : KT H H') : ∀ {vs : List V} {ps : List (Str × Tm)}, PrL H vs ps → PrL H' vs ps
  | [], [], _ => trivial
  | v :: vs, q :: qs, z => by
    obtain ⟨⟨a, u, e, p, t⟩, r⟩ := z
    exact ⟨⟨a, u, e, k _ _ p, t.keep k⟩, PrL.keep k r⟩
  | [], _ :: _, z => z.elim
  | _ :: _, [], z => z.elim
theorem PrL.len {H : Hp} : ∀ {vs : List V} {ps : List (Str × Tm)}, PrL H vs ps → vs.length = ps.length
  | [], [], _ => rfl
  | v :: vs, q :: qs, z => by
    rw [List.length_cons, List.length_cons, PrL.len z.2]
  | [], _ :: _, z => z.elim
  | _ :: _, [], z => z.elim
theorem PrL.get {H : Hp} : ∀ {vs : List V} {ps : List (Str × Tm)}, PrL H vs ps → ∀ {i : Nat} {v : V}, vs[i]? = some v → ∃ q a u, ps[i]? = some q ∧ v = .ref a ∧ PTup H a [.str q.1, u] ∧ TmAt H u q.2
  | [], [], _, i, v, e => by simp at e
  | v0 :: vs, q :: qs, z, 0, v, e => by
    obtain ⟨⟨a, u, e2, p, t⟩, _⟩ := z
    have e3 : v0 = v := by simpa using e
    subst e3
    exact ⟨q, a, u, rfl, e2, p, t⟩
  | v0 :: vs, q :: qs, z, i + 1, v, e => PrL.get z.2 (i := i) (by simpa using e)
  | [], _ :: _, z, _, _, _ => z.elim
  | _ :: _, [], z, _, _, _ => z.elim
theorem PrL.snoc {H : Hp} {a : Addr} {u : V} {q : Str × Tm} (p : PTup H a [.str q.1, u]) (t : TmAt H u q.2) : ∀ {vs : List V} {ps : List (Str × Tm)}, PrL H vs ps → PrL H (vs ++ [.ref a]) (ps ++ [q])
  | [], [], _ => ⟨⟨a, u, rfl, p, t⟩, trivial⟩
  | _ :: _, _ :: _, z => ⟨z.1, PrL.snoc p t z.2⟩
  | [], _ :: _, z => z.elim
  | _ :: _, [], z => z.elim
/-- a program: each name calls only names behind it -/
def PN (S : List Int) (d : Nat) : List (Str × Tm) → Prop
  | [] => True
  | (_, t) :: r => Lv (· ∈ r.map Prod.fst) (Few S) d t ∧ PN S d r
theorem PN.all {S : List Int} {d : Nat} : ∀ {ps : List (Str × Tm)}, PN S d ps → ∀ q ∈ ps, Lv (fun _ => True) (Few S) d q.2
  | (n, t) :: r, h, q, hq => by
    rcases List.mem_cons.mp hq with z | z
    · rw [z]
      exact h.1.imp (fun _ _ => trivial) (fun _ z => z)
    · exact PN.all h.2 q z
theorem PN.names {S : List Int} {d : Nat} : ∀ {ps : List (Str × Tm)}, PN S d ps → ∀ q ∈ ps, Lv (· ∈ ps.map Prod.fst) (Few S) d q.2
  | (n, t) :: r, h, q, hq => by
    rcases List.mem_cons.mp hq with z | z
    · rw [z]
      exact h.1.imp (fun x hx => List.mem_cons_of_mem _ hx) (fun _ z => z)
    · exact (PN.names h.2 q z).imp (fun x hx => List.mem_cons_of_mem _ hx) (fun _ z => z)
theorem PN.of {S : List Int} {d : Nat} : ∀ {ps : List (Str × Tm)}, (∀ k q, ps[k]? = some q → Lv (· ∈ (ps.map Prod.fst).drop (k + 1)) (Few S) d q.2) → PN S d ps
  | [], _ => trivial
  | (n, t) :: r, h => ⟨h 0 (n, t) rfl, PN.of fun k q e => h (k + 1) q e⟩
theorem cut_drop {xs : List V} {i : Nat} (h : i + 1 ≤ xs.length) : cutV xs (some ((i : Int) + 1)) none = xs.drop (i + 1) := by
  have z := cut_from xs (i + 1)
  rw [Int.natCast_add] at z
  exact z
theorem dp_strs {K : PySem.W.Frag} {H : Hp} : ∀ ns : List Str, DpAll K H (ns.map V.str) (ns.map PyData.str)
  | [] => .nil
  | n :: ns => .cons (.str n) (dp_strs ns)
theorem KT.upd {H : Hp} {L : Addr} {xs ys : List V} (e : H L = some (.lst xs)) : KT H (upd H L (.lst ys)) := by
  rintro a vs ⟨o, h, hd⟩
  refine ⟨o, ?_, hd⟩
  rw [upd_ne]
  · exact h
  · rintro rfl
    rw [e] at h
    cases h
theorem most_at {l e j : Int} (l0 : 0 ≤ l) (l1 : l < 13) (e0 : 0 ≤ e) (e1 : e < 3) (j0 : 0 ≤ j) (j1 : j < 4) : ∃ m : Option Int, atI [V.non, .int l, .int (l + 1), .int (l + e)] j = some (mostV m) ∧ ∀ k, m = some k → 0 ≤ k ∧ k ≤ 100 := by
  obtain h | h | h | h : j = 0 ∨ j = 1 ∨ j = 2 ∨ j = 3 := by omega
  · subst h
    exact ⟨none, rfl, fun k z => nomatch z⟩
  · subst h
    exact ⟨some l, rfl, fun k z => by cases z; omega⟩
  · subst h
    exact ⟨some (l + 1), rfl, fun k z => by cases z; omega⟩
  · subst h
    exact ⟨some (l + e), rfl, fun k z => by cases z; omega⟩
theorem few_at {j : Int} (j0 : 0 ≤ j) (j1 : j < 4) : ∃ m : Int, atI [V.int 1, .int 1, .int 2, .int 3] j = some (.int m) ∧ 0 ≤ m ∧ m ≤ 3 := by
  obtain h | h | h | h : j = 0 ∨ j = 1 ∨ j = 2 ∨ j = 3 := by omega
  · subst h
    exact ⟨1, rfl, by decide, by decide⟩
  · subst h
    exact ⟨1, rfl, by decide, by decide⟩
  · subst h
    exact ⟨2, rfl, by decide, by decide⟩
  · subst h
    exact ⟨3, rfl, by decide, by decide⟩
/-! terms as things -/
def mostT : Option Int → G
  | none => .non
  | some k => .int k
mutual
def gT : Tm → G
  | .ask rs => .tup [.str "ask", .tup (rs.map G.int)]
  | .rest => .tup [.str "rest"]
  | .thn ts => .tup [.str "then", .tup (gTs ts)]
  | .frk ts => .tup [.str "fork", .tup (gTs ts)]
  | .rnd l m t => .tup [.str "round", .int l, mostT m, gT t]
  | .call n => .tup [.str "call", .str n]
def gTs : List Tm → List G
  | [] => []
  | t :: ts => gT t :: gTs ts
end
theorem most_tg {p : Addr} {H : Hp} : ∀ m : Option Int, Tg p H (mostV m) (mostT m)
  | none => .non
  | some k => .int k
mutual
theorem TmAt.tg {p : Addr} {H : Hp} : ∀ {v : V} {t : Tm}, TmAt H v t → Tg p H v (gT t)
  | _, _, .ask e r => .tup (.inl e) (.cons (.str _) (.cons (.tup (.inl r) (TgL.ints _)) .nil))
  | _, _, .rest e => .tup (.inl e) (.cons (.str _) .nil)
  | _, _, .thn e r t => .tup (.inl e) (.cons (.str _) (.cons (.tup (.inl r) (TmL.tg t)) .nil))
  | _, _, .frk e r t => .tup (.inl e) (.cons (.str _) (.cons (.tup (.inl r) (TmL.tg t)) .nil))
  | _, _, .rnd e r => .tup (.inl e) (.cons (.str _) (.cons (.int _) (.cons (most_tg _) (.cons (TmAt.tg r) .nil))))
  | _, _, .call e => .tup (.inl e) (.cons (.str _) (.cons (.str _) .nil))
theorem TmL.tg {p : Addr} {H : Hp} : ∀ {vs : List V} {ts : List Tm}, TmL H vs ts → TgL p H vs (gTs ts)
  | _, _, .nil => .nil
  | _, _, .cons h r => .cons (TmAt.tg h) (TmL.tg r)
end
theorem gTs_map : ∀ ts : List Tm, gTs ts = ts.map gT
  | [] => rfl
  | t :: ts => by
    show gT t :: gTs ts = gT t :: ts.map gT
    rw [gTs_map ts]
def wdT : Nat → Nat
  | 0 => 0
  | d + 1 => 130 + 3 * wdT d
theorem tm_nc {C : Str → Prop} {S : List Int} (hC : ∀ n, C n → n.cps.size ≤ 6 ∧ ∀ c ∈ n.cps.toList, c < 1000) (hS : ∀ k ∈ S, 0 ≤ k ∧ k < 100) : ∀ (d : Nat) (t : Tm), Lv C (Few S) d t → Nc (gT t) (2 * d) (wdT d)
  | 0, _, hl => hl.elim
  | d + 1, .ask rs, hl => by
    have z := NcL.ints rs fun k hk => by
      have := hS k (hl.2 k hk)
      omega
    have h3 := hl.1
    exact (Nc.tup (NcL.cons (n := 1) ((Nc.str (s := "ask") (m := 3)).up (by decide) (Nat.le_refl _)) (NcL.cons (Nc.tup z) NcL.nil))).up (by omega) (by show _ ≤ 130 + 3 * wdT d; omega)
  | d + 1, .rest, hl => (Nc.tup (NcL.cons (n := 0) (Nc.str (s := "rest") (m := 4)) NcL.nil)).up (by omega) (by show _ ≤ 130 + 3 * wdT d; omega)
  | d + 1, .call nm, hl => by
    obtain ⟨h1, h2⟩ := hC nm hl
    exact (Nc.tup (NcL.cons (n := 0) (Nc.str (s := "call") (m := 4)) (NcL.cons (Nc.str h1 h2) NcL.nil))).up (by omega) (by show _ ≤ 130 + 3 * wdT d; omega)
  | d + 1, .rnd l m t, hl => by
    have hm : Nc (mostT m) 0 40 := by
      cases m with
      | none => exact Nc.none.up (by decide) (by decide)
      | some k =>
        have := hl.1.2.2 k rfl
        exact Nc.int (by omega) (by omega)
    have h0 := hl.1.1
    have h1 := hl.1.2.1
    have zt := tm_nc hC hS d t hl.2
    exact (Nc.tup (NcL.cons (n := 2 * d) ((Nc.str (s := "round") (m := 5)).up (Nat.zero_le _) (Nat.le_refl _)) (NcL.cons ((Nc.int (i := l) (by omega) (by omega)).up (Nat.zero_le _) (Nat.le_refl _)) (NcL.cons (hm.up (Nat.zero_le _) (Nat.le_refl _)) (NcL.cons zt NcL.nil))))).up (by omega) (by show _ ≤ 130 + 3 * wdT d; omega)
  | d + 1, .thn ts, hl => by
    have z := NcL.all (gs := gTs ts) (n := 2 * d) (m := wdT d) fun g hg => by
      rw [gTs_map] at hg
      obtain ⟨t, ht, rfl⟩ := List.mem_map.mp hg
      exact tm_nc hC hS d t (hl.2 t ht)
    rw [gTs_map, List.length_map] at z
    have h3 : (wdT d + 1) * ts.length ≤ (wdT d + 1) * 3 := Nat.mul_le_mul_left _ hl.1
    have e : gT (.thn ts) = .tup [.str "then", .tup (ts.map gT)] := by
      rw [← gTs_map]
      rfl
    rw [e]
    exact (Nc.tup (NcL.cons (n := 2 * d + 1) ((Nc.str (s := "then") (m := 4)).up (Nat.zero_le _) (Nat.le_refl _)) (NcL.cons (Nc.tup z) NcL.nil))).up (by omega) (by show _ ≤ 130 + 3 * wdT d; omega)
  | d + 1, .frk ts, hl => by
    have z := NcL.all (gs := gTs ts) (n := 2 * d) (m := wdT d) fun g hg => by
      rw [gTs_map] at hg
      obtain ⟨t, ht, rfl⟩ := List.mem_map.mp hg
      exact tm_nc hC hS d t (hl.2 t ht)
    rw [gTs_map, List.length_map] at z
    have h3 : (wdT d + 1) * ts.length ≤ (wdT d + 1) * 3 := Nat.mul_le_mul_left _ hl.1
    have e : gT (.frk ts) = .tup [.str "fork", .tup (ts.map gT)] := by
      rw [← gTs_map]
      rfl
    rw [e]
    exact (Nc.tup (NcL.cons (n := 2 * d + 1) ((Nc.str (s := "fork") (m := 4)).up (Nat.zero_le _) (Nat.le_refl _)) (NcL.cons (Nc.tup z) NcL.nil))).up (by omega) (by show _ ≤ 130 + 3 * wdT d; omega)
end Su
/-! ### TX: what is shown of data is a text of code points -/
namespace Su
open PySem PySem.Spec PyProof.Rows L2
theorem sok_app {a b : Str} (h1 : PyData.strOk a = true) (h2 : PyData.strOk b = true) : PyData.strOk (a ++ b) = true := by
  show (a.cps ++ b.cps).all _ = true
  rw [Array.all_append, Bool.and_eq_true]
  exact ⟨h1, h2⟩
theorem sok_of (s : String) : PyData.strOk (Str.ofString s) = true := by
  unfold PyData.strOk
  rw [Str.ofString_eq_toList, List.all_toArray, List.all_eq_true]
  intro c hc
  obtain ⟨d, _, rfl⟩ := List.mem_map.mp hc
  rw [decide_eq_true_eq]
  have := d.valid
  unfold UInt32.isValidChar Nat.isValidChar at this
  show d.val.toNat < _
  omega
theorem sok_from : ∀ (ts : List Str) (k : Nat) (acc : Str), PyData.strOk acc = true → (∀ t ∈ ts, PyData.strOk t = true) → PyData.strOk (textFrom k acc ts) = true
  | [], _, _, h, _ => h
  | t :: ts, k, acc, h, ht => sok_from ts (k + 1) _ (sok_app (sok_app h (sok_of _)) (ht t List.mem_cons_self)) fun x hx => ht x (List.mem_cons_of_mem _ hx)
theorem sok_list {ts : List Str} (h : ∀ t ∈ ts, PyData.strOk t = true) : PyData.strOk (listText ts) = true := sok_app (sok_from ts 0 _ (sok_of _) h) (sok_of _)
theorem sok_join (sep : Str) (hs : PyData.strOk sep = true) : ∀ (ts : List Str), (∀ t ∈ ts, PyData.strOk t = true) → PyData.strOk (Str.join sep ts) = true
  | [], _ => by show PyData.strOk Str.empty = true; decide +kernel
  | [x], h => h x List.mem_cons_self
  | x :: y :: r, h => sok_app (sok_app (h x List.mem_cons_self) hs) (sok_join sep hs (y :: r) fun t ht => h t (List.mem_cons_of_mem _ ht))
theorem sok_tuple {ts : List Str} (h : ∀ t ∈ ts, PyData.strOk t = true) : PyData.strOk (tupleText ts) = true := sok_app (sok_app (sok_of _) (sok_join _ (sok_of _) ts h)) (sok_of _)
mutual
/-- no text in it, no dict -/
def noStr : PyData → Bool
  | .str _ => false
  | .dict _ => false
  | .list xs => noStrs xs
  | .tuple xs => noStrs xs
  | _ => true
def noStrs : List PyData → Bool
  | [] => true
  | d :: ds => noStr d && noStrs ds
end
mutual
theorem sok_shown : ∀ d : PyData, noStr d = true → PyData.strOk d.shown = true
  | .none, _ => by simp only [PyData.shown]; exact sok_of _
  | .bool b, _ => by cases b <;> simp only [PyData.shown] <;> exact sok_of _
  | .int i, _ => by simp only [PyData.shown]; exact sok_of _
  | .list xs, h => by simp only [PyData.shown]; exact sok_list (sok_all xs (by simpa only [noStr] using h))
  | .tuple xs, h => by simp only [PyData.shown]; exact sok_tuple (sok_all xs (by simpa only [noStr] using h))
  | .str _, h => by simp [noStr] at h
  | .dict _, h => by simp [noStr] at h
theorem sok_all : ∀ ds : List PyData, noStrs ds = true → ∀ t ∈ PyData.shownAll ds, PyData.strOk t = true
  | [], _, t, ht => by simp [PyData.shownAll] at ht
  | d :: ds, h, t, ht => by
    simp only [noStrs, Bool.and_eq_true] at h
    simp only [PyData.shownAll, List.mem_cons] at ht
    rcases ht with rfl | ht
    · exact sok_shown d h.1
    · exact sok_all ds h.2 t ht
end
theorem noStrs_all : ∀ ds : List PyData, noStrs ds = ds.all noStr
  | [] => rfl
  | d :: ds => by simp only [noStrs, List.all_cons, noStrs_all ds]
theorem noStr_ints (ns : List Int) : noStr (.tuple (ns.map PyData.int)) = true := by
  simp only [noStr, noStrs_all, List.all_eq_true]
  intro d hd
  obtain ⟨i, _, rfl⟩ := List.mem_map.mp hd
  simp only [noStr]
theorem noStr_web (rs : List Rw) : noStr (webD rs) = true := by
  simp only [webD, noStr, noStrs_all, List.all_eq_true]
  intro d hd
  obtain ⟨r, _, rfl⟩ := List.mem_map.mp hd
  unfold rowD
  simp only [noStr, noStrs, Bool.and_true, Bool.and_eq_true]
  exact ⟨by simpa only [noStr] using noStr_ints r.1, by simpa only [noStr] using noStr_ints r.2⟩
end Su
/-! ### TX2: repr of a text, and texts joined, are texts of code points -/
namespace Su
open PySem PySem.Spec PyProof.Rows L2
theorem cp_lt (c : Char) : c.toNat < 0x110000 := by
  have := c.valid
  unfold UInt32.isValidChar Nat.isValidChar at this
  show c.val.toNat < _
  omega
theorem rc_ok {q c : Nat} (hq : q < 0x110000) (hc : c < 0x110000) : ∀ x ∈ Builtin.Str.reprChar q c, x < 0x110000 := by
  have dg : ∀ (w : Nat), ∀ x ∈ (List.replicate (w - ((Nat.toDigits 16 c).map Char.toNat).length) 48 ++ (Nat.toDigits 16 c).map Char.toNat), x < 0x110000 := by
    intro w x hx
    rcases List.mem_append.mp hx with h | h
    · rw [(List.mem_replicate.mp h).2]
      decide
    · obtain ⟨d, _, rfl⟩ := List.mem_map.mp h
      exact cp_lt d
  intro x hx
  unfold Builtin.Str.reprChar at hx
  simp only at hx
  repeat' split at hx
  all_goals first
    | (simp only [List.mem_cons, List.not_mem_nil, or_false] at hx; rcases hx with rfl | rfl <;> first | assumption | decide)
    | (simp only [List.mem_cons, List.not_mem_nil, or_false] at hx; subst hx; assumption)
    | (rcases List.mem_append.mp hx with h | h
       · simp only [List.mem_cons, List.not_mem_nil, or_false] at h
         rcases h with rfl | rfl <;> decide
       · exact dg _ x h)
theorem fold_ok {f : Nat → List Nat} (hf : ∀ c, c < 0x110000 → ∀ x ∈ f c, x < 0x110000) : ∀ (l : List Nat) (acc : Array Nat), (∀ c ∈ l, c < 0x110000) → (acc.all (· < 0x110000)) = true → ((l.foldl (fun out c => out ++ (f c).toArray) acc).all (· < 0x110000)) = true
  | [], acc, _, h => h
  | c :: l, acc, hl, h => by
    rw [List.foldl_cons]
    refine fold_ok hf l _ (fun x hx => hl x (List.mem_cons_of_mem _ hx)) ?_
    rw [Array.all_append, Bool.and_eq_true]
    refine ⟨h, ?_⟩
    rw [List.all_toArray, List.all_eq_true]
    intro x hx
    exact decide_eq_true (hf c (hl c List.mem_cons_self) x hx)
theorem sok_repr {x : Str} (h : PyData.strOk x = true) : PyData.strOk (reprText x) = true := by
  have hq : reprQuote x < 0x110000 := by
    unfold reprQuote
    split <;> decide
  have hx : ∀ c ∈ x.cps.toList, c < 0x110000 := by
    intro c hc
    have h2 : x.cps.all (· < 0x110000) = true := h
    rw [← Array.all_toList, List.all_eq_true] at h2
    exact of_decide_eq_true (h2 c hc)
  show (((x.cps.foldl (fun out c => out ++ (Builtin.Str.reprChar (reprQuote x) c).toArray) #[reprQuote x]).push (reprQuote x)).all (· < 0x110000)) = true
  rw [Array.all_push, Bool.and_eq_true, ← Array.foldl_toList]
  refine ⟨fold_ok (fun c hc => rc_ok hq hc) _ _ hx ?_, decide_eq_true hq⟩
  rw [List.all_toArray, List.all_eq_true]
  intro c hc
  rw [List.mem_singleton.mp hc]
  exact decide_eq_true hq
theorem sok_glued {sep : Str} (hs : PyData.strOk sep = true) {ts : List Str} (h : ∀ t ∈ ts, PyData.strOk t = true) : PyData.strOk (Txt.join sep ts) = true := by
  have go : ∀ (l : List Str) (acc : Array Nat), (∀ t ∈ l, PyData.strOk t = true) → acc.all (· < 0x110000) = true → (l.foldl (fun acc p => acc ++ sep.cps ++ p.cps) acc).all (· < 0x110000) = true := by
    intro l
    induction l with
    | nil => exact fun acc _ h => h
    | cons t l ih =>
      intro acc hl ha
      rw [List.foldl_cons]
      refine ih _ (fun x hx => hl x (List.mem_cons_of_mem _ hx)) ?_
      rw [Array.all_append, Array.all_append, Bool.and_eq_true, Bool.and_eq_true]
      exact ⟨⟨ha, hs⟩, hl t List.mem_cons_self⟩
  show ((ts.drop 1).foldl (fun acc p => acc ++ sep.cps ++ p.cps) (ts.headD Str.empty).cps).all (· < 0x110000) = true
  refine go _ _ (fun t ht => h t (List.mem_of_mem_drop ht)) ?_
  cases ts with
  | nil => decide +kernel
  | cons t ts => exact h t List.mem_cons_self
mutual
/-- all texts in it are of code points, no dict -/
def okStr : PyData → Bool
  | .str x => PyData.strOk x
  | .dict _ => false
  | .list xs => okStrs xs
  | .tuple xs => okStrs xs
  | _ => true
def okStrs : List PyData → Bool
  | [] => true
  | d :: ds => okStr d && okStrs ds
end
mutual
theorem sok_shownS : ∀ d : PyData, okStr d = true → PyData.strOk d.shown = true
  | .none, _ => by simp only [PyData.shown]; exact sok_of _
  | .bool b, _ => by cases b <;> simp only [PyData.shown] <;> exact sok_of _
  | .int i, _ => by simp only [PyData.shown]; exact sok_of _
  | .list xs, h => by simp only [PyData.shown]; exact sok_list (sok_allS xs (by simpa only [okStr] using h))
  | .tuple xs, h => by simp only [PyData.shown]; exact sok_tuple (sok_allS xs (by simpa only [okStr] using h))
  | .str x, h => by simp only [PyData.shown]; exact sok_repr (by simpa only [okStr] using h)
  | .dict _, h => by simp [okStr] at h
theorem sok_allS : ∀ ds : List PyData, okStrs ds = true → ∀ t ∈ PyData.shownAll ds, PyData.strOk t = true
  | [], _, t, ht => by simp [PyData.shownAll] at ht
  | d :: ds, h, t, ht => by
    simp only [okStrs, Bool.and_eq_true] at h
    simp only [PyData.shownAll, List.mem_cons] at ht
    rcases ht with rfl | ht
    · exact sok_shownS d h.1
    · exact sok_allS ds h.2 t ht
end
theorem Fine.str {x : Str} {m : Nat} (h : PyData.strOk x = true) (hl : x.length ≤ m) : Fine (.str x) 0 m := by
  refine ⟨by simp [PyData.showable], by simp [PyData.hasDict], by simp [PyData.depth], ?_, ?_, ?_⟩
  · simp only [PyData.leavesShort]
    have h2 : x.cps.all (· < 0x110000) = true := h
    rw [← Array.all_toList, List.all_eq_true] at h2
    rw [List.all_eq_true]
    intro c hc
    have := of_decide_eq_true (h2 c hc)
    exact decide_eq_true (Nat.lt_of_lt_of_le this (by decide))
  · simp only [PyData.weight]
    exact hl
  · simp only [PyData.canLay0]
    exact h
theorem eqv_ints : ∀ xs ys : List Int, PyData.eqvAll (xs.map PyData.int) (ys.map PyData.int) = decide (xs = ys)
  | [], [] => by simp [PyData.eqvAll]
  | [], y :: ys => by simp [PyData.eqvAll]
  | x :: xs, [] => by simp [PyData.eqvAll]
  | x :: xs, y :: ys => by
    rw [List.map_cons, List.map_cons, PyData.eqvAll, eqv_ints xs ys, PyData.eqv]
    by_cases e : x = y
    · subst e
      simp
    · rw [show (x == y) = false from beq_eq_false_iff_ne.mpr e, Bool.false_and]
      exact (decide_eq_false fun z => e (List.cons.inj z).1).symm
end Su
/-! ### XF: an exception that is caught, seen from the begin of its suite on -/
namespace Su
open PySem PySem.Spec PyProof.Rows L2
def wIn (K : PySem.W.Frag) (c : Value) (i : Nat) (ts : Addr → List (Addr × Obj) → TS) (Wo : WX) (D : Ends) : WX := fun cls d σ H =>
  ∃ b, PySem.W.exmOne K cls c = some b ∧
    (b = true → ∀ a pn, H a = none → ts a pn { nx := fun σ' H' => D.nx (σ'.set i none) H', rt := D.rt, bk := fun σ' H' => D.bk (σ'.set i none) H', ct := fun σ' H' => D.ct (σ'.set i none) H' } (σ.set i (some (.ref a))) (upd H a (exK a cls d))) ∧
    (b = false → Wo cls d σ H)
def tTryIn (K : PySem.W.Frag) (c : Value) (i : Nat) (ts : Addr → List (Addr × Obj) → TS) (Wo : WX) (tb : WX → TS) : TS := fun D σ H => tb (wIn K c i ts Wo D) D σ H
section
variable {X : Cx} {x n : Str} {c : Value} {i : Nat} {body suite : List Stmt} {b0 : Stmt} {np pos pos' : Pos} {tb : WX → TS} {ts : Addr → List (Addr × Obj) → TS} {Wo : WX}
/-- try: .. except x as n: suite, the exception tracked in the suite -/
theorem ps_try_in (hex : X.ex = []) (hs : X.stack = X.env :: X.outer) (hf : X.env.frame = some X.env.locals) (hN : X.N.Nodup) (hi : X.N[i]? = some n) (hln : X.env.kindOf n = some .local) (hc : Names X x c) (tk : Takes X Wo)
    (hb : ∀ (W : WX) (pn : List (Addr × Obj)) (xe : Value → Shared → Prop), Takes (X.tr pn xe) W → PassesOwn (model X.prog X.w) X.A X.env xe → PSs (X.tr pn xe) body (tb W))
    (hsu : ∀ (a : Addr) (pn : List (Addr × Obj)), PSs (X.suite a pn) (b0 :: suite) (ts a pn)) :
    PS X (.Try body [.ExceptHandler (some (.Name x np)) (some n) (b0 :: suite) pos'] [] [] pos) (tTryIn X.K c i ts Wo tb) := by
  refine ⟨fun pins s σ H D I h => ?_⟩
  have ok := I.ok
  have frm : X.A.frames = some (X.env :: X.outer) := by
    rw [ok.frames, hs]
  refine wpAny_Try_except ?_
  refine wpAny_mono ((hb (wIn X.K c i ts Wo D) (X.pn ++ pins) (fun u t => wpAny (model X.prog X.w) X.A (noteFrame u X.env) (fun _ t2 => wpAny (model X.prog X.w) X.A (setFlight u none) (fun _ t3 =>
    wpAny (model X.prog X.w) X.A (handleBy u X.env [.ExceptHandler (some (.Name x np)) (some n) (b0 :: suite) pos']) (SP X pins D) X.xe t3) X.xe t2) X.xe t) (fun u t xx => ?_) PassesOwn.looking).run [] s σ H D (I.toTry _) h) (fun fl t hsp => ?_) (fun _ _ z => z)
  · obtain ⟨a, B, sI, pins2, τ, G, cls, d, rfl, Jt, nb, up, sky, na, os, ag, b, hb1, hyes, hno⟩ := xx
    have J : Inv X pins τ G sI := Jt.ofTry ok
    have sky2 : Sky B (X.env :: X.outer) a (Zc cls d) X.env.locals t.heap := by
      rw [← hs]
      exact sky
    show wpAny (model X.prog X.w) X.A (noteFrame (.ref a) X.env) _ _ _
    refine Sky.land Zc.steady frm hf sky2 fun g3 fl3 up3 => ?_
    have J3 : Inv X pins τ G { t with heap := g3 } := J.landed nb fl3.1 (up.trans up3) os ag
    obtain ⟨oe3, vs3, at3, zc3, dt3⟩ := fl3.there
    have nofr : a ∉ frs (X.env :: X.outer) := by
      intro hm
      obtain ⟨_, o', e', hnf⟩ := fl3.2.2.1.mem hm
      rw [at3] at e'
      cases e'
      exact hnf _ dt3
    have nL : a ≠ X.env.locals := fun z => nofr (List.mem_filterMap.mpr ⟨X.env, List.mem_cons_self, by rw [hf, z]⟩)
    have nF : a ∉ X.fs := by
      intro hm
      obtain ⟨e, he, q⟩ := List.mem_filterMap.mp hm
      exact nofr (List.mem_filterMap.mpr ⟨e, List.mem_cons_of_mem _ he, q⟩)
    -- it wasn't there ahead
    have gone : sI.heap.get? a = none := by
      cases z : sI.heap.get? a with
      | none => rfl
      | some o =>
        have y := nb a o z (by rw [hs]; exact nofr)
        rw [fl3.2.1] at y
        cases y
    have gone0 : X.s_0.heap.get? a = none := by
      cases z : X.s_0.heap.get? a with
      | none => rfl
      | some o =>
        obtain ⟨o', y⟩ := J.base.there a o z (by rw [hex]; simp)
        rw [gone] at y
        cases y
    have noc : ∀ y k, X.env.cells.lookup y = some k → k ≠ a := by
      rintro y k e rfl
      obtain ⟨v, o, e1, _⟩ := J.cell y k e
      rw [gone] at e1
      cases e1
    have nop : ∀ q ∈ X.pn ++ pins, q.1 ≠ a := by
      intro q hq e
      have y := (J.pin q hq).1
      rw [e, gone] at y
      cases y
    have S3 := J3.suite at3 dt3 na nL nF
    refine wpAny_handleBy_cons (codeAny_handlers_test ?_) (by intro q; cases q)
    have LT : PySem.W.Looks (model X.prog X.w) g3 (typeOf (.ref a)) cls := fun A Q E s k q => wpAny_typeOf_ref (k _ _ at3) (by rw [zc3.1]; exact q)
    have LM := PySem.W.exm_one (M := model X.prog X.w) (J3.kIn) LT hb1
    have asked : ∀ {Q : Value → Shared → Prop} {E : Value → Shared → Prop}, Q c { t with heap := g3 } → wpAny (model X.prog X.w) (X.A.mark (some (.ref a))) (eval (.Name x np) X.env) Q E { t with heap := g3 } := by
      intro Q E q
      obtain ⟨hg, hdbg, hm | ⟨hm, hv, hnn⟩⟩ := hc
      · exact ld_glob (X := X.suite a ((a, oe3) :: (X.pn ++ pins))) S3 hg hm q hdbg
      · exact ld_blt (X := X.suite a ((a, oe3) :: (X.pn ++ pins))) S3 hg hm hv q hnn hdbg
    refine asked (LM.here ?_)
    cases b with
    | true =>
      refine codeAny_handlers_suite_as (HandSPX.lands_againZ fl3 fun g4 fl4 up4 => ?_)
      have J4 : Inv X pins τ G { t with heap := g4 } := J.landed nb fl4.1 ((up.trans up3).trans up4) os ag
      obtain ⟨oe4, vs4, at4, zc4, dt4⟩ := fl4.there
      have J5 : Inv X pins τ (upd G a (exK a cls d)) { t with heap := g4 } := track J4 na gone0 nL noc nop (exK_ok at4 zc4 dt4)
      have S4 : Inv (X.suite a (X.pn ++ pins)) [] τ (upd G a (exK a cls d)) { t with heap := g4 } := ⟨J5.ok.suite _ _, J5.os, J5.bare, J5.base, J5.loc, J5.cell, J5.free, J5.freeC, fun p hp => J5.pin p (by rw [List.append_nil] at hp; exact hp), J5.hok, J5.len⟩
      refine store_ok (X := X.suite a (X.pn ++ pins)) (v := .ref a) S4 hN hi (.inl hln) rfl (fun t5 S5 => ?_) (.inr hln)
      refine wpAny_mono ((hsu a (X.pn ++ pins)).run [] t5 _ _ _ S5 (hyes rfl a _ na)) (fun fl t6 hsp => ?_) (fun _ _ z => False.elim z)
      have end_ : ∀ {σ6 : L2.St} {H6 : Hp} {Q : Shared → Prop}, Inv (X.suite a (X.pn ++ pins)) [] σ6 H6 t6 → (∀ t7, Inv X pins (σ6.set i none) H6 t7 → Q t7) →
          wpAny (model X.prog X.w) X.A (do bindName X.env n .none; unbindBehindTheSuite X.env n pos') (fun _ t7 => Q t7) X.xe t6 := fun {σ6 H6 Q} S6 hq => by
        have J6 : Inv X pins σ6 H6 t6 := ⟨ok, S6.os, S6.bare, S6.base, S6.loc, S6.cell, S6.free, S6.freeC, fun p hp => S6.pin p (List.mem_append_left _ hp), S6.hok, S6.len⟩
        exact gone_ok J6 hN hi hln hq
      cases fl with
      | next =>
        obtain ⟨σ6, H6, S6, q6⟩ := hsp
        exact end_ S6 fun t7 J7 => ⟨_, _, J7, q6⟩
      | brk =>
        obtain ⟨σ6, H6, S6, q6⟩ := hsp
        exact end_ S6 fun t7 J7 => ⟨_, _, J7, q6⟩
      | cont =>
        obtain ⟨σ6, H6, S6, q6⟩ := hsp
        exact end_ S6 fun t7 J7 => ⟨_, _, J7, q6⟩
      | ret u =>
        obtain ⟨v6, σ6, H6, S6, r6, q6⟩ := hsp
        exact end_ S6 fun t7 J7 => ⟨_, _, _, J7, r6, q6⟩
    | false =>
      show wpAny _ X.A (handleBy (.ref a) X.env []) _ _ _
      refine wpAny_handleBy_nil ?_
      obtain ⟨k1, k2, k3, oe, vs, T, oT, ts', he, hz, hd, h1, hr⟩ := id fl3
      unfold PySem.passOn
      refine wpAny_bind (wpAny_field he hd h1 ?_)
      rw [if_neg (show ¬ ((Value.ref T == Value.none) = true) from by simp)]
      have away : wpAny (model X.prog X.w) X.A (setFlight (.ref a) X.env.frame) (fun _ t4 => wpAny (model X.prog X.w) X.A (throw (.ref a) : Sem Flow) (SP X pins D) X.xe t4) X.xe { t with heap := g3 } := by
        rw [hf]
        refine HandSPX.setFlight_upZ fl3 fun g4 hh4 up4 => wpAny_throw (tk _ _ ?_)
        exact ⟨a, B, sI, pins, τ, G, cls, d, rfl, J, nb, (up.trans up3).trans up4, .inr (.inr (by rw [hs]; exact hh4)), na, os, ag, hno rfl⟩
      first
        | exact wpAny_bind (wpAny_pure (wpAny_bind away))
        | exact wpAny_bind away
  · cases fl with
    | next =>
      obtain ⟨τ, G, J, q⟩ := hsp
      exact wpAny_execs_nil ⟨τ, G, J.ofTry ok, q⟩
    | brk =>
      obtain ⟨τ, G, J, q⟩ := hsp
      exact ⟨τ, G, J.ofTry ok, q⟩
    | cont =>
      obtain ⟨τ, G, J, q⟩ := hsp
      exact ⟨τ, G, J.ofTry ok, q⟩
    | ret u =>
      obtain ⟨v, τ, G, J, r, q⟩ := hsp
      exact ⟨v, τ, G, J.ofTry ok, r, q⟩
end
section
variable {X : Cx}
/-- repr of a scalar, wherever -/
def rReprS : List V → Hp → VK → Prop := fun xs H Q => (xs = [.non] ∧ Q (.str "None") H) ∨ (∃ b : Bool, xs = [.bl b] ∧ Q (.str (if b then "True" else "False")) H) ∨ ∃ i : Int, xs = [.int i] ∧ i.natAbs.log2 < 1920 ∧ Q (.str (toString i)) H
theorem call_reprS : CallR X (.builtin "repr") rReprS := by
  intro pins s σ H xs us Q I r h
  rcases h with ⟨rfl, q⟩ | ⟨b, rfl, q⟩ | ⟨i, rfl, hz, q⟩
  · obtain ⟨u, rfl, ru⟩ := vals1 r
    cases ru
    exact PySem.P.repr_of_none ⟨.str _, H, I.tok _, ⟨_, rfl⟩, q⟩
  · obtain ⟨u, rfl, ru⟩ := vals1 r
    cases ru
    exact PySem.P.repr_of_bool ⟨.str _, H, I.tok _, ⟨_, rfl⟩, q⟩
  · obtain ⟨u, rfl, t, rfl⟩ := vals1 r
    exact PySem.P.repr_of_int hz ⟨.str _, H, I.tok _, ⟨_, rfl⟩, q⟩
end
end Su
/-! ### SK: a tuple so many times -/
namespace Su
open PySem PySem.Spec PyProof.Rows L2
section
variable {X : Cx}
def rRepA : R2 := fun x y H Q => ∃ (a : Addr) (k : Int) (xs : List V), x = .ref a ∧ y = .int k ∧ T2 H a xs ∧ xs ≠ [] ∧ 0 ≤ k ∧ k ≤ 1000 ∧ xs.length ≤ 1000 ∧ ∀ v H', Same H H' → T2 H' v (List.replicate k.toNat xs).flatten → Q (.ref v) H'
theorem op_repA : OpR X (binaryOp .Mult) rRepA := by
  intro pins s σ H x y v u Q I rx ry h
  obtain ⟨a, k, xs, rfl, rfl, ha, ne, k0, k1, hl, q⟩ := h
  by_cases h2 : 2 ≤ k
  · exact op_repT pins s σ H _ _ v u Q I rx ry ⟨a, k, xs, rfl, rfl, ha.sq, ne, h2, k1, hl, fun p np => q p _ (same_upd np) (.inr upd_same)⟩
  · refine op_mul01 pins s σ H _ _ v u Q I rx ry ⟨a, k, xs, rfl, rfl, ha, ne, by omega, fun v H' s' ht => q v H' s' ?_⟩
    have e : k = 0 ∨ k = 1 := by omega
    rcases e with rfl | rfl
    · exact ht
    · rw [show (List.replicate (1 : Int).toNat xs).flatten = xs from by simp]
      exact ht
end
end Su
/-! ### SL: a tuple so many times, its methods may be called -/
namespace Su
open PySem PySem.Spec PyProof.Rows L2
section
variable {X : Cx}
def rRepF : R2 := fun x y H Q => ∃ (a : Addr) (k : Int) (xs : List V), x = .ref a ∧ y = .int k ∧ PTup H a xs ∧ xs ≠ [] ∧ 0 ≤ k ∧ k ≤ 1000 ∧ xs.length ≤ 1000 ∧ ∀ v H', Same H H' → PTup H' v (List.replicate k.toNat xs).flatten → Q (.ref v) H'
theorem rep_flat_len {α : Type} (l : List α) : ∀ n : Nat, (List.replicate n l).flatten.length = n * l.length
  | 0 => by simp
  | n + 1 => by
    rw [List.replicate_succ, List.flatten_cons, List.length_append, rep_flat_len l n, Nat.add_mul, Nat.one_mul, Nat.add_comm]
theorem op_repF : OpR X (binaryOp .Mult) rRepF := by
  intro pins s σ H x y v u Q I rx ry h
  obtain ⟨a, k, xs, rfl, rfl, ha, ne, k0, k1, hl, q⟩ := h
  cases rx
  obtain ⟨t, rfl⟩ := ry
  obtain ⟨its, r, ⟨⟨cls, dv, data, sl⟩, ho, hc, n, hd⟩, hs⟩ := I.tuple (ha.sq (K := X.K))
  simp only at hc hd
  subst hc hd
  have le : its.length = xs.length := r.length.symm
  have pos : 0 < its.length := by
    rw [le]
    exact List.length_pos_iff.mpr ne
  have full : its.toArray.isEmpty = false := by
    cases its with
    | nil => simp at pos
    | cons _ _ => rfl
  have prod : k.toNat * xs.length ≤ 1000 * 1000 := Nat.mul_le_mul (by omega) hl
  have ty := fun (s' : Shared) => typeIs_int s' k t
  by_cases h2 : 2 ≤ k
  · have sz : its.toArray.size = its.length := List.size_toArray ..
    have small : ((its.toArray.size : Nat) : Int) * k ≤ 1000000 := by
      rw [sz, le]
      have z : ((xs.length : Nat) : Int) * k ≤ 1000 * k := Int.mul_le_mul_of_nonneg_right (by omega) k0
      omega
    have g0 : (decide (k < -(2 ^ 63)) || decide (k ≥ 2 ^ 63)) = false := by
      rw [Bool.or_eq_false_iff]
      exact ⟨decide_eq_false (by omega), decide_eq_false (by omega)⟩
    have g1 : (its.toArray.isEmpty || k == 1) = false := by
      rw [full]
      simpa using (by omega : ¬ k = 1)
    have g2 : (decide (k ≤ 0) || its.toArray.isEmpty) = false := by
      rw [full, Bool.or_false]
      exact decide_eq_false (by omega)
    have g4 : Builtin.Tuple.tupleTooMany (((its.toArray.size : Nat) : Int) * k) = false := by
      unfold Builtin.Tuple.tupleTooMany
      exact decide_eq_false (by rw [sizeLine_eq]; omega)
    have fl : (List.replicate k.toNat its).flatten.length ≤ sizeLine := by
      rw [rep_flat_len, le, sizeLine_eq]
      omega
    have M := tuple_mulW a its.toArray n dv sl k t g0 g1 g2 (by omega) g4 (by rw [size_rep, List.size_toArray]; exact fl)
    refine wpAny_binaryOp_repeat_ref (T := "tuple") (U := "int") (by decide) ⟨_, ho, rfl⟩ ty noFill_tuple_mul F.fills_int_mul F.slot_int_rmul repeat_tuple F.slot_int_index.lookup (call_meets F.slot_int_rmul (ty s) F.entry_int_rmul (F.args_int_rmul_2 _ _) (int_rmul_tuple k t a its.toArray n dv sl) ⟨ho, rfl, ⟨_, ho, rfl⟩, call_meets F.slot_tuple_mul ⟨_, ho, rfl⟩ F.entry_tuple_mul (F.args_tuple_mul_2 _ _) M ⟨ho, ?_⟩⟩)
    rw [size_rep]
    exact newF I (r.rep k.toNat) (by rw [rep_flat_len, sizeLine_eq]; omega) (fun v H' s' _ h => q v H' s' h) s.toks
  · have e : k = 0 ∨ k = 1 := by omega
    rcases e with rfl | rfl
    · refine wpAny_binaryOp_repeat_ref (T := "tuple") (U := "int") (by decide) ⟨_, ho, rfl⟩ ty noFill_tuple_mul F.fills_int_mul F.slot_int_rmul repeat_tuple F.slot_int_index.lookup (call_meets F.slot_int_rmul (ty s) F.entry_int_rmul (F.args_int_rmul_2 _ _) (int_rmul_tuple 0 t a its.toArray n dv sl) ⟨ho, rfl, ⟨_, ho, rfl⟩, call_meets F.slot_tuple_mul ⟨_, ho, rfl⟩ F.entry_tuple_mul (F.args_tuple_mul_2 _ _) (tuple_mul0 a its.toArray n dv sl t full) ⟨ho, ?_⟩⟩)
      exact newF I .nil (Nat.zero_le _) (fun v H' s' _ h => q v H' s' h) s.toks
    · refine wpAny_binaryOp_repeat_ref (T := "tuple") (U := "int") (by decide) ⟨_, ho, rfl⟩ ty noFill_tuple_mul F.fills_int_mul F.slot_int_rmul repeat_tuple F.slot_int_index.lookup (call_meets F.slot_int_rmul (ty s) F.entry_int_rmul (F.args_int_rmul_2 _ _) (int_rmul_tuple 1 t a its.toArray n dv sl) ⟨ho, rfl, ⟨_, ho, rfl⟩, call_meets F.slot_tuple_mul ⟨_, ho, rfl⟩ F.entry_tuple_mul (F.args_tuple_mul_2 _ _) (tuple_mul1 a its.toArray n dv sl t) ⟨ho, ?_⟩⟩)
      refine ⟨.ref a, H, I, rfl, q a H (Same.refl H) ?_⟩
      rw [show (List.replicate (1 : Int).toNat xs).flatten = xs from by simp]
      exact ha
end
end Su
namespace Su
open PySem PySem.Spec PyProof.Rows L2
def topS (i : Nat) : Stmt := PySem.Challenge.pw_surehand_k10_whole_terms_in_terms.main.body.getD i (.Pass ⟨0, 0, 0, 0⟩)
abbrev s_HandError : Stmt := topS 1
abbrev s_NoProgram : Stmt := topS 2
abbrev s_is_whole : Stmt := topS 5
abbrev sIsWhole : Stmt := topS 5
abbrev s_is_room : Stmt := topS 6
abbrev sIsRoom : Stmt := topS 6
abbrev s_are_rising : Stmt := topS 7
abbrev s_are_rooms : Stmt := topS 8
abbrev s_are_letters : Stmt := topS 15
abbrev s_is_name : Stmt := topS 16
abbrev s_are_times : Stmt := topS 17
abbrev s_are_terms : Stmt := topS 18
abbrev s_is_term : Stmt := topS 19
abbrev s_is_named_term : Stmt := topS 20
abbrev s_terms_within : Stmt := topS 21
abbrev s_calls_only : Stmt := topS 22
abbrev s_names_behind : Stmt := topS 23
abbrev s_look_at_program : Stmt := topS 24
abbrev s_reach_of : Stmt := topS 25
abbrev s_reaches_of : Stmt := topS 26
abbrev s_reach : Stmt := topS 27
abbrev s_asked_rooms : Stmt := topS 28
abbrev s_rooms_of : Stmt := topS 29
abbrev s_law_pool : Stmt := topS 31
abbrev sPool : Stmt := topS 31
abbrev s_law_take : Stmt := topS 32
abbrev sTake : Stmt := topS 32
abbrev s_law_picked : Stmt := topS 33
abbrev sPicked : Stmt := topS 33
abbrev s_law_names : Stmt := topS 34
abbrev s_law_term : Stmt := topS 35
abbrev s_law_program : Stmt := topS 36
abbrev s_law_called : Stmt := topS 37
abbrev s_law_opened : Stmt := topS 38
abbrev s_law_deep_by : Stmt := topS 39
abbrev s_law_deep : Stmt := topS 40
abbrev s_law_numbers : Stmt := topS 41
abbrev s_law : Stmt := topS 42
abbrev sLaw : Stmt := topS 42
end Su
namespace Su
open PySem PySem.Spec PyProof.Rows L2
theorem sc_law_take : FnScope ["_law_pool_here", "_law_many", "_law_found"] ["_law_pool_here", "_law_many"] (defScope s_law_take) := ⟨rfl, rfl, rfl, by decide +kernel, rfl, by decide +kernel, by decide +kernel⟩
theorem sc_law_pool : FnScope ["_law_script", "_law_k", "_law_cell", "_law_great", "_law_mixed"] ["_law_script", "_law_k"] (defScope s_law_pool) := ⟨rfl, rfl, rfl, by decide +kernel, rfl, by decide +kernel, by decide +kernel⟩
section
variable {P : Program} {w : World} {K : PySem.W.Frag} {mg : Str → Option Value} {base : Heap}
theorem ok_take (T : At K mg "_law_take" s_law_take ["_law_pool_here", "_law_many"]) : Cal P w K mg base 1 "_law_take" ["_law_pool_here", "_law_many"] spTake := by
  refine cal_of T sc_law_take (fun vs H Q E h => ?_) (fun f cdv A outer s H vs Q E hr h => ?_)
  · obtain ⟨p, many, rfl, _⟩ := h
    rfl
  · obtain ⟨p, many, rfl, ⟨o, hp, g, m, rfl, g0, m0, m1⟩, n1, n2, q⟩ := h
    refine ⟨_, (pss_cons (ps_if (pt_cmpR op_gt (pe_ix ix_list (pv 0) pe_int (fun _ _ => rfl)) pe_int (nomark _)) (pss_cons (ps_set (i := 2) sc_law_take.nd rfl (Or.inl rfl) (pe_op op_mod (pe_ix ix_list (pv 0) pe_int (fun _ _ => rfl)) (pv 1)))
      (pss_cons (ps_asg (pe_op op_fdiv (pe_ix ix_list (pv 0) pe_int (fun _ _ => rfl)) (pv 1)) (pg_sub (pv 0) pe_int set_list))
      (pss_one (ps_ret (pv 2))))) pss_nil)
      (pss_cons (ps_asg (pe_op op_mod (pe_op op_add (pe_op op_mul (pe_ix ix_list (pv 0) pe_int (fun _ _ => rfl)) pe_int) pe_int) pe_int) (pg_sub (pv 0) pe_int set_list))
      (pss_one (ps_ret (pe_op op_mod (pe_op op_fdiv (pe_op op_mod (pe_op op_mul (pe_ix ix_list (pv 0) pe_int (fun _ _ => rfl)) (pe_ix ix_list (pv 0) pe_int (fun _ _ => rfl))) pe_int) pe_int) (pv 1)))))), ?_⟩
    refine ⟨_, rfl, p, _, _, _, rfl, rfl, SqL.of hp, atI_nat (j := 0) rfl, _, _, rfl, rfl, _, rfl, ite2 (fun e => ?_) (fun e => ?_)⟩
    · refine ⟨_, rfl, p, _, _, _, rfl, rfl, SqL.of hp, atI_nat (j := 0) rfl, _, rfl, _, _, rfl, rfl, (by omega), ?_⟩
      refine ⟨_, rfl, p, _, _, _, rfl, rfl, SqL.of hp, atI_nat (j := 0) rfl, _, rfl, _, _, rfl, rfl, ⟨by omega, by omega⟩, ?_⟩
      refine ⟨_, rfl, p, _, _, 0, rfl, rfl, hp, rfl, ?_⟩
      refine ⟨_, rfl, q _ _ (Int.emod_nonneg _ (by omega)) (Int.emod_lt_of_pos _ (by omega)) ⟨_, _, rfl, Int.ediv_nonneg g0 (by omega), m0, m1⟩⟩
    · refine ⟨_, rfl, p, _, _, _, rfl, rfl, SqL.of hp, atI_nat (j := 1) rfl, _, _, rfl, rfl, .inl ⟨by omega, by omega⟩, _, _, rfl, rfl, _, _, rfl, rfl, (by show (0 : Int) < 2147483647; decide), ?_⟩
      refine ⟨_, rfl, p, _, _, 1, rfl, rfl, hp, rfl, ?_⟩
      have e0 : 0 ≤ (m * 48271 + 11) % 2147483647 := Int.emod_nonneg _ (by decide)
      have e1 : (m * 48271 + 11) % 2147483647 < 2147483647 := Int.emod_lt_of_pos _ (by decide)
      refine ⟨_, rfl, p, _, _, _, rfl, rfl, SqL.of upd_same, atI_nat (j := 1) rfl, _, rfl, p, _, _, _, rfl, rfl, SqL.of upd_same, atI_nat (j := 1) rfl, _, _, rfl, rfl, .inl ⟨by omega, by omega⟩, _, _, rfl, rfl, (by show (0 : Int) < 2147483629; decide), _, _, rfl, rfl, ⟨by decide, by decide⟩, _, rfl, _, _, rfl, rfl, (by omega), ?_⟩
      exact q _ _ (Int.emod_nonneg _ (by omega)) (Int.emod_lt_of_pos _ (by omega)) ⟨_, _, rfl, g0, e0, e1⟩
theorem ok_pool (T : At K mg "_law_pool" s_law_pool ["_law_script", "_law_k"]) (B : Bt mg) : Cal P w K mg base 1 "_law_pool" ["_law_script", "_law_k"] (spPool K) := by
  refine cal_of T sc_law_pool (fun vs H Q E h => ?_) (fun f cdv A outer s H vs Q E hr h => ?_)
  · obtain ⟨a, ns, k, rfl, _⟩ := h
    rfl
  · obtain ⟨a, ns, k, rfl, hS, k0, k1, q⟩ := h
    refine ⟨_, (pss_cons (ps_set (i := 2) sc_law_pool.nd rfl (Or.inl rfl) (pe_op op_add (pe_op op_mul pe_int (pe_callB (cr_sum rfl) (by rfl) B.sum (by decide +kernel) (pa_cons (pe_slice sl_list (pv 0) po_none (po_some pe_int)) pa_nil))) (pv 1)))
      (pss_cons (ps_if (pt_cmpR op_lt (pv 1) (pe_callB call_len_seq (by rfl) B.len PySem.boot_len (pa_cons (pv 0) pa_nil)) (nomark _)) (pss_one (ps_set (i := 2) sc_law_pool.nd rfl (Or.inl rfl) (pe_ix ix_list (pv 0) (pv 1) (fun _ _ => rfl)))) pss_nil)
      (pss_cons (ps_set (i := 3) sc_law_pool.nd rfl (Or.inl rfl) (pe_callB call_abs (by rfl) B.abs (by decide +kernel) (pa_cons (pv 2) pa_nil)))
      (pss_cons (ps_set (i := 4) sc_law_pool.nd rfl (Or.inl rfl) (pe_op op_mod (pe_op op_mul (pe_op op_add (pe_op op_add (pe_op op_add (pe_op op_mod (pv 3) pe_int) (pe_op op_mul (pe_op op_mul pe_int (pv 1)) (pv 1))) (pe_op op_mul pe_int (pv 1))) pe_int) pe_int) pe_int))
      (pss_one (ps_ret (pe_lst (pa_cons (pe_op op_mul (pv 3) (pe_callTy call_int1 (by rfl) B.int (by decide +kernel) (pa_cons (pe_cmpR op_ge (pv 3) (pe_op op_pow pe_int pe_int) (nomark _)) pa_nil))) (pa_cons (pe_op op_mod (pe_op op_mul (pv 4) (pv 4)) pe_int) pa_nil))))))))), ?_⟩
    obtain ⟨ms, ems⟩ := cutV_ints ns none (some 63)
    refine ⟨_, rfl, 63, rfl, a, _, rfl, hS, fun c nc => ?_⟩
    rw [ems]
    have s1 : Same H (upd H c (.lst (ms.map V.int))) := same_upd nc
    refine ⟨c, ms, rfl, SqL.of upd_same, _, _, rfl, rfl, .inl ⟨by decide, by decide⟩, _, rfl, _, _, rfl, rfl, ?_⟩
    refine ⟨_, rfl, _, rfl, a, _, rfl, .inl (s1.seq hS), _, _, rfl, rfl, _, rfl, ite2 (fun e => ?_) (fun e => ?_)⟩
    rw [decide_eq_true_eq, List.length_map] at e
    obtain ⟨z, g⟩ : ∃ z : Int, atI (ns.map V.int) k = some (V.int z) := by
      have hk : k.toNat < ns.length := by omega
      exact ⟨_, atI_int (v := V.int ns[k.toNat]) k0 (by rw [List.getElem?_map, List.getElem?_eq_getElem hk]; rfl)⟩
    refine ⟨_, rfl, _, rfl, a, _, k, .int z, rfl, rfl, s1.seq hS, g, ?_⟩
    all_goals
      refine ⟨_, rfl, _, rfl, ?_⟩
      refine ⟨_, rfl, _, _, rfl, rfl, (by show (0 : Int) < 2147483629; decide), _, rfl, _, _, rfl, rfl, .inl ⟨by decide, by decide⟩, _, rfl, _, _, rfl, rfl, .inr ⟨by omega, by omega⟩, _, _, rfl, rfl, _, rfl, _, _, rfl, rfl, .inl ⟨by decide, by decide⟩, _, _, rfl, rfl, _, _, rfl, rfl, _, _, rfl, rfl, .inr ⟨by decide, by decide⟩, _, _, rfl, rfl, (by show (0 : Int) < 2147483647; decide), ?_⟩
      refine ⟨_, rfl, _, rfl, _, _, rfl, rfl, ⟨by decide, by decide, by decide⟩, _, _, rfl, rfl, .inr ⟨_, rfl, _, _, rfl, rfl, .inr ?_, ?_⟩⟩
      · exact b01 _
      refine ⟨_, rfl, _, rfl, _, _, rfl, rfl, .inl ?_, _, _, rfl, rfl, (by show (0 : Int) < 2147483629; decide), (by show 2 ≤ sizeLine; decide), fun p np => ?_⟩
      · refine ⟨Int.lt_of_lt_of_le (by decide) (Int.emod_nonneg _ (by decide)), Int.lt_trans (Int.emod_lt_of_pos _ (by decide)) (by decide)⟩
      refine q p _ (s1.trans (same_upd np)) (s1.free np) ⟨_, upd_same, _, _, rfl, ?_, Int.emod_nonneg _ (by decide), Int.lt_trans (Int.emod_lt_of_pos _ (by decide)) (by decide)⟩
      refine Int.mul_nonneg ?_ ?_ <;> split <;> omega
end
theorem sc_law_picked : FnScope ["_law_pool_here", "_law_some", "_law_many", "_law_left", "_law_k"] ["_law_pool_here", "_law_some", "_law_many"] (defScope s_law_picked) := ⟨rfl, rfl, rfl, by decide +kernel, rfl, by decide +kernel, by decide +kernel⟩
section
variable {P : Program} {w : World} {K : PySem.W.Frag} {mg : Str → Option Value} {base : Heap}
theorem ok_picked (T : At K mg "_law_picked" s_law_picked ["_law_pool_here", "_law_some", "_law_many"]) (B : Bt mg) (c_take : Cal P w K mg base 1 "_law_take" ["_law_pool_here", "_law_many"] spTake) :
    Cal P w K mg base 2 "_law_picked" ["_law_pool_here", "_law_some", "_law_many"] (spPicked K) := by
  refine cal_of T sc_law_picked (fun vs H Q E h => ?_) (fun f cdv A outer s H vs Q E hr h => ?_)
  · obtain ⟨p, b, ns, many, rfl, _⟩ := h
    rfl
  · obtain ⟨p, b, ns, many, rfl, hp, hS, hbp, nd, hl, m0, q⟩ := h
    refine ⟨_, (pss_cons (ps_set (i := 3) sc_law_picked.nd rfl (Or.inr rfl) (pe_callTy call_list_of (by rfl) B.list (by decide +kernel) (pa_cons (pv 1) pa_nil)))
      (pss_one (ps_ret (pe_callB cr_sortedI (by rfl) B.sorted (by decide +kernel) (pa_cons (pe_lc (own := [("_law_k", 4)]) (g := (gName 4)) (tt := tYes) (te := (tBM K "list" rPopAt (tVar 3) (tCons (tCall spTake [] E0 (tCons (tVar 0) (tCons (tCB (rLenK K) (tCons (tVar 3) tNil)) tNil))) tNil))) (by rfl) sc_law_picked.nd (pi_range1 (by rfl) B.range (pa_cons (pe_callB (call_min2 rfl) (by rfl) B.min (by decide +kernel) (pa_cons (pv 2) (pa_cons (pe_callB call_len_seq (by rfl) B.len PySem.boot_len (pa_cons (pv 3) pa_nil)) pa_nil))) pa_nil)) (blkOk_by (own := [("_law_k", 4)]) (N := ["_law_pool_here", "_law_some", "_law_many", "_law_left", "_law_k"]) (sc := defScope s_law_picked) (by decide +kernel)) (fun _ _ _ _ _ => (pg_name (i := 4) sc_law_picked.nd rfl (Or.inl rfl))) (fun _ _ _ _ _ => pts_nil) (fun _ _ _ _ _ => (pe_bm PySem.F.plainAttrs_list PySem.F.slot_list_pop PySem.F.type_list_pop mt_popAt (pv 3) (pa_cons (pe_own c_take hr (by decide) (by rfl) (pa_cons (pv 0) (pa_cons (pe_callB call_len_seq (by rfl) B.len PySem.boot_len (pa_cons (pv 3) pa_nil)) pa_nil))) pa_nil)))) pa_nil))))), ?_⟩
    refine ⟨_, rfl, b, _, rfl, .inl hS, fun l nl => ?_⟩
    have elp : l ≠ p := pool_ne hp nl
    have hl0 : (if ((ns.map V.int).length : Int) < many then ((ns.map V.int).length : Int) else many) = ((min many.toNat ns.length : Nat) : Int) := by
      rw [List.length_map]
      split <;> omega
    refine ⟨_, rfl, _, rfl, l, _, rfl, .inl (SqL.of upd_same), _, _, rfl, _, rfl, (by omega), (by omega), fun D nD => ?_⟩
    rw [hl0]
    refine lc_range (lo := 0) (n := min many.toNat ns.length) (fun i H2 => ∃ lf acc : List Int, H2 l = some (.lst (lf.map V.int)) ∧ H2 D = some (.lst (acc.map V.int)) ∧ acc.length = i ∧ (acc ++ lf).Perm ns ∧ PoolAt H2 p ∧ Kept p H H2) ?_ ?_ ?_
    · obtain ⟨eDl, nD0⟩ := free_upd nD
      refine ⟨ns, [], (by rw [upd_ne eDl.symm, upd_same]), upd_same, rfl, List.Perm.refl _, (hp.upd elp.symm).upd (pool_ne hp nD0).symm, ((Kept.refl p H).set nl).set nD0⟩
    · rintro i H2 hi ⟨lf, acc, h1, h2, hlen, hpm, hpo, hk⟩
      obtain ⟨eDl, nD0⟩ := free_upd nD
      have eDp : D ≠ p := pool_ne hp nD0
      have hll : acc.length + lf.length = ns.length := by
        have := hpm.length_eq
        rw [List.length_append] at this
        exact this
      refine ⟨rfl, tyes ?_⟩
      refine ⟨_, rfl, .inl ⟨rfl, _, SqL.of h1⟩, _, rfl, _, rfl, l, _, rfl, .inl (SqL.of h1), p, _, rfl, hpo, ?_, ?_, fun r o r0 r1 po => ?_⟩
      · rw [List.length_map]
        omega
      · rw [List.length_map]
        omega
      · rw [List.length_map] at r1
        have hr1 : r.toNat < lf.length := by omega
        refine ⟨l, lf.map V.int, r, r.toNat, V.int lf[r.toNat], rfl, rfl, (by rw [upd_ne elp]; exact h1), by omega, by omega, seqIx r0 (by rw [List.length_map]; exact r1), (by rw [List.getElem?_map, List.getElem?_eq_getElem hr1]; rfl), ?_⟩
        have hg : lf[r.toNat]? = some lf[r.toNat] := List.getElem?_eq_getElem hr1
        generalize lf[r.toNat] = y at *
        refine ⟨acc.map V.int, (by rw [upd_ne eDl, upd_ne eDp]; exact h2), ?_, lf.eraseIdx r.toNat, acc ++ [y], ?_, ?_, ?_, ?_, ?_, ?_⟩
        · rw [List.length_map]
          exact small1000 (by omega)
        · rw [upd_ne eDl.symm, upd_same, erase_map]
        · rw [upd_same, List.map_append]
          rfl
        · rw [List.length_append, hlen]
          rfl
        · rw [List.append_assoc]
          exact ((erase_perm lf r.toNat y hg).append_left acc).trans hpm
        · refine PoolAt.upd (PoolAt.upd ⟨o, upd_same, po⟩ elp.symm) eDp.symm
        · exact (((hk.trans (Kept.upd p H2 o)).set nl).set nD0)
    · rintro H2 ⟨lf, acc, h1, h2, hlen, hpm, hpo, hk⟩
      obtain ⟨eDl, nD0⟩ := free_upd nD
      refine ⟨D, acc, rfl, SqL.of h2, fun ms c pm so nc => ?_⟩
      have ecp : c ≠ p := pool_ne hpo nc
      have hsub : ∀ x ∈ ms, x ∈ ns := fun x hx => hpm.subset (List.mem_append_left _ (pm.subset hx))
      have hnd : (acc ++ lf).Nodup := hpm.nodup_iff.mpr nd
      exact q c _ ms (hk.free ecp nc) (hk.trans (Kept.same (same_upd nc))) (hpo.upd ecp.symm) upd_same (pm.nodup_iff.mpr (List.nodup_append.mp hnd).1) hsub (by rw [pm.length_eq, hlen]) so
end
end Su
/-! ### PN: names, terms and programs that a law draws -/
namespace Su
open PySem PySem.Spec PyProof.Rows L2
def NameOk (s : Str) : Prop := s.cps.size ≤ 6 ∧ 1 ≤ s.cps.size ∧ ∀ c ∈ s.cps.toList, c ∈ lett.cps.toList
def NamesOk (ns : List Str) : Prop := ∀ n ∈ ns, NameOk n
def spNames : Sp := fun vs H Q _ => ∃ (p : Addr) (many : Int), vs = [.ref p, .int many] ∧ PoolAt H p ∧ 0 ≤ many ∧ many ≤ 26 ∧
  ∀ (u : Addr) (H' : Hp) (ns : List Str) (l : Nat), H u = none → Kept p H H' → PoolAt H' p → H' u = some (.lst (ns.map V.str)) → NamesOk ns → ns.length = many.toNat → ns.Nodup → (∀ n ∈ ns, n.cps.size = l) → Q (.ref u) H'
def letAt (j : Nat) : Nat := lett.cps.toList.getD j 0
theorem lett_at {r : Int} (h0 : 0 ≤ r) (h1 : r < 26) : atI lett.cps.toList r = some (letAt r.toNat) ∧ letAt r.toNat ∈ lett.cps.toList := by
  have hl : lett.cps.toList.length = 26 := by decide +kernel
  have hr : r.toNat < lett.cps.toList.length := by omega
  have e : lett.cps.toList[r.toNat]? = some (letAt r.toNat) := by
    unfold letAt
    rw [List.getD_eq_getElem?_getD, List.getElem?_eq_getElem hr]
    rfl
  exact ⟨atI_int h0 e, List.mem_of_getElem? e⟩
theorem letAt_inj : ∀ i < 26, ∀ j < 26, letAt i = letAt j → i = j := by decide +kernel
theorem lett_small : ∀ c ∈ lett.cps.toList, c < 1000 := by decide +kernel
def one1 (c : Nat) : Str := ⟨#[c]⟩
theorem join_ones : ∀ cs : List Nat, TL.joinL [] (cs.map fun c => [c]) = cs
  | [] => rfl
  | [c] => rfl
  | c :: d :: r => by
    show c :: TL.joinL [] ((d :: r).map fun c => [c]) = c :: d :: r
    rw [join_ones (d :: r)]
theorem joinOnes (cs : List Nat) : Txt.join (Str.ofString "") (cs.map one1) = ⟨cs.toArray⟩ := by
  have z := SX.join_S [] (cs.map fun c => [c])
  rw [join_ones, List.map_map] at z
  exact z
theorem name_cat {s : Str} {c : Nat} (h : s.cps.size ≤ 5) (hs : ∀ c ∈ s.cps.toList, c ∈ lett.cps.toList) (hc : c ∈ lett.cps.toList) : NameOk (s ++ one1 c) := by
  have e : (s ++ one1 c).cps = s.cps ++ #[c] := rfl
  refine ⟨?_, ?_, ?_⟩
  · rw [e, Array.size_append]
    show s.cps.size + 1 ≤ 6
    omega
  · rw [e, Array.size_append]
    show 1 ≤ s.cps.size + 1
    omega
  · rw [e, Array.toList_append]
    intro x hx
    rcases List.mem_append.mp hx with z | z
    · exact hs x z
    · rw [List.mem_singleton.mp z]
      exact hc
/-- the name that a stem and a number make -/
def nmAt (cs : List Nat) (r : Int) (k : Nat) : Str := ⟨cs.toArray⟩ ++ one1 (letAt ((r + (0 + (k : Int))) % 26).toNat)
theorem nmAt_inj {cs : List Nat} {r : Int} {i j : Nat} (hi : i < 26) (hj : j < 26) (h : nmAt cs r i = nmAt cs r j) : i = j := by
  have e : (nmAt cs r i).cps.toList = (nmAt cs r j).cps.toList := by rw [h]
  have e1 : ∀ k, (nmAt cs r k).cps.toList = cs ++ [letAt ((r + (0 + (k : Int))) % 26).toNat] := fun k => by
    show ((cs.toArray ++ #[_]).toList) = _
    rw [Array.toList_append]
  rw [e1, e1] at e
  have e2 := List.append_cancel_left e
  have e3 : letAt ((r + (0 + (i : Int))) % 26).toNat = letAt ((r + (0 + (j : Int))) % 26).toNat := by simpa using e2
  have e4 := letAt_inj _ (by omega) _ (by omega) e3
  omega
theorem sc_law_names : FnScope ["_law_pool_here", "_law_many", "_law_letters", "_law_stem", "_law_first", "_law_k"] ["_law_pool_here", "_law_many"] (defScope s_law_names) := ⟨rfl, rfl, rfl, by decide +kernel, rfl, by decide +kernel, by decide +kernel⟩
section
variable {P : Program} {w : World} {K : PySem.W.Frag} {mg : Str → Option Value} {base : Heap}
theorem ok_names (T : At K mg "_law_names" s_law_names ["_law_pool_here", "_law_many"]) (B : Bt mg) (c_take : Cal P w K mg base 1 "_law_take" ["_law_pool_here", "_law_many"] spTake) :
    Cal P w K mg base 2 "_law_names" ["_law_pool_here", "_law_many"] spNames := by
  refine cal_of T sc_law_names (fun vs H Q E h => ?_) (fun f cdv A outer s H vs Q E hr h => ?_)
  · obtain ⟨p, many, rfl, _⟩ := h
    rfl
  · obtain ⟨p, many, rfl, hp, m0, m1, q⟩ := h
    refine ⟨_, (pss_cons (ps_set (i := 2) sc_law_names.nd rfl (Or.inr rfl) pe_str)
      (pss_cons (ps_set (i := 3) sc_law_names.nd rfl (Or.inr rfl) (pe_join pe_str (pe_lc (own := [("_law_k", 5)]) (g := (gName 5)) (tt := tYes) (te := (tOp rIxS (tVar 2) (tCall spTake [] E0 (tCons (tVar 0) (tCons (tC (.int 26)) tNil))))) (by rfl) sc_law_names.nd (pi_range1 (by rfl) B.range (pa_cons (pe_own c_take hr (by decide) (by rfl) (pa_cons (pv 0) (pa_cons pe_int pa_nil))) pa_nil)) (blkOk_by (own := [("_law_k", 5)]) (N := ["_law_pool_here", "_law_many", "_law_letters", "_law_stem", "_law_first", "_law_k"]) (sc := defScope s_law_names) (by decide +kernel)) (fun _ _ _ _ _ => (pg_name (i := 5) sc_law_names.nd rfl (Or.inl rfl))) (fun _ _ _ _ _ => pts_nil) (fun _ _ _ _ _ => (pe_ix ix_str (pv 2) (pe_own c_take hr (by decide) (by rfl) (pa_cons (pv 0) (pa_cons pe_int pa_nil))) (fun _ _ => rfl))))))
      (pss_cons (ps_set (i := 4) sc_law_names.nd rfl (Or.inr rfl) (pe_own c_take hr (by decide) (by rfl) (pa_cons (pv 0) (pa_cons pe_int pa_nil))))
      (pss_one (ps_ret (pe_lc (own := [("_law_k", 5)]) (g := (gName 5)) (tt := tYes) (te := _) (by rfl) sc_law_names.nd (pi_range1 (by rfl) B.range (pa_cons (pv 1) pa_nil)) (blkOk_by (own := [("_law_k", 5)]) (N := ["_law_pool_here", "_law_many", "_law_letters", "_law_stem", "_law_first", "_law_k"]) (sc := defScope s_law_names) (by decide +kernel)) (fun _ _ _ _ _ => (pg_name (i := 5) sc_law_names.nd rfl (Or.inl rfl))) (fun _ _ _ _ _ => pts_nil) (fun _ _ _ _ _ => (pe_op op_add_str (pv 3) (pe_ix ix_str (pv 2) (pe_op op_mod (pe_op op_add (pv 4) (pv 5)) pe_int) (fun _ _ => rfl)))))))))), ?_⟩
    refine ⟨⟨_, rfl⟩, _, rfl, p, 6, rfl, hp, (by decide), (by decide), fun r o r0 r1 po => ?_⟩
    have hk1 : Kept p H (upd H p o) := Kept.upd p H o
    have hp1 : PoolAt (upd H p o) p := ⟨o, upd_same, po⟩
    refine ⟨r, rfl, by omega, by omega, fun D nD => ?_⟩
    obtain ⟨eDp, nD0⟩ := free_upd nD
    have hll : lett.length ≤ sizeLine := by decide +kernel
    refine lc_range (lo := 0) (n := r.toNat) (fun i H2 => ∃ cs : List Nat, cs.length = i ∧ (∀ c ∈ cs, c ∈ lett.cps.toList) ∧ H2 D = some (.lst ((cs.map one1).map V.str)) ∧ PoolAt H2 p ∧ Kept p H H2) ?_ ?_ ?_
    · exact ⟨[], rfl, fun _ hx => (List.not_mem_nil hx).elim, upd_same, hp1.upd eDp.symm, hk1.set nD0⟩
    · rintro i H2 hi ⟨cs, hcl, hcs, hD, hpo, hk⟩
      refine ⟨rfl, tyes ?_⟩
      refine ⟨_, rfl, _, rfl, p, 26, rfl, hpo, (by decide), (by decide), fun r2 o2 r20 r21 po2 => ?_⟩
      obtain ⟨ec, hc⟩ := lett_at r20 r21
      generalize letAt r2.toNat = c at ec hc
      refine ⟨lett, r2, c, rfl, rfl, hll, ec, ?_⟩
      refine ⟨_, (by rw [upd_ne eDp]; exact hD), ?_, cs ++ [c], ?_, ?_, ?_, ?_, ?_⟩
      · rw [List.length_map, List.length_map]
        exact small1000 (by omega)
      · rw [List.length_append, hcl]
        rfl
      · intro x hx
        rcases List.mem_append.mp hx with z | z
        · exact hcs x z
        · rw [List.mem_singleton.mp z]
          exact hc
      · rw [upd_same, List.map_append, List.map_append]
        rfl
      · exact PoolAt.upd ⟨o2, upd_same, po2⟩ eDp.symm
      · exact (hk.trans (Kept.upd p H2 o2)).set nD0
    · rintro H2 ⟨cs, hcl, hcs, hD, hpo, hk⟩
      have hsum : ((cs.map one1).map (·.length)).sum = cs.length := by
        clear hD hcl hcs
        induction cs with
        | nil => rfl
        | cons c cs ih =>
          rw [List.map_cons, List.map_cons, List.sum_cons, ih, List.length_cons]
          show 1 + cs.length = _
          omega
      refine ⟨_, D, cs.map one1, rfl, rfl, .inl (SqL.of hD), ?_, ?_⟩
      · rw [hsum]
        show cs.length + (cs.map one1).length * 0 ≤ 16777216
        omega
      · rw [joinOnes]
        refine ⟨_, rfl, p, 26, rfl, hpo, (by decide), (by decide), fun r2 o2 r20 r21 po2 => ?_⟩
        refine ⟨_, rfl, many, rfl, by omega, by omega, fun L nL => ?_⟩
        obtain ⟨eLp, nL2⟩ := free_upd nL
        have nL0 : H L = none := hk.free eLp nL2
        have hkk := hk.trans (Kept.upd p H2 o2)
        refine lc_range (lo := 0) (n := many.toNat) (fun i H3 => H3 L = some (.lst (((List.range i).map (nmAt cs r2)).map V.str)) ∧ PoolAt H3 p ∧ Kept p H H3) ?_ ?_ ?_
        · exact ⟨upd_same, PoolAt.upd ⟨o2, upd_same, po2⟩ eLp.symm, hkk.set nL0⟩
        · rintro i H3 hi ⟨hL, hpo3, hk3⟩
          refine ⟨rfl, tyes ?_⟩
          have h26 : (0 : Int) ≤ (r2 + (0 + (i : Int))) % 26 := by omega
          have h27 : (r2 + (0 + (i : Int))) % 26 < 26 := by omega
          obtain ⟨ec, hc⟩ := lett_at h26 h27
          refine ⟨_, rfl, _, rfl, _, rfl, _, rfl, _, _, rfl, rfl, _, _, rfl, rfl, (show (0 : Int) < 26 by decide), lett, _, _, rfl, rfl, hll, ec, ?_⟩
          refine ⟨_, _, rfl, rfl, ?_, _, hL, ?_, ?_, ?_, ?_⟩
          · show cs.length + 1 ≤ sizeLine
            have hb : sizeLine = 16777216 := rfl
            omega
          · rw [List.length_map, List.length_map, List.length_range]
            exact small1000 (by omega)
          · rw [upd_same, List.range_succ, List.map_append, List.map_append]
            rfl
          · exact hpo3.upd eLp.symm
          · exact hk3.set nL0
        · rintro H3 ⟨hL, hpo3, hk3⟩
          refine q L H3 _ (cs.length + 1) nL0 hk3 hpo3 hL ?_ ?_ ?_ ?_
          · intro n hn
            obtain ⟨k, hk, rfl⟩ := List.mem_map.mp hn
            exact name_cat (s := ⟨cs.toArray⟩) (by show cs.length ≤ 5; omega) (by rw [List.toList_toArray]; exact hcs) (lett_at (by omega) (by omega)).2
          · rw [List.length_map, List.length_range]
          · refine List.pairwise_map.mpr (List.Pairwise.imp_of_mem (R := fun a b => a < b) (fun {a b} ha hb hab e => ?_) List.pairwise_lt_range)
            have ha' := List.mem_range.mp ha
            have hb' := List.mem_range.mp hb
            have := nmAt_inj (by omega) (by omega) e
            omega
          · intro n hn
            obtain ⟨k, hk, rfl⟩ := List.mem_map.mp hn
            show (cs.toArray ++ #[_]).size = _
            rw [Array.size_append]
            rfl
end
end Su
/-! ### W1G: how a row of a web is looked at, of a thing of any kind -/
namespace Su
open PySem PySem.Spec PyProof.Rows L2
def wholeG : G → Bool
  | .int _ => true
  | _ => false
/-- a whole number from 0, below n -/
def inG (n : Int) : G → Bool
  | .int i => decide (0 ≤ i) && decide (i < n)
  | _ => false
def valI : G → Int
  | .int i => i
  | _ => 0
def ups (ns : List Int) : List Bool := (ns.zip (ns.drop 1)).map fun p => decide (p.1 < p.2)
def risG (n : Int) (gs : List G) : Bool := (gs.map (inG n)).all id && (ups (gs.map valI)).all id
def roomsG (lo hi : Int) : G → Bool
  | .tup gs => (decide (lo ≤ (gs.length : Int)) && decide ((gs.length : Int) ≤ hi)) && risG 100 gs
  | _ => false
theorem ups_get {ns : List Int} {i : Nat} {a b : Int} (e1 : ns[i]? = some a) (e2 : ns[1 + i]? = some b) : (ups ns)[i]? = some (decide (a < b)) := by
  unfold ups
  have z : (ns.zip (ns.drop 1))[i]? = some (a, b) := List.getElem?_zip_eq_some.mpr ⟨e1, by rw [List.getElem?_drop]; exact e2⟩
  rw [List.getElem?_map, z]
  rfl
theorem take_one {α : Type} {l : List α} {i : Nat} {x : α} (e : l[i]? = some x) : l.take (i + 1) = l.take i ++ [x] := by
  rw [List.take_add_one, e]
  rfl
theorem ints_of_all {p : Addr} {H : Hp} {n : Int} : ∀ {vs : List V} {gs : List G}, TgL p H vs gs → (gs.map (inG n)).all id = true → vs = (gs.map valI).map V.int
  | _, _, .nil, _ => rfl
  | _, _, .cons (d := d) h t, e => by
    rw [List.map_cons, List.all_cons, Bool.and_eq_true] at e
    rw [List.map_cons, List.map_cons, ← ints_of_all t e.2]
    cases h with
    | int i => rfl
    | _ => cases e.1
def spWhole : Sp := fun vs H Q _ => ∃ (p : Addr) (v : V) (g : G), vs = [v] ∧ Tg p H v g ∧ Q (.bl (wholeG g)) H
def spRoom : Sp := fun vs H Q _ => ∃ (p : Addr) (v : V) (g : G), vs = [v] ∧ Tg p H v g ∧ Q (.bl (inG 100 g)) H
def spRising : Sp := fun vs H Q _ => ∃ (a : Addr) (ns : List Int), vs = [.ref a] ∧ T2 H a (ns.map V.int) ∧ ns.length ≤ 1000 ∧ ∀ H', Same H H' → Q (.bl ((ups ns).all id)) H'
def spRooms : Sp := fun vs H Q _ => ∃ (p : Addr) (v : V) (g : G) (lo hi : Int), vs = [v, .int lo, .int hi] ∧ Tg p H v g ∧ hi ≤ 1000 ∧ ∀ H', Same H H' → Q (.bl (roomsG lo hi g)) H'
theorem sc_is_whole : FnScope ["thing"] ["thing"] (defScope s_is_whole) := ⟨rfl, rfl, rfl, by decide +kernel, rfl, by decide +kernel, by decide +kernel⟩
theorem sc_is_room : FnScope ["thing"] ["thing"] (defScope s_is_room) := ⟨rfl, rfl, rfl, by decide +kernel, rfl, by decide +kernel, by decide +kernel⟩
theorem sc_are_rising : FnScope ["numbers", "one", "other"] ["numbers"] (defScope s_are_rising) := ⟨rfl, rfl, rfl, by decide +kernel, rfl, by decide +kernel, by decide +kernel⟩
theorem sc_are_rooms : FnScope ["thing", "least", "most", "room"] ["thing", "least", "most"] (defScope s_are_rooms) := ⟨rfl, rfl, rfl, by decide +kernel, rfl, by decide +kernel, by decide +kernel⟩
section
variable {P : Program} {w : World} {K : PySem.W.Frag} {mg : Str → Option Value} {base : Heap}
theorem whole_int {p : Addr} {H : Hp} {v : V} {g : G} (h : Tg p H v g) (e : wholeG g = true) : ∃ i, v = .int i ∧ g = .int i := by
  cases h with
  | int i => exact ⟨i, rfl, rfl⟩
  | _ => cases e
theorem ok_whole (T : At K mg "is_whole" s_is_whole ["thing"]) (B : Bt mg) : Cal P w K mg base 1 "is_whole" ["thing"] spWhole := by
  refine cal_of T sc_is_whole (fun vs H Q E h => ?_) (fun f cdv A outer s H vs Q E hr h => ?_)
  · obtain ⟨p, v, g, rfl, _⟩ := h
    rfl
  · obtain ⟨p, v, g, rfl, hv, q⟩ := h
    refine ⟨_, (pss_one (ps_ret (pe_and (pe_callB call_isi (by rfl) B.isinstance (by decide +kernel) (pa_cons (pv 0) (pa_cons (pe_bltn (v := .ty "int") (u := .type "int") (by rfl) B.int (by decide +kernel) rfl) pa_nil))) (pe_one (pe_not (pe_callB call_isi (by rfl) B.isinstance (by decide +kernel) (pa_cons (pv 0) (pa_cons (pe_bltn (v := .ty "bool") (u := .type "bool") (by rfl) B.bool (by decide +kernel) rfl) pa_nil)))))))), ?_⟩
    refine ⟨_, rfl, v, .ty "int", _, _, _, rfl, .ty "int", hv.ty, kit_int g, _, rfl, iteB (fun e => ?_) (fun e => ?_)⟩
    · refine ⟨_, rfl, v, .ty "bool", _, _, _, rfl, .ty "bool", hv.ty, kit_bool g, _, rfl, ?_⟩
      rw [show (!isBool g) = wholeG g from by cases g <;> first | rfl | cases e]
      exact q
    · rw [show false = wholeG g from by cases g <;> first | rfl | cases e]
      exact q
theorem ok_room (T : At K mg "is_room" s_is_room ["thing"]) (D : ∃ t, mg "LAST_ROOM" = some (.int 99 t)) (c_is_whole : Cal P w K mg base 1 "is_whole" ["thing"] spWhole) : Cal P w K mg base 2 "is_room" ["thing"] spRoom := by
  obtain ⟨tl, mLast⟩ := D
  refine cal_of T sc_is_room (fun vs H Q E h => ?_) (fun f cdv A outer s H vs Q E hr h => ?_)
  · obtain ⟨p, v, g, rfl, _⟩ := h
    rfl
  · obtain ⟨p, v, g, rfl, hv, q⟩ := h
    refine ⟨_, (pss_one (ps_ret (pe_and (pe_own c_is_whole hr (by decide) (by rfl) (pa_cons (pv 0) pa_nil)) (pe_one (pe_chain op_le op_le pe_int (pv 0) (pe_glob (v := .int 99) rfl mLast ⟨_, rfl⟩)))))), ?_⟩
    refine ⟨_, rfl, p, v, g, rfl, hv, _, rfl, iteB (fun e => ?_) (fun e => ?_)⟩
    · obtain ⟨i, rfl, rfl⟩ := whole_int hv e
      refine ⟨_, rfl, _, _, rfl, rfl, _, rfl, iteB (fun e1 => ?_) (fun e1 => ?_)⟩
      · refine ⟨_, _, rfl, rfl, ?_⟩
        have z : decide (i ≤ 99) = inG 100 (.int i) := by
          show decide (i ≤ 99) = (decide (0 ≤ i) && decide (i < 100))
          rw [e1, Bool.true_and]
          exact decide_eq_decide.mpr (by omega)
        rw [← z] at q
        exact q
      · rw [show false = inG 100 (.int i) from by show false = (decide (0 ≤ i) && decide (i < 100)); rw [e1, Bool.false_and]]
        exact q
    · rw [show false = inG 100 g from by cases g <;> first | rfl | cases e]
      exact q
theorem ok_rising (T : At K mg "are_rising" s_are_rising ["numbers"]) (B : Bt mg) : Cal P w K mg base 1 "are_rising" ["numbers"] spRising := by
  refine cal_of T sc_are_rising (fun vs H Q E h => ?_) (fun f cdv A outer s H vs Q E hr h => ?_)
  · obtain ⟨a, ns, rfl, _⟩ := h
    rfl
  · obtain ⟨a, ns, rfl, ha, hl, q⟩ := h
    refine ⟨_, (pss_one (ps_ret (pe_callB (cr_all rfl) (by rfl) B.all (by decide +kernel) (pa_cons (pe_lc (own := [("one", 1), ("other", 2)]) (g := (gTup K 2 (gCons (gName 1) (gCons (gName 2) gNil)))) (tt := tYes) (te := (tOp (rI0 fun i j => .bl (decide (i < j))) (tVar 1) (tVar 2))) (by rfl) sc_are_rising.nd (RZ.pi_zipA (by rfl) B.zip (pa_cons (pv 0) (pa_cons (pe_slice sl_tup2 (pv 0) (po_some pe_int) po_none) pa_nil))) (blkOk_by (own := [("one", 1), ("other", 2)]) (N := ["numbers", "one", "other"]) (sc := defScope s_are_rising) (by decide +kernel)) (fun _ _ _ _ _ => (pg_tup (by rfl) (pgs_cons (pg_name (i := 1) sc_are_rising.nd rfl (Or.inl rfl)) (pgs_cons (pg_name (i := 2) sc_are_rising.nd rfl (Or.inl rfl)) pgs_nil)))) (fun _ _ _ _ _ => pts_nil) (fun _ _ _ _ _ => (pe_cmpR op_lt (pv 1) (pv 2) (nomark _)))) pa_nil)))), ?_⟩
    refine ⟨_, rfl, _, rfl, 1, rfl, a, _, rfl, ha, fun b H1 s1 hb => ?_⟩
    rw [cut_tail, ← List.map_drop] at hb
    refine ⟨a, b, _, _, rfl, .inr ⟨(ha.same s1).sq, hb.sq, fun D nD => ?_⟩⟩
    refine lc_zipT (K := K) (a := a) (b := b) (xs := ns.map V.int) (ys := (ns.drop 1).map V.int) (by rw [List.length_map, List.length_map, List.length_drop]; omega) (fun i H2 => Same H H2 ∧ T2 H2 a (ns.map V.int) ∧ T2 H2 b ((ns.drop 1).map V.int) ∧ H2 D = some (.lst (((ups ns).take i).map V.bl))) ?_ ?_ ?_ ?_
    · have sD : Same H1 (upd H1 D (.lst [])) := same_upd nD
      exact ⟨s1.trans sD, (ha.same s1).same sD, hb.same sD, upd_same⟩
    · rintro i H2 _ ⟨_, h1, h2, _⟩
      exact ⟨h1.sq, h2.sq⟩
    · rintro i x y T H2 hx hy ⟨s2, h1, h2, hD⟩ nT
      have sT : Same H2 (upd H2 T (.tup [x, y])) := same_upd nT
      rw [List.getElem?_map] at hx hy
      rw [List.getElem?_drop] at hy
      obtain ⟨n1, e1, rfl⟩ := Option.map_eq_some_iff.mp hx
      obtain ⟨n2, e2, rfl⟩ := Option.map_eq_some_iff.mp hy
      have hi : i < ns.length := (List.getElem?_eq_some_iff.mp e1).1
      refine ⟨T, _, rfl, SqT.of upd_same, rfl, _, _, rfl, _, _, rfl, rfl, rfl, tyes ?_⟩
      refine ⟨_, rfl, _, rfl, _, _, rfl, rfl, ((ups ns).take i).map V.bl, sT _ _ hD, ?_, ?_⟩
      · rw [List.length_map, List.length_take]
        exact small1000 (by omega)
      · have h3 := sT _ _ hD
        have k3 := (K2.same sT).trans (K2.lst (u := .lst (((ups ns).take (i + 1)).map V.bl)) h3)
        show _ ∧ _ ∧ _ ∧ _
        rw [take_one (ups_get e1 e2), List.map_append] at k3 ⊢
        refine ⟨fun c o ec => ?_, k3 _ _ h1, k3 _ _ h2, upd_same⟩
        rw [upd_ne (ne_of_none (s1 _ _ ec) nD)]
        exact sT _ _ (s2 _ _ ec)
    · rintro H2 ⟨s2, h1, h2, hD⟩
      refine ⟨D, ups ns, rfl, ?_, ?_⟩
      · rw [List.take_of_length_le (by unfold ups; rw [List.length_map, List.length_zip, List.length_map]; omega)] at hD
        exact SqL.of hD
      · exact q H2 s2
theorem ok_rooms (T : At K mg "are_rooms" s_are_rooms ["thing", "least", "most"]) (B : Bt mg) (c_is_room : Cal P w K mg base 2 "is_room" ["thing"] spRoom) (c_are_rising : Cal P w K mg base 1 "are_rising" ["numbers"] spRising) :
    Cal P w K mg base 3 "are_rooms" ["thing", "least", "most"] spRooms := by
  refine cal_of T sc_are_rooms (fun vs H Q E h => ?_) (fun f cdv A outer s H vs Q E hr h => ?_)
  · obtain ⟨p, v, g, lo, hi, rfl, _⟩ := h
    rfl
  · obtain ⟨p, v, g, lo, hi, rfl, hv, hm, q⟩ := h
    refine ⟨_, (pss_cons (ps_if (PW.pt (pw_or (pt_not (pt_val (pe_callB call_isi (by rfl) B.isinstance (by decide +kernel) (pa_cons (pv 0) (pa_cons (pe_bltn (v := .ty "tuple") (u := .type "tuple") (by rfl) B.tuple (by decide +kernel) rfl) pa_nil))))) (pw_or1 (pt_not (pt_chain op_le op_le (pv 1) (pe_callB call_len_seq (by rfl) B.len PySem.boot_len (pa_cons (pv 0) pa_nil)) (pv 2)))))) (pss_one (ps_ret pe_bl)) pss_nil)
      (pss_one (ps_ret (pe_and (pe_callB (cr_all rfl) (by rfl) B.all (by decide +kernel) (pa_cons (pe_lc (own := [("room", 3)]) (g := (gName 3)) (tt := tYes) (te := (tCall spRoom [] E0 (tCons (tVar 3) tNil))) (by rfl) sc_are_rooms.nd (pi_tup (pv 0)) (blkOk_by (own := [("room", 3)]) (N := ["thing", "least", "most", "room"]) (sc := defScope s_are_rooms) (by decide +kernel)) (fun _ _ _ _ _ => (pg_name (i := 3) sc_are_rooms.nd rfl (Or.inl rfl))) (fun _ _ _ _ _ => pts_nil) (fun _ _ _ _ _ => (pe_own c_is_room hr (by decide) (by rfl) (pa_cons (pv 3) pa_nil)))) pa_nil)) (pe_one (pe_own c_are_rising hr (by decide) (by rfl) (pa_cons (pv 0) pa_nil))))))), ?_⟩
    refine ⟨_, rfl, v, .ty "tuple", _, _, _, rfl, .ty "tuple", hv.ty, kit_tuple g, _, rfl, iteB (fun e => ?_) (fun e => ?_)⟩
    · refine iteT ?_
      rw [show false = roomsG lo hi g from by cases g <;> first | rfl | cases e]
      exact q H (Same.refl H)
    cases hv with
    | @tup a vs gs ha t =>
      have hlen : vs.length = gs.length := t.len
      refine ⟨_, rfl, _, rfl, a, _, rfl, .inr ha.sq, _, _, rfl, rfl, _, rfl, iteB (fun e1 => ?_) (fun e1 => ?_)⟩
      · refine ⟨_, rfl, _, _, rfl, rfl, _, rfl, ?_⟩
        rw [hlen] at e1 ⊢
        refine iteB (fun e2 => ?_) (fun e2 => ?_)
        · have e3 : decide ((gs.length : Int) ≤ hi) = false := by simpa using e2
          have z : false = roomsG lo hi (.tup gs) := by
            show false = ((decide (lo ≤ (gs.length : Int)) && decide ((gs.length : Int) ≤ hi)) && risG 100 gs)
            rw [e3, Bool.and_false, Bool.false_and]
          rw [z]
          exact q H (Same.refl H)
        · have e3 : decide ((gs.length : Int) ≤ hi) = true := by simpa using e2
          have small : gs.length ≤ 1000 := by
            have := of_decide_eq_true e3
            omega
          have z : roomsG lo hi (.tup gs) = risG 100 gs := by
            show ((decide (lo ≤ (gs.length : Int)) && decide ((gs.length : Int) ≤ hi)) && risG 100 gs) = _
            rw [e1, e3, Bool.true_and, Bool.true_and]
          refine ⟨_, rfl, a, rfl, ⟨_, ha.sq⟩, fun D nD => ?_⟩
          refine lc_tup (K := K) (a := a) (xs := vs) (fun i H2 => Same H H2 ∧ T2 H2 a vs ∧ H2 D = some (.lst (((gs.map (inG 100)).take i).map V.bl))) ?_ ?_ ?_ ?_
          · have sD : Same H (upd H D (.lst [])) := same_upd nD
            exact ⟨sD, ha.same sD, upd_same⟩
          · rintro i H2 _ ⟨_, h3, _⟩
            exact h3.sq
          · rintro i x H2 hx ⟨s2, h3, hD⟩
            obtain ⟨g1, e4, tg⟩ := t.get hx
            have hi : i < gs.length := (List.getElem?_eq_some_iff.mp e4).1
            refine ⟨rfl, tyes ?_⟩
            refine ⟨_, rfl, p, x, g1, rfl, tg.keep (Keeps.same s2), ((gs.map (inG 100)).take i).map V.bl, hD, (by rw [List.length_map, List.length_take, List.length_map]; exact small1000 (by omega)), ?_⟩
            rw [take_one (x := inG 100 g1) (by rw [List.getElem?_map, e4]; rfl), List.map_append]
            refine ⟨fun c o ec => ?_, K2.lst hD _ _ h3, upd_same⟩
            rw [upd_ne (ne_of_none ec nD)]
            exact s2 _ _ ec
          · rintro H2 ⟨s2, h3, hD⟩
            rw [List.take_of_length_le (by rw [List.length_map]; omega)] at hD
            refine ⟨D, gs.map (inG 100), rfl, SqL.of hD, _, rfl, iteB (fun e5 => ?_) (fun e5 => ?_)⟩
            · rw [ints_of_all t e5] at h3
              refine ⟨_, rfl, a, _, rfl, h3, (by rw [List.length_map]; exact small), fun H3 s3 => ?_⟩
              have q3 := q H3 (s2.trans s3)
              rw [z] at q3
              unfold risG at q3
              rw [e5, Bool.true_and] at q3
              exact q3
            · have q3 := q H2 s2
              rw [z] at q3
              unfold risG at q3
              rw [e5, Bool.false_and] at q3
              exact q3
      · refine ⟨_, rfl, iteT ?_⟩
        rw [hlen] at e1
        have z : false = roomsG lo hi (.tup gs) := by
          show false = ((decide (lo ≤ (gs.length : Int)) && decide ((gs.length : Int) ≤ hi)) && risG 100 gs)
          rw [e1, Bool.false_and, Bool.false_and]
        rw [z]
        exact q H (Same.refl H)
    | _ => cases e
end
end Su
/-! ### PG: how a thing of any kind is looked at as a program -/
namespace Su
open PySem PySem.Spec PyProof.Rows L2
structure GbP (mg : Str → Option Value) : Prop where
  lett : ∃ t, mg "SMALL_LETTERS" = some (.str lett t)
  long : ∃ t, mg "LONGEST_NAME" = some (.int 6 t)
  tup : ∃ t, mg "MOST_TUPLES" = some (.int 8 t)
  deep : ∃ t, mg "DEEPEST" = some (.int 6 t)
  rnd : ∃ t, mg "MOST_ROUNDS" = some (.int 12 t)
def inLett (c : Nat) : Bool := decide (c ∈ lett.cps.toList)
def letG (most : Int) : G → Bool
  | .str s => (decide (1 ≤ (s.length : Int)) && decide ((s.length : Int) ≤ most)) && (s.cps.toList.map inLett).all id
  | _ => false
def mostG (i : Int) : G → Bool
  | .non => true
  | .int k => decide (i ≤ k) && decide (k ≤ 12)
  | _ => false
def timesG (l m : G) : Bool := inG 13 l && mostG (valI l) m
def termsG (f : G → Bool) (lo hi : Int) : G → Bool
  | .tup gs => (decide (lo ≤ (gs.length : Int)) && decide ((gs.length : Int) ≤ hi)) && (gs.map f).all id
  | _ => false
def lastG (f : G → Bool) (x : Str) (y : G) : Bool := if x = "ask" then roomsG 1 6 y else if x = "then" then termsG f 1 8 y else if x = "fork" then termsG f 2 6 y else (decide (x = "call") && letG 6 y)
def roundG (f : G → Bool) : List G → Bool
  | [l, m, t] => timesG l m && f t
  | _ => false
def oneG (f : G → Bool) (x : Str) : List G → Bool
  | [y] => lastG f x y
  | _ => false
def termG : Nat → G → Bool
  | 0, _ => false
  | d + 1, .tup (.str x :: r) => if x = "rest" then r.isEmpty else if x = "round" then roundG (termG d) r else oneG (termG d) x r
  | _ + 1, _ => false
def namedG : G → Bool
  | .tup [x, y] => letG 6 x && termG 6 y
  | _ => false
def spLetters : Sp := fun vs H Q _ => ∃ (p : Addr) (v : V) (g : G) (most : Int), vs = [v, .int most] ∧ Tg p H v g ∧ most ≤ 1000 ∧ okS g = true ∧ ∀ H', Same H H' → Q (.bl (letG most g)) H'
def spName : Sp := fun vs H Q _ => ∃ (p : Addr) (v : V) (g : G), vs = [v] ∧ Tg p H v g ∧ okS g = true ∧ ∀ H', Same H H' → Q (.bl (letG 6 g)) H'
def spTimes : Sp := fun vs H Q _ => ∃ (p : Addr) (v u : V) (g k : G), vs = [v, u] ∧ Tg p H v g ∧ Tg p H u k ∧ Q (.bl (timesG g k)) H
def spTerms (d : Nat) : Sp := fun vs H Q _ => ∃ (p : Addr) (v : V) (g : G) (lo hi : Int), vs = [v, .int lo, .int hi, .int d] ∧ Tg p H v g ∧ okS g = true ∧ hi ≤ 1000 ∧ ∀ H', Same H H' → Q (.bl (termsG (termG d) lo hi g)) H'
def spIsTerm (d : Nat) : Sp := fun vs H Q _ => ∃ (p : Addr) (v : V) (g : G), vs = [v, .int d] ∧ Tg p H v g ∧ okS g = true ∧ ∀ H', Same H H' → Q (.bl (termG d g)) H'
def spNamed : Sp := fun vs H Q _ => ∃ (p : Addr) (v : V) (g : G), vs = [v] ∧ Tg p H v g ∧ okS g = true ∧ ∀ H', Same H H' → Q (.bl (namedG g)) H'
theorem sc_are_letters : FnScope ["thing", "most", "sign"] ["thing", "most"] (defScope s_are_letters) := ⟨rfl, rfl, rfl, by decide +kernel, rfl, by decide +kernel, by decide +kernel⟩
theorem sc_is_name : FnScope ["thing"] ["thing"] (defScope s_is_name) := ⟨rfl, rfl, rfl, by decide +kernel, rfl, by decide +kernel, by decide +kernel⟩
theorem sc_are_times : FnScope ["least", "most"] ["least", "most"] (defScope s_are_times) := ⟨rfl, rfl, rfl, by decide +kernel, rfl, by decide +kernel, by decide +kernel⟩
theorem sc_are_terms : FnScope ["thing", "least", "most", "deep", "one"] ["thing", "least", "most", "deep"] (defScope s_are_terms) := ⟨rfl, rfl, rfl, by decide +kernel, rfl, by decide +kernel, by decide +kernel⟩
theorem sc_is_term : FnScope ["thing", "deep", "word"] ["thing", "deep"] (defScope s_is_term) := ⟨rfl, rfl, rfl, by decide +kernel, rfl, by decide +kernel, by decide +kernel⟩
theorem sc_is_named_term : FnScope ["thing"] ["thing"] (defScope s_is_named_term) := ⟨rfl, rfl, rfl, by decide +kernel, rfl, by decide +kernel, by decide +kernel⟩
section
variable {P : Program} {w : World} {K : PySem.W.Frag} {mg : Str → Option Value} {base : Heap}
theorem ok_letters (T : At K mg "are_letters" s_are_letters ["thing", "most"]) (B : Bt mg) (D : GbP mg) : Cal P w K mg base 1 "are_letters" ["thing", "most"] spLetters := by
  obtain ⟨tl, mLett⟩ := D.lett
  refine cal_of T sc_are_letters (fun vs H Q E h => ?_) (fun f cdv A outer s H vs Q E hr h => ?_)
  · obtain ⟨p, v, g, most, rfl, _⟩ := h
    rfl
  · obtain ⟨p, v, g, most, rfl, hv, hm, hs, q⟩ := h
    refine ⟨_, (pss_cons (ps_if (PW.pt (pw_or (pt_not (pt_val (pe_callB call_isi (by rfl) B.isinstance (by decide +kernel) (pa_cons (pv 0) (pa_cons (pe_bltn (v := .ty "str") (u := .type "str") (by rfl) B.str (by decide +kernel) rfl) pa_nil))))) (pw_or1 (pt_not (pt_chain op_le op_le pe_int (pe_callB call_len_str (by rfl) B.len PySem.boot_len (pa_cons (pv 0) pa_nil)) (pv 1)))))) (pss_one (ps_ret pe_bl)) pss_nil)
      (pss_one (ps_ret (pe_callB (cr_all rfl) (by rfl) B.all (by decide +kernel) (pa_cons (pe_lc (own := [("sign", 2)]) (g := (gName 2)) (tt := tYes) (te := (tOp rSign (tVar 2) (tC (.str lett)))) (by rfl) sc_are_letters.nd (pi_str (pv 0)) (blkOk_by (own := [("sign", 2)]) (N := ["thing", "most", "sign"]) (sc := defScope s_are_letters) (by decide +kernel)) (fun _ _ _ _ _ => (pg_name (i := 2) sc_are_letters.nd rfl (Or.inl rfl))) (fun _ _ _ _ _ => pts_nil) (fun _ _ _ _ _ => (pe_cmpR op_sign (pv 2) (pe_glob (v := .str lett) rfl mLett ⟨_, rfl⟩) (by rfl)))) pa_nil))))), ?_⟩
    refine ⟨_, rfl, v, .ty "str", _, _, _, rfl, .ty "str", hv.ty, kit_str g, _, rfl, iteB (fun e => ?_) (fun e => ?_)⟩
    · refine iteT ?_
      rw [show false = letG most g from by cases g <;> first | rfl | cases e]
      exact q H (Same.refl H)
    cases hv with
    | str z =>
      have hz : z.length ≤ 1000 := by
        have y : decide (z.length ≤ 1000) = true := hs
        exact of_decide_eq_true y
      have hb : sizeLine = 16777216 := rfl
      have hd : letG most (.str z) = ((decide (1 ≤ (z.length : Int)) && decide ((z.length : Int) ≤ most)) && (z.cps.toList.map inLett).all id) := rfl
      refine ⟨_, rfl, z, rfl, by omega, _, _, rfl, rfl, _, rfl, iteB (fun e1 => ?_) (fun e1 => ?_)⟩
      · refine ⟨_, rfl, _, _, rfl, rfl, _, rfl, iteB (fun e2 => ?_) (fun e2 => ?_)⟩
        · have e3 : decide ((z.length : Int) ≤ most) = false := by simpa using e2
          have z1 : false = letG most (.str z) := by
            rw [hd, e3, Bool.and_false, Bool.false_and]
          rw [z1]
          exact q H (Same.refl H)
        · have e3 : decide ((z.length : Int) ≤ most) = true := by simpa using e2
          rw [e1, e3, Bool.true_and, Bool.true_and] at hd
          refine ⟨_, rfl, z, rfl, fun D nD => ?_⟩
          refine lc_str (x := z) (fun i H2 => Same H H2 ∧ H2 D = some (.lst (((z.cps.toList.map inLett).take i).map V.bl))) ?_ ?_ ?_
          · exact ⟨same_upd nD, upd_same⟩
          · rintro i c H2 hc ⟨s2, hD⟩
            have hi : i < z.cps.toList.length := by
              rw [← Array.getElem?_toList] at hc
              exact (List.getElem?_eq_some_iff.mp hc).1
            refine ⟨rfl, tyes ?_⟩
            refine ⟨_, rfl, c, lett, rfl, rfl, ((z.cps.toList.map inLett).take i).map V.bl, hD, (by rw [List.length_map, List.length_take, List.length_map]; exact small1000 (by have : z.cps.toList.length = z.length := rfl; omega)), ?_⟩
            rw [take_one (x := inLett c) (by rw [List.getElem?_map, Array.getElem?_toList, hc]; rfl), List.map_append]
            refine ⟨fun b o eb => ?_, upd_same⟩
            rw [upd_ne (ne_of_none eb nD)]
            exact s2 _ _ eb
          · rintro H2 ⟨s2, hD⟩
            rw [List.take_of_length_le (by rw [List.length_map]; exact Nat.le_refl _)] at hD
            refine ⟨D, z.cps.toList.map inLett, rfl, SqL.of hD, ?_⟩
            have q3 := q H2 s2
            rw [hd] at q3
            exact q3
      · refine ⟨_, rfl, iteT ?_⟩
        have z1 : false = letG most (.str z) := by
          rw [hd, e1, Bool.false_and, Bool.false_and]
        rw [z1]
        exact q H (Same.refl H)
    | _ => cases e
theorem ok_name (T : At K mg "is_name" s_is_name ["thing"]) (D : GbP mg) (c_are_letters : Cal P w K mg base 1 "are_letters" ["thing", "most"] spLetters) : Cal P w K mg base 2 "is_name" ["thing"] spName := by
  obtain ⟨tl, mLong⟩ := D.long
  refine cal_of T sc_is_name (fun vs H Q E h => ?_) (fun f cdv A outer s H vs Q E hr h => ?_)
  · obtain ⟨p, v, g, rfl, _⟩ := h
    rfl
  · obtain ⟨p, v, g, rfl, hv, hs, q⟩ := h
    refine ⟨_, (pss_one (ps_ret (pe_own c_are_letters hr (by decide) (by rfl) (pa_cons (pv 0) (pa_cons (pe_glob (v := .int 6) rfl mLong ⟨_, rfl⟩) pa_nil))))), ?_⟩
    exact ⟨_, rfl, p, v, g, 6, rfl, hv, by decide, hs, q⟩
theorem ok_times (T : At K mg "are_times" s_are_times ["least", "most"]) (D : GbP mg) (c_is_whole : Cal P w K mg base 1 "is_whole" ["thing"] spWhole) : Cal P w K mg base 2 "are_times" ["least", "most"] spTimes := by
  obtain ⟨tl, mRnd⟩ := D.rnd
  refine cal_of T sc_are_times (fun vs H Q E h => ?_) (fun f cdv A outer s H vs Q E hr h => ?_)
  · obtain ⟨p, v, u, g, k, rfl, _⟩ := h
    rfl
  · obtain ⟨p, v, u, g, k, rfl, hv, hu, q⟩ := h
    refine ⟨_, (pss_cons (ps_if (PW.pt (pw_or (pt_not (pt_val (pe_own c_is_whole hr (by decide) (by rfl) (pa_cons (pv 0) pa_nil)))) (pw_or1 (pt_not (pt_chain op_le op_le pe_int (pv 0) (pe_glob (v := .int 12) rfl mRnd ⟨_, rfl⟩)))))) (pss_one (ps_ret pe_bl)) pss_nil)
      (pss_one (ps_ret (pe_or (pe_cmpR op_isN (pv 1) pe_non (nomark _)) (pe_one (pe_and (pe_own c_is_whole hr (by decide) (by rfl) (pa_cons (pv 1) pa_nil)) (pe_one (pe_chain op_le op_le (pv 0) (pv 1) (pe_glob (v := .int 12) rfl mRnd ⟨_, rfl⟩))))))))), ?_⟩
    refine ⟨_, rfl, p, v, g, rfl, hv, _, rfl, iteB (fun e => ?_) (fun e => ?_)⟩
    · refine iteT ?_
      have z : false = timesG g k := by
        unfold timesG
        rw [show inG 13 g = false from by cases g <;> first | rfl | cases e]
        rfl
      rw [z]
      exact q
    obtain ⟨i, rfl, rfl⟩ := whole_int hv (by simpa using e)
    have hd : timesG (.int i) k = ((decide (0 ≤ i) && decide (i < 13)) && mostG i k) := rfl
    refine ⟨_, rfl, _, _, rfl, rfl, _, rfl, iteB (fun e1 => ?_) (fun e1 => ?_)⟩
    · refine ⟨_, _, rfl, rfl, _, rfl, iteB (fun e2 => ?_) (fun e2 => ?_)⟩
      · have e3 : decide (i < 13) = false := by
          have : ¬ i ≤ 12 := by simpa using e2
          exact decide_eq_false (by omega)
        rw [e1, e3] at hd
        have q2 := q
        rw [hd] at q2
        exact q2
      · have e3 : decide (i < 13) = true := by
          have : i ≤ 12 := by simpa using e2
          exact decide_eq_true (by omega)
        rw [e1, e3, Bool.true_and, Bool.true_and] at hd
        rw [hd] at q
        refine ⟨_, rfl, rfl, _, rfl, iteB (fun e4 => ?_) (fun e4 => ?_)⟩
        · have : u = .non := of_decide_eq_true e4
          subst this
          cases hu
          exact q
        · refine ⟨_, rfl, p, u, k, rfl, hu, _, rfl, iteB (fun e5 => ?_) (fun e5 => ?_)⟩
          · obtain ⟨j, rfl, rfl⟩ := whole_int hu e5
            refine ⟨_, rfl, _, rfl, _, _, rfl, rfl, _, rfl, iteB (fun e6 => ?_) (fun e6 => ?_)⟩
            · refine ⟨_, _, rfl, rfl, ?_⟩
              rw [show mostG i (.int j) = (decide (i ≤ j) && decide (j ≤ 12)) from rfl, e6, Bool.true_and] at q
              exact q
            · rw [show mostG i (.int j) = (decide (i ≤ j) && decide (j ≤ 12)) from rfl, e6, Bool.false_and] at q
              exact q
          · cases hu with
            | non => exact absurd e4 (by decide)
            | int j => cases e5
            | _ => exact q
    · refine ⟨_, rfl, iteT ?_⟩
      rw [e1] at hd
      rw [hd] at q
      exact q
theorem ok_terms (T : At K mg "are_terms" s_are_terms ["thing", "least", "most", "deep"]) (B : Bt mg) {d lv : Nat} (c_is_term : Cal P w K mg base lv "is_term" ["thing", "deep"] (spIsTerm d)) :
    Cal P w K mg base (lv + 1) "are_terms" ["thing", "least", "most", "deep"] (spTerms d) := by
  refine cal_of T sc_are_terms (fun vs H Q E h => ?_) (fun f cdv A outer s H vs Q E hr h => ?_)
  · obtain ⟨p, v, g, lo, hi, rfl, _⟩ := h
    rfl
  · obtain ⟨p, v, g, lo, hi, rfl, hv, hs, hm, q⟩ := h
    refine ⟨_, (pss_cons (ps_if (PW.pt (pw_or (pt_not (pt_val (pe_callB call_isi (by rfl) B.isinstance (by decide +kernel) (pa_cons (pv 0) (pa_cons (pe_bltn (v := .ty "tuple") (u := .type "tuple") (by rfl) B.tuple (by decide +kernel) rfl) pa_nil))))) (pw_or1 (pt_not (pt_chain op_le op_le (pv 1) (pe_callB call_len_seq (by rfl) B.len PySem.boot_len (pa_cons (pv 0) pa_nil)) (pv 2)))))) (pss_one (ps_ret pe_bl)) pss_nil)
      (pss_one (ps_ret (pe_callB (cr_all rfl) (by rfl) B.all (by decide +kernel) (pa_cons (pe_lc (own := [("one", 4)]) (g := (gName 4)) (tt := tYes) (te := (tCall (spIsTerm d) [] E0 (tCons (tVar 4) (tCons (tVar 3) tNil)))) (by rfl) sc_are_terms.nd (pi_tup (pv 0)) (blkOk_by (own := [("one", 4)]) (N := ["thing", "least", "most", "deep", "one"]) (sc := defScope s_are_terms) (by decide +kernel)) (fun _ _ _ _ _ => (pg_name (i := 4) sc_are_terms.nd rfl (Or.inl rfl))) (fun _ _ _ _ _ => pts_nil) (fun _ _ _ _ _ => (pe_own c_is_term hr (Nat.le_refl _) (by rfl) (pa_cons (pv 4) (pa_cons (pv 3) pa_nil))))) pa_nil))))), ?_⟩
    refine ⟨_, rfl, v, .ty "tuple", _, _, _, rfl, .ty "tuple", hv.ty, kit_tuple g, _, rfl, iteB (fun e => ?_) (fun e => ?_)⟩
    · refine iteT ?_
      rw [show false = termsG (termG d) lo hi g from by cases g <;> first | rfl | cases e]
      exact q H (Same.refl H)
    cases hv with
    | @tup a vs gs ha t =>
      have hlen : vs.length = gs.length := t.len
      have hss : okSs gs = true := hs
      have hd : termsG (termG d) lo hi (.tup gs) = ((decide (lo ≤ (gs.length : Int)) && decide ((gs.length : Int) ≤ hi)) && (gs.map (termG d)).all id) := rfl
      refine ⟨_, rfl, _, rfl, a, _, rfl, .inr ha.sq, _, _, rfl, rfl, _, rfl, iteB (fun e1 => ?_) (fun e1 => ?_)⟩
      · refine ⟨_, rfl, _, _, rfl, rfl, _, rfl, ?_⟩
        rw [hlen] at e1 ⊢
        refine iteB (fun e2 => ?_) (fun e2 => ?_)
        · have e3 : decide ((gs.length : Int) ≤ hi) = false := by simpa using e2
          have z : false = termsG (termG d) lo hi (.tup gs) := by
            rw [hd, e3, Bool.and_false, Bool.false_and]
          rw [z]
          exact q H (Same.refl H)
        · have e3 : decide ((gs.length : Int) ≤ hi) = true := by simpa using e2
          have small : gs.length ≤ 1000 := by
            have := of_decide_eq_true e3
            omega
          rw [e1, e3, Bool.true_and, Bool.true_and] at hd
          refine ⟨_, rfl, a, rfl, ⟨_, ha.sq⟩, fun D nD => ?_⟩
          refine lc_tup (K := K) (a := a) (xs := vs) (fun i H2 => Same H H2 ∧ H2 D = some (.lst (((gs.map (termG d)).take i).map V.bl))) ?_ ?_ ?_ ?_
          · exact ⟨same_upd nD, upd_same⟩
          · rintro i H2 _ ⟨s2, _⟩
            exact (ha.same s2).sq
          · rintro i x H2 hx ⟨s2, hD⟩
            obtain ⟨g1, e4, tg⟩ := t.get hx
            have hi : i < gs.length := (List.getElem?_eq_some_iff.mp e4).1
            refine ⟨rfl, tyes ?_⟩
            refine ⟨_, rfl, _, rfl, p, x, g1, rfl, tg.keep (Keeps.same s2), okSs_mem hss (List.mem_of_getElem? e4), fun H3 s3 => ?_⟩
            refine ⟨((gs.map (termG d)).take i).map V.bl, s3 _ _ hD, (by rw [List.length_map, List.length_take, List.length_map]; exact small1000 (by omega)), ?_⟩
            rw [take_one (x := termG d g1) (by rw [List.getElem?_map, e4]; rfl), List.map_append]
            refine ⟨fun c o ec => ?_, upd_same⟩
            rw [upd_ne (ne_of_none ec nD)]
            exact s3 _ _ (s2 _ _ ec)
          · rintro H2 ⟨s2, hD⟩
            rw [List.take_of_length_le (by rw [List.length_map]; omega)] at hD
            refine ⟨D, gs.map (termG d), rfl, SqL.of hD, ?_⟩
            have q3 := q H2 s2
            rw [hd] at q3
            exact q3
      · refine ⟨_, rfl, iteT ?_⟩
        rw [hlen] at e1
        have z : false = termsG (termG d) lo hi (.tup gs) := by
          rw [hd, e1, Bool.false_and, Bool.false_and]
        rw [z]
        exact q H (Same.refl H)
    | _ => cases e
theorem ok_is_term (T : At K mg "is_term" s_is_term ["thing", "deep"]) (T2 : At K mg "are_terms" s_are_terms ["thing", "least", "most", "deep"]) (B : Bt mg) (c_are_times : Cal P w K mg base 2 "are_times" ["least", "most"] spTimes) (c_is_name : Cal P w K mg base 2 "is_name" ["thing"] spName)
    (c_are_rooms : Cal P w K mg base 3 "are_rooms" ["thing", "least", "most"] spRooms) : ∀ d : Nat, Cal P w K mg base (2 * d + 5) "is_term" ["thing", "deep"] (spIsTerm d)
  | 0 => by
    refine cal_of T sc_is_term (fun vs H Q E h => ?_) (fun f cdv A outer s H vs Q E hr h => ?_)
    · obtain ⟨p, v, g, rfl, _⟩ := h
      rfl
    · obtain ⟨p, v, g, rfl, hv, hs, q⟩ := h
      refine ⟨_, (pss_cons (ps_if (PW.pt (pw_or (pt_cmpR op_lt (pv 1) pe_int (nomark _)) (pw_or (pt_not (pt_val (pe_callB call_isi (by rfl) B.isinstance (by decide +kernel) (pa_cons (pv 0) (pa_cons (pe_bltn (v := .ty "tuple") (u := .type "tuple") (by rfl) B.tuple (by decide +kernel) rfl) pa_nil))))) (pw_or (pt_cmpR op_eq (pe_callB call_len_seq (by rfl) B.len PySem.boot_len (pa_cons (pv 0) pa_nil)) pe_int (nomark _)) (pw_or1 (pt_not (pt_val (pe_callB call_isi (by rfl) B.isinstance (by decide +kernel) (pa_cons (pe_ix ix_tup (pv 0) pe_int (fun _ _ => rfl)) (pa_cons (pe_bltn (v := .ty "str") (u := .type "str") (by rfl) B.str (by decide +kernel) rfl) pa_nil)))))))))) (pss_one (ps_ret pe_bl)) pss_nil)
      (pss_cons (ps_set (i := 2) sc_is_term.nd rfl (Or.inl rfl) (pe_ix ix_tup (pv 0) pe_int (fun _ _ => rfl)))
      (pss_cons (ps_if (pt_cmpR op_eq (pv 2) pe_str (nomark _)) (pss_one (ps_ret (pe_cmpR op_eq (pe_callB call_len_seq (by rfl) B.len PySem.boot_len (pa_cons (pv 0) pa_nil)) pe_int (nomark _)))) pss_nil)
      (pss_cons (ps_if (pt_cmpR op_eq (pv 2) pe_str (nomark _)) (pss_one (ps_ret (pe_and (pe_cmpR op_eq (pe_callB call_len_seq (by rfl) B.len PySem.boot_len (pa_cons (pv 0) pa_nil)) pe_int (nomark _)) (pe_and (pe_own c_are_times hr (by decide) (by rfl) (pa_cons (pe_ix ix_tup (pv 0) pe_int (fun _ _ => rfl)) (pa_cons (pe_ix ix_tup (pv 0) pe_int (fun _ _ => rfl)) pa_nil))) (pe_one pe_never))))) pss_nil)
      (pss_cons (ps_if (pt_cmpR op_ne (pe_callB call_len_seq (by rfl) B.len PySem.boot_len (pa_cons (pv 0) pa_nil)) pe_int (nomark _)) (pss_one (ps_ret pe_bl)) pss_nil)
      (pss_cons (ps_if (pt_cmpR op_eq (pv 2) pe_str (nomark _)) (pss_one (ps_ret (pe_own c_are_rooms hr (by decide) (by rfl) (pa_cons (pe_ix ix_tup (pv 0) pe_int (fun _ _ => rfl)) (pa_cons pe_int (pa_cons pe_int pa_nil)))))) pss_nil)
      (pss_cons (ps_if (pt_cmpR op_eq (pv 2) pe_str (nomark _)) (pss_one (ps_ret pe_never)) pss_nil)
      (pss_cons (ps_if (pt_cmpR op_eq (pv 2) pe_str (nomark _)) (pss_one (ps_ret pe_never)) pss_nil)
      (pss_one (ps_ret (pe_and (pe_cmpR op_eq (pv 2) pe_str (nomark _)) (pe_one (pe_own c_is_name hr (by decide) (by rfl) (pa_cons (pe_ix ix_tup (pv 0) pe_int (fun _ _ => rfl)) pa_nil)))))))))))))), ?_⟩
      refine ⟨_, rfl, _, _, rfl, rfl, _, rfl, iteB (fun _ => iteT ?_) (fun z => absurd z (by decide))⟩
      exact q H (Same.refl H)
  | d + 1 => by
    have c_is_term := ok_is_term T T2 B c_are_times c_is_name c_are_rooms d
    have c_are_terms := ok_terms T2 B c_is_term
    refine cal_of T sc_is_term (fun vs H Q E h => ?_) (fun f cdv A outer s H vs Q E hr h => ?_)
    · obtain ⟨p, v, g, rfl, _⟩ := h
      rfl
    · obtain ⟨p, v, g, rfl, hv, hs, q⟩ := h
      refine ⟨_, (pss_cons (ps_if (PW.pt (pw_or (pt_cmpR op_lt (pv 1) pe_int (nomark _)) (pw_or (pt_not (pt_val (pe_callB call_isi (by rfl) B.isinstance (by decide +kernel) (pa_cons (pv 0) (pa_cons (pe_bltn (v := .ty "tuple") (u := .type "tuple") (by rfl) B.tuple (by decide +kernel) rfl) pa_nil))))) (pw_or (pt_cmpR op_eq (pe_callB call_len_seq (by rfl) B.len PySem.boot_len (pa_cons (pv 0) pa_nil)) pe_int (nomark _)) (pw_or1 (pt_not (pt_val (pe_callB call_isi (by rfl) B.isinstance (by decide +kernel) (pa_cons (pe_ix ix_tup (pv 0) pe_int (fun _ _ => rfl)) (pa_cons (pe_bltn (v := .ty "str") (u := .type "str") (by rfl) B.str (by decide +kernel) rfl) pa_nil)))))))))) (pss_one (ps_ret pe_bl)) pss_nil)
      (pss_cons (ps_set (i := 2) sc_is_term.nd rfl (Or.inl rfl) (pe_ix ix_tup (pv 0) pe_int (fun _ _ => rfl)))
      (pss_cons (ps_if (pt_cmpR op_eq (pv 2) pe_str (nomark _)) (pss_one (ps_ret (pe_cmpR op_eq (pe_callB call_len_seq (by rfl) B.len PySem.boot_len (pa_cons (pv 0) pa_nil)) pe_int (nomark _)))) pss_nil)
      (pss_cons (ps_if (pt_cmpR op_eq (pv 2) pe_str (nomark _)) (pss_one (ps_ret (pe_and (pe_cmpR op_eq (pe_callB call_len_seq (by rfl) B.len PySem.boot_len (pa_cons (pv 0) pa_nil)) pe_int (nomark _)) (pe_and (pe_own c_are_times hr (by omega) (by rfl) (pa_cons (pe_ix ix_tup (pv 0) pe_int (fun _ _ => rfl)) (pa_cons (pe_ix ix_tup (pv 0) pe_int (fun _ _ => rfl)) pa_nil))) (pe_one (pe_own c_is_term hr (by omega) (by rfl) (pa_cons (pe_ix ix_tup (pv 0) pe_int (fun _ _ => rfl)) (pa_cons (pe_op op_sub (pv 1) pe_int) pa_nil)))))))) pss_nil)
      (pss_cons (ps_if (pt_cmpR op_ne (pe_callB call_len_seq (by rfl) B.len PySem.boot_len (pa_cons (pv 0) pa_nil)) pe_int (nomark _)) (pss_one (ps_ret pe_bl)) pss_nil)
      (pss_cons (ps_if (pt_cmpR op_eq (pv 2) pe_str (nomark _)) (pss_one (ps_ret (pe_own c_are_rooms hr (by omega) (by rfl) (pa_cons (pe_ix ix_tup (pv 0) pe_int (fun _ _ => rfl)) (pa_cons pe_int (pa_cons pe_int pa_nil)))))) pss_nil)
      (pss_cons (ps_if (pt_cmpR op_eq (pv 2) pe_str (nomark _)) (pss_one (ps_ret (pe_own c_are_terms hr (by omega) (by rfl) (pa_cons (pe_ix ix_tup (pv 0) pe_int (fun _ _ => rfl)) (pa_cons pe_int (pa_cons pe_int (pa_cons (pe_op op_sub (pv 1) pe_int) pa_nil))))))) pss_nil)
      (pss_cons (ps_if (pt_cmpR op_eq (pv 2) pe_str (nomark _)) (pss_one (ps_ret (pe_own c_are_terms hr (by omega) (by rfl) (pa_cons (pe_ix ix_tup (pv 0) pe_int (fun _ _ => rfl)) (pa_cons pe_int (pa_cons pe_int (pa_cons (pe_op op_sub (pv 1) pe_int) pa_nil))))))) pss_nil)
      (pss_one (ps_ret (pe_and (pe_cmpR op_eq (pv 2) pe_str (nomark _)) (pe_one (pe_own c_is_name hr (by omega) (by rfl) (pa_cons (pe_ix ix_tup (pv 0) pe_int (fun _ _ => rfl)) pa_nil)))))))))))))), ?_⟩
      refine ⟨_, rfl, _, _, rfl, rfl, _, rfl, iteB (fun z => absurd (of_decide_eq_true z) (by omega)) (fun _ => ?_)⟩
      refine ⟨_, rfl, v, .ty "tuple", _, _, _, rfl, .ty "tuple", hv.ty, kit_tuple g, _, rfl, iteB (fun e => ?_) (fun e => ?_)⟩
      · refine iteT ?_
        rw [show false = termG (d + 1) g from by cases g <;> first | rfl | cases e]
        exact q H (Same.refl H)
      cases hv with
      | @tup a vs gs ha t =>
        have hlen : vs.length = gs.length := t.len
        have hss : okSs gs = true := hs
        refine ⟨_, rfl, a, _, rfl, .inr ha.sq, rfl, _, rfl, ?_⟩
        cases t with
        | nil => exact iteT (iteT (q H (Same.refl H)))
        | @cons v0 vr g0 r h0 tr =>
          refine iteB (fun z => absurd (of_decide_eq_true z) (by intro y; cases y)) (fun _ => ?_)
          refine ⟨_, rfl, _, _, _, _, rfl, rfl, ha.sq, atI_nat (j := 0) rfl, v0, .ty "str", _, _, _, rfl, .ty "str", h0.ty, kit_str g0, _, rfl, iteB (fun e1 => ?_) (fun e1 => ?_)⟩
          · rw [show false = termG (d + 1) (.tup (g0 :: r)) from by cases g0 <;> first | rfl | cases e1]
            exact q H (Same.refl H)
          cases h0 with
          | str x =>
            have q0 := q H (Same.refl H)
            have hdm : ((d + 1 : Nat) : Int) - 1 = (d : Int) := by omega
            refine ⟨_, rfl, _, _, _, _, rfl, rfl, ha.sq, atI_nat (j := 0) rfl, ?_⟩
            refine ⟨_, rfl, rfl, _, rfl, iteB (fun z => ?_) (fun z => ?_)⟩
            · have ex : x = "rest" := by
                have y := of_decide_eq_true z
                injection y
              have e2 : termG (d + 1) (.tup (.str x :: r)) = r.isEmpty := by
                show (if x = "rest" then r.isEmpty else _) = _
                rw [if_pos ex]
              rw [e2] at q0
              refine ⟨_, rfl, a, _, rfl, .inr ha.sq, rfl, ?_⟩
              cases tr with
              | nil => exact q0
              | @cons v1 v2 g1 g2 h1 t1 =>
                have e3 : decide (V.int ((V.str x :: v1 :: v2).length : Nat) = V.int 1) = false := decide_eq_false (by
                  intro y
                  injection y with y
                  rw [List.length_cons, List.length_cons] at y
                  omega)
                rw [e3]
                exact q0
            have n0 : ¬ x = "rest" := fun y => absurd z (by rw [y]; decide)
            refine ⟨_, rfl, rfl, _, rfl, iteB (fun z1 => ?_) (fun z1 => ?_)⟩
            · have ex : x = "round" := by
                have y := of_decide_eq_true z1
                injection y
              have e2 : termG (d + 1) (.tup (.str x :: r)) = roundG (termG d) r := by
                show (if x = "rest" then _ else if x = "round" then _ else _) = _
                rw [if_neg n0, if_pos ex]
              refine ⟨_, rfl, a, _, rfl, .inr ha.sq, rfl, _, rfl, ?_⟩
              cases tr with
              | nil =>
                rw [e2] at q0
                exact iteF q0
              | @cons v1 vr1 g1 r1 h1 t1 => cases t1 with
                | nil =>
                  rw [e2] at q0
                  exact iteF q0
                | @cons v2 vr2 g2 r2 h2 t2 => cases t2 with
                  | nil =>
                    rw [e2] at q0
                    exact iteF q0
                  | @cons v3 vr3 g3 r3 h3 t3 => cases t3 with
                    | @cons v4 vr4 g4 r4 h4 t4 =>
                      rw [e2] at q0
                      refine iteB (fun y => absurd (of_decide_eq_true y) ?_) (fun _ => q0)
                      intro y
                      injection y with y
                      rw [List.length_cons, List.length_cons, List.length_cons, List.length_cons, List.length_cons] at y
                      omega
                    | nil =>
                      refine iteT ?_
                      refine ⟨_, rfl, _, _, _, _, rfl, rfl, ha.sq, atI_nat (j := 1) rfl, _, rfl, _, _, _, _, rfl, rfl, ha.sq, atI_nat (j := 2) rfl, p, v1, v2, g1, g2, rfl, h1, h2, _, rfl, iteB (fun e5 => ?_) (fun e5 => ?_)⟩
                      · have k3 : okS g3 = true := okSs_mem hss (by simp)
                        refine ⟨_, rfl, _, _, _, _, rfl, rfl, ha.sq, atI_nat (j := 3) rfl, _, rfl, _, _, rfl, rfl, p, v3, g3, (by show [v3, V.int (((d + 1 : Nat) : Int) - 1)] = _; rw [hdm]), h3, k3, fun H1 s1 => ?_⟩
                        have q1 := q H1 s1
                        rw [e2] at q1
                        have e6 : (timesG g1 g2 && termG d g3) = termG d g3 := by rw [e5, Bool.true_and]
                        exact e6 ▸ q1
                      · rw [e2] at q0
                        have e6 : (timesG g1 g2 && termG d g3) = false := by rw [e5, Bool.false_and]
                        exact e6 ▸ q0
            have n1 : ¬ x = "round" := fun y => absurd z1 (by rw [y]; decide)
            have e2 : termG (d + 1) (.tup (.str x :: r)) = oneG (termG d) x r := by
              show (if x = "rest" then _ else if x = "round" then _ else _) = _
              rw [if_neg n0, if_neg n1]
            refine ⟨_, rfl, a, _, rfl, .inr ha.sq, rfl, _, rfl, ?_⟩
            cases tr with
            | nil =>
              rw [e2] at q0
              exact iteT q0
            | @cons v1 vr1 g1 r1 h1 t1 => cases t1 with
              | @cons v2 vr2 g2 r2 h2 t2 =>
                rw [e2] at q0
                refine iteB (fun _ => q0) (fun y => ?_)
                simp at y
                omega
              | nil =>
                refine iteNS rfl ?_
                have k1 : okS g1 = true := okSs_mem hss (by simp)
                have e3 : termG (d + 1) (.tup [.str x, g1]) = lastG (termG d) x g1 := e2
                unfold lastG at e3
                refine ⟨_, rfl, rfl, _, rfl, iteB (fun z2 => ?_) (fun z2 => ?_)⟩
                · have ex : x = "ask" := by
                    have y := of_decide_eq_true z2
                    injection y
                  rw [if_pos ex] at e3
                  refine ⟨_, rfl, _, _, _, _, rfl, rfl, ha.sq, atI_nat (j := 1) rfl, p, v1, g1, 1, 6, rfl, h1, by decide, fun H1 s1 => ?_⟩
                  have q1 := q H1 s1
                  rw [e3] at q1
                  exact q1
                rw [if_neg (fun y => absurd z2 (by rw [y]; decide))] at e3
                refine ⟨_, rfl, rfl, _, rfl, iteB (fun z3 => ?_) (fun z3 => ?_)⟩
                · have ex : x = "then" := by
                    have y := of_decide_eq_true z3
                    injection y
                  rw [if_pos ex] at e3
                  refine ⟨_, rfl, _, _, _, _, rfl, rfl, ha.sq, atI_nat (j := 1) rfl, _, rfl, _, _, rfl, rfl, p, v1, g1, 1, 8, (by show [v1, V.int 1, V.int 8, V.int (((d + 1 : Nat) : Int) - 1)] = _; rw [hdm]), h1, k1, by decide, fun H1 s1 => ?_⟩
                  have q1 := q H1 s1
                  rw [e3] at q1
                  exact q1
                rw [if_neg (fun y => absurd z3 (by rw [y]; decide))] at e3
                refine ⟨_, rfl, rfl, _, rfl, iteB (fun z4 => ?_) (fun z4 => ?_)⟩
                · have ex : x = "fork" := by
                    have y := of_decide_eq_true z4
                    injection y
                  rw [if_pos ex] at e3
                  refine ⟨_, rfl, _, _, _, _, rfl, rfl, ha.sq, atI_nat (j := 1) rfl, _, rfl, _, _, rfl, rfl, p, v1, g1, 2, 6, (by show [v1, V.int 2, V.int 6, V.int (((d + 1 : Nat) : Int) - 1)] = _; rw [hdm]), h1, k1, by decide, fun H1 s1 => ?_⟩
                  have q1 := q H1 s1
                  rw [e3] at q1
                  exact q1
                rw [if_neg (fun y => absurd z4 (by rw [y]; decide))] at e3
                refine ⟨_, rfl, rfl, _, rfl, iteB (fun z5 => ?_) (fun z5 => ?_)⟩
                · have ex : x = "call" := by
                    have y := of_decide_eq_true z5
                    injection y
                  rw [decide_eq_true ex, Bool.true_and] at e3
                  refine ⟨_, rfl, _, _, _, _, rfl, rfl, ha.sq, atI_nat (j := 1) rfl, p, v1, g1, rfl, h1, k1, fun H1 s1 => ?_⟩
                  have q1 := q H1 s1
                  rw [e3] at q1
                  exact q1
                · rw [decide_eq_false (fun y => absurd z5 (by rw [y]; decide)), Bool.false_and] at e3
                  rw [e3] at q0
                  exact q0
          | _ => cases e1
      | _ => cases e
theorem ok_named (T : At K mg "is_named_term" s_is_named_term ["thing"]) (B : Bt mg) (D : GbP mg) (c_is_name : Cal P w K mg base 2 "is_name" ["thing"] spName) (c_is_term : Cal P w K mg base 17 "is_term" ["thing", "deep"] (spIsTerm 6)) :
    Cal P w K mg base 18 "is_named_term" ["thing"] spNamed := by
  obtain ⟨tl, mDeep⟩ := D.deep
  refine cal_of T sc_is_named_term (fun vs H Q E h => ?_) (fun f cdv A outer s H vs Q E hr h => ?_)
  · obtain ⟨p, v, g, rfl, _⟩ := h
    rfl
  · obtain ⟨p, v, g, rfl, hv, hs, q⟩ := h
    refine ⟨_, (pss_cons (ps_if (PW.pt (pw_or (pt_not (pt_val (pe_callB call_isi (by rfl) B.isinstance (by decide +kernel) (pa_cons (pv 0) (pa_cons (pe_bltn (v := .ty "tuple") (u := .type "tuple") (by rfl) B.tuple (by decide +kernel) rfl) pa_nil))))) (pw_or1 (pt_cmpR op_ne (pe_callB call_len_seq (by rfl) B.len PySem.boot_len (pa_cons (pv 0) pa_nil)) pe_int (nomark _))))) (pss_one (ps_ret pe_bl)) pss_nil)
      (pss_one (ps_ret (pe_and (pe_own c_is_name hr (by decide) (by rfl) (pa_cons (pe_ix ix_tup (pv 0) pe_int (fun _ _ => rfl)) pa_nil)) (pe_one (pe_own c_is_term hr (by decide) (by rfl) (pa_cons (pe_ix ix_tup (pv 0) pe_int (fun _ _ => rfl)) (pa_cons (pe_glob (v := .int 6) rfl mDeep ⟨_, rfl⟩) pa_nil)))))))), ?_⟩
    refine ⟨_, rfl, v, .ty "tuple", _, _, _, rfl, .ty "tuple", hv.ty, kit_tuple g, _, rfl, iteB (fun e => ?_) (fun e => ?_)⟩
    · refine iteT ?_
      rw [show false = namedG g from by cases g <;> first | rfl | cases e]
      exact q H (Same.refl H)
    cases hv with
    | @tup a vs gs ha t =>
      have hss : okSs gs = true := hs
      have q0 := q H (Same.refl H)
      refine ⟨_, rfl, a, _, rfl, .inr ha.sq, rfl, _, rfl, ?_⟩
      cases t with
      | nil => exact iteT q0
      | @cons v1 vr1 g1 r1 h1 t1 => cases t1 with
        | nil => exact iteT q0
        | @cons v2 vr2 g2 r2 h2 t2 => cases t2 with
          | @cons v3 vr3 g3 r3 h3 t3 =>
            refine iteB (fun _ => q0) (fun y => ?_)
            simp at y
            omega
          | nil =>
            refine iteNS rfl ?_
            have e3 : namedG (.tup [g1, g2]) = (letG 6 g1 && termG 6 g2) := rfl
            refine ⟨_, rfl, _, _, _, _, rfl, rfl, ha.sq, atI_nat (j := 0) rfl, p, v1, g1, rfl, h1, okSs_mem hss (by simp), fun H1 s1 => ⟨_, rfl, iteB (fun e5 => ?_) (fun e5 => ?_)⟩⟩
            · refine ⟨_, rfl, _, _, _, _, rfl, rfl, (ha.same s1).sq, atI_nat (j := 1) rfl, p, v2, g2, rfl, h2.keep (Keeps.same s1), okSs_mem hss (by simp), fun H2 s2 => ?_⟩
              have q1 := q H2 (s1.trans s2)
              rw [e3, e5, Bool.true_and] at q1
              exact q1
            · have q1 := q H1 s1
              rw [e3, e5, Bool.false_and] at q1
              exact q1
    | _ => cases e
end
end Su
/-! ### PH: the names that a term calls; how a thing of any kind is looked at as a program -/
namespace Su
open PySem PySem.Spec PyProof.Rows L2
def itemsG : G → List G
  | .tup gs => gs
  | _ => []
def subsR (x : Str) : List G → List G
  | [y] => if x = "then" ∨ x = "fork" then itemsG y else []
  | [_, _, t] => if x = "round" then [t] else []
  | _ => []
def subsG : G → List G
  | .tup (.str x :: r) => subsR x r
  | _ => []
def strOf : List G → Option Str
  | [.str s] => some s
  | _ => none
def callOf : G → Option Str
  | .tup (.str x :: r) => if x = "call" then strOf r else none
  | _ => none
def callsG (ns : List Str) : Nat → G → Bool
  | 0, _ => true
  | d + 1, g => match callOf g with
    | some s => decide (s ∈ ns)
    | none => ((subsG g).map (callsG ns d)).all id
/-- the kinds of terms -/
inductive TK (d : Nat) : G → Prop
  | rest : TK d (.tup [.str "rest"])
  | round {l m t : G} (h : timesG l m = true) (k : termG d t = true) : TK d (.tup [.str "round", l, m, t])
  | ask {y : G} (h : roomsG 1 6 y = true) : TK d (.tup [.str "ask", y])
  | thn {gs : List G} (h1 : 1 ≤ gs.length) (h2 : gs.length ≤ 8) (k : ∀ g ∈ gs, termG d g = true) : TK d (.tup [.str "then", .tup gs])
  | frk {gs : List G} (h1 : 2 ≤ gs.length) (h2 : gs.length ≤ 6) (k : ∀ g ∈ gs, termG d g = true) : TK d (.tup [.str "fork", .tup gs])
  | call {s : Str} (h : letG 6 (.str s) = true) : TK d (.tup [.str "call", .str s])
theorem letG_str {m : Int} {g : G} (h : letG m g = true) : ∃ s, g = .str s := by
  cases g with
  | str s => exact ⟨s, rfl⟩
  | _ => cases h
theorem termsG_tup {f : G → Bool} {lo hi : Int} {g : G} (h : termsG f lo hi g = true) : ∃ gs, g = .tup gs ∧ lo ≤ (gs.length : Int) ∧ (gs.length : Int) ≤ hi ∧ ∀ x ∈ gs, f x = true := by
  cases g with
  | tup gs =>
    have z : ((decide (lo ≤ (gs.length : Int)) && decide ((gs.length : Int) ≤ hi)) && (gs.map f).all id) = true := h
    rw [Bool.and_eq_true, Bool.and_eq_true, decide_eq_true_eq, decide_eq_true_eq] at z
    exact ⟨gs, rfl, z.1.1, z.1.2, fun x hx => (List.all_eq_true.mp z.2) _ (List.mem_map.mpr ⟨x, hx, rfl⟩)⟩
  | _ => cases h
theorem termG_kind {d : Nat} {g : G} (h : termG (d + 1) g = true) : TK d g := by
  cases g with
  | tup l =>
    cases l with
    | nil => cases h
    | cons g0 r =>
      cases g0 with
      | str x =>
        have z : (if x = "rest" then r.isEmpty else if x = "round" then roundG (termG d) r else oneG (termG d) x r) = true := h
        by_cases e0 : x = "rest"
        · rw [if_pos e0] at z
          subst e0
          cases r with
          | nil => exact .rest
          | cons _ _ => cases z
        rw [if_neg e0] at z
        by_cases e1 : x = "round"
        · rw [if_pos e1] at z
          subst e1
          unfold roundG at z
          split at z
          · rw [Bool.and_eq_true] at z
            exact .round z.1 z.2
          · cases z
        rw [if_neg e1] at z
        unfold oneG at z
        split at z
        · unfold lastG at z
          by_cases e2 : x = "ask"
          · rw [if_pos e2] at z
            subst e2
            exact .ask z
          rw [if_neg e2] at z
          by_cases e3 : x = "then"
          · rw [if_pos e3] at z
            subst e3
            obtain ⟨gs, rfl, h1, h2, h3⟩ := termsG_tup z
            exact .thn (by omega) (by omega) h3
          rw [if_neg e3] at z
          by_cases e4 : x = "fork"
          · rw [if_pos e4] at z
            subst e4
            obtain ⟨gs, rfl, h1, h2, h3⟩ := termsG_tup z
            exact .frk (by omega) (by omega) h3
          rw [if_neg e4, Bool.and_eq_true, decide_eq_true_eq] at z
          obtain ⟨e5, z⟩ := z
          subst e5
          obtain ⟨s, rfl⟩ := letG_str z
          exact .call z
        · cases z
      | _ => cases h
  | _ => cases h
theorem subs_rest : subsG (.tup [.str "rest"]) = [] := rfl
theorem subs_round (l m t : G) : subsG (.tup [.str "round", l, m, t]) = [t] := (if_pos rfl : (if ("round" : Str) = "round" then [t] else []) = [t])
theorem subs_then (gs : List G) : subsG (.tup [.str "then", .tup gs]) = gs := (if_pos (.inl rfl) : (if ("then" : Str) = "then" ∨ ("then" : Str) = "fork" then itemsG (.tup gs) else []) = itemsG (.tup gs))
theorem subs_fork (gs : List G) : subsG (.tup [.str "fork", .tup gs]) = gs := (if_pos (.inr rfl) : (if ("fork" : Str) = "then" ∨ ("fork" : Str) = "fork" then itemsG (.tup gs) else []) = itemsG (.tup gs))
theorem subs_ask (y : G) : subsG (.tup [.str "ask", y]) = [] := (if_neg (by decide +kernel) : (if ("ask" : Str) = "then" ∨ ("ask" : Str) = "fork" then itemsG y else []) = [])
theorem subs_call (y : G) : subsG (.tup [.str "call", y]) = [] := (if_neg (by decide +kernel) : (if ("call" : Str) = "then" ∨ ("call" : Str) = "fork" then itemsG y else []) = [])
theorem call_call (x : Str) : callOf (.tup [.str "call", .str x]) = some x := (if_pos rfl : (if ("call" : Str) = "call" then strOf [.str x] else none) = strOf [.str x])
theorem call_no {x : Str} {r : List G} (h : x ≠ "call") : callOf (.tup (.str x :: r)) = none := if_neg h
theorem termG_subs {d : Nat} {g : G} (h : termG (d + 1) g = true) : (subsG g).length ≤ 8 ∧ ∀ x ∈ subsG g, termG d x = true := by
  cases termG_kind h with
  | round _ k =>
    rw [subs_round]
    refine ⟨by show 1 ≤ 8; decide, fun x hx => ?_⟩
    rw [List.mem_singleton.mp hx]
    exact k
  | thn h1 h2 k =>
    rw [subs_then]
    exact ⟨h2, k⟩
  | frk h1 h2 k =>
    rw [subs_fork]
    exact ⟨by omega, k⟩
  | rest => exact ⟨Nat.zero_le _, fun x hx => (List.not_mem_nil hx).elim⟩
  | ask h =>
    rw [subs_ask]
    exact ⟨Nat.zero_le _, fun x hx => (List.not_mem_nil hx).elim⟩
  | call h =>
    rw [subs_call]
    exact ⟨Nat.zero_le _, fun x hx => (List.not_mem_nil hx).elim⟩
/-- a term in the heap, by what terms_within asks of it -/
theorem within_cases {p : Addr} {H : Hp} {v : V} {g : G} {d : Nat} (hv : Tg p H v g) (ht : termG (d + 1) g = true) :
    (∃ (a : Addr) (x : Str) (vr : List V), v = .ref a ∧ T2 H a (.str x :: vr) ∧ x ≠ "then" ∧ x ≠ "fork" ∧ x ≠ "round" ∧ subsG g = []) ∨
    (∃ (a : Addr) (x : Str) (vb : V) (gs : List G), v = .ref a ∧ T2 H a [.str x, vb] ∧ (x = "then" ∨ x = "fork") ∧ Tg p H vb (.tup gs) ∧ subsG g = gs) ∨
    ∃ (a : Addr) (v1 v2 v3 : V) (t : G), v = .ref a ∧ T2 H a [.str "round", v1, v2, v3] ∧ Tg p H v3 t ∧ subsG g = [t] := by
  cases termG_kind ht with
  | rest => cases hv with
    | @tup a vs _ ha t => cases t with
      | cons h0 t0 => cases h0; exact .inl ⟨a, _, _, rfl, ha, by decide +kernel, by decide +kernel, by decide +kernel, rfl⟩
  | ask h => cases hv with
    | @tup a vs _ ha t => cases t with
      | cons h0 t0 => cases h0; exact .inl ⟨a, _, _, rfl, ha, by decide +kernel, by decide +kernel, by decide +kernel, subs_ask _⟩
  | call h => cases hv with
    | @tup a vs _ ha t => cases t with
      | cons h0 t0 => cases h0; exact .inl ⟨a, _, _, rfl, ha, by decide +kernel, by decide +kernel, by decide +kernel, subs_call _⟩
  | thn h1 h2 k => cases hv with
    | @tup a vs _ ha t => cases t with
      | cons h0 t0 => cases t0 with
        | cons hb t1 => cases t1; cases h0; exact .inr (.inl ⟨a, _, _, _, rfl, ha, .inl rfl, hb, subs_then _⟩)
  | frk h1 h2 k => cases hv with
    | @tup a vs _ ha t => cases t with
      | cons h0 t0 => cases t0 with
        | cons hb t1 => cases t1; cases h0; exact .inr (.inl ⟨a, _, _, _, rfl, ha, .inr rfl, hb, subs_fork _⟩)
  | round h k => cases hv with
    | @tup a vs _ ha t => cases t with
      | cons h0 t0 => cases t0 with
        | cons h1 t1 => cases t1 with
          | cons h2 t2 => cases t2 with
            | cons h3 t3 => cases t3; cases h0; exact .inr (.inr ⟨a, _, _, _, _, rfl, ha, h3, subs_round _ _ _⟩)
theorem calls_cases {p : Addr} {H : Hp} {v : V} {g : G} {d : Nat} (hv : Tg p H v g) (ht : termG (d + 1) g = true) :
    (∃ (a : Addr) (x : Str), v = .ref a ∧ T2 H a [.str "call", .str x] ∧ callOf g = some x) ∨
    ∃ (a : Addr) (x : Str) (vr : List V), v = .ref a ∧ T2 H a (.str x :: vr) ∧ x ≠ "call" ∧ callOf g = none := by
  cases termG_kind ht with
  | call h => cases hv with
    | @tup a vs _ ha t => cases t with
      | cons h0 t0 => cases t0 with
        | cons h1 t1 => cases t1; cases h0; cases h1; exact .inl ⟨a, _, rfl, ha, call_call _⟩
  | rest => cases hv with
    | @tup a vs _ ha t => cases t with
      | cons h0 t0 => cases h0; exact .inr ⟨a, _, _, rfl, ha, by decide +kernel, call_no (by decide +kernel)⟩
  | ask h => cases hv with
    | @tup a vs _ ha t => cases t with
      | cons h0 t0 => cases h0; exact .inr ⟨a, _, _, rfl, ha, by decide +kernel, call_no (by decide +kernel)⟩
  | thn h1 h2 k => cases hv with
    | @tup a vs _ ha t => cases t with
      | cons h0 t0 => cases h0; exact .inr ⟨a, _, _, rfl, ha, by decide +kernel, call_no (by decide +kernel)⟩
  | frk h1 h2 k => cases hv with
    | @tup a vs _ ha t => cases t with
      | cons h0 t0 => cases h0; exact .inr ⟨a, _, _, rfl, ha, by decide +kernel, call_no (by decide +kernel)⟩
  | round h k => cases hv with
    | @tup a vs _ ha t => cases t with
      | cons h0 t0 => cases h0; exact .inr ⟨a, _, _, rfl, ha, by decide +kernel, call_no (by decide +kernel)⟩
def spWithinG : Sp := fun vs H Q _ => ∃ (p : Addr) (v : V) (g : G) (d : Nat), vs = [v] ∧ Tg p H v g ∧ termG (d + 1) g = true ∧ ∀ (u : Addr) (ws : List V) (H' : Hp), Same H H' → T2 H' u ws → TgL p H' ws (subsG g) → Q (.ref u) H'
def spCalls (d : Nat) : Sp := fun vs H Q _ => ∃ (p : Addr) (v : V) (g : G) (n : Addr) (ns : List Str), vs = [v, .ref n] ∧ Tg p H v g ∧ termG d g = true ∧ H n = some (.lst (ns.map V.str)) ∧ ∀ H', Same H H' → Q (.bl (callsG ns d g)) H'
def nmG : G → Option Str
  | .tup [.str s, _] => if letG 6 (.str s) = true then some s else none
  | _ => none
def spBehind : Sp := fun vs H Q _ => ∃ (p : Addr) (a : Addr) (ws : List V) (gs : List G) (i : Nat), vs = [.ref a, .int i] ∧ H a = some (.lst ws) ∧ TgL p H ws gs ∧ okSs gs = true ∧ gs.length ≤ 1000 ∧ i < gs.length ∧
  ∀ (u : Addr) (H' : Hp), Same H H' → H u = none → H' u = some (.lst (((gs.drop (i + 1)).filterMap nmG).map V.str)) → Q (.ref u) H'
theorem inV_str (s : Str) : ∀ ns : List Str, inV (.str s) (ns.map V.str) = decide (s ∈ ns)
  | [] => rfl
  | n :: ns => by
    show (eqV (.str n) (.str s) || inV (.str s) (ns.map V.str)) = _
    rw [inV_str s ns]
    show (n == s || decide (s ∈ ns)) = decide (s ∈ n :: ns)
    rw [Bool.eq_iff_iff, Bool.or_eq_true, decide_eq_true_eq, decide_eq_true_eq, beq_iff_eq, List.mem_cons]
    constructor
    · rintro (rfl | h)
      · exact .inl rfl
      · exact .inr h
    · rintro (rfl | h)
      · exact .inl rfl
      · exact .inr h
theorem flat_strs (ns : List Str) : (ns.map V.str).all flatV = true := by
  rw [List.all_eq_true]
  intro x hx
  obtain ⟨n, _, rfl⟩ := List.mem_map.mp hx
  rfl
theorem sc_terms_within : FnScope ["term"] ["term"] (defScope s_terms_within) := ⟨rfl, rfl, rfl, by decide +kernel, rfl, by decide +kernel, by decide +kernel⟩
theorem sc_calls_only : FnScope ["term", "names", "one"] ["term", "names"] (defScope s_calls_only) := ⟨rfl, rfl, rfl, by decide +kernel, rfl, by decide +kernel, by decide +kernel⟩
theorem sc_names_behind : FnScope ["things", "number", "thing"] ["things", "number"] (defScope s_names_behind) := ⟨rfl, rfl, rfl, by decide +kernel, rfl, by decide +kernel, by decide +kernel⟩
section
variable {P : Program} {w : World} {K : PySem.W.Frag} {mg : Str → Option Value} {base : Heap}
theorem ok_withinG (T : At K mg "terms_within" s_terms_within ["term"]) : Cal P w K mg base 1 "terms_within" ["term"] spWithinG := by
  refine cal_of T sc_terms_within (fun vs H Q E h => ?_) (fun f cdv A outer s H vs Q E hr h => ?_)
  · obtain ⟨p, v, g, d, rfl, _⟩ := h
    rfl
  · obtain ⟨p, v, g, d, rfl, hv, ht, q⟩ := h
    refine ⟨_, (pss_cons (ps_if (pt_cmpR op_in_seq (pe_ix ix_tup (pv 0) pe_int (fun _ _ => rfl)) (pe_tupF (pa_cons pe_str (pa_cons pe_str pa_nil))) (by rfl)) (pss_one (ps_ret (pe_ix ix_tup (pv 0) pe_int (fun _ _ => rfl)))) pss_nil)
      (pss_cons (ps_if (pt_cmpR op_eq (pe_ix ix_tup (pv 0) pe_int (fun _ _ => rfl)) pe_str (nomark _)) (pss_one (ps_ret (pe_tupF (pa_cons (pe_ix ix_tup (pv 0) pe_int (fun _ _ => rfl)) pa_nil)))) pss_nil)
      (pss_one (ps_ret (pe_tupF pa_nil))))), ?_⟩
    rcases within_cases hv ht with ⟨a, x, vr, rfl, ha, n1, n2, n3, es⟩ | ⟨a, x, vb, gs, rfl, ha, hx, hb, es⟩ | ⟨a, v1, v2, v3, t, rfl, ha, h3, es⟩
    · refine ⟨_, rfl, _, _, _, _, rfl, rfl, ha.sq, atI_nat (j := 0) rfl, (by show 2 ≤ sizeLine; decide), fun t1 H1 s1 m1 p1 => ?_⟩
      refine ⟨t1, _, rfl, .inr p1.sq, rfl, rfl, _, rfl, iteB (fun z => ?_) (fun _ => ?_)⟩
      · have z2 : inV (.str x) ([("then" : Str), "fork"].map V.str) = true := z
        rw [inV_str, decide_eq_true_eq] at z2
        rcases List.mem_cons.mp z2 with y | y
        · exact (n1 y).elim
        · exact (n2 (List.mem_singleton.mp y)).elim
      refine ⟨_, rfl, _, _, _, _, rfl, rfl, (ha.same s1).sq, atI_nat (j := 0) rfl, rfl, _, rfl, iteB (fun z => ?_) (fun _ => ?_)⟩
      · have y := of_decide_eq_true z
        injection y with y
        exact (n3 y).elim
      exact ⟨Nat.zero_le _, fun u H2 s2 n2 p2 => q u _ H2 (s1.trans s2) (.inl p2) (by rw [es]; exact .nil)⟩
    · refine ⟨_, rfl, _, _, _, _, rfl, rfl, ha.sq, atI_nat (j := 0) rfl, (by show 2 ≤ sizeLine; decide), fun t1 H1 s1 m1 p1 => ?_⟩
      refine ⟨t1, _, rfl, .inr p1.sq, rfl, rfl, _, rfl, iteB (fun _ => ?_) (fun z => ?_)⟩
      · have hb1 := hb.keep (Keeps.same s1)
        cases hb1 with
        | @tup b ws _ eb tb => exact ⟨_, rfl, _, _, _, _, rfl, rfl, (ha.same s1).sq, atI_nat (j := 1) rfl, q b ws H1 s1 eb (by rw [es]; exact tb)⟩
      · have z2 : inV (.str x) ([("then" : Str), "fork"].map V.str) = false := z
        rw [inV_str, decide_eq_false_iff_not] at z2
        exact (z2 (by rcases hx with y | y <;> simp [y])).elim
    · refine ⟨_, rfl, _, _, _, _, rfl, rfl, ha.sq, atI_nat (j := 0) rfl, (by show 2 ≤ sizeLine; decide), fun t1 H1 s1 m1 p1 => ?_⟩
      refine ⟨t1, _, rfl, .inr p1.sq, rfl, rfl, _, rfl, iteB (fun z => absurd z (by decide +kernel)) (fun _ => ?_)⟩
      refine ⟨_, rfl, _, _, _, _, rfl, rfl, (ha.same s1).sq, atI_nat (j := 0) rfl, rfl, _, rfl, iteB (fun _ => ?_) (fun z => absurd z (by decide +kernel))⟩
      refine ⟨_, rfl, _, _, _, _, rfl, rfl, (ha.same s1).sq, atI_nat (j := 3) rfl, (by show 1 ≤ sizeLine; decide), fun u H2 s2 n2 p2 => ?_⟩
      exact q u _ H2 (s1.trans s2) (.inl p2) (by rw [es]; exact .cons (h3.keep (Keeps.same (s1.trans s2))) .nil)
theorem ok_calls (T : At K mg "calls_only" s_calls_only ["term", "names"]) (B : Bt mg) (c_terms_within : Cal P w K mg base 1 "terms_within" ["term"] spWithinG) : ∀ d : Nat, Cal P w K mg base (d + 2) "calls_only" ["term", "names"] (spCalls d)
  | 0 => by
    refine cal_of T sc_calls_only (fun vs H Q E h => ?_) (fun f cdv A outer s H vs Q E hr h => ?_)
    · obtain ⟨p, v, g, n, ns, rfl, _⟩ := h
      rfl
    · obtain ⟨p, v, g, n, ns, rfl, hv, ht, q⟩ := h
      cases ht
  | d + 1 => by
    have c_calls_only := ok_calls T B c_terms_within d
    refine cal_of T sc_calls_only (fun vs H Q E h => ?_) (fun f cdv A outer s H vs Q E hr h => ?_)
    · obtain ⟨p, v, g, n, ns, rfl, _⟩ := h
      rfl
    · obtain ⟨p, v, g, n, ns, rfl, hv, ht, hn, q⟩ := h
      refine ⟨_, (pss_cons (ps_if (pt_cmpR op_eq (pe_ix ix_tup (pv 0) pe_int (fun _ _ => rfl)) pe_str (nomark _)) (pss_one (ps_ret (pe_cmpR op_in_seq (pe_ix ix_tup (pv 0) pe_int (fun _ _ => rfl)) (pv 1) (by rfl)))) pss_nil)
      (pss_one (ps_ret (pe_callB (cr_all rfl) (by rfl) B.all (by decide +kernel) (pa_cons (pe_lc (own := [("one", 2)]) (g := (gName 2)) (tt := tYes) (te := (tCall (spCalls d) [] E0 (tCons (tVar 2) (tCons (tVar 1) tNil)))) (by rfl) sc_calls_only.nd (pi_tup (pe_own c_terms_within hr (by omega) (by rfl) (pa_cons (pv 0) pa_nil))) (blkOk_by (own := [("one", 2)]) (N := ["term", "names", "one"]) (sc := defScope s_calls_only) (by decide +kernel)) (fun _ _ _ _ _ => (pg_name (i := 2) sc_calls_only.nd rfl (Or.inl rfl))) (fun _ _ _ _ _ => pts_nil) (fun _ _ _ _ _ => (pe_own c_calls_only hr (by omega) (by rfl) (pa_cons (pv 2) (pa_cons (pv 1) pa_nil))))) pa_nil))))), ?_⟩
      obtain ⟨hsl, hst⟩ := termG_subs ht
      rcases calls_cases hv ht with ⟨a, x, rfl, ha, ec⟩ | ⟨a, x, vr, rfl, ha, n1, ec⟩
      · have e2 : callsG ns (d + 1) g = decide (x ∈ ns) := by
          show (match callOf g with | some s => decide (s ∈ ns) | none => ((subsG g).map (callsG ns d)).all id) = _
          rw [ec]
        refine ⟨_, rfl, _, _, _, _, rfl, rfl, ha.sq, atI_nat (j := 0) rfl, rfl, _, rfl, iteB (fun _ => ?_) (fun z => absurd z (by decide +kernel))⟩
        refine ⟨_, rfl, _, _, _, _, rfl, rfl, ha.sq, atI_nat (j := 1) rfl, _, rfl, n, _, rfl, .inl (SqL.of hn), rfl, flat_strs ns, ?_⟩
        have q0 := q H (Same.refl H)
        rw [e2, ← inV_str] at q0
        exact q0
      · have e2 : callsG ns (d + 1) g = ((subsG g).map (callsG ns d)).all id := by
          show (match callOf g with | some s => decide (s ∈ ns) | none => ((subsG g).map (callsG ns d)).all id) = _
          rw [ec]
        rw [e2] at q
        refine ⟨_, rfl, _, _, _, _, rfl, rfl, ha.sq, atI_nat (j := 0) rfl, rfl, _, rfl, iteB (fun z => ?_) (fun _ => ?_)⟩
        · have y := of_decide_eq_true z
          injection y with y
          exact (n1 y).elim
        refine ⟨_, rfl, p, _, g, d, rfl, hv, ht, fun u ws H1 s1 pu tl => ?_⟩
        have hwl : ws.length = (subsG g).length := tl.len
        refine ⟨u, rfl, ⟨_, pu.sq⟩, fun D nD => ?_⟩
        refine lc_tup (K := K) (a := u) (xs := ws) (fun i H2 => Same H1 H2 ∧ H2 D = some (.lst ((((subsG g).map (callsG ns d)).take i).map V.bl))) ?_ ?_ ?_ ?_
        · exact ⟨same_upd nD, upd_same⟩
        · rintro i H2 _ ⟨s2, _⟩
          exact (pu.same s2).sq
        · rintro i x H2 hx ⟨s2, hD⟩
          obtain ⟨t0, et, ht0⟩ := tl.get hx
          refine ⟨rfl, tyes ?_⟩
          refine ⟨_, rfl, _, rfl, p, x, t0, n, ns, rfl, ht0.keep (Keeps.same s2), hst t0 (List.mem_of_getElem? et), s2 _ _ (s1 _ _ hn), fun H3 s3 => ?_⟩
          refine ⟨_, s3 _ _ hD, ?_, ?_, ?_⟩
          · rw [List.length_map, List.length_take, List.length_map]
            exact small1000 (by omega)
          · intro c o ec
            rw [upd_ne (ne_of_none ec nD)]
            exact s3 _ _ (s2 _ _ ec)
          · rw [upd_same, take_one (x := callsG ns d t0) (by rw [List.getElem?_map, et]; rfl), List.map_append]
            rfl
        · rintro H2 ⟨s2, hD⟩
          rw [List.take_of_length_le (by rw [List.length_map]; omega)] at hD
          exact ⟨D, _, rfl, SqL.of hD, q H2 (s1.trans s2)⟩
end
end Su
/-! ### PI: names_behind, look_at_program -/
namespace Su
open PySem PySem.Spec PyProof.Rows L2
theorem nm_some {g : G} {s : Str} (h : nmG g = some s) : ∃ t, g = .tup [.str s, t] ∧ letG 6 (.str s) = true := by
  unfold nmG at h
  split at h
  · split at h
    · next e =>
      cases h
      exact ⟨_, rfl, e⟩
    · cases h
  · cases h
theorem nm_of {s : Str} {t : G} (h : letG 6 (.str s) = true) : nmG (.tup [.str s, t]) = some s := if_pos h
def tmOf : G → G
  | .tup [_, t] => t
  | _ => .non
def namesTo (gs : List G) (i : Nat) : List Str := (gs.take i).filterMap nmG
def namesFrom (gs : List G) (i : Nat) : List Str := (gs.drop (i + 1)).filterMap nmG
def freshG (ahead : List Str) (g : G) : Bool := match nmG g with
  | some s => !decide (s ∈ ahead)
  | none => false
def okOne (gs : List G) (i : Nat) (g : G) : Bool := (namedG g && freshG (namesTo gs i) g) && callsG (namesFrom gs i) 6 (tmOf g)
def okAt (gs : List G) (i : Nat) : Bool := match gs[i]? with
  | some g => okOne gs i g
  | none => true
/-- the first number from i on, among n of them, that is not so -/
def fb (f : Nat → Bool) : Nat → Nat → Option Nat
  | 0, _ => none
  | n + 1, i => if f i = true then fb f n (i + 1) else some i
theorem fb_some {f : Nat → Bool} {k : Nat} : ∀ (n i : Nat), (∀ j, i ≤ j → j < k → f j = true) → i ≤ k → k < i + n → f k = false → fb f n i = some k
  | 0, i, _, h1, h2, _ => absurd h2 (by omega)
  | n + 1, i, h, h1, h2, h3 => by
    unfold fb
    rcases Nat.lt_or_eq_of_le h1 with z | z
    · rw [if_pos (h i (Nat.le_refl _) z)]
      exact fb_some n (i + 1) (fun j a b => h j (by omega) b) (by omega) (by omega) h3
    · subst z
      rw [if_neg (by rw [h3]; exact Bool.false_ne_true)]
theorem fb_none {f : Nat → Bool} : ∀ (n i : Nat), (∀ j, i ≤ j → j < i + n → f j = true) → fb f n i = none
  | 0, i, _ => rfl
  | n + 1, i, h => by
    unfold fb
    rw [if_pos (h i (Nat.le_refl _) (by omega))]
    exact fb_none n (i + 1) fun j a b => h j (by omega) (by omega)
/-- none: a program; some r: it is refused, its number r -/
def lookP : G → Option (Option Nat)
  | .lst gs => if 1 ≤ gs.length ∧ gs.length ≤ 8 then (fb (okAt gs) gs.length 0).map some else some none
  | _ => some none
def numV : Option Nat → V
  | none => .non
  | some i => .int i
def spLookP (C : Addr) : Sp := fun vs H Q E => ∃ (p : Addr) (v : V) (g : G), vs = [v] ∧ Tg p H v g ∧ okS g = true ∧ (lookP g = none → ∀ H', Same H H' → Q .non H') ∧
  ∀ r, lookP g = some r → ∀ (H' : Hp) (d : Addr), Same H H' → H d = none → H' d = some (.xd [("number", numV r)]) → E (.ref C) (some d) H'
theorem fm_take {α β : Type} {f : α → Option β} {l : List α} {i : Nat} {x : α} (e : l[i]? = some x) : (l.take (i + 1)).filterMap f = (l.take i).filterMap f ++ (f x).toList := by
  rw [take_one e, List.filterMap_append]
  cases h : f x <;> simp [h]
theorem cut_dropI {xs : List V} {i : Nat} (h : i + 1 ≤ xs.length) : cutV xs (some ((i : Int) + 1)) none = xs.drop (i + 1) := by
  have z := cut_from xs (i + 1)
  rw [Int.natCast_add] at z
  exact z
theorem named_shape {g : G} (h : namedG g = true) : ∃ s t, g = .tup [.str s, t] ∧ letG 6 (.str s) = true ∧ termG 6 t = true := by
  unfold namedG at h
  split at h
  · rw [Bool.and_eq_true] at h
    obtain ⟨s, rfl⟩ := letG_str h.1
    exact ⟨s, _, rfl, h.1, h.2⟩
  · cases h
theorem TgL.drop {p : Addr} {H : Hp} : ∀ {vs : List V} {gs : List G} (n : Nat), TgL p H vs gs → TgL p H (vs.drop n) (gs.drop n)
  | _, _, 0, h => h
  | _, _, n + 1, .nil => .nil
  | _, _, n + 1, .cons _ t => TgL.drop n t
theorem sc_look_at_program : FnScope ["thing", "ahead", "number", "one"] ["thing"] (defScope s_look_at_program) := ⟨rfl, rfl, rfl, by decide +kernel, rfl, by decide +kernel, by decide +kernel⟩
section
variable {P : Program} {w : World} {K : PySem.W.Frag} {mg : Str → Option Value} {base : Heap}
theorem ok_behind (T : At K mg "names_behind" s_names_behind ["things", "number"]) (B : Bt mg) (c_is_name : Cal P w K mg base 2 "is_name" ["thing"] spName) : Cal P w K mg base 3 "names_behind" ["things", "number"] spBehind := by
  refine cal_of T sc_names_behind (fun vs H Q E h => ?_) (fun f cdv A outer s H vs Q E hr h => ?_)
  · obtain ⟨p, a, ws, gs, i, rfl, _⟩ := h
    rfl
  · obtain ⟨p, a, ws, gs, i, rfl, ha, tl, hs, hl, hi, q⟩ := h
    refine ⟨_, (pss_one (ps_ret (pe_lc (own := [("thing", 2)]) (g := (gName 2)) (tt := (tAnd (tB (tCB (rIsi K) (tCons (tVar 2) (tCons (tC (.ty "tuple")) tNil)))) (tAnd (tTest (tOp rEq (tCB (rLenK K) (tCons (tVar 2) tNil)) (tC (.int 2)))) (tB (tCall spName [] E0 (tCons (tOp (rIxT K) (tVar 2) (tC (.int 0))) tNil)))))) (te := (tOp (rIxT K) (tVar 2) (tC (.int 0)))) (by rfl) sc_names_behind.nd (pi_list (pe_slice sl_list (pv 0) (po_some (pe_op op_add (pv 1) pe_int)) po_none)) (blkOk_by (own := [("thing", 2)]) (N := ["things", "number", "thing"]) (sc := defScope s_names_behind) (by decide +kernel)) (fun _ _ _ _ _ => (pg_name (i := 2) sc_names_behind.nd rfl (Or.inl rfl))) (fun _ _ _ _ _ => pts_one (PW.pt (pw_and (pt_val (pe_callB call_isi (by rfl) B.isinstance (by decide +kernel) (pa_cons (pv 2) (pa_cons (pe_bltn (v := .ty "tuple") (u := .type "tuple") (by rfl) B.tuple (by decide +kernel) rfl) pa_nil)))) (pw_and (pt_cmpR op_eq (pe_callB call_len_seq (by rfl) B.len PySem.boot_len (pa_cons (pv 2) pa_nil)) pe_int (nomark _)) (pw_and1 (pt_val (pe_own c_is_name hr (by decide) (by rfl) (pa_cons (pe_ix ix_tup (pv 2) pe_int (fun _ _ => rfl)) pa_nil)))))))) (fun _ _ _ _ _ => (pe_ix ix_tup (pv 2) pe_int (fun _ _ => rfl)))))), ?_⟩
    have hwl : ws.length = gs.length := tl.len
    refine ⟨_, rfl, _, rfl, _, _, rfl, rfl, _, rfl, a, _, rfl, SqL.of ha, fun L nL => ?_⟩
    rw [cut_dropI (by omega)]
    have sL : Same H (upd H L (.lst (ws.drop (i + 1)))) := same_upd nL
    refine ⟨L, rfl, ⟨_, SqL.of upd_same⟩, fun D nD => ?_⟩
    obtain ⟨eDL, nD0⟩ := free_upd nD
    have td : TgL p H (ws.drop (i + 1)) (gs.drop (i + 1)) := tl.drop _
    refine lc_list (K := K) (a := L) (xs := ws.drop (i + 1)) (fun k H2 => Same H H2 ∧ H2 L = some (.lst (ws.drop (i + 1))) ∧ H2 D = some (.lst ((((gs.drop (i + 1)).take k).filterMap nmG).map V.str))) ?_ ?_ ?_ ?_
    · exact ⟨sL.trans (same_upd nD), by rw [upd_ne eDL.symm, upd_same], upd_same⟩
    · rintro k H2 _ ⟨_, h, _⟩
      exact SqL.of h
    · rintro k x H2 hx ⟨s2, hL, hD⟩
      obtain ⟨g1, e1, tg0⟩ := td.get hx
      have tg := tg0.keep (Keeps.same s2)
      have hk : okS g1 = true := okSs_mem hs (List.mem_of_mem_drop (List.mem_of_getElem? e1))
      have no : ∀ H3, Same H2 H3 → nmG g1 = none → (Same H H3 ∧ H3 L = some (.lst (ws.drop (i + 1))) ∧ H3 D = some (.lst ((((gs.drop (i + 1)).take (k + 1)).filterMap nmG).map V.str))) := by
        intro H3 s3 en
        refine ⟨s2.trans s3, s3 _ _ hL, ?_⟩
        rw [fm_take e1, en]
        show H3 D = some (.lst ((_ ++ []).map V.str))
        rw [List.append_nil]
        exact s3 _ _ hD
      refine ⟨rfl, _, rfl, x, .ty "tuple", _, _, _, rfl, .ty "tuple", tg.ty, kit_tuple g1, _, rfl, iteB (fun e => ?_) (fun e => ?_)⟩
      · cases tg with
        | @tup b vb gb hb tb =>
          refine ⟨_, rfl, b, _, rfl, .inr hb.sq, rfl, _, rfl, ?_⟩
          cases tb with
          | nil => exact iteF (iteF (no H2 (Same.refl _) rfl))
          | @cons v1 vr1 x1 r1 h1 t1 => cases t1 with
            | nil => exact iteF (iteF (no H2 (Same.refl _) (by cases x1 <;> rfl)))
            | @cons v2 vr2 x2 r2 h2 t2 => cases t2 with
              | @cons v3 vr3 x3 r3 h3 t3 =>
                refine iteB (fun y => ?_) (fun _ => iteF (no H2 (Same.refl _) (by cases x1 <;> rfl)))
                have y2 := of_decide_eq_true y
                injection y2 with y2
                rw [List.length_cons, List.length_cons, List.length_cons] at y2
                omega
              | nil =>
                refine iteT ?_
                refine ⟨_, rfl, _, _, _, _, rfl, rfl, hb.sq, atI_nat (j := 0) rfl, p, v1, x1, rfl, h1, okSs_mem (show okSs _ = true from hk) (by simp), fun H3 s3 => ⟨_, rfl, iteB (fun e5 => ?_) (fun e5 => ?_)⟩⟩
                · obtain ⟨z, rfl⟩ := letG_str e5
                  cases h1
                  have hL3 := s3 _ _ hL
                  have hD3 := s3 _ _ hD
                  refine ⟨_, rfl, _, _, _, _, rfl, rfl, (hb.same s3).sq, atI_nat (j := 0) rfl, _, hD3, ?_, fun c o ec => ?_, by rw [upd_ne eDL.symm]; exact hL3, ?_⟩
                  · rw [List.length_map]
                    have h8 := List.length_filterMap_le nmG ((gs.drop (i + 1)).take k)
                    rw [List.length_take, List.length_drop] at h8
                    exact small1000 (by omega)
                  · rw [upd_ne (ne_of_none ec nD0)]
                    exact s3 _ _ (s2 _ _ ec)
                  · rw [upd_same, fm_take e1, nm_of e5, List.map_append]
                    rfl
                · refine no H3 s3 ?_
                  cases x1 with
                  | str z => exact if_neg (by rw [e5]; exact Bool.false_ne_true)
                  | _ => rfl
        | _ => cases e
      · refine iteF (no H2 (Same.refl _) ?_)
        cases g1 <;> first | rfl | cases e
    · rintro H2 ⟨s2, hL, hD⟩
      rw [List.take_of_length_le (by rw [List.length_drop, List.length_drop]; omega)] at hD
      exact q D H2 s2 nD0 hD
theorem ok_lookP {C fI : Addr} {newId initId : String} {bmB : List Value} (OW : XC.Own P K mg "NoProgram" "number" C fI "ValueError" newId initId bmB) (T : At K mg "look_at_program" s_look_at_program ["thing"]) (B : Bt mg) (D : GbP mg)
    (c_is_named_term : Cal P w K mg base 18 "is_named_term" ["thing"] spNamed) (c_calls_only : Cal P w K mg base 8 "calls_only" ["term", "names"] (spCalls 6)) (c_names_behind : Cal P w K mg base 3 "names_behind" ["things", "number"] spBehind) :
    CalX P w K mg base 19 "look_at_program" ["thing"] (spLookP C) := by
  obtain ⟨tr, mTup⟩ := D.tup
  refine cal_ofX T sc_look_at_program (fun vs H Q E h => ?_) (fun f cdv A outer s H vs Q E hr h => ?_)
  · obtain ⟨p, v, g, rfl, _⟩ := h
    rfl
  · obtain ⟨p, v, g, rfl, hv, hs, qy, qn⟩ := h
    refine ⟨_, (pss_cons (ps_if (PW.pt (pw_or (pt_not (pt_val (pe_callB call_isi (by rfl) B.isinstance (by decide +kernel) (pa_cons (pv 0) (pa_cons (pe_bltn (v := .ty "list") (u := .type "list") (by rfl) B.list (by decide +kernel) rfl) pa_nil))))) (pw_or1 (pt_not (pt_chain op_le op_le pe_int (pe_callB call_len_seq (by rfl) B.len PySem.boot_len (pa_cons (pv 0) pa_nil)) (pe_glob (v := .int 8) rfl mTup ⟨_, rfl⟩)))))) (pss_one (ps_raiseX rfl OW hr (takes_of rfl rfl rfl rfl) (pa_cons pe_non pa_nil))) pss_nil)
      (pss_cons (ps_set (i := 1) sc_look_at_program.nd rfl (Or.inl rfl) (pe_lst pa_nil))
      (pss_one (ps_for (passes_of rfl) rfl (pi_enum (by rfl) B.enumerate (pa_cons (pv 0) pa_nil)) (pg_tup (by rfl) (pgs_cons (pg_name (i := 2) sc_look_at_program.nd rfl (Or.inl rfl)) (pgs_cons (pg_name (i := 3) sc_look_at_program.nd rfl (Or.inl rfl)) pgs_nil))) (pss_cons (ps_if (PW.pt (pw_or (pt_not (pt_val (pe_own c_is_named_term hr (by decide) (by rfl) (pa_cons (pv 3) pa_nil)))) (pw_or (pt_cmpR op_in_seq (pe_ix ix_tup (pv 3) pe_int (fun _ _ => rfl)) (pv 1) (by rfl)) (pw_or1 (pt_not (pt_val (pe_own c_calls_only hr (by decide) (by rfl) (pa_cons (pe_ix ix_tup (pv 3) pe_int (fun _ _ => rfl)) (pa_cons (pe_own c_names_behind hr (by decide) (by rfl) (pa_cons (pv 0) (pa_cons (pv 2) pa_nil))) pa_nil))))))))) (pss_one (ps_raiseX rfl OW hr (takes_of rfl rfl rfl rfl) (pa_cons (pv 2) pa_nil))) pss_nil)
      (pss_one (ps_expr (pe_bm PySem.F.plainAttrs_list PySem.F.slot_list_append PySem.F.type_list_append mt_append (pv 1) (pa_cons (pe_ix ix_tup (pv 3) pe_int (fun _ _ => rfl)) pa_nil))))))))), ?_⟩
    refine ⟨_, rfl, v, .ty "list", _, _, _, rfl, .ty "list", hv.ty, kit_list g, _, rfl, iteB (fun e => ?_) (fun e => ?_)⟩
    · refine iteT ?_
      have z : lookP g = some none := by
        cases g <;> first | rfl | cases e
      exact ⟨_, rfl, fun d hd => qn none z _ d (same_upd hd) hd upd_same⟩
    cases hv with
    | @lst a vs gs na ha t =>
      have hlen : vs.length = gs.length := t.len
      have hss : okSs gs = true := hs
      have lk : lookP (.lst gs) = if 1 ≤ gs.length ∧ gs.length ≤ 8 then (fb (okAt gs) gs.length 0).map some else some none := rfl
      refine ⟨_, rfl, a, _, rfl, .inl (SqL.of ha), _, _, rfl, rfl, _, rfl, iteB (fun e1 => ?_) (fun e1 => ?_)⟩
      · refine ⟨_, _, rfl, rfl, _, rfl, ?_⟩
        have l1 := of_decide_eq_true e1
        refine iteB (fun e2 => ?_) (fun e2 => ?_)
        · have l2 : ¬ (vs.length : Int) ≤ 8 := by simpa using e2
          have z : lookP (.lst gs) = some none := by
            rw [lk, if_neg (by omega)]
          exact ⟨_, rfl, fun d hd => qn none z _ d (same_upd hd) hd upd_same⟩
        have l2 : (vs.length : Int) ≤ 8 := by simpa using e2
        rw [if_pos (by omega)] at lk
        refine ⟨Nat.zero_le _, fun L nL => ?_⟩
        have sL : Same H (upd H L (.lst [])) := same_upd nL
        refine ⟨_, rfl, a, _, rfl, SqL.of (sL _ _ ha), ?_⟩
        refine for_enumS (K := K) (a := a) (xs := vs) (fun i σ H2 => ∃ y1 y2 : Option V, σ = [some (.ref a), some (.ref L), y1, y2] ∧ Same H H2 ∧ H2 L = some (.lst ((namesTo gs i).map V.str)) ∧ ∀ j, j < i → okAt gs j = true) ?_ ?_ ?_ ?_
        · exact ⟨none, none, rfl, sL, upd_same, fun j hj => absurd hj (Nat.not_lt_zero _)⟩
        · rintro i σ H2 _ ⟨_, _, _, s2, _⟩
          exact SqL.of (s2 _ _ ha)
        · rintro i x σ H2 T hx ⟨y1, y2, rfl, s2, hL, good⟩ nT
          obtain ⟨g1, e4, tg0⟩ := t.get hx
          have hi : i < gs.length := (List.getElem?_eq_some_iff.mp e4).1
          have sT : Same H2 (upd H2 T (.tup [.int (i : Nat), x])) := same_upd nT
          have hok : okS g1 = true := okSs_mem hss (List.mem_of_getElem? e4)
          have eo : okAt gs i = okOne gs i g1 := by
            unfold okAt
            rw [e4]
          have bad : okAt gs i = false → lookP (.lst gs) = some (some i) := by
            intro b
            rw [lk, fb_some gs.length 0 (fun j _ hj => good j hj) (Nat.zero_le _) (by omega) b]
            rfl
          refine ⟨T, _, rfl, SqT.of upd_same, rfl, _, _, rfl, _, _, rfl, rfl, ?_⟩
          refine ⟨_, rfl, p, x, g1, rfl, tg0.keep (Keeps.same (s2.trans sT)), hok, fun H3 s3 => ⟨_, rfl, iteB (fun e5 => ?_) (fun e5 => ?_)⟩⟩
          · have b : namedG g1 = false := by simpa using e5
            have s03 := (s2.trans sT).trans s3
            have z := bad (by rw [eo]; unfold okOne; rw [b]; rfl)
            exact iteT ⟨_, rfl, _, rfl, fun d hd => qn (some i) z _ d (s03.trans (same_upd hd)) (s03.free hd) upd_same⟩
          have b1 : namedG g1 = true := by simpa using e5
          have s03 := (s2.trans sT).trans s3
          obtain ⟨z, t1, rfl, hz, ht1⟩ := named_shape b1
          have tg3 := tg0.keep (Keeps.same s03)
          cases tg3 with
          | @tup b vb _ hb tb => cases tb with
            | cons h1 tb1 => cases tb1 with
              | cons h2 tb2 =>
                cases tb2
                cases h1
                have enm : nmG (.tup [.str z, t1]) = some z := nm_of hz
                have hL3 : H3 L = some (.lst ((namesTo gs i).map V.str)) := s3 _ _ (sT _ _ hL)
                refine ⟨_, rfl, _, _, _, _, rfl, rfl, hb.sq, atI_nat (j := 0) rfl, _, rfl, L, _, rfl, .inl (SqL.of hL3), rfl, flat_strs _, _, rfl, ?_⟩
                have e7 : inV (.str z) ((namesTo gs i).map V.str) = decide (z ∈ namesTo gs i) := inV_str _ _
                refine iteB (fun e6 => ?_) (fun e6 => ?_)
                · have e8 : decide (z ∈ namesTo gs i) = true := by rw [← e7]; exact e6
                  have zz := bad (by rw [eo]; unfold okOne freshG; rw [enm, b1]; simp only; rw [e8]; rfl)
                  exact iteT ⟨_, rfl, _, rfl, fun d hd => qn (some i) zz _ d (s03.trans (same_upd hd)) (s03.free hd) upd_same⟩
                have e8 : decide (z ∈ namesTo gs i) = false := by rw [← e7]; exact e6
                refine ⟨_, rfl, _, _, _, _, rfl, rfl, hb.sq, atI_nat (j := 1) rfl, _, rfl, _, rfl, p, a, vs, gs, i, rfl, s03 _ _ ha, t.keep (Keeps.same s03), hss, by omega, hi, fun u H4 s4 nu hu => ?_⟩
                refine ⟨p, _, t1, u, _, rfl, h2.keep (Keeps.same s4), ht1, hu, fun H5 s5 => ⟨_, rfl, ?_⟩⟩
                have s05 := (s03.trans s4).trans s5
                have e9 : okOne gs i (.tup [.str z, t1]) = callsG (namesFrom gs i) 6 t1 := by
                  unfold okOne freshG
                  rw [enm, b1]
                  simp only
                  rw [e8]
                  rfl
                refine iteB (fun e6 => ?_) (fun e6 => ?_)
                · have b2 : callsG (namesFrom gs i) 6 t1 = false := by unfold namesFrom; simpa using e6
                  have zz := bad (by rw [eo, e9]; exact b2)
                  exact ⟨_, rfl, _, rfl, fun d hd => qn (some i) zz _ d (s05.trans (same_upd hd)) (s05.free hd) upd_same⟩
                · have b2 : callsG (namesFrom gs i) 6 t1 = true := by unfold namesFrom; simpa using e6
                  have hL5 : H5 L = some (.lst ((namesTo gs i).map V.str)) := s5 _ _ (s4 _ _ hL3)
                  refine ⟨_, rfl, .inl ⟨rfl, _, SqL.of hL5⟩, _, rfl, _, _, _, _, rfl, rfl, ((hb.same s4).same s5).sq, atI_nat (j := 0) rfl, L, _, _, rfl, rfl, hL5, ?_, ?_⟩
                  · rw [List.length_map]
                    have h8 := List.length_filterMap_le nmG (gs.take i)
                    rw [List.length_take] at h8
                    exact small1000 (by unfold namesTo; omega)
                  · refine ⟨_, _, rfl, fun c o ec => ?_, ?_, fun j hj => ?_⟩
                    · rw [upd_ne (ne_of_none ec nL)]
                      exact s05 _ _ ec
                    · rw [upd_same]
                      unfold namesTo
                      rw [fm_take e4, enm, List.map_append]
                      rfl
                    · rcases Nat.lt_succ_iff_lt_or_eq.mp hj with h | rfl
                      · exact good j h
                      · rw [eo, e9]
                        exact b2
        · rintro σ H2 ⟨y1, y2, rfl, s2, hL, good⟩
          rw [hlen] at good
          have zz : lookP (.lst gs) = none := by
            rw [lk, fb_none gs.length 0 fun j _ hj => good j (by omega)]
            rfl
          exact qy zz H2 s2
      · refine ⟨_, rfl, iteT ?_⟩
        have l1 := of_decide_eq_false e1
        have z : lookP (.lst gs) = some none := by
          rw [lk, if_neg (by omega)]
        exact ⟨_, rfl, fun d hd => qn none z _ d (same_upd hd) hd upd_same⟩
    | _ => cases e
end
end Su
/-! ### PE: reach and rooms of programs -/
namespace Su
open PySem PySem.Spec PyProof.Rows L2
def subs : Tm → List Tm
  | .thn ts => ts
  | .frk ts => ts
  | .rnd _ _ t => [t]
  | _ => []
def spWithin : Sp := fun vs H Q _ => ∃ (v : V) (t : Tm), vs = [v] ∧ TmAt H v t ∧ ∀ (u : Addr) (ws : List V) (H' : Hp), Same H H' → PTup H' u ws → TmL H' ws (subs t) → Q (.ref u) H'
def envOf (kvs : List (Key × V)) (n : Str) : Int := match valV kvs (Sum.inr n) with
  | some (.int i) => i
  | _ => 0
def HasC (kvs : List (Key × V)) (n : Str) : Prop := ∃ i, valV kvs (Sum.inr n) = some (.int i)
def spReach (d : Nat) : Sp := fun vs H Q _ => ∃ (v : V) (t : Tm) (e : Addr) (kvs : List (Key × V)), vs = [v, .ref e] ∧ TmAt H v t ∧ H e = some (.dK kvs) ∧ Lv (HasC kvs) (fun _ => True) d t ∧ ∀ H', Same H H' → Q (.int (reachF (envOf kvs) d t)) H'
theorem subs_lv {C : Str → Prop} {R : List Int → Prop} {d : Nat} {t : Tm} (h : Lv C R (d + 1) t) : (subs t).length ≤ 3 ∧ ∀ x ∈ subs t, Lv C R d x := by
  cases t with
  | thn ts => exact h
  | frk ts => exact h
  | rnd l m t =>
    refine ⟨by show 1 ≤ 3; decide, fun x hx => ?_⟩
    rw [List.mem_singleton.mp hx]
    exact h.2
  | _ => exact ⟨Nat.zero_le _, fun x hx => (List.not_mem_nil hx).elim⟩
theorem sc_reach_of : FnScope ["term", "reaches", "word", "within", "one"] ["term", "reaches"] (defScope s_reach_of) := ⟨rfl, rfl, rfl, by decide +kernel, rfl, by decide +kernel, by decide +kernel⟩
section
variable {P : Program} {w : World} {K : PySem.W.Frag} {mg : Str → Option Value} {base : Heap}
theorem ok_within (T : At K mg "terms_within" s_terms_within ["term"]) : Cal P w K mg base 1 "terms_within" ["term"] spWithin := by
  refine cal_of T sc_terms_within (fun vs H Q E h => ?_) (fun f cdv A outer s H vs Q E hr h => ?_)
  · obtain ⟨v, t, rfl, _⟩ := h
    rfl
  · obtain ⟨v, t, rfl, hv, q⟩ := h
    refine ⟨_, (pss_cons (ps_if (pt_cmpR op_in_seq (pe_ix ix_tup (pv 0) pe_int (fun _ _ => rfl)) (pe_tupF (pa_cons pe_str (pa_cons pe_str pa_nil))) (by rfl)) (pss_one (ps_ret (pe_ix ix_tup (pv 0) pe_int (fun _ _ => rfl)))) pss_nil)
      (pss_cons (ps_if (pt_cmpR op_eq (pe_ix ix_tup (pv 0) pe_int (fun _ _ => rfl)) pe_str (nomark _)) (pss_one (ps_ret (pe_tupF (pa_cons (pe_ix ix_tup (pv 0) pe_int (fun _ _ => rfl)) pa_nil)))) pss_nil)
      (pss_one (ps_ret (pe_tupF pa_nil))))), ?_⟩
    cases hv with
    | ask e r =>
      refine ⟨_, rfl, _, _, _, _, rfl, rfl, e.sq, atI_nat (j := 0) rfl, (by show 2 ≤ sizeLine; decide), fun t1 H1 s1 n1 p1 => ?_⟩
      refine ⟨t1, _, rfl, .inr p1.sq, rfl, rfl, _, rfl, iteB (fun z => absurd z (by decide +kernel)) (fun _ => ?_)⟩
      refine ⟨_, rfl, _, _, _, _, rfl, rfl, (e.same s1).sq, atI_nat (j := 0) rfl, rfl, _, rfl, iteB (fun z => absurd z (by decide +kernel)) (fun _ => ?_)⟩
      exact ⟨Nat.zero_le _, fun u H2 s2 n2 p2 => q u _ H2 (s1.trans s2) p2 .nil⟩
    | rest e =>
      refine ⟨_, rfl, _, _, _, _, rfl, rfl, e.sq, atI_nat (j := 0) rfl, (by show 2 ≤ sizeLine; decide), fun t1 H1 s1 n1 p1 => ?_⟩
      refine ⟨t1, _, rfl, .inr p1.sq, rfl, rfl, _, rfl, iteB (fun z => absurd z (by decide +kernel)) (fun _ => ?_)⟩
      refine ⟨_, rfl, _, _, _, _, rfl, rfl, (e.same s1).sq, atI_nat (j := 0) rfl, rfl, _, rfl, iteB (fun z => absurd z (by decide +kernel)) (fun _ => ?_)⟩
      exact ⟨Nat.zero_le _, fun u H2 s2 n2 p2 => q u _ H2 (s1.trans s2) p2 .nil⟩
    | call e =>
      refine ⟨_, rfl, _, _, _, _, rfl, rfl, e.sq, atI_nat (j := 0) rfl, (by show 2 ≤ sizeLine; decide), fun t1 H1 s1 n1 p1 => ?_⟩
      refine ⟨t1, _, rfl, .inr p1.sq, rfl, rfl, _, rfl, iteB (fun z => absurd z (by decide +kernel)) (fun _ => ?_)⟩
      refine ⟨_, rfl, _, _, _, _, rfl, rfl, (e.same s1).sq, atI_nat (j := 0) rfl, rfl, _, rfl, iteB (fun z => absurd z (by decide +kernel)) (fun _ => ?_)⟩
      exact ⟨Nat.zero_le _, fun u H2 s2 n2 p2 => q u _ H2 (s1.trans s2) p2 .nil⟩
    | thn e r t =>
      refine ⟨_, rfl, _, _, _, _, rfl, rfl, e.sq, atI_nat (j := 0) rfl, (by show 2 ≤ sizeLine; decide), fun t1 H1 s1 n1 p1 => ?_⟩
      refine ⟨t1, _, rfl, .inr p1.sq, rfl, rfl, _, rfl, iteB (fun _ => ?_) (fun z => absurd z (by decide +kernel))⟩
      exact ⟨_, rfl, _, _, _, _, rfl, rfl, (e.same s1).sq, atI_nat (j := 1) rfl, q _ _ H1 s1 (r.same s1) (t.keep (KT.same s1))⟩
    | frk e r t =>
      refine ⟨_, rfl, _, _, _, _, rfl, rfl, e.sq, atI_nat (j := 0) rfl, (by show 2 ≤ sizeLine; decide), fun t1 H1 s1 n1 p1 => ?_⟩
      refine ⟨t1, _, rfl, .inr p1.sq, rfl, rfl, _, rfl, iteB (fun _ => ?_) (fun z => absurd z (by decide +kernel))⟩
      exact ⟨_, rfl, _, _, _, _, rfl, rfl, (e.same s1).sq, atI_nat (j := 1) rfl, q _ _ H1 s1 (r.same s1) (t.keep (KT.same s1))⟩
    | rnd e r =>
      refine ⟨_, rfl, _, _, _, _, rfl, rfl, e.sq, atI_nat (j := 0) rfl, (by show 2 ≤ sizeLine; decide), fun t1 H1 s1 n1 p1 => ?_⟩
      refine ⟨t1, _, rfl, .inr p1.sq, rfl, rfl, _, rfl, iteB (fun z => absurd z (by decide +kernel)) (fun _ => ?_)⟩
      refine ⟨_, rfl, _, _, _, _, rfl, rfl, (e.same s1).sq, atI_nat (j := 0) rfl, rfl, _, rfl, iteB (fun _ => ?_) (fun z => absurd z (by decide +kernel))⟩
      refine ⟨_, rfl, _, _, _, _, rfl, rfl, (e.same s1).sq, atI_nat (j := 3) rfl, (by show 1 ≤ sizeLine; decide), fun u H2 s2 n2 p2 => ?_⟩
      exact q u _ H2 (s1.trans s2) p2 (.cons (r.keep (KT.same (s1.trans s2))) .nil)
theorem ok_reach_of (T : At K mg "reach_of" s_reach_of ["term", "reaches"]) (B : Bt mg) (c_terms_within : Cal P w K mg base 1 "terms_within" ["term"] spWithin) : ∀ d : Nat, Cal P w K mg base (d + 2) "reach_of" ["term", "reaches"] (spReach d)
  | 0 => by
    refine cal_of T sc_reach_of (fun vs H Q E h => ?_) (fun f cdv A outer s H vs Q E hr h => ?_)
    · obtain ⟨v, t, e, kvs, rfl, _⟩ := h
      rfl
    · obtain ⟨v, t, e, kvs, rfl, hv, he, hl, q⟩ := h
      exact hl.elim
  | d + 1 => by
    have c_reach_of := ok_reach_of T B c_terms_within d
    refine cal_of T sc_reach_of (fun vs H Q E h => ?_) (fun f cdv A outer s H vs Q E hr h => ?_)
    · obtain ⟨v, t, e, kvs, rfl, _⟩ := h
      rfl
    · obtain ⟨v, t, e, kvs, rfl, hv, he, hl, q⟩ := h
      refine ⟨_, (pss_cons (ps_set (i := 2) sc_reach_of.nd rfl (Or.inl rfl) (pe_ix ix_tup (pv 0) pe_int (fun _ _ => rfl)))
      (pss_cons (ps_if (PW.pt (pw_or (pt_cmpR op_eq (pv 2) pe_str (nomark _)) (pw_or1 (pt_cmpR op_eq (pv 2) pe_str (nomark _))))) (pss_one (ps_ret pe_int)) pss_nil)
      (pss_cons (ps_if (pt_cmpR op_eq (pv 2) pe_str (nomark _)) (pss_one (ps_ret (pe_dget (hu_of hr) (pv 1) (pe_ix ix_tup (pv 0) pe_int (fun _ _ => rfl)) (fun _ _ => rfl)))) pss_nil)
      (pss_cons (ps_set (i := 3) sc_reach_of.nd rfl (Or.inl rfl) (pe_callB (cr_sum rfl) (by rfl) B.sum (by decide +kernel) (pa_cons (pe_lc (own := [("one", 4)]) (g := (gName 4)) (tt := tYes) (te := (tCall (spReach d) [] E0 (tCons (tVar 4) (tCons (tVar 1) tNil)))) (by rfl) sc_reach_of.nd (pi_tup (pe_own c_terms_within hr (by omega) (by rfl) (pa_cons (pv 0) pa_nil))) (blkOk_by (own := [("one", 4)]) (N := ["term", "reaches", "word", "within", "one"]) (sc := defScope s_reach_of) (by decide +kernel)) (fun _ _ _ _ _ => (pg_name (i := 4) sc_reach_of.nd rfl (Or.inl rfl))) (fun _ _ _ _ _ => pts_nil) (fun _ _ _ _ _ => (pe_own c_reach_of hr (by omega) (by rfl) (pa_cons (pv 4) (pa_cons (pv 1) pa_nil))))) pa_nil)))
      (pss_cons (ps_if (pt_cmpR op_eq (pv 2) pe_str (nomark _)) (pss_one (ps_ret (pe_op op_add (pv 3) pe_int))) pss_nil)
      (pss_cons (ps_if (PW.pt (pw_and (pt_cmpR op_eq (pv 2) pe_str (nomark _)) (pw_and1 (pt_cmpR op_isN (pe_ix ix_tup (pv 0) pe_int (fun _ _ => rfl)) pe_non (nomark _))))) (pss_one (ps_ret (pe_op op_add (pe_op op_mul (pv 3) (pe_op op_add (pe_ix ix_tup (pv 0) pe_int (fun _ _ => rfl)) pe_int)) pe_int))) pss_nil)
      (pss_cons (ps_if (pt_cmpR op_eq (pv 2) pe_str (nomark _)) (pss_one (ps_ret (pe_op op_sub (pe_op op_add (pe_op op_mul (pv 3) (pe_ix ix_tup (pv 0) pe_int (fun _ _ => rfl))) (pe_ix ix_tup (pv 0) pe_int (fun _ _ => rfl))) (pe_ix ix_tup (pv 0) pe_int (fun _ _ => rfl))))) pss_nil)
      (pss_one (ps_ret (pv 3)))))))))), ?_⟩
      cases hv with
      | ask e1 r =>
        refine ⟨_, rfl, _, _, _, _, rfl, rfl, e1.sq, atI_nat (j := 0) rfl, ?_⟩
        exact ⟨_, rfl, rfl, _, rfl, iteB (fun _ => q H (Same.refl H)) (fun z => absurd z (by decide +kernel))⟩
      | rest e1 =>
        refine ⟨_, rfl, _, _, _, _, rfl, rfl, e1.sq, atI_nat (j := 0) rfl, ?_⟩
        refine ⟨_, rfl, rfl, _, rfl, iteB (fun z => absurd z (by decide +kernel)) (fun _ => ?_)⟩
        exact ⟨_, rfl, rfl, _, rfl, iteB (fun _ => q H (Same.refl H)) (fun z => absurd z (by decide +kernel))⟩
      | @call a1 nm e1 =>
        refine ⟨_, rfl, _, _, _, _, rfl, rfl, e1.sq, atI_nat (j := 0) rfl, ?_⟩
        refine ⟨_, rfl, rfl, _, rfl, iteB (fun z => absurd z (by decide +kernel)) (fun _ => ?_)⟩
        refine ⟨_, rfl, rfl, _, rfl, iteB (fun z => absurd z (by decide +kernel)) (fun _ => ?_)⟩
        refine ⟨_, rfl, rfl, _, rfl, iteB (fun _ => ?_) (fun z => absurd z (by decide +kernel))⟩
        obtain ⟨i, hi⟩ : HasC kvs nm := hl
        refine ⟨_, rfl, _, rfl, _, _, _, _, rfl, rfl, e1.sq, atI_nat (j := 1) rfl, e, .int i, rfl, (by rw [← hi]; exact DGet.k (k := Sum.inr nm) he), ?_⟩
        have z := q H (Same.refl H)
        have e2 : reachF (envOf kvs) (d + 1) (.call nm) = i := by
          show envOf kvs nm = i
          unfold envOf
          rw [hi]
        rw [e2] at z
        exact z
      | @thn a1 b1 vs1 ts e1 r1 t1 =>
        have hv' : TmAt H (.ref a1) (.thn ts) := .thn e1 r1 t1
        refine ⟨_, rfl, _, _, _, _, rfl, rfl, e1.sq, atI_nat (j := 0) rfl, ?_⟩
        refine ⟨_, rfl, rfl, _, rfl, iteB (fun z => absurd z (by decide +kernel)) (fun _ => ?_)⟩
        refine ⟨_, rfl, rfl, _, rfl, iteB (fun z => absurd z (by decide +kernel)) (fun _ => ?_)⟩
        refine ⟨_, rfl, rfl, _, rfl, iteB (fun z => absurd z (by decide +kernel)) (fun _ => ?_)⟩
        obtain ⟨hsl, hsv⟩ := subs_lv hl
        refine ⟨_, rfl, _, (.thn ts), rfl, hv', fun u ws H1 s1 pu tl => ?_⟩
        have hwl : ws.length = (subs (.thn ts)).length := tl.len
        refine ⟨u, rfl, ⟨_, pu.sq⟩, fun D nD => ?_⟩
        refine lc_tup (K := K) (a := u) (xs := ws) (fun i H2 => Same H1 H2 ∧ H2 D = some (.lst ((((subs (.thn ts)).take i).map (reachF (envOf kvs) d)).map V.int))) ?_ ?_ ?_ ?_
        · exact ⟨same_upd nD, upd_same⟩
        · rintro i H2 _ ⟨s2, _⟩
          exact (pu.same s2).sq
        · rintro i x H2 hx ⟨s2, hD⟩
          obtain ⟨t0, et, ht0⟩ := tl.get hx
          refine ⟨rfl, tyes ?_⟩
          refine ⟨_, rfl, _, rfl, x, t0, e, kvs, rfl, ht0.keep (KT.same s2), s2 _ _ (s1 _ _ he), hsv t0 (List.mem_of_getElem? et), fun H3 s3 => ?_⟩
          refine ⟨_, s3 _ _ hD, ?_, ?_, ?_⟩
          · rw [List.length_map, List.length_map, List.length_take]
            exact small1000 (by omega)
          · intro c o ec
            rw [upd_ne (ne_of_none ec nD)]
            exact s3 _ _ (s2 _ _ ec)
          · rw [upd_same, List.take_add_one, et, List.map_append, List.map_append]
            rfl
        · rintro H2 ⟨s2, hD⟩
          rw [hwl, List.take_length] at hD
          have s12 : Same H H2 := s1.trans s2
          refine ⟨D, _, rfl, SqL.of hD, ?_⟩
          refine ⟨_, rfl, rfl, _, rfl, iteB (fun z => absurd z (by decide +kernel)) (fun _ => ?_)⟩
          refine ⟨_, rfl, rfl, _, rfl, iteB (fun z => absurd z (by decide +kernel)) (fun _ => ?_)⟩
          refine ⟨_, rfl, rfl, _, rfl, iteB (fun z => absurd z (by decide +kernel)) (fun _ => ?_)⟩
          exact ⟨_, rfl, q H2 s12⟩
      | @frk a1 b1 vs1 ts e1 r1 t1 =>
        have hv' : TmAt H (.ref a1) (.frk ts) := .frk e1 r1 t1
        refine ⟨_, rfl, _, _, _, _, rfl, rfl, e1.sq, atI_nat (j := 0) rfl, ?_⟩
        refine ⟨_, rfl, rfl, _, rfl, iteB (fun z => absurd z (by decide +kernel)) (fun _ => ?_)⟩
        refine ⟨_, rfl, rfl, _, rfl, iteB (fun z => absurd z (by decide +kernel)) (fun _ => ?_)⟩
        refine ⟨_, rfl, rfl, _, rfl, iteB (fun z => absurd z (by decide +kernel)) (fun _ => ?_)⟩
        obtain ⟨hsl, hsv⟩ := subs_lv hl
        refine ⟨_, rfl, _, (.frk ts), rfl, hv', fun u ws H1 s1 pu tl => ?_⟩
        have hwl : ws.length = (subs (.frk ts)).length := tl.len
        refine ⟨u, rfl, ⟨_, pu.sq⟩, fun D nD => ?_⟩
        refine lc_tup (K := K) (a := u) (xs := ws) (fun i H2 => Same H1 H2 ∧ H2 D = some (.lst ((((subs (.frk ts)).take i).map (reachF (envOf kvs) d)).map V.int))) ?_ ?_ ?_ ?_
        · exact ⟨same_upd nD, upd_same⟩
        · rintro i H2 _ ⟨s2, _⟩
          exact (pu.same s2).sq
        · rintro i x H2 hx ⟨s2, hD⟩
          obtain ⟨t0, et, ht0⟩ := tl.get hx
          refine ⟨rfl, tyes ?_⟩
          refine ⟨_, rfl, _, rfl, x, t0, e, kvs, rfl, ht0.keep (KT.same s2), s2 _ _ (s1 _ _ he), hsv t0 (List.mem_of_getElem? et), fun H3 s3 => ?_⟩
          refine ⟨_, s3 _ _ hD, ?_, ?_, ?_⟩
          · rw [List.length_map, List.length_map, List.length_take]
            exact small1000 (by omega)
          · intro c o ec
            rw [upd_ne (ne_of_none ec nD)]
            exact s3 _ _ (s2 _ _ ec)
          · rw [upd_same, List.take_add_one, et, List.map_append, List.map_append]
            rfl
        · rintro H2 ⟨s2, hD⟩
          rw [hwl, List.take_length] at hD
          have s12 : Same H H2 := s1.trans s2
          refine ⟨D, _, rfl, SqL.of hD, ?_⟩
          refine ⟨_, rfl, rfl, _, rfl, iteB (fun _ => ?_) (fun z => absurd z (by decide +kernel))⟩
          exact ⟨_, rfl, _, _, rfl, rfl, q H2 s12⟩
      | @rnd a1 v1 l m t0 e1 r1 =>
        have hv' : TmAt H (.ref a1) (.rnd l m t0) := .rnd e1 r1
        have hlm := hl.1
        refine ⟨_, rfl, _, _, _, _, rfl, rfl, e1.sq, atI_nat (j := 0) rfl, ?_⟩
        refine ⟨_, rfl, rfl, _, rfl, iteB (fun z => absurd z (by decide +kernel)) (fun _ => ?_)⟩
        refine ⟨_, rfl, rfl, _, rfl, iteB (fun z => absurd z (by decide +kernel)) (fun _ => ?_)⟩
        refine ⟨_, rfl, rfl, _, rfl, iteB (fun z => absurd z (by decide +kernel)) (fun _ => ?_)⟩
        obtain ⟨hsl, hsv⟩ := subs_lv hl
        refine ⟨_, rfl, _, (.rnd l m t0), rfl, hv', fun u ws H1 s1 pu tl => ?_⟩
        have hwl : ws.length = (subs (.rnd l m t0)).length := tl.len
        refine ⟨u, rfl, ⟨_, pu.sq⟩, fun D nD => ?_⟩
        refine lc_tup (K := K) (a := u) (xs := ws) (fun i H2 => Same H1 H2 ∧ H2 D = some (.lst ((((subs (.rnd l m t0)).take i).map (reachF (envOf kvs) d)).map V.int))) ?_ ?_ ?_ ?_
        · exact ⟨same_upd nD, upd_same⟩
        · rintro i H2 _ ⟨s2, _⟩
          exact (pu.same s2).sq
        · rintro i x H2 hx ⟨s2, hD⟩
          obtain ⟨t0, et, ht0⟩ := tl.get hx
          refine ⟨rfl, tyes ?_⟩
          refine ⟨_, rfl, _, rfl, x, t0, e, kvs, rfl, ht0.keep (KT.same s2), s2 _ _ (s1 _ _ he), hsv t0 (List.mem_of_getElem? et), fun H3 s3 => ?_⟩
          refine ⟨_, s3 _ _ hD, ?_, ?_, ?_⟩
          · rw [List.length_map, List.length_map, List.length_take]
            exact small1000 (by omega)
          · intro c o ec
            rw [upd_ne (ne_of_none ec nD)]
            exact s3 _ _ (s2 _ _ ec)
          · rw [upd_same, List.take_add_one, et, List.map_append, List.map_append]
            rfl
        · rintro H2 ⟨s2, hD⟩
          rw [hwl, List.take_length] at hD
          have s12 : Same H H2 := s1.trans s2
          refine ⟨D, _, rfl, SqL.of hD, ?_⟩
          have e2 := e1.same s12
          have hsum : (((subs (.rnd l m t0)).map (reachF (envOf kvs) d)).sum) = reachF (envOf kvs) d t0 := by
            show reachF (envOf kvs) d t0 + 0 = _
            omega
          rw [hsum]
          refine ⟨_, rfl, rfl, _, rfl, iteB (fun z => absurd z (by decide +kernel)) (fun _ => ?_)⟩
          refine ⟨_, rfl, rfl, _, rfl, iteB (fun _ => ?_) (fun z => absurd z (by decide +kernel))⟩
          refine ⟨_, rfl, _, _, _, _, rfl, rfl, e2.sq, atI_nat (j := 2) rfl, rfl, _, rfl, ?_⟩
          cases m with
          | none =>
            refine iteB (fun _ => ?_) (fun z => absurd z (by decide +kernel))
            exact ⟨_, rfl, _, rfl, _, _, _, _, rfl, rfl, e2.sq, atI_nat (j := 1) rfl, _, _, rfl, rfl, _, _, rfl, rfl, .inr ⟨by omega, by omega⟩, _, _, rfl, rfl, q H2 s12⟩
          | some k =>
            have hk := hlm.2.2 k rfl
            refine iteB (fun z => absurd (of_decide_eq_true z) (by intro y; cases y)) (fun _ => ?_)
            refine ⟨_, rfl, rfl, _, rfl, iteB (fun _ => ?_) (fun z => absurd z (by decide +kernel))⟩
            exact ⟨_, rfl, _, rfl, _, _, _, _, rfl, rfl, e2.sq, atI_nat (j := 2) rfl, _, _, rfl, rfl, .inr ⟨by omega, by omega⟩, _, rfl, _, _, _, _, rfl, rfl, e2.sq, atI_nat (j := 2) rfl, _, _, rfl, rfl, _, rfl, _, _, _, _, rfl, rfl, e2.sq, atI_nat (j := 1) rfl, _, _, rfl, rfl, q H2 s12⟩
end
/-- the reaches of a program's names, from the last on -/
def rk (D : Nat) : List (Str × Tm) → List (Key × V)
  | [] => []
  | (n, t) :: r => putK (rk D r) (Sum.inr n) (.int (reachF (envOf (rk D r)) D t))
def PO (D : Nat) : List (Str × Tm) → Prop
  | [] => True
  | (_, t) :: r => Lv (HasC (rk D r)) (fun _ => True) D t ∧ PO D r
theorem putK_few {kvs : List (Key × V)} {k : Key} {v : V} : (putK kvs k v).length ≤ kvs.length + 1 := by
  cases e : valV kvs k with
  | none =>
    rw [putK_new v e, List.length_append]
    exact Nat.le_refl _
  | some x =>
    first
      | (rw [putK_len_some e]; omega)
      | (unfold putK; split <;> simp)
theorem rk_len (D : Nat) : ∀ ps : List (Str × Tm), (rk D ps).length ≤ ps.length
  | [] => Nat.le_refl _
  | (n, t) :: r => by
    have h1 := rk_len D r
    have h2 := putK_few (kvs := rk D r) (k := Sum.inr n) (v := .int (reachF (envOf (rk D r)) D t))
    show (putK (rk D r) (Sum.inr n) (.int (reachF (envOf (rk D r)) D t))).length ≤ r.length + 1
    omega
theorem PO.drop {D : Nat} : ∀ {ps : List (Str × Tm)} (j : Nat), PO D ps → PO D (ps.drop j)
  | [], j, h => by
    rw [List.drop_nil]
    trivial
  | q :: ps, 0, h => h
  | (n, t) :: ps, j + 1, h => PO.drop (ps := ps) j h.2
def spReaches (D : Nat) : Sp := fun vs H Q _ => ∃ (p : Addr) (ws : List V) (ps : List (Str × Tm)), vs = [.ref p] ∧ H p = some (.lst ws) ∧ PrL H ws ps ∧ PO D ps ∧ ps.length ≤ 100 ∧ ∀ (e : Addr) (H' : Hp), Same H H' → H e = none → H' e = some (.dK (rk D ps)) → Q (.ref e) H'
def topReach (D : Nat) : List (Str × Tm) → Int
  | [] => 0
  | (_, t) :: r => reachF (envOf (rk D r)) D t
def spTopReach (D : Nat) : Sp := fun vs H Q _ => ∃ (p : Addr) (ws : List V) (ps : List (Str × Tm)), vs = [.ref p] ∧ H p = some (.lst ws) ∧ PrL H ws ps ∧ PO D ps ∧ ps ≠ [] ∧ ps.length ≤ 100 ∧ ∀ H', Same H H' → Q (.int (topReach D ps)) H'
theorem sc_reaches_of : FnScope ["program", "reaches", "name", "term"] ["program"] (defScope s_reaches_of) := ⟨rfl, rfl, rfl, by decide +kernel, rfl, by decide +kernel, by decide +kernel⟩
theorem sc_reach : FnScope ["program"] ["program"] (defScope s_reach) := ⟨rfl, rfl, rfl, by decide +kernel, rfl, by decide +kernel, by decide +kernel⟩
section
variable {P : Program} {w : World} {K : PySem.W.Frag} {mg : Str → Option Value} {base : Heap}
theorem ok_reaches_of (T : At K mg "reaches_of" s_reaches_of ["program"]) (B : Bt mg) {D : Nat} {lv : Nat} (c_reach_of : Cal P w K mg base lv "reach_of" ["term", "reaches"] (spReach D)) : Cal P w K mg base (lv + 1) "reaches_of" ["program"] (spReaches D) := by
  refine cal_of T sc_reaches_of (fun vs H Q E h => ?_) (fun f cdv A outer s H vs Q E hr h => ?_)
  · obtain ⟨p, ws, ps, rfl, _⟩ := h
    rfl
  · obtain ⟨p, ws, ps, rfl, hp, pr, po, hl, q⟩ := h
    refine ⟨_, (pss_cons (ps_set (i := 1) sc_reaches_of.nd rfl (Or.inl rfl) pe_dnewK)
      (pss_cons (ps_for PassesOwn.never rfl (pi_reversed (by rfl) B.reversed (pa_cons (pv 0) pa_nil)) (pg_tup (by rfl) (pgs_cons (pg_name (i := 2) sc_reaches_of.nd rfl (Or.inl rfl)) (pgs_cons (pg_name (i := 3) sc_reaches_of.nd rfl (Or.inl rfl)) pgs_nil))) (pss_one (ps_dput (hu_of hr) (pv 1) (pv 2) (pe_own c_reach_of hr (Nat.le_refl _) (by rfl) (pa_cons (pv 3) (pa_cons (pv 1) pa_nil))) rfl)))
      (pss_one (ps_ret (pv 1))))), ?_⟩
    intro e ne
    have hwl : ws.length = ps.length := pr.len
    have s1 : Same H (upd H e (.dK [])) := same_upd ne
    refine ⟨_, rfl, p, ws, rfl, SqL.of (s1 _ _ hp), ?_⟩
    refine RT.for_Itv (K := K) (a := p) (xs := ws) (fun i σ H2 => ∃ y2 y3 : Option V, σ = [some (.ref p), some (.ref e), y2, y3] ∧ Same H H2 ∧ i ≤ ps.length ∧ H2 e = some (.dK (rk D (ps.drop (ps.length - i))))) ?_ ?_ ?_ ?_
    · refine ⟨none, none, rfl, s1, Nat.zero_le _, ?_⟩
      rw [upd_same, Nat.sub_zero, List.drop_length]
      rfl
    · rintro i σ H2 ⟨_, _, _, s2, _⟩
      exact SqL.of (s2 _ _ hp)
    · rintro i x σ H2 hi hx ⟨y2, y3, rfl, s2, hil, hd⟩
      obtain ⟨q0, a, u, eq, rfl, pa, tu⟩ := pr.get hx
      obtain ⟨n0, t0⟩ := q0
      have hj : ps.length - (i + 1) = ws.length - 1 - i := by omega
      have hdr : ps.drop (ps.length - (i + 1)) = (n0, t0) :: ps.drop (ps.length - i) := by
        rw [hj]
        rw [hwl] at eq ⊢
        have hlt : ps.length - 1 - i < ps.length := by omega
        rw [List.drop_eq_getElem_cons hlt]
        rw [List.getElem?_eq_getElem hlt] at eq
        injection eq with eq
        rw [eq, show ps.length - 1 - i + 1 = ps.length - i by omega]
      have hpo : PO D ((n0, t0) :: ps.drop (ps.length - i)) := by
        rw [← hdr]
        exact PO.drop _ po
      refine ⟨a, _, rfl, (pa.same s2).sq, rfl, _, _, rfl, _, _, rfl, rfl, ?_⟩
      refine ⟨_, rfl, _, rfl, u, t0, e, _, rfl, tu.keep (KT.same s2), hd, hpo.1, fun H3 s3 => ?_⟩
      refine ⟨_, rfl, _, rfl, e, _, rfl, DPut.k (k := Sum.inr n0) (s3 _ _ hd) ?_, ?_⟩
      · have h1 := rk_len D (ps.drop (ps.length - i))
        rw [List.length_drop] at h1
        exact small1000 (by omega)
      · refine ⟨_, _, rfl, ?_, by omega, ?_⟩
        · intro c o ec
          rw [upd_ne (ne_of_none ec ne)]
          exact s3 _ _ (s2 _ _ ec)
        · rw [upd_same, hdr]
          rfl
    · rintro σ H2 ⟨y2, y3, rfl, s2, _, hd⟩
      rw [hwl, Nat.sub_self, List.drop_zero] at hd
      exact ⟨_, rfl, q e H2 s2 ne hd⟩
theorem ok_reach (T : At K mg "reach" s_reach ["program"]) (B : Bt mg) {D : Nat} {lv : Nat} (c_reaches_of : Cal P w K mg base lv "reaches_of" ["program"] (spReaches D)) : Cal P w K mg base (lv + 1) "reach" ["program"] (spTopReach D) := by
  refine cal_of T sc_reach (fun vs H Q E h => ?_) (fun f cdv A outer s H vs Q E hr h => ?_)
  · obtain ⟨p, ws, ps, rfl, _⟩ := h
    rfl
  · obtain ⟨p, ws, ps, rfl, hp, pr, po, hn, hl, q⟩ := h
    refine ⟨_, (pss_one (ps_ret (pe_dget (hu_of hr) (pe_own c_reaches_of hr (Nat.le_refl _) (by rfl) (pa_cons (pv 0) pa_nil)) (pe_ix ix_tup (pe_ix ix_list (pv 0) pe_int (fun _ _ => rfl)) pe_int (fun _ _ => rfl)) (fun _ _ => rfl)))), ?_⟩
    obtain ⟨v0, ws, rfl⟩ : ∃ v0 vs, ws = v0 :: vs := by
      cases ws with
      | nil => exact (hn (List.length_eq_zero_iff.mp pr.len.symm)).elim
      | cons v vs => exact ⟨v, vs, rfl⟩
    obtain ⟨q0, a, u, eq, rfl, pa, tu⟩ := pr.get (i := 0) rfl
    obtain ⟨n0, t0⟩ := q0
    cases ps with
    | nil => exact (hn rfl).elim
    | cons q1 r =>
    have e0 : q1 = (n0, t0) := by simpa using eq
    subst e0
    refine ⟨_, rfl, p, _, _, rfl, hp, pr, po, hl, fun e H1 s1 ne he => ?_⟩
    refine ⟨_, rfl, _, _, _, _, rfl, rfl, SqL.of (s1 _ _ hp), atI_nat (j := 0) rfl, _, _, _, _, rfl, rfl, (pa.same s1).sq, atI_nat (j := 0) rfl, ?_⟩
    refine ⟨e, .int (topReach D ((n0, t0) :: r)), rfl, ?_, q H1 s1⟩
    have z := DGet.k (k := Sum.inr n0) he
    have z2 : valV (rk D ((n0, t0) :: r)) (Sum.inr n0) = some (.int (topReach D ((n0, t0) :: r))) := by
      show valV (putK (rk D r) (Sum.inr n0) _) (Sum.inr n0) = _
      rw [valV_put, if_pos rfl]
      rfl
    rw [z2] at z
    exact z
end
theorem flat_len (f : Tm → List Int) (n : Nat) : ∀ (ts : List Tm), (∀ t ∈ ts, (f t).length ≤ n) → ((ts.map f).flatten).length ≤ ts.length * n
  | [], _ => Nat.zero_le _
  | t :: ts, h => by
    have h1 := h t (List.mem_cons_self ..)
    have h2 := flat_len f n ts fun x hx => h x (List.mem_cons_of_mem _ hx)
    rw [List.map_cons, List.flatten_cons, List.length_append, List.length_cons, Nat.succ_mul]
    omega
theorem rooms_few {C : Str → Prop} {S : List Int} : ∀ (d : Nat) (t : Tm), Lv C (Few S) d t → (roomsF d t).length ≤ 3 ^ d ∧ ∀ k ∈ roomsF d t, k ∈ S
  | 0, _, h => h.elim
  | d + 1, .ask rs, h => by
    have h1 : 3 ^ 1 ≤ 3 ^ (d + 1) := Nat.pow_le_pow_right (by decide) (by omega)
    exact ⟨Nat.le_trans h.1 h1, h.2⟩
  | d + 1, .rest, _ => ⟨Nat.zero_le _, fun _ hx => (List.not_mem_nil hx).elim⟩
  | d + 1, .call _, _ => ⟨Nat.zero_le _, fun _ hx => (List.not_mem_nil hx).elim⟩
  | d + 1, .thn ts, h => by
    have z := flat_len (roomsF d) (3 ^ d) ts fun t ht => (rooms_few d t (h.2 t ht)).1
    have z2 : ts.length * 3 ^ d ≤ 3 * 3 ^ d := Nat.mul_le_mul_right _ h.1
    refine ⟨?_, fun k hk => ?_⟩
    · rw [Nat.pow_succ, Nat.mul_comm]
      exact Nat.le_trans z z2
    · obtain ⟨l, hl, hk⟩ := List.mem_flatten.mp hk
      obtain ⟨t, ht, rfl⟩ := List.mem_map.mp hl
      exact (rooms_few d t (h.2 t ht)).2 k hk
  | d + 1, .frk ts, h => by
    have z := flat_len (roomsF d) (3 ^ d) ts fun t ht => (rooms_few d t (h.2 t ht)).1
    have z2 : ts.length * 3 ^ d ≤ 3 * 3 ^ d := Nat.mul_le_mul_right _ h.1
    refine ⟨?_, fun k hk => ?_⟩
    · rw [Nat.pow_succ, Nat.mul_comm]
      exact Nat.le_trans z z2
    · obtain ⟨l, hl, hk⟩ := List.mem_flatten.mp hk
      obtain ⟨t, ht, rfl⟩ := List.mem_map.mp hl
      exact (rooms_few d t (h.2 t ht)).2 k hk
  | d + 1, .rnd _ _ t, h => by
    have z := rooms_few d t h.2
    refine ⟨?_, z.2⟩
    have h1 : 3 ^ d ≤ 3 ^ (d + 1) := Nat.pow_le_pow_right (by decide) (by omega)
    exact Nat.le_trans z.1 h1
def spAskR (d : Nat) : Sp := fun vs H Q _ => ∃ (v : V) (t : Tm) (S : List Int), vs = [v] ∧ TmAt H v t ∧ Lv (fun _ => True) (Few S) d t ∧ ∀ (u : Addr) (H' : Hp), Same H H' → H u = none → H' u = some (.lst ((roomsF d t).map V.int)) → Q (.ref u) H'
theorem rooms_subs {d : Nat} {t : Tm} (h : ∀ rs, t ≠ .ask rs) : roomsF (d + 1) t = ((subs t).map (roomsF d)).flatten := by
  cases t with
  | ask rs => exact (h rs rfl).elim
  | rnd l m t =>
    show roomsF d t = roomsF d t ++ []
    rw [List.append_nil]
  | _ => rfl
theorem TmAt.head {H : Hp} {v : V} {t : Tm} (h : TmAt H v t) : ∃ (a : Addr), v = .ref a ∧ ((∃ (b : Addr) (rs : List Int), t = .ask rs ∧ PTup H a [.str "ask", .ref b] ∧ PTup H b (rs.map V.int)) ∨ ∃ (s : Str) (r : List V), s ≠ "ask" ∧ (∀ rs, t ≠ .ask rs) ∧ PTup H a (.str s :: r)) := by
  cases h with
  | ask e r => exact ⟨_, rfl, .inl ⟨_, _, rfl, e, r⟩⟩
  | rest e => exact ⟨_, rfl, .inr ⟨_, _, by decide +kernel, fun _ z => (nomatch z), e⟩⟩
  | call e => exact ⟨_, rfl, .inr ⟨_, _, by decide +kernel, fun _ z => (nomatch z), e⟩⟩
  | thn e r t => exact ⟨_, rfl, .inr ⟨_, _, by decide +kernel, fun _ z => (nomatch z), e⟩⟩
  | frk e r t => exact ⟨_, rfl, .inr ⟨_, _, by decide +kernel, fun _ z => (nomatch z), e⟩⟩
  | rnd e r => exact ⟨_, rfl, .inr ⟨_, _, by decide +kernel, fun _ z => (nomatch z), e⟩⟩
theorem sc_asked_rooms : FnScope ["term", "rooms", "one"] ["term"] (defScope s_asked_rooms) := ⟨rfl, rfl, rfl, by decide +kernel, rfl, by decide +kernel, by decide +kernel⟩
theorem sc_rooms_of : FnScope ["program", "rooms", "name", "term"] ["program"] (defScope s_rooms_of) := ⟨rfl, rfl, rfl, by decide +kernel, rfl, by decide +kernel, by decide +kernel⟩
section
variable {P : Program} {w : World} {K : PySem.W.Frag} {mg : Str → Option Value} {base : Heap}
theorem ok_asked_rooms (T : At K mg "asked_rooms" s_asked_rooms ["term"]) (B : Bt mg) (c_terms_within : Cal P w K mg base 1 "terms_within" ["term"] spWithin) : ∀ d : Nat, d ≤ 8 → Cal P w K mg base (d + 2) "asked_rooms" ["term"] (spAskR d)
  | 0, _ => by
    refine cal_of T sc_asked_rooms (fun vs H Q E h => ?_) (fun f cdv A outer s H vs Q E hr h => ?_)
    · obtain ⟨v, t, S, rfl, _⟩ := h
      rfl
    · obtain ⟨v, t, S, rfl, hv, hl, q⟩ := h
      exact hl.elim
  | d + 1, hd8 => by
    have c_asked_rooms := ok_asked_rooms T B c_terms_within d (by omega)
    refine cal_of T sc_asked_rooms (fun vs H Q E h => ?_) (fun f cdv A outer s H vs Q E hr h => ?_)
    · obtain ⟨v, t, S, rfl, _⟩ := h
      rfl
    · obtain ⟨v, t, S, rfl, hv, hl, q⟩ := h
      refine ⟨_, (pss_cons (ps_if (pt_cmpR op_eq (pe_ix ix_tup (pv 0) pe_int (fun _ _ => rfl)) pe_str (nomark _)) (pss_one (ps_ret (pe_callTy call_list_of (by rfl) B.list (by decide +kernel) (pa_cons (pe_ix ix_tup (pv 0) pe_int (fun _ _ => rfl)) pa_nil)))) pss_nil)
      (pss_cons (ps_set (i := 1) sc_asked_rooms.nd rfl (Or.inl rfl) (pe_lst pa_nil))
      (pss_cons (ps_for PassesOwn.never rfl (pi_tup (pe_own c_terms_within hr (by omega) (by rfl) (pa_cons (pv 0) pa_nil))) (pg_name (i := 2) sc_asked_rooms.nd rfl (Or.inl rfl)) (pss_one (ps_expr (pe_bm PySem.F.plainAttrs_list PySem.F.slot_list_extend PySem.F.type_list_extend mt_extend (pv 1) (pa_cons (pe_own c_asked_rooms hr (by omega) (by rfl) (pa_cons (pv 2) pa_nil)) pa_nil)))))
      (pss_one (ps_ret (pv 1)))))), ?_⟩
      obtain ⟨a, rfl, hd⟩ := hv.head
      rcases hd with ⟨b, rs, rfl, e1, e2⟩ | ⟨w0, r0, hw, hna, e1⟩
      · refine ⟨_, rfl, _, _, _, _, rfl, rfl, e1.sq, atI_nat (j := 0) rfl, rfl, _, rfl, iteB (fun _ => ?_) (fun z => absurd z (by decide +kernel))⟩
        refine ⟨_, rfl, _, _, _, _, rfl, rfl, e1.sq, atI_nat (j := 1) rfl, b, _, rfl, .inr e2.sq, fun u nu => ?_⟩
        exact q u _ (same_upd nu) nu upd_same
      · refine ⟨_, rfl, _, _, _, _, rfl, rfl, e1.sq, atI_nat (j := 0) rfl, rfl, _, rfl, iteB (fun z => ?_) (fun _ => ?_)⟩
        · have z2 := of_decide_eq_true z
          injection z2 with z2
          exact (hw z2).elim
        · obtain ⟨hsl, hsv⟩ := subs_lv hl
          refine ⟨Nat.zero_le _, fun L nL => ?_⟩
          have s0 : Same H (upd H L (.lst [])) := same_upd nL
          have nLa : ∀ {c : Addr} {o : HO}, H c = some o → c ≠ L := fun ec => ne_of_none ec nL
          refine ⟨_, rfl, _, t, rfl, hv.keep (KT.same s0), fun u ws H1 s1 pu tl => ?_⟩
          have hwl : ws.length = (subs t).length := tl.len
          have s01 : Same H H1 := s0.trans s1
          refine ⟨u, rfl, ⟨_, pu.sq⟩, ?_⟩
          refine for_tup (K := K) (a := u) (xs := ws) (fun i σ H2 => ∃ y2 : Option V, σ = [some (.ref a), some (.ref L), y2] ∧ Same H H2 ∧ PTup H2 u ws ∧ TmL H2 ws (subs t) ∧ H2 L = some (.lst ((((subs t).take i).map (roomsF d)).flatten.map V.int))) ?_ ?_ ?_ ?_
          · exact ⟨none, rfl, s01, pu, tl, s1 _ _ upd_same⟩
          · rintro i σ H2 _ ⟨_, _, _, pu2, _⟩
            exact pu2.sq
          · rintro i x σ H2 hx ⟨y2, rfl, s2, pu2, tl2, hL⟩
            obtain ⟨t0, et, ht0⟩ := tl2.get hx
            have hm0 := List.mem_of_getElem? et
            have hfl := flat_len (roomsF d) (3 ^ d) ((subs t).take i) fun y hy => (rooms_few d y (hsv y (List.mem_of_mem_take hy))).1
            have hpw : 3 ^ d ≤ 3 ^ 7 := Nat.pow_le_pow_right (by decide) (by omega)
            have hp2 : 3 ^ 7 = 2187 := rfl
            have h3 : ((subs t).take i).length * 3 ^ d ≤ 3 * 3 ^ d := Nat.mul_le_mul_right _ (by rw [List.length_take]; omega)
            refine ⟨_, rfl, .inl ⟨rfl, _, SqL.of hL⟩, _, rfl, x, t0, S, rfl, ht0, hsv t0 hm0, fun u2 H3 s3 n2 e3 => ?_⟩
            have e4 := (rooms_few d t0 (hsv t0 hm0)).1
            refine ⟨L, u2, _, _, rfl, rfl, s3 _ _ hL, e3, ?_, ?_⟩
            · rw [List.length_map, List.length_map]
              have hb : sizeLine = 16777216 := rfl
              omega
            · refine ⟨_, rfl, ?_, ?_, ?_, ?_⟩
              · intro c o ec
                rw [upd_ne (nLa ec)]
                exact s3 _ _ (s2 _ _ ec)
              · exact KT.upd (s3 _ _ hL) _ _ (pu2.same s3)
              · exact tl2.keep ((KT.same s3).trans (KT.upd (s3 _ _ hL)))
              · rw [upd_same, List.take_add_one, et, List.map_append, List.flatten_append, List.map_append]
                show some (HO.lst (_ ++ _)) = some (HO.lst (_ ++ (roomsF d t0 ++ []).map V.int))
                rw [List.append_nil]
          · rintro σ H2 ⟨y2, rfl, s2, pu2, tl2, hL⟩
            rw [hwl, List.take_length, ← rooms_subs hna] at hL
            exact ⟨_, rfl, q L H2 s2 nL hL⟩
def roomsL (D : Nat) (ps : List (Str × Tm)) : List Int := (ps.map fun q => roomsF D q.2).flatten
theorem roomsL_few {D : Nat} {S : List Int} : ∀ {ps : List (Str × Tm)}, (∀ q ∈ ps, Lv (fun _ => True) (Few S) D q.2) → (roomsL D ps).length ≤ ps.length * 3 ^ D ∧ ∀ k ∈ roomsL D ps, k ∈ S
  | [], _ => ⟨Nat.zero_le _, fun _ hx => (List.not_mem_nil hx).elim⟩
  | q :: ps, h => by
    have h1 := rooms_few D q.2 (h q (List.mem_cons_self ..))
    have h2 := roomsL_few fun x hx => h x (List.mem_cons_of_mem _ hx)
    have e : roomsL D (q :: ps) = roomsF D q.2 ++ roomsL D ps := rfl
    rw [e, List.length_append, List.length_cons, Nat.succ_mul]
    refine ⟨by omega, fun k hk => ?_⟩
    rcases List.mem_append.mp hk with z | z
    · exact h1.2 k z
    · exact h2.2 k z
def spRoomsOf (D : Nat) : Sp := fun vs H Q _ => ∃ (p : Addr) (ws : List V) (ps : List (Str × Tm)) (S : List Int), vs = [.ref p] ∧ H p = some (.lst ws) ∧ PrL H ws ps ∧ (∀ q ∈ ps, Lv (fun _ => True) (Few S) D q.2) ∧ ps.length * 3 ^ D ≤ 4000 ∧ S.length < 64 ∧
  ∀ (ms : List Int) (u : Addr) (H' : Hp), ms.Pairwise (· < ·) → (∀ k : Int, k ∈ ms ↔ k ∈ roomsL D ps) → Same H H' → H u = none → H' u = some (.lst (ms.map V.int)) → Q (.ref u) H'
theorem ok_rooms_of (T : At K mg "rooms_of" s_rooms_of ["program"]) (B : Bt mg) {D : Nat} {lv : Nat} (c_asked_rooms : Cal P w K mg base lv "asked_rooms" ["term"] (spAskR D)) : Cal P w K mg base (lv + 1) "rooms_of" ["program"] (spRoomsOf D) := by
  refine cal_of T sc_rooms_of (fun vs H Q E h => ?_) (fun f cdv A outer s H vs Q E hr h => ?_)
  · obtain ⟨p, ws, ps, S, rfl, _⟩ := h
    rfl
  · obtain ⟨p, ws, ps, S, rfl, hp, pr, po, hl, hS, q⟩ := h
    refine ⟨_, (pss_cons (ps_set (i := 1) sc_rooms_of.nd rfl (Or.inl rfl) (pe_lst pa_nil))
      (pss_cons (ps_for PassesOwn.never rfl (pi_list (pv 0)) (pg_tup (by rfl) (pgs_cons (pg_name (i := 2) sc_rooms_of.nd rfl (Or.inl rfl)) (pgs_cons (pg_name (i := 3) sc_rooms_of.nd rfl (Or.inl rfl)) pgs_nil))) (pss_one (ps_expr (pe_bm PySem.F.plainAttrs_list PySem.F.slot_list_extend PySem.F.type_list_extend mt_extend (pv 1) (pa_cons (pe_own c_asked_rooms hr (Nat.le_refl _) (by rfl) (pa_cons (pv 3) pa_nil)) pa_nil)))))
      (pss_one (ps_ret (pe_callB (cr_sortedS rfl) (by rfl) B.sorted (by decide +kernel) (pa_cons (pe_callTy (cr_setL rfl) (by rfl) B.set (by decide +kernel) (pa_cons (pv 1) pa_nil)) pa_nil)))))), ?_⟩
    refine ⟨Nat.zero_le _, fun L nL => ?_⟩
    have hwl : ws.length = ps.length := pr.len
    have s0 : Same H (upd H L (.lst [])) := same_upd nL
    have nLa : ∀ {c : Addr} {o : HO}, H c = some o → c ≠ L := fun ec => ne_of_none ec nL
    refine ⟨_, rfl, p, rfl, ⟨_, SqL.of (s0 _ _ hp)⟩, ?_⟩
    refine for_list (K := K) (a := p) (xs := ws) (fun i σ H2 => ∃ y2 y3 : Option V, σ = [some (.ref p), some (.ref L), y2, y3] ∧ Same H H2 ∧ H2 L = some (.lst ((roomsL D (ps.take i)).map V.int))) ?_ ?_ ?_ ?_
    · exact ⟨none, none, rfl, s0, upd_same⟩
    · rintro i σ H2 _ ⟨_, _, _, s2, _⟩
      exact SqL.of (s2 _ _ hp)
    · rintro i x σ H2 hx ⟨y2, y3, rfl, s2, hL⟩
      obtain ⟨q0, a, u, eq, rfl, pa, tu⟩ := pr.get hx
      have hm0 := List.mem_of_getElem? eq
      have hfl := (roomsL_few (D := D) (S := S) (ps := ps.take i) fun y hy => po y (List.mem_of_mem_take hy)).1
      have h3 : (ps.take i).length * 3 ^ D ≤ ps.length * 3 ^ D := Nat.mul_le_mul_right _ (by rw [List.length_take]; omega)
      refine ⟨a, _, rfl, (pa.same s2).sq, rfl, _, _, rfl, _, _, rfl, rfl, ?_⟩
      refine ⟨_, rfl, .inl ⟨rfl, _, SqL.of hL⟩, _, rfl, u, q0.2, S, rfl, tu.keep (KT.same s2), po q0 hm0, fun u2 H3 s3 n2 e3 => ?_⟩
      have e4 := (rooms_few D q0.2 (po q0 hm0)).1
      have h5 : 1 * 3 ^ D ≤ ps.length * 3 ^ D := Nat.mul_le_mul_right _ (List.length_pos_of_mem hm0)
      refine ⟨L, u2, _, _, rfl, rfl, s3 _ _ hL, e3, ?_, ?_⟩
      · rw [List.length_map, List.length_map]
        have hb : sizeLine = 16777216 := rfl
        omega
      · refine ⟨_, _, rfl, ?_, ?_⟩
        · intro c o ec
          rw [upd_ne (nLa ec)]
          exact s3 _ _ (s2 _ _ ec)
        · rw [upd_same, List.take_add_one, eq]
          unfold roomsL
          rw [List.map_append, List.flatten_append, List.map_append]
          show some (HO.lst (_ ++ _)) = some (HO.lst (_ ++ (roomsF D q0.2 ++ []).map V.int))
          rw [List.append_nil]
    · rintro σ H2 ⟨y2, y3, rfl, s2, hL⟩
      rw [hwl, List.take_length] at hL
      have hf := roomsL_few po
      refine ⟨_, rfl, L, roomsL D ps, rfl, SqL.of hL, by omega, fun pS H3 s3 nS hS => ?_⟩
      refine ⟨pS, _, rfl, hS, fun ms u pw mem nu => ?_⟩
      have s03 := s2.trans s3
      exact q ms u _ pw mem (s03.trans (same_upd nu)) (s03.free nu) upd_same
end
end Su
/-! ### PV: terms that are good, programs that are let by -/
namespace Su
open PySem PySem.Spec PyProof.Rows L2
theorem ups_all' : ∀ {ns : List Int}, ns.Pairwise (· < ·) → (ups ns).all id = true
  | [], _ => rfl
  | [a], _ => rfl
  | a :: b :: l, h => by
    have h1 := List.pairwise_cons.mp h
    have ih := ups_all' h1.2
    show (decide (a < b) && (ups (b :: l)).all id) = true
    rw [decide_eq_true (h1.1 b List.mem_cons_self), ih]
    rfl
theorem rooms_ok {ms : List Int} (h1 : 1 ≤ ms.length) (h2 : ms.length ≤ 6) (pw : ms.Pairwise (· < ·)) (hb : ∀ k ∈ ms, 0 ≤ k ∧ k < 100) : roomsG 1 6 (.tup (ms.map G.int)) = true := by
  show ((decide ((1 : Int) ≤ ((ms.map G.int).length : Int)) && decide (((ms.map G.int).length : Int) ≤ 6)) && risG 100 (ms.map G.int)) = true
  rw [List.length_map, decide_eq_true (by omega), decide_eq_true (by omega)]
  unfold risG
  rw [List.map_map, List.map_map, show (valI ∘ G.int) = id from rfl, List.map_id, ups_all' pw]
  simp only [Bool.true_and, Bool.and_true]
  rw [List.all_eq_true]
  intro b hx
  obtain ⟨k, hk, rfl⟩ := List.mem_map.mp hx
  have := hb k hk
  show (decide (0 ≤ k) && decide (k < 100)) = true
  rw [decide_eq_true this.1, decide_eq_true this.2]
  rfl
theorem tg_ask {d : Nat} {ms : List Int} (h1 : 1 ≤ ms.length) (h2 : ms.length ≤ 6) (pw : ms.Pairwise (· < ·)) (hb : ∀ k ∈ ms, 0 ≤ k ∧ k < 100) : termG (d + 1) (gT (.ask ms)) = true := by
  show (if ("ask" : Str) = "rest" then _ else if ("ask" : Str) = "round" then _ else oneG (termG d) "ask" [.tup (ms.map G.int)]) = true
  rw [if_neg (by decide +kernel), if_neg (by decide +kernel)]
  show lastG (termG d) "ask" (.tup (ms.map G.int)) = true
  unfold lastG
  rw [if_pos rfl]
  exact rooms_ok h1 h2 pw hb
theorem tg_rest {d : Nat} : termG (d + 1) (gT .rest) = true := rfl
theorem tg_call {d : Nat} {s : Str} (h : letG 6 (.str s) = true) : termG (d + 1) (gT (.call s)) = true := by
  show (if ("call" : Str) = "rest" then _ else if ("call" : Str) = "round" then _ else oneG (termG d) "call" [.str s]) = true
  rw [if_neg (by decide +kernel), if_neg (by decide +kernel)]
  show lastG (termG d) "call" (.str s) = true
  unfold lastG
  rw [if_neg (by decide +kernel), if_neg (by decide +kernel), if_neg (by decide +kernel), h]
  rfl
theorem terms_ok {f : G → Bool} {ts : List Tm} {lo hi : Int} (h1 : lo ≤ (ts.length : Int)) (h2 : (ts.length : Int) ≤ hi) (h : ∀ t ∈ ts, f (gT t) = true) : termsG f lo hi (.tup (gTs ts)) = true := by
  show ((decide (lo ≤ ((gTs ts).length : Int)) && decide (((gTs ts).length : Int) ≤ hi)) && ((gTs ts).map f).all id) = true
  rw [gTs_map, List.length_map, decide_eq_true h1, decide_eq_true h2, Bool.true_and, Bool.true_and, List.all_eq_true]
  intro b hb
  obtain ⟨x, hx, rfl⟩ := List.mem_map.mp hb
  obtain ⟨t, ht, rfl⟩ := List.mem_map.mp hx
  exact h t ht
theorem tg_thn {d : Nat} {ts : List Tm} (h1 : 1 ≤ ts.length) (h2 : ts.length ≤ 8) (h : ∀ t ∈ ts, termG d (gT t) = true) : termG (d + 1) (gT (.thn ts)) = true := by
  show (if ("then" : Str) = "rest" then _ else if ("then" : Str) = "round" then _ else oneG (termG d) "then" [.tup (gTs ts)]) = true
  rw [if_neg (by decide +kernel), if_neg (by decide +kernel)]
  show lastG (termG d) "then" (.tup (gTs ts)) = true
  unfold lastG
  rw [if_neg (by decide +kernel), if_pos rfl]
  exact terms_ok (by omega) (by omega) h
theorem tg_frk {d : Nat} {ts : List Tm} (h1 : 2 ≤ ts.length) (h2 : ts.length ≤ 6) (h : ∀ t ∈ ts, termG d (gT t) = true) : termG (d + 1) (gT (.frk ts)) = true := by
  show (if ("fork" : Str) = "rest" then _ else if ("fork" : Str) = "round" then _ else oneG (termG d) "fork" [.tup (gTs ts)]) = true
  rw [if_neg (by decide +kernel), if_neg (by decide +kernel)]
  show lastG (termG d) "fork" (.tup (gTs ts)) = true
  unfold lastG
  rw [if_neg (by decide +kernel), if_neg (by decide +kernel), if_pos rfl]
  exact terms_ok (by omega) (by omega) h
def TimesOk (l : Int) (m : Option Int) : Prop := 0 ≤ l ∧ l ≤ 12 ∧ ∀ k, m = some k → l ≤ k ∧ k ≤ 12
theorem times_ok {l : Int} {m : Option Int} (h : TimesOk l m) : timesG (.int l) (mostT m) = true := by
  obtain ⟨h0, h1, h2⟩ := h
  show ((decide (0 ≤ l) && decide (l < 13)) && mostG l (mostT m)) = true
  rw [decide_eq_true h0, decide_eq_true (by omega : l < 13), Bool.true_and, Bool.true_and]
  cases m with
  | none => rfl
  | some k =>
    obtain ⟨h3, h4⟩ := h2 k rfl
    show (decide (l ≤ k) && decide (k ≤ 12)) = true
    rw [decide_eq_true h3, decide_eq_true h4]
    rfl
theorem tg_rnd {d : Nat} {l : Int} {m : Option Int} {t : Tm} (hl : TimesOk l m) (h : termG d (gT t) = true) : termG (d + 1) (gT (.rnd l m t)) = true := by
  show (if ("round" : Str) = "rest" then _ else if ("round" : Str) = "round" then roundG (termG d) [.int l, mostT m, gT t] else _) = true
  rw [if_neg (by decide +kernel), if_pos rfl]
  show (timesG (.int l) (mostT m) && termG d (gT t)) = true
  rw [times_ok hl, h]
  rfl
theorem name_let {n : Str} (h : NameOk n) : letG 6 (.str n) = true := by
  show ((decide (1 ≤ (n.cps.size : Int)) && decide ((n.cps.size : Int) ≤ 6)) && (n.cps.toList.map inLett).all id) = true
  have h1 := h.1
  have h2 := h.2.1
  rw [decide_eq_true (by omega), decide_eq_true (by omega), Bool.true_and, Bool.true_and, List.all_eq_true]
  intro b hb
  obtain ⟨c, hc, rfl⟩ := List.mem_map.mp hb
  exact decide_eq_true (h.2.2 c hc)
theorem termG_up {d : Nat} : ∀ {g : G}, termG d g = true → termG (d + 1) g = true := by
  induction d with
  | zero =>
    intro g h
    cases h
  | succ d ih =>
    intro g h
    have lst : ∀ {lo hi : Int} {gs : List G}, lo ≤ (gs.length : Int) → (gs.length : Int) ≤ hi → (∀ x ∈ gs, termG d x = true) → termsG (termG (d + 1)) lo hi (.tup gs) = true := by
      intro lo hi gs h1 h2 k
      show ((decide (lo ≤ (gs.length : Int)) && decide ((gs.length : Int) ≤ hi)) && (gs.map (termG (d + 1))).all id) = true
      rw [decide_eq_true h1, decide_eq_true h2, Bool.true_and, Bool.true_and, List.all_eq_true]
      intro b hb
      obtain ⟨x, hx, rfl⟩ := List.mem_map.mp hb
      exact ih (k x hx)
    cases termG_kind h with
    | rest => rfl
    | @round l m t h1 k =>
      show (if ("round" : Str) = "rest" then _ else if ("round" : Str) = "round" then roundG (termG (d + 1)) [l, m, t] else _) = true
      rw [if_neg (by decide +kernel), if_pos rfl]
      show (timesG l m && termG (d + 1) t) = true
      rw [h1, ih k]
      rfl
    | @ask y h1 =>
      show (if ("ask" : Str) = "rest" then _ else if ("ask" : Str) = "round" then _ else lastG (termG (d + 1)) "ask" y) = true
      rw [if_neg (by decide +kernel), if_neg (by decide +kernel)]
      unfold lastG
      rw [if_pos rfl]
      exact h1
    | @thn gs h1 h2 k =>
      show (if ("then" : Str) = "rest" then _ else if ("then" : Str) = "round" then _ else lastG (termG (d + 1)) "then" (.tup gs)) = true
      rw [if_neg (by decide +kernel), if_neg (by decide +kernel)]
      unfold lastG
      rw [if_neg (by decide +kernel), if_pos rfl]
      exact lst (by omega) (by omega) k
    | @frk gs h1 h2 k =>
      show (if ("fork" : Str) = "rest" then _ else if ("fork" : Str) = "round" then _ else lastG (termG (d + 1)) "fork" (.tup gs)) = true
      rw [if_neg (by decide +kernel), if_neg (by decide +kernel)]
      unfold lastG
      rw [if_neg (by decide +kernel), if_neg (by decide +kernel), if_pos rfl]
      exact lst (by omega) (by omega) k
    | @call s h1 =>
      show (if ("call" : Str) = "rest" then _ else if ("call" : Str) = "round" then _ else lastG (termG (d + 1)) "call" (.str s)) = true
      rw [if_neg (by decide +kernel), if_neg (by decide +kernel)]
      unfold lastG
      rw [if_neg (by decide +kernel), if_neg (by decide +kernel), if_neg (by decide +kernel), h1]
      rfl
theorem termG_mono {d e : Nat} (h : d ≤ e) {g : G} (t : termG d g = true) : termG e g = true := by
  induction h with
  | refl => exact t
  | step _ ih => exact termG_up ih
theorem Lv.mono {C : Str → Prop} {R : List Int → Prop} : ∀ {d e : Nat} {t : Tm}, d ≤ e → Lv C R d t → Lv C R e t
  | 0, _, _, _, h => h.elim
  | _ + 1, 0, _, he, _ => absurd he (by omega)
  | d + 1, e + 1, .ask rs, he, h => h
  | d + 1, e + 1, .rest, he, h => h
  | d + 1, e + 1, .call _, he, h => h
  | d + 1, e + 1, .thn ts, he, h => ⟨h.1, fun t ht => Lv.mono (by omega) (h.2 t ht)⟩
  | d + 1, e + 1, .frk ts, he, h => ⟨h.1, fun t ht => Lv.mono (by omega) (h.2 t ht)⟩
  | d + 1, e + 1, .rnd l m t, he, h => ⟨h.1, Lv.mono (by omega) h.2⟩
theorem PN.mono {S : List Int} {d e : Nat} (he : d ≤ e) : ∀ {ps : List (Str × Tm)}, PN S d ps → PN S e ps
  | [], _ => trivial
  | (_, _) :: _, h => ⟨Lv.mono he h.1, PN.mono he h.2⟩
theorem callsG_tm {ns : List Str} {C : Str → Prop} {R : List Int → Prop} (hC : ∀ n, C n → n ∈ ns) : ∀ (d : Nat) (t : Tm), Lv C R d t → callsG ns d (gT t) = true
  | 0, _, h => h.elim
  | d + 1, .ask rs, _ => by
    show (match callOf (.tup [.str "ask", .tup (rs.map G.int)]) with | some s => decide (s ∈ ns) | none => ((subsG (.tup [.str "ask", .tup (rs.map G.int)])).map (callsG ns d)).all id) = true
    rw [call_no (by decide +kernel), subs_ask]
    rfl
  | d + 1, .rest, _ => rfl
  | d + 1, .call n, h => by
    show (match callOf (.tup [.str "call", .str n]) with | some s => decide (s ∈ ns) | none => ((subsG (.tup [.str "call", .str n])).map (callsG ns d)).all id) = true
    rw [call_call]
    exact decide_eq_true (hC n h)
  | d + 1, .thn ts, h => by
    show (match callOf (.tup [.str "then", .tup (gTs ts)]) with | some s => decide (s ∈ ns) | none => ((subsG (.tup [.str "then", .tup (gTs ts)])).map (callsG ns d)).all id) = true
    rw [call_no (by decide +kernel), subs_then, gTs_map]
    refine List.all_eq_true.mpr fun b hb => ?_
    obtain ⟨x, hx, rfl⟩ := List.mem_map.mp hb
    obtain ⟨t, ht, rfl⟩ := List.mem_map.mp hx
    exact callsG_tm hC d t (h.2 t ht)
  | d + 1, .frk ts, h => by
    show (match callOf (.tup [.str "fork", .tup (gTs ts)]) with | some s => decide (s ∈ ns) | none => ((subsG (.tup [.str "fork", .tup (gTs ts)])).map (callsG ns d)).all id) = true
    rw [call_no (by decide +kernel), subs_fork, gTs_map]
    refine List.all_eq_true.mpr fun b hb => ?_
    obtain ⟨x, hx, rfl⟩ := List.mem_map.mp hb
    obtain ⟨t, ht, rfl⟩ := List.mem_map.mp hx
    exact callsG_tm hC d t (h.2 t ht)
  | d + 1, .rnd l m t, h => by
    show (match callOf (.tup [.str "round", .int l, mostT m, gT t]) with | some s => decide (s ∈ ns) | none => ((subsG (.tup [.str "round", .int l, mostT m, gT t])).map (callsG ns d)).all id) = true
    rw [call_no (by decide +kernel), subs_round]
    show (callsG ns d (gT t) && true) = true
    rw [callsG_tm hC d t h.2]
    rfl
/-- a term that is good -/
def Gd : Nat → Tm → Prop
  | 0, _ => False
  | _ + 1, .ask rs => 1 ≤ rs.length ∧ rs.length ≤ 6 ∧ rs.Pairwise (· < ·) ∧ ∀ k ∈ rs, 0 ≤ k ∧ k < 100
  | _ + 1, .rest => True
  | d + 1, .thn ts => (1 ≤ ts.length ∧ ts.length ≤ 8) ∧ ∀ t ∈ ts, Gd d t
  | d + 1, .frk ts => (2 ≤ ts.length ∧ ts.length ≤ 6) ∧ ∀ t ∈ ts, Gd d t
  | d + 1, .rnd l m t => TimesOk l m ∧ Gd d t
  | _ + 1, .call n => NameOk n
theorem Gd.tg : ∀ {d : Nat} {t : Tm}, Gd d t → termG d (gT t) = true
  | 0, _, h => h.elim
  | d + 1, .ask rs, h => tg_ask h.1 h.2.1 h.2.2.1 h.2.2.2
  | d + 1, .rest, _ => tg_rest
  | d + 1, .thn ts, h => tg_thn h.1.1 h.1.2 fun t ht => Gd.tg (h.2 t ht)
  | d + 1, .frk ts, h => tg_frk h.1.1 h.1.2 fun t ht => Gd.tg (h.2 t ht)
  | d + 1, .rnd l m t, h => tg_rnd h.1 (Gd.tg h.2)
  | d + 1, .call n, h => tg_call (name_let h)
theorem Gd.mono : ∀ {d e : Nat} {t : Tm}, d ≤ e → Gd d t → Gd e t
  | 0, _, _, _, h => h.elim
  | _ + 1, 0, _, he, _ => absurd he (by omega)
  | d + 1, e + 1, .ask rs, he, h => h
  | d + 1, e + 1, .rest, he, h => h
  | d + 1, e + 1, .call _, he, h => h
  | d + 1, e + 1, .thn ts, he, h => ⟨h.1, fun t ht => Gd.mono (by omega) (h.2 t ht)⟩
  | d + 1, e + 1, .frk ts, he, h => ⟨h.1, fun t ht => Gd.mono (by omega) (h.2 t ht)⟩
  | d + 1, e + 1, .rnd l m t, he, h => ⟨h.1, Gd.mono (by omega) h.2⟩
/-- a program that is one -/
structure PV (S : List Int) (ps : List (Str × Tm)) : Prop where
  l1 : 1 ≤ ps.length
  l5 : ps.length ≤ 5
  nm : NamesOk (ps.map Prod.fst)
  nd : (ps.map Prod.fst).Nodup
  pn : PN S 6 ps
  tm : ∀ q ∈ ps, Gd 6 q.2
  sb : ∀ k ∈ S, 0 ≤ k ∧ k < 100
def prT (q : Str × Tm) : G := .tup [.str q.1, gT q.2]
theorem nms_of {ps : List (Str × Tm)} (h : NamesOk (ps.map Prod.fst)) : (ps.map prT).filterMap nmG = ps.map Prod.fst := by
  induction ps with
  | nil => rfl
  | cons q ps ih =>
    have e : nmG (prT q) = some q.1 := nm_of (name_let (h q.1 List.mem_cons_self))
    rw [List.map_cons, List.filterMap_cons, e, ih fun x hx => h x (List.mem_cons_of_mem _ hx)]
    rfl
theorem PN.at {S : List Int} {d : Nat} : ∀ {ps : List (Str × Tm)} {i : Nat} {q : Str × Tm}, PN S d ps → ps[i]? = some q → Lv (· ∈ (ps.drop (i + 1)).map Prod.fst) (Few S) d q.2
  | [], i, q, _, e => by simp at e
  | (n, t) :: r, 0, q, h, e => by
    have e2 : (n, t) = q := by simpa using e
    subst e2
    exact h.1
  | (n, t) :: r, i + 1, q, h, e => PN.at (ps := r) (i := i) h.2 (by simpa using e)
theorem PV.ok {S : List Int} {ps : List (Str × Tm)} (v : PV S ps) (i : Nat) : okAt (ps.map prT) i = true := by
  unfold okAt
  cases e : (ps.map prT)[i]? with
  | none => rfl
  | some g =>
    rw [List.getElem?_map] at e
    obtain ⟨q, eq, rfl⟩ := Option.map_eq_some_iff.mp e
    have hq := List.mem_of_getElem? eq
    have hn := name_let (v.nm q.1 (List.mem_map.mpr ⟨q, hq, rfl⟩))
    have e1 : nmG (prT q) = some q.1 := nm_of hn
    have e2 : namesTo (ps.map prT) i = (ps.take i).map Prod.fst := by
      unfold namesTo
      rw [← List.map_take]
      refine nms_of fun x hx => v.nm x ?_
      obtain ⟨y, hy, rfl⟩ := List.mem_map.mp hx
      exact List.mem_map.mpr ⟨y, List.mem_of_mem_take hy, rfl⟩
    have e3 : namesFrom (ps.map prT) i = (ps.drop (i + 1)).map Prod.fst := by
      unfold namesFrom
      rw [← List.map_drop]
      refine nms_of fun x hx => v.nm x ?_
      obtain ⟨y, hy, rfl⟩ := List.mem_map.mp hx
      exact List.mem_map.mpr ⟨y, List.mem_of_mem_drop hy, rfl⟩
    show ((namedG (prT q) && freshG (namesTo (ps.map prT) i) (prT q)) && callsG (namesFrom (ps.map prT) i) 6 (tmOf (prT q))) = true
    have f1 : namedG (prT q) = true := by
      show (letG 6 (.str q.1) && termG 6 (gT q.2)) = true
      rw [hn, (v.tm q hq).tg]
      rfl
    have f2 : freshG (namesTo (ps.map prT) i) (prT q) = true := by
      unfold freshG
      rw [e1, e2]
      show (!decide (q.1 ∈ (ps.take i).map Prod.fst)) = true
      rw [decide_eq_false]
      · rfl
      intro hm
      obtain ⟨j, hj, ej⟩ := List.getElem_of_mem hm
      rw [List.length_map, List.length_take] at hj
      have nd := v.nd
      have h1 : (ps.map Prod.fst)[j]? = some q.1 := by
        rw [List.getElem_map, List.getElem_take] at ej
        rw [List.getElem?_map, List.getElem?_eq_getElem (by omega), ← ej]
        rfl
      have h2 : (ps.map Prod.fst)[i]? = some q.1 := by
        rw [List.getElem?_map, eq]
        rfl
      have := (List.getElem?_inj (by rw [List.length_map]; omega) nd).mp (h1.trans h2.symm)
      omega
    have f3 : callsG (namesFrom (ps.map prT) i) 6 (tmOf (prT q)) = true := by
      rw [e3]
      exact callsG_tm (fun n hn => hn) 6 q.2 (v.pn.at eq)
    rw [f1, f2, f3]
    rfl
theorem PV.look {S : List Int} {ps : List (Str × Tm)} (v : PV S ps) : lookP (.lst (ps.map prT)) = none := by
  have l1 := v.l1
  have l5 := v.l5
  show (if 1 ≤ (ps.map prT).length ∧ (ps.map prT).length ≤ 8 then (fb (okAt (ps.map prT)) (ps.map prT).length 0).map some else some none) = none
  rw [List.length_map, if_pos ⟨l1, by omega⟩, fb_none _ _ fun j _ _ => v.ok j]
  rfl
theorem prl_tg {p : Addr} {H : Hp} : ∀ {ws : List V} {ps : List (Str × Tm)}, PrL H ws ps → TgL p H ws (ps.map prT)
  | [], [], _ => .nil
  | _ :: _, _ :: _, h => by
    obtain ⟨⟨a, u, rfl, pa, tu⟩, r⟩ := h
    exact .cons (.tup (.inl pa) (.cons (.str _) (.cons tu.tg .nil))) (prl_tg r)
  | [], _ :: _, h => h.elim
  | _ :: _, [], h => h.elim
end Su
/-! ### PT: terms and programs that a law draws -/
namespace Su
open PySem PySem.Spec PyProof.Rows L2
theorem NameOk.le {n : Str} (h : NameOk n) : n.cps.size ≤ 6 ∧ ∀ c ∈ n.cps.toList, c < 1000 := ⟨h.1, fun c hc => lett_small c (h.2.2 c hc)⟩
theorem strs_lay : ∀ {ns : List Str}, NamesOk ns → PyData.canLayAll0 (ns.map PyData.str) = true ∧ PyData.depthAll (ns.map PyData.str) = 0
  | [], _ => ⟨by simp [PyData.canLayAll0], by simp [PyData.depthAll]⟩
  | n :: ns, h => by
    obtain ⟨a, b⟩ := strs_lay fun x hx => h x (List.mem_cons_of_mem _ hx)
    have z := (Nc.str (h n List.mem_cons_self).le.1 (h n List.mem_cons_self).le.2).cl
    refine ⟨?_, ?_⟩
    · simp only [List.map_cons, PyData.canLayAll0, a, Bool.and_true]
      exact z
    · simp only [List.map_cons, PyData.depthAll, b, PyData.depth, Nat.max_self]
theorem strs_shaped {ns : List Str} (h : NamesOk ns) : SeqAt.shaped (.list (ns.map PyData.str)) = true := by
  obtain ⟨a, b⟩ := strs_lay h
  unfold SeqAt.shaped
  rw [Bool.and_eq_true, decide_eq_true_eq]
  refine ⟨by simp only [PyData.canLay0, a], ?_⟩
  simp only [PyData.depth, b]
  decide
theorem few_at1 {j : Int} (j0 : 0 ≤ j) (j1 : j < 4) : ∃ m : Int, atI [V.int 1, .int 1, .int 2, .int 3] j = some (.int m) ∧ 1 ≤ m ∧ m ≤ 3 := by
  obtain h | h | h | h : j = 0 ∨ j = 1 ∨ j = 2 ∨ j = 3 := by omega
  · subst h
    exact ⟨1, rfl, by decide, by decide⟩
  · subst h
    exact ⟨1, rfl, by decide, by decide⟩
  · subst h
    exact ⟨2, rfl, by decide, by decide⟩
  · subst h
    exact ⟨3, rfl, by decide, by decide⟩
theorem most_at1 {l e j : Int} (l0 : 0 ≤ l) (l1 : l < 3) (e0 : 0 ≤ e) (e1 : e < 3) (j0 : 0 ≤ j) (j1 : j < 4) : ∃ m : Option Int, atI [V.non, .int l, .int (l + 1), .int (l + e)] j = some (mostV m) ∧ (∀ k, m = some k → 0 ≤ k ∧ k ≤ 100) ∧ ∀ k, m = some k → l ≤ k ∧ k ≤ 12 := by
  obtain h | h | h | h : j = 0 ∨ j = 1 ∨ j = 2 ∨ j = 3 := by omega
  · subst h
    exact ⟨none, rfl, fun k z => (nomatch z), fun k z => (nomatch z)⟩
  · subst h
    exact ⟨some l, rfl, fun k z => (by cases z; omega), fun k z => (by cases z; omega)⟩
  · subst h
    exact ⟨some (l + 1), rfl, fun k z => (by cases z; omega), fun k z => (by cases z; omega)⟩
  · subst h
    exact ⟨some (l + e), rfl, fun k z => (by cases z; omega), fun k z => (by cases z; omega)⟩
def spTerm (d : Nat) : Sp := fun vs H Q _ => ∃ (p n b : Addr) (ns : List Str) (rs : List Int), vs = [.ref p, .int d, .ref n, .ref b] ∧ PoolAt H p ∧ n ≠ p ∧ b ≠ p ∧ H n = some (.lst (ns.map V.str)) ∧ ns.length ≤ 100 ∧ NamesOk ns ∧ H b = some (.lst (rs.map V.int)) ∧ rs.Nodup ∧ rs.length ≤ 1000 ∧ 1 ≤ rs.length ∧ (∀ k ∈ rs, 0 ≤ k ∧ k < 100) ∧ 1 ≤ d ∧
  ∀ (v : V) (H' : Hp) (t : Tm), Kept p H H' → PoolAt H' p → TmAt H' v t → Lv (· ∈ ns) (Few rs) d t → Gd d t → Q v H'
theorem sc_law_term : FnScope ["_law_pool_here", "_law_deep_here", "_law_names_here", "_law_some", "_law_way", "_law_least", "_law_most", "_law_k"] ["_law_pool_here", "_law_deep_here", "_law_names_here", "_law_some"] (defScope s_law_term) := ⟨rfl, rfl, rfl, by decide +kernel, rfl, by decide +kernel, by decide +kernel⟩
section
variable {P : Program} {w : World} {K : PySem.W.Frag} {mg : Str → Option Value} {base : Heap}
theorem ok_term (T : At K mg "_law_term" s_law_term ["_law_pool_here", "_law_deep_here", "_law_names_here", "_law_some"]) (B : Bt mg) (c_take : Cal P w K mg base 1 "_law_take" ["_law_pool_here", "_law_many"] spTake) (c_picked : Cal P w K mg base 2 "_law_picked" ["_law_pool_here", "_law_some", "_law_many"] (spPicked K)) :
    ∀ d : Nat, Cal P w K mg base (d + 3) "_law_term" ["_law_pool_here", "_law_deep_here", "_law_names_here", "_law_some"] (spTerm d)
  | 0 => by
    refine cal_of T sc_law_term (fun vs H Q E h => ?_) (fun f cdv A outer s H vs Q E hr h => ?_)
    · obtain ⟨p, n, b, ns, rs, rfl, _⟩ := h
      rfl
    · obtain ⟨p, n, b, ns, rs, rfl, hp, np, bp, hn, hnl, hno, hb, nd, hrl, hr1, hr99, d1, q⟩ := h
      exact absurd d1 (by decide)
  | d + 1 => by
    have c_term := ok_term T B c_take c_picked d
    refine cal_of T sc_law_term (fun vs H Q E h => ?_) (fun f cdv A outer s H vs Q E hr h => ?_)
    · obtain ⟨p, n, b, ns, rs, rfl, _⟩ := h
      rfl
    · obtain ⟨p, n, b, ns, rs, rfl, hp, np, bp, hn, hnl, hno, hb, nd, hrl, hr1, hr99, d1, q⟩ := h
      refine ⟨_, (pss_cons (ps_set (i := 4) sc_law_term.nd rfl (Or.inl rfl) (pe_own c_take hr (by omega) (by rfl) (pa_cons (pv 0) (pa_cons pe_int pa_nil))))
      (pss_cons (ps_if (pt_cmpR op_eq (pv 4) pe_int (nomark _)) (pss_one (ps_ret (pe_tupF (pa_cons pe_str pa_nil)))) pss_nil)
      (pss_cons (ps_if (PW.pt (pw_and (pt_cmpR op_eq (pv 4) pe_int (nomark _)) (pw_and1 (pt_cmpR (op_neD hr.units) (pv 2) (pe_lst pa_nil) (nomark _))))) (pss_one (ps_ret (pe_tupF (pa_cons pe_str (pa_cons (pe_ix ix_list (pv 2) (pe_own c_take hr (by omega) (by rfl) (pa_cons (pv 0) (pa_cons (pe_callB call_len_seq (by rfl) B.len PySem.boot_len (pa_cons (pv 2) pa_nil)) pa_nil))) (fun _ _ => rfl)) pa_nil))))) pss_nil)
      (pss_cons (ps_if (PW.pt (pw_and (pt_cmpR op_gt (pv 1) pe_int (nomark _)) (pw_and1 (pt_cmpR op_eq (pv 4) pe_int (nomark _))))) (pss_one (ps_ret (pe_tupF (pa_cons pe_str (pa_cons (pe_callTy call_tupleF (by rfl) B.tuple (by decide +kernel) (pa_cons (pe_lc (own := [("_law_k", 7)]) (g := (gName 7)) (tt := tYes) (te := (tCall (spTerm d) [] E0 (tCons (tVar 0) (tCons (tOp (rI0 fun i j => .int (i - j)) (tVar 1) (tC (.int 1))) (tCons (tVar 2) (tCons (tVar 3) tNil)))))) (by rfl) sc_law_term.nd (pi_range1 (by rfl) B.range (pa_cons (pe_op op_add pe_int (pe_own c_take hr (by omega) (by rfl) (pa_cons (pv 0) (pa_cons pe_int pa_nil)))) pa_nil)) (blkOk_by (own := [("_law_k", 7)]) (N := ["_law_pool_here", "_law_deep_here", "_law_names_here", "_law_some", "_law_way", "_law_least", "_law_most", "_law_k"]) (sc := defScope s_law_term) (by decide +kernel)) (fun _ _ _ _ _ => (pg_name (i := 7) sc_law_term.nd rfl (Or.inl rfl))) (fun _ _ _ _ _ => pts_nil) (fun _ _ _ _ _ => (pe_own c_term hr (by omega) (by rfl) (pa_cons (pv 0) (pa_cons (pe_op op_sub (pv 1) pe_int) (pa_cons (pv 2) (pa_cons (pv 3) pa_nil))))))) pa_nil)) pa_nil))))) pss_nil)
      (pss_cons (ps_if (PW.pt (pw_and (pt_cmpR op_gt (pv 1) pe_int (nomark _)) (pw_and1 (pt_cmpR op_eq (pv 4) pe_int (nomark _))))) (pss_one (ps_ret (pe_tupF (pa_cons pe_str (pa_cons (pe_callTy call_tupleF (by rfl) B.tuple (by decide +kernel) (pa_cons (pe_lc (own := [("_law_k", 7)]) (g := (gName 7)) (tt := tYes) (te := (tCall (spTerm d) [] E0 (tCons (tVar 0) (tCons (tOp (rI0 fun i j => .int (i - j)) (tVar 1) (tC (.int 1))) (tCons (tVar 2) (tCons (tVar 3) tNil)))))) (by rfl) sc_law_term.nd (pi_range1 (by rfl) B.range (pa_cons (pe_op op_add pe_int (pe_own c_take hr (by omega) (by rfl) (pa_cons (pv 0) (pa_cons pe_int pa_nil)))) pa_nil)) (blkOk_by (own := [("_law_k", 7)]) (N := ["_law_pool_here", "_law_deep_here", "_law_names_here", "_law_some", "_law_way", "_law_least", "_law_most", "_law_k"]) (sc := defScope s_law_term) (by decide +kernel)) (fun _ _ _ _ _ => (pg_name (i := 7) sc_law_term.nd rfl (Or.inl rfl))) (fun _ _ _ _ _ => pts_nil) (fun _ _ _ _ _ => (pe_own c_term hr (by omega) (by rfl) (pa_cons (pv 0) (pa_cons (pe_op op_sub (pv 1) pe_int) (pa_cons (pv 2) (pa_cons (pv 3) pa_nil))))))) pa_nil)) pa_nil))))) pss_nil)
      (pss_cons (ps_if (PW.pt (pw_and (pt_cmpR op_gt (pv 1) pe_int (nomark _)) (pw_and1 (pt_cmpR op_gt (pv 4) pe_int (nomark _))))) (pss_cons (ps_set (i := 5) sc_law_term.nd rfl (Or.inl rfl) (pe_own c_take hr (by omega) (by rfl) (pa_cons (pv 0) (pa_cons pe_int pa_nil))))
      (pss_cons (ps_set (i := 6) sc_law_term.nd rfl (Or.inl rfl) (pe_ix ix_list (pe_lst (pa_cons pe_non (pa_cons (pv 5) (pa_cons (pe_op op_add (pv 5) pe_int) (pa_cons (pe_op op_add (pv 5) (pe_own c_take hr (by omega) (by rfl) (pa_cons (pv 0) (pa_cons pe_int pa_nil)))) pa_nil))))) (pe_own c_take hr (by omega) (by rfl) (pa_cons (pv 0) (pa_cons pe_int pa_nil))) (fun _ _ => rfl)))
      (pss_one (ps_ret (pe_tupF (pa_cons pe_str (pa_cons (pv 5) (pa_cons (pv 6) (pa_cons (pe_own c_term hr (by omega) (by rfl) (pa_cons (pv 0) (pa_cons (pe_op op_sub (pv 1) pe_int) (pa_cons (pv 2) (pa_cons (pv 3) pa_nil))))) pa_nil))))))))) pss_nil)
      (pss_one (ps_ret (pe_tupF (pa_cons pe_str (pa_cons (pe_callTy call_tupleF (by rfl) B.tuple (by decide +kernel) (pa_cons (pe_own c_picked hr (by omega) (by rfl) (pa_cons (pv 0) (pa_cons (pv 3) (pa_cons (pe_ix ix_list (pe_lst (pa_cons pe_int (pa_cons pe_int (pa_cons pe_int (pa_cons pe_int pa_nil))))) (pe_own c_take hr (by omega) (by rfl) (pa_cons (pv 0) (pa_cons pe_int pa_nil))) (fun _ _ => rfl)) pa_nil)))) pa_nil)) pa_nil))))))))))), ?_⟩
      refine ⟨_, rfl, p, 9, rfl, hp, (by decide), (by decide), fun wy o w0 w1 po => ?_⟩
      have hk1 : Kept p H (upd H p o) := Kept.upd p H o
      have hp1 : PoolAt (upd H p o) p := ⟨o, upd_same, po⟩
      have ask : ∀ (H0 : Hp) (D : Ends) (y5 y6 y7 : Option V), D.rt = Q → Kept p H H0 → PoolAt H0 p → tRet (tTupF (tCons (tC (.str "ask")) (tCons (tCB (rTupL K) (tCons (tCall (spPicked K) [] E0 (tCons (tVar 0) (tCons (tVar 3) (tCons (tOp (rIxL K) (tLst (tCons (tC (.int 1)) (tCons (tC (.int 1)) (tCons (tC (.int 2)) (tCons (tC (.int 3)) tNil))))) (tCall spTake [] E0 (tCons (tVar 0) (tCons (tC (.int 4)) tNil)))) tNil)))) tNil)) tNil))) D [some (.ref p), some (.int ((d + 1 : Nat) : Int)), some (.ref n), some (.ref b), some (.int wy), y5, y6, y7] H0 := by
        intro H0 D y5 y6 y7 hD hk hpo
        refine ⟨_, rfl, _, rfl, (by show 4 ≤ sizeLine; decide), fun L nL => ?_⟩
        have eLp : L ≠ p := pool_ne hpo nL
        have hb0 : H0 b = some (.lst (rs.map V.int)) := hk _ _ hb bp
        have eLb : b ≠ L := ne_of_none hb0 nL
        refine ⟨_, rfl, p, 4, rfl, hpo.upd eLp.symm, (by decide), (by decide), fun j o2 j0 j1 po2 => ?_⟩
        obtain ⟨m, hm, m0', m3⟩ := few_at1 j0 j1
        have m0 : 0 ≤ m := by omega
        refine ⟨_, _, _, _, rfl, rfl, SqL.of (by rw [upd_ne eLp, upd_same]), hm, ?_⟩
        refine ⟨p, b, rs, m, rfl, ⟨o2, upd_same, po2⟩, SqL.of (by rw [upd_ne bp, upd_ne eLb]; exact hb0), bp, nd, hrl, m0, fun q1 H5 ms n5 k5 hp5 h5 nd5 sub5 len5 pw5 => ?_⟩
        refine ⟨q1, _, rfl, SqL.of h5, fun u H6 s6 n6 pu => ?_⟩
        refine ⟨(by show 2 ≤ sizeLine; decide), fun a H7 s7 n7 pa => ?_⟩
        rw [hD]
        have kk : Kept p H H7 := ((((hk.trans (Kept.same (same_upd nL))).trans (Kept.upd p _ o2)).trans k5).trans (Kept.same (s6.trans s7)))
        exact q (.ref a) H7 (.ask ms) kk (hp5.same (s6.trans s7)) (.ask pa (pu.same s7)) ⟨by omega, sub5⟩ ⟨by omega, by omega, pw_lt pw5 nd5, fun k hk => hr99 k (sub5 k hk)⟩
      obtain h | h | h | h | h | h | h | h | h : wy = 0 ∨ wy = 1 ∨ wy = 2 ∨ wy = 3 ∨ wy = 4 ∨ wy = 5 ∨ wy = 6 ∨ wy = 7 ∨ wy = 8 := by omega
      · subst h
        refine ⟨_, rfl, rfl, _, rfl, iteB (fun z => absurd z (by decide +kernel)) (fun _ => ?_)⟩
        refine ⟨_, rfl, rfl, _, rfl, iteB (fun z => absurd z (by decide +kernel)) (fun _ => iteF ?_)⟩
        by_cases hd1 : 1 ≤ d
        · refine ⟨_, rfl, _, _, rfl, rfl, _, rfl, iteB (fun _ => ?_) (fun z => absurd (of_decide_eq_false z) (by omega))⟩
          refine ⟨_, rfl, rfl, _, rfl, iteB (fun z => absurd z (by decide +kernel)) (fun _ => ?_)⟩
          refine ⟨_, rfl, _, _, rfl, rfl, _, rfl, iteB (fun _ => ?_) (fun z => absurd (of_decide_eq_false z) (by omega))⟩
          refine ⟨_, rfl, rfl, _, rfl, iteB (fun z => absurd z (by decide +kernel)) (fun _ => ?_)⟩
          refine ⟨_, rfl, _, _, rfl, rfl, _, rfl, iteB (fun _ => ?_) (fun z => absurd (of_decide_eq_false z) (by omega))⟩
          refine ⟨_, rfl, _, _, rfl, rfl, _, rfl, iteB (fun z => absurd z (by decide +kernel)) (fun _ => ?_)⟩
          exact ask _ _ none none none rfl hk1 hp1
        · refine ⟨_, rfl, _, _, rfl, rfl, _, rfl, iteB (fun z => absurd (of_decide_eq_true z) (by omega)) (fun _ => iteF ?_)⟩
          refine ⟨_, rfl, _, _, rfl, rfl, _, rfl, iteB (fun z => absurd (of_decide_eq_true z) (by omega)) (fun _ => iteF ?_)⟩
          refine ⟨_, rfl, _, _, rfl, rfl, _, rfl, iteB (fun z => absurd (of_decide_eq_true z) (by omega)) (fun _ => iteF ?_)⟩
          exact ask _ _ none none none rfl hk1 hp1
      · subst h
        refine ⟨_, rfl, rfl, _, rfl, iteB (fun z => absurd z (by decide +kernel)) (fun _ => ?_)⟩
        refine ⟨_, rfl, rfl, _, rfl, iteB (fun z => absurd z (by decide +kernel)) (fun _ => iteF ?_)⟩
        by_cases hd1 : 1 ≤ d
        · refine ⟨_, rfl, _, _, rfl, rfl, _, rfl, iteB (fun _ => ?_) (fun z => absurd (of_decide_eq_false z) (by omega))⟩
          refine ⟨_, rfl, rfl, _, rfl, iteB (fun z => absurd z (by decide +kernel)) (fun _ => ?_)⟩
          refine ⟨_, rfl, _, _, rfl, rfl, _, rfl, iteB (fun _ => ?_) (fun z => absurd (of_decide_eq_false z) (by omega))⟩
          refine ⟨_, rfl, rfl, _, rfl, iteB (fun z => absurd z (by decide +kernel)) (fun _ => ?_)⟩
          refine ⟨_, rfl, _, _, rfl, rfl, _, rfl, iteB (fun _ => ?_) (fun z => absurd (of_decide_eq_false z) (by omega))⟩
          refine ⟨_, rfl, _, _, rfl, rfl, _, rfl, iteB (fun z => absurd z (by decide +kernel)) (fun _ => ?_)⟩
          exact ask _ _ none none none rfl hk1 hp1
        · refine ⟨_, rfl, _, _, rfl, rfl, _, rfl, iteB (fun z => absurd (of_decide_eq_true z) (by omega)) (fun _ => iteF ?_)⟩
          refine ⟨_, rfl, _, _, rfl, rfl, _, rfl, iteB (fun z => absurd (of_decide_eq_true z) (by omega)) (fun _ => iteF ?_)⟩
          refine ⟨_, rfl, _, _, rfl, rfl, _, rfl, iteB (fun z => absurd (of_decide_eq_true z) (by omega)) (fun _ => iteF ?_)⟩
          exact ask _ _ none none none rfl hk1 hp1
      · subst h
        refine ⟨_, rfl, rfl, _, rfl, iteB (fun z => absurd z (by decide +kernel)) (fun _ => ?_)⟩
        refine ⟨_, rfl, rfl, _, rfl, iteB (fun z => absurd z (by decide +kernel)) (fun _ => iteF ?_)⟩
        by_cases hd1 : 1 ≤ d
        · refine ⟨_, rfl, _, _, rfl, rfl, _, rfl, iteB (fun _ => ?_) (fun z => absurd (of_decide_eq_false z) (by omega))⟩
          refine ⟨_, rfl, rfl, _, rfl, iteB (fun z => absurd z (by decide +kernel)) (fun _ => ?_)⟩
          refine ⟨_, rfl, _, _, rfl, rfl, _, rfl, iteB (fun _ => ?_) (fun z => absurd (of_decide_eq_false z) (by omega))⟩
          refine ⟨_, rfl, rfl, _, rfl, iteB (fun z => absurd z (by decide +kernel)) (fun _ => ?_)⟩
          refine ⟨_, rfl, _, _, rfl, rfl, _, rfl, iteB (fun _ => ?_) (fun z => absurd (of_decide_eq_false z) (by omega))⟩
          refine ⟨_, rfl, _, _, rfl, rfl, _, rfl, iteB (fun z => absurd z (by decide +kernel)) (fun _ => ?_)⟩
          exact ask _ _ none none none rfl hk1 hp1
        · refine ⟨_, rfl, _, _, rfl, rfl, _, rfl, iteB (fun z => absurd (of_decide_eq_true z) (by omega)) (fun _ => iteF ?_)⟩
          refine ⟨_, rfl, _, _, rfl, rfl, _, rfl, iteB (fun z => absurd (of_decide_eq_true z) (by omega)) (fun _ => iteF ?_)⟩
          refine ⟨_, rfl, _, _, rfl, rfl, _, rfl, iteB (fun z => absurd (of_decide_eq_true z) (by omega)) (fun _ => iteF ?_)⟩
          exact ask _ _ none none none rfl hk1 hp1
      · subst h
        refine ⟨_, rfl, rfl, _, rfl, iteB (fun _ => ?_) (fun z => absurd z (by decide +kernel))⟩
        refine ⟨(by show 1 ≤ sizeLine; decide), fun a H7 s7 n7 pa => ?_⟩
        exact q (.ref a) H7 .rest (hk1.trans (Kept.same s7)) (hp1.same s7) (.rest pa) trivial trivial
      · subst h
        refine ⟨_, rfl, rfl, _, rfl, iteB (fun z => absurd z (by decide +kernel)) (fun _ => ?_)⟩
        refine ⟨_, rfl, rfl, _, rfl, iteB (fun _ => ?_) (fun z => absurd z (by decide +kernel))⟩
        refine ⟨_, rfl, Nat.zero_le _, fun c nc => ?_⟩
        have ecp : c ≠ p := pool_ne hp1 nc
        have hn1 : (upd H p o) n = some (.lst (ns.map V.str)) := hk1 _ _ hn np
        have ecn : n ≠ c := ne_of_none hn1 nc
        have hk2 : Kept p H (upd (upd H p o) c (.lst [])) := hk1.trans (Kept.same (same_upd nc))
        have hp2 : PoolAt (upd (upd H p o) c (.lst [])) p := hp1.upd ecp.symm
        have hn2 := hk2 _ _ hn np
        refine ⟨_, _, .lst (SqL.of hn2) (dp_strs ns), .lst (SqL.of upd_same) .nil, strs_shaped hno, shaped_nil, _, rfl, ?_⟩
        cases ns with
        | nil =>
          refine iteF ?_
          by_cases hd1 : 1 ≤ d
          · refine ⟨_, rfl, _, _, rfl, rfl, _, rfl, iteB (fun _ => ?_) (fun z => absurd (of_decide_eq_false z) (by omega))⟩
            refine ⟨_, rfl, rfl, _, rfl, iteB (fun z => absurd z (by decide +kernel)) (fun _ => ?_)⟩
            refine ⟨_, rfl, _, _, rfl, rfl, _, rfl, iteB (fun _ => ?_) (fun z => absurd (of_decide_eq_false z) (by omega))⟩
            refine ⟨_, rfl, rfl, _, rfl, iteB (fun z => absurd z (by decide +kernel)) (fun _ => ?_)⟩
            refine ⟨_, rfl, _, _, rfl, rfl, _, rfl, iteB (fun _ => ?_) (fun z => absurd (of_decide_eq_false z) (by omega))⟩
            refine ⟨_, rfl, _, _, rfl, rfl, _, rfl, iteB (fun z => absurd z (by decide +kernel)) (fun _ => ?_)⟩
            exact ask _ _ none none none rfl hk2 hp2
          · refine ⟨_, rfl, _, _, rfl, rfl, _, rfl, iteB (fun z => absurd (of_decide_eq_true z) (by omega)) (fun _ => iteF ?_)⟩
            refine ⟨_, rfl, _, _, rfl, rfl, _, rfl, iteB (fun z => absurd (of_decide_eq_true z) (by omega)) (fun _ => iteF ?_)⟩
            refine ⟨_, rfl, _, _, rfl, rfl, _, rfl, iteB (fun z => absurd (of_decide_eq_true z) (by omega)) (fun _ => iteF ?_)⟩
            exact ask _ _ none none none rfl hk2 hp2
        | cons n0 nr =>
          refine iteT ?_
          refine ⟨_, rfl, _, rfl, _, rfl, n, _, rfl, .inl (SqL.of hn2), p, _, rfl, hp2, ?_, ?_, fun r o2 r0 r1 po2 => ?_⟩
          · rw [List.length_map, List.length_cons]
            omega
          · rw [List.length_map]
            omega
          · rw [List.length_map] at r1
            have hr1 : r.toNat < (n0 :: nr).length := by omega
            have hg : ((n0 :: nr).map V.str)[r.toNat]? = some (.str (n0 :: nr)[r.toNat]) := by
              rw [List.getElem?_map, List.getElem?_eq_getElem hr1]
              rfl
            have hmem : (n0 :: nr)[r.toNat] ∈ (n0 :: nr) := List.getElem_mem hr1
            generalize (n0 :: nr)[r.toNat] = nm at *
            refine ⟨_, _, _, _, rfl, rfl, SqL.of (by rw [upd_ne np]; exact hn2), atI_int r0 hg, ?_⟩
            refine ⟨(by show 2 ≤ sizeLine; decide), fun a H7 s7 n7 pa => ?_⟩
            exact q (.ref a) H7 (.call nm) ((hk2.trans (Kept.upd p _ o2)).trans (Kept.same s7)) (PoolAt.same ⟨o2, upd_same, po2⟩ s7) (.call pa) hmem (hno _ hmem)
      · subst h
        refine ⟨_, rfl, rfl, _, rfl, iteB (fun z => absurd z (by decide +kernel)) (fun _ => ?_)⟩
        refine ⟨_, rfl, rfl, _, rfl, iteB (fun z => absurd z (by decide +kernel)) (fun _ => iteF ?_)⟩
        by_cases hd1 : 1 ≤ d
        · refine ⟨_, rfl, _, _, rfl, rfl, _, rfl, iteB (fun _ => ?_) (fun z => absurd (of_decide_eq_false z) (by omega))⟩
          refine ⟨_, rfl, rfl, _, rfl, iteB (fun _ => ?_) (fun z => absurd z (by decide +kernel))⟩
          refine ⟨_, rfl, p, 3, rfl, hp1, (by decide), (by decide), fun r2 o2 r20 r21 po2 => ?_⟩
          refine ⟨_, _, rfl, rfl, _, rfl, (by omega), (by omega), fun D nD => ?_⟩
          obtain ⟨eDp, nD1⟩ := free_upd nD
          have nD0 : H D = none := hk1.free eDp nD1
          have hk2 := hk1.trans (Kept.upd p _ o2)
          refine lc_range (lo := 0) (n := (1 + r2).toNat) (fun i H2 => ∃ (vs : List V) (ts : List Tm), H2 D = some (.lst vs) ∧ TmL H2 vs ts ∧ ts.length = i ∧ (∀ t ∈ ts, Lv (· ∈ ns) (Few rs) d t ∧ Gd d t) ∧ PoolAt H2 p ∧ Kept p H H2) ?_ ?_ ?_
          · exact ⟨[], [], upd_same, .nil, rfl, fun _ hx => (List.not_mem_nil hx).elim, PoolAt.upd ⟨o2, upd_same, po2⟩ eDp.symm, hk2.set nD0⟩
          · rintro i H2 hi ⟨vs, ts, hD, tl, htl, hts, hpo, hk⟩
            refine ⟨rfl, tyes ?_⟩
            refine ⟨_, rfl, _, rfl, _, _, rfl, rfl, _, rfl, _, rfl, p, n, b, ns, rs, (by show [V.ref p, V.int (((d + 1 : Nat) : Int) - 1), .ref n, .ref b] = _; rw [show ((d + 1 : Nat) : Int) - 1 = (d : Int) by omega]), hpo, np, bp, hk _ _ hn np, hnl, hno, hk _ _ hb bp, nd, hrl, hr1, hr99, hd1, fun v H3 t k3 hp3 ht hlv htg => ?_⟩
            have h3 : H3 D = some (.lst vs) := k3 _ _ hD eDp
            have hvl : vs.length = ts.length := tl.len
            refine ⟨vs, h3, small1000 (by omega), vs ++ [v], ts ++ [t], upd_same, ?_, ?_, ?_, hp3.upd eDp.symm, (hk.trans k3).set nD0⟩
            · exact TmL.snoc (ht.keep (KT.upd h3)) (tl.keep ((KT.of k3 hpo).trans (KT.upd h3)))
            · rw [List.length_append, htl]
              rfl
            · intro x hx
              rcases List.mem_append.mp hx with z | z
              · exact hts x z
              · rw [List.mem_singleton.mp z]
                exact ⟨hlv, htg⟩
          · rintro H2 ⟨vs, ts, hD, tl, htl, hts, hpo, hk⟩
            refine ⟨D, _, rfl, SqL.of hD, fun u H6 s6 n6 pu => ?_⟩
            refine ⟨(by show 2 ≤ sizeLine; decide), fun a H7 s7 n7 pa => ?_⟩
            exact q (.ref a) H7 (.thn ts) (hk.trans (Kept.same (s6.trans s7))) (hpo.same (s6.trans s7)) (.thn pa (pu.same s7) (tl.keep (KT.same (s6.trans s7)))) ⟨by omega, fun t ht => (hts t ht).1⟩ ⟨⟨by omega, by omega⟩, fun t ht => (hts t ht).2⟩
        · refine ⟨_, rfl, _, _, rfl, rfl, _, rfl, iteB (fun z => absurd (of_decide_eq_true z) (by omega)) (fun _ => iteF ?_)⟩
          refine ⟨_, rfl, _, _, rfl, rfl, _, rfl, iteB (fun z => absurd (of_decide_eq_true z) (by omega)) (fun _ => iteF ?_)⟩
          refine ⟨_, rfl, _, _, rfl, rfl, _, rfl, iteB (fun z => absurd (of_decide_eq_true z) (by omega)) (fun _ => iteF ?_)⟩
          exact ask _ _ none none none rfl hk1 hp1
      · subst h
        refine ⟨_, rfl, rfl, _, rfl, iteB (fun z => absurd z (by decide +kernel)) (fun _ => ?_)⟩
        refine ⟨_, rfl, rfl, _, rfl, iteB (fun z => absurd z (by decide +kernel)) (fun _ => iteF ?_)⟩
        by_cases hd1 : 1 ≤ d
        · refine ⟨_, rfl, _, _, rfl, rfl, _, rfl, iteB (fun _ => ?_) (fun z => absurd (of_decide_eq_false z) (by omega))⟩
          refine ⟨_, rfl, rfl, _, rfl, iteB (fun z => absurd z (by decide +kernel)) (fun _ => ?_)⟩
          refine ⟨_, rfl, _, _, rfl, rfl, _, rfl, iteB (fun _ => ?_) (fun z => absurd (of_decide_eq_false z) (by omega))⟩
          refine ⟨_, rfl, rfl, _, rfl, iteB (fun _ => ?_) (fun z => absurd z (by decide +kernel))⟩
          refine ⟨_, rfl, p, 2, rfl, hp1, (by decide), (by decide), fun r2 o2 r20 r21 po2 => ?_⟩
          refine ⟨_, _, rfl, rfl, _, rfl, (by omega), (by omega), fun D nD => ?_⟩
          obtain ⟨eDp, nD1⟩ := free_upd nD
          have nD0 : H D = none := hk1.free eDp nD1
          have hk2 := hk1.trans (Kept.upd p _ o2)
          refine lc_range (lo := 0) (n := (2 + r2).toNat) (fun i H2 => ∃ (vs : List V) (ts : List Tm), H2 D = some (.lst vs) ∧ TmL H2 vs ts ∧ ts.length = i ∧ (∀ t ∈ ts, Lv (· ∈ ns) (Few rs) d t ∧ Gd d t) ∧ PoolAt H2 p ∧ Kept p H H2) ?_ ?_ ?_
          · exact ⟨[], [], upd_same, .nil, rfl, fun _ hx => (List.not_mem_nil hx).elim, PoolAt.upd ⟨o2, upd_same, po2⟩ eDp.symm, hk2.set nD0⟩
          · rintro i H2 hi ⟨vs, ts, hD, tl, htl, hts, hpo, hk⟩
            refine ⟨rfl, tyes ?_⟩
            refine ⟨_, rfl, _, rfl, _, _, rfl, rfl, _, rfl, _, rfl, p, n, b, ns, rs, (by show [V.ref p, V.int (((d + 1 : Nat) : Int) - 1), .ref n, .ref b] = _; rw [show ((d + 1 : Nat) : Int) - 1 = (d : Int) by omega]), hpo, np, bp, hk _ _ hn np, hnl, hno, hk _ _ hb bp, nd, hrl, hr1, hr99, hd1, fun v H3 t k3 hp3 ht hlv htg => ?_⟩
            have h3 : H3 D = some (.lst vs) := k3 _ _ hD eDp
            have hvl : vs.length = ts.length := tl.len
            refine ⟨vs, h3, small1000 (by omega), vs ++ [v], ts ++ [t], upd_same, ?_, ?_, ?_, hp3.upd eDp.symm, (hk.trans k3).set nD0⟩
            · exact TmL.snoc (ht.keep (KT.upd h3)) (tl.keep ((KT.of k3 hpo).trans (KT.upd h3)))
            · rw [List.length_append, htl]
              rfl
            · intro x hx
              rcases List.mem_append.mp hx with z | z
              · exact hts x z
              · rw [List.mem_singleton.mp z]
                exact ⟨hlv, htg⟩
          · rintro H2 ⟨vs, ts, hD, tl, htl, hts, hpo, hk⟩
            refine ⟨D, _, rfl, SqL.of hD, fun u H6 s6 n6 pu => ?_⟩
            refine ⟨(by show 2 ≤ sizeLine; decide), fun a H7 s7 n7 pa => ?_⟩
            exact q (.ref a) H7 (.frk ts) (hk.trans (Kept.same (s6.trans s7))) (hpo.same (s6.trans s7)) (.frk pa (pu.same s7) (tl.keep (KT.same (s6.trans s7)))) ⟨by omega, fun t ht => (hts t ht).1⟩ ⟨⟨by omega, by omega⟩, fun t ht => (hts t ht).2⟩
        · refine ⟨_, rfl, _, _, rfl, rfl, _, rfl, iteB (fun z => absurd (of_decide_eq_true z) (by omega)) (fun _ => iteF ?_)⟩
          refine ⟨_, rfl, _, _, rfl, rfl, _, rfl, iteB (fun z => absurd (of_decide_eq_true z) (by omega)) (fun _ => iteF ?_)⟩
          refine ⟨_, rfl, _, _, rfl, rfl, _, rfl, iteB (fun z => absurd (of_decide_eq_true z) (by omega)) (fun _ => iteF ?_)⟩
          exact ask _ _ none none none rfl hk1 hp1
      · subst h
        refine ⟨_, rfl, rfl, _, rfl, iteB (fun z => absurd z (by decide +kernel)) (fun _ => ?_)⟩
        refine ⟨_, rfl, rfl, _, rfl, iteB (fun z => absurd z (by decide +kernel)) (fun _ => iteF ?_)⟩
        by_cases hd1 : 1 ≤ d
        · refine ⟨_, rfl, _, _, rfl, rfl, _, rfl, iteB (fun _ => ?_) (fun z => absurd (of_decide_eq_false z) (by omega))⟩
          refine ⟨_, rfl, rfl, _, rfl, iteB (fun z => absurd z (by decide +kernel)) (fun _ => ?_)⟩
          refine ⟨_, rfl, _, _, rfl, rfl, _, rfl, iteB (fun _ => ?_) (fun z => absurd (of_decide_eq_false z) (by omega))⟩
          refine ⟨_, rfl, rfl, _, rfl, iteB (fun z => absurd z (by decide +kernel)) (fun _ => ?_)⟩
          refine ⟨_, rfl, _, _, rfl, rfl, _, rfl, iteB (fun _ => ?_) (fun z => absurd (of_decide_eq_false z) (by omega))⟩
          refine ⟨_, rfl, _, _, rfl, rfl, _, rfl, iteB (fun _ => ?_) (fun z => absurd z (by decide +kernel))⟩
          refine ⟨_, rfl, p, 3, rfl, hp1, (by decide), (by decide), fun l o2 l0 l1 po2 => ?_⟩
          have hp2 : PoolAt (upd (upd H p o) p o2) p := ⟨o2, upd_same, po2⟩
          refine ⟨_, rfl, _, rfl, _, _, rfl, rfl, _, rfl, _, rfl, p, 3, rfl, hp2, (by decide), (by decide), fun e o3 e0 e1 po3 => ?_⟩
          refine ⟨_, _, rfl, rfl, (by show 4 ≤ sizeLine; decide), fun L nL => ?_⟩
          have hp3 : PoolAt (upd (upd (upd H p o) p o2) p o3) p := ⟨o3, upd_same, po3⟩
          have eLp : L ≠ p := pool_ne hp3 nL
          refine ⟨_, rfl, p, 4, rfl, hp3.upd eLp.symm, (by decide), (by decide), fun j o4 j0 j1 po4 => ?_⟩
          obtain ⟨m, hm, hmk, hmk2⟩ := most_at1 (e := e) l0 l1 e0 e1 j0 j1
          refine ⟨_, _, _, _, rfl, rfl, SqL.of (by rw [upd_ne eLp, upd_same]), hm, ?_⟩
          have hk3 : Kept p H (upd (upd (upd H p o) p o2) p o3) := (hk1.trans (Kept.upd p _ o2)).trans (Kept.upd p _ o3)
          have hk4 : Kept p H (upd (upd (upd (upd (upd H p o) p o2) p o3) L (.lst [V.non, .int l, .int (l + 1), .int (l + e)])) p o4) := (hk3.trans (Kept.same (same_upd nL))).trans (Kept.upd p _ o4)
          refine ⟨_, rfl, _, rfl, _, rfl, _, rfl, _, _, rfl, rfl, _, rfl, _, rfl, p, n, b, ns, rs, (by show [V.ref p, V.int (((d + 1 : Nat) : Int) - 1), .ref n, .ref b] = _; rw [show ((d + 1 : Nat) : Int) - 1 = (d : Int) by omega]), ⟨o4, upd_same, po4⟩, np, bp, hk4 _ _ hn np, hnl, hno, hk4 _ _ hb bp, nd, hrl, hr1, hr99, hd1, fun v H6 t k6 hp6 ht hlv htg => ?_⟩
          refine ⟨(by show 4 ≤ sizeLine; decide), fun a H7 s7 n7 pa => ?_⟩
          exact q (.ref a) H7 (.rnd l m t) ((hk4.trans k6).trans (Kept.same s7)) (hp6.same s7) (.rnd pa (ht.keep (KT.same s7))) ⟨⟨l0, by omega, hmk⟩, hlv⟩ ⟨⟨l0, by omega, hmk2⟩, htg⟩
        · refine ⟨_, rfl, _, _, rfl, rfl, _, rfl, iteB (fun z => absurd (of_decide_eq_true z) (by omega)) (fun _ => iteF ?_)⟩
          refine ⟨_, rfl, _, _, rfl, rfl, _, rfl, iteB (fun z => absurd (of_decide_eq_true z) (by omega)) (fun _ => iteF ?_)⟩
          refine ⟨_, rfl, _, _, rfl, rfl, _, rfl, iteB (fun z => absurd (of_decide_eq_true z) (by omega)) (fun _ => iteF ?_)⟩
          exact ask _ _ none none none rfl hk1 hp1
      · subst h
        refine ⟨_, rfl, rfl, _, rfl, iteB (fun z => absurd z (by decide +kernel)) (fun _ => ?_)⟩
        refine ⟨_, rfl, rfl, _, rfl, iteB (fun z => absurd z (by decide +kernel)) (fun _ => iteF ?_)⟩
        by_cases hd1 : 1 ≤ d
        · refine ⟨_, rfl, _, _, rfl, rfl, _, rfl, iteB (fun _ => ?_) (fun z => absurd (of_decide_eq_false z) (by omega))⟩
          refine ⟨_, rfl, rfl, _, rfl, iteB (fun z => absurd z (by decide +kernel)) (fun _ => ?_)⟩
          refine ⟨_, rfl, _, _, rfl, rfl, _, rfl, iteB (fun _ => ?_) (fun z => absurd (of_decide_eq_false z) (by omega))⟩
          refine ⟨_, rfl, rfl, _, rfl, iteB (fun z => absurd z (by decide +kernel)) (fun _ => ?_)⟩
          refine ⟨_, rfl, _, _, rfl, rfl, _, rfl, iteB (fun _ => ?_) (fun z => absurd (of_decide_eq_false z) (by omega))⟩
          refine ⟨_, rfl, _, _, rfl, rfl, _, rfl, iteB (fun _ => ?_) (fun z => absurd z (by decide +kernel))⟩
          refine ⟨_, rfl, p, 3, rfl, hp1, (by decide), (by decide), fun l o2 l0 l1 po2 => ?_⟩
          have hp2 : PoolAt (upd (upd H p o) p o2) p := ⟨o2, upd_same, po2⟩
          refine ⟨_, rfl, _, rfl, _, _, rfl, rfl, _, rfl, _, rfl, p, 3, rfl, hp2, (by decide), (by decide), fun e o3 e0 e1 po3 => ?_⟩
          refine ⟨_, _, rfl, rfl, (by show 4 ≤ sizeLine; decide), fun L nL => ?_⟩
          have hp3 : PoolAt (upd (upd (upd H p o) p o2) p o3) p := ⟨o3, upd_same, po3⟩
          have eLp : L ≠ p := pool_ne hp3 nL
          refine ⟨_, rfl, p, 4, rfl, hp3.upd eLp.symm, (by decide), (by decide), fun j o4 j0 j1 po4 => ?_⟩
          obtain ⟨m, hm, hmk, hmk2⟩ := most_at1 (e := e) l0 l1 e0 e1 j0 j1
          refine ⟨_, _, _, _, rfl, rfl, SqL.of (by rw [upd_ne eLp, upd_same]), hm, ?_⟩
          have hk3 : Kept p H (upd (upd (upd H p o) p o2) p o3) := (hk1.trans (Kept.upd p _ o2)).trans (Kept.upd p _ o3)
          have hk4 : Kept p H (upd (upd (upd (upd (upd H p o) p o2) p o3) L (.lst [V.non, .int l, .int (l + 1), .int (l + e)])) p o4) := (hk3.trans (Kept.same (same_upd nL))).trans (Kept.upd p _ o4)
          refine ⟨_, rfl, _, rfl, _, rfl, _, rfl, _, _, rfl, rfl, _, rfl, _, rfl, p, n, b, ns, rs, (by show [V.ref p, V.int (((d + 1 : Nat) : Int) - 1), .ref n, .ref b] = _; rw [show ((d + 1 : Nat) : Int) - 1 = (d : Int) by omega]), ⟨o4, upd_same, po4⟩, np, bp, hk4 _ _ hn np, hnl, hno, hk4 _ _ hb bp, nd, hrl, hr1, hr99, hd1, fun v H6 t k6 hp6 ht hlv htg => ?_⟩
          refine ⟨(by show 4 ≤ sizeLine; decide), fun a H7 s7 n7 pa => ?_⟩
          exact q (.ref a) H7 (.rnd l m t) ((hk4.trans k6).trans (Kept.same s7)) (hp6.same s7) (.rnd pa (ht.keep (KT.same s7))) ⟨⟨l0, by omega, hmk⟩, hlv⟩ ⟨⟨l0, by omega, hmk2⟩, htg⟩
        · refine ⟨_, rfl, _, _, rfl, rfl, _, rfl, iteB (fun z => absurd (of_decide_eq_true z) (by omega)) (fun _ => iteF ?_)⟩
          refine ⟨_, rfl, _, _, rfl, rfl, _, rfl, iteB (fun z => absurd (of_decide_eq_true z) (by omega)) (fun _ => iteF ?_)⟩
          refine ⟨_, rfl, _, _, rfl, rfl, _, rfl, iteB (fun z => absurd (of_decide_eq_true z) (by omega)) (fun _ => iteF ?_)⟩
          exact ask _ _ none none none rfl hk1 hp1
end
def spProgram : Sp := fun vs H Q _ => ∃ (p b : Addr) (most : Int) (d : Nat) (rs : List Int), vs = [.ref p, .int most, .int d, .ref b] ∧ PoolAt H p ∧ b ≠ p ∧ H b = some (.lst (rs.map V.int)) ∧ rs.Nodup ∧ rs.length ≤ 1000 ∧ 1 ≤ rs.length ∧ (∀ k ∈ rs, 0 ≤ k ∧ k < 100) ∧ 1 ≤ d ∧ d ≤ 5 ∧ 1 ≤ most ∧ most ≤ 6 ∧
  ∀ (u : Addr) (H' : Hp) (ws : List V) (ps : List (Str × Tm)), H u = none → Kept p H H' → PoolAt H' p → H' u = some (.lst ws) → PrL H' ws ps → PN rs d ps → NamesOk (ps.map Prod.fst) → 1 ≤ ps.length → (ps.length : Int) ≤ most → (∀ q ∈ ps, Gd d q.2) → (ps.map Prod.fst).Nodup → (∃ l : Nat, ∀ n ∈ ps.map Prod.fst, n.cps.size = l) → Q (.ref u) H'
theorem sc_law_program : FnScope ["_law_pool_here", "_law_most", "_law_deep_here", "_law_some", "_law_names_here", "_law_k", "_law_name"] ["_law_pool_here", "_law_most", "_law_deep_here", "_law_some"] (defScope s_law_program) := ⟨rfl, rfl, rfl, by decide +kernel, rfl, by decide +kernel, by decide +kernel⟩
section
variable {P : Program} {w : World} {K : PySem.W.Frag} {mg : Str → Option Value} {base : Heap}
theorem ok_program (T : At K mg "_law_program" s_law_program ["_law_pool_here", "_law_most", "_law_deep_here", "_law_some"]) (B : Bt mg) (c_take : Cal P w K mg base 1 "_law_take" ["_law_pool_here", "_law_many"] spTake) (c_names : Cal P w K mg base 2 "_law_names" ["_law_pool_here", "_law_many"] spNames)
    (c_term : ∀ d, Cal P w K mg base (d + 3) "_law_term" ["_law_pool_here", "_law_deep_here", "_law_names_here", "_law_some"] (spTerm d)) : Cal P w K mg base 9 "_law_program" ["_law_pool_here", "_law_most", "_law_deep_here", "_law_some"] spProgram := by
  refine cal_of T sc_law_program (fun vs H Q E h => ?_) (fun f cdv A outer s H vs Q E hr h => ?_)
  · obtain ⟨p, b, most, d, rs, rfl, _⟩ := h
    rfl
  · obtain ⟨p, b, most, d, rs, rfl, hp, bp, hb, nd, hrl, hr1, hr99, d1, d5, mo1, mo6, q⟩ := h
    have c_term := c_term d
    refine ⟨_, (pss_cons (ps_set (i := 4) sc_law_program.nd rfl (Or.inr rfl) (pe_own c_names hr (by omega) (by rfl) (pa_cons (pv 0) (pa_cons (pe_op op_add pe_int (pe_own c_take hr (by omega) (by rfl) (pa_cons (pv 0) (pa_cons (pv 1) pa_nil)))) pa_nil))))
      (pss_one (ps_ret (pe_lc (own := [("_law_k", 5), ("_law_name", 6)]) (g := (gTup K 2 (gCons (gName 5) (gCons (gName 6) gNil)))) (tt := tYes) (te := (tTupF (tCons (tVar 6) (tCons (tCall (spTerm d) [] E0 (tCons (tVar 0) (tCons (tVar 2) (tCons (tSl (rSlL K) (tVar 4) (tPart (tOp (rI0 fun i j => .int (i + j)) (tVar 5) (tC (.int 1)))) tNoPart) (tCons (tVar 3) tNil))))) tNil)))) (by rfl) sc_law_program.nd (pi_enum (by rfl) B.enumerate (pa_cons (pv 4) pa_nil)) (blkOk_by (own := [("_law_k", 5), ("_law_name", 6)]) (N := ["_law_pool_here", "_law_most", "_law_deep_here", "_law_some", "_law_names_here", "_law_k", "_law_name"]) (sc := defScope s_law_program) (by decide +kernel)) (fun _ _ _ _ _ => (pg_tup (by rfl) (pgs_cons (pg_name (i := 5) sc_law_program.nd rfl (Or.inl rfl)) (pgs_cons (pg_name (i := 6) sc_law_program.nd rfl (Or.inl rfl)) pgs_nil)))) (fun _ _ _ _ _ => pts_nil) (fun _ _ _ _ _ => (pe_tupF (pa_cons (pv 6) (pa_cons (pe_own c_term hr (by omega) (by rfl) (pa_cons (pv 0) (pa_cons (pv 2) (pa_cons (pe_slice sl_list (pv 4) (po_some (pe_op op_add (pv 5) pe_int)) po_none) (pa_cons (pv 3) pa_nil))))) pa_nil)))))))), ?_⟩
    refine ⟨_, rfl, _, rfl, _, rfl, p, most, rfl, hp, mo1, (by omega), fun r o r0 r1 po => ?_⟩
    have hk1 : Kept p H (upd H p o) := Kept.upd p H o
    refine ⟨_, _, rfl, rfl, p, _, rfl, ⟨o, upd_same, po⟩, (by omega), (by omega), fun N H1 ns lN nN k1 hp1 hN hno hnl ndN hlN => ?_⟩
    have eNp : N ≠ p := (free_upd nN).1
    have nN0 : H N = none := (free_upd nN).2
    have hk2 := hk1.trans k1
    have hb1 : H1 b = some (.lst (rs.map V.int)) := hk2 _ _ hb bp
    refine ⟨_, rfl, N, _, rfl, SqL.of hN, fun D nD => ?_⟩
    have eDp : D ≠ p := pool_ne hp1 nD
    have eDN : N ≠ D := ne_of_none hN nD
    have nD0 : H D = none := hk2.free eDp nD
    refine lc_enumS (K := K) (a := N) (xs := ns.map V.str) (fun i H2 => ∃ (ws : List V) (ps : List (Str × Tm)), H2 D = some (.lst ws) ∧ PrL H2 ws ps ∧ ps.map Prod.fst = ns.take i ∧ (∀ k q, ps[k]? = some q → Lv (· ∈ ns.drop (k + 1)) (Few rs) d q.2) ∧ (∀ q ∈ ps, Gd d q.2) ∧ H2 N = some (.lst (ns.map V.str)) ∧ PoolAt H2 p ∧ Kept p H H2) ?_ ?_ ?_ ?_
    · exact ⟨[], [], upd_same, trivial, rfl, fun k q e => by simp at e, fun q hq => (List.not_mem_nil hq).elim, (by rw [upd_ne eDN]; exact hN), hp1.upd eDp.symm, hk2.set nD0⟩
    · rintro i H2 _ ⟨_, _, _, _, _, _, _, h, _, _⟩
      exact SqL.of h
    · rintro i x H2 T hx ⟨ws, ps, hD, pr, hpf, hps, htm, hN2, hpo, hk⟩ nT
      have hil : i < ns.length := by
        have z := (List.getElem?_eq_some_iff.mp hx).1
        rwa [List.length_map] at z
      obtain ⟨nm, hnm, rfl⟩ : ∃ nm, ns[i]? = some nm ∧ x = .str nm := by
        rw [List.getElem?_map, List.getElem?_eq_getElem hil] at hx
        exact ⟨_, List.getElem?_eq_getElem hil, by injection hx with hx; exact hx.symm⟩
      have sT : Same H2 (upd H2 T (.tup [.int (i : Nat), .str nm])) := same_upd nT
      refine ⟨T, _, rfl, SqT.of upd_same, rfl, _, _, rfl, _, _, rfl, rfl, rfl, tyes ?_⟩
      refine ⟨_, rfl, _, rfl, _, rfl, _, rfl, _, rfl, _, _, rfl, rfl, _, rfl, N, _, rfl, SqL.of (sT _ _ hN2), fun L nL => ?_⟩
      rw [cut_drop (by rw [List.length_map]; omega), ← List.map_drop]
      generalize hH3 : upd H2 T (.tup [.int (i : Nat), .str nm]) = H3 at *
      have hpo3 : PoolAt H3 p := hpo.same sT
      have eLp : L ≠ p := pool_ne hpo3 nL
      have sL : Same H3 (upd H3 L (.lst ((ns.drop (i + 1)).map V.str))) := same_upd nL
      have hk4 : Kept p H (upd H3 L (.lst ((ns.drop (i + 1)).map V.str))) := hk.trans (Kept.same (sT.trans sL))
      refine ⟨_, rfl, p, L, b, ns.drop (i + 1), rs, rfl, hpo3.upd eLp.symm, eLp, bp, upd_same, ?_, ?_, hk4 _ _ hb bp, nd, hrl, hr1, hr99, d1, fun v H5 t k5 hp5 ht hlv htg => ?_⟩
      · rw [List.length_drop]
        omega
      · intro y hy
        exact hno y (List.mem_of_mem_drop hy)
      · refine ⟨(by show 2 ≤ sizeLine; decide), fun a H6 s6 n6 pa => ?_⟩
        have hpl : ws.length = ps.length := pr.len
        have hpl2 : ps.length = i := by
          have z := congrArg List.length hpf
          rw [List.length_map, List.length_take] at z
          omega
        have k26 : Kept p H2 H6 := ((Kept.same (sT.trans sL)).trans k5).trans (Kept.same s6)
        have h6 : H6 D = some (.lst ws) := k26 _ _ hD eDp
        refine ⟨ws, h6, small1000 (by omega), ws ++ [.ref a], ps ++ [(nm, t)], upd_same, ?_, ?_, ?_, ?tm, ?_, (hp5.same s6).upd eDp.symm, (hk.trans k26).set nD0⟩
        case tm =>
          intro q hq
          rcases List.mem_append.mp hq with z | z
          · exact htm q z
          · rw [List.mem_singleton.mp z]
            exact htg
        · refine PrL.snoc (q := (nm, t)) (KT.upd h6 _ _ pa) ((ht.keep (KT.same s6)).keep (KT.upd h6)) (pr.keep ((KT.of k26 hpo).trans (KT.upd h6)))
        · rw [List.map_append, hpf, List.take_add_one, hnm]
          rfl
        · intro k q0 e
          rcases Nat.lt_or_ge k ps.length with z | z
          · rw [List.getElem?_append_left z] at e
            exact hps k q0 e
          · rw [List.getElem?_append_right z] at e
            have ek : k = ps.length := by
              have := (List.getElem?_eq_some_iff.mp e).1
              rw [List.length_singleton] at this
              omega
            subst ek
            rw [Nat.sub_self] at e
            have e2 : (nm, t) = q0 := by simpa using e
            subst e2
            rw [hpl2]
            exact hlv
        · rw [upd_ne eDN]
          exact k26 _ _ hN2 eNp
    · rintro H2 ⟨ws, ps, hD, pr, hpf, hps, htm, hN2, hpo, hk⟩
      rw [List.length_map, List.take_length] at hpf
      have hpl : ps.length = ns.length := by rw [← hpf, List.length_map]
      refine q D H2 ws ps nD0 hk hpo hD pr (PN.of ?_) ?_ ?_ ?_ htm ?_ ⟨lN, ?_⟩
      · rw [hpf]
        exact hps
      · rw [hpf]
        exact hno
      · omega
      · omega
      · rw [hpf]
        exact ndN
      · rw [hpf]
        exact hlN
end
end Su
/-! ### QN: numbers of programs -/
namespace Su
open PySem PySem.Spec PyProof.Rows L2
theorem reachF_cong {C : Str → Prop} {R : List Int → Prop} {e1 e2 : Str → Int} (h : ∀ n, C n → e1 n = e2 n) : ∀ (d : Nat) (t : Tm), Lv C R d t → reachF e1 d t = reachF e2 d t
  | 0, _, z => z.elim
  | d + 1, .ask rs, _ => rfl
  | d + 1, .rest, _ => rfl
  | d + 1, .thn ts, z => by
    show (ts.map (reachF e1 d)).sum = (ts.map (reachF e2 d)).sum
    rw [List.map_congr_left fun t ht => reachF_cong h d t (z.2 t ht)]
  | d + 1, .frk ts, z => by
    show (ts.map (reachF e1 d)).sum + 1 = (ts.map (reachF e2 d)).sum + 1
    rw [List.map_congr_left fun t ht => reachF_cong h d t (z.2 t ht)]
  | d + 1, .rnd l none t, z => by
    show reachF e1 d t * (l + 1) + 1 = reachF e2 d t * (l + 1) + 1
    rw [reachF_cong h d t z.2]
  | d + 1, .rnd l (some k) t, z => by
    show reachF e1 d t * k + k - l = reachF e2 d t * k + k - l
    rw [reachF_cong h d t z.2]
  | d + 1, .call n, z => h n z
theorem reachF_up {C : Str → Prop} {R : List Int → Prop} (env : Str → Int) : ∀ (d : Nat) (t : Tm), Lv C R d t → reachF env (d + 1) t = reachF env d t
  | 0, _, z => z.elim
  | d + 1, .ask rs, _ => rfl
  | d + 1, .rest, _ => rfl
  | d + 1, .thn ts, z => by
    show (ts.map (reachF env (d + 1))).sum = (ts.map (reachF env d)).sum
    rw [List.map_congr_left fun t ht => reachF_up env d t (z.2 t ht)]
  | d + 1, .frk ts, z => by
    show (ts.map (reachF env (d + 1))).sum + 1 = (ts.map (reachF env d)).sum + 1
    rw [List.map_congr_left fun t ht => reachF_up env d t (z.2 t ht)]
  | d + 1, .rnd l none t, z => by
    show reachF env (d + 1) t * (l + 1) + 1 = reachF env d t * (l + 1) + 1
    rw [reachF_up env d t z.2]
  | d + 1, .rnd l (some k) t, z => by
    show reachF env (d + 1) t * k + k - l = reachF env d t * k + k - l
    rw [reachF_up env d t z.2]
  | d + 1, .call n, z => rfl
theorem roomsF_up {C : Str → Prop} {R : List Int → Prop} : ∀ (d : Nat) (t : Tm), Lv C R d t → roomsF (d + 1) t = roomsF d t
  | 0, _, z => z.elim
  | d + 1, .ask rs, _ => rfl
  | d + 1, .rest, _ => rfl
  | d + 1, .thn ts, z => by
    show (ts.map (roomsF (d + 1))).flatten = (ts.map (roomsF d)).flatten
    rw [List.map_congr_left fun t ht => roomsF_up d t (z.2 t ht)]
  | d + 1, .frk ts, z => by
    show (ts.map (roomsF (d + 1))).flatten = (ts.map (roomsF d)).flatten
    rw [List.map_congr_left fun t ht => roomsF_up d t (z.2 t ht)]
  | d + 1, .rnd l m t, z => roomsF_up d t z.2
  | d + 1, .call n, z => rfl
theorem roomsF_any {C C' : Str → Prop} {R R' : List Int → Prop} {d e : Nat} {t : Tm} (h : Lv C R d t) (he : d ≤ e) : roomsF e t = roomsF d t := by
  induction he with
  | refl => rfl
  | step h2 ih => rw [roomsF_up _ t (Lv.mono h2 h), ih]
theorem reachF_any {C : Str → Prop} {R : List Int → Prop} {env : Str → Int} {d e : Nat} {t : Tm} (h : Lv C R d t) (he : d ≤ e) : reachF env e t = reachF env d t := by
  induction he with
  | refl => rfl
  | step h2 ih => rw [reachF_up env _ t (Lv.mono h2 h), ih]
def RE (D : Nat) (ps : List (Str × Tm)) (env : Str → Int) : Prop := ∀ q ∈ ps, env q.1 = reachF env D q.2
theorem envOf_put (kvs : List (Key × V)) (n m : Str) (i : Int) : envOf (putK kvs (Sum.inr n) (.int i)) m = if m = n then i else envOf kvs m := by
  unfold envOf
  rw [valV_put]
  by_cases h : m = n
  · rw [if_pos h, if_pos (by rw [h])]
  · rw [if_neg h, if_neg (by intro z; injection z with z; exact h z)]
theorem rk_RE {S : List Int} {D : Nat} : ∀ {ps : List (Str × Tm)}, PN S D ps → (ps.map Prod.fst).Nodup → RE D ps (envOf (rk D ps))
  | [], _, _ => fun q hq => (List.not_mem_nil hq).elim
  | (n, t) :: r, h, nd => by
    have n1 := (List.nodup_cons.mp nd).1
    have ih := rk_RE h.2 (List.nodup_cons.mp nd).2
    have ag : ∀ m, m ∈ r.map Prod.fst → envOf (rk D ((n, t) :: r)) m = envOf (rk D r) m := by
      intro m hm
      show envOf (putK (rk D r) (Sum.inr n) _) m = _
      rw [envOf_put, if_neg]
      intro e
      exact n1 (e ▸ hm)
    intro q hq
    rcases List.mem_cons.mp hq with rfl | hq
    · show envOf (putK (rk D r) (Sum.inr n) (.int (reachF (envOf (rk D r)) D t))) n = _
      rw [envOf_put, if_pos rfl]
      exact reachF_cong (fun m hm => (ag m hm).symm) D t h.1
    · rw [ag q.1 (List.mem_map.mpr ⟨q, hq, rfl⟩), ih q hq]
      exact reachF_cong (fun m hm => (ag m hm).symm) D q.2 (PN.names h.2 q hq)
theorem RE_one {S : List Int} {D : Nat} {e1 e2 : Str → Int} : ∀ {ps : List (Str × Tm)}, PN S D ps → RE D ps e1 → RE D ps e2 → ∀ n ∈ ps.map Prod.fst, e1 n = e2 n
  | [], _, _, _, n, hn => (List.not_mem_nil hn).elim
  | (m, t) :: r, h, h1, h2, n, hn => by
    have ih := RE_one h.2 (fun q hq => h1 q (List.mem_cons_of_mem _ hq)) (fun q hq => h2 q (List.mem_cons_of_mem _ hq))
    rcases List.mem_cons.mp hn with rfl | hn
    · rw [h1 (n, t) List.mem_cons_self, h2 (n, t) List.mem_cons_self]
      exact reachF_cong ih D t h.1
    · exact ih n hn
theorem top_RE {S : List Int} {D : Nat} {env : Str → Int} {n : Str} {t : Tm} {r : List (Str × Tm)} (h : PN S D ((n, t) :: r)) (nd : (r.map Prod.fst).Nodup) (e : RE D r env) : topReach D ((n, t) :: r) = reachF env D t :=
  reachF_cong (RE_one h.2 (rk_RE h.2 nd) e) D t h.1
theorem rk_has {D : Nat} {n : Str} : ∀ {ps : List (Str × Tm)}, n ∈ ps.map Prod.fst → HasC (rk D ps) n
  | [], h => (List.not_mem_nil h).elim
  | (m, t) :: r, h => by
    unfold HasC
    show ∃ i, valV (putK (rk D r) (Sum.inr m) _) (Sum.inr n) = some (.int i)
    rw [valV_put]
    by_cases e : (Sum.inr n : Key) = Sum.inr m
    · rw [if_pos e]
      exact ⟨_, rfl⟩
    · rw [if_neg e]
      rcases List.mem_cons.mp h with z | z
      · exact (e (by rw [z])).elim
      · exact rk_has z
theorem PN.po {S : List Int} {d : Nat} : ∀ {ps : List (Str × Tm)}, PN S d ps → PO d ps
  | [], _ => trivial
  | (_, _) :: _, h => ⟨h.1.imp (fun _ z => rk_has z) (fun _ _ => trivial), PN.po h.2⟩
theorem PV.okS {S : List Int} {ps : List (Str × Tm)} (v : PV S ps) : okSs (ps.map prT) = true := by
  refine okSs_of fun g hg => ?_
  obtain ⟨q, hq, rfl⟩ := List.mem_map.mp hg
  have h1 := (v.nm q.1 (List.mem_map.mpr ⟨q, hq, rfl⟩))
  have h2 := (tm_nc (fun n hn => (v.nm n hn).le) v.sb 6 q.2 (PN.names v.pn q hq)).st
  have e1 : decide (q.1.length ≤ 1000) = true := by
    have := h1.1
    exact decide_eq_true (by show q.1.cps.size ≤ 1000; omega)
  show okSs [.str q.1, gT q.2] = true
  simp only [okSs, h2, Bool.and_true]
  exact e1
def spNumbers : Sp := fun vs H Q _ => ∃ (p : Addr) (ws : List V) (ps : List (Str × Tm)) (S : List Int), vs = [.ref p] ∧ H p = some (.lst ws) ∧ PrL H ws ps ∧ PV S ps ∧ S.length < 64 ∧
  ∀ (u r : Addr) (ms : List Int) (H' : Hp), Same H H' → H u = none → H r = none → u ≠ r → H' u = some (.lst [.int (topReach 6 ps), .ref r]) → H' r = some (.lst (ms.map V.int)) → ms.Pairwise (· < ·) → (∀ k, k ∈ ms ↔ k ∈ roomsL 6 ps) → Q (.ref u) H'
theorem sc_law_numbers : FnScope ["_law_program_here"] ["_law_program_here"] (defScope s_law_numbers) := ⟨rfl, rfl, rfl, by decide +kernel, rfl, by decide +kernel, by decide +kernel⟩
section
variable {P : Program} {w : World} {K : PySem.W.Frag} {mg : Str → Option Value} {base : Heap}
theorem ok_numbers {C : Addr} (T : At K mg "_law_numbers" s_law_numbers ["_law_program_here"]) (B : Bt mg) (c_look_at_program : CalX P w K mg base 19 "look_at_program" ["thing"] (spLookP C)) (c_reach : Cal P w K mg base 10 "reach" ["program"] (spTopReach 6)) (c_rooms_of : Cal P w K mg base 9 "rooms_of" ["program"] (spRoomsOf 6)) :
    Cal P w K mg base 20 "_law_numbers" ["_law_program_here"] spNumbers := by
  refine cal_of T sc_law_numbers (fun vs H Q E h => ?_) (fun f cdv A outer s H vs Q E hr h => ?_)
  · obtain ⟨p, ws, ps, S, rfl, _⟩ := h
    rfl
  · obtain ⟨p, ws, ps, S, rfl, hp, pr, v, hS, q⟩ := h
    refine ⟨_, (pss_cons (ps_if (pt_cmpR op_notN (pe_ownX takes0 c_look_at_program hr (by decide) (by rfl) (pa_cons (pv 0) pa_nil)) pe_non (nomark _)) (pss_one (ps_ret pe_non)) pss_nil)
      (pss_one (ps_ret (pe_lst (pa_cons (pe_own c_reach hr (by decide) (by rfl) (pa_cons (pv 0) pa_nil)) (pa_cons (pe_own c_rooms_of hr (by decide) (by rfl) (pa_cons (pv 0) pa_nil)) pa_nil)))))), ?_⟩
    have nn : ps ≠ [] := by
      intro e
      have := v.l1
      rw [e] at this
      cases this
    have l5 := v.l5
    have tg : Tg (p + 1) H (.ref p) (.lst (ps.map prT)) := .lst (Nat.ne_of_lt (Nat.lt_succ_self p)) hp (prl_tg pr)
    refine ⟨_, rfl, p + 1, .ref p, _, rfl, tg, v.okS, fun _ H1 s1 => ?_, fun r e => ?_⟩
    rotate_left
    · rw [v.look] at e
      cases e
    refine ⟨rfl, _, rfl, iteB (fun z => absurd z (by decide)) (fun _ => ?_)⟩
    have hp1 := s1 _ _ hp
    have pr1 := pr.keep (KT.same s1)
    refine ⟨_, rfl, p, ws, ps, rfl, hp1, pr1, v.pn.po, nn, by omega, fun H2 s2 => ?_⟩
    refine ⟨_, rfl, p, ws, ps, S, rfl, s2 _ _ hp1, pr1.keep (KT.same s2), PN.all v.pn, (by show ps.length * 729 ≤ 4000; omega), hS, fun ms r H3 pw mem s3 nr hr3 => ?_⟩
    refine ⟨(by show 2 ≤ sizeLine; decide), fun u nu => ?_⟩
    have su := same_upd (o := .lst [V.int (topReach 6 ps), V.ref r]) nu
    have s13 := (s1.trans s2).trans s3
    exact q u r ms _ (s13.trans su) (s13.free nu) ((s1.trans s2).free nr) (ne_of_none hr3 nu).symm upd_same (su _ _ hr3) pw mem
end
end Su
/-! ### QR: terms called otherwise -/
namespace Su
open PySem PySem.Spec PyProof.Rows L2
mutual
def callT (f : Str → Str) : Tm → Tm
  | .ask rs => .ask rs
  | .rest => .rest
  | .thn ts => .thn (callTs f ts)
  | .frk ts => .frk (callTs f ts)
  | .rnd l m t => .rnd l m (callT f t)
  | .call n => .call (f n)
def callTs (f : Str → Str) : List Tm → List Tm
  | [] => []
  | t :: ts => callT f t :: callTs f ts
end
theorem callTs_map (f : Str → Str) : ∀ ts : List Tm, callTs f ts = ts.map (callT f)
  | [] => rfl
  | t :: ts => by
    show callT f t :: callTs f ts = callT f t :: ts.map (callT f)
    rw [callTs_map f ts]
theorem callT_thn (f : Str → Str) (ts : List Tm) : callT f (.thn ts) = .thn (ts.map (callT f)) := by
  rw [← callTs_map]
  rfl
theorem callT_frk (f : Str → Str) (ts : List Tm) : callT f (.frk ts) = .frk (ts.map (callT f)) := by
  rw [← callTs_map]
  rfl
theorem callT_lv {C C' : Str → Prop} {R : List Int → Prop} {f : Str → Str} (h : ∀ n, C n → C' (f n)) : ∀ (d : Nat) (t : Tm), Lv C R d t → Lv C' R d (callT f t)
  | 0, _, z => z.elim
  | d + 1, .ask rs, z => z
  | d + 1, .rest, _ => trivial
  | d + 1, .thn ts, z => by
    rw [callT_thn]
    refine ⟨by rw [List.length_map]; exact z.1, fun x hx => ?_⟩
    obtain ⟨t, ht, rfl⟩ := List.mem_map.mp hx
    exact callT_lv h d t (z.2 t ht)
  | d + 1, .frk ts, z => by
    rw [callT_frk]
    refine ⟨by rw [List.length_map]; exact z.1, fun x hx => ?_⟩
    obtain ⟨t, ht, rfl⟩ := List.mem_map.mp hx
    exact callT_lv h d t (z.2 t ht)
  | d + 1, .rnd l m t, z => ⟨z.1, callT_lv h d t z.2⟩
  | d + 1, .call n, z => h n z
theorem callT_gd {C : Str → Prop} {R : List Int → Prop} {f : Str → Str} (h : ∀ n, C n → NameOk (f n)) : ∀ (d : Nat) (t : Tm), Lv C R d t → Gd d t → Gd d (callT f t)
  | 0, _, z, _ => z.elim
  | d + 1, .ask rs, _, g => g
  | d + 1, .rest, _, _ => trivial
  | d + 1, .thn ts, z, g => by
    rw [callT_thn]
    refine ⟨by rw [List.length_map]; exact g.1, fun x hx => ?_⟩
    obtain ⟨t, ht, rfl⟩ := List.mem_map.mp hx
    exact callT_gd h d t (z.2 t ht) (g.2 t ht)
  | d + 1, .frk ts, z, g => by
    rw [callT_frk]
    refine ⟨by rw [List.length_map]; exact g.1, fun x hx => ?_⟩
    obtain ⟨t, ht, rfl⟩ := List.mem_map.mp hx
    exact callT_gd h d t (z.2 t ht) (g.2 t ht)
  | d + 1, .rnd l m t, z, g => ⟨g.1, callT_gd h d t z.2 g.2⟩
  | d + 1, .call n, z, _ => h n z
theorem callT_reach {C : Str → Prop} {R : List Int → Prop} {f : Str → Str} {e1 e2 : Str → Int} (h : ∀ n, C n → e2 (f n) = e1 n) : ∀ (d : Nat) (t : Tm), Lv C R d t → reachF e2 d (callT f t) = reachF e1 d t
  | 0, _, z => z.elim
  | d + 1, .ask rs, _ => rfl
  | d + 1, .rest, _ => rfl
  | d + 1, .thn ts, z => by
    rw [callT_thn]
    show ((ts.map (callT f)).map (reachF e2 d)).sum = (ts.map (reachF e1 d)).sum
    rw [List.map_map, show ts.map (reachF e2 d ∘ callT f) = ts.map (reachF e1 d) from List.map_congr_left fun t ht => callT_reach h d t (z.2 t ht)]
  | d + 1, .frk ts, z => by
    rw [callT_frk]
    show ((ts.map (callT f)).map (reachF e2 d)).sum + 1 = (ts.map (reachF e1 d)).sum + 1
    rw [List.map_map, show ts.map (reachF e2 d ∘ callT f) = ts.map (reachF e1 d) from List.map_congr_left fun t ht => callT_reach h d t (z.2 t ht)]
  | d + 1, .rnd l none t, z => by
    show reachF e2 d (callT f t) * (l + 1) + 1 = reachF e1 d t * (l + 1) + 1
    rw [callT_reach h d t z.2]
  | d + 1, .rnd l (some k) t, z => by
    show reachF e2 d (callT f t) * k + k - l = reachF e1 d t * k + k - l
    rw [callT_reach h d t z.2]
  | d + 1, .call n, z => h n z
theorem callT_rooms {f : Str → Str} : ∀ (d : Nat) (t : Tm), roomsF d (callT f t) = roomsF d t
  | 0, _ => rfl
  | d + 1, .ask rs => rfl
  | d + 1, .rest => rfl
  | d + 1, .thn ts => by
    rw [callT_thn]
    show ((ts.map (callT f)).map (roomsF d)).flatten = (ts.map (roomsF d)).flatten
    rw [List.map_map, show ts.map (roomsF d ∘ callT f) = ts.map (roomsF d) from List.map_congr_left fun t _ => callT_rooms d t]
  | d + 1, .frk ts => by
    rw [callT_frk]
    show ((ts.map (callT f)).map (roomsF d)).flatten = (ts.map (roomsF d)).flatten
    rw [List.map_map, show ts.map (roomsF d ∘ callT f) = ts.map (roomsF d) from List.map_congr_left fun t _ => callT_rooms d t]
  | d + 1, .rnd l m t => callT_rooms d t
  | d + 1, .call n => rfl
/-! terms opened -/
def openF (tm : Str → Tm) : Nat → Tm → Tm
  | 0, t => t
  | k + 1, .call n => openF tm k (tm n)
  | k + 1, .thn ts => .thn (ts.map (openF tm k))
  | k + 1, .frk ts => .frk (ts.map (openF tm k))
  | k + 1, .rnd l m t => .rnd l m (openF tm k t)
  | _ + 1, .ask rs => .ask rs
  | _ + 1, .rest => .rest
def Op (C : Str → Prop) (tm : Str → Tm) : Nat → Tm → Prop
  | 0, _ => False
  | k + 1, .call n => C n ∧ Op C tm k (tm n)
  | k + 1, .thn ts => ts.length ≤ 3 ∧ ∀ t ∈ ts, Op C tm k t
  | k + 1, .frk ts => ts.length ≤ 3 ∧ ∀ t ∈ ts, Op C tm k t
  | k + 1, .rnd _ _ t => Op C tm k t
  | _ + 1, .ask _ => True
  | _ + 1, .rest => True
theorem Op.mono {C C' : Str → Prop} {tm : Str → Tm} (hC : ∀ n, C n → C' n) : ∀ {k j : Nat} {t : Tm}, k ≤ j → Op C tm k t → Op C' tm j t
  | 0, _, _, _, h => h.elim
  | _ + 1, 0, _, he, _ => absurd he (by omega)
  | k + 1, j + 1, .call n, he, h => ⟨hC n h.1, Op.mono hC (by omega) h.2⟩
  | k + 1, j + 1, .thn ts, he, h => ⟨h.1, fun t ht => Op.mono hC (by omega) (h.2 t ht)⟩
  | k + 1, j + 1, .frk ts, he, h => ⟨h.1, fun t ht => Op.mono hC (by omega) (h.2 t ht)⟩
  | k + 1, j + 1, .rnd l m t, he, h => Op.mono (t := t) hC (by omega) h
  | k + 1, j + 1, .ask rs, he, h => trivial
  | k + 1, j + 1, .rest, he, h => trivial
/-- a term may be opened where all that it calls may be -/
theorem Op.of {C : Str → Prop} {tm : Str → Tm} {C0 : Str → Prop} {R : List Int → Prop} {j : Nat} (h : ∀ n, C0 n → C n ∧ Op C tm j (tm n)) : ∀ (d : Nat) (t : Tm), Lv C0 R d t → Op C tm (d + j) t
  | 0, _, z => z.elim
  | d + 1, .ask rs, _ => by
    rw [Nat.succ_add]
    trivial
  | d + 1, .rest, _ => by
    rw [Nat.succ_add]
    trivial
  | d + 1, .thn ts, z => by
    rw [Nat.succ_add]
    exact ⟨z.1, fun t ht => Op.of h d t (z.2 t ht)⟩
  | d + 1, .frk ts, z => by
    rw [Nat.succ_add]
    exact ⟨z.1, fun t ht => Op.of h d t (z.2 t ht)⟩
  | d + 1, .rnd l m t, z => by
    rw [Nat.succ_add]
    exact Op.of h d t z.2
  | d + 1, .call n, z => by
    rw [Nat.succ_add]
    obtain ⟨a, b⟩ := h n z
    exact ⟨a, Op.mono (fun _ h => h) (by omega) b⟩
theorem op_prog {S : List Int} {D : Nat} {tm : Str → Tm} : ∀ {ps : List (Str × Tm)}, PN S D ps → (∀ q ∈ ps, tm q.1 = q.2) → ∀ q ∈ ps, Op (· ∈ ps.map Prod.fst) tm (D * ps.length) q.2
  | [], _, _, q, hq => (List.not_mem_nil hq).elim
  | (n, t) :: r, h, ht, q, hq => by
    have ih := op_prog h.2 fun q hq => ht q (List.mem_cons_of_mem _ hq)
    rcases List.mem_cons.mp hq with rfl | hq
    · have z := Op.of (C := (· ∈ ((n, t) :: r).map Prod.fst)) (tm := tm) (j := D * r.length) (fun m hm => ?_) D t h.1
      · rw [List.length_cons, Nat.mul_succ, Nat.add_comm]
        exact z
      · obtain ⟨q, hq, rfl⟩ := List.mem_map.mp hm
        refine ⟨List.mem_cons_of_mem _ hm, ?_⟩
        rw [ht q (List.mem_cons_of_mem _ hq)]
        exact Op.mono (fun _ h => List.mem_cons_of_mem _ h) (Nat.le_refl _) (ih q hq)
    · exact Op.mono (fun _ h => List.mem_cons_of_mem _ h) (Nat.mul_le_mul_left _ (by rw [List.length_cons]; omega)) (ih q hq)
/-! how deep -/
def mx : List Int → Int
  | [] => 0
  | x :: xs => max x (mx xs)
theorem mx_ub : ∀ (ns : List Int), ∀ y ∈ (0 :: ns), y ≤ mx ns
  | [], y, hy => by
    rw [List.mem_singleton.mp hy]
    exact Int.le_refl _
  | x :: xs, y, hy => by
    have ih := mx_ub xs
    have e : mx (x :: xs) = max x (mx xs) := rfl
    rw [e]
    rcases List.mem_cons.mp hy with rfl | hy
    · have := ih 0 List.mem_cons_self
      omega
    · rcases List.mem_cons.mp hy with rfl | hy
      · omega
      · have := ih y (List.mem_cons_of_mem _ hy)
        omega
theorem mx_mem : ∀ (ns : List Int), mx ns ∈ (0 :: ns)
  | [] => List.mem_singleton.mpr rfl
  | x :: xs => by
    have ih := mx_mem xs
    have e : mx (x :: xs) = max x (mx xs) := rfl
    rw [e]
    rcases Int.le_total x (mx xs) with h | h
    · rw [Int.max_eq_right h]
      rcases List.mem_cons.mp ih with z | z
      · rw [z]
        exact List.mem_cons_self
      · exact List.mem_cons_of_mem _ (List.mem_cons_of_mem _ z)
    · rw [Int.max_eq_left h]
      exact List.mem_cons_of_mem _ List.mem_cons_self
theorem mx_is {ns : List Int} {m : Int} (h1 : m ∈ (0 :: ns)) (h2 : ∀ y ∈ (0 :: ns), y ≤ m) : m = mx ns := Int.le_antisymm (mx_ub ns m h1) (h2 _ (mx_mem ns))
def deepF (env : Str → Int) : Nat → Tm → Int
  | 0, _ => 0
  | d + 1, .thn ts => 1 + mx (ts.map (deepF env d))
  | d + 1, .frk ts => 1 + mx (ts.map (deepF env d))
  | d + 1, .rnd _ _ t => 1 + mx [deepF env d t]
  | _ + 1, .ask _ => 1 + mx []
  | _ + 1, .rest => 1 + mx []
  | _ + 1, .call n => env n
theorem deepF_subs {env : Str → Int} {d : Nat} {t : Tm} (h : ∀ n, t ≠ .call n) : deepF env (d + 1) t = 1 + mx ((subs t).map (deepF env d)) := by
  cases t with
  | call n => exact (h n rfl).elim
  | _ => rfl
theorem deepF_cong {C : Str → Prop} {R : List Int → Prop} {e1 e2 : Str → Int} (h : ∀ n, C n → e1 n = e2 n) : ∀ (d : Nat) (t : Tm), Lv C R d t → deepF e1 d t = deepF e2 d t
  | 0, _, z => z.elim
  | d + 1, .ask rs, _ => rfl
  | d + 1, .rest, _ => rfl
  | d + 1, .thn ts, z => by
    show 1 + mx (ts.map (deepF e1 d)) = 1 + mx (ts.map (deepF e2 d))
    rw [List.map_congr_left fun t ht => deepF_cong h d t (z.2 t ht)]
  | d + 1, .frk ts, z => by
    show 1 + mx (ts.map (deepF e1 d)) = 1 + mx (ts.map (deepF e2 d))
    rw [List.map_congr_left fun t ht => deepF_cong h d t (z.2 t ht)]
  | d + 1, .rnd l m t, z => by
    show 1 + mx [deepF e1 d t] = 1 + mx [deepF e2 d t]
    rw [deepF_cong h d t z.2]
  | d + 1, .call n, z => h n z
def dk (D : Nat) : List (Str × Tm) → List (Key × V)
  | [] => []
  | (n, t) :: r => putK (dk D r) (Sum.inr n) (.int (deepF (envOf (dk D r)) D t))
def DE (D : Nat) (ps : List (Str × Tm)) (env : Str → Int) : Prop := ∀ q ∈ ps, env q.1 = deepF env D q.2
theorem dk_DE {S : List Int} {D : Nat} : ∀ {ps : List (Str × Tm)}, PN S D ps → (ps.map Prod.fst).Nodup → DE D ps (envOf (dk D ps))
  | [], _, _ => fun q hq => (List.not_mem_nil hq).elim
  | (n, t) :: r, h, nd => by
    have n1 := (List.nodup_cons.mp nd).1
    have ih := dk_DE h.2 (List.nodup_cons.mp nd).2
    have ag : ∀ m, m ∈ r.map Prod.fst → envOf (dk D ((n, t) :: r)) m = envOf (dk D r) m := by
      intro m hm
      show envOf (putK (dk D r) (Sum.inr n) _) m = _
      rw [envOf_put, if_neg]
      intro e
      exact n1 (e ▸ hm)
    intro q hq
    rcases List.mem_cons.mp hq with rfl | hq
    · show envOf (putK (dk D r) (Sum.inr n) (.int (deepF (envOf (dk D r)) D t))) n = _
      rw [envOf_put, if_pos rfl]
      exact deepF_cong (fun m hm => (ag m hm).symm) D t h.1
    · rw [ag q.1 (List.mem_map.mpr ⟨q, hq, rfl⟩), ih q hq]
      exact deepF_cong (fun m hm => (ag m hm).symm) D q.2 (PN.names h.2 q hq)
theorem dk_has {D : Nat} {n : Str} : ∀ {ps : List (Str × Tm)}, n ∈ ps.map Prod.fst → HasC (dk D ps) n
  | [], h => (List.not_mem_nil h).elim
  | (m, t) :: r, h => by
    unfold HasC
    show ∃ i, valV (putK (dk D r) (Sum.inr m) _) (Sum.inr n) = some (.int i)
    rw [valV_put]
    by_cases e : (Sum.inr n : Key) = Sum.inr m
    · rw [if_pos e]
      exact ⟨_, rfl⟩
    · rw [if_neg e]
      rcases List.mem_cons.mp h with z | z
      · exact (e (by rw [z])).elim
      · exact dk_has z
theorem dk_len (D : Nat) : ∀ ps : List (Str × Tm), (dk D ps).length ≤ ps.length
  | [] => Nat.le_refl _
  | (n, t) :: r => by
    have h1 := dk_len D r
    have h2 := putK_few (kvs := dk D r) (k := Sum.inr n) (v := .int (deepF (envOf (dk D r)) D t))
    show (putK (dk D r) (Sum.inr n) (.int (deepF (envOf (dk D r)) D t))).length ≤ r.length + 1
    omega
/-! what opening does -/
structure OpE (S : List Int) (D : Nat) (C : Str → Prop) (tm : Str → Tm) (re de : Str → Int) : Prop where
  r : ∀ n, C n → re n = reachF re D (tm n)
  d : ∀ n, C n → de n = deepF de D (tm n)
  lv : ∀ n, C n → Lv C (Few S) D (tm n)
  gd : ∀ n, C n → Gd D (tm n)
theorem open_lv {S : List Int} {D : Nat} {C : Str → Prop} {tm : Str → Tm} {re de : Str → Int} (E : OpE S D C tm re de) : ∀ (k d : Nat) (t : Tm), Op C tm k t → Lv C (Few S) d t → Gd d t → ∀ e : Nat, deepF de d t ≤ (e : Int) → Lv (fun _ => False) (Few S) e (openF tm k t) ∧ Gd e (openF tm k t) ∧ reachF re e (openF tm k t) = reachF re d t
  | 0, _, _, h, _, _, _, _ => h.elim
  | _ + 1, 0, _, _, z, _, _, _ => z.elim
  | k + 1, d + 1, .ask rs, h, z, g, e, he => by
    have e1 : (1 : Int) + 0 ≤ (e : Int) := he
    obtain ⟨e', rfl⟩ : ∃ e', e = e' + 1 := ⟨e - 1, by omega⟩
    exact ⟨z, g, rfl⟩
  | k + 1, d + 1, .rest, h, z, g, e, he => by
    have e1 : (1 : Int) + 0 ≤ (e : Int) := he
    obtain ⟨e', rfl⟩ : ∃ e', e = e' + 1 := ⟨e - 1, by omega⟩
    exact ⟨trivial, trivial, rfl⟩
  | k + 1, d + 1, .call n, h, z, g, e, he => by
    have he2 : de n ≤ (e : Int) := he
    rw [E.d n h.1] at he2
    obtain ⟨a, b, c⟩ := open_lv E k D (tm n) h.2 (E.lv n h.1) (E.gd n h.1) e he2
    refine ⟨a, b, ?_⟩
    show reachF re e (openF tm k (tm n)) = re n
    rw [c, E.r n h.1]
  | k + 1, d + 1, .rnd l m t, h, z, g, e, he => by
    have he2 : 1 + mx [deepF de d t] ≤ (e : Int) := he
    have h0 := mx_ub [deepF de d t] 0 List.mem_cons_self
    have h1 := mx_ub [deepF de d t] (deepF de d t) (by simp)
    obtain ⟨e', rfl⟩ : ∃ e', e = e' + 1 := ⟨e - 1, by omega⟩
    obtain ⟨a, b, c⟩ := open_lv E k d t h z.2 g.2 e' (by omega)
    refine ⟨⟨z.1, a⟩, ⟨g.1, b⟩, ?_⟩
    cases m with
    | none =>
      show reachF re e' (openF tm k t) * (l + 1) + 1 = reachF re d t * (l + 1) + 1
      rw [c]
    | some j =>
      show reachF re e' (openF tm k t) * j + j - l = reachF re d t * j + j - l
      rw [c]
  | k + 1, d + 1, .thn ts, h, z, g, e, he => by
    have he2 : 1 + mx (ts.map (deepF de d)) ≤ (e : Int) := he
    have h0 := mx_ub (ts.map (deepF de d)) 0 List.mem_cons_self
    obtain ⟨e', rfl⟩ : ∃ e', e = e' + 1 := ⟨e - 1, by omega⟩
    have all : ∀ t ∈ ts, Lv (fun _ => False) (Few S) e' (openF tm k t) ∧ Gd e' (openF tm k t) ∧ reachF re e' (openF tm k t) = reachF re d t := fun t ht => by
      have h1 := mx_ub (ts.map (deepF de d)) (deepF de d t) (List.mem_cons_of_mem _ (List.mem_map.mpr ⟨t, ht, rfl⟩))
      exact open_lv E k d t (h.2 t ht) (z.2 t ht) (g.2 t ht) e' (by omega)
    refine ⟨⟨by rw [List.length_map]; exact z.1, fun x hx => ?_⟩, ⟨by rw [List.length_map]; exact g.1, fun x hx => ?_⟩, ?_⟩
    · obtain ⟨t, ht, rfl⟩ := List.mem_map.mp hx
      exact (all t ht).1
    · obtain ⟨t, ht, rfl⟩ := List.mem_map.mp hx
      exact (all t ht).2.1
    · show ((ts.map (openF tm k)).map (reachF re e')).sum = (ts.map (reachF re d)).sum
      rw [List.map_map, show ts.map (reachF re e' ∘ openF tm k) = ts.map (reachF re d) from List.map_congr_left fun t ht => (all t ht).2.2]
  | k + 1, d + 1, .frk ts, h, z, g, e, he => by
    have he2 : 1 + mx (ts.map (deepF de d)) ≤ (e : Int) := he
    have h0 := mx_ub (ts.map (deepF de d)) 0 List.mem_cons_self
    obtain ⟨e', rfl⟩ : ∃ e', e = e' + 1 := ⟨e - 1, by omega⟩
    have all : ∀ t ∈ ts, Lv (fun _ => False) (Few S) e' (openF tm k t) ∧ Gd e' (openF tm k t) ∧ reachF re e' (openF tm k t) = reachF re d t := fun t ht => by
      have h1 := mx_ub (ts.map (deepF de d)) (deepF de d t) (List.mem_cons_of_mem _ (List.mem_map.mpr ⟨t, ht, rfl⟩))
      exact open_lv E k d t (h.2 t ht) (z.2 t ht) (g.2 t ht) e' (by omega)
    refine ⟨⟨by rw [List.length_map]; exact z.1, fun x hx => ?_⟩, ⟨by rw [List.length_map]; exact g.1, fun x hx => ?_⟩, ?_⟩
    · obtain ⟨t, ht, rfl⟩ := List.mem_map.mp hx
      exact (all t ht).1
    · obtain ⟨t, ht, rfl⟩ := List.mem_map.mp hx
      exact (all t ht).2.1
    · show ((ts.map (openF tm k)).map (reachF re e')).sum + 1 = (ts.map (reachF re d)).sum + 1
      rw [List.map_map, show ts.map (reachF re e' ∘ openF tm k) = ts.map (reachF re d) from List.map_congr_left fun t ht => (all t ht).2.2]
/-- the rooms of an opened term -/
theorem open_rooms {S : List Int} {D : Nat} {C : Str → Prop} {tm : Str → Tm} (hl : ∀ n, C n → Lv C (Few S) D (tm n)) : ∀ (k d : Nat) (t : Tm), Op C tm k t → Lv C (Few S) d t → ∀ e : Nat, Lv (fun _ => False) (Few S) e (openF tm k t) → (∀ x ∈ roomsF d t, x ∈ roomsF e (openF tm k t)) ∧ ∀ x ∈ roomsF e (openF tm k t), x ∈ roomsF d t ∨ ∃ n, C n ∧ x ∈ roomsF D (tm n)
  | 0, _, _, h, _, _, _ => h.elim
  | _ + 1, 0, _, _, z, _, _ => z.elim
  | _ + 1, _ + 1, _, _, _, 0, y => y.elim
  | k + 1, d + 1, .ask rs, h, z, e + 1, y => ⟨fun x hx => hx, fun x hx => .inl hx⟩
  | k + 1, d + 1, .rest, h, z, e + 1, y => ⟨fun x hx => hx, fun x hx => .inl hx⟩
  | k + 1, d + 1, .call n, h, z, e + 1, y => by
    obtain ⟨a, b⟩ := open_rooms hl k D (tm n) h.2 (hl n h.1) (e + 1) y
    refine ⟨fun x hx => (List.not_mem_nil hx).elim, fun x hx => .inr ?_⟩
    rcases b x hx with h1 | h1
    · exact ⟨n, h.1, h1⟩
    · exact h1
  | k + 1, d + 1, .rnd l m t, h, z, e + 1, y => open_rooms hl k d t h z.2 e y.2
  | k + 1, d + 1, .thn ts, h, z, e + 1, y => by
    have all : ∀ t ∈ ts, _ := fun t ht => open_rooms hl k d t (h.2 t ht) (z.2 t ht) e (y.2 _ (List.mem_map.mpr ⟨t, ht, rfl⟩))
    refine ⟨fun x hx => ?_, fun x hx => ?_⟩
    · obtain ⟨l, hl, hx⟩ := List.mem_flatten.mp hx
      obtain ⟨t, ht, rfl⟩ := List.mem_map.mp hl
      exact List.mem_flatten.mpr ⟨_, List.mem_map.mpr ⟨_, List.mem_map.mpr ⟨t, ht, rfl⟩, rfl⟩, (all t ht).1 x hx⟩
    · obtain ⟨l, hl, hx⟩ := List.mem_flatten.mp hx
      obtain ⟨t', ht', rfl⟩ := List.mem_map.mp hl
      obtain ⟨t, ht, rfl⟩ := List.mem_map.mp ht'
      rcases (all t ht).2 x hx with h1 | h1
      · exact .inl (List.mem_flatten.mpr ⟨_, List.mem_map.mpr ⟨t, ht, rfl⟩, h1⟩)
      · exact .inr h1
  | k + 1, d + 1, .frk ts, h, z, e + 1, y => by
    have all : ∀ t ∈ ts, _ := fun t ht => open_rooms hl k d t (h.2 t ht) (z.2 t ht) e (y.2 _ (List.mem_map.mpr ⟨t, ht, rfl⟩))
    refine ⟨fun x hx => ?_, fun x hx => ?_⟩
    · obtain ⟨l, hl, hx⟩ := List.mem_flatten.mp hx
      obtain ⟨t, ht, rfl⟩ := List.mem_map.mp hl
      exact List.mem_flatten.mpr ⟨_, List.mem_map.mpr ⟨_, List.mem_map.mpr ⟨t, ht, rfl⟩, rfl⟩, (all t ht).1 x hx⟩
    · obtain ⟨l, hl, hx⟩ := List.mem_flatten.mp hx
      obtain ⟨t', ht', rfl⟩ := List.mem_map.mp hl
      obtain ⟨t, ht, rfl⟩ := List.mem_map.mp ht'
      rcases (all t ht).2 x hx with h1 | h1
      · exact .inl (List.mem_flatten.mpr ⟨_, List.mem_map.mpr ⟨t, ht, rfl⟩, h1⟩)
      · exact .inr h1
end Su
/-! ### QS: how the law makes such terms -/
namespace Su
open PySem PySem.Spec PyProof.Rows L2
def spCalled (d : Nat) : Sp := fun vs H Q _ => ∃ (v : V) (t : Tm) (e : Addr) (kvs : List (Key × V)) (f : Str → Str) (C : Str → Prop) (R : List Int → Prop), vs = [v, .ref e] ∧ TmAt H v t ∧ H e = some (.dK kvs) ∧ Lv C R d t ∧ (∀ n, C n → valV kvs (Sum.inr n) = some (.str (f n))) ∧ ∀ (v' : V) (H' : Hp), Same H H' → TmAt H' v' (callT f t) → Q v' H'
def spOpened (k : Nat) : Sp := fun vs H Q _ => ∃ (v : V) (t : Tm) (e : Addr) (kvs : List (Key × V)) (tm : Str → Tm) (C : Str → Prop), vs = [v, .ref e] ∧ TmAt H v t ∧ H e = some (.dK kvs) ∧ Op C tm k t ∧ (∀ n, C n → ∃ v', valV kvs (Sum.inr n) = some v' ∧ TmAt H v' (tm n)) ∧ ∀ (v' : V) (H' : Hp), Same H H' → TmAt H' v' (openF tm k t) → Q v' H'
def spDeepBy (d : Nat) : Sp := fun vs H Q _ => ∃ (v : V) (t : Tm) (e : Addr) (kvs : List (Key × V)) (R : List Int → Prop), vs = [v, .ref e] ∧ TmAt H v t ∧ H e = some (.dK kvs) ∧ Lv (HasC kvs) R d t ∧ ∀ H', Same H H' → Q (.int (deepF (envOf kvs) d t)) H'
def spDeep : Sp := fun vs H Q _ => ∃ (v : V) (t : Tm) (p : Addr) (ws : List V) (ps : List (Str × Tm)) (S : List Int), vs = [v, .ref p] ∧ TmAt H v t ∧ H p = some (.lst ws) ∧ PrL H ws ps ∧ PN S 6 ps ∧ ps.length ≤ 100 ∧ Lv (· ∈ ps.map Prod.fst) (Few S) 6 t ∧ ∀ H', Same H H' → Q (.int (deepF (envOf (dk 6 ps)) 6 t)) H'
theorem sc_law_called : FnScope ["_law_term_here", "_law_names_here", "_law_part"] ["_law_term_here", "_law_names_here"] (defScope s_law_called) := ⟨rfl, rfl, rfl, by decide +kernel, rfl, by decide +kernel, by decide +kernel⟩
theorem sc_law_opened : FnScope ["_law_term_here", "_law_terms", "_law_part"] ["_law_term_here", "_law_terms"] (defScope s_law_opened) := ⟨rfl, rfl, rfl, by decide +kernel, rfl, by decide +kernel, by decide +kernel⟩
theorem sc_law_deep_by : FnScope ["_law_term_here", "_law_depths", "_law_parts", "_law_part"] ["_law_term_here", "_law_depths"] (defScope s_law_deep_by) := ⟨rfl, rfl, rfl, by decide +kernel, rfl, by decide +kernel, by decide +kernel⟩
theorem sc_law_deep : FnScope ["_law_term_here", "_law_program_here", "_law_depths", "_law_name", "_law_inner"] ["_law_term_here", "_law_program_here"] (defScope s_law_deep) := ⟨rfl, rfl, rfl, by decide +kernel, rfl, by decide +kernel, by decide +kernel⟩
section
variable {P : Program} {w : World} {K : PySem.W.Frag} {mg : Str → Option Value} {base : Heap}
theorem ok_called (T : At K mg "_law_called" s_law_called ["_law_term_here", "_law_names_here"]) (B : Bt mg) : ∀ d : Nat, Cal P w K mg base (d + 1) "_law_called" ["_law_term_here", "_law_names_here"] (spCalled d)
  | 0 => by
    refine cal_of T sc_law_called (fun vs H Q E h => ?_) (fun f cdv A outer s H vs Q E hr h => ?_)
    · obtain ⟨v, t, e, kvs, fn, C, R, rfl, _⟩ := h
      rfl
    · obtain ⟨v, t, e, kvs, fn, C, R, rfl, hv, he, hl, _⟩ := h
      exact hl.elim
  | d + 1 => by
    have c_called := ok_called T B d
    refine cal_of T sc_law_called (fun vs H Q E h => ?_) (fun f cdv A outer s H vs Q E hr h => ?_)
    · obtain ⟨v, t, e, kvs, fn, C, R, rfl, _⟩ := h
      rfl
    · obtain ⟨v, t, e, kvs, fn, C, R, rfl, hv, he, hl, hf, q⟩ := h
      refine ⟨_, (pss_cons (ps_if (pt_cmpR op_eq (pe_ix ix_tup (pv 0) pe_int (fun _ _ => rfl)) pe_str (nomark _)) (pss_one (ps_ret (pe_tupF (pa_cons pe_str (pa_cons (pe_dget2 (hu_of hr) (pv 1) (pe_ix ix_tup (pv 0) pe_int (fun _ _ => rfl)) (pe_ix ix_tup (pv 0) pe_int (fun _ _ => rfl)) ⟨rfl, rfl, rfl, rfl⟩) pa_nil))))) pss_nil)
      (pss_cons (ps_if (pt_cmpR op_in_seq (pe_ix ix_tup (pv 0) pe_int (fun _ _ => rfl)) (pe_tupF (pa_cons pe_str (pa_cons pe_str pa_nil))) (by rfl)) (pss_one (ps_ret (pe_tupF (pa_cons (pe_ix ix_tup (pv 0) pe_int (fun _ _ => rfl)) (pa_cons (pe_callTy call_tupleF (by rfl) B.tuple (by decide +kernel) (pa_cons (pe_lc (own := [("_law_part", 2)]) (g := (gName 2)) (tt := tYes) (te := (tCall (spCalled d) [] E0 (tCons (tVar 2) (tCons (tVar 1) tNil)))) (by rfl) sc_law_called.nd (pi_tup (pe_ix ix_tup (pv 0) pe_int (fun _ _ => rfl))) (blkOk_by (own := [("_law_part", 2)]) (N := ["_law_term_here", "_law_names_here", "_law_part"]) (sc := defScope s_law_called) (by decide +kernel)) (fun _ _ _ _ _ => (pg_name (i := 2) sc_law_called.nd rfl (Or.inl rfl))) (fun _ _ _ _ _ => pts_nil) (fun _ _ _ _ _ => (pe_own c_called hr (by omega) (by rfl) (pa_cons (pv 2) (pa_cons (pv 1) pa_nil))))) pa_nil)) pa_nil))))) pss_nil)
      (pss_cons (ps_if (pt_cmpR op_eq (pe_ix ix_tup (pv 0) pe_int (fun _ _ => rfl)) pe_str (nomark _)) (pss_one (ps_ret (pe_op op_catF (pe_slice sl_tupF (pv 0) po_none (po_some pe_int)) (pe_tupF (pa_cons (pe_own c_called hr (by omega) (by rfl) (pa_cons (pe_ix ix_tup (pv 0) pe_int (fun _ _ => rfl)) (pa_cons (pv 1) pa_nil))) pa_nil))))) pss_nil)
      (pss_one (ps_ret (pv 0)))))), ?_⟩
      cases hv with
      | ask e1 r1 =>
        refine ⟨_, rfl, _, _, _, _, rfl, rfl, e1.sq, atI_nat (j := 0) rfl, rfl, _, rfl, iteB (fun z => absurd z (by decide +kernel)) (fun _ => ?_)⟩
        refine ⟨_, rfl, _, _, _, _, rfl, rfl, e1.sq, atI_nat (j := 0) rfl, (by show 2 ≤ sizeLine; decide), fun t1 H1 s1 n1 p1 => ?_⟩
        refine ⟨t1, _, rfl, .inr p1.sq, rfl, rfl, _, rfl, iteB (fun z => absurd z (by decide +kernel)) (fun _ => ?_)⟩
        refine ⟨_, rfl, _, _, _, _, rfl, rfl, (e1.same s1).sq, atI_nat (j := 0) rfl, rfl, _, rfl, iteB (fun z => absurd z (by decide +kernel)) (fun _ => ?_)⟩
        exact ⟨_, rfl, q _ H1 s1 (.ask (e1.same s1) (r1.same s1))⟩
      | rest e1 =>
        refine ⟨_, rfl, _, _, _, _, rfl, rfl, e1.sq, atI_nat (j := 0) rfl, rfl, _, rfl, iteB (fun z => absurd z (by decide +kernel)) (fun _ => ?_)⟩
        refine ⟨_, rfl, _, _, _, _, rfl, rfl, e1.sq, atI_nat (j := 0) rfl, (by show 2 ≤ sizeLine; decide), fun t1 H1 s1 n1 p1 => ?_⟩
        refine ⟨t1, _, rfl, .inr p1.sq, rfl, rfl, _, rfl, iteB (fun z => absurd z (by decide +kernel)) (fun _ => ?_)⟩
        refine ⟨_, rfl, _, _, _, _, rfl, rfl, (e1.same s1).sq, atI_nat (j := 0) rfl, rfl, _, rfl, iteB (fun z => absurd z (by decide +kernel)) (fun _ => ?_)⟩
        exact ⟨_, rfl, q _ H1 s1 (.rest (e1.same s1))⟩
      | @call a nm e1 =>
        refine ⟨_, rfl, _, _, _, _, rfl, rfl, e1.sq, atI_nat (j := 0) rfl, rfl, _, rfl, iteB (fun _ => ?_) (fun z => absurd z (by decide +kernel))⟩
        refine ⟨_, rfl, e, rfl, .inl ⟨kvs, Rd.of he⟩, _, rfl, _, _, _, _, rfl, rfl, e1.sq, atI_nat (j := 1) rfl, _, rfl, _, _, _, _, rfl, rfl, e1.sq, atI_nat (j := 1) rfl, _, DGet.k (k := Sum.inr nm) he, ?_⟩
        rw [hf nm hl]
        exact ⟨(by show 2 ≤ sizeLine; decide), fun x Hx sx nx px => q _ Hx sx (.call px)⟩
      | @thn a b vs1 ts e1 r1 tl1 =>
        refine ⟨_, rfl, _, _, _, _, rfl, rfl, e1.sq, atI_nat (j := 0) rfl, rfl, _, rfl, iteB (fun z => absurd z (by decide +kernel)) (fun _ => ?_)⟩
        refine ⟨_, rfl, _, _, _, _, rfl, rfl, e1.sq, atI_nat (j := 0) rfl, (by show 2 ≤ sizeLine; decide), fun t1 H1 s1 n1 p1 => ?_⟩
        refine ⟨t1, _, rfl, .inr p1.sq, rfl, rfl, _, rfl, iteB (fun _ => ?_) (fun z => absurd z (by decide +kernel))⟩
        refine ⟨_, rfl, _, _, _, _, rfl, rfl, (e1.same s1).sq, atI_nat (j := 0) rfl, _, rfl, _, _, _, _, rfl, rfl, (e1.same s1).sq, atI_nat (j := 1) rfl, b, rfl, ⟨_, (r1.same s1).sq⟩, fun D nD => ?_⟩
        have he1 := s1 _ _ he
        have vl := tl1.len
        have l3 : ts.length ≤ 3 := hl.1
        refine lc_tup (K := K) (a := b) (xs := vs1) (fun i H2 => Same H1 H2 ∧ ∃ us, H2 D = some (.lst us) ∧ TmL H2 us ((ts.take i).map (callT fn))) ?_ ?_ ?_ ?_
        · exact ⟨same_upd nD, [], upd_same, .nil⟩
        · rintro i H2 _ ⟨s2, _⟩
          exact ((r1.same s1).same s2).sq
        · rintro i x H2 hx ⟨s2, us, hD, tu⟩
          obtain ⟨t0, et, ht0⟩ := tl1.get hx
          have hm0 := List.mem_of_getElem? et
          have ul := tu.len
          rw [List.length_map, List.length_take] at ul
          refine ⟨rfl, tyes ?_⟩
          refine ⟨_, rfl, _, rfl, x, t0, e, kvs, fn, C, R, rfl, ht0.keep (KT.same (s1.trans s2)), s2 _ _ he1, hl.2 t0 hm0, hf, fun v3 H3 s3 t3 => ?_⟩
          have hD3 := s3 _ _ hD
          have kz : KT H3 (upd H3 D (.lst (us ++ [v3]))) := KT.upd hD3
          refine ⟨us, hD3, small1000 (by omega), fun c o ec => ?_, us ++ [v3], upd_same, ?_⟩
          · rw [upd_ne (ne_of_none ec nD)]
            exact s3 _ _ (s2 _ _ ec)
          · rw [List.take_add_one, et, List.map_append]
            exact TmL.snoc (t3.keep kz) (tu.keep ((KT.same s3).trans kz))
        · rintro H2 ⟨s2, us, hD, tu⟩
          rw [vl, List.take_length] at tu
          refine ⟨D, _, rfl, SqL.of hD, fun u Hu su nu pu => ?_⟩
          refine ⟨(by show 2 ≤ sizeLine; decide), fun x Hx sx nx px => ?_⟩
          have z := q (.ref x) Hx ((s1.trans s2).trans (su.trans sx))
          rw [callT_thn] at z
          exact z (.thn px (pu.same sx) (tu.keep (KT.same (su.trans sx))))
      | @frk a b vs1 ts e1 r1 tl1 =>
        refine ⟨_, rfl, _, _, _, _, rfl, rfl, e1.sq, atI_nat (j := 0) rfl, rfl, _, rfl, iteB (fun z => absurd z (by decide +kernel)) (fun _ => ?_)⟩
        refine ⟨_, rfl, _, _, _, _, rfl, rfl, e1.sq, atI_nat (j := 0) rfl, (by show 2 ≤ sizeLine; decide), fun t1 H1 s1 n1 p1 => ?_⟩
        refine ⟨t1, _, rfl, .inr p1.sq, rfl, rfl, _, rfl, iteB (fun _ => ?_) (fun z => absurd z (by decide +kernel))⟩
        refine ⟨_, rfl, _, _, _, _, rfl, rfl, (e1.same s1).sq, atI_nat (j := 0) rfl, _, rfl, _, _, _, _, rfl, rfl, (e1.same s1).sq, atI_nat (j := 1) rfl, b, rfl, ⟨_, (r1.same s1).sq⟩, fun D nD => ?_⟩
        have he1 := s1 _ _ he
        have vl := tl1.len
        have l3 : ts.length ≤ 3 := hl.1
        refine lc_tup (K := K) (a := b) (xs := vs1) (fun i H2 => Same H1 H2 ∧ ∃ us, H2 D = some (.lst us) ∧ TmL H2 us ((ts.take i).map (callT fn))) ?_ ?_ ?_ ?_
        · exact ⟨same_upd nD, [], upd_same, .nil⟩
        · rintro i H2 _ ⟨s2, _⟩
          exact ((r1.same s1).same s2).sq
        · rintro i x H2 hx ⟨s2, us, hD, tu⟩
          obtain ⟨t0, et, ht0⟩ := tl1.get hx
          have hm0 := List.mem_of_getElem? et
          have ul := tu.len
          rw [List.length_map, List.length_take] at ul
          refine ⟨rfl, tyes ?_⟩
          refine ⟨_, rfl, _, rfl, x, t0, e, kvs, fn, C, R, rfl, ht0.keep (KT.same (s1.trans s2)), s2 _ _ he1, hl.2 t0 hm0, hf, fun v3 H3 s3 t3 => ?_⟩
          have hD3 := s3 _ _ hD
          have kz : KT H3 (upd H3 D (.lst (us ++ [v3]))) := KT.upd hD3
          refine ⟨us, hD3, small1000 (by omega), fun c o ec => ?_, us ++ [v3], upd_same, ?_⟩
          · rw [upd_ne (ne_of_none ec nD)]
            exact s3 _ _ (s2 _ _ ec)
          · rw [List.take_add_one, et, List.map_append]
            exact TmL.snoc (t3.keep kz) (tu.keep ((KT.same s3).trans kz))
        · rintro H2 ⟨s2, us, hD, tu⟩
          rw [vl, List.take_length] at tu
          refine ⟨D, _, rfl, SqL.of hD, fun u Hu su nu pu => ?_⟩
          refine ⟨(by show 2 ≤ sizeLine; decide), fun x Hx sx nx px => ?_⟩
          have z := q (.ref x) Hx ((s1.trans s2).trans (su.trans sx))
          rw [callT_frk] at z
          exact z (.frk px (pu.same sx) (tu.keep (KT.same (su.trans sx))))
      | @rnd a v1 l m t0 e1 r1 =>
        refine ⟨_, rfl, _, _, _, _, rfl, rfl, e1.sq, atI_nat (j := 0) rfl, rfl, _, rfl, iteB (fun z => absurd z (by decide +kernel)) (fun _ => ?_)⟩
        refine ⟨_, rfl, _, _, _, _, rfl, rfl, e1.sq, atI_nat (j := 0) rfl, (by show 2 ≤ sizeLine; decide), fun t1 H1 s1 n1 p1 => ?_⟩
        refine ⟨t1, _, rfl, .inr p1.sq, rfl, rfl, _, rfl, iteB (fun z => absurd z (by decide +kernel)) (fun _ => ?_)⟩
        refine ⟨_, rfl, _, _, _, _, rfl, rfl, (e1.same s1).sq, atI_nat (j := 0) rfl, rfl, _, rfl, iteB (fun _ => ?_) (fun z => absurd z (by decide +kernel))⟩
        refine ⟨_, rfl, 3, rfl, a, _, rfl, e1.same s1, fun c Hc sc pc => ?_⟩
        have s1c := s1.trans sc
        refine ⟨_, rfl, _, _, _, _, rfl, rfl, (e1.same s1c).sq, atI_nat (j := 3) rfl, _, rfl, v1, t0, e, kvs, fn, C, R, rfl, r1.keep (KT.same s1c), s1c _ _ he, hl.2, hf, fun v3 H3 s3 t3 => ?_⟩
        refine ⟨(by show 1 ≤ sizeLine; decide), fun d1 Hd sd nd pd => ?_⟩
        have pc2 : PTup Hd c [.str "round", .int l, mostV m] := (pc.same s3).same sd
        refine ⟨c, d1, _, _, rfl, rfl, pc2, pd, (by show 3 + 1 ≤ sizeLine; decide), fun z Hz sz pz => ?_⟩
        exact q _ Hz (((s1c.trans s3).trans sd).trans sz) (.rnd pz ((t3.keep (KT.same sd)).keep (KT.same sz)))
theorem ok_opened (T : At K mg "_law_opened" s_law_opened ["_law_term_here", "_law_terms"]) (B : Bt mg) : ∀ k : Nat, Cal P w K mg base (k + 1) "_law_opened" ["_law_term_here", "_law_terms"] (spOpened k)
  | 0 => by
    refine cal_of T sc_law_opened (fun vs H Q E h => ?_) (fun f cdv A outer s H vs Q E hr h => ?_)
    · obtain ⟨v, t, e, kvs, tm, C, rfl, _⟩ := h
      rfl
    · obtain ⟨v, t, e, kvs, tm, C, rfl, hv, he, hl, _⟩ := h
      exact hl.elim
  | k + 1 => by
    have c_opened := ok_opened T B k
    refine cal_of T sc_law_opened (fun vs H Q E h => ?_) (fun f cdv A outer s H vs Q E hr h => ?_)
    · obtain ⟨v, t, e, kvs, tm, C, rfl, _⟩ := h
      rfl
    · obtain ⟨v, t, e, kvs, tm, C, rfl, hv, he, hl, hf, q⟩ := h
      refine ⟨_, (pss_cons (ps_if (pt_cmpR op_eq (pe_ix ix_tup (pv 0) pe_int (fun _ _ => rfl)) pe_str (nomark _)) (pss_one (ps_ret (pe_own c_opened hr (by omega) (by rfl) (pa_cons (pe_dget (hu_of hr) (pv 1) (pe_ix ix_tup (pv 0) pe_int (fun _ _ => rfl)) (fun _ _ => rfl)) (pa_cons (pv 1) pa_nil))))) pss_nil)
      (pss_cons (ps_if (pt_cmpR op_in_seq (pe_ix ix_tup (pv 0) pe_int (fun _ _ => rfl)) (pe_tupF (pa_cons pe_str (pa_cons pe_str pa_nil))) (by rfl)) (pss_one (ps_ret (pe_tupF (pa_cons (pe_ix ix_tup (pv 0) pe_int (fun _ _ => rfl)) (pa_cons (pe_callTy call_tupleF (by rfl) B.tuple (by decide +kernel) (pa_cons (pe_lc (own := [("_law_part", 2)]) (g := (gName 2)) (tt := tYes) (te := (tCall (spOpened k) [] E0 (tCons (tVar 2) (tCons (tVar 1) tNil)))) (by rfl) sc_law_opened.nd (pi_tup (pe_ix ix_tup (pv 0) pe_int (fun _ _ => rfl))) (blkOk_by (own := [("_law_part", 2)]) (N := ["_law_term_here", "_law_terms", "_law_part"]) (sc := defScope s_law_opened) (by decide +kernel)) (fun _ _ _ _ _ => (pg_name (i := 2) sc_law_opened.nd rfl (Or.inl rfl))) (fun _ _ _ _ _ => pts_nil) (fun _ _ _ _ _ => (pe_own c_opened hr (by omega) (by rfl) (pa_cons (pv 2) (pa_cons (pv 1) pa_nil))))) pa_nil)) pa_nil))))) pss_nil)
      (pss_cons (ps_if (pt_cmpR op_eq (pe_ix ix_tup (pv 0) pe_int (fun _ _ => rfl)) pe_str (nomark _)) (pss_one (ps_ret (pe_op op_catF (pe_slice sl_tupF (pv 0) po_none (po_some pe_int)) (pe_tupF (pa_cons (pe_own c_opened hr (by omega) (by rfl) (pa_cons (pe_ix ix_tup (pv 0) pe_int (fun _ _ => rfl)) (pa_cons (pv 1) pa_nil))) pa_nil))))) pss_nil)
      (pss_one (ps_ret (pv 0)))))), ?_⟩
      cases hv with
      | ask e1 r1 =>
        refine ⟨_, rfl, _, _, _, _, rfl, rfl, e1.sq, atI_nat (j := 0) rfl, rfl, _, rfl, iteB (fun z => absurd z (by decide +kernel)) (fun _ => ?_)⟩
        refine ⟨_, rfl, _, _, _, _, rfl, rfl, e1.sq, atI_nat (j := 0) rfl, (by show 2 ≤ sizeLine; decide), fun t1 H1 s1 n1 p1 => ?_⟩
        refine ⟨t1, _, rfl, .inr p1.sq, rfl, rfl, _, rfl, iteB (fun z => absurd z (by decide +kernel)) (fun _ => ?_)⟩
        refine ⟨_, rfl, _, _, _, _, rfl, rfl, (e1.same s1).sq, atI_nat (j := 0) rfl, rfl, _, rfl, iteB (fun z => absurd z (by decide +kernel)) (fun _ => ?_)⟩
        exact ⟨_, rfl, q _ H1 s1 (.ask (e1.same s1) (r1.same s1))⟩
      | rest e1 =>
        refine ⟨_, rfl, _, _, _, _, rfl, rfl, e1.sq, atI_nat (j := 0) rfl, rfl, _, rfl, iteB (fun z => absurd z (by decide +kernel)) (fun _ => ?_)⟩
        refine ⟨_, rfl, _, _, _, _, rfl, rfl, e1.sq, atI_nat (j := 0) rfl, (by show 2 ≤ sizeLine; decide), fun t1 H1 s1 n1 p1 => ?_⟩
        refine ⟨t1, _, rfl, .inr p1.sq, rfl, rfl, _, rfl, iteB (fun z => absurd z (by decide +kernel)) (fun _ => ?_)⟩
        refine ⟨_, rfl, _, _, _, _, rfl, rfl, (e1.same s1).sq, atI_nat (j := 0) rfl, rfl, _, rfl, iteB (fun z => absurd z (by decide +kernel)) (fun _ => ?_)⟩
        exact ⟨_, rfl, q _ H1 s1 (.rest (e1.same s1))⟩
      | @call a nm e1 =>
        refine ⟨_, rfl, _, _, _, _, rfl, rfl, e1.sq, atI_nat (j := 0) rfl, rfl, _, rfl, iteB (fun _ => ?_) (fun z => absurd z (by decide +kernel))⟩
        obtain ⟨v9, a9, b9⟩ := hf nm hl.1
        exact ⟨_, rfl, _, rfl, _, _, _, _, rfl, rfl, e1.sq, atI_nat (j := 1) rfl, e, v9, rfl, (by rw [← a9]; exact DGet.k (k := Sum.inr nm) he), _, rfl, v9, tm nm, e, kvs, tm, C, rfl, b9, he, hl.2, hf, fun v3 H3 s3 t3 => q v3 H3 s3 t3⟩
      | @thn a b vs1 ts e1 r1 tl1 =>
        refine ⟨_, rfl, _, _, _, _, rfl, rfl, e1.sq, atI_nat (j := 0) rfl, rfl, _, rfl, iteB (fun z => absurd z (by decide +kernel)) (fun _ => ?_)⟩
        refine ⟨_, rfl, _, _, _, _, rfl, rfl, e1.sq, atI_nat (j := 0) rfl, (by show 2 ≤ sizeLine; decide), fun t1 H1 s1 n1 p1 => ?_⟩
        refine ⟨t1, _, rfl, .inr p1.sq, rfl, rfl, _, rfl, iteB (fun _ => ?_) (fun z => absurd z (by decide +kernel))⟩
        refine ⟨_, rfl, _, _, _, _, rfl, rfl, (e1.same s1).sq, atI_nat (j := 0) rfl, _, rfl, _, _, _, _, rfl, rfl, (e1.same s1).sq, atI_nat (j := 1) rfl, b, rfl, ⟨_, (r1.same s1).sq⟩, fun D nD => ?_⟩
        have he1 := s1 _ _ he
        have vl := tl1.len
        have l3 : ts.length ≤ 3 := hl.1
        refine lc_tup (K := K) (a := b) (xs := vs1) (fun i H2 => Same H1 H2 ∧ ∃ us, H2 D = some (.lst us) ∧ TmL H2 us ((ts.take i).map (openF tm k))) ?_ ?_ ?_ ?_
        · exact ⟨same_upd nD, [], upd_same, .nil⟩
        · rintro i H2 _ ⟨s2, _⟩
          exact ((r1.same s1).same s2).sq
        · rintro i x H2 hx ⟨s2, us, hD, tu⟩
          obtain ⟨t0, et, ht0⟩ := tl1.get hx
          have hm0 := List.mem_of_getElem? et
          have ul := tu.len
          rw [List.length_map, List.length_take] at ul
          refine ⟨rfl, tyes ?_⟩
          refine ⟨_, rfl, _, rfl, x, t0, e, kvs, tm, C, rfl, ht0.keep (KT.same (s1.trans s2)), s2 _ _ he1, hl.2 t0 hm0, (fun n hn => by obtain ⟨v9, a9, b9⟩ := hf n hn; exact ⟨v9, a9, b9.keep (KT.same (s1.trans s2))⟩), fun v3 H3 s3 t3 => ?_⟩
          have hD3 := s3 _ _ hD
          have kz : KT H3 (upd H3 D (.lst (us ++ [v3]))) := KT.upd hD3
          refine ⟨us, hD3, small1000 (by omega), fun c o ec => ?_, us ++ [v3], upd_same, ?_⟩
          · rw [upd_ne (ne_of_none ec nD)]
            exact s3 _ _ (s2 _ _ ec)
          · rw [List.take_add_one, et, List.map_append]
            exact TmL.snoc (t3.keep kz) (tu.keep ((KT.same s3).trans kz))
        · rintro H2 ⟨s2, us, hD, tu⟩
          rw [vl, List.take_length] at tu
          refine ⟨D, _, rfl, SqL.of hD, fun u Hu su nu pu => ?_⟩
          refine ⟨(by show 2 ≤ sizeLine; decide), fun x Hx sx nx px => ?_⟩
          have z := q (.ref x) Hx ((s1.trans s2).trans (su.trans sx))
          
          exact z (.thn px (pu.same sx) (tu.keep (KT.same (su.trans sx))))
      | @frk a b vs1 ts e1 r1 tl1 =>
        refine ⟨_, rfl, _, _, _, _, rfl, rfl, e1.sq, atI_nat (j := 0) rfl, rfl, _, rfl, iteB (fun z => absurd z (by decide +kernel)) (fun _ => ?_)⟩
        refine ⟨_, rfl, _, _, _, _, rfl, rfl, e1.sq, atI_nat (j := 0) rfl, (by show 2 ≤ sizeLine; decide), fun t1 H1 s1 n1 p1 => ?_⟩
        refine ⟨t1, _, rfl, .inr p1.sq, rfl, rfl, _, rfl, iteB (fun _ => ?_) (fun z => absurd z (by decide +kernel))⟩
        refine ⟨_, rfl, _, _, _, _, rfl, rfl, (e1.same s1).sq, atI_nat (j := 0) rfl, _, rfl, _, _, _, _, rfl, rfl, (e1.same s1).sq, atI_nat (j := 1) rfl, b, rfl, ⟨_, (r1.same s1).sq⟩, fun D nD => ?_⟩
        have he1 := s1 _ _ he
        have vl := tl1.len
        have l3 : ts.length ≤ 3 := hl.1
        refine lc_tup (K := K) (a := b) (xs := vs1) (fun i H2 => Same H1 H2 ∧ ∃ us, H2 D = some (.lst us) ∧ TmL H2 us ((ts.take i).map (openF tm k))) ?_ ?_ ?_ ?_
        · exact ⟨same_upd nD, [], upd_same, .nil⟩
        · rintro i H2 _ ⟨s2, _⟩
          exact ((r1.same s1).same s2).sq
        · rintro i x H2 hx ⟨s2, us, hD, tu⟩
          obtain ⟨t0, et, ht0⟩ := tl1.get hx
          have hm0 := List.mem_of_getElem? et
          have ul := tu.len
          rw [List.length_map, List.length_take] at ul
          refine ⟨rfl, tyes ?_⟩
          refine ⟨_, rfl, _, rfl, x, t0, e, kvs, tm, C, rfl, ht0.keep (KT.same (s1.trans s2)), s2 _ _ he1, hl.2 t0 hm0, (fun n hn => by obtain ⟨v9, a9, b9⟩ := hf n hn; exact ⟨v9, a9, b9.keep (KT.same (s1.trans s2))⟩), fun v3 H3 s3 t3 => ?_⟩
          have hD3 := s3 _ _ hD
          have kz : KT H3 (upd H3 D (.lst (us ++ [v3]))) := KT.upd hD3
          refine ⟨us, hD3, small1000 (by omega), fun c o ec => ?_, us ++ [v3], upd_same, ?_⟩
          · rw [upd_ne (ne_of_none ec nD)]
            exact s3 _ _ (s2 _ _ ec)
          · rw [List.take_add_one, et, List.map_append]
            exact TmL.snoc (t3.keep kz) (tu.keep ((KT.same s3).trans kz))
        · rintro H2 ⟨s2, us, hD, tu⟩
          rw [vl, List.take_length] at tu
          refine ⟨D, _, rfl, SqL.of hD, fun u Hu su nu pu => ?_⟩
          refine ⟨(by show 2 ≤ sizeLine; decide), fun x Hx sx nx px => ?_⟩
          have z := q (.ref x) Hx ((s1.trans s2).trans (su.trans sx))
          
          exact z (.frk px (pu.same sx) (tu.keep (KT.same (su.trans sx))))
      | @rnd a v1 l m t0 e1 r1 =>
        refine ⟨_, rfl, _, _, _, _, rfl, rfl, e1.sq, atI_nat (j := 0) rfl, rfl, _, rfl, iteB (fun z => absurd z (by decide +kernel)) (fun _ => ?_)⟩
        refine ⟨_, rfl, _, _, _, _, rfl, rfl, e1.sq, atI_nat (j := 0) rfl, (by show 2 ≤ sizeLine; decide), fun t1 H1 s1 n1 p1 => ?_⟩
        refine ⟨t1, _, rfl, .inr p1.sq, rfl, rfl, _, rfl, iteB (fun z => absurd z (by decide +kernel)) (fun _ => ?_)⟩
        refine ⟨_, rfl, _, _, _, _, rfl, rfl, (e1.same s1).sq, atI_nat (j := 0) rfl, rfl, _, rfl, iteB (fun _ => ?_) (fun z => absurd z (by decide +kernel))⟩
        refine ⟨_, rfl, 3, rfl, a, _, rfl, e1.same s1, fun c Hc sc pc => ?_⟩
        have s1c := s1.trans sc
        refine ⟨_, rfl, _, _, _, _, rfl, rfl, (e1.same s1c).sq, atI_nat (j := 3) rfl, _, rfl, v1, t0, e, kvs, tm, C, rfl, r1.keep (KT.same s1c), s1c _ _ he, hl, (fun n hn => by obtain ⟨v9, a9, b9⟩ := hf n hn; exact ⟨v9, a9, b9.keep (KT.same s1c)⟩), fun v3 H3 s3 t3 => ?_⟩
        refine ⟨(by show 1 ≤ sizeLine; decide), fun d1 Hd sd nd pd => ?_⟩
        have pc2 : PTup Hd c [.str "round", .int l, mostV m] := (pc.same s3).same sd
        refine ⟨c, d1, _, _, rfl, rfl, pc2, pd, (by show 3 + 1 ≤ sizeLine; decide), fun z Hz sz pz => ?_⟩
        exact q _ Hz (((s1c.trans s3).trans sd).trans sz) (.rnd pz ((t3.keep (KT.same sd)).keep (KT.same sz)))
theorem mid_tIf {t : TT} {ta tb : TE} {σ : L2.St} {H0 : Hp} {R : V → Hp → Prop} (M : V → Hp → Prop) (hR : ∀ v H, M v H → R v H) (h : ∀ R' : V → Hp → Prop, (∀ v H, M v H → R' v H) → tIf t ta tb σ H0 R') : tIf t ta tb σ H0 R := h _ hR
theorem mid_tIfN {t : TT} {ta tb : TE} {j : Nat} {S : TS} {D : Ends} {r : V → Hp → Prop} {b c : L2.St → Hp → Prop} {σ : L2.St} {H0 : Hp} (M : V → Hp → Prop) (hR : ∀ v H, M v H → S D (σ.set j (some v)) H) (h : ∀ R' : V → Hp → Prop, (∀ v H, M v H → R' v H) → tIf t ta tb σ H0 R') : tNext (Ends.mk (tSeq (tAsg (tIf t ta tb) (gName j)) S D) r b c) σ H0 := h _ hR
theorem TmAt.word {H : Hp} {v : V} {t : Tm} (h : TmAt H v t) : ∃ a, v = .ref a ∧ ((∃ n, t = .call n ∧ PTup H a [.str "call", .str n]) ∨ ((∀ n, t ≠ .call n) ∧ ((∃ (x : Str) (b : Addr) (us : List V), (x = "then" ∨ x = "fork") ∧ PTup H a [.str x, .ref b] ∧ PTup H b us ∧ TmL H us (subs t)) ∨ ∃ (x : Str) (r : List V), x ≠ "call" ∧ x ≠ "then" ∧ x ≠ "fork" ∧ PTup H a (.str x :: r) ∧ TmL H (r.drop 2) (subs t)))) := by
  cases h with
  | ask e r => exact ⟨_, rfl, .inr ⟨fun n z => (nomatch z), .inr ⟨_, _, by decide +kernel, by decide +kernel, by decide +kernel, e, .nil⟩⟩⟩
  | rest e => exact ⟨_, rfl, .inr ⟨fun n z => (nomatch z), .inr ⟨_, _, by decide +kernel, by decide +kernel, by decide +kernel, e, .nil⟩⟩⟩
  | call e => exact ⟨_, rfl, .inl ⟨_, rfl, e⟩⟩
  | thn e r t => exact ⟨_, rfl, .inr ⟨fun n z => (nomatch z), .inl ⟨_, _, _, .inl rfl, e, r, t⟩⟩⟩
  | frk e r t => exact ⟨_, rfl, .inr ⟨fun n z => (nomatch z), .inl ⟨_, _, _, .inr rfl, e, r, t⟩⟩⟩
  | rnd e r => exact ⟨_, rfl, .inr ⟨fun n z => (nomatch z), .inr ⟨_, _, by decide +kernel, by decide +kernel, by decide +kernel, e, .cons r .nil⟩⟩⟩
theorem ok_deepby (T : At K mg "_law_deep_by" s_law_deep_by ["_law_term_here", "_law_depths"]) (B : Bt mg) : ∀ d : Nat, Cal P w K mg base (d + 1) "_law_deep_by" ["_law_term_here", "_law_depths"] (spDeepBy d)
  | 0 => by
    refine cal_of T sc_law_deep_by (fun vs H Q E h => ?_) (fun f cdv A outer s H vs Q E hr h => ?_)
    · obtain ⟨v, t, e, kvs, R, rfl, _⟩ := h
      rfl
    · obtain ⟨v, t, e, kvs, R, rfl, hv, he, hl, _⟩ := h
      exact hl.elim
  | d + 1 => by
    have c_deep_by := ok_deepby T B d
    refine cal_of T sc_law_deep_by (fun vs H Q E h => ?_) (fun f cdv A outer s H vs Q E hr h => ?_)
    · obtain ⟨v, t, e, kvs, R, rfl, _⟩ := h
      rfl
    · obtain ⟨v, t, e, kvs, R, rfl, hv, he, hl, q⟩ := h
      refine ⟨_, (pss_cons (ps_if (pt_cmpR op_eq (pe_ix ix_tup (pv 0) pe_int (fun _ _ => rfl)) pe_str (nomark _)) (pss_one (ps_ret (pe_dget (hu_of hr) (pv 1) (pe_ix ix_tup (pv 0) pe_int (fun _ _ => rfl)) (fun _ _ => rfl)))) pss_nil)
      (pss_cons (ps_set (i := 2) sc_law_deep_by.nd rfl (Or.inl rfl) (pe_ifExp (pt_cmpR op_in_seq (pe_ix ix_tup (pv 0) pe_int (fun _ _ => rfl)) (pe_tupF (pa_cons pe_str (pa_cons pe_str pa_nil))) (by rfl)) (pe_callTy call_list_of (by rfl) B.list (by decide +kernel) (pa_cons (pe_ix ix_tup (pv 0) pe_int (fun _ _ => rfl)) pa_nil)) (pe_callTy call_list_of (by rfl) B.list (by decide +kernel) (pa_cons (pe_slice sl_tupF (pv 0) (po_some pe_int) po_none) pa_nil))))
      (pss_one (ps_ret (pe_op op_add pe_int (pe_callB (cr_max rfl) (by rfl) B.max (by decide +kernel) (pa_cons (pe_op op_cat (pe_lst (pa_cons pe_int pa_nil)) (pe_lc (own := [("_law_part", 3)]) (g := (gName 3)) (tt := tYes) (te := (tCall (spDeepBy d) [] E0 (tCons (tVar 3) (tCons (tVar 1) tNil)))) (by rfl) sc_law_deep_by.nd (pi_list (pv 2)) (blkOk_by (own := [("_law_part", 3)]) (N := ["_law_term_here", "_law_depths", "_law_parts", "_law_part"]) (sc := defScope s_law_deep_by) (by decide +kernel)) (fun _ _ _ _ _ => (pg_name (i := 3) sc_law_deep_by.nd rfl (Or.inl rfl))) (fun _ _ _ _ _ => pts_nil) (fun _ _ _ _ _ => (pe_own c_deep_by hr (by omega) (by rfl) (pa_cons (pv 3) (pa_cons (pv 1) pa_nil)))))) pa_nil))))))), ?_⟩
      obtain ⟨a, rfl, hw⟩ := hv.word
      rcases hw with ⟨nm, rfl, e1⟩ | ⟨ncall, hw⟩
      · obtain ⟨i, hi⟩ : HasC kvs nm := hl
        refine ⟨_, rfl, _, _, _, _, rfl, rfl, e1.sq, atI_nat (j := 0) rfl, rfl, _, rfl, iteB (fun _ => ?_) (fun z => absurd z (by decide +kernel))⟩
        refine ⟨_, rfl, _, rfl, _, _, _, _, rfl, rfl, e1.sq, atI_nat (j := 1) rfl, e, .int i, rfl, (by rw [← hi]; exact DGet.k (k := Sum.inr nm) he), ?_⟩
        have z := q H (Same.refl H)
        have e2 : deepF (envOf kvs) (d + 1) (.call nm) = i := by
          show envOf kvs nm = i
          unfold envOf
          rw [hi]
        rw [e2] at z
        exact z
      obtain ⟨hsl, hsv⟩ := subs_lv hl
      rw [deepF_subs ncall] at q
      obtain ⟨x0, r0, e0, hx0⟩ : ∃ (x0 : Str) (r0 : List V), PTup H a (.str x0 :: r0) ∧ x0 ≠ "call" := by
        rcases hw with ⟨x, b, us, hx, e1, _⟩ | ⟨x, r, hx, _, _, e1, _⟩
        · exact ⟨x, _, e1, by rcases hx with rfl | rfl <;> decide +kernel⟩
        · exact ⟨x, _, e1, hx⟩
      refine ⟨_, rfl, _, _, _, _, rfl, rfl, e0.sq, atI_nat (j := 0) rfl, rfl, _, rfl, iteB (fun z => ?_) (fun _ => ?_)⟩
      · have y := of_decide_eq_true z
        injection y with y
        exact (hx0 y).elim
      refine mid_tIfN (M := fun v1 H1 => ∃ (L : Addr) (us : List V), v1 = .ref L ∧ Same H H1 ∧ H1 L = some (.lst us) ∧ TmL H1 us (subs t)) ?rest ?now
      case now =>
        intro R' hR'
        rcases hw with ⟨x, b, us, hx, e1, pb, tl⟩ | ⟨x, r, _, hn1, hn2, e1, tl⟩
        · refine ⟨_, rfl, _, _, _, _, rfl, rfl, e1.sq, atI_nat (j := 0) rfl, (by show 2 ≤ sizeLine; decide), fun t1 H1 s1 n1 p1 => ?_⟩
          refine ⟨t1, _, rfl, .inr p1.sq, rfl, rfl, _, rfl, iteB (fun _ => ?_) (fun z => ?_)⟩
          · refine ⟨_, rfl, _, _, _, _, rfl, rfl, (e1.same s1).sq, atI_nat (j := 1) rfl, b, _, rfl, .inr (pb.same s1).sq, fun L nL => ?_⟩
            have sL := same_upd (o := .lst us) nL
            exact hR' _ _ ⟨L, us, rfl, s1.trans sL, upd_same, tl.keep (KT.same (s1.trans sL))⟩
          · have z2 : inV (.str x) ([("then" : Str), "fork"].map V.str) = false := z
            rw [inV_str, decide_eq_false_iff_not] at z2
            exact (z2 (by rcases hx with y | y <;> simp [y])).elim
        · refine ⟨_, rfl, _, _, _, _, rfl, rfl, e1.sq, atI_nat (j := 0) rfl, (by show 2 ≤ sizeLine; decide), fun t1 H1 s1 n1 p1 => ?_⟩
          refine ⟨t1, _, rfl, .inr p1.sq, rfl, rfl, _, rfl, iteB (fun z => ?_) (fun _ => ?_)⟩
          · have z2 : inV (.str x) ([("then" : Str), "fork"].map V.str) = true := z
            rw [inV_str, decide_eq_true_eq] at z2
            rcases List.mem_cons.mp z2 with y | y
            · exact (hn1 y).elim
            · exact (hn2 (List.mem_singleton.mp y)).elim
          · refine ⟨_, rfl, 3, rfl, a, _, rfl, e1.same s1, fun c Hc sc pc => ?_⟩
            have ec : cutV (.str x :: r) (some 3) none = r.drop 2 := cut_from (.str x :: r) 3
            rw [ec] at pc
            refine ⟨c, _, rfl, .inr pc.sq, fun L nL => ?_⟩
            have sL := same_upd (o := .lst (r.drop 2)) nL
            exact hR' _ _ ⟨L, _, rfl, (s1.trans sc).trans sL, upd_same, tl.keep (KT.same ((s1.trans sc).trans sL))⟩
      case rest =>
        rintro v1 H1 ⟨L, us, rfl, s1, hL, tl⟩
        have ul := tl.len
        refine ⟨(by show 1 ≤ sizeLine; decide), fun Z nZ => ?_⟩
        have sZ := same_upd (o := .lst [V.int 0]) nZ
        have hZ := upd_same (H := H1) (a := Z) (o := .lst [V.int 0])
        generalize upd H1 Z (.lst [V.int 0]) = H2 at sZ hZ ⊢
        refine ⟨_, rfl, L, rfl, ⟨_, SqL.of (sZ _ _ hL)⟩, fun D nD => ?_⟩
        refine lc_list (K := K) (a := L) (xs := us) (fun i H3 => Same H2 H3 ∧ H3 D = some (.lst ((((subs t).take i).map (deepF (envOf kvs) d)).map V.int))) ?_ ?_ ?_ ?_
        · exact ⟨same_upd nD, upd_same⟩
        · rintro i H3 _ ⟨s3, _⟩
          exact SqL.of (s3 _ _ (sZ _ _ hL))
        · rintro i x H3 hx ⟨s3, hD⟩
          obtain ⟨t0, et, ht0⟩ := tl.get hx
          refine ⟨rfl, tyes ?_⟩
          have s13 := sZ.trans s3
          refine ⟨_, rfl, _, rfl, x, t0, e, kvs, R, rfl, ht0.keep (KT.same s13), s13 _ _ (s1 _ _ he), hsv t0 (List.mem_of_getElem? et), fun H4 s4 => ?_⟩
          refine ⟨_, s4 _ _ hD, ?_, fun c o ec => ?_, ?_⟩
          · rw [List.length_map, List.length_map, List.length_take]
            exact small1000 (by omega)
          · rw [upd_ne (ne_of_none ec nD)]
            exact s4 _ _ (s3 _ _ ec)
          · rw [upd_same, List.take_add_one, et, List.map_append, List.map_append]
            rfl
        · rintro H3 ⟨s3, hD⟩
          rw [ul, List.take_length] at hD
          refine ⟨_, _, _, _, rfl, rfl, s3 _ _ hZ, hD, ?_, fun Y nY => ?_⟩
          · rw [List.length_map, List.length_map]
            exact Nat.le_of_lt (small1000 (by show 1 + _ ≤ 1000; omega))
          have sY := same_upd (o := .lst ([V.int 0] ++ ((subs t).map (deepF (envOf kvs) d)).map V.int)) nY
          refine ⟨Y, 0 :: (subs t).map (deepF (envOf kvs) d), rfl, SqL.of upd_same, by simp, fun m hm1 hm2 => ?_⟩
          rw [mx_is hm1 hm2]
          exact ⟨_, _, rfl, rfl, q _ ((s1.trans sZ).trans (s3.trans sY))⟩
theorem ok_deep (T : At K mg "_law_deep" s_law_deep ["_law_term_here", "_law_program_here"]) (B : Bt mg) (c_deep_by : Cal P w K mg base 7 "_law_deep_by" ["_law_term_here", "_law_depths"] (spDeepBy 6)) : Cal P w K mg base 8 "_law_deep" ["_law_term_here", "_law_program_here"] spDeep := by
  refine cal_of T sc_law_deep (fun vs H Q E h => ?_) (fun f cdv A outer s H vs Q E hr h => ?_)
  · obtain ⟨v, t, p, ws, ps, S, rfl, _⟩ := h
    rfl
  · obtain ⟨v, t, p, ws, ps, S, rfl, hv, hp, pr, pn, hl, hlv, q⟩ := h
    refine ⟨_, (pss_cons (ps_set (i := 2) sc_law_deep.nd rfl (Or.inl rfl) pe_dnewK)
      (pss_cons (ps_for PassesOwn.never rfl (pi_list (pe_revL (pv 1))) (pg_tup (by rfl) (pgs_cons (pg_name (i := 3) sc_law_deep.nd rfl (Or.inl rfl)) (pgs_cons (pg_name (i := 4) sc_law_deep.nd rfl (Or.inl rfl)) pgs_nil))) (pss_one (ps_dput (hu_of hr) (pv 2) (pv 3) (pe_own c_deep_by hr (by decide) (by rfl) (pa_cons (pv 4) (pa_cons (pv 2) pa_nil))) rfl)))
      (pss_one (ps_ret (pe_own c_deep_by hr (by decide) (by rfl) (pa_cons (pv 0) (pa_cons (pv 2) pa_nil))))))), ?_⟩
    intro e ne
    have hwl : ws.length = ps.length := pr.len
    have s1 : Same H (upd H e (.dK [])) := same_upd ne
    refine ⟨_, rfl, p, ws, rfl, SqL.of (s1 _ _ hp), fun Z nZ => ?_⟩
    obtain ⟨eZe, nZ0⟩ := free_upd nZ
    have s2 : Same H (upd (upd H e (.dK [])) Z (.lst ws.reverse)) := s1.trans (same_upd nZ)
    refine ⟨Z, rfl, ⟨_, SqL.of upd_same⟩, ?_⟩
    refine for_list (K := K) (a := Z) (xs := ws.reverse) (fun i σ H2 => ∃ y3 y4 : Option V, σ = [some v, some (.ref p), some (.ref e), y3, y4] ∧ Same H H2 ∧ H2 Z = some (.lst ws.reverse) ∧ i ≤ ps.length ∧ H2 e = some (.dK (dk 6 (ps.drop (ps.length - i))))) ?_ ?_ ?_ ?_
    · refine ⟨none, none, rfl, s2, upd_same, Nat.zero_le _, ?_⟩
      rw [upd_ne eZe.symm, upd_same, Nat.sub_zero, List.drop_length]
      rfl
    · rintro i σ H2 _ ⟨_, _, _, _, h, _⟩
      exact SqL.of h
    · rintro i x σ H2 hx ⟨y3, y4, rfl, s3, hZ, hil, hd⟩
      have hi : i < ws.length := by
        have := (List.getElem?_eq_some_iff.mp hx).1
        rwa [List.length_reverse] at this
      rw [List.getElem?_reverse hi] at hx
      obtain ⟨q0, a, u, eq, rfl, pa, tu⟩ := pr.get hx
      obtain ⟨n0, t0⟩ := q0
      have hj : ps.length - (i + 1) = ws.length - 1 - i := by omega
      have hdr : ps.drop (ps.length - (i + 1)) = (n0, t0) :: ps.drop (ps.length - i) := by
        rw [hj]
        rw [hwl] at eq ⊢
        have hlt : ps.length - 1 - i < ps.length := by omega
        rw [List.drop_eq_getElem_cons hlt]
        rw [List.getElem?_eq_getElem hlt] at eq
        injection eq with eq
        rw [eq, show ps.length - 1 - i + 1 = ps.length - i by omega]
      have hpn : Lv (· ∈ (ps.drop (ps.length - i)).map Prod.fst) (Few S) 6 t0 := by
        have z := pn.at eq
        rw [show ws.length - 1 - i + 1 = ps.length - i by omega] at z
        exact z
      refine ⟨a, _, rfl, (pa.same s3).sq, rfl, _, _, rfl, _, _, rfl, rfl, ?_⟩
      refine ⟨_, rfl, _, rfl, u, t0, e, _, Few S, rfl, tu.keep (KT.same s3), hd, hpn.imp (fun n hn => dk_has hn) (fun _ h => h), fun H3 s4 => ?_⟩
      refine ⟨_, rfl, _, rfl, e, _, rfl, DPut.k (k := Sum.inr n0) (s4 _ _ hd) ?_, ?_⟩
      · have h1 := dk_len 6 (ps.drop (ps.length - i))
        rw [List.length_drop] at h1
        exact small1000 (by omega)
      · refine ⟨_, _, rfl, ?_, ?_, by omega, ?_⟩
        · intro c o ec
          rw [upd_ne (ne_of_none ec ne)]
          exact s4 _ _ (s3 _ _ ec)
        · rw [upd_ne eZe]
          exact s4 _ _ hZ
        · rw [upd_same, hdr]
          rfl
    · rintro σ H2 ⟨y3, y4, rfl, s3, hZ, _, hd⟩
      rw [List.length_reverse, hwl, Nat.sub_self, List.drop_zero] at hd
      exact ⟨_, rfl, _, rfl, v, t, e, _, Few S, rfl, hv.keep (KT.same s3), hd, hlv.imp (fun n hn => dk_has hn) (fun _ h => h), fun H3 s4 => q H3 (s3.trans s4)⟩
end
end Su
/-! ### QT: what the law's programs are -/
namespace Su
open PySem PySem.Spec PyProof.Rows L2
theorem roomsL_cons (n : Str) (t : Tm) (r : List (Str × Tm)) : roomsL 6 ((n, t) :: r) = roomsF 6 t ++ roomsL 6 r := rfl
theorem PV.swap {S : List Int} {n : Str} {t t' : Tm} {r : List (Str × Tm)} (v : PV S ((n, t) :: r)) (h : Lv (· ∈ r.map Prod.fst) (Few S) 6 t') (g : Gd 6 t') : PV S ((n, t') :: r) := by
  refine ⟨v.l1, v.l5, v.nm, v.nd, ⟨h, v.pn.2⟩, fun q hq => ?_, v.sb⟩
  rcases List.mem_cons.mp hq with rfl | hq
  · exact g
  · exact v.tm q (List.mem_cons_of_mem _ hq)
theorem PV.re {S : List Int} {ps : List (Str × Tm)} (v : PV S ps) : RE 6 ps (envOf (rk 6 ps)) := rk_RE v.pn v.nd
theorem top_re {S : List Int} {n : Str} {t t' : Tm} {r : List (Str × Tm)} {env : Str → Int} (v : PV S ((n, t) :: r)) (e : RE 6 ((n, t) :: r) env) (h : Lv (· ∈ r.map Prod.fst) (Few S) 6 t') : topReach 6 ((n, t') :: r) = reachF env 6 t' :=
  top_RE ⟨h, v.pn.2⟩ (List.nodup_cons.mp v.nd).2 fun q hq => e q (List.mem_cons_of_mem _ hq)
/-- the first term within another one -/
structure Wr (S : List Int) (n : Str) (t : Tm) (r : List (Str × Tm)) : Prop where
  v : PV S ((n, t) :: r)
  lv : Lv (· ∈ r.map Prod.fst) (Few S) 5 t
  gd : Gd 5 t
section
variable {S : List Int} {n : Str} {t : Tm} {r : List (Str × Tm)}
theorem Wr.top (h : Wr S n t r) : topReach 6 ((n, t) :: r) = reachF (envOf (rk 6 ((n, t) :: r))) 5 t := by
  rw [top_re h.v h.v.re h.v.pn.1]
  exact reachF_any h.lv (by decide)
theorem Wr.rooms (h : Wr S n t r) (k : Int) : k ∈ roomsL 6 ((n, t) :: r) ↔ k ∈ roomsF 5 t ∨ k ∈ roomsL 6 r := by
  rw [roomsL_cons, roomsF_any (C' := fun _ => True) (R' := fun _ => True) h.lv (by decide : 5 ≤ 6), List.mem_append]
theorem Wr.thn (h : Wr S n t r) : PV S ((n, .thn [t]) :: r) ∧ topReach 6 ((n, .thn [t]) :: r) = topReach 6 ((n, t) :: r) ∧ ∀ k, k ∈ roomsL 6 ((n, .thn [t]) :: r) ↔ k ∈ roomsL 6 ((n, t) :: r) := by
  have lv : Lv (· ∈ r.map Prod.fst) (Few S) 6 (.thn [t]) := ⟨by show 1 ≤ 3; decide, fun x hx => by rw [List.mem_singleton.mp hx]; exact h.lv⟩
  refine ⟨h.v.swap lv ⟨⟨by show 1 ≤ 1; decide, by show 1 ≤ 8; decide⟩, fun x hx => by rw [List.mem_singleton.mp hx]; exact h.gd⟩, ?_, fun k => ?_⟩
  · rw [top_re h.v h.v.re lv, h.top]
    show reachF _ 5 t + 0 = _
    omega
  · rw [h.rooms, roomsL_cons, List.mem_append]
    show k ∈ roomsF 5 t ++ [] ∨ _ ↔ _
    rw [List.append_nil]
theorem Wr.frk (h : Wr S n t r) : PV S ((n, .frk [t, t]) :: r) ∧ topReach 6 ((n, .frk [t, t]) :: r) = 2 * topReach 6 ((n, t) :: r) + 1 ∧ ∀ k, k ∈ roomsL 6 ((n, .frk [t, t]) :: r) ↔ k ∈ roomsL 6 ((n, t) :: r) := by
  have one : ∀ x ∈ [t, t], x = t := fun x hx => by simpa using hx
  have lv : Lv (· ∈ r.map Prod.fst) (Few S) 6 (.frk [t, t]) := ⟨by show 2 ≤ 3; decide, fun x hx => by rw [one x hx]; exact h.lv⟩
  refine ⟨h.v.swap lv ⟨⟨by show 2 ≤ 2; decide, by show 2 ≤ 6; decide⟩, fun x hx => by rw [one x hx]; exact h.gd⟩, ?_, fun k => ?_⟩
  · rw [top_re h.v h.v.re lv, h.top]
    show reachF _ 5 t + (reachF _ 5 t + 0) + 1 = _
    omega
  · rw [h.rooms, roomsL_cons, List.mem_append]
    show k ∈ roomsF 5 t ++ (roomsF 5 t ++ []) ∨ _ ↔ _
    rw [List.append_nil, List.mem_append, or_self]
theorem Wr.rnd (h : Wr S n t r) {l j : Int} (hl : TimesOk l (some j)) (h12 : j ≤ 12) : PV S ((n, .rnd l (some j) t) :: r) ∧ topReach 6 ((n, .rnd l (some j) t) :: r) = j * topReach 6 ((n, t) :: r) + j - l ∧ ∀ k, k ∈ roomsL 6 ((n, .rnd l (some j) t) :: r) ↔ k ∈ roomsL 6 ((n, t) :: r) := by
  have hj := (hl.2.2 j rfl).1
  have h0 := hl.1
  have lv : Lv (· ∈ r.map Prod.fst) (Few S) 6 (.rnd l (some j) t) := ⟨⟨h0, by omega, fun k e => by cases e; omega⟩, h.lv⟩
  refine ⟨h.v.swap lv ⟨hl, h.gd⟩, ?_, fun k => ?_⟩
  · rw [top_re h.v h.v.re lv, h.top]
    show reachF _ 5 t * j + j - l = _
    rw [Int.mul_comm]
  · rw [h.rooms, roomsL_cons, List.mem_append]
    rfl
theorem Wr.rndN (h : Wr S n t r) {l : Int} (hl : TimesOk l none) : PV S ((n, .rnd l none t) :: r) ∧ topReach 6 ((n, .rnd l none t) :: r) = (l + 1) * topReach 6 ((n, t) :: r) + 1 ∧ ∀ k, k ∈ roomsL 6 ((n, .rnd l none t) :: r) ↔ k ∈ roomsL 6 ((n, t) :: r) := by
  have h0 := hl.1
  have h1 := hl.2.1
  have lv : Lv (· ∈ r.map Prod.fst) (Few S) 6 (.rnd l none t) := ⟨⟨h0, by omega, fun k e => by cases e⟩, h.lv⟩
  refine ⟨h.v.swap lv ⟨hl, h.gd⟩, ?_, fun k => ?_⟩
  · rw [top_re h.v h.v.re lv, h.top]
    show reachF _ 5 t * (l + 1) + 1 = _
    rw [Int.mul_comm]
  · rw [h.rooms, roomsL_cons, List.mem_append]
    rfl
/-- opened -/
theorem PV.opened (v : PV S ((n, t) :: r)) {tm : Str → Tm} (htm : ∀ q ∈ (n, t) :: r, tm q.1 = q.2) (hd : deepF (envOf (dk 6 ((n, t) :: r))) 6 t < 7) :
    Op (· ∈ ((n, t) :: r).map Prod.fst) tm 30 t ∧ PV S ((n, openF tm 30 t) :: r) ∧ topReach 6 ((n, openF tm 30 t) :: r) = topReach 6 ((n, t) :: r) ∧ ∀ k, k ∈ roomsL 6 ((n, openF tm 30 t) :: r) ↔ k ∈ roomsL 6 ((n, t) :: r) := by
  have l5 := v.l5
  have op : Op (· ∈ ((n, t) :: r).map Prod.fst) tm 30 t := Op.mono (fun _ h => h) (by omega) (op_prog v.pn htm (n, t) List.mem_cons_self)
  have at_ : ∀ {P : Tm → Prop}, (∀ q ∈ (n, t) :: r, P q.2) → ∀ m, m ∈ ((n, t) :: r).map Prod.fst → P (tm m) := fun h m hm => by
    obtain ⟨q, hq, rfl⟩ := List.mem_map.mp hm
    rw [htm q hq]
    exact h q hq
  have E : OpE S 6 (· ∈ ((n, t) :: r).map Prod.fst) tm (envOf (rk 6 ((n, t) :: r))) (envOf (dk 6 ((n, t) :: r))) := by
    refine ⟨fun m hm => ?_, fun m hm => ?_, at_ (PN.names v.pn), at_ v.tm⟩
    · obtain ⟨q, hq, rfl⟩ := List.mem_map.mp hm
      rw [htm q hq]
      exact v.re q hq
    · obtain ⟨q, hq, rfl⟩ := List.mem_map.mp hm
      rw [htm q hq]
      exact dk_DE v.pn v.nd q hq
  have lt := PN.names v.pn (n, t) List.mem_cons_self
  obtain ⟨a, b, c⟩ := open_lv E 30 6 t op lt (v.tm (n, t) List.mem_cons_self) 6 (by omega)
  have a2 : Lv (· ∈ r.map Prod.fst) (Few S) 6 (openF tm 30 t) := a.imp (fun _ h => h.elim) (fun _ h => h)
  obtain ⟨r1, r2⟩ := open_rooms (D := 6) (C := (· ∈ ((n, t) :: r).map Prod.fst)) (tm := tm) (at_ (PN.names v.pn)) 30 6 t op lt 6 a
  refine ⟨op, v.swap a2 b, ?_, fun k => ?_⟩
  · rw [top_re v v.re a2, top_re v v.re v.pn.1, c]
  · rw [roomsL_cons, roomsL_cons, List.mem_append, List.mem_append]
    constructor
    · rintro (h | h)
      · rcases r2 k h with h | ⟨m, hm, h⟩
        · exact .inl h
        · obtain ⟨q, hq, rfl⟩ := List.mem_map.mp hm
          rw [htm q hq] at h
          rcases List.mem_cons.mp hq with rfl | hq
          · exact .inl h
          · exact .inr (List.mem_flatten.mpr ⟨_, List.mem_map.mpr ⟨q, hq, rfl⟩, h⟩)
      · exact .inr h
    · rintro (h | h)
      · exact .inl (r1 k h)
      · exact .inr h
end
/-! called otherwise -/
def renP (f : Str → Str) (ps : List (Str × Tm)) : List (Str × Tm) := ps.map fun q => (f q.1, callT f q.2)
theorem renP_fst (f : Str → Str) (ps : List (Str × Tm)) : (renP f ps).map Prod.fst = (ps.map Prod.fst).map f := by
  unfold renP
  rw [List.map_map, List.map_map]
  rfl
theorem renP_pn {S : List Int} {D : Nat} (f : Str → Str) : ∀ {ps : List (Str × Tm)}, PN S D ps → PN S D (renP f ps)
  | [], _ => trivial
  | (n, t) :: r, h => ⟨callT_lv (fun m hm => by have z := renP_fst f r; unfold renP at z; rw [z]; exact List.mem_map.mpr ⟨m, hm, rfl⟩) D t h.1, renP_pn f h.2⟩
theorem env_of (f : Str → Str) (e : Str → Int) : ∀ ns : List Str, (ns.map f).Nodup → ∃ e2 : Str → Int, ∀ n ∈ ns, e2 (f n) = e n
  | [], _ => ⟨e, fun n hn => (List.not_mem_nil hn).elim⟩
  | n :: ns, h => by
    have h1 := List.nodup_cons.mp h
    obtain ⟨e2, he⟩ := env_of f e ns h1.2
    refine ⟨fun m => if m = f n then e n else e2 m, fun m hm => ?_⟩
    rcases List.mem_cons.mp hm with rfl | hm
    · exact if_pos rfl
    · show (if f m = f n then e n else e2 (f m)) = e m
      rw [if_neg]
      · exact he m hm
      · intro z
        exact h1.1 (z ▸ List.mem_map.mpr ⟨m, hm, rfl⟩)
theorem PV.ren {S : List Int} {ps : List (Str × Tm)} (v : PV S ps) {f : Str → Str} (hf : ∀ n ∈ ps.map Prod.fst, NameOk (f n)) (nd : ((ps.map Prod.fst).map f).Nodup) :
    PV S (renP f ps) ∧ topReach 6 (renP f ps) = topReach 6 ps ∧ roomsL 6 (renP f ps) = roomsL 6 ps := by
  refine ⟨⟨?_, ?_, ?_, ?_, renP_pn f v.pn, fun q hq => ?_, v.sb⟩, ?_, ?_⟩
  · unfold renP
    rw [List.length_map]
    exact v.l1
  · unfold renP
    rw [List.length_map]
    exact v.l5
  · rw [renP_fst]
    intro m hm
    obtain ⟨n, hn, rfl⟩ := List.mem_map.mp hm
    exact hf n hn
  · rw [renP_fst]
    exact nd
  · obtain ⟨x, hx, rfl⟩ := List.mem_map.mp hq
    exact callT_gd (C := (· ∈ ps.map Prod.fst)) (fun n hn => hf n hn) 6 x.2 (PN.names v.pn x hx) (v.tm x hx)
  · cases ps with
    | nil => rfl
    | cons q r =>
      obtain ⟨n, t⟩ := q
      have h1 := List.nodup_cons.mp nd
      obtain ⟨e2, he⟩ := env_of f (envOf (rk 6 ((n, t) :: r))) (r.map Prod.fst) h1.2
      have top := top_re v v.re v.pn.1
      rw [top]
      have z := top_RE (S := S) (D := 6) (env := e2) (n := f n) (t := callT f t) (r := renP f r) (renP_pn f v.pn) (by rw [renP_fst]; exact h1.2) fun q hq => by
        obtain ⟨x, hx, rfl⟩ := List.mem_map.mp hq
        rw [he x.1 (List.mem_map.mpr ⟨x, hx, rfl⟩), v.re x (List.mem_cons_of_mem _ hx)]
        exact (callT_reach (C := (· ∈ r.map Prod.fst)) (fun m hm => he m hm) 6 x.2 (PN.names v.pn.2 x hx)).symm
      exact z.trans (callT_reach (C := (· ∈ r.map Prod.fst)) (fun m hm => he m hm) 6 t v.pn.1)
  · unfold roomsL renP
    rw [List.map_map]
    have e : (fun q : Str × Tm => roomsF 6 q.2) ∘ (fun q : Str × Tm => (f q.1, callT f q.2)) = fun q => roomsF 6 q.2 := by
      funext q
      exact callT_rooms 6 q.2
    rw [e]
/-! a term more -/
theorem Lv.few {C C' : Str → Prop} {S S' : List Int} (hc : ∀ n, C n → C' n) (hs : ∀ k ∈ S, k ∈ S') {d : Nat} {t : Tm} (h : Lv C (Few S) d t) : Lv C' (Few S') d t := h.imp hc fun r z => ⟨z.1, fun k hk => hs k (z.2 k hk)⟩
theorem PN.snoc {S S' : List Int} {D : Nat} {q : Str × Tm} (hs : ∀ k ∈ S, k ∈ S') (hq : Lv (fun _ => False) (Few S') D q.2) : ∀ {ps : List (Str × Tm)}, PN S D ps → PN S' D (ps ++ [q])
  | [], _ => ⟨hq.imp (fun _ h => h.elim) (fun _ h => h), trivial⟩
  | (n, t) :: r, h => ⟨Lv.few (fun m hm => by show m ∈ (r ++ [q]).map Prod.fst; rw [List.map_append]; exact List.mem_append_left _ hm) hs h.1, PN.snoc hs hq h.2⟩
theorem PV.more {S : List Int} {n : Str} {t : Tm} {r : List (Str × Tm)} (v : PV S ((n, t) :: r)) (l4 : ((n, t) :: r).length ≤ 4) {sp : Str} (hsp : NameOk sp) (hn : sp ∉ ((n, t) :: r).map Prod.fst) :
    PV (99 :: S) ((n, t) :: r ++ [(sp, .ask [99])]) ∧ topReach 6 ((n, t) :: r ++ [(sp, .ask [99])]) = topReach 6 ((n, t) :: r) ∧ ∀ k, k ∈ roomsL 6 ((n, t) :: r ++ [(sp, .ask [99])]) ↔ k ∈ roomsL 6 ((n, t) :: r) ∨ k = 99 := by
  have la : Lv (fun _ => False) (Few (99 :: S)) 6 (.ask [99]) := ⟨by show 1 ≤ 3; decide, fun k hk => by rw [List.mem_singleton.mp hk]; exact List.mem_cons_self⟩
  have pn := PN.snoc (q := (sp, .ask [99])) (fun k hk => List.mem_cons_of_mem _ hk) la v.pn
  refine ⟨⟨?_, ?_, ?_, ?_, pn, fun q hq => ?_, fun k hk => ?_⟩, ?_, fun k => ?_⟩
  · rw [List.length_append]
    have := v.l1
    omega
  · rw [List.length_append]
    show _ + 1 ≤ 5
    omega
  · rw [List.map_append]
    intro m hm
    rcases List.mem_append.mp hm with h | h
    · exact v.nm m h
    · rw [List.mem_singleton.mp h]
      exact hsp
  · rw [List.map_append, List.nodup_append]
    refine ⟨v.nd, by simp, fun a ha b hb => ?_⟩
    rw [List.mem_singleton.mp hb]
    rintro rfl
    exact hn ha
  · rcases List.mem_append.mp hq with h | h
    · exact v.tm q h
    · rw [List.mem_singleton.mp h]
      exact ⟨by show 1 ≤ 1; decide, by show 1 ≤ 6; decide, List.pairwise_singleton _ _, fun k hk => by rw [List.mem_singleton.mp hk]; decide⟩
  · rcases List.mem_cons.mp hk with rfl | h
    · decide
    · exact v.sb k h
  · have nr : sp ∉ r.map Prod.fst := fun h => hn (List.mem_cons_of_mem _ h)
    have ag : ∀ m, m ∈ r.map Prod.fst → envOf (rk 6 ((n, t) :: r)) m = (fun m => if m = sp then 1 else envOf (rk 6 ((n, t) :: r)) m) m := fun m hm => by
      show _ = if m = sp then 1 else _
      rw [if_neg]
      rintro rfl
      exact nr hm
    rw [top_re v v.re v.pn.1, reachF_cong ag 6 t v.pn.1]
    refine top_RE (S := 99 :: S) (r := r ++ [(sp, .ask [99])]) pn ?_ fun q hq => ?_
    · rw [List.map_append, List.nodup_append]
      refine ⟨(List.nodup_cons.mp v.nd).2, by simp, fun a ha b hb => ?_⟩
      rw [List.mem_singleton.mp hb]
      rintro rfl
      exact nr ha
    · rcases List.mem_append.mp hq with h | h
      · have hm : q.1 ∈ r.map Prod.fst := List.mem_map.mpr ⟨q, h, rfl⟩
        refine (ag q.1 hm).symm.trans ?_
        rw [v.re q (List.mem_cons_of_mem _ h)]
        exact reachF_cong ag 6 q.2 (PN.names v.pn.2 q h)
      · rw [List.mem_singleton.mp h]
        exact if_pos rfl
  · unfold roomsL
    rw [List.map_append, List.flatten_append, List.mem_append]
    show _ ∨ k ∈ [99] ++ [] ↔ _
    rw [List.append_nil, List.mem_singleton]
/-! dicts of pairs -/
theorem merge_other {k : Key} : ∀ (kvs acc : List (Key × V)), k ∉ kvs.map Prod.fst → valV (mergeK acc kvs) k = valV acc k
  | [], acc, _ => rfl
  | (k0, v0) :: r, acc, h => by
    have e : mergeK acc ((k0, v0) :: r) = mergeK (putK acc k0 v0) r := rfl
    rw [e, merge_other r _ fun z => h (List.mem_cons_of_mem _ z), valV_put, if_neg]
    rintro rfl
    exact h List.mem_cons_self
theorem merge_at {k : Key} {v : V} : ∀ (kvs acc : List (Key × V)), (kvs.map Prod.fst).Nodup → (k, v) ∈ kvs → valV (mergeK acc kvs) k = some v
  | [], _, _, h => (List.not_mem_nil h).elim
  | (k0, v0) :: r, acc, nd, h => by
    have n1 := List.nodup_cons.mp nd
    have e : mergeK acc ((k0, v0) :: r) = mergeK (putK acc k0 v0) r := rfl
    rw [e]
    rcases List.mem_cons.mp h with z | z
    · injection z with z1 z2
      subst z1 z2
      rw [merge_other r _ n1.1, valV_put, if_pos rfl]
    · exact merge_at r _ n1.2 z
theorem prl_pairs {H : Hp} : ∀ {ws : List V} {ps : List (Str × Tm)}, PrL H ws ps → ∃ (as : List Addr) (kvs : List (Key × V)), ws = as.map V.ref ∧ Paired (fun p kv => PTup H p [kV kv.1, kv.2]) as kvs ∧ kvs.map Prod.fst = ps.map (fun q => (Sum.inr q.1 : Key)) ∧ ∀ q ∈ ps, ∃ v, (Sum.inr q.1, v) ∈ kvs ∧ TmAt H v q.2
  | [], [], _ => ⟨[], [], rfl, .nil, rfl, fun q hq => (List.not_mem_nil hq).elim⟩
  | _ :: _, (n, t) :: ps, h => by
    obtain ⟨⟨a, u, rfl, pa, tu⟩, r⟩ := h
    obtain ⟨as, kvs, rfl, pp, ek, hq⟩ := prl_pairs r
    refine ⟨a :: as, (Sum.inr n, u) :: kvs, rfl, .cons pa pp, by rw [List.map_cons, List.map_cons, ek], fun q h => ?_⟩
    rcases List.mem_cons.mp h with rfl | h
    · exact ⟨u, List.mem_cons_self, tu⟩
    · obtain ⟨v, h1, h2⟩ := hq q h
      exact ⟨v, List.mem_cons_of_mem _ h1, h2⟩
  | [], _ :: _, h => h.elim
  | _ :: _, [], h => h.elim
theorem inr_nodup : ∀ {ns : List Str}, ns.Nodup → (ns.map (fun n => (Sum.inr n : Key))).Nodup := fun h => List.Pairwise.map _ (fun a b h e => h (by injection e)) h
/-- numbers told, as data -/
def ownD (a : Int) (ms : List Int) : PyData := .list [.int a, .list (ms.map PyData.int)]
theorem own_dp {K : PySem.W.Frag} {H : Hp} {u r : Addr} {a : Int} {ms : List Int} (hu : H u = some (.lst [.int a, .ref r])) (hr : H r = some (.lst (ms.map V.int))) : Dp K H (.ref u) (ownD a ms) := .lst (SqL.of hu) (.cons (.int a) (.cons (.lst (SqL.of hr) (dp_intsS ms)) .nil))
theorem own_shaped (a : Int) (ms : List Int) : SeqAt.shaped (ownD a ms) = true := by
  have e : ∀ l : List Int, PyData.canLayAll0 (l.map PyData.int) = true ∧ PyData.depthAll (l.map PyData.int) = 0 := by
    intro l
    induction l with
    | nil => exact ⟨by first | rfl | simp [PyData.canLayAll0], by simp [PyData.depthAll]⟩
    | cons x l ih =>
      refine ⟨?_, ?_⟩
      · rw [List.map_cons]
        simp only [PyData.canLayAll0, ih.1, Bool.and_true]
        first | rfl | simp [PyData.canLay0]
      · rw [List.map_cons]
        simp only [PyData.depthAll, ih.2, PyData.depth]
        rfl
  unfold SeqAt.shaped ownD
  simp only [PyData.canLay0, PyData.canLayAll0, (e ms).1, PyData.depth, PyData.depthAll, (e ms).2]
  decide
theorem own_eq (a : Int) (ms : List Int) : PyData.eqv (ownD a ms) (ownD a ms) = true := by
  refine SeqAt.eqv_refl _ ?_
  have z := own_shaped a ms
  unfold SeqAt.shaped at z
  rw [Bool.and_eq_true] at z
  exact z.1
end Su
/-! ### QL: the law -/
namespace Su
open PySem PySem.Spec PyProof.Rows L2
def qC : List Nat := ("abcdef" : Str).cps.toList
def qN (j : Nat) : Str := "q" ++ (⟨#[qC.getD j 0]⟩ : Str)
theorem qC_at {j : Nat} (h : j < 6) : atI ("abcdef" : Str).cps.toList (j : Int) = some (qC.getD j 0) := by
  have hl : ("abcdef" : Str).cps.toList.length = 6 := by decide +kernel
  refine atI_nat ?_
  unfold qC
  rw [List.getD_eq_getElem?_getD, List.getElem?_eq_getElem (by omega)]
  rfl
theorem qN_ok : ∀ j < 6, NameOk (qN j) := by
  intro j hj
  have e : (qN j).cps = ("q" : Str).cps ++ #[qC.getD j 0] := rfl
  refine ⟨?_, ?_, ?_⟩
  · rw [e, Array.size_append]
    show 1 + 1 ≤ 6
    decide
  · rw [e, Array.size_append]
    show 1 ≤ 1 + 1
    decide
  · rw [e, Array.toList_append]
    intro x hx
    rcases List.mem_append.mp hx with z | z
    · exact (by decide +kernel : ∀ x ∈ ("q" : Str).cps.toList, x ∈ lett.cps.toList) x z
    · rw [List.mem_singleton.mp z]
      exact (by decide +kernel : ∀ j < 6, qC.getD j 0 ∈ lett.cps.toList) j hj
theorem qN_inj {i j : Nat} (hi : i < 6) (hj : j < 6) (h : qN i = qN j) : i = j := by
  have e : ∀ k, (qN k).cps.toList = ("q" : Str).cps.toList ++ [qC.getD k 0] := fun k => by
    show ((("q" : Str).cps ++ #[qC.getD k 0]).toList) = _
    rw [Array.toList_append]
  have e1 : (qN i).cps.toList = (qN j).cps.toList := by rw [h]
  rw [e, e] at e1
  have e2 := List.append_cancel_left e1
  have e3 : qC.getD i 0 = qC.getD j 0 := by simpa using e2
  exact (by decide +kernel : ∀ i < 6, ∀ j < 6, qC.getD i 0 = qC.getD j 0 → i = j) i hi j hj e3
/-- the pairs of names -/
def kvsN (j : Nat) : List (Str × Tm) → List (Key × V)
  | [] => []
  | q :: qs => (Sum.inr q.1, .str (qN j)) :: kvsN (j + 1) qs
theorem kvsN_snoc (q : Str × Tm) : ∀ (qs : List (Str × Tm)) (j : Nat), kvsN j (qs ++ [q]) = kvsN j qs ++ [(Sum.inr q.1, .str (qN (j + qs.length)))]
  | [], j => rfl
  | x :: qs, j => by
    show (Sum.inr x.1, V.str (qN j)) :: kvsN (j + 1) (qs ++ [q]) = _
    rw [kvsN_snoc q qs (j + 1), show j + 1 + qs.length = j + (x :: qs).length by rw [List.length_cons]; omega]
    rfl
theorem kvsN_fst : ∀ (qs : List (Str × Tm)) (j : Nat), (kvsN j qs).map Prod.fst = qs.map (fun q => (Sum.inr q.1 : Key))
  | [], _ => rfl
  | x :: qs, j => by
    show (Sum.inr x.1 : Key) :: (kvsN (j + 1) qs).map Prod.fst = _
    rw [kvsN_fst qs (j + 1)]
    rfl
theorem kvsN_at : ∀ (qs : List (Str × Tm)) (j i : Nat) (q : Str × Tm), qs[i]? = some q → (Sum.inr q.1, V.str (qN (j + i))) ∈ kvsN j qs
  | [], _, _, _, h => by simp at h
  | x :: qs, j, 0, q, h => by
    have e : x = q := by simpa using h
    subst e
    exact List.mem_cons_self
  | x :: qs, j, i + 1, q, h => by
    have z := kvsN_at qs (j + 1) i q (by simpa using h)
    rw [show j + 1 + i = j + (i + 1) by omega] at z
    exact List.mem_cons_of_mem _ z
def renN (kvs : List (Key × V)) (n : Str) : Str := match valV kvs (Sum.inr n) with
  | some (.str s) => s
  | _ => n
theorem paired_snoc {α β : Type} {F : α → β → Prop} {a : α} {b : β} (h : F a b) : ∀ {l : List α} {m : List β}, Paired F l m → Paired F (l ++ [a]) (m ++ [b])
  | _, _, .nil => .cons h .nil
  | _, _, .cons x t => .cons x (paired_snoc h t)
theorem tm_of : ∀ {ps : List (Str × Tm)}, (ps.map Prod.fst).Nodup → ∃ tm : Str → Tm, ∀ q ∈ ps, tm q.1 = q.2
  | [], _ => ⟨fun _ => .rest, fun q hq => (List.not_mem_nil hq).elim⟩
  | (n, t) :: r, h => by
    have h1 := List.nodup_cons.mp h
    obtain ⟨tm, ht⟩ := tm_of h1.2
    refine ⟨fun m => if m = n then t else tm m, fun q hq => ?_⟩
    rcases List.mem_cons.mp hq with rfl | hq
    · exact if_pos rfl
    · show (if q.1 = n then t else tm q.1) = q.2
      rw [if_neg]
      · exact ht q hq
      · intro e
        exact h1.1 (e ▸ List.mem_map.mpr ⟨q, hq, rfl⟩)
theorem mid_ifσ {t : TT} {u S : TS} {D : Ends} {σ : L2.St} {H : Hp} {r : V → Hp → Prop} {b c : L2.St → Hp → Prop} (M : L2.St → Hp → Prop) (hR : ∀ σ' H', M σ' H' → S D σ' H') (h : ∀ D2 : Ends, (∀ σ' H', M σ' H' → D2.nx σ' H') → tIfS t u tNext D2 σ H) : tNext (Ends.mk (tSeq (tIfS t u tNext) S D) r b c) σ H := h _ hR
theorem paired_map {α β : Type} {F G : α → β → Prop} (h : ∀ a b, F a b → G a b) : ∀ {l : List α} {m : List β}, Paired F l m → Paired G l m
  | _, _, .nil => .nil
  | _, _, .cons x t => .cons (h _ _ x) (paired_map h t)
def spLaw (K : PySem.W.Frag) : Sp := fun vs H Q _ => ∃ (a : Addr) (ns : List Int), vs = [.ref a] ∧ SqL K H a (ns.map V.int) ∧ ns.length ≤ 63 ∧ ∀ H', Q (.bl true) H'
structure Calls (P : Program) (w : World) (K : PySem.W.Frag) (mg : Str → Option Value) (base : Heap) : Prop where
  take : Cal P w K mg base 1 "_law_take" ["_law_pool_here", "_law_many"] spTake
  picked : Cal P w K mg base 2 "_law_picked" ["_law_pool_here", "_law_some", "_law_many"] (spPicked K)
  pool : Cal P w K mg base 1 "_law_pool" ["_law_script", "_law_k"] (spPool K)
  program : Cal P w K mg base 9 "_law_program" ["_law_pool_here", "_law_most", "_law_deep_here", "_law_some"] spProgram
  numbers : Cal P w K mg base 20 "_law_numbers" ["_law_program_here"] spNumbers
  called : Cal P w K mg base 7 "_law_called" ["_law_term_here", "_law_names_here"] (spCalled 6)
  opened : Cal P w K mg base 31 "_law_opened" ["_law_term_here", "_law_terms"] (spOpened 30)
  deep : Cal P w K mg base 8 "_law_deep" ["_law_term_here", "_law_program_here"] spDeep
theorem sc_law : FnScope ["_law_script", "_law_k", "_law_pool_here", "_law_program_here", "_law_name", "_law_term_here", "_law_own", "_law_spare", "_law_names_here", "_law_other", "_law_opened_here", "_law_least", "_law_most", "_law_low", "_law_high", "_law_due", "_law_one", "_law_inner", "_law_at"] ["_law_script"] (defScope s_law) := ⟨rfl, rfl, rfl, by decide +kernel, rfl, by decide +kernel, by decide +kernel⟩
section
variable {P : Program} {w : World} {K : PySem.W.Frag} {mg : Str → Option Value} {base : Heap}
theorem ok_law {f : Addr} {fd : FuncData} (F : Fun K "law" "law" s_law f fd) (B : Bt mg) (CA : Calls P w K mg base) : FnG P w K mg base CX0 33 f fd ["_law_script"] (spLaw K) := by
  obtain ⟨c_take, c_picked, c_pool, c_program, c_numbers, c_called, c_opened, c_deep⟩ := CA
  refine fnG_fun F sc_law (fun vs H Q E h => ?_) (fun cdv A outer s H vs Q E hg hr h => ?_)
  · obtain ⟨a, ns, rfl, _⟩ := h
    rfl
  · obtain ⟨a, ns, rfl, hS, hlen, q⟩ := h
    refine ⟨_, (pss_cons (ps_for PassesOwn.never rfl (pi_range1 (by rfl) B.range (pa_cons (pe_callB (call_max2 rfl) (by rfl) B.max (by decide +kernel) (pa_cons pe_int (pa_cons (pe_callB (call_min2 rfl) (by rfl) B.min (by decide +kernel) (pa_cons (pe_callB call_len_seq (by rfl) B.len PySem.boot_len (pa_cons (pv 0) pa_nil)) (pa_cons pe_int pa_nil))) pa_nil))) pa_nil)) (pg_name (i := 1) sc_law.nd rfl (Or.inl rfl)) (pss_cons (ps_set (i := 2) sc_law.nd rfl (Or.inl rfl) (pe_own c_pool hr (by omega) (by rfl) (pa_cons (pv 0) (pa_cons (pv 1) pa_nil))))
      (pss_cons (ps_set (i := 3) sc_law.nd rfl (Or.inl rfl) (pe_own c_program hr (by omega) (by rfl) (pa_cons (pv 2) (pa_cons pe_int (pa_cons (pe_op op_add pe_int (pe_own c_take hr (by omega) (by rfl) (pa_cons (pv 2) (pa_cons pe_int pa_nil)))) (pa_cons (pe_own c_picked hr (by omega) (by rfl) (pa_cons (pv 2) (pa_cons (pe_listRg rfl (by rfl) B.list (prg_1 (by rfl) B.range pe_int)) (pa_cons pe_int pa_nil)))) pa_nil))))))
      (pss_cons (ps_asg (pe_ix ix_list (pv 3) pe_int (fun _ _ => rfl)) (pg_tup (by rfl) (pgs_cons (pg_name (i := 4) sc_law.nd rfl (Or.inl rfl)) (pgs_cons (pg_name (i := 5) sc_law.nd rfl (Or.inl rfl)) pgs_nil))))
      (pss_cons (ps_set (i := 6) sc_law.nd rfl (Or.inl rfl) (pe_own c_numbers hr (by omega) (by rfl) (pa_cons (pv 3) pa_nil)))
      (pss_cons (ps_set (i := 7) sc_law.nd rfl (Or.inl rfl) (pe_op op_mulS pe_str (pe_op op_add pe_int (pe_callTy call_int1 (by rfl) B.int (by decide +kernel) (pa_cons (pe_cmpR op_eq (pe_callB call_len_str (by rfl) B.len PySem.boot_len (pa_cons (pv 4) pa_nil)) pe_int (nomark _)) pa_nil)))))
      (pss_cons (ps_set (i := 8) sc_law.nd rfl (Or.inr rfl) (pe_callTy (call_dictP rfl) (by rfl) B.dict (by decide +kernel) (pa_cons (pe_lc (own := [("_law_at", 18), ("_law_one", 16), ("_law_inner", 17)]) (g := (gTup K 2 (gCons (gName 18) (gCons (gTup K 2 (gCons (gName 16) (gCons (gName 17) gNil))) gNil)))) (tt := tYes) (te := (tTupF (tCons (tVar 16) (tCons _ tNil)))) (by rfl) sc_law.nd (pi_enum (by rfl) B.enumerate (pa_cons (pv 3) pa_nil)) (blkOk_by (own := [("_law_at", 18), ("_law_one", 16), ("_law_inner", 17)]) (N := ["_law_script", "_law_k", "_law_pool_here", "_law_program_here", "_law_name", "_law_term_here", "_law_own", "_law_spare", "_law_names_here", "_law_other", "_law_opened_here", "_law_least", "_law_most", "_law_low", "_law_high", "_law_due", "_law_one", "_law_inner", "_law_at"]) (sc := defScope s_law) (by decide +kernel)) (fun _ _ _ _ _ => (pg_tup (by rfl) (pgs_cons (pg_name (i := 18) sc_law.nd rfl (Or.inl rfl)) (pgs_cons (pg_tup (by rfl) (pgs_cons (pg_name (i := 16) sc_law.nd rfl (Or.inl rfl)) (pgs_cons (pg_name (i := 17) sc_law.nd rfl (Or.inl rfl)) pgs_nil))) pgs_nil)))) (fun _ _ _ _ _ => pts_nil) (fun _ _ _ _ _ => (pe_tupF (pa_cons (pv 16) (pa_cons (pe_op op_add_str pe_str (pe_ix ix_str pe_str (pv 18) (fun _ _ => rfl))) pa_nil))))) pa_nil)))
      (pss_cons (ps_setLc (i := 9) (own := [("_law_one", 16), ("_law_inner", 17)]) (g := (gTup K 2 (gCons (gName 16) (gCons (gName 17) gNil)))) (tt := tYes) (te := (tTupF (tCons (tDGet (tVar 8) (tVar 16)) (tCons (tCall (spCalled 6) [] E0 (tCons (tVar 17) (tCons (tVar 8) tNil))) tNil)))) (by rfl) sc_law.nd rfl rfl (sw_true rfl rfl rfl (by decide +kernel)) (pi_list (pv 3)) (blkOk_by (own := [("_law_one", 16), ("_law_inner", 17)]) (N := ["_law_script", "_law_k", "_law_pool_here", "_law_program_here", "_law_name", "_law_term_here", "_law_own", "_law_spare", "_law_names_here", "_law_other", "_law_opened_here", "_law_least", "_law_most", "_law_low", "_law_high", "_law_due", "_law_one", "_law_inner", "_law_at"]) (sc := defScope s_law) (by decide +kernel)) (fun _ _ _ _ _ => (pg_tup (by rfl) (pgs_cons (pg_name (i := 16) sc_law.nd rfl (Or.inl rfl)) (pgs_cons (pg_name (i := 17) sc_law.nd rfl (Or.inl rfl)) pgs_nil)))) (fun _ _ _ _ _ => pts_nil) (fun _ _ _ _ _ => (pe_tupF (pa_cons (pe_dget (hu_of hr) (pv 8) (pv 16) (fun _ _ => rfl)) (pa_cons (pe_own c_called hr (by omega) (by rfl) (pa_cons (pv 17) (pa_cons (pv 8) pa_nil))) pa_nil)))))
      (pss_cons (ps_if (PW.pt (pw_or (pt_cmpR op_isN (pv 6) pe_non (nomark _)) (pw_or (pt_cmpR (op_neD hr.units) (pe_own c_numbers hr (by omega) (by rfl) (pa_cons (pv 9) pa_nil)) (pv 6) (nomark _)) (pw_or1 (pt_cmpR (op_neD hr.units) (pe_own c_numbers hr (by omega) (by rfl) (pa_cons (pe_op op_cat (pe_lst (pa_cons (pe_tupF (pa_cons (pv 4) (pa_cons (pe_tupF (pa_cons pe_str (pa_cons (pe_tupF (pa_cons (pv 5) pa_nil)) pa_nil))) pa_nil))) pa_nil)) (pe_slice sl_list (pv 3) (po_some pe_int) po_none)) pa_nil)) (pv 6) (nomark _)))))) (pss_one (ps_ret pe_bl)) pss_nil)
      (pss_cons (ps_if (pt_cmpR op_lt (pe_own c_deep hr (by omega) (by rfl) (pa_cons (pv 5) (pa_cons (pv 3) pa_nil))) pe_int (nomark _)) (pss_cons (ps_set (i := 10) sc_law.nd rfl (Or.inl rfl) (pe_own c_opened hr (by omega) (by rfl) (pa_cons (pv 5) (pa_cons (pe_callTy (call_dictP rfl) (by rfl) B.dict (by decide +kernel) (pa_cons (pv 3) pa_nil)) pa_nil))))
      (pss_one (ps_if (pt_cmpR (op_neD hr.units) (pe_own c_numbers hr (by omega) (by rfl) (pa_cons (pe_op op_cat (pe_lst (pa_cons (pe_tupF (pa_cons (pv 4) (pa_cons (pv 10) pa_nil))) pa_nil)) (pe_slice sl_list (pv 3) (po_some pe_int) po_none)) pa_nil)) (pv 6) (nomark _)) (pss_one (ps_ret pe_bl)) pss_nil))) pss_nil)
      (pss_cons (ps_if (pt_cmpR (op_neD hr.units) (pe_own c_numbers hr (by omega) (by rfl) (pa_cons (pe_op op_cat (pv 3) (pe_lst (pa_cons (pe_tupF (pa_cons (pv 7) (pa_cons (pe_tupF (pa_cons pe_str (pa_cons (pe_tupF (pa_cons pe_int pa_nil)) pa_nil))) pa_nil))) pa_nil))) pa_nil)) (pe_lst (pa_cons (pe_ix ix_list (pv 6) pe_int (fun _ _ => rfl)) (pa_cons (pe_callB (cr_sortedS rfl) (by rfl) B.sorted (by decide +kernel) (pa_cons (pe_callTy (cr_setL rfl) (by rfl) B.set (by decide +kernel) (pa_cons (pe_op op_cat (pe_ix ix_list (pv 6) pe_int (fun _ _ => rfl)) (pe_lst (pa_cons pe_int pa_nil))) pa_nil)) pa_nil)) pa_nil))) (nomark _)) (pss_one (ps_ret pe_bl)) pss_nil)
      (pss_cons (ps_par (i := 11) (j := 12) rfl sc_law.nd rfl rfl (by decide) rfl rfl (pa_cons (pe_own c_take hr (by omega) (by rfl) (pa_cons (pv 2) (pa_cons pe_int pa_nil))) (pa_cons (pe_op op_add pe_int (pe_own c_take hr (by omega) (by rfl) (pa_cons (pv 2) (pa_cons pe_int pa_nil)))) pa_nil)) rfl)
      (pss_cons (ps_for PassesOwn.never rfl (pi_list (pe_lst (pa_cons (pe_tupF (pa_cons pe_int (pa_cons pe_int (pa_cons (pe_ix ix_list (pv 6) pe_int (fun _ _ => rfl)) pa_nil)))) (pa_cons (pe_tupF (pa_cons pe_int (pa_cons pe_int (pa_cons pe_int pa_nil)))) (pa_cons (pe_tupF (pa_cons (pv 11) (pa_cons (pv 12) (pa_cons (pe_op op_sub (pe_op op_add (pe_op op_mul (pv 12) (pe_ix ix_list (pv 6) pe_int (fun _ _ => rfl))) (pv 12)) (pv 11)) pa_nil)))) pa_nil))))) (pg_tup (by rfl) (pgs_cons (pg_name (i := 13) sc_law.nd rfl (Or.inl rfl)) (pgs_cons (pg_name (i := 14) sc_law.nd rfl (Or.inl rfl)) (pgs_cons (pg_name (i := 15) sc_law.nd rfl (Or.inl rfl)) pgs_nil)))) (pss_one (ps_if (pt_cmpR (op_neD hr.units) (pe_own c_numbers hr (by omega) (by rfl) (pa_cons (pe_op op_cat (pe_lst (pa_cons (pe_tupF (pa_cons (pv 4) (pa_cons (pe_tupF (pa_cons pe_str (pa_cons (pv 13) (pa_cons (pv 14) (pa_cons (pv 5) pa_nil))))) pa_nil))) pa_nil)) (pe_slice sl_list (pv 3) (po_some pe_int) po_none)) pa_nil)) (pe_lst (pa_cons (pv 15) (pa_cons (pe_ix ix_list (pv 6) pe_int (fun _ _ => rfl)) pa_nil))) (nomark _)) (pss_one (ps_ret pe_bl)) pss_nil)))
      (pss_cons (ps_if (pt_cmpR (op_neD hr.units) (pe_own c_numbers hr (by omega) (by rfl) (pa_cons (pe_op op_cat (pe_lst (pa_cons (pe_tupF (pa_cons (pv 4) (pa_cons (pe_tupF (pa_cons pe_str (pa_cons (pv 11) (pa_cons pe_non (pa_cons (pv 5) pa_nil))))) pa_nil))) pa_nil)) (pe_slice sl_list (pv 3) (po_some pe_int) po_none)) pa_nil)) (pe_lst (pa_cons (pe_op op_add (pe_op op_mul (pe_op op_add (pv 11) pe_int) (pe_ix ix_list (pv 6) pe_int (fun _ _ => rfl))) pe_int) (pa_cons (pe_ix ix_list (pv 6) pe_int (fun _ _ => rfl)) pa_nil))) (nomark _)) (pss_one (ps_ret pe_bl)) pss_nil)
      (pss_one (ps_if (pt_cmpR (op_neD hr.units) (pe_own c_numbers hr (by omega) (by rfl) (pa_cons (pe_op op_cat (pe_lst (pa_cons (pe_tupF (pa_cons (pv 4) (pa_cons (pe_tupF (pa_cons pe_str (pa_cons (pe_tupF (pa_cons (pv 5) (pa_cons (pv 5) pa_nil))) pa_nil))) pa_nil))) pa_nil)) (pe_slice sl_list (pv 3) (po_some pe_int) po_none)) pa_nil)) (pe_lst (pa_cons (pe_op op_add (pe_op op_mul pe_int (pe_ix ix_list (pv 6) pe_int (fun _ _ => rfl))) pe_int) (pa_cons (pe_ix ix_list (pv 6) pe_int (fun _ _ => rfl)) pa_nil))) (nomark _)) (pss_one (ps_ret pe_bl)) pss_nil))))))))))))))))
      (pss_one (ps_ret pe_bl))), ?_⟩
    obtain ⟨m, hm, hm2⟩ : ∃ m : Nat, (if (if (8 : Int) < ((ns.map V.int).length : Int) then 8 else ((ns.map V.int).length : Int)) > 1 then (if (8 : Int) < ((ns.map V.int).length : Int) then 8 else ((ns.map V.int).length : Int)) else 1) = (m : Int) ∧ m ≤ 8 := by
      rw [List.length_map]
      refine ⟨(if (if (8 : Int) < (ns.length : Int) then 8 else (ns.length : Int)) > 1 then (if (8 : Int) < (ns.length : Int) then 8 else (ns.length : Int)) else 1).toNat, ?_, ?_⟩
      all_goals
        by_cases e1 : (8 : Int) < (ns.length : Int)
        · simp only [e1, if_true]
          decide
        · simp only [e1, if_false]
          split <;> omega
    refine ⟨_, rfl, a, _, rfl, .inl hS, _, _, rfl, _, _, rfl, ?_⟩
    refine ⟨(m : Int), congrArg (fun z => [V.int z]) hm, by omega, by omega, ?_⟩
    rw [show ((m : Int)).toNat = m by omega]
    refine for_range (lo := 0) (n := m) (fun i σ H2 => ∃ ys : List (Option V), σ = some (.ref a) :: ys ∧ ys.length = 18 ∧ SqL K H2 a (ns.map V.int)) ?_ ?_ ?_
    · exact ⟨_, rfl, rfl, hS⟩
    · rintro i σ Hs hi ⟨ys, rfl, hys, hSs⟩
      obtain ⟨y1, y2, y3, y4, y5, y6, y7, y8, y9, y10, y11, y12, y13, y14, y15, y16, y17, y18, rfl⟩ : ∃ y1 y2 y3 y4 y5 y6 y7 y8 y9 y10 y11 y12 y13 y14 y15 y16 y17 y18, ys = [y1, y2, y3, y4, y5, y6, y7, y8, y9, y10, y11, y12, y13, y14, y15, y16, y17, y18] := by
        match ys, hys with
        | [y1, y2, y3, y4, y5, y6, y7, y8, y9, y10, y11, y12, y13, y14, y15, y16, y17, y18], _ => exact ⟨_, _, _, _, _, _, _, _, _, _, _, _, _, _, _, _, _, _, rfl⟩
      refine ⟨_, rfl, _, rfl, a, ns, _, rfl, hSs, by omega, by omega, fun p H1 s1 np hp1 => ?_⟩
      have back : ∀ {Hn : Hp}, Kept p H1 Hn → SqL K Hn a (ns.map V.int) := fun {Hn} k => Same.seq (fun b o e => k b o (s1 b o e) (ne_of_none e np)) hSs
      refine ⟨_, rfl, _, rfl, p, 4, rfl, hp1, by decide, by decide, fun r o r0 r1 po => ?_⟩
      have k2 : Kept p H1 (upd H1 p o) := Kept.upd p H1 o
      have hp2 : PoolAt (upd H1 p o) p := ⟨o, upd_same, po⟩
      generalize upd H1 p o = H2 at k2 hp2 ⊢
      obtain ⟨dd, hdd⟩ : ∃ dd : Nat, 1 + r = (dd : Int) := ⟨(1 + r).toNat, by omega⟩
      refine ⟨_, _, rfl, rfl, _, rfl, 100, rfl, ⟨by decide, by decide, by decide, by decide, by decide⟩, fun b nb => ?_⟩
      rw [hundred_rg]
      have ebp : b ≠ p := pool_ne hp2 nb
      have sb := same_upd (o := .lst (hundred.map V.int)) nb
      refine ⟨p, b, hundred, _, rfl, hp2.same sb, SqL.of upd_same, ebp, hundred_nd, (by rw [hundred_len]; decide), (by decide), fun ra H3 S nra k3 hp3 hra nd hsub hml hle => ?_⟩
      have erp : ra ≠ p := (pool_ne (hp2.same sb) nra)
      have hSl : S.length = 4 := by
        rw [hml, hundred_len]
        rfl
      have h99 : ∀ k ∈ S, 0 ≤ k ∧ k < 100 := fun k hk => hundred_mem (hsub k hk)
      refine ⟨p, ra, 4, dd, S, (by show [V.ref p, V.int 4, V.int (1 + r), .ref ra] = _; rw [hdd]), hp3, erp, hra, nd, by omega, by omega, h99, by omega, by omega, by decide, by decide, fun W H4 ws ps nW k4 hp4 hW hpr hpn hno l1 l4 hgd hnd hls => ?_⟩
      have eWp : W ≠ p := pool_ne hp3 nW
      have k0 : Kept p H1 H4 := ((k2.trans (Kept.same sb)).trans k3).trans k4
      have l4' : ps.length ≤ 4 := by omega
      have v : PV S ps := ⟨l1, by omega, hno, hnd, PN.mono (by omega) hpn, fun q hq => Gd.mono (by omega) (hgd q hq), h99⟩
      obtain ⟨l, hl⟩ := hls
      have hwl := hpr.len
      cases ps with
      | nil => cases l1
      | cons q0 r =>
        obtain ⟨n0, t0⟩ := q0
        cases ws with
        | nil => cases hwl
        | cons w0 wr =>
          have wrp : Wr S n0 t0 r := ⟨v, Lv.mono (by omega) hpn.1, Gd.mono (by omega) (hgd (n0, t0) List.mem_cons_self)⟩
          obtain ⟨⟨a0, tv, ew, pa0, ht⟩, hpr0⟩ := hpr
          subst ew
          replace hp := hp4
          have hS64 : S.length < 64 := by omega
          have hn0 := hno n0 List.mem_cons_self
          -- the first pair
          refine ⟨_, rfl, W, _, _, _, rfl, rfl, SqL.of hW, atI_nat (j := 0) rfl, ?_⟩
          refine ⟨a0, _, rfl, pa0.sq, rfl, _, _, rfl, _, _, rfl, rfl, ?_⟩
          -- its numbers
          refine ⟨_, rfl, W, _, (n0, t0) :: r, S, rfl, hW, ⟨⟨a0, tv, rfl, pa0, ht⟩, hpr0⟩, v, hS64, fun u rr ms H5 s5 nu5 nr5 ne5 hu hrr pw mem => ?_⟩
          replace hW := s5 _ _ hW
          replace pa0 := pa0.same s5
          replace ht := ht.keep (KT.same s5)
          replace hpr0 := hpr0.keep (KT.same s5)
          replace hp := hp.same s5
          replace k0 := k0.trans (Kept.same s5)
          generalize eR : topReach 6 ((n0, t0) :: r) = R0 at hu
          have eup : u ≠ p := pool_ne hp4 nu5
          have erp2 : rr ≠ p := pool_ne hp4 nr5
          -- the spare name
          obtain ⟨N, hN, hN1, hN2, hNl⟩ : ∃ N : Nat, ((1 : Int) + (if decide (V.int (n0.length : Int) = V.int 1) = true then (1 : Int) else 0)) = (N : Int) ∧ 1 ≤ N ∧ N ≤ 2 ∧ N ≠ l := by
            have e0 : n0.cps.size = l := hl n0 List.mem_cons_self
            by_cases z : n0.cps.size = 1
            · have z2 : decide (V.int (n0.length : Int) = V.int 1) = true := decide_eq_true (by show V.int (n0.cps.size : Int) = V.int 1; rw [z]; rfl)
              rw [z2]
              exact ⟨2, rfl, by decide, by decide, by omega⟩
            · have z2 : decide (V.int (n0.length : Int) = V.int 1) = false := decide_eq_false (by intro h; injection h with h; exact z (by have h2 : (n0.cps.size : Int) = 1 := h; omega))
              rw [z2]
              exact ⟨1, rfl, by decide, by decide, by omega⟩
          have hn6 := hn0.1
          refine ⟨_, rfl, n0, rfl, (by have hb : sizeLine = 16777216 := rfl; show n0.cps.size ≤ sizeLine; omega), rfl, .inr ⟨_, rfl, ?_⟩⟩
          refine ⟨_, _, rfl, rfl, "z", N, rfl, congrArg V.int hN, hN1, by omega, by decide +kernel, by decide +kernel, ?_⟩
          have hsp : ∀ N, 1 ≤ N → N ≤ 2 → NameOk ⟨(List.replicate N ("z" : Str).cps).foldl (· ++ ·) #[]⟩ ∧ (⟨(List.replicate N ("z" : Str).cps).foldl (· ++ ·) #[]⟩ : Str).cps.size = N := by
            intro N h1 h2
            obtain h | h : N = 1 ∨ N = 2 := by omega
            · subst h
              exact ⟨⟨by decide +kernel, by decide +kernel, by decide +kernel⟩, by decide +kernel⟩
            · subst h
              exact ⟨⟨by decide +kernel, by decide +kernel, by decide +kernel⟩, by decide +kernel⟩
          obtain ⟨hspo, hspl⟩ := hsp N hN1 hN2
          generalize (⟨(List.replicate N ("z" : Str).cps).foldl (· ++ ·) #[]⟩ : Str) = sp at hspo hspl ⊢
          have hspn : sp ∉ ((n0, t0) :: r).map Prod.fst := fun h => hNl (by rw [← hspl]; exact hl sp h)
          -- the names called otherwise
          have hpr5 : PrL H5 (V.ref a0 :: wr) ((n0, t0) :: r) := ⟨⟨a0, tv, rfl, pa0, ht⟩, hpr0⟩
          refine ⟨_, rfl, W, _, rfl, SqL.of hW, fun D nD => ?_⟩
          refine lc_enumS (K := K) (a := W) (xs := V.ref a0 :: wr) (fun j H6 => Same H5 H6 ∧ ∃ as : List Addr, H6 D = some (.lst (as.map V.ref)) ∧ as.length = j ∧ Paired (fun p kv => PTup H6 p [kV kv.1, kv.2]) as (kvsN 0 (((n0, t0) :: r).take j))) ?_ ?_ ?_ ?_
          · exact ⟨same_upd nD, [], upd_same, rfl, .nil⟩
          · rintro j H6 _ ⟨s6, _⟩
            exact SqL.of (s6 _ _ hW)
          · rintro j x H6 T hx ⟨s6, as, hD, hal, hpa⟩ nT
            obtain ⟨qq, ax, ux, eqq, rfl, pax, tux⟩ := hpr5.get hx
            have hj : j < ((n0, t0) :: r).length := (List.getElem?_eq_some_iff.mp eqq).1
            have sT : Same H6 (upd H6 T (.tup [.int (j : Nat), .ref ax])) := same_upd nT
            have hT : (upd H6 T (.tup [.int (j : Nat), .ref ax])) T = some (.tup [.int (j : Nat), .ref ax]) := upd_same
            generalize upd H6 T (.tup [.int (j : Nat), .ref ax]) = H7 at sT hT ⊢
            refine ⟨T, _, rfl, SqT.of hT, rfl, _, _, rfl, _, _, rfl, ax, _, rfl, (pax.same (s6.trans sT)).sq, rfl, _, _, rfl, _, _, rfl, rfl, rfl, rfl, tyes ?_⟩
            have hj6 : j < 6 := by omega
            refine ⟨_, rfl, _, rfl, _, _, qC.getD j 0, rfl, rfl, (by decide +kernel), qC_at hj6, ?_⟩
            refine ⟨_, _, rfl, rfl, (by show 1 + 1 ≤ sizeLine; decide), (by show 2 ≤ sizeLine; decide), fun e He se ne pe => ?_⟩
            have hDe := se _ _ (sT _ _ hD)
            have kz : KT He (upd He D (.lst (as.map V.ref ++ [.ref e]))) := KT.upd hDe
            refine ⟨_, hDe, small1000 (by rw [List.length_map]; omega), fun c o ec => ?_, as ++ [e], by rw [upd_same, List.map_append]; rfl, by rw [List.length_append, hal]; rfl, ?_⟩
            · rw [upd_ne (ne_of_none ec nD)]
              exact se _ _ (sT _ _ (s6 _ _ ec))
            · have e0 : 0 + (((n0, t0) :: r).take j).length = j := by
                rw [List.length_take]
                omega
              rw [take_one eqq, kvsN_snoc, e0]
              exact paired_snoc (F := fun (p : Addr) (kv : Key × V) => PTup (upd He D (.lst (as.map V.ref ++ [.ref e]))) p [kV kv.1, kv.2]) (a := e) (b := (Sum.inr qq.1, V.str (qN j))) (kz _ _ pe) (paired_map (F := fun (p : Addr) (kv : Key × V) => PTup H6 p [kV kv.1, kv.2]) (G := fun (p : Addr) (kv : Key × V) => PTup (upd He D (.lst (as.map V.ref ++ [.ref e]))) p [kV kv.1, kv.2]) (fun p kv h => kz _ _ ((PTup.same h sT).same se)) hpa)
          · rintro H6 ⟨s6, as, hD, hal, hpa⟩
            have hwl2 : (V.ref a0 :: wr).length = ((n0, t0) :: r).length := hwl
            rw [hwl2, List.take_length] at hpa
            refine ⟨D, as, kvsN 0 ((n0, t0) :: r), rfl, SqL.of hD, paired_map (fun p kv (h : PTup H6 p _) => h.sq) hpa, fun Z nZ => ?_⟩
            have sZ := same_upd (o := .dK (mergeK [] (kvsN 0 ((n0, t0) :: r)))) nZ
            have hZ := upd_same (H := H6) (a := Z) (o := .dK (mergeK [] (kvsN 0 ((n0, t0) :: r))))
            generalize upd H6 Z (.dK (mergeK [] (kvsN 0 ((n0, t0) :: r)))) = H7 at sZ hZ ⊢
            have s57 := s6.trans sZ
            have ndk : ((kvsN 0 ((n0, t0) :: r)).map Prod.fst).Nodup := by
              rw [kvsN_fst, show ((n0, t0) :: r).map (fun q => (Sum.inr q.1 : Key)) = (((n0, t0) :: r).map Prod.fst).map (fun n => (Sum.inr n : Key)) by rw [List.map_map]; rfl]
              exact inr_nodup hnd
            have hval : ∀ (j : Nat) (q : Str × Tm), ((n0, t0) :: r)[j]? = some q → valV (mergeK [] (kvsN 0 ((n0, t0) :: r))) (Sum.inr q.1) = some (.str (qN j)) := fun j q e => by
              have z := kvsN_at _ 0 j q e
              rw [Nat.zero_add] at z
              exact merge_at _ [] ndk z
            obtain ⟨fn, hfn⟩ : ∃ fn : Str → Str, ∀ (j : Nat) (q : Str × Tm), ((n0, t0) :: r)[j]? = some q → fn q.1 = qN j := ⟨renN (mergeK [] (kvsN 0 ((n0, t0) :: r))), fun j q e => by
              unfold renN
              rw [hval j q e]⟩
            have hf : ∀ n, n ∈ ((n0, t0) :: r).map Prod.fst → valV (mergeK [] (kvsN 0 ((n0, t0) :: r))) (Sum.inr n) = some (.str (fn n)) := fun n hn => by
              obtain ⟨q, hq, rfl⟩ := List.mem_map.mp hn
              obtain ⟨j, hj, ej⟩ := List.getElem_of_mem hq
              have e := List.getElem?_eq_some_iff.mpr ⟨hj, ej⟩
              rw [hval j q e, hfn j q e]
            have hfo : ∀ n ∈ ((n0, t0) :: r).map Prod.fst, NameOk (fn n) := fun n hn => by
              obtain ⟨q, hq, rfl⟩ := List.mem_map.mp hn
              obtain ⟨j, hj, ej⟩ := List.getElem_of_mem hq
              rw [hfn j q (List.getElem?_eq_some_iff.mpr ⟨hj, ej⟩)]
              exact qN_ok j (by omega)
            have hfd : ((((n0, t0) :: r).map Prod.fst).map fn).Nodup := by
              rw [List.map_map]
              refine List.pairwise_map.mpr ?_
              rw [List.pairwise_iff_getElem]
              intro i j hi hj hij e
              have e1 := hfn i _ (List.getElem?_eq_getElem hi)
              have e2 := hfn j _ (List.getElem?_eq_getElem hj)
              have e3 : fn (((n0, t0) :: r)[i]).1 = fn (((n0, t0) :: r)[j]).1 := e
              rw [e1, e2] at e3
              have := qN_inj (by omega) (by omega) e3
              omega
            obtain ⟨pv1, top1, rooms1⟩ := v.ren hfo hfd
            replace hW := s57 _ _ hW
            replace pa0 := pa0.same s57
            replace ht := ht.keep (KT.same s57)
            replace hpr0 := hpr0.keep (KT.same s57)
            replace hpr5 := hpr5.keep (KT.same s57)
            replace hp := hp.same s57
            replace k0 := k0.trans (Kept.same s57)
            replace hu := s57 _ _ hu
            replace hrr := s57 _ _ hrr
            generalize mergeK [] (kvsN 0 ((n0, t0) :: r)) = kv at hZ hf
            clear hpa hval ndk hD nD
            -- the program called otherwise
            refine ⟨_, rfl, W, rfl, ⟨_, SqL.of hW⟩, fun D nD => ?_⟩
            refine lc_list (K := K) (a := W) (xs := V.ref a0 :: wr) (fun j H8 => Same H7 H8 ∧ ∃ us : List V, H8 D = some (.lst us) ∧ PrL H8 us (renP fn (((n0, t0) :: r).take j))) ?_ ?_ ?_ ?_
            · exact ⟨same_upd nD, [], upd_same, trivial⟩
            · rintro j H8 _ ⟨s8, _⟩
              exact SqL.of (s8 _ _ hW)
            · rintro j x H8 hx ⟨s8, us, hD, hus⟩
              obtain ⟨qq, ax, ux, eqq, rfl, pax, tux⟩ := hpr5.get hx
              have hqq := List.mem_of_getElem? eqq
              have hnm : qq.1 ∈ ((n0, t0) :: r).map Prod.fst := List.mem_map.mpr ⟨qq, hqq, rfl⟩
              refine ⟨ax, _, rfl, (pax.same s8).sq, rfl, _, _, rfl, _, _, rfl, rfl, rfl, tyes ?_⟩
              refine ⟨_, rfl, _, rfl, Z, .str (fn qq.1), rfl, (by rw [← hf qq.1 hnm]; exact DGet.k (k := Sum.inr qq.1) (s8 _ _ hZ)), ?_⟩
              refine ⟨_, rfl, _, rfl, ux, qq.2, Z, kv, fn, (· ∈ ((n0, t0) :: r).map Prod.fst), Few S, rfl, tux.keep (KT.same s8), s8 _ _ hZ, PN.names v.pn qq hqq, hf, fun v' H9 s9 t9 => ?_⟩
              refine ⟨(by show 2 ≤ sizeLine; decide), fun e He se ne pe => ?_⟩
              have hDe := se _ _ (s9 _ _ hD)
              have ul := hus.len
              unfold renP at ul
              rw [List.length_map, List.length_take] at ul
              have kz : KT He (upd He D (.lst (us ++ [.ref e]))) := KT.upd hDe
              refine ⟨us, hDe, small1000 (by omega), fun c o ec => ?_, us ++ [.ref e], upd_same, ?_⟩
              · rw [upd_ne (ne_of_none ec nD)]
                exact se _ _ (s9 _ _ (s8 _ _ ec))
              · rw [take_one eqq]
                unfold renP
                rw [List.map_append]
                exact PrL.snoc (q := (fn qq.1, callT fn qq.2)) (kz _ _ pe) ((t9.keep (KT.same se)).keep kz) (hus.keep ((KT.same (s9.trans se)).trans kz))
            · rintro H8 ⟨s8, us, hD, hus⟩
              rw [hwl2, List.take_length] at hus
              replace hW := s8 _ _ hW
              replace pa0 := pa0.same s8
              replace ht := ht.keep (KT.same s8)
              replace hpr0 := hpr0.keep (KT.same s8)
              replace hp := hp.same s8
              replace k0 := k0.trans (Kept.same s8)
              replace hu := s8 _ _ hu
              replace hrr := s8 _ _ hrr
              clear hZ hf hfo hfd hfn hpr5 hn6 hsub hml hle nra hra
              refine ⟨_, rfl, rfl, _, rfl, iteB (fun z => absurd (of_decide_eq_true z) (by intro y; cases y)) (fun _ => ?_)⟩
              have hpm : ∀ k, k ∈ roomsL 6 (renP fn ((n0, t0) :: r)) ↔ k ∈ roomsL 6 ((n0, t0) :: r) := fun k => by rw [rooms1]
              have hlw : wr.length ≤ 3 := by rw [List.length_cons, List.length_cons] at hwl; rw [List.length_cons] at l4'; omega
              refine ⟨_, rfl, ?_⟩
              refine ⟨D, us, renP fn ((n0, t0) :: r), S, rfl, hD, hus, pv1, hS64, fun u1 r1 ms1 Hn1 sn1 nu1 nr1 ne1 hu1 hr1 pw1 mem1 => ?_⟩
              replace hp := hp.same sn1
              replace k0 := k0.trans (Kept.same sn1)
              replace hW := sn1 _ _ hW
              replace pa0 := pa0.same sn1
              replace ht := ht.keep (KT.same sn1)
              replace hpr0 := hpr0.keep (KT.same sn1)
              replace hu := sn1 _ _ hu
              replace hrr := sn1 _ _ hrr
              replace hD := sn1 _ _ hD
              replace hus := hus.keep (KT.same sn1)
              have em1 : ms1 = ms := sorted_one pw1 pw fun k => (mem1 k).trans ((hpm k).trans (mem k).symm)
              rw [em1] at hr1
              rw [top1, eR] at hu1
              refine ⟨_, rfl, _, _, own_dp hu1 hr1, own_dp hu hrr, own_shaped _ _, own_shaped _ _, _, rfl, ?_⟩
              rw [own_eq]
              refine iteB (fun z => absurd z (by decide)) (fun _ => ?_)
              refine ⟨_, rfl, _, rfl, (by show 1 ≤ sizeLine; decide), fun q1 Hq1 sq1 nq1 pq1 => ?_⟩
              have aq1 : PTup Hq1 q1 [tv] := pq1
              replace hp := hp.same sq1
              replace k0 := k0.trans (Kept.same sq1)
              replace hW := sq1 _ _ hW
              replace pa0 := pa0.same sq1
              replace ht := ht.keep (KT.same sq1)
              replace hpr0 := hpr0.keep (KT.same sq1)
              replace hu := sq1 _ _ hu
              replace hrr := sq1 _ _ hrr
              refine ⟨(by show 2 ≤ sizeLine; decide), fun q2 Hq2 sq2 nq2 pq2 => ?_⟩
              have aq2 : PTup Hq2 q2 [V.str "then", V.ref q1] := pq2
              replace hp := hp.same sq2
              replace k0 := k0.trans (Kept.same sq2)
              replace hW := sq2 _ _ hW
              replace pa0 := pa0.same sq2
              replace ht := ht.keep (KT.same sq2)
              replace hpr0 := hpr0.keep (KT.same sq2)
              replace hu := sq2 _ _ hu
              replace hrr := sq2 _ _ hrr
              replace aq1 := aq1.same sq2
              refine ⟨(by show 2 ≤ sizeLine; decide), fun q3 Hq3 sq3 nq3 pq3 => ?_⟩
              have aq3 : PTup Hq3 q3 [V.str n0, V.ref q2] := pq3
              replace hp := hp.same sq3
              replace k0 := k0.trans (Kept.same sq3)
              replace hW := sq3 _ _ hW
              replace pa0 := pa0.same sq3
              replace ht := ht.keep (KT.same sq3)
              replace hpr0 := hpr0.keep (KT.same sq3)
              replace hu := sq3 _ _ hu
              replace hrr := sq3 _ _ hrr
              replace aq1 := aq1.same sq3
              replace aq2 := aq2.same sq3
              refine ⟨(by show 1 ≤ sizeLine; decide), fun q4 nq4 => ?_⟩
              have sq4 := same_upd (o := .lst [V.ref q3]) nq4
              have eq4 : q4 ≠ p := pool_ne hp nq4
              have aq4 := upd_same (H := Hq3) (a := q4) (o := .lst [V.ref q3])
              generalize upd Hq3 q4 (.lst [V.ref q3]) = Hq4 at sq4 aq4 ⊢
              replace hp := hp.same sq4
              replace k0 := k0.trans (Kept.same sq4)
              replace hW := sq4 _ _ hW
              replace pa0 := pa0.same sq4
              replace ht := ht.keep (KT.same sq4)
              replace hpr0 := hpr0.keep (KT.same sq4)
              replace hu := sq4 _ _ hu
              replace hrr := sq4 _ _ hrr
              replace aq1 := aq1.same sq4
              replace aq2 := aq2.same sq4
              replace aq3 := aq3.same sq4
              refine ⟨_, rfl, 1, rfl, W, _, rfl, SqL.of hW, fun d2 nd2 => ?_⟩
              rw [cut_tail, show (V.ref a0 :: wr).drop 1 = wr from rfl]
              have sd2 := same_upd (o := .lst wr) nd2
              have ad2 := upd_same (H := Hq4) (a := d2) (o := .lst wr)
              generalize upd Hq4 d2 (.lst wr) = Hd2 at sd2 ad2 ⊢
              replace hp := hp.same sd2
              replace k0 := k0.trans (Kept.same sd2)
              replace hW := sd2 _ _ hW
              replace pa0 := pa0.same sd2
              replace ht := ht.keep (KT.same sd2)
              replace hpr0 := hpr0.keep (KT.same sd2)
              replace hu := sd2 _ _ hu
              replace hrr := sd2 _ _ hrr
              replace aq1 := aq1.same sd2
              replace aq2 := aq2.same sd2
              replace aq3 := aq3.same sd2
              replace aq4 := sd2 _ _ aq4
              refine ⟨_, _, _, _, rfl, rfl, aq4, ad2, Nat.le_of_lt (small1000 (by show 1 + wr.length ≤ 1000; rw [List.length_cons, List.length_cons] at hwl; omega)), fun e2 ne2 => ?_⟩
              have se2 := same_upd (o := .lst ([V.ref q3] ++ wr)) ne2
              have ae2 := upd_same (H := Hd2) (a := e2) (o := .lst ([V.ref q3] ++ wr))
              generalize upd Hd2 e2 (.lst ([V.ref q3] ++ wr)) = He2 at se2 ae2 ⊢
              replace hp := hp.same se2
              replace k0 := k0.trans (Kept.same se2)
              replace hW := se2 _ _ hW
              replace pa0 := pa0.same se2
              replace ht := ht.keep (KT.same se2)
              replace hpr0 := hpr0.keep (KT.same se2)
              replace hu := se2 _ _ hu
              replace hrr := se2 _ _ hrr
              replace aq1 := aq1.same se2
              replace aq2 := aq2.same se2
              replace aq3 := aq3.same se2
              replace aq4 := se2 _ _ aq4
              replace ad2 := se2 _ _ ad2
              obtain ⟨pvx2, topx2, rmx2⟩ := wrp.thn
              refine ⟨e2, _, (n0, .thn [t0]) :: r, S, rfl, ae2, ⟨⟨q3, _, rfl, aq3, .thn aq2 aq1 (.cons ht .nil)⟩, hpr0⟩, pvx2, hS64, fun u2 r2 ms2 Hn2 sn2 nu2 nr2 ne2 hu2 hr2 pw2 mem2 => ?_⟩
              replace hp := hp.same sn2
              replace k0 := k0.trans (Kept.same sn2)
              replace hW := sn2 _ _ hW
              replace pa0 := pa0.same sn2
              replace ht := ht.keep (KT.same sn2)
              replace hpr0 := hpr0.keep (KT.same sn2)
              replace hu := sn2 _ _ hu
              replace hrr := sn2 _ _ hrr
              replace aq1 := aq1.same sn2
              replace aq2 := aq2.same sn2
              replace aq3 := aq3.same sn2
              replace aq4 := sn2 _ _ aq4
              replace ad2 := sn2 _ _ ad2
              replace ae2 := sn2 _ _ ae2
              have em2 : ms2 = ms := sorted_one pw2 pw fun k => (mem2 k).trans ((rmx2 k).trans (mem k).symm)
              rw [em2] at hr2
              rw [topx2, eR] at hu2
              refine ⟨_, rfl, _, _, own_dp hu2 hr2, own_dp hu hrr, own_shaped _ _, own_shaped _ _, _, rfl, ?_⟩
              rw [own_eq]
              refine iteB (fun z => absurd z (by decide)) (fun _ => ?_)
              refine mid_ifσ (M := fun σ' H' => ∃ z10 : Option V, σ' = [some (.ref a), some (.int (0 + (i : Int))), some (.ref p), some (.ref W), some (.str n0), some tv, some (.ref u), some (.str sp), some (.ref Z), some (.ref D), z10, y11, y12, y13, y14, y15, y16, y17, y18] ∧ Same Hn2 H') ?rest ?now
              case now =>
                intro D2 hD2
                refine ⟨_, rfl, _, rfl, tv, t0, W, _, (n0, t0) :: r, S, rfl, ht, hW, ⟨⟨a0, tv, rfl, pa0, ht⟩, hpr0⟩, v.pn, by omega, PN.names v.pn (n0, t0) List.mem_cons_self, fun Hd sd => ?_⟩
                have sB : Same Hn2 Hn2 := Same.refl _
                replace hp := hp.same sd
                replace k0 := k0.trans (Kept.same sd)
                replace hW := sd _ _ hW
                replace pa0 := pa0.same sd
                replace ht := ht.keep (KT.same sd)
                replace hpr0 := hpr0.keep (KT.same sd)
                replace hu := sd _ _ hu
                replace hrr := sd _ _ hrr
                replace sB := sB.trans sd
                refine ⟨_, _, rfl, rfl, _, rfl, iteB (fun zd => ?_) (fun _ => hD2 _ _ ⟨y10, rfl, sB⟩)⟩
                have hdeep := of_decide_eq_true zd
                have hprd : PrL Hd (V.ref a0 :: wr) ((n0, t0) :: r) := ⟨⟨a0, tv, rfl, pa0, ht⟩, hpr0⟩
                obtain ⟨as, kvs, eas, pas, ekv, hkv⟩ := prl_pairs hprd
                have ndk : (kvs.map Prod.fst).Nodup := by
                  rw [ekv, show ((n0, t0) :: r).map (fun q => (Sum.inr q.1 : Key)) = (((n0, t0) :: r).map Prod.fst).map (fun n => (Sum.inr n : Key)) by rw [List.map_map]; rfl]
                  exact inr_nodup hnd
                refine ⟨_, rfl, _, rfl, W, as, kvs, rfl, (by rw [← eas]; exact SqL.of hW), paired_map (fun p kv (h : PTup Hd p _) => h.sq) pas, fun X nX => ?_⟩
                have sX := same_upd (o := .dK (mergeK [] kvs)) nX
                have aX := upd_same (H := Hd) (a := X) (o := .dK (mergeK [] kvs))
                generalize upd Hd X (.dK (mergeK [] kvs)) = HX at sX aX ⊢
                replace hp := hp.same sX
                replace k0 := k0.trans (Kept.same sX)
                replace hW := sX _ _ hW
                replace pa0 := pa0.same sX
                replace ht := ht.keep (KT.same sX)
                replace hpr0 := hpr0.keep (KT.same sX)
                replace hu := sX _ _ hu
                replace hrr := sX _ _ hrr
                replace sB := sB.trans sX
                obtain ⟨tm, htm⟩ : ∃ tm : Str → Tm, ∀ q ∈ (n0, t0) :: r, tm q.1 = q.2 := tm_of hnd
                obtain ⟨op, pvo, topo, rmo⟩ := v.opened htm hdeep
                refine ⟨tv, t0, X, _, tm, (· ∈ ((n0, t0) :: r).map Prod.fst), rfl, ht, aX, op, fun n hn => ?_, fun ov Ho so to => ?_⟩
                · obtain ⟨q, hq, rfl⟩ := List.mem_map.mp hn
                  obtain ⟨vq, h1, h2⟩ := hkv q hq
                  exact ⟨vq, merge_at _ [] ndk h1, by rw [htm q hq]; exact h2.keep (KT.same sX)⟩
                replace hp := hp.same so
                replace k0 := k0.trans (Kept.same so)
                replace hW := so _ _ hW
                replace pa0 := pa0.same so
                replace ht := ht.keep (KT.same so)
                replace hpr0 := hpr0.keep (KT.same so)
                replace hu := so _ _ hu
                replace hrr := so _ _ hrr
                replace sB := sB.trans so
                refine ⟨_, rfl, _, rfl, (by show 2 ≤ sizeLine; decide), fun q5 Hq5 sq5 nq5 pq5 => ?_⟩
                have aq5 : PTup Hq5 q5 [V.str n0, ov] := pq5
                replace hp := hp.same sq5
                replace k0 := k0.trans (Kept.same sq5)
                replace hW := sq5 _ _ hW
                replace pa0 := pa0.same sq5
                replace ht := ht.keep (KT.same sq5)
                replace hpr0 := hpr0.keep (KT.same sq5)
                replace hu := sq5 _ _ hu
                replace hrr := sq5 _ _ hrr
                replace sB := sB.trans sq5
                replace to := to.keep (KT.same sq5)
                refine ⟨(by show 1 ≤ sizeLine; decide), fun q6 nq6 => ?_⟩
                have sq6 := same_upd (o := .lst [V.ref q5]) nq6
                have eq6 : q6 ≠ p := pool_ne hp nq6
                have aq6 := upd_same (H := Hq5) (a := q6) (o := .lst [V.ref q5])
                generalize upd Hq5 q6 (.lst [V.ref q5]) = Hq6 at sq6 aq6 ⊢
                replace hp := hp.same sq6
                replace k0 := k0.trans (Kept.same sq6)
                replace hW := sq6 _ _ hW
                replace pa0 := pa0.same sq6
                replace ht := ht.keep (KT.same sq6)
                replace hpr0 := hpr0.keep (KT.same sq6)
                replace hu := sq6 _ _ hu
                replace hrr := sq6 _ _ hrr
                replace sB := sB.trans sq6
                replace to := to.keep (KT.same sq6)
                replace aq5 := aq5.same sq6
                refine ⟨_, rfl, 1, rfl, W, _, rfl, SqL.of hW, fun d3 nd3 => ?_⟩
                rw [cut_tail, show (V.ref a0 :: wr).drop 1 = wr from rfl]
                have sd3 := same_upd (o := .lst wr) nd3
                have ad3 := upd_same (H := Hq6) (a := d3) (o := .lst wr)
                generalize upd Hq6 d3 (.lst wr) = Hd3 at sd3 ad3 ⊢
                replace hp := hp.same sd3
                replace k0 := k0.trans (Kept.same sd3)
                replace hW := sd3 _ _ hW
                replace pa0 := pa0.same sd3
                replace ht := ht.keep (KT.same sd3)
                replace hpr0 := hpr0.keep (KT.same sd3)
                replace hu := sd3 _ _ hu
                replace hrr := sd3 _ _ hrr
                replace sB := sB.trans sd3
                replace to := to.keep (KT.same sd3)
                replace aq5 := aq5.same sd3
                replace aq6 := sd3 _ _ aq6
                refine ⟨_, _, _, _, rfl, rfl, aq6, ad3, Nat.le_of_lt (small1000 (by show 1 + wr.length ≤ 1000; rw [List.length_cons, List.length_cons] at hwl; omega)), fun e3 ne3 => ?_⟩
                have se3 := same_upd (o := .lst ([V.ref q5] ++ wr)) ne3
                have ae3 := upd_same (H := Hd3) (a := e3) (o := .lst ([V.ref q5] ++ wr))
                generalize upd Hd3 e3 (.lst ([V.ref q5] ++ wr)) = He3 at se3 ae3 ⊢
                replace hp := hp.same se3
                replace k0 := k0.trans (Kept.same se3)
                replace hW := se3 _ _ hW
                replace pa0 := pa0.same se3
                replace ht := ht.keep (KT.same se3)
                replace hpr0 := hpr0.keep (KT.same se3)
                replace hu := se3 _ _ hu
                replace hrr := se3 _ _ hrr
                replace sB := sB.trans se3
                replace to := to.keep (KT.same se3)
                replace aq5 := aq5.same se3
                replace aq6 := se3 _ _ aq6
                replace ad3 := se3 _ _ ad3
                obtain ⟨pvx3, topx3, rmx3⟩ := (⟨pvo, topo, rmo⟩ : _ ∧ _ ∧ _)
                refine ⟨e3, _, (n0, openF tm 30 t0) :: r, S, rfl, ae3, ⟨⟨q5, _, rfl, aq5, to⟩, hpr0⟩, pvx3, hS64, fun u3 r3 ms3 Hn3 sn3 nu3 nr3 ne3 hu3 hr3 pw3 mem3 => ?_⟩
                replace hp := hp.same sn3
                replace k0 := k0.trans (Kept.same sn3)
                replace hW := sn3 _ _ hW
                replace pa0 := pa0.same sn3
                replace ht := ht.keep (KT.same sn3)
                replace hpr0 := hpr0.keep (KT.same sn3)
                replace hu := sn3 _ _ hu
                replace hrr := sn3 _ _ hrr
                replace sB := sB.trans sn3
                replace to := to.keep (KT.same sn3)
                replace aq5 := aq5.same sn3
                replace aq6 := sn3 _ _ aq6
                replace ad3 := sn3 _ _ ad3
                replace ae3 := sn3 _ _ ae3
                have em3 : ms3 = ms := sorted_one pw3 pw fun k => (mem3 k).trans ((rmx3 k).trans (mem k).symm)
                rw [em3] at hr3
                rw [topx3, eR] at hu3
                refine ⟨_, rfl, _, _, own_dp hu3 hr3, own_dp hu hrr, own_shaped _ _, own_shaped _ _, _, rfl, ?_⟩
                rw [own_eq]
                refine iteB (fun z => absurd z (by decide)) (fun _ => ?_)
                exact hD2 _ _ ⟨_, rfl, sB⟩
              case rest =>
                rintro σ' Hc ⟨z10, rfl, sc⟩
                replace hp := hp.same sc
                replace k0 := k0.trans (Kept.same sc)
                replace hW := sc _ _ hW
                replace pa0 := pa0.same sc
                replace ht := ht.keep (KT.same sc)
                replace hpr0 := hpr0.keep (KT.same sc)
                replace hu := sc _ _ hu
                replace hrr := sc _ _ hrr
                have hml4 : ms.length ≤ 4 := by
                  have z := nodup_few (S := S) (pw.imp fun h => Int.ne_of_lt h) fun k hk => (roomsL_few (PN.all v.pn)).2 k ((mem k).mp hk)
                  omega
                obtain ⟨pv2, top2, rm2⟩ := v.more l4' hspo hspn
                refine ⟨_, rfl, _, rfl, (by show 1 ≤ sizeLine; decide), fun q7 Hq7 sq7 nq7 pq7 => ?_⟩
                have aq7 : PTup Hq7 q7 [V.int 99] := pq7
                replace hp := hp.same sq7
                replace k0 := k0.trans (Kept.same sq7)
                replace hW := sq7 _ _ hW
                replace pa0 := pa0.same sq7
                replace ht := ht.keep (KT.same sq7)
                replace hpr0 := hpr0.keep (KT.same sq7)
                replace hu := sq7 _ _ hu
                replace hrr := sq7 _ _ hrr
                refine ⟨(by show 2 ≤ sizeLine; decide), fun q8 Hq8 sq8 nq8 pq8 => ?_⟩
                have aq8 : PTup Hq8 q8 [V.str "ask", V.ref q7] := pq8
                replace hp := hp.same sq8
                replace k0 := k0.trans (Kept.same sq8)
                replace hW := sq8 _ _ hW
                replace pa0 := pa0.same sq8
                replace ht := ht.keep (KT.same sq8)
                replace hpr0 := hpr0.keep (KT.same sq8)
                replace hu := sq8 _ _ hu
                replace hrr := sq8 _ _ hrr
                replace aq7 := aq7.same sq8
                refine ⟨(by show 2 ≤ sizeLine; decide), fun q9 Hq9 sq9 nq9 pq9 => ?_⟩
                have aq9 : PTup Hq9 q9 [V.str sp, V.ref q8] := pq9
                replace hp := hp.same sq9
                replace k0 := k0.trans (Kept.same sq9)
                replace hW := sq9 _ _ hW
                replace pa0 := pa0.same sq9
                replace ht := ht.keep (KT.same sq9)
                replace hpr0 := hpr0.keep (KT.same sq9)
                replace hu := sq9 _ _ hu
                replace hrr := sq9 _ _ hrr
                replace aq7 := aq7.same sq9
                replace aq8 := aq8.same sq9
                refine ⟨(by show 1 ≤ sizeLine; decide), fun q10 nq10 => ?_⟩
                have sq10 := same_upd (o := .lst [V.ref q9]) nq10
                have eq10 : q10 ≠ p := pool_ne hp nq10
                have aq10 := upd_same (H := Hq9) (a := q10) (o := .lst [V.ref q9])
                generalize upd Hq9 q10 (.lst [V.ref q9]) = Hq10 at sq10 aq10 ⊢
                replace hp := hp.same sq10
                replace k0 := k0.trans (Kept.same sq10)
                replace hW := sq10 _ _ hW
                replace pa0 := pa0.same sq10
                replace ht := ht.keep (KT.same sq10)
                replace hpr0 := hpr0.keep (KT.same sq10)
                replace hu := sq10 _ _ hu
                replace hrr := sq10 _ _ hrr
                replace aq7 := aq7.same sq10
                replace aq8 := aq8.same sq10
                replace aq9 := aq9.same sq10
                refine ⟨_, _, _, _, rfl, rfl, hW, aq10, Nat.le_of_lt (small1000 (by show (V.ref a0 :: wr).length + 1 ≤ 1000; rw [List.length_cons]; omega)), fun w1 nw1 => ?_⟩
                have sw1 := same_upd (o := .lst ((V.ref a0 :: wr) ++ [V.ref q9])) nw1
                have aw1 := upd_same (H := Hq10) (a := w1) (o := .lst ((V.ref a0 :: wr) ++ [V.ref q9]))
                generalize upd Hq10 w1 (.lst ((V.ref a0 :: wr) ++ [V.ref q9])) = Hw1 at sw1 aw1 ⊢
                replace hp := hp.same sw1
                replace k0 := k0.trans (Kept.same sw1)
                replace hW := sw1 _ _ hW
                replace pa0 := pa0.same sw1
                replace ht := ht.keep (KT.same sw1)
                replace hpr0 := hpr0.keep (KT.same sw1)
                replace hu := sw1 _ _ hu
                replace hrr := sw1 _ _ hrr
                replace aq7 := aq7.same sw1
                replace aq8 := aq8.same sw1
                replace aq9 := aq9.same sw1
                replace aq10 := sw1 _ _ aq10
                have hprc : PrL Hw1 (V.ref a0 :: wr) ((n0, t0) :: r) := ⟨⟨a0, tv, rfl, pa0, ht⟩, hpr0⟩
                refine ⟨w1, _, (n0, t0) :: r ++ [(sp, .ask [99])], 99 :: S, rfl, aw1, PrL.snoc (q := (sp, .ask [99])) aq9 (.ask aq8 aq7) hprc, pv2, (by rw [List.length_cons]; omega), fun u4 r4 ms4 Hn4 sn4 nu4 nr4 ne4 hu4 hr4 pw4 mem4 => ?_⟩
                replace hp := hp.same sn4
                replace k0 := k0.trans (Kept.same sn4)
                replace hW := sn4 _ _ hW
                replace pa0 := pa0.same sn4
                replace ht := ht.keep (KT.same sn4)
                replace hpr0 := hpr0.keep (KT.same sn4)
                replace hu := sn4 _ _ hu
                replace hrr := sn4 _ _ hrr
                replace aq7 := aq7.same sn4
                replace aq8 := aq8.same sn4
                replace aq9 := aq9.same sn4
                replace aq10 := sn4 _ _ aq10
                replace aw1 := sn4 _ _ aw1
                rw [top2, eR] at hu4
                refine ⟨_, rfl, u, _, _, _, rfl, rfl, SqL.of hu, atI_nat (j := 0) rfl, _, rfl, u, _, _, _, rfl, rfl, SqL.of hu, atI_nat (j := 1) rfl, (by show 1 ≤ sizeLine; decide), fun x1 nx1 => ?_⟩
                have sx1 := same_upd (o := .lst [V.int 99]) nx1
                have ax1 := upd_same (H := Hn4) (a := x1) (o := .lst [V.int 99])
                generalize upd Hn4 x1 (.lst [V.int 99]) = Hx1 at sx1 ax1 ⊢
                replace hp := hp.same sx1
                replace k0 := k0.trans (Kept.same sx1)
                replace hW := sx1 _ _ hW
                replace pa0 := pa0.same sx1
                replace ht := ht.keep (KT.same sx1)
                replace hpr0 := hpr0.keep (KT.same sx1)
                replace hu := sx1 _ _ hu
                replace hrr := sx1 _ _ hrr
                replace aq7 := aq7.same sx1
                replace aq8 := aq8.same sx1
                replace aq9 := aq9.same sx1
                replace aq10 := sx1 _ _ aq10
                replace aw1 := sx1 _ _ aw1
                replace hu4 := sx1 _ _ hu4
                replace hr4 := sx1 _ _ hr4
                refine ⟨_, _, _, _, rfl, rfl, hrr, ax1, Nat.le_of_lt (small1000 (by rw [List.length_map]; show _ + 1 ≤ 1000; omega)), fun x2 nx2 => ?_⟩
                have emm : ms.map V.int ++ [V.int 99] = (ms ++ [99]).map V.int := by rw [List.map_append]; rfl
                rw [emm]
                have sx2 := same_upd (o := .lst ((ms ++ [99]).map V.int)) nx2
                have ax2 := upd_same (H := Hx1) (a := x2) (o := .lst ((ms ++ [99]).map V.int))
                generalize upd Hx1 x2 (.lst ((ms ++ [99]).map V.int)) = Hx2 at sx2 ax2 ⊢
                replace hp := hp.same sx2
                replace k0 := k0.trans (Kept.same sx2)
                replace hW := sx2 _ _ hW
                replace pa0 := pa0.same sx2
                replace ht := ht.keep (KT.same sx2)
                replace hpr0 := hpr0.keep (KT.same sx2)
                replace hu := sx2 _ _ hu
                replace hrr := sx2 _ _ hrr
                replace aq7 := aq7.same sx2
                replace aq8 := aq8.same sx2
                replace aq9 := aq9.same sx2
                replace aq10 := sx2 _ _ aq10
                replace aw1 := sx2 _ _ aw1
                replace hu4 := sx2 _ _ hu4
                replace hr4 := sx2 _ _ hr4
                replace ax1 := sx2 _ _ ax1
                refine ⟨x2, ms ++ [99], rfl, SqL.of ax2, by rw [List.length_append]; show _ + 1 ≤ _; omega, fun pS Hs2 ss2 nS setS => ?_⟩
                replace hp := hp.same ss2
                replace k0 := k0.trans (Kept.same ss2)
                replace hW := ss2 _ _ hW
                replace pa0 := pa0.same ss2
                replace ht := ht.keep (KT.same ss2)
                replace hpr0 := hpr0.keep (KT.same ss2)
                replace hu := ss2 _ _ hu
                replace hrr := ss2 _ _ hrr
                replace aq7 := aq7.same ss2
                replace aq8 := aq8.same ss2
                replace aq9 := aq9.same ss2
                replace aq10 := ss2 _ _ aq10
                replace aw1 := ss2 _ _ aw1
                replace hu4 := ss2 _ _ hu4
                replace hr4 := ss2 _ _ hr4
                replace ax1 := ss2 _ _ ax1
                replace ax2 := ss2 _ _ ax2
                refine ⟨pS, _, rfl, setS, fun ms3 x3 pw3 mem3 nx3 => ?_⟩
                have sx3 := same_upd (o := .lst (ms3.map V.int)) nx3
                have ax3 := upd_same (H := Hs2) (a := x3) (o := .lst (ms3.map V.int))
                generalize upd Hs2 x3 (.lst (ms3.map V.int)) = Hx3 at sx3 ax3 ⊢
                replace hp := hp.same sx3
                replace k0 := k0.trans (Kept.same sx3)
                replace hW := sx3 _ _ hW
                replace pa0 := pa0.same sx3
                replace ht := ht.keep (KT.same sx3)
                replace hpr0 := hpr0.keep (KT.same sx3)
                replace hu := sx3 _ _ hu
                replace hrr := sx3 _ _ hrr
                replace aq7 := aq7.same sx3
                replace aq8 := aq8.same sx3
                replace aq9 := aq9.same sx3
                replace aq10 := sx3 _ _ aq10
                replace aw1 := sx3 _ _ aw1
                replace hu4 := sx3 _ _ hu4
                replace hr4 := sx3 _ _ hr4
                replace ax1 := sx3 _ _ ax1
                replace ax2 := sx3 _ _ ax2
                refine ⟨(by show 2 ≤ sizeLine; decide), fun x4 nx4 => ?_⟩
                have sx4 := same_upd (o := .lst [V.int R0, V.ref x3]) nx4
                have ax4 := upd_same (H := Hx3) (a := x4) (o := .lst [V.int R0, V.ref x3])
                generalize upd Hx3 x4 (.lst [V.int R0, V.ref x3]) = Hx4 at sx4 ax4 ⊢
                replace hp := hp.same sx4
                replace k0 := k0.trans (Kept.same sx4)
                replace hW := sx4 _ _ hW
                replace pa0 := pa0.same sx4
                replace ht := ht.keep (KT.same sx4)
                replace hpr0 := hpr0.keep (KT.same sx4)
                replace hu := sx4 _ _ hu
                replace hrr := sx4 _ _ hrr
                replace aq7 := aq7.same sx4
                replace aq8 := aq8.same sx4
                replace aq9 := aq9.same sx4
                replace aq10 := sx4 _ _ aq10
                replace aw1 := sx4 _ _ aw1
                replace hu4 := sx4 _ _ hu4
                replace hr4 := sx4 _ _ hr4
                replace ax1 := sx4 _ _ ax1
                replace ax2 := sx4 _ _ ax2
                replace ax3 := sx4 _ _ ax3
                have em4 : ms4 = ms3 := sorted_one pw4 pw3 fun k => by
                  rw [mem4 k, rm2 k, mem3 k, List.mem_append, List.mem_singleton, mem k]
                rw [em4] at hr4
                refine ⟨_, _, own_dp hu4 hr4, own_dp ax4 ax3, own_shaped _ _, own_shaped _ _, _, rfl, ?_⟩
                rw [own_eq]
                refine iteB (fun z => absurd z (by decide)) (fun _ => ?_)
                refine ⟨_, rfl, p, 5, rfl, hp, by decide, by decide, fun le ole le0 le1 pole => ?_⟩
                have kple : Kept p Hx4 (upd Hx4 p ole) := Kept.upd p Hx4 ole
                have ktle : KT Hx4 (upd Hx4 p ole) := KT.of kple hp
                replace hW := kple _ _ hW eWp
                replace pa0 := ktle _ _ pa0
                replace ht := ht.keep ktle
                replace hpr0 := hpr0.keep ktle
                replace hu := kple _ _ hu eup
                replace hrr := kple _ _ hrr erp2
                replace k0 := k0.trans kple
                replace hp : PoolAt (upd Hx4 p ole) p := ⟨ole, upd_same, pole⟩
                generalize upd Hx4 p ole = Hple at hW pa0 ht hpr0 hu hrr k0 hp ⊢
                refine ⟨_, rfl, p, 8, rfl, hp, by decide, by decide, fun mo omo mo0 mo1 pomo => ?_⟩
                have kpmo : Kept p Hple (upd Hple p omo) := Kept.upd p Hple omo
                have ktmo : KT Hple (upd Hple p omo) := KT.of kpmo hp
                replace hW := kpmo _ _ hW eWp
                replace pa0 := ktmo _ _ pa0
                replace ht := ht.keep ktmo
                replace hpr0 := hpr0.keep ktmo
                replace hu := kpmo _ _ hu eup
                replace hrr := kpmo _ _ hrr erp2
                replace k0 := k0.trans kpmo
                replace hp : PoolAt (upd Hple p omo) p := ⟨omo, upd_same, pomo⟩
                generalize upd Hple p omo = Hpmo at hW pa0 ht hpr0 hu hrr k0 hp ⊢
                refine ⟨_, _, rfl, rfl, _, _, rfl, ?_⟩
                refine ⟨_, rfl, u, _, _, _, rfl, rfl, SqL.of hu, atI_nat (j := 0) rfl, (by show 3 ≤ sizeLine; decide), fun q11 Hq11 sq11 nq11 pq11 => ?_⟩
                have aq11 : PTup Hq11 q11 [V.int 1, V.int 1, V.int R0] := pq11
                replace hp := hp.same sq11
                replace k0 := k0.trans (Kept.same sq11)
                replace hW := sq11 _ _ hW
                replace pa0 := pa0.same sq11
                replace ht := ht.keep (KT.same sq11)
                replace hpr0 := hpr0.keep (KT.same sq11)
                replace hu := sq11 _ _ hu
                replace hrr := sq11 _ _ hrr
                refine ⟨(by show 3 ≤ sizeLine; decide), fun q12 Hq12 sq12 nq12 pq12 => ?_⟩
                have aq12 : PTup Hq12 q12 [V.int 0, V.int 0, V.int 0] := pq12
                replace hp := hp.same sq12
                replace k0 := k0.trans (Kept.same sq12)
                replace hW := sq12 _ _ hW
                replace pa0 := pa0.same sq12
                replace ht := ht.keep (KT.same sq12)
                replace hpr0 := hpr0.keep (KT.same sq12)
                replace hu := sq12 _ _ hu
                replace hrr := sq12 _ _ hrr
                replace aq11 := aq11.same sq12
                refine ⟨_, rfl, _, rfl, _, rfl, _, rfl, u, _, _, _, rfl, rfl, SqL.of hu, atI_nat (j := 0) rfl, _, _, rfl, rfl, .inl ⟨by omega, by omega⟩, _, rfl, _, _, rfl, rfl, _, rfl, _, _, rfl, rfl, (by show 3 ≤ sizeLine; decide), fun q13 Hq13 sq13 nq13 pq13 => ?_⟩
                have aq13 : PTup Hq13 q13 [V.int le, V.int (5 + mo), V.int ((5 + mo) * R0 + (5 + mo) - le)] := pq13
                replace hp := hp.same sq13
                replace k0 := k0.trans (Kept.same sq13)
                replace hW := sq13 _ _ hW
                replace pa0 := pa0.same sq13
                replace ht := ht.keep (KT.same sq13)
                replace hpr0 := hpr0.keep (KT.same sq13)
                replace hu := sq13 _ _ hu
                replace hrr := sq13 _ _ hrr
                replace aq11 := aq11.same sq13
                replace aq12 := aq12.same sq13
                refine ⟨(by show 3 ≤ sizeLine; decide), fun q14 nq14 => ?_⟩
                have sq14 := same_upd (o := .lst [V.ref q11, V.ref q12, V.ref q13]) nq14
                have eq14 : q14 ≠ p := pool_ne hp nq14
                have aq14 := upd_same (H := Hq13) (a := q14) (o := .lst [V.ref q11, V.ref q12, V.ref q13])
                generalize upd Hq13 q14 (.lst [V.ref q11, V.ref q12, V.ref q13]) = Hq14 at sq14 aq14 ⊢
                replace hp := hp.same sq14
                replace k0 := k0.trans (Kept.same sq14)
                replace hW := sq14 _ _ hW
                replace pa0 := pa0.same sq14
                replace ht := ht.keep (KT.same sq14)
                replace hpr0 := hpr0.keep (KT.same sq14)
                replace hu := sq14 _ _ hu
                replace hrr := sq14 _ _ hrr
                replace aq11 := aq11.same sq14
                replace aq12 := aq12.same sq14
                replace aq13 := aq13.same sq14
                have three : ∀ x ∈ [V.ref q11, V.ref q12, V.ref q13], ∃ (b : Addr) (lo hi2 du : Int), x = .ref b ∧ PTup Hq14 b [.int lo, .int hi2, .int du] ∧ 0 ≤ lo ∧ lo ≤ hi2 ∧ hi2 ≤ 12 ∧ du = hi2 * R0 + hi2 - lo := by
                  intro x hx
                  simp only [List.mem_cons, List.not_mem_nil, or_false] at hx
                  rcases hx with rfl | rfl | rfl
                  · exact ⟨_, 1, 1, R0, rfl, aq11, by decide, by decide, by decide, by omega⟩
                  · exact ⟨_, 0, 0, 0, rfl, aq12, by decide, by decide, by decide, by omega⟩
                  · exact ⟨_, le, 5 + mo, _, rfl, aq13, by omega, by omega, by omega, rfl⟩
                refine ⟨q14, rfl, ⟨_, SqL.of aq14⟩, ?_⟩
                refine for_list (K := K) (a := q14) (xs := [V.ref q11, V.ref q12, V.ref q13]) (fun j σ' Hj => ∃ z13 z14 z15 : Option V, σ' = [some (.ref a), some (.int (0 + (i : Int))), some (.ref p), some (.ref W), some (.str n0), some tv, some (.ref u), some (.str sp), some (.ref Z), some (.ref D), z10, some (.int le), some (.int (5 + mo)), z13, z14, z15, y16, y17, y18] ∧ Same Hq14 Hj) ?_ ?_ ?_ ?_
                · exact ⟨_, _, _, rfl, Same.refl _⟩
                · rintro j σ' Hj _ ⟨_, _, _, _, sj⟩
                  exact SqL.of (sj _ _ aq14)
                · rintro j x σ' Hj hx ⟨z13, z14, z15, rfl, sj⟩
                  obtain ⟨b3, lo, hi2, du, rfl, pb3, lo0, lo1, hi12, edu⟩ := three x (List.mem_of_getElem? hx)
                  have sjj := sj
                  replace hp := hp.same sj
                  replace k0 := k0.trans (Kept.same sj)
                  replace hW := sj _ _ hW
                  replace pa0 := pa0.same sj
                  replace ht := ht.keep (KT.same sj)
                  replace hpr0 := hpr0.keep (KT.same sj)
                  replace hu := sj _ _ hu
                  replace hrr := sj _ _ hrr
                  replace pb3 := pb3.same sj
                  refine ⟨b3, _, rfl, pb3.sq, rfl, _, _, rfl, _, _, rfl, _, _, rfl, rfl, ?_⟩
                  refine ⟨_, rfl, _, rfl, _, rfl, _, rfl, (by show 4 ≤ sizeLine; decide), fun q15 Hq15 sq15 nq15 pq15 => ?_⟩
                  have aq15 : PTup Hq15 q15 [V.str "round", V.int lo, V.int hi2, tv] := pq15
                  replace hp := hp.same sq15
                  replace k0 := k0.trans (Kept.same sq15)
                  replace hW := sq15 _ _ hW
                  replace pa0 := pa0.same sq15
                  replace ht := ht.keep (KT.same sq15)
                  replace hpr0 := hpr0.keep (KT.same sq15)
                  replace hu := sq15 _ _ hu
                  replace hrr := sq15 _ _ hrr
                  replace pb3 := pb3.same sq15
                  replace sjj := sjj.trans sq15
                  refine ⟨(by show 2 ≤ sizeLine; decide), fun q16 Hq16 sq16 nq16 pq16 => ?_⟩
                  have aq16 : PTup Hq16 q16 [V.str n0, V.ref q15] := pq16
                  replace hp := hp.same sq16
                  replace k0 := k0.trans (Kept.same sq16)
                  replace hW := sq16 _ _ hW
                  replace pa0 := pa0.same sq16
                  replace ht := ht.keep (KT.same sq16)
                  replace hpr0 := hpr0.keep (KT.same sq16)
                  replace hu := sq16 _ _ hu
                  replace hrr := sq16 _ _ hrr
                  replace pb3 := pb3.same sq16
                  replace sjj := sjj.trans sq16
                  replace aq15 := aq15.same sq16
                  refine ⟨(by show 1 ≤ sizeLine; decide), fun q17 nq17 => ?_⟩
                  have sq17 := same_upd (o := .lst [V.ref q16]) nq17
                  have eq17 : q17 ≠ p := pool_ne hp nq17
                  have aq17 := upd_same (H := Hq16) (a := q17) (o := .lst [V.ref q16])
                  generalize upd Hq16 q17 (.lst [V.ref q16]) = Hq17 at sq17 aq17 ⊢
                  replace hp := hp.same sq17
                  replace k0 := k0.trans (Kept.same sq17)
                  replace hW := sq17 _ _ hW
                  replace pa0 := pa0.same sq17
                  replace ht := ht.keep (KT.same sq17)
                  replace hpr0 := hpr0.keep (KT.same sq17)
                  replace hu := sq17 _ _ hu
                  replace hrr := sq17 _ _ hrr
                  replace pb3 := pb3.same sq17
                  replace sjj := sjj.trans sq17
                  replace aq15 := aq15.same sq17
                  replace aq16 := aq16.same sq17
                  refine ⟨_, rfl, 1, rfl, W, _, rfl, SqL.of hW, fun d5 nd5 => ?_⟩
                  rw [cut_tail, show (V.ref a0 :: wr).drop 1 = wr from rfl]
                  have sd5 := same_upd (o := .lst wr) nd5
                  have ad5 := upd_same (H := Hq17) (a := d5) (o := .lst wr)
                  generalize upd Hq17 d5 (.lst wr) = Hd5 at sd5 ad5 ⊢
                  replace hp := hp.same sd5
                  replace k0 := k0.trans (Kept.same sd5)
                  replace hW := sd5 _ _ hW
                  replace pa0 := pa0.same sd5
                  replace ht := ht.keep (KT.same sd5)
                  replace hpr0 := hpr0.keep (KT.same sd5)
                  replace hu := sd5 _ _ hu
                  replace hrr := sd5 _ _ hrr
                  replace pb3 := pb3.same sd5
                  replace sjj := sjj.trans sd5
                  replace aq15 := aq15.same sd5
                  replace aq16 := aq16.same sd5
                  replace aq17 := sd5 _ _ aq17
                  refine ⟨_, _, _, _, rfl, rfl, aq17, ad5, Nat.le_of_lt (small1000 (by show 1 + wr.length ≤ 1000; rw [List.length_cons, List.length_cons] at hwl; omega)), fun e5 ne5 => ?_⟩
                  have se5 := same_upd (o := .lst ([V.ref q16] ++ wr)) ne5
                  have ae5 := upd_same (H := Hd5) (a := e5) (o := .lst ([V.ref q16] ++ wr))
                  generalize upd Hd5 e5 (.lst ([V.ref q16] ++ wr)) = He5 at se5 ae5 ⊢
                  replace hp := hp.same se5
                  replace k0 := k0.trans (Kept.same se5)
                  replace hW := se5 _ _ hW
                  replace pa0 := pa0.same se5
                  replace ht := ht.keep (KT.same se5)
                  replace hpr0 := hpr0.keep (KT.same se5)
                  replace hu := se5 _ _ hu
                  replace hrr := se5 _ _ hrr
                  replace pb3 := pb3.same se5
                  replace sjj := sjj.trans se5
                  replace aq15 := aq15.same se5
                  replace aq16 := aq16.same se5
                  replace aq17 := se5 _ _ aq17
                  replace ad5 := se5 _ _ ad5
                  obtain ⟨pvx5, topx5, rmx5⟩ := wrp.rnd (l := lo) (j := hi2) ⟨lo0, by omega, fun k e => by cases e; omega⟩ hi12
                  refine ⟨e5, _, (n0, .rnd lo (some hi2) t0) :: r, S, rfl, ae5, ⟨⟨q16, _, rfl, aq16, .rnd aq15 ht⟩, hpr0⟩, pvx5, hS64, fun u5 r5 ms5 Hn5 sn5 nu5 nr5 ne5 hu5 hr5 pw5 mem5 => ?_⟩
                  replace hp := hp.same sn5
                  replace k0 := k0.trans (Kept.same sn5)
                  replace hW := sn5 _ _ hW
                  replace pa0 := pa0.same sn5
                  replace ht := ht.keep (KT.same sn5)
                  replace hpr0 := hpr0.keep (KT.same sn5)
                  replace hu := sn5 _ _ hu
                  replace hrr := sn5 _ _ hrr
                  replace pb3 := pb3.same sn5
                  replace sjj := sjj.trans sn5
                  replace aq15 := aq15.same sn5
                  replace aq16 := aq16.same sn5
                  replace aq17 := sn5 _ _ aq17
                  replace ad5 := sn5 _ _ ad5
                  replace ae5 := sn5 _ _ ae5
                  have em5 : ms5 = ms := sorted_one pw5 pw fun k => (mem5 k).trans ((rmx5 k).trans (mem k).symm)
                  rw [em5] at hr5
                  rw [topx5, eR, ← edu] at hu5
                  refine ⟨_, rfl, _, rfl, u, _, _, _, rfl, rfl, SqL.of hu, atI_nat (j := 1) rfl, (by show 2 ≤ sizeLine; decide), fun q18 nq18 => ?_⟩
                  have sq18 := same_upd (o := .lst [V.int du, V.ref rr]) nq18
                  have eq18 : q18 ≠ p := pool_ne hp nq18
                  have aq18 := upd_same (H := Hn5) (a := q18) (o := .lst [V.int du, V.ref rr])
                  generalize upd Hn5 q18 (.lst [V.int du, V.ref rr]) = Hq18 at sq18 aq18 ⊢
                  replace hp := hp.same sq18
                  replace k0 := k0.trans (Kept.same sq18)
                  replace hW := sq18 _ _ hW
                  replace pa0 := pa0.same sq18
                  replace ht := ht.keep (KT.same sq18)
                  replace hpr0 := hpr0.keep (KT.same sq18)
                  replace hu := sq18 _ _ hu
                  replace hrr := sq18 _ _ hrr
                  replace pb3 := pb3.same sq18
                  replace sjj := sjj.trans sq18
                  replace aq15 := aq15.same sq18
                  replace aq16 := aq16.same sq18
                  replace aq17 := sq18 _ _ aq17
                  replace ad5 := sq18 _ _ ad5
                  replace ae5 := sq18 _ _ ae5
                  replace hu5 := sq18 _ _ hu5
                  replace hr5 := sq18 _ _ hr5
                  refine ⟨_, _, own_dp hu5 hr5, own_dp aq18 hrr, own_shaped _ _, own_shaped _ _, _, rfl, ?_⟩
                  rw [own_eq]
                  refine iteB (fun z => absurd z (by decide)) (fun _ => ?_)
                  exact ⟨_, _, _, rfl, sjj⟩
                rintro σ' Hj ⟨z13, z14, z15, rfl, sj⟩
                replace hp := hp.same sj
                replace k0 := k0.trans (Kept.same sj)
                replace hW := sj _ _ hW
                replace pa0 := pa0.same sj
                replace ht := ht.keep (KT.same sj)
                replace hpr0 := hpr0.keep (KT.same sj)
                replace hu := sj _ _ hu
                replace hrr := sj _ _ hrr
                refine ⟨_, rfl, _, rfl, _, rfl, (by show 4 ≤ sizeLine; decide), fun q19 Hq19 sq19 nq19 pq19 => ?_⟩
                have aq19 : PTup Hq19 q19 [V.str "round", V.int le, V.non, tv] := pq19
                replace hp := hp.same sq19
                replace k0 := k0.trans (Kept.same sq19)
                replace hW := sq19 _ _ hW
                replace pa0 := pa0.same sq19
                replace ht := ht.keep (KT.same sq19)
                replace hpr0 := hpr0.keep (KT.same sq19)
                replace hu := sq19 _ _ hu
                replace hrr := sq19 _ _ hrr
                refine ⟨(by show 2 ≤ sizeLine; decide), fun q20 Hq20 sq20 nq20 pq20 => ?_⟩
                have aq20 : PTup Hq20 q20 [V.str n0, V.ref q19] := pq20
                replace hp := hp.same sq20
                replace k0 := k0.trans (Kept.same sq20)
                replace hW := sq20 _ _ hW
                replace pa0 := pa0.same sq20
                replace ht := ht.keep (KT.same sq20)
                replace hpr0 := hpr0.keep (KT.same sq20)
                replace hu := sq20 _ _ hu
                replace hrr := sq20 _ _ hrr
                replace aq19 := aq19.same sq20
                refine ⟨(by show 1 ≤ sizeLine; decide), fun q21 nq21 => ?_⟩
                have sq21 := same_upd (o := .lst [V.ref q20]) nq21
                have eq21 : q21 ≠ p := pool_ne hp nq21
                have aq21 := upd_same (H := Hq20) (a := q21) (o := .lst [V.ref q20])
                generalize upd Hq20 q21 (.lst [V.ref q20]) = Hq21 at sq21 aq21 ⊢
                replace hp := hp.same sq21
                replace k0 := k0.trans (Kept.same sq21)
                replace hW := sq21 _ _ hW
                replace pa0 := pa0.same sq21
                replace ht := ht.keep (KT.same sq21)
                replace hpr0 := hpr0.keep (KT.same sq21)
                replace hu := sq21 _ _ hu
                replace hrr := sq21 _ _ hrr
                replace aq19 := aq19.same sq21
                replace aq20 := aq20.same sq21
                refine ⟨_, rfl, 1, rfl, W, _, rfl, SqL.of hW, fun d6 nd6 => ?_⟩
                rw [cut_tail, show (V.ref a0 :: wr).drop 1 = wr from rfl]
                have sd6 := same_upd (o := .lst wr) nd6
                have ad6 := upd_same (H := Hq21) (a := d6) (o := .lst wr)
                generalize upd Hq21 d6 (.lst wr) = Hd6 at sd6 ad6 ⊢
                replace hp := hp.same sd6
                replace k0 := k0.trans (Kept.same sd6)
                replace hW := sd6 _ _ hW
                replace pa0 := pa0.same sd6
                replace ht := ht.keep (KT.same sd6)
                replace hpr0 := hpr0.keep (KT.same sd6)
                replace hu := sd6 _ _ hu
                replace hrr := sd6 _ _ hrr
                replace aq19 := aq19.same sd6
                replace aq20 := aq20.same sd6
                replace aq21 := sd6 _ _ aq21
                refine ⟨_, _, _, _, rfl, rfl, aq21, ad6, Nat.le_of_lt (small1000 (by show 1 + wr.length ≤ 1000; rw [List.length_cons, List.length_cons] at hwl; omega)), fun e6 ne6 => ?_⟩
                have se6 := same_upd (o := .lst ([V.ref q20] ++ wr)) ne6
                have ae6 := upd_same (H := Hd6) (a := e6) (o := .lst ([V.ref q20] ++ wr))
                generalize upd Hd6 e6 (.lst ([V.ref q20] ++ wr)) = He6 at se6 ae6 ⊢
                replace hp := hp.same se6
                replace k0 := k0.trans (Kept.same se6)
                replace hW := se6 _ _ hW
                replace pa0 := pa0.same se6
                replace ht := ht.keep (KT.same se6)
                replace hpr0 := hpr0.keep (KT.same se6)
                replace hu := se6 _ _ hu
                replace hrr := se6 _ _ hrr
                replace aq19 := aq19.same se6
                replace aq20 := aq20.same se6
                replace aq21 := se6 _ _ aq21
                replace ad6 := se6 _ _ ad6
                obtain ⟨pvx6, topx6, rmx6⟩ := wrp.rndN (l := le) ⟨by omega, by omega, fun k e => by cases e⟩
                refine ⟨e6, _, (n0, .rnd le none t0) :: r, S, rfl, ae6, ⟨⟨q20, _, rfl, aq20, .rnd aq19 ht⟩, hpr0⟩, pvx6, hS64, fun u6 r6 ms6 Hn6 sn6 nu6 nr6 ne6 hu6 hr6 pw6 mem6 => ?_⟩
                replace hp := hp.same sn6
                replace k0 := k0.trans (Kept.same sn6)
                replace hW := sn6 _ _ hW
                replace pa0 := pa0.same sn6
                replace ht := ht.keep (KT.same sn6)
                replace hpr0 := hpr0.keep (KT.same sn6)
                replace hu := sn6 _ _ hu
                replace hrr := sn6 _ _ hrr
                replace aq19 := aq19.same sn6
                replace aq20 := aq20.same sn6
                replace aq21 := sn6 _ _ aq21
                replace ad6 := sn6 _ _ ad6
                replace ae6 := sn6 _ _ ae6
                have em6 : ms6 = ms := sorted_one pw6 pw fun k => (mem6 k).trans ((rmx6 k).trans (mem k).symm)
                rw [em6] at hr6
                rw [topx6, eR] at hu6
                refine ⟨_, rfl, _, _, rfl, rfl, _, rfl, u, _, _, _, rfl, rfl, SqL.of hu, atI_nat (j := 0) rfl, _, _, rfl, rfl, .inl ⟨by omega, by omega⟩, _, _, rfl, rfl, _, rfl, u, _, _, _, rfl, rfl, SqL.of hu, atI_nat (j := 1) rfl, (by show 2 ≤ sizeLine; decide), fun q22 nq22 => ?_⟩
                have sq22 := same_upd (o := .lst [V.int ((le + 1) * R0 + 1), V.ref rr]) nq22
                have eq22 : q22 ≠ p := pool_ne hp nq22
                have aq22 := upd_same (H := Hn6) (a := q22) (o := .lst [V.int ((le + 1) * R0 + 1), V.ref rr])
                generalize upd Hn6 q22 (.lst [V.int ((le + 1) * R0 + 1), V.ref rr]) = Hq22 at sq22 aq22 ⊢
                replace hp := hp.same sq22
                replace k0 := k0.trans (Kept.same sq22)
                replace hW := sq22 _ _ hW
                replace pa0 := pa0.same sq22
                replace ht := ht.keep (KT.same sq22)
                replace hpr0 := hpr0.keep (KT.same sq22)
                replace hu := sq22 _ _ hu
                replace hrr := sq22 _ _ hrr
                replace aq19 := aq19.same sq22
                replace aq20 := aq20.same sq22
                replace aq21 := sq22 _ _ aq21
                replace ad6 := sq22 _ _ ad6
                replace ae6 := sq22 _ _ ae6
                replace hu6 := sq22 _ _ hu6
                replace hr6 := sq22 _ _ hr6
                refine ⟨_, _, own_dp hu6 hr6, own_dp aq22 hrr, own_shaped _ _, own_shaped _ _, _, rfl, ?_⟩
                rw [own_eq]
                refine iteB (fun z => absurd z (by decide)) (fun _ => ?_)
                refine ⟨_, rfl, _, rfl, _, rfl, (by show 2 ≤ sizeLine; decide), fun q23 Hq23 sq23 nq23 pq23 => ?_⟩
                have aq23 : PTup Hq23 q23 [tv, tv] := pq23
                replace hp := hp.same sq23
                replace k0 := k0.trans (Kept.same sq23)
                replace hW := sq23 _ _ hW
                replace pa0 := pa0.same sq23
                replace ht := ht.keep (KT.same sq23)
                replace hpr0 := hpr0.keep (KT.same sq23)
                replace hu := sq23 _ _ hu
                replace hrr := sq23 _ _ hrr
                refine ⟨(by show 2 ≤ sizeLine; decide), fun q24 Hq24 sq24 nq24 pq24 => ?_⟩
                have aq24 : PTup Hq24 q24 [V.str "fork", V.ref q23] := pq24
                replace hp := hp.same sq24
                replace k0 := k0.trans (Kept.same sq24)
                replace hW := sq24 _ _ hW
                replace pa0 := pa0.same sq24
                replace ht := ht.keep (KT.same sq24)
                replace hpr0 := hpr0.keep (KT.same sq24)
                replace hu := sq24 _ _ hu
                replace hrr := sq24 _ _ hrr
                replace aq23 := aq23.same sq24
                refine ⟨(by show 2 ≤ sizeLine; decide), fun q25 Hq25 sq25 nq25 pq25 => ?_⟩
                have aq25 : PTup Hq25 q25 [V.str n0, V.ref q24] := pq25
                replace hp := hp.same sq25
                replace k0 := k0.trans (Kept.same sq25)
                replace hW := sq25 _ _ hW
                replace pa0 := pa0.same sq25
                replace ht := ht.keep (KT.same sq25)
                replace hpr0 := hpr0.keep (KT.same sq25)
                replace hu := sq25 _ _ hu
                replace hrr := sq25 _ _ hrr
                replace aq23 := aq23.same sq25
                replace aq24 := aq24.same sq25
                refine ⟨(by show 1 ≤ sizeLine; decide), fun q26 nq26 => ?_⟩
                have sq26 := same_upd (o := .lst [V.ref q25]) nq26
                have eq26 : q26 ≠ p := pool_ne hp nq26
                have aq26 := upd_same (H := Hq25) (a := q26) (o := .lst [V.ref q25])
                generalize upd Hq25 q26 (.lst [V.ref q25]) = Hq26 at sq26 aq26 ⊢
                replace hp := hp.same sq26
                replace k0 := k0.trans (Kept.same sq26)
                replace hW := sq26 _ _ hW
                replace pa0 := pa0.same sq26
                replace ht := ht.keep (KT.same sq26)
                replace hpr0 := hpr0.keep (KT.same sq26)
                replace hu := sq26 _ _ hu
                replace hrr := sq26 _ _ hrr
                replace aq23 := aq23.same sq26
                replace aq24 := aq24.same sq26
                replace aq25 := aq25.same sq26
                refine ⟨_, rfl, 1, rfl, W, _, rfl, SqL.of hW, fun d7 nd7 => ?_⟩
                rw [cut_tail, show (V.ref a0 :: wr).drop 1 = wr from rfl]
                have sd7 := same_upd (o := .lst wr) nd7
                have ad7 := upd_same (H := Hq26) (a := d7) (o := .lst wr)
                generalize upd Hq26 d7 (.lst wr) = Hd7 at sd7 ad7 ⊢
                replace hp := hp.same sd7
                replace k0 := k0.trans (Kept.same sd7)
                replace hW := sd7 _ _ hW
                replace pa0 := pa0.same sd7
                replace ht := ht.keep (KT.same sd7)
                replace hpr0 := hpr0.keep (KT.same sd7)
                replace hu := sd7 _ _ hu
                replace hrr := sd7 _ _ hrr
                replace aq23 := aq23.same sd7
                replace aq24 := aq24.same sd7
                replace aq25 := aq25.same sd7
                replace aq26 := sd7 _ _ aq26
                refine ⟨_, _, _, _, rfl, rfl, aq26, ad7, Nat.le_of_lt (small1000 (by show 1 + wr.length ≤ 1000; rw [List.length_cons, List.length_cons] at hwl; omega)), fun e7 ne7 => ?_⟩
                have se7 := same_upd (o := .lst ([V.ref q25] ++ wr)) ne7
                have ae7 := upd_same (H := Hd7) (a := e7) (o := .lst ([V.ref q25] ++ wr))
                generalize upd Hd7 e7 (.lst ([V.ref q25] ++ wr)) = He7 at se7 ae7 ⊢
                replace hp := hp.same se7
                replace k0 := k0.trans (Kept.same se7)
                replace hW := se7 _ _ hW
                replace pa0 := pa0.same se7
                replace ht := ht.keep (KT.same se7)
                replace hpr0 := hpr0.keep (KT.same se7)
                replace hu := se7 _ _ hu
                replace hrr := se7 _ _ hrr
                replace aq23 := aq23.same se7
                replace aq24 := aq24.same se7
                replace aq25 := aq25.same se7
                replace aq26 := se7 _ _ aq26
                replace ad7 := se7 _ _ ad7
                obtain ⟨pvx7, topx7, rmx7⟩ := wrp.frk
                refine ⟨e7, _, (n0, .frk [t0, t0]) :: r, S, rfl, ae7, ⟨⟨q25, _, rfl, aq25, .frk aq24 aq23 (.cons ht (.cons ht .nil))⟩, hpr0⟩, pvx7, hS64, fun u7 r7 ms7 Hn7 sn7 nu7 nr7 ne7 hu7 hr7 pw7 mem7 => ?_⟩
                replace hp := hp.same sn7
                replace k0 := k0.trans (Kept.same sn7)
                replace hW := sn7 _ _ hW
                replace pa0 := pa0.same sn7
                replace ht := ht.keep (KT.same sn7)
                replace hpr0 := hpr0.keep (KT.same sn7)
                replace hu := sn7 _ _ hu
                replace hrr := sn7 _ _ hrr
                replace aq23 := aq23.same sn7
                replace aq24 := aq24.same sn7
                replace aq25 := aq25.same sn7
                replace aq26 := sn7 _ _ aq26
                replace ad7 := sn7 _ _ ad7
                replace ae7 := sn7 _ _ ae7
                have em7 : ms7 = ms := sorted_one pw7 pw fun k => (mem7 k).trans ((rmx7 k).trans (mem k).symm)
                rw [em7] at hr7
                rw [topx7, eR] at hu7
                refine ⟨_, rfl, u, _, _, _, rfl, rfl, SqL.of hu, atI_nat (j := 0) rfl, _, _, rfl, rfl, .inl ⟨by decide, by decide⟩, _, _, rfl, rfl, _, rfl, u, _, _, _, rfl, rfl, SqL.of hu, atI_nat (j := 1) rfl, (by show 2 ≤ sizeLine; decide), fun q27 nq27 => ?_⟩
                have sq27 := same_upd (o := .lst [V.int (2 * R0 + 1), V.ref rr]) nq27
                have eq27 : q27 ≠ p := pool_ne hp nq27
                have aq27 := upd_same (H := Hn7) (a := q27) (o := .lst [V.int (2 * R0 + 1), V.ref rr])
                generalize upd Hn7 q27 (.lst [V.int (2 * R0 + 1), V.ref rr]) = Hq27 at sq27 aq27 ⊢
                replace hp := hp.same sq27
                replace k0 := k0.trans (Kept.same sq27)
                replace hW := sq27 _ _ hW
                replace pa0 := pa0.same sq27
                replace ht := ht.keep (KT.same sq27)
                replace hpr0 := hpr0.keep (KT.same sq27)
                replace hu := sq27 _ _ hu
                replace hrr := sq27 _ _ hrr
                replace aq23 := aq23.same sq27
                replace aq24 := aq24.same sq27
                replace aq25 := aq25.same sq27
                replace aq26 := sq27 _ _ aq26
                replace ad7 := sq27 _ _ ad7
                replace ae7 := sq27 _ _ ae7
                replace hu7 := sq27 _ _ hu7
                replace hr7 := sq27 _ _ hr7
                refine ⟨_, _, own_dp hu7 hr7, own_dp aq27 hrr, own_shaped _ _, own_shaped _ _, _, rfl, ?_⟩
                rw [own_eq]
                refine iteB (fun z => absurd z (by decide)) (fun _ => ?_)
                exact ⟨_, rfl, rfl, back k0⟩
    · rintro σ H2 ⟨ys, rfl, _, _⟩
      exact q H2
end
end Su
namespace Su
open PySem PySem.Spec PyProof.Rows L2
theorem at_mk {K : PySem.W.Frag} {h : Heap} {mg : Str → Option Value} {x : Str} {st : Stmt} {f : Addr} {fd : FuncData} {ps : List Str} (X : K.In h) (G : h.Ns mainGlobals mg) (a : PySem.W.nsIn K mainGlobals x = some (some (.ref f))) (F : Fun K x x st f fd) (b : Binds K fd ps []) : At K mg x st ps :=
  ⟨f, fd, F, PySem.W.mg_of X G a, b⟩
theorem all_mk {l : PySem.W.OpenLaw} {w : World} {K : PySem.W.Frag} {h : Heap} {mg : Str → Option Value} {fa f1 f2 f3 f4 f5 f6 f7 f8 f9 f10 f11 f12 f13 f14 f15 f16 f17 f18 f19 f20 f21 f22 f23 f24 f25 f26 f27 f28 f29 f30 f31 : Addr} {g1 g2 g3 g4 g5 : Tok} {C1 : Addr} {cdC1 : ClassData} {fI1 cda1 cc1 : Addr} {oc_1 doc_1 pm_1 ct_1 ccl1 cl_1 : Value} {od_1 an_1 cdd1 cld1 : Option Addr} {q_1 t_1 file1 : Str} {osl1 ccs1 csl1 : Array (Option Value)} {vs1 : Array Value} {tf1 : Tok} {p1_1 p2_1 r1_1 r2_1 r3_1 r4_1 r5_1 r6_1 q1_1 q2_1 q3_1 q4_1 : Pos} {tS : Tok} (X : K.In h) (G : h.Ns mainGlobals mg) (hfa : mg "law" = some (.ref fa))
    {od1 an1 od2 an2 od3 an3 od4 an4 od5 an5 od6 an6 od7 an7 od8 an8 od9 an9 od10 an10 od11 an11 od12 an12 od13 an13 od14 an14 od15 an15 od16 an16 od17 an17 od18 an18 od19 an19 od20 an20 od21 an21 od22 an22 od23 an23 od24 an24 od25 an25 od26 an26 od27 an27 od28 an28 od29 an29 od30 an30 od31 an31 : Option Addr} {sl1 sl2 sl3 sl4 sl5 sl6 sl7 sl8 sl9 sl10 sl11 sl12 sl13 sl14 sl15 sl16 sl17 sl18 sl19 sl20 sl21 sl22 sl23 sl24 sl25 sl26 sl27 sl28 sl29 sl30 sl31 : Array (Option Value)} {oc1 kV1 dc1 pm1 cd1 ct1 oc2 kV2 dc2 pm2 cd2 ct2 oc3 kV3 dc3 pm3 cd3 ct3 oc4 kV4 dc4 pm4 cd4 ct4 oc5 kV5 dc5 pm5 cd5 ct5 oc6 kV6 dc6 pm6 cd6 ct6 oc7 kV7 dc7 pm7 cd7 ct7 oc8 kV8 dc8 pm8 cd8 ct8 oc9 kV9 dc9 pm9 cd9 ct9 oc10 kV10 dc10 pm10 cd10 ct10 oc11 kV11 dc11 pm11 cd11 ct11 oc12 kV12 dc12 pm12 cd12 ct12 oc13 kV13 dc13 pm13 cd13 ct13 oc14 kV14 dc14 pm14 cd14 ct14 oc15 kV15 dc15 pm15 cd15 ct15 oc16 kV16 dc16 pm16 cd16 ct16 oc17 kV17 dc17 pm17 cd17 ct17 oc18 kV18 dc18 pm18 cd18 ct18 oc19 kV19 dc19 pm19 cd19 ct19 oc20 kV20 dc20 pm20 cd20 ct20 oc21 kV21 dc21 pm21 cd21 ct21 oc22 kV22 dc22 pm22 cd22 ct22 oc23 kV23 dc23 pm23 cd23 ct23 oc24 kV24 dc24 pm24 cd24 ct24 oc25 kV25 dc25 pm25 cd25 ct25 oc26 kV26 dc26 pm26 cd26 ct26 oc27 kV27 dc27 pm27 cd27 ct27 oc28 kV28 dc28 pm28 cd28 ct28 oc29 kV29 dc29 pm29 cd29 ct29 oc30 kV30 dc30 pm30 cd30 ct30 oc31 kV31 dc31 pm31 cd31 ct31 : Value}
    (a1 : PySem.W.nsIn K mainGlobals "is_whole" = some (some (.ref f1))) (l1 : K.lookup f1 = some ⟨oc1, od1, .func (PySem.W.fnOf "is_whole" "is_whole" (defArgs s_is_whole) (defBody s_is_whole) (defScope s_is_whole) .none kV1 dc1 pm1 an1 cd1 ct1), sl1⟩) (c1 : PySem.W.codeIn K cd1 "is_whole" = true) (k1 : PySem.W.keepIn K (.ref f1) = true)
    (a2 : PySem.W.nsIn K mainGlobals "is_room" = some (some (.ref f2))) (l2 : K.lookup f2 = some ⟨oc2, od2, .func (PySem.W.fnOf "is_room" "is_room" (defArgs s_is_room) (defBody s_is_room) (defScope s_is_room) .none kV2 dc2 pm2 an2 cd2 ct2), sl2⟩) (c2 : PySem.W.codeIn K cd2 "is_room" = true) (k2 : PySem.W.keepIn K (.ref f2) = true)
    (a3 : PySem.W.nsIn K mainGlobals "are_rising" = some (some (.ref f3))) (l3 : K.lookup f3 = some ⟨oc3, od3, .func (PySem.W.fnOf "are_rising" "are_rising" (defArgs s_are_rising) (defBody s_are_rising) (defScope s_are_rising) .none kV3 dc3 pm3 an3 cd3 ct3), sl3⟩) (c3 : PySem.W.codeIn K cd3 "are_rising" = true) (k3 : PySem.W.keepIn K (.ref f3) = true)
    (a4 : PySem.W.nsIn K mainGlobals "are_rooms" = some (some (.ref f4))) (l4 : K.lookup f4 = some ⟨oc4, od4, .func (PySem.W.fnOf "are_rooms" "are_rooms" (defArgs s_are_rooms) (defBody s_are_rooms) (defScope s_are_rooms) .none kV4 dc4 pm4 an4 cd4 ct4), sl4⟩) (c4 : PySem.W.codeIn K cd4 "are_rooms" = true) (k4 : PySem.W.keepIn K (.ref f4) = true)
    (a5 : PySem.W.nsIn K mainGlobals "are_letters" = some (some (.ref f5))) (l5 : K.lookup f5 = some ⟨oc5, od5, .func (PySem.W.fnOf "are_letters" "are_letters" (defArgs s_are_letters) (defBody s_are_letters) (defScope s_are_letters) .none kV5 dc5 pm5 an5 cd5 ct5), sl5⟩) (c5 : PySem.W.codeIn K cd5 "are_letters" = true) (k5 : PySem.W.keepIn K (.ref f5) = true)
    (a6 : PySem.W.nsIn K mainGlobals "is_name" = some (some (.ref f6))) (l6 : K.lookup f6 = some ⟨oc6, od6, .func (PySem.W.fnOf "is_name" "is_name" (defArgs s_is_name) (defBody s_is_name) (defScope s_is_name) .none kV6 dc6 pm6 an6 cd6 ct6), sl6⟩) (c6 : PySem.W.codeIn K cd6 "is_name" = true) (k6 : PySem.W.keepIn K (.ref f6) = true)
    (a7 : PySem.W.nsIn K mainGlobals "are_times" = some (some (.ref f7))) (l7 : K.lookup f7 = some ⟨oc7, od7, .func (PySem.W.fnOf "are_times" "are_times" (defArgs s_are_times) (defBody s_are_times) (defScope s_are_times) .none kV7 dc7 pm7 an7 cd7 ct7), sl7⟩) (c7 : PySem.W.codeIn K cd7 "are_times" = true) (k7 : PySem.W.keepIn K (.ref f7) = true)
    (a8 : PySem.W.nsIn K mainGlobals "are_terms" = some (some (.ref f8))) (l8 : K.lookup f8 = some ⟨oc8, od8, .func (PySem.W.fnOf "are_terms" "are_terms" (defArgs s_are_terms) (defBody s_are_terms) (defScope s_are_terms) .none kV8 dc8 pm8 an8 cd8 ct8), sl8⟩) (c8 : PySem.W.codeIn K cd8 "are_terms" = true) (k8 : PySem.W.keepIn K (.ref f8) = true)
    (a9 : PySem.W.nsIn K mainGlobals "is_term" = some (some (.ref f9))) (l9 : K.lookup f9 = some ⟨oc9, od9, .func (PySem.W.fnOf "is_term" "is_term" (defArgs s_is_term) (defBody s_is_term) (defScope s_is_term) .none kV9 dc9 pm9 an9 cd9 ct9), sl9⟩) (c9 : PySem.W.codeIn K cd9 "is_term" = true) (k9 : PySem.W.keepIn K (.ref f9) = true)
    (a10 : PySem.W.nsIn K mainGlobals "is_named_term" = some (some (.ref f10))) (l10 : K.lookup f10 = some ⟨oc10, od10, .func (PySem.W.fnOf "is_named_term" "is_named_term" (defArgs s_is_named_term) (defBody s_is_named_term) (defScope s_is_named_term) .none kV10 dc10 pm10 an10 cd10 ct10), sl10⟩) (c10 : PySem.W.codeIn K cd10 "is_named_term" = true) (k10 : PySem.W.keepIn K (.ref f10) = true)
    (a11 : PySem.W.nsIn K mainGlobals "terms_within" = some (some (.ref f11))) (l11 : K.lookup f11 = some ⟨oc11, od11, .func (PySem.W.fnOf "terms_within" "terms_within" (defArgs s_terms_within) (defBody s_terms_within) (defScope s_terms_within) .none kV11 dc11 pm11 an11 cd11 ct11), sl11⟩) (c11 : PySem.W.codeIn K cd11 "terms_within" = true) (k11 : PySem.W.keepIn K (.ref f11) = true)
    (a12 : PySem.W.nsIn K mainGlobals "calls_only" = some (some (.ref f12))) (l12 : K.lookup f12 = some ⟨oc12, od12, .func (PySem.W.fnOf "calls_only" "calls_only" (defArgs s_calls_only) (defBody s_calls_only) (defScope s_calls_only) .none kV12 dc12 pm12 an12 cd12 ct12), sl12⟩) (c12 : PySem.W.codeIn K cd12 "calls_only" = true) (k12 : PySem.W.keepIn K (.ref f12) = true)
    (a13 : PySem.W.nsIn K mainGlobals "names_behind" = some (some (.ref f13))) (l13 : K.lookup f13 = some ⟨oc13, od13, .func (PySem.W.fnOf "names_behind" "names_behind" (defArgs s_names_behind) (defBody s_names_behind) (defScope s_names_behind) .none kV13 dc13 pm13 an13 cd13 ct13), sl13⟩) (c13 : PySem.W.codeIn K cd13 "names_behind" = true) (k13 : PySem.W.keepIn K (.ref f13) = true)
    (a14 : PySem.W.nsIn K mainGlobals "look_at_program" = some (some (.ref f14))) (l14 : K.lookup f14 = some ⟨oc14, od14, .func (PySem.W.fnOf "look_at_program" "look_at_program" (defArgs s_look_at_program) (defBody s_look_at_program) (defScope s_look_at_program) .none kV14 dc14 pm14 an14 cd14 ct14), sl14⟩) (c14 : PySem.W.codeIn K cd14 "look_at_program" = true) (k14 : PySem.W.keepIn K (.ref f14) = true)
    (a15 : PySem.W.nsIn K mainGlobals "reach_of" = some (some (.ref f15))) (l15 : K.lookup f15 = some ⟨oc15, od15, .func (PySem.W.fnOf "reach_of" "reach_of" (defArgs s_reach_of) (defBody s_reach_of) (defScope s_reach_of) .none kV15 dc15 pm15 an15 cd15 ct15), sl15⟩) (c15 : PySem.W.codeIn K cd15 "reach_of" = true) (k15 : PySem.W.keepIn K (.ref f15) = true)
    (a16 : PySem.W.nsIn K mainGlobals "reaches_of" = some (some (.ref f16))) (l16 : K.lookup f16 = some ⟨oc16, od16, .func (PySem.W.fnOf "reaches_of" "reaches_of" (defArgs s_reaches_of) (defBody s_reaches_of) (defScope s_reaches_of) .none kV16 dc16 pm16 an16 cd16 ct16), sl16⟩) (c16 : PySem.W.codeIn K cd16 "reaches_of" = true) (k16 : PySem.W.keepIn K (.ref f16) = true)
    (a17 : PySem.W.nsIn K mainGlobals "reach" = some (some (.ref f17))) (l17 : K.lookup f17 = some ⟨oc17, od17, .func (PySem.W.fnOf "reach" "reach" (defArgs s_reach) (defBody s_reach) (defScope s_reach) .none kV17 dc17 pm17 an17 cd17 ct17), sl17⟩) (c17 : PySem.W.codeIn K cd17 "reach" = true) (k17 : PySem.W.keepIn K (.ref f17) = true)
    (a18 : PySem.W.nsIn K mainGlobals "asked_rooms" = some (some (.ref f18))) (l18 : K.lookup f18 = some ⟨oc18, od18, .func (PySem.W.fnOf "asked_rooms" "asked_rooms" (defArgs s_asked_rooms) (defBody s_asked_rooms) (defScope s_asked_rooms) .none kV18 dc18 pm18 an18 cd18 ct18), sl18⟩) (c18 : PySem.W.codeIn K cd18 "asked_rooms" = true) (k18 : PySem.W.keepIn K (.ref f18) = true)
    (a19 : PySem.W.nsIn K mainGlobals "rooms_of" = some (some (.ref f19))) (l19 : K.lookup f19 = some ⟨oc19, od19, .func (PySem.W.fnOf "rooms_of" "rooms_of" (defArgs s_rooms_of) (defBody s_rooms_of) (defScope s_rooms_of) .none kV19 dc19 pm19 an19 cd19 ct19), sl19⟩) (c19 : PySem.W.codeIn K cd19 "rooms_of" = true) (k19 : PySem.W.keepIn K (.ref f19) = true)
    (a20 : PySem.W.nsIn K mainGlobals "_law_pool" = some (some (.ref f20))) (l20 : K.lookup f20 = some ⟨oc20, od20, .func (PySem.W.fnOf "_law_pool" "_law_pool" (defArgs s_law_pool) (defBody s_law_pool) (defScope s_law_pool) .none kV20 dc20 pm20 an20 cd20 ct20), sl20⟩) (c20 : PySem.W.codeIn K cd20 "_law_pool" = true) (k20 : PySem.W.keepIn K (.ref f20) = true)
    (a21 : PySem.W.nsIn K mainGlobals "_law_take" = some (some (.ref f21))) (l21 : K.lookup f21 = some ⟨oc21, od21, .func (PySem.W.fnOf "_law_take" "_law_take" (defArgs s_law_take) (defBody s_law_take) (defScope s_law_take) .none kV21 dc21 pm21 an21 cd21 ct21), sl21⟩) (c21 : PySem.W.codeIn K cd21 "_law_take" = true) (k21 : PySem.W.keepIn K (.ref f21) = true)
    (a22 : PySem.W.nsIn K mainGlobals "_law_picked" = some (some (.ref f22))) (l22 : K.lookup f22 = some ⟨oc22, od22, .func (PySem.W.fnOf "_law_picked" "_law_picked" (defArgs s_law_picked) (defBody s_law_picked) (defScope s_law_picked) .none kV22 dc22 pm22 an22 cd22 ct22), sl22⟩) (c22 : PySem.W.codeIn K cd22 "_law_picked" = true) (k22 : PySem.W.keepIn K (.ref f22) = true)
    (a23 : PySem.W.nsIn K mainGlobals "_law_names" = some (some (.ref f23))) (l23 : K.lookup f23 = some ⟨oc23, od23, .func (PySem.W.fnOf "_law_names" "_law_names" (defArgs s_law_names) (defBody s_law_names) (defScope s_law_names) .none kV23 dc23 pm23 an23 cd23 ct23), sl23⟩) (c23 : PySem.W.codeIn K cd23 "_law_names" = true) (k23 : PySem.W.keepIn K (.ref f23) = true)
    (a24 : PySem.W.nsIn K mainGlobals "_law_term" = some (some (.ref f24))) (l24 : K.lookup f24 = some ⟨oc24, od24, .func (PySem.W.fnOf "_law_term" "_law_term" (defArgs s_law_term) (defBody s_law_term) (defScope s_law_term) .none kV24 dc24 pm24 an24 cd24 ct24), sl24⟩) (c24 : PySem.W.codeIn K cd24 "_law_term" = true) (k24 : PySem.W.keepIn K (.ref f24) = true)
    (a25 : PySem.W.nsIn K mainGlobals "_law_program" = some (some (.ref f25))) (l25 : K.lookup f25 = some ⟨oc25, od25, .func (PySem.W.fnOf "_law_program" "_law_program" (defArgs s_law_program) (defBody s_law_program) (defScope s_law_program) .none kV25 dc25 pm25 an25 cd25 ct25), sl25⟩) (c25 : PySem.W.codeIn K cd25 "_law_program" = true) (k25 : PySem.W.keepIn K (.ref f25) = true)
    (a26 : PySem.W.nsIn K mainGlobals "_law_called" = some (some (.ref f26))) (l26 : K.lookup f26 = some ⟨oc26, od26, .func (PySem.W.fnOf "_law_called" "_law_called" (defArgs s_law_called) (defBody s_law_called) (defScope s_law_called) .none kV26 dc26 pm26 an26 cd26 ct26), sl26⟩) (c26 : PySem.W.codeIn K cd26 "_law_called" = true) (k26 : PySem.W.keepIn K (.ref f26) = true)
    (a27 : PySem.W.nsIn K mainGlobals "_law_opened" = some (some (.ref f27))) (l27 : K.lookup f27 = some ⟨oc27, od27, .func (PySem.W.fnOf "_law_opened" "_law_opened" (defArgs s_law_opened) (defBody s_law_opened) (defScope s_law_opened) .none kV27 dc27 pm27 an27 cd27 ct27), sl27⟩) (c27 : PySem.W.codeIn K cd27 "_law_opened" = true) (k27 : PySem.W.keepIn K (.ref f27) = true)
    (a28 : PySem.W.nsIn K mainGlobals "_law_deep_by" = some (some (.ref f28))) (l28 : K.lookup f28 = some ⟨oc28, od28, .func (PySem.W.fnOf "_law_deep_by" "_law_deep_by" (defArgs s_law_deep_by) (defBody s_law_deep_by) (defScope s_law_deep_by) .none kV28 dc28 pm28 an28 cd28 ct28), sl28⟩) (c28 : PySem.W.codeIn K cd28 "_law_deep_by" = true) (k28 : PySem.W.keepIn K (.ref f28) = true)
    (a29 : PySem.W.nsIn K mainGlobals "_law_deep" = some (some (.ref f29))) (l29 : K.lookup f29 = some ⟨oc29, od29, .func (PySem.W.fnOf "_law_deep" "_law_deep" (defArgs s_law_deep) (defBody s_law_deep) (defScope s_law_deep) .none kV29 dc29 pm29 an29 cd29 ct29), sl29⟩) (c29 : PySem.W.codeIn K cd29 "_law_deep" = true) (k29 : PySem.W.keepIn K (.ref f29) = true)
    (a30 : PySem.W.nsIn K mainGlobals "_law_numbers" = some (some (.ref f30))) (l30 : K.lookup f30 = some ⟨oc30, od30, .func (PySem.W.fnOf "_law_numbers" "_law_numbers" (defArgs s_law_numbers) (defBody s_law_numbers) (defScope s_law_numbers) .none kV30 dc30 pm30 an30 cd30 ct30), sl30⟩) (c30 : PySem.W.codeIn K cd30 "_law_numbers" = true) (k30 : PySem.W.keepIn K (.ref f30) = true)
    (a31 : PySem.W.nsIn K mainGlobals "law" = some (some (.ref f31))) (l31 : K.lookup f31 = some ⟨oc31, od31, .func (PySem.W.fnOf "law" "law" (defArgs s_law) (defBody s_law) (defScope s_law) .none kV31 dc31 pm31 an31 cd31 ct31), sl31⟩) (c31 : PySem.W.codeIn K cd31 "law" = true) (k31 : PySem.W.keepIn K (.ref f31) = true)
    (m1 : PySem.W.nsIn K mainGlobals "LAST_ROOM" = some (some (.int 99 g1)))
    (m2 : PySem.W.nsIn K mainGlobals "LONGEST_NAME" = some (some (.int 6 g2)))
    (m3 : PySem.W.nsIn K mainGlobals "MOST_TUPLES" = some (some (.int 8 g3)))
    (m4 : PySem.W.nsIn K mainGlobals "DEEPEST" = some (some (.int 6 g4)))
    (m5 : PySem.W.nsIn K mainGlobals "MOST_ROUNDS" = some (some (.int 12 g5)))
    (eg1 : PySem.W.nsIn K mainGlobals "NoProgram" = some (some (.ref C1)))
    (ek1 : PySem.W.keepIn K (.ref C1) = true)
    (ex1 : PySem.W.subIn K (.ref C1) (.type "BaseException") = some true)
    (et1 : PySem.W.typeIn K (.ref C1) = some (.type "type"))
    (ec1 : PySem.W.clsIn K C1 = some cdC1)
    (ga1 : PySem.W.findIn K (.ref C1) "__getattribute__" = some (some (.builtin "BaseException.__getattribute__")))
    (gg1 : PySem.W.findIn K (.ref C1) "__getattr__" = some none)
    (gc1 : PySem.W.findIn K (.ref C1) "__class__" = some (some (.builtin "object.__class__")))
    (mo1 : PySem.W.mroIn K C1 (.type "object") = some true)
    (ed1 : PySem.W.hasDictIn K C1 = true)
    (ei1 : PySem.W.excInitIn K C1 [.type "ValueError", .type "Exception", .type "BaseException", .type "object"] "ValueError.__new__" = true)
    (eo1 : PySem.W.excOver K C1 [.type "ValueError", .type "Exception", .type "BaseException", .type "object"] = true)
    (es1 : PySem.W.findIn K (.ref C1) "__setattr__" = some (some (.builtin "object.__setattr__")))
    (en1 : PySem.W.findIn K (.ref C1) "number" = some none)
    (ef1 : PySem.W.findIn K (.ref C1) "__init__" = some (some (.ref fI1)))
    (eh1 : PySem.W.isFn K (.ref fI1) = true)
    (ev1 : PySem.W.subIn K (.ref C1) (.type "ValueError") = some true)
    (eu1 : PySem.W.ks_superIn K C1 C1 "__init__" = some (some (.builtin "ValueError.__init__")))
    (em1 : PySem.W.mroIn K C1 (.ref C1) = some true)
    (el1 : K.lookup fI1 = some ⟨oc_1, od_1, .func (PySem.W.ksFn "__init__" q_1 (XC.inA "number" p1_1 p2_1) (XC.inB "number" t_1 r1_1 r2_1 r3_1 r4_1 r5_1 r6_1 q1_1 q2_1 q3_1 q4_1) (XC.inS "number") .none .none doc_1 pm_1 an_1 (.ref cda1) ct_1 cc1), osl1⟩)
    (eq1 : PySem.W.codeIn K (.ref cda1) q_1 = true)
    (ew1 : K.lookup cda1 = some ⟨ccl1, cdd1, .fields vs1, ccs1⟩)
    (ey1 : vs1[2]? = some (.str file1 tf1))
    (ez1 : ((l.prog.main.file : Str) == file1) = true)
    (ea1 : (r3_1.endLine == r5_1.line) = true)
    (eb1 : K.lookup cc1 = some ⟨cl_1, cld1, .cell (some (.ref C1)), csl1⟩)
    (nsG : PySem.W.nsIn K mainGlobals "super" = some none)
    (opG : PySem.W.nsIn K cStatics "thirdparty.any" = some none)
    (ntG : (l.prog.main.scope.names.lookup ("super" : Str)).isSome = false)
    (mS : PySem.W.nsIn K mainGlobals "SMALL_LETTERS" = some (some (.str lett tS)))
    (z1 : PySem.W.nsIn K mainGlobals "len" = some none) (z2 : PySem.W.nsIn K mainGlobals "sum" = some none) (z3 : PySem.W.nsIn K mainGlobals "abs" = some none) (z4 : PySem.W.nsIn K mainGlobals "int" = some none) (z5 : PySem.W.nsIn K mainGlobals "min" = some none) (z6 : PySem.W.nsIn K mainGlobals "max" = some none) (z7 : PySem.W.nsIn K mainGlobals "range" = some none) (z8 : PySem.W.nsIn K mainGlobals "sorted" = some none) (z9 : PySem.W.nsIn K mainGlobals "list" = some none) (z10 : PySem.W.nsIn K mainGlobals "tuple" = some none) (z11 : PySem.W.nsIn K mainGlobals "repr" = some none) (z12 : PySem.W.nsIn K mainGlobals "set" = some none) (z13 : PySem.W.nsIn K mainGlobals "all" = some none) (z14 : PySem.W.nsIn K mainGlobals "isinstance" = some none) (z15 : PySem.W.nsIn K mainGlobals "str" = some none) (z16 : PySem.W.nsIn K mainGlobals "bool" = some none) (z17 : PySem.W.nsIn K mainGlobals "reversed" = some none) (z18 : PySem.W.nsIn K mainGlobals "enumerate" = some none) (z19 : PySem.W.nsIn K mainGlobals "zip" = some none) (z20 : PySem.W.nsIn K mainGlobals "any" = some none) (z21 : PySem.W.nsIn K mainGlobals "dict" = some none) :
    ∃ fd : FuncData, (∀ (s : Shared) (v : Value), BindsTo s fd ⟨[v], []⟩ [("_law_script", v)]) ∧ ∀ base : Heap, K.In base → base.Ns mainGlobals mg → FnG l.prog w K mg base CX0 33 fa fd ["_law_script"] (spLaw K) := by
  have e := hfa.symm.trans (PySem.W.mg_of X G a31)
  cases e
  have B : Bt mg := ⟨PySem.W.mg_none_of X G z1, PySem.W.mg_none_of X G z2, PySem.W.mg_none_of X G z3, PySem.W.mg_none_of X G z4, PySem.W.mg_none_of X G z5, PySem.W.mg_none_of X G z6, PySem.W.mg_none_of X G z7, PySem.W.mg_none_of X G z8, PySem.W.mg_none_of X G z9, PySem.W.mg_none_of X G z10, PySem.W.mg_none_of X G z11, PySem.W.mg_none_of X G z12, PySem.W.mg_none_of X G z13, PySem.W.mg_none_of X G z14, PySem.W.mg_none_of X G z15, PySem.W.mg_none_of X G z16, PySem.W.mg_none_of X G z17, PySem.W.mg_none_of X G z18, PySem.W.mg_none_of X G z19, PySem.W.mg_none_of X G z20, PySem.W.mg_none_of X G z21⟩
  have F1 := fun_mk (st := s_is_whole) l1 c1 k1
  have b1 := F1.binds (ps := ["thing"]) fun _ _ _ _ _ _ us hl => match us, hl with | [_], _ => rfl
  have T1 := at_mk X G a1 F1 b1
  have F2 := fun_mk (st := s_is_room) l2 c2 k2
  have b2 := F2.binds (ps := ["thing"]) fun _ _ _ _ _ _ us hl => match us, hl with | [_], _ => rfl
  have T2 := at_mk X G a2 F2 b2
  have F3 := fun_mk (st := s_are_rising) l3 c3 k3
  have b3 := F3.binds (ps := ["numbers"]) fun _ _ _ _ _ _ us hl => match us, hl with | [_], _ => rfl
  have T3 := at_mk X G a3 F3 b3
  have F4 := fun_mk (st := s_are_rooms) l4 c4 k4
  have b4 := F4.binds (ps := ["thing", "least", "most"]) fun _ _ _ _ _ _ us hl => match us, hl with | [_, _, _], _ => rfl
  have T4 := at_mk X G a4 F4 b4
  have F5 := fun_mk (st := s_are_letters) l5 c5 k5
  have b5 := F5.binds (ps := ["thing", "most"]) fun _ _ _ _ _ _ us hl => match us, hl with | [_, _], _ => rfl
  have T5 := at_mk X G a5 F5 b5
  have F6 := fun_mk (st := s_is_name) l6 c6 k6
  have b6 := F6.binds (ps := ["thing"]) fun _ _ _ _ _ _ us hl => match us, hl with | [_], _ => rfl
  have T6 := at_mk X G a6 F6 b6
  have F7 := fun_mk (st := s_are_times) l7 c7 k7
  have b7 := F7.binds (ps := ["least", "most"]) fun _ _ _ _ _ _ us hl => match us, hl with | [_, _], _ => rfl
  have T7 := at_mk X G a7 F7 b7
  have F8 := fun_mk (st := s_are_terms) l8 c8 k8
  have b8 := F8.binds (ps := ["thing", "least", "most", "deep"]) fun _ _ _ _ _ _ us hl => match us, hl with | [_, _, _, _], _ => rfl
  have T8 := at_mk X G a8 F8 b8
  have F9 := fun_mk (st := s_is_term) l9 c9 k9
  have b9 := F9.binds (ps := ["thing", "deep"]) fun _ _ _ _ _ _ us hl => match us, hl with | [_, _], _ => rfl
  have T9 := at_mk X G a9 F9 b9
  have F10 := fun_mk (st := s_is_named_term) l10 c10 k10
  have b10 := F10.binds (ps := ["thing"]) fun _ _ _ _ _ _ us hl => match us, hl with | [_], _ => rfl
  have T10 := at_mk X G a10 F10 b10
  have F11 := fun_mk (st := s_terms_within) l11 c11 k11
  have b11 := F11.binds (ps := ["term"]) fun _ _ _ _ _ _ us hl => match us, hl with | [_], _ => rfl
  have T11 := at_mk X G a11 F11 b11
  have F12 := fun_mk (st := s_calls_only) l12 c12 k12
  have b12 := F12.binds (ps := ["term", "names"]) fun _ _ _ _ _ _ us hl => match us, hl with | [_, _], _ => rfl
  have T12 := at_mk X G a12 F12 b12
  have F13 := fun_mk (st := s_names_behind) l13 c13 k13
  have b13 := F13.binds (ps := ["things", "number"]) fun _ _ _ _ _ _ us hl => match us, hl with | [_, _], _ => rfl
  have T13 := at_mk X G a13 F13 b13
  have F14 := fun_mk (st := s_look_at_program) l14 c14 k14
  have b14 := F14.binds (ps := ["thing"]) fun _ _ _ _ _ _ us hl => match us, hl with | [_], _ => rfl
  have T14 := at_mk X G a14 F14 b14
  have F15 := fun_mk (st := s_reach_of) l15 c15 k15
  have b15 := F15.binds (ps := ["term", "reaches"]) fun _ _ _ _ _ _ us hl => match us, hl with | [_, _], _ => rfl
  have T15 := at_mk X G a15 F15 b15
  have F16 := fun_mk (st := s_reaches_of) l16 c16 k16
  have b16 := F16.binds (ps := ["program"]) fun _ _ _ _ _ _ us hl => match us, hl with | [_], _ => rfl
  have T16 := at_mk X G a16 F16 b16
  have F17 := fun_mk (st := s_reach) l17 c17 k17
  have b17 := F17.binds (ps := ["program"]) fun _ _ _ _ _ _ us hl => match us, hl with | [_], _ => rfl
  have T17 := at_mk X G a17 F17 b17
  have F18 := fun_mk (st := s_asked_rooms) l18 c18 k18
  have b18 := F18.binds (ps := ["term"]) fun _ _ _ _ _ _ us hl => match us, hl with | [_], _ => rfl
  have T18 := at_mk X G a18 F18 b18
  have F19 := fun_mk (st := s_rooms_of) l19 c19 k19
  have b19 := F19.binds (ps := ["program"]) fun _ _ _ _ _ _ us hl => match us, hl with | [_], _ => rfl
  have T19 := at_mk X G a19 F19 b19
  have F20 := fun_mk (st := s_law_pool) l20 c20 k20
  have b20 := F20.binds (ps := ["_law_script", "_law_k"]) fun _ _ _ _ _ _ us hl => match us, hl with | [_, _], _ => rfl
  have T20 := at_mk X G a20 F20 b20
  have F21 := fun_mk (st := s_law_take) l21 c21 k21
  have b21 := F21.binds (ps := ["_law_pool_here", "_law_many"]) fun _ _ _ _ _ _ us hl => match us, hl with | [_, _], _ => rfl
  have T21 := at_mk X G a21 F21 b21
  have F22 := fun_mk (st := s_law_picked) l22 c22 k22
  have b22 := F22.binds (ps := ["_law_pool_here", "_law_some", "_law_many"]) fun _ _ _ _ _ _ us hl => match us, hl with | [_, _, _], _ => rfl
  have T22 := at_mk X G a22 F22 b22
  have F23 := fun_mk (st := s_law_names) l23 c23 k23
  have b23 := F23.binds (ps := ["_law_pool_here", "_law_many"]) fun _ _ _ _ _ _ us hl => match us, hl with | [_, _], _ => rfl
  have T23 := at_mk X G a23 F23 b23
  have F24 := fun_mk (st := s_law_term) l24 c24 k24
  have b24 := F24.binds (ps := ["_law_pool_here", "_law_deep_here", "_law_names_here", "_law_some"]) fun _ _ _ _ _ _ us hl => match us, hl with | [_, _, _, _], _ => rfl
  have T24 := at_mk X G a24 F24 b24
  have F25 := fun_mk (st := s_law_program) l25 c25 k25
  have b25 := F25.binds (ps := ["_law_pool_here", "_law_most", "_law_deep_here", "_law_some"]) fun _ _ _ _ _ _ us hl => match us, hl with | [_, _, _, _], _ => rfl
  have T25 := at_mk X G a25 F25 b25
  have F26 := fun_mk (st := s_law_called) l26 c26 k26
  have b26 := F26.binds (ps := ["_law_term_here", "_law_names_here"]) fun _ _ _ _ _ _ us hl => match us, hl with | [_, _], _ => rfl
  have T26 := at_mk X G a26 F26 b26
  have F27 := fun_mk (st := s_law_opened) l27 c27 k27
  have b27 := F27.binds (ps := ["_law_term_here", "_law_terms"]) fun _ _ _ _ _ _ us hl => match us, hl with | [_, _], _ => rfl
  have T27 := at_mk X G a27 F27 b27
  have F28 := fun_mk (st := s_law_deep_by) l28 c28 k28
  have b28 := F28.binds (ps := ["_law_term_here", "_law_depths"]) fun _ _ _ _ _ _ us hl => match us, hl with | [_, _], _ => rfl
  have T28 := at_mk X G a28 F28 b28
  have F29 := fun_mk (st := s_law_deep) l29 c29 k29
  have b29 := F29.binds (ps := ["_law_term_here", "_law_program_here"]) fun _ _ _ _ _ _ us hl => match us, hl with | [_, _], _ => rfl
  have T29 := at_mk X G a29 F29 b29
  have F30 := fun_mk (st := s_law_numbers) l30 c30 k30
  have b30 := F30.binds (ps := ["_law_program_here"]) fun _ _ _ _ _ _ us hl => match us, hl with | [_], _ => rfl
  have T30 := at_mk X G a30 F30 b30
  have F31 := fun_mk (st := s_law) l31 c31 k31
  refine ⟨PySem.W.fnOf "law" "law" (defArgs s_law) (defBody s_law) (defScope s_law) .none kV31 dc31 pm31 an31 cd31 ct31, fun s v => .of_eq rfl, fun base _ _ => ?_⟩
  have O1 : XC.Own l.prog K mg "NoProgram" "number" C1 fI1 "ValueError" "ValueError.__new__" "ValueError.__init__" [.type "ValueError", .type "Exception", .type "BaseException", .type "object"] := ⟨XC.fld_number, PySem.W.mg_of X G eg1, ei1, eo1, PySem.F.excBase_ValueError, PySem.F.store_ValueError, PySem.W.kxs_ValueError, es1, en1, ef1, eh1, ek1, ex1, et1, ed1, ev1, eu1, em1, PySem.W.mg_none_of X G nsG, opG, ntG, _, _, _, _, _, _, _, _, _, _, _, _, _, _, _, _, _, _, _, _, _, _, _, _, _, _, _, _, _, _, _, _, el1, eq1, ew1, ey1, ez1, ea1, eb1⟩
  have D : GbP mg := ⟨⟨_, PySem.W.mg_of X G mS⟩, ⟨_, PySem.W.mg_of X G m2⟩, ⟨_, PySem.W.mg_of X G m3⟩, ⟨_, PySem.W.mg_of X G m4⟩, ⟨_, PySem.W.mg_of X G m5⟩⟩
  have v1 := ok_whole (P := l.prog) (w := w) (base := base) T1 B
  have v2 := ok_room (P := l.prog) (w := w) (base := base) T2 ⟨_, PySem.W.mg_of X G m1⟩ v1
  have v3 := ok_rising (P := l.prog) (w := w) (base := base) T3 B
  have v4 := ok_rooms (P := l.prog) (w := w) (base := base) T4 B v2 v3
  have v5 := ok_name (P := l.prog) (w := w) (base := base) T6 D (ok_letters T5 B D)
  have v6 := ok_times (P := l.prog) (w := w) (base := base) T7 D v1
  have v7 := ok_is_term (P := l.prog) (w := w) (base := base) T9 T8 B v6 v5 v4 6
  have v8 := ok_named (P := l.prog) (w := w) (base := base) T10 B D v5 v7
  have v9 := ok_calls (P := l.prog) (w := w) (base := base) T12 B (ok_withinG T11) 6
  have va := ok_lookP (P := l.prog) (w := w) (base := base) O1 T14 B D v8 v9 (ok_behind T13 B v5)
  have w0 := ok_within (P := l.prog) (w := w) (base := base) T11
  have w1 := ok_reach_of (P := l.prog) (w := w) (base := base) T15 B w0 6
  have w2 := ok_reach (P := l.prog) (w := w) (base := base) T17 B (ok_reaches_of T16 B w1)
  have w3 := ok_rooms_of (P := l.prog) (w := w) (base := base) T19 B (ok_asked_rooms T18 B w0 6 (by decide))
  have t1 := ok_take (P := l.prog) (w := w) (base := base) T21
  have t2 := ok_picked (P := l.prog) (w := w) (base := base) T22 B t1
  have u8 := ok_program (P := l.prog) (w := w) (base := base) T25 B t1 (ok_names T23 B t1) (ok_term T24 B t1 t2)
  exact ok_law F31 B ⟨t1, t2, ok_pool T20 B, u8, ok_numbers T30 B va w2 w3, ok_called T26 B 6, ok_opened T27 B 30, ok_deep T29 B (ok_deepby T28 B 6)⟩
end Su
open PySem PySem.W PyProof.Rows
set_option maxRecDepth 100000 in
set_option maxHeartbeats 0 in
theorem PySem.Challenge.cw_surehand_k10_whole_terms_in_terms_holds : PySem.Challenge.rw_surehand_k10_whole_terms_in_terms.Holds := by
  w_on; o_law; k_head; (case hw => w_witness2)
  k_fill
  refine Su.walk_ofG (l := PySem.Challenge.rw_surehand_k10_whole_terms_in_terms) (n := 63) (k := 33) (x := "_law_script") (CX := L2.CX0) (sp := Su.spLaw) rfl (by decide) rfl ⟨rfl, by decide, by decide⟩ (fun w h Y => PySem.W.kIn_of Y) ?F (fun _ _ a ns hl hS => ⟨a, ns, rfl, hS, hl, fun _ => rfl⟩) (fun _ _ _ _ h => h)
  case F =>
    intro w mg fa h KX G hmg
    refine' Su.all_mk KX G hmg ?a1 ?l1 ?c1 ?k1 ?a2 ?l2 ?c2 ?k2 ?a3 ?l3 ?c3 ?k3 ?a4 ?l4 ?c4 ?k4 ?a5 ?l5 ?c5 ?k5 ?a6 ?l6 ?c6 ?k6 ?a7 ?l7 ?c7 ?k7 ?a8 ?l8 ?c8 ?k8 ?a9 ?l9 ?c9 ?k9 ?a10 ?l10 ?c10 ?k10 ?a11 ?l11 ?c11 ?k11 ?a12 ?l12 ?c12 ?k12 ?a13 ?l13 ?c13 ?k13 ?a14 ?l14 ?c14 ?k14 ?a15 ?l15 ?c15 ?k15 ?a16 ?l16 ?c16 ?k16 ?a17 ?l17 ?c17 ?k17 ?a18 ?l18 ?c18 ?k18 ?a19 ?l19 ?c19 ?k19 ?a20 ?l20 ?c20 ?k20 ?a21 ?l21 ?c21 ?k21 ?a22 ?l22 ?c22 ?k22 ?a23 ?l23 ?c23 ?k23 ?a24 ?l24 ?c24 ?k24 ?a25 ?l25 ?c25 ?k25 ?a26 ?l26 ?c26 ?k26 ?a27 ?l27 ?c27 ?k27 ?a28 ?l28 ?c28 ?k28 ?a29 ?l29 ?c29 ?k29 ?a30 ?l30 ?c30 ?k30 ?a31 ?l31 ?c31 ?k31 ?m1 ?m2 ?m3 ?m4 ?m5 ?eg1 ?ek1 ?ex1 ?et1 ?ec1 ?ga1 ?gg1 ?gc1 ?mo1 ?ed1 ?ei1 ?eo1 ?es1 ?en1 ?ef1 ?eh1 ?ev1 ?eu1 ?em1 ?el1 ?eq1 ?ew1 ?ey1 ?ez1 ?ea1 ?eb1 ?nsG ?opG ?ntG ?mS ?z1 ?z2 ?z3 ?z4 ?z5 ?z6 ?z7 ?z8 ?z9 ?z10 ?z11 ?z12 ?z13 ?z14 ?z15 ?z16 ?z17 ?z18 ?z19 ?z20 ?z21
    (case a1 => k_is); (case l1 => k_is); (case c1 => k_is); (case k1 => k_is); (case a2 => k_is); (case l2 => k_is)
    (case c2 => k_is); (case k2 => k_is); (case a3 => k_is); (case l3 => k_is); (case c3 => k_is); (case k3 => k_is)
    (case a4 => k_is); (case l4 => k_is); (case c4 => k_is); (case k4 => k_is); (case a5 => k_is); (case l5 => k_is)
    (case c5 => k_is); (case k5 => k_is); (case a6 => k_is); (case l6 => k_is); (case c6 => k_is); (case k6 => k_is)
    (case a7 => k_is); (case l7 => k_is); (case c7 => k_is); (case k7 => k_is); (case a8 => k_is); (case l8 => k_is)
    (case c8 => k_is); (case k8 => k_is); (case a9 => k_is); (case l9 => k_is); (case c9 => k_is); (case k9 => k_is)
    (case a10 => k_is); (case l10 => k_is); (case c10 => k_is); (case k10 => k_is); (case a11 => k_is); (case l11 => k_is)
    (case c11 => k_is); (case k11 => k_is); (case a12 => k_is); (case l12 => k_is); (case c12 => k_is); (case k12 => k_is)
    (case a13 => k_is); (case l13 => k_is); (case c13 => k_is); (case k13 => k_is); (case a14 => k_is); (case l14 => k_is)
    (case c14 => k_is); (case k14 => k_is); (case a15 => k_is); (case l15 => k_is); (case c15 => k_is); (case k15 => k_is)
    (case a16 => k_is); (case l16 => k_is); (case c16 => k_is); (case k16 => k_is); (case a17 => k_is); (case l17 => k_is)
    (case c17 => k_is); (case k17 => k_is); (case a18 => k_is); (case l18 => k_is); (case c18 => k_is); (case k18 => k_is)
    (case a19 => k_is); (case l19 => k_is); (case c19 => k_is); (case k19 => k_is); (case a20 => k_is); (case l20 => k_is)
    (case c20 => k_is); (case k20 => k_is); (case a21 => k_is); (case l21 => k_is); (case c21 => k_is); (case k21 => k_is)
    (case a22 => k_is); (case l22 => k_is); (case c22 => k_is); (case k22 => k_is); (case a23 => k_is); (case l23 => k_is)
    (case c23 => k_is); (case k23 => k_is); (case a24 => k_is); (case l24 => k_is); (case c24 => k_is); (case k24 => k_is)
    (case a25 => k_is); (case l25 => k_is); (case c25 => k_is); (case k25 => k_is); (case a26 => k_is); (case l26 => k_is)
    (case c26 => k_is); (case k26 => k_is); (case a27 => k_is); (case l27 => k_is); (case c27 => k_is); (case k27 => k_is)
    (case a28 => k_is); (case l28 => k_is); (case c28 => k_is); (case k28 => k_is); (case a29 => k_is); (case l29 => k_is)
    (case c29 => k_is); (case k29 => k_is); (case a30 => k_is); (case l30 => k_is); (case c30 => k_is); (case k30 => k_is)
    (case a31 => k_is); (case l31 => k_is); (case c31 => k_is); (case k31 => k_is); (case m1 => k_is); (case m2 => k_is)
    (case m3 => k_is); (case m4 => k_is); (case m5 => k_is); (case eg1 => k_is); (case ek1 => k_is); (case ex1 => k_is)
    (case et1 => k_is); (case ec1 => k_is); (case ga1 => k_is); (case gg1 => k_is); (case gc1 => k_is); (case mo1 => k_is)
    (case ed1 => k_is); (case ei1 => kx_is); (case eo1 => kx_is); (case es1 => k_is); (case en1 => k_is); (case ef1 => k_is)
    (case eh1 => k_is); (case ev1 => k_is); (case eu1 => ks_is); (case em1 => k_is); (case el1 => k_is); (case eq1 => k_is)
    (case ew1 => k_is); (case ey1 => rfl); (case ez1 => first | rfl | decide +kernel); (case ea1 => first | rfl | decide +kernel); (case eb1 => k_is); (case nsG => k_is)
    (case opG => k_is); (case ntG => first | rfl | decide +kernel); (case mS => k_is); (case z1 => k_is); (case z2 => k_is); (case z3 => k_is)
    (case z4 => k_is); (case z5 => k_is); (case z6 => k_is); (case z7 => k_is); (case z8 => k_is); (case z9 => k_is)
    (case z10 => k_is); (case z11 => k_is); (case z12 => k_is); (case z13 => k_is); (case z14 => k_is); (case z15 => k_is)
    (case z16 => k_is); (case z17 => k_is); (case z18 => k_is); (case z19 => k_is); (case z20 => k_is); (case z21 => k_is)

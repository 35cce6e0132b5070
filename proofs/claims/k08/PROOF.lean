import PyProof.Rows.All
import Wide.All
import OpenK.AllK
import Wide.FinOn
import HandS.ForMost
import HandS.SortInts
import HandS.TupAny
import HandS.Conv
import KE.KIndexOf
import PyProof.ReprRoads
import PyProof.ReprLen
import HandS.IsInst
import HandS.Strs
import HandS.Rev
import HandS.Style
import HandS.TupLe
import HandS.Zip
import HandS.Comp
import HandS.SetBool
import HandS.SetFor
import HandS.TupMul
import HandS.More
import HandS.ForExc
import HandS.ExcInit
import HandS.ExcValue
import KE.KExcSuper
import KE.KExcIs
import KE.KIsAll
import HandS.Exc
import KE.KExcInit
import KE.KSuper
import HandS.WordsExc
import HandS.ExcOwn
import PyProof.CallFns
import PyProof.WalksMore
import HandS.Text
import PyProof.StrOps2
import HandS.TryOnly
import HandS.Codes
import HandS.Deep
import HandS.Dict
import HandS.Flow
import KE.KExcLine
import KE.RegKTryMore
import PyProof.ExcBaseAll.ValueError
import PyProof.InstStoreFacts
import PySem.Challenge.RW_surehand_k08_programs_looked_at
set_option Elab.async false
set_option linter.all false
set_option maxRecDepth 100000
set_option maxHeartbeats 4000000
/-! ### B0: what every law's text uses: a def by its name, calls, the end where nothing is being written out -/
namespace Su
open PySem PySem.Spec PyProof.Rows L2
/-- a def of the text stands under its name -/
structure At (K : PySem.W.Frag) (mg : Str → Option Value) (x : Str) (st : Stmt) (ps : List Str) : Prop where
  ex : ∃ (f : Addr) (fd : FuncData), Fun K x x st f fd ∧ mg x = some (.ref f) ∧ Binds K fd ps []
/-- a def that keeps a promise may be called by its name -/
structure Cal (P : Program) (w : World) (K : PySem.W.Frag) (mg : Str → Option Value) (base : Heap) (k : Nat) (x : Str) (ps : List Str) (sp : Sp) : Prop where
  ex : ∃ (f : Addr) (fd : FuncData), FnOk P w K mg base CX0 k f fd ps sp ∧ mg x = some (.ref f) ∧ PySem.W.keepIn K (.ref f) = true ∧ Binds K fd ps [] ∧ ∃ o : Obj, K.lookup f = some o ∧ o.data = .func fd
section
variable {P : Program} {w : World} {K : PySem.W.Frag} {mg : Str → Option Value} {base : Heap}
theorem cal_of {x : Str} {st : Stmt} {N ps : List Str} {k : Nat} {sp : Sp} (T : At K mg x st ps) (S : FnScope N ps (defScope st)) (len : ∀ vs H Q E, sp vs H Q E → vs.length = ps.length)
    (hb : ∀ (f : Addr) (cdv : Value) (A : Around) (outer : List Env) (s : Shared) (H : Hp) (vs : List V) (Q : VK) (E : XK), Room k (A.deeper (envOfC x (defScope st) s.heap.objs.size f cdv)) → sp vs H Q E →
      ∃ t, PSs (cxOf CX0 P w K mg base N x (defScope st) f cdv A outer s H E).nox (defBody st) t ∧ t { nx := fun _ H' => Q .non H', rt := Q } (start N vs) H) : Cal P w K mg base (k + 1) x ps sp := by
  obtain ⟨f, fd, F, hm, b⟩ := T.ex
  have z : ∃ o : Obj, K.lookup f = some o ∧ o.data = .func fd := by
    obtain ⟨oc, od, kV, doc, pm, an, cdv, ct, osl, _, lk, _⟩ := F.ex
    exact ⟨_, lk, rfl⟩
  exact ⟨f, fd, F.ok S len (fun cdv A outer s H vs Q E => hb f cdv A outer s H vs Q E), hm, F.kp, b, z⟩
end
section
variable {X : Cx} {k j : Nat} {x : Str} {ps : List Str} {sp : Sp} {p pos : Pos} {e : Expr} {es : List Expr} {t : TA}
theorem pe_own (C : Cal X.prog X.w X.K X.mg X.base k x ps sp) (hr : Room j X.A) (hk : k ≤ j) (hg : Gl X x) (ha : PA X (e :: es) t)
    (hdb : (x == ("__debug__" : Str)) = false := by decide) (he : starEach (e :: es) X.env = (false, eval e X.env) :: starEach es X.env := by rfl) (hpl : (backTo pos (starEach es X.env)).any (·.1) = false := by rfl) :
    PE X (.Call (.Name x p) (e :: es) [] pos) (tCall sp [] E0 t) := by
  obtain ⟨f, fd, F, hm, kp, b, _⟩ := C.ex
  exact pe_call F (hr.mono hk) hg hm kp b .nil (fun _ _ _ _ _ _ _ h => h.elim) ha hdb he hpl
theorem pe_own0 (C : Cal X.prog X.w X.K X.mg X.base k x ps sp) (hr : Room j X.A) (hk : k ≤ j) (hg : Gl X x) (hdb : (x == ("__debug__" : Str)) = false := by decide) :
    PE X (.Call (.Name x p) [] [] pos) (tCall sp [] E0 tNil) := by
  obtain ⟨f, fd, F, hm, kp, b, _⟩ := C.ex
  exact pe_call0 F (hr.mono hk) hg hm kp b .nil (fun _ _ _ _ _ _ _ h => h.elim) hdb
end
/-- the same promise, asked only where no object is being written out -/
structure FnG (P : Program) (w : World) (K : PySem.W.Frag) (mg : Str → Option Value) (base : Heap) (CX : CXT) (k : Nat) (f : Addr) (fd : FuncData) (ps : List Str) (sp : Sp) : Prop where
  len : ∀ vs H Q E, sp vs H Q E → vs.length = ps.length
  run : ∀ (A : Around) (outer : List Env) (s : Shared) (H : Hp) (args : Args) (us : List Value) (vs : List V) (Q : VK) (E : XK), A.guards = some [] → Room k A → Env0 P w K mg base A outer s H →
    BindsTo s fd args (ps.zip us) → Vals vs us → sp vs H Q E → codeAny (model P w) A (.call (.ref f) args) (CR CX outer P w H s Q E) s
theorem deeper_guards {A : Around} {e : Env} (h : A.guards = some []) : (A.deeper e).guards = some [] := by
  first
    | exact h
    | simpa [Around.deeper, Around.under, pushGuards, Code.guards, Code.isGuard] using h
theorem fnG_of {CX : CXT} {P : Program} {w : World} {K : PySem.W.Frag} {mg : Str → Option Value} {base : Heap} {k : Nat} {f : Addr} {nm ql : Str} {pr : Arguments} {bd : List Stmt} {sc : Scope} {dv kv dc pm cd ct oc : Value} {an od : Option Addr}
    {sl : Array (Option Value)} {N ps : List Str} {sp : Sp}
    (lk : K.lookup f = some ⟨oc, od, .func (PySem.W.fnOf nm ql pr bd sc dv kv dc pm an cd ct), sl⟩)
    (hcd : PySem.W.codeIn K cd ql = true) (S : FnScope N ps sc) (len : ∀ vs H Q E, sp vs H Q E → vs.length = ps.length)
    (hb : ∀ (A : Around) (outer : List Env) (s : Shared) (H : Hp) (vs : List V) (Q : VK) (E : XK), (A.deeper (envOfC ql sc s.heap.objs.size f cd)).guards = some [] → Room k (A.deeper (envOfC ql sc s.heap.objs.size f cd)) → sp vs H Q E →
      ∃ t, PSs (cxOf CX P w K mg base N ql sc f cd A outer s H E) bd t ∧ t { nx := fun _ H' => Q .non H', rt := Q } (start N vs) H) :
    FnG P w K mg base CX (k + 1) f (PySem.W.fnOf nm ql pr bd sc dv kv dc pm an cd ct) ps sp := by
  refine ⟨len, fun A outer s H args us vs Q E hgd hr e0 hbi rv hs => ?_⟩
  obtain ⟨t, ht, hq⟩ := hb A outer s H vs Q E (deeper_guards hgd) (hr.deeper _) hs
  -- the very same body, as a promise that asks for this surrounding alone
  have kin : K.In s.heap := e0.mod.kin.keeps fun b o z => (e0.bs b o z).1
  have nol : s.heap.NoLimit := e0.mod.nolimit.keeps fun b o z => (e0.bs b o z).1
  refine codeAny_call_function hr.depth (kin _ _ lk) rfl S.co S.gen rfl (PySem.W.codeRec_of kin hcd) (hbi _ _ _ _ ?_)
  refine wpAny_newFunctionEnv_cells S.kind (fun y hy => ?_) fun env he s1 x => ?_
  · rcases S.par y.1 (List.of_mem_zip (show (y.1, y.2) ∈ ps.zip us from hy)).1 with z | z
    · exact Or.inl z
    · exact Or.inr ⟨z, PySem.W.cellsFrom_some _ _ _ (Or.inl z)⟩
  · subst he
    refine ⟨nol.keeps x.toInCall.keep, codeAny_func (wpAny_mono (ht.run [] s1 (start N vs) H _ (inv_start S hr.hd e0 (len _ _ _ _ hs) rv x) hq) (fun fl s' z => ?_) fun _ _ z => z)⟩
    cases fl with
    | ret u =>
      obtain ⟨v, σ', H', J, r', q'⟩ := z
      exact ⟨v, H', J.os, J.bare, J.base, J.hok, r', q'⟩
    | next =>
      obtain ⟨σ', H', J, q'⟩ := z
      exact ⟨V.non, H', J.os, J.bare, J.base, J.hok, rfl, q'⟩
    | brk => exact (z.elim fun _ z => z.elim fun _ z => False.elim z.2)
    | cont => exact (z.elim fun _ z => z.elim fun _ z => False.elim z.2)
theorem hid_ns {h : Heap} {H : Hp} {b : Addr} {m : Str → Option Value} (no : ∀ (o : Obj) (es : Array DictEntry) (ep : Nat), h.get? b = some o → o.data = .dict es ep → H b = none) (n : h.Ns b m) : (hidT h H).Ns b m := by
  obtain ⟨o, es, ep, e, d, r⟩ := n
  exact ⟨o, es, ep, hidT_get e (no o es ep e d), d, r⟩
/-- the law's call, from a promise that is asked only where no object is being written out -/
theorem law_callG {P : Program} {w : World} {K : PySem.W.Frag} {mg mb : Str → Option Value} {CX : CXT} {k : Nat} {fa a : Addr} {fd : FuncData} {x : Str} {sp : Sp} {t : Shared} {vs : List Value} {ns : List Int}
    (KX : K.In t.heap) (g1 : t.heap.Ns mainGlobals mg) (g2 : t.heap.Ns builtinsNs mb) (g3 : ∀ y : Str, y ≠ "__name__" → mb y = bootBuiltins y) (g4 : t.heap.NoLimit) (g5 : t.gens = #[])
    (ha : t.heap.get? a = some { cls := .type "list", data := .seq vs.toArray }) (hi : IntsAre vs ns) (hl : ns.length ≤ sizeLine) (hr : Room k callerA)
    (F : ∀ bs : Heap, K.In bs → bs.Ns mainGlobals mg → FnG P w K mg bs CX k fa fd [x] sp) (hbi : ∀ (s : Shared) (u : Value), BindsTo s fd ⟨[u], []⟩ [(x, u)])
    (hsp : ∀ H : Hp, Only H → SqL K H a (ns.map V.int) → sp [.ref a] H (fun v _ => v = .bl true) fun _ _ _ => False)
    (hCX : ∀ H e s', CX [] H t (fun _ _ _ => False) e s' → False) :
    codeAny (model P w) callerA (.call (.ref fa) ⟨[.ref a], []⟩) (fun r s' => r = .ok (.ret (.bool true)) ∧ OldK t.heap s'.heap ∧ s'.os = t.os ∧ AllBare s'.gens) t := by
  have rv := vals_ints hi
  have main : ∀ H : Hp, Only H → SqL K H a (ns.map V.int) → HOk P w H t.heap → (∀ b, H b ≠ none → b = a) → (H a ≠ none → K.lookup a = none) →
      codeAny (model P w) callerA (.call (.ref fa) ⟨[.ref a], []⟩) (fun r s' => r = .ok (.ret (.bool true)) ∧ OldK t.heap s'.heap ∧ s'.os = t.os ∧ AllBare s'.gens) t := by
    intro H only hS hok one out
    have no : ∀ (b : Addr) (o : Obj) (es : Array DictEntry) (ep : Nat), t.heap.get? b = some o → o.data = .dict es ep → H b = none := by
      intro b o es ep e d
      cases z : H b with
      | none => rfl
      | some u =>
        obtain rfl : b = a := one b (by rw [z]; simp)
        rw [ha] at e
        cases e
        exact absurd d (by simp)
    have kb : K.In (hidT t.heap H) := by
      intro b o e
      refine hidT_get (KX b o e) ?_
      cases z : H b with
      | none => rfl
      | some u =>
        obtain rfl : b = a := one b (by rw [z]; simp)
        rw [out (by rw [z]; simp)] at e
        cases e
    have ng : (hidT t.heap H).Ns mainGlobals mg := hid_ns (no _) g1
    have md : Mod K mg (hidT t.heap H) := ⟨kb, ng, ⟨mb, hid_ns (no _) g2, g3⟩, g4.elim fun mc h => ⟨mc, hid_ns (no _) h.1, h.2⟩⟩
    have ev : Env0 P w K mg (hidT t.heap H) callerA [] t H :=
      ⟨rfl, md, fun b o e => of_hidT e, Nat.le_of_eq (hidT_size _ _), trivial, fun b z => (List.not_mem_nil z).elim, hok, .of_eq g5⟩
    refine codeAny_mono ((F _ kb ng).run callerA [] t H ⟨[.ref a], []⟩ [.ref a] [.ref a] _ _ rfl hr ev (hbi t (.ref a)) (.cons rfl .nil) (hsp H only hS)) fun r s' h => ?_
    match r, h with
    | .error e, h => exact (hCX H e s' h).elim
    | .ok .next, h => exact False.elim h
    | .ok .brk, h => exact False.elim h
    | .ok .cont, h => exact False.elim h
    | .ok (.ret u), h =>
      obtain ⟨v, H', os, bare, un, hok2, r2, q⟩ := h
      obtain rfl : v = .bl true := q
      obtain rfl : u = Value.bool true := r2
      refine ⟨rfl, OldK.of_keep fun b o e => ?_, os, bare⟩
      rcases only b with z | ⟨ob, xs, z⟩
      · exact un.keep b o e z (fun y => (List.not_mem_nil y).elim) (by simp)
      · have y1 := (hok b _ z).1
        have y2 := (hok2 b _ (un.frzs b ob _ z)).1
        rw [e] at y1
        cases y1
        exact y2
  cases hk : K.lookup a with
  | some o =>
    have e := KX a o hk
    rw [ha] at e
    cases e
    refine main (fun _ => none) (fun _ => .inl rfl) (.inr ⟨_, vs.toArray, _, hk, rfl, rfl, rfl, ?_, ?_⟩) (fun b u z => nomatch (show (none : Option HO) = some u from z)) (fun b z => absurd rfl z) fun z => absurd rfl z
    · rw [List.size_toArray, hi.length]
      exact hl
    · simpa using rv
  | none =>
    have at1 : (fun b => if b = a then some (HO.frz { cls := .type "list", data := .seq vs.toArray } (.lst (ns.map V.int))) else none : Hp) a = some (HO.frz { cls := .type "list", data := .seq vs.toArray } (.lst (ns.map V.int))) := if_pos rfl
    refine main (fun b => if b = a then some (.frz { cls := .type "list", data := .seq vs.toArray } (.lst (ns.map V.int))) else none) (fun b => ?_) (.inl (.inr ⟨_, at1⟩)) (fun b u z => ?_) (fun b z => ?_) fun _ => hk
    · by_cases e : b = a
      · exact .inr ⟨_, _, if_pos e⟩
      · exact .inl (if_neg e)
    · by_cases e : b = a
      · subst e
        have y := at1.symm.trans z
        cases y
        exact ⟨ha, by rw [List.length_map]; exact hl, vs, _, rv, ha⟩
      · exact nomatch ((if_neg e).symm.trans z)
    · by_cases e : b = a
      · exact e
      · exact absurd (if_neg e) z
theorem walk_ofG {l : PySem.W.OpenLaw} {n k : Nat} {q : Program} {loose : List Str} {XP : (Str → Option Value) → Heap → Prop} {YP : World → Heap → Prop} {d : DefRec} {K : Params → PySem.W.Frag} {CX : CXT} {sp : PySem.W.Frag → Sp} {x : Str}
    (hn : l.most = some n) (hn2 : n ≤ sizeLine) (hdf : d.params.defaults = []) (hr : Room k callerA) (hY : ∀ (w : World) (h : Heap), YP w h → (K w.params).In h)
    (F : ∀ (w : World) (mg : Str → Option Value) (fa : Addr) (h : Heap), (K w.params).In h → h.Ns mainGlobals mg → mg d.name = some (.ref fa) →
      ∃ fd : FuncData, (∀ (s : Shared) (u : Value), BindsTo s fd ⟨[u], []⟩ [(x, u)]) ∧
        ∀ bs : Heap, (K w.params).In bs → bs.Ns mainGlobals mg → FnG l.prog w (K w.params) mg bs CX k fa fd [x] (sp (K w.params)))
    (hsp : ∀ (K : PySem.W.Frag) (H : Hp) (a : Addr) (ns : List Int), ns.length ≤ n → SqL K H a (ns.map V.int) → sp K [.ref a] H (fun v _ => v = .bl true) fun _ _ _ => False)
    (hCX : ∀ (H : Hp) (s : Shared) (e : Value) (s' : Shared), CX [] H s (fun _ _ _ => False) e s' → False) :
    PySem.W.WalkO q loose XP YP l.row.toRowW d [] (fun f vs => PySem.call f vs) := by
  refine Att.attach_call hn hdf fun w s₀ t mg mb fa o pm cd doc a vs ns G Y ho hd hcd hmg hobj hints hlen hg => ?_
  have KX := hY w _ Y
  obtain ⟨fd, hb, hF⟩ := F w mg fa _ KX G.T.g hmg
  exact law_callG KX G.T.g G.T.b G.T.builtins G.T.nolimit hg hobj hints (Nat.le_trans hlen hn2) hr hF hb (fun H _ hS => hsp (K w.params) H a ns hlen hS) fun H e s' => hCX H t e s'
end Su
/-! ### B1: repr of data, t.index(n), a call by keywords alone, data that is small enough -/
namespace Su
open PySem PySem.Spec PyProof.Rows L2
/-- data of small numbers, of depth n at most, of weight m at most -/
structure Fine (d : PyData) (n m : Nat) : Prop where
  sh : d.showable = true
  nd : d.hasDict = false
  dp : d.depth ≤ n
  lv : d.leavesShort 13 = true
  wt : d.weight ≤ m
  cl : d.canLay0 = true
structure FineL (ds : List PyData) (n m : Nat) : Prop where
  sh : PyData.showableAll ds = true
  nd : PyData.hasDictAll ds = false
  dp : PyData.depthAll ds ≤ n
  lv : PyData.leavesShortAll 13 ds = true
  wt : PyData.weightAll ds ≤ m
  cl : PyData.canLayAll0 ds = true
theorem Fine.int {i : Int} (h1 : -1000000 ≤ i) (h2 : i ≤ 1000000) : Fine (.int i) 0 40 := by
  have hb : i.natAbs < 10 ^ 12 := by omega
  have e : i.natAbs < 2 ^ 20 := by omega
  have hl : i.natAbs.log2 < 39 := by
    by_cases z : i.natAbs = 0
    · rw [z]
      decide
    · exact (Nat.log2_lt z).mpr (by omega)
  refine ⟨?_, by simp [PyData.hasDict], by simp [PyData.depth], ?_, ?_, by first | rfl | simp [PyData.canLay0]⟩
  · simp only [PyData.showable, decide_eq_true_eq]
    omega
  · simp only [PyData.leavesShort, decide_eq_true_eq]
    exact PyData.shown_int_le hb
  · simp only [PyData.weight]
    split <;> omega
theorem Fine.bool (b : Bool) : Fine (.bool b) 0 0 := ⟨by simp [PyData.showable], by simp [PyData.hasDict], by simp [PyData.depth], by simp [PyData.leavesShort], by simp [PyData.weight], by first | rfl | simp [PyData.canLay0]⟩
theorem Fine.none : Fine .none 0 0 := ⟨by simp [PyData.showable], by simp [PyData.hasDict], by simp [PyData.depth], by simp [PyData.leavesShort], by simp [PyData.weight], by first | rfl | simp [PyData.canLay0]⟩
theorem FineL.nil {n : Nat} : FineL [] n 0 := ⟨by simp [PyData.showableAll], by simp [PyData.hasDictAll], by simp [PyData.depthAll], by simp [PyData.leavesShortAll], by simp [PyData.weightAll], by first | rfl | simp [PyData.canLayAll0]⟩
theorem FineL.cons {d : PyData} {ds : List PyData} {n m k : Nat} (h : Fine d n m) (t : FineL ds n k) : FineL (d :: ds) n (m + 1 + k) := by
  refine ⟨?_, ?_, ?_, ?_, ?_, ?_⟩
  · simp only [PyData.showableAll, h.sh, t.sh, Bool.and_self]
  · simp only [PyData.hasDictAll, h.nd, t.nd, Bool.or_self]
  · simp only [PyData.depthAll]
    have := h.dp
    have := t.dp
    omega
  · simp only [PyData.leavesShortAll, h.lv, t.lv, Bool.and_self]
  · simp only [PyData.weightAll]
    have := h.wt
    have := t.wt
    omega
  · simp only [PyData.canLayAll0, h.cl, t.cl, Bool.and_self]
theorem Fine.tuple {ds : List PyData} {n m : Nat} (t : FineL ds n m) : Fine (.tuple ds) (n + 1) m :=
  ⟨by simpa only [PyData.showable] using t.sh, by simpa only [PyData.hasDict] using t.nd, by simp only [PyData.depth]; have := t.dp; omega, by simpa only [PyData.leavesShort] using t.lv, by simpa only [PyData.weight] using t.wt, by simpa only [PyData.canLay0] using t.cl⟩
theorem Fine.list {ds : List PyData} {n m : Nat} (t : FineL ds n m) : Fine (.list ds) (n + 1) m :=
  ⟨by simpa only [PyData.showable] using t.sh, by simpa only [PyData.hasDict] using t.nd, by simp only [PyData.depth]; have := t.dp; omega, by simpa only [PyData.leavesShort] using t.lv, by simpa only [PyData.weight] using t.wt, by simpa only [PyData.canLay0] using t.cl⟩
theorem Fine.up {d : PyData} {n m n' m' : Nat} (h : Fine d n m) (a : n ≤ n') (b : m ≤ m') : Fine d n' m' := ⟨h.sh, h.nd, Nat.le_trans h.dp a, h.lv, Nat.le_trans h.wt b, h.cl⟩
theorem FineL.ints : ∀ ns : List Int, (∀ z ∈ ns, -1000000 ≤ z ∧ z ≤ 1000000) → FineL (ns.map PyData.int) 0 (41 * ns.length)
  | [], _ => FineL.nil
  | z :: ns, h => by
    have a := FineL.cons (Fine.int (h z List.mem_cons_self).1 (h z List.mem_cons_self).2) (FineL.ints ns fun y hy => h y (List.mem_cons_of_mem _ hy))
    have e : 40 + 1 + 41 * ns.length = 41 * (z :: ns).length := by
      rw [List.length_cons]
      omega
    rw [e] at a
    exact a
theorem Fine.len {d : PyData} {n m : Nat} (h : Fine d n m) (hm : m ≤ 1000000) : d.shown.length ≤ sizeLine := PyData.shown_fits (B := 13) (by decide) (by decide) h.lv (by have := h.wt; omega)
theorem Fine.shaped {d : PyData} {n m : Nat} (h : Fine d n m) (hn : n ≤ 64) : SeqAt.shaped d = true := by
  unfold SeqAt.shaped
  rw [h.cl, Bool.true_and, decide_eq_true_eq]
  exact Nat.le_trans h.dp hn
theorem Fine.eqv {d : PyData} {n m : Nat} (h : Fine d n m) : PyData.eqv d d = true := SeqAt.eqv_refl d h.cl
section
variable {X : Cx}
/-- repr(x), x a list or tuple of data -/
def rReprD (K : PySem.W.Frag) : List V → Hp → VK → Prop := fun xs H Q => ∃ (a : Addr) (d : PyData) (n m : Nat), xs = [.ref a] ∧ Dp K H (.ref a) d ∧ Fine d n m ∧ n ≤ 60 ∧ m ≤ 1000000 ∧ Q (.str d.shown) H
theorem call_reprD (hg : X.A.guards = some []) (hu : X.A.units + 64 < cLine) : CallR X (.builtin "repr") (rReprD X.K) := by
  intro pins s σ H xs us Q I r h
  obtain ⟨a, d, n, m, rfl, hd, hf, hn, hm, q⟩ := h
  rw [Vals.ref1 r]
  obtain ⟨as, rd⟩ := Dp.reads I d _ (.ref a) hd rfl
  refine repr_of_reads' rd hf.sh (PyData.noDict_hsm hf.nd) hg (by have := hf.dp; omega) (fun _ _ z => z) (fun h' u tk hk => ⟨.str d.shown, H, I.kept hk, ⟨u, rfl⟩, q⟩) (hf.len hm)
/-- t.index(n), t a tuple of ints that has n -/
def rTIndex (K : PySem.W.Frag) : V → List V → Hp → VK → Prop := fun x xs H Q => ∃ (p : Addr) (ns : List Int) (k : Int), x = .ref p ∧ xs = [.int k] ∧ SqT K H p (ns.map V.int) ∧ k ∈ ns ∧ Q (.int (ns.idxOf k : Nat)) H
theorem ints_of : ∀ {ns : List Int} {vs : List Value}, Vals (ns.map V.int) vs → IntsAre vs ns
  | [], _, r => by
    cases r
    exact .nil
  | n :: ns, _, r => by
    cases r with
    | cons r1 r2 =>
      obtain ⟨t, rfl⟩ := r1
      exact .cons _ _ (ints_of r2)
theorem mt_tindex : MtR X "tuple.index" (rTIndex X.K) := by
  intro pins s σ H x xs v us Q I rx rs h
  obtain ⟨p, ns, k, rfl, rfl, hq, hk, q⟩ := h
  cases rx
  obtain ⟨u, rfl, t, rfl⟩ := vals1 rs
  obtain ⟨its, r, pl, hz⟩ := I.tuple hq
  exact PySem.SeqAt.tuple_index_ints (l := p) (vs := its) pl (ints_of r) hk ⟨.int (ns.idxOf k : Nat), H, I.tok _, ⟨_, rfl⟩, q⟩
end
section
variable {X : Cx} {k j : Nat} {x : Str} {ps ks : List Str} {sp : Sp} {p pos : Pos} {kws : List Keyword} {tk : TA}
/-- a def that keeps a promise, called by keywords alone -/
structure KCal (P : Program) (w : World) (K : PySem.W.Frag) (mg : Str → Option Value) (base : Heap) (k : Nat) (x : Str) (ks : List Str) (gV : List V → List V → List V) (sp : Sp) : Prop where
  ex : ∃ (f : Addr) (fd : FuncData) (ps : List Str) (g : List Value → List Value → List Value), FnOk P w K mg base CX0 k f fd ps sp ∧ mg x = some (.ref f) ∧ PySem.W.keepIn K (.ref f) = true ∧ KBinds K fd ps ks g gV
variable {gV : List V → List V → List V}
def tKws (sp : Sp) (gV : List V → List V → List V) (tk : TA) : TE := fun σ H Q => tk σ H fun zs H2 => sp (gV [] zs) H2 Q E0
theorem pe_ownK (C : KCal X.prog X.w X.K X.mg X.base k x ks gV sp) (hr : Room j X.A) (hk : k ≤ j) (hg : Gl X x) (hkw : PK X kws tk)
    (hall : (backToKw pos (keywordEach kws X.env)).all (·.1.isSome) = true := by rfl) (hks : (backToKw pos (keywordEach kws X.env)).filterMap (·.1) = ks := by rfl) (hdb : (x == ("__debug__" : Str)) = false := by decide)
    (hpl : ((backTo pos (starEach [] X.env)).any (·.1) || (backToKw pos (keywordEach kws X.env)).any (·.1.isNone)) = false := by rfl) : PE X (.Call (.Name x p) [] kws pos) (tKws sp gV tk) := by
  obtain ⟨f, fd, ps, g, F, hm, kp, b⟩ := C.ex
  refine ⟨fun pins s σ H Q I h => ?_⟩
  refine wpAny_Call_Name_kw (ld_glob I hg hm ?_ hdb)
  refine PySem.W.callWith_KW0 (h₀ := X.base) I.ok.mod.kin kp hall (thn (hkw.run pos pins s σ H _ I h) fun ws s2 ⟨zs, H2, I2, rz, q2⟩ => ⟨I2.kIn, ?_⟩) hpl
  rw [hks]
  exact run_fnk F (hr.mono hk) b (fun _ _ _ _ _ _ _ z => z.elim) I2 .nil rz q2
end
end Su
/-! ### B2: tuples whose object is known to have no dict: their methods may be called -/
namespace Su
open PySem PySem.Spec PyProof.Rows L2
def PTup (H : Hp) (a : Addr) (xs : List V) : Prop := ∃ o : Obj, H a = some (.frz o (.tup xs)) ∧ o.dict = none
theorem PTup.sq {K : PySem.W.Frag} {H : Hp} {a : Addr} {xs : List V} (h : PTup H a xs) : SqT K H a xs := by
  obtain ⟨o, e, _⟩ := h
  exact .inl (.inr ⟨o, e⟩)
theorem PTup.same {H H' : Hp} {a : Addr} {xs : List V} (h : PTup H a xs) (s : Same H H') : PTup H' a xs := by
  obtain ⟨o, e, d⟩ := h
  exact ⟨o, s _ _ e, d⟩
theorem same_upd {H : Hp} {p : Addr} {o : HO} (h : H p = none) : Same H (upd H p o) := fun b x e => by
  rw [upd_ne (ne_of_none e h)]
  exact e
section
variable {X : Cx} {pins : List (Addr × Obj)} {σ : L2.St} {H : Hp} {s : Shared}
/-- a new tuple's object -/
abbrev tupO (its : List Value) : Obj := { cls := .type "tuple", data := .seq its.toArray }
theorem laidF {xs : List V} {its : List Value} (I : Inv X pins σ H s) (r : Vals xs its) (hz : xs.length ≤ sizeLine) (t' : Tok) :
    Inv X pins σ (upd H s.heap.objs.size (.frz (tupO its) (.tup xs))) { s with heap := s.heap.push (tupO its), toks := t' } := by
  refine I.laid (t' := t') (o := .frz (tupO its) (.tup xs)) (fun b ob q => Heap.get?_push_of_some _ q) (Nat.le_refl _) ?_
  exact ⟨Heap.get?_push_size _ rfl, hz, its, r, IsTup.new _ _⟩
theorem newF {xs : List V} {its : List Value} {Q : VK} (I : Inv X pins σ H s) (r : Vals xs its) (hz : xs.length ≤ sizeLine) (q : ∀ v H', Same H H' → H v = none → PTup H' v xs → Q (.ref v) H') (t' : Tok) :
    EP X pins σ Q (.ref s.heap.objs.size) { s with heap := s.heap.push (tupO its), toks := t' } :=
  have hf : H s.heap.objs.size = none := I.hok.fresh (Nat.le_refl _)
  ⟨.ref s.heap.objs.size, _, laidF I r hz t', rfl, q _ _ (same_upd hf) hf ⟨_, upd_same, rfl⟩⟩
end
section
variable {X : Cx} {es : List Expr} {t : TA} {pos : Pos}
def tTupF (t : TA) : TE := fun σ H Q => t σ H fun xs H1 => xs.length ≤ sizeLine ∧ ∀ v H', Same H1 H' → H1 v = none → PTup H' v xs → Q (.ref v) H'
theorem pe_tupF {x1} (h : PA X es t) : PE X (.Tuple es x1 pos) (tTupF t) := by
  refine ⟨fun pins s σ H Q I hq => ?_⟩
  refine wpAny_Tuple_spliced (thn (h.run pos pins s σ H _ I hq) fun us s1 ⟨xs, H1, I1, r, z, q⟩ => ⟨by rw [← r.length]; exact z, ?_⟩)
  exact newF I1 r z q s1.toks
def rTupL (K : PySem.W.Frag) : List V → Hp → VK → Prop := fun xs H Q => ∃ p ys, xs = [.ref p] ∧ SqL K H p ys ∧ ∀ v H', Same H H' → H v = none → PTup H' v ys → Q (.ref v) H'
theorem call_tupleF : CallR X (.type "tuple") (rTupL X.K) := by
  intro pins s σ H xs us Q I r h
  obtain ⟨p, ys, rfl, hq, q⟩ := h
  obtain ⟨u, rfl, rx⟩ := vals1 r
  cases rx
  obtain ⟨its, r', pl, hz⟩ := I.list hq
  have hlen := r'.length
  refine call_tuple_list pl.isList (fun h' kp => ?_) (by simp only [List.size_toArray] <;> omega)
  exact newF (s := { s with heap := h' }) (I.kept (t' := s.toks) kp) r' hz q s.toks
def rCatF : R2 := fun x y H Q => ∃ a b xs ys, x = .ref a ∧ y = .ref b ∧ PTup H a xs ∧ PTup H b ys ∧ xs.length + ys.length ≤ sizeLine ∧ ∀ v H', Same H H' → PTup H' v (xs ++ ys) → Q (.ref v) H'
theorem op_catF : OpR X (binaryOp .Add) rCatF := by
  intro pins s σ H x y v u Q I rx ry h
  obtain ⟨a, b, xs, ys, rfl, rfl, ha, hb, hz, q⟩ := h
  cases rx
  cases ry
  obtain ⟨its, r1, p1, _⟩ := I.tuple (ha.sq (K := X.K))
  obtain ⟨its2, r2, p2, _⟩ := I.tuple (hb.sq (K := X.K))
  by_cases hx : xs = []
  · subst hx
    cases r1
    exact cat_tup0 p1 p2 ⟨.ref b, H, I, rfl, q b H (Same.refl H) hb⟩
  · refine HT.cat_tup p1 p2 (fun z => hx (r1.nil_iff.mp z)) (fun z => ⟨.ref a, H, I, rfl, q a H (Same.refl H) ?_⟩) (fun z => ?_) (by rw [← r1.length, ← r2.length]; exact hz)
    · rw [r2.nil_iff.mp z, List.append_nil]
      exact ha
    · exact newF I (r1.append r2) (by rw [List.length_append]; exact hz) (fun v H' s' _ h => q v H' s' h) s.toks
def rSlF : V → Option Int → Option Int → Hp → VK → Prop := fun x lo hi H Q => ∃ a xs, x = .ref a ∧ PTup H a xs ∧ ∀ v H', Same H H' → PTup H' v (cutV xs lo hi) → Q (.ref v) H'
theorem sl_tupF : SlR X rSlF := by
  intro pins s σ H x v vl vu lo hi sl Q I rx hs pl pu h
  obtain ⟨a, xs, rfl, hx, q⟩ := h
  cases rx
  obtain ⟨its, r, ht, hz⟩ := I.tuple (hx.sq (K := X.K))
  have hlen : its.toArray.size = xs.length := by rw [List.size_toArray]; exact r.length.symm
  refine ⟨"tuple", _, PyProof.Rows.slot_tuple_getitem.lookup, ht.typeIs, ?_⟩
  by_cases hw : HT.sIx xs.length 0 lo = 0 ∧ HT.sIx xs.length xs.length hi = xs.length
  · refine getItem_tuple_whole ht hs pl pu (by rw [hlen]; exact hw) ⟨.ref a, H, I, rfl, q a H (Same.refl H) ?_⟩
    have z : cutV xs lo hi = xs := by
      unfold cutV
      rw [hw.1, hw.2, Nat.sub_zero, List.drop_zero, List.take_length]
    rw [z]
    exact hx
  · refine HT.getItem_tuple_cut ht hs pl pu (by rw [hlen]; exact hw) ?_ (by rw [hlen]; exact hz)
    rw [hlen]
    exact newF I ((r.drop (HT.sIx xs.length 0 lo)).take (HT.sIx xs.length xs.length hi - HT.sIx xs.length 0 lo)) (Nat.le_trans (cutV_length xs lo hi) hz) (fun v H' s' _ h => q v H' s' h) s.toks
/-- t.m(e, ..), t such a tuple -/
def tMT (r : V → List V → Hp → VK → Prop) (to : TE) (t : TA) : TE := fun σ H Q => to σ H fun x H1 => (∃ a xs, x = .ref a ∧ PTup H1 a xs) ∧ t σ H1 fun xs H2 => r x xs H2 Q
variable {o e : Expr} {to : TE} {name : Str} {apos cpos : Pos} {id : String} {r : V → List V → Hp → VK → Prop}
theorem pe_mT (slot : Slot "tuple" name id) (hty : typeOf (.builtin id) = pure (.type "method_descriptor")) (hm : MtR X id r) (ho : PE X o to) (ha : PA X (e :: es) t)
    (hbase : attributeBase o name X.env (eval o X.env) = eval o X.env := by rfl)
    (hfew : ((backTo cpos (starEach (e :: es) X.env)).all (fun x => !x.1) && (backToKw cpos (keywordEach [] X.env)).all (fun x => x.1.isSome) && decide ((e :: es).length + ([] : List Keyword).length + (if ([] : List Keyword).isEmpty then 0 else 1) < 30)) = true := by rfl)
    (hline : (apos.endLine == cpos.line) = true := by rfl) (hs : starEach (e :: es) X.env = (false, eval e X.env) :: starEach es X.env := by rfl) (hplain : (backTo cpos (starEach es X.env)).any (·.1) = false := by rfl) :
    PE X (.Call (.Attribute o name apos) (e :: es) [] cpos) (tMT r to t) := by
  refine ⟨fun pins s σ H Q I h => ?_⟩
  refine wpAny_Call_method_late hbase hfew hline rfl (thn (ho.run pins s σ H _ I h) fun v s1 ⟨x, H1, I1, r1, ⟨a, xs, ex, pt⟩, q1⟩ => ?_)
  subst ex
  cases r1
  obtain ⟨its, rv, tp, _⟩ := I1.tuple (pt.sq (K := X.K))
  obtain ⟨ob, eo, ed⟩ := pt
  have g1 := (I1.hok a _ eo).1
  refine ⟨"tuple", id, PySem.F.plainAttrs_tuple, slot, hty, tp.typeIs, fun b eb => ?_, ?_⟩
  · cases eb
    exact ⟨ob, g1, ed⟩
  have hA := ha.run cpos pins s1 σ H1 _ I1 q1
  rw [hs] at hA ⊢
  refine Calls.callWith_builtin (by show (false || (backTo cpos (starEach es X.env)).any (·.1)) = false; rw [hplain] <;> rfl) (Calls.evalArgs_plain ?_)
  exact thn hA fun us s2 ⟨vs, H2, I2, r2, q2⟩ => hm pins s2 σ H2 (.ref a) vs _ us Q I2 rfl r2 q2
end
end Su
/-! ### PL: the pool from which a law draws -/
namespace Su
open PySem PySem.Spec PyProof.Rows L2
/-- the built-in names that the text does not bind -/
structure Bt (mg : Str → Option Value) : Prop where
  len : mg "len" = none
  sum : mg "sum" = none
  abs : mg "abs" = none
  int : mg "int" = none
  min : mg "min" = none
  max : mg "max" = none
  range : mg "range" = none
  sorted : mg "sorted" = none
  list : mg "list" = none
  tuple : mg "tuple" = none
  repr : mg "repr" = none
  set : mg "set" = none
  all : mg "all" = none
  isinstance : mg "isinstance" = none
  str : mg "str" = none
  bool : mg "bool" = none
  reversed : mg "reversed" = none
  enumerate : mg "enumerate" = none
  zip : mg "zip" = none
  any : mg "any" = none
  dict : mg "dict" = none
theorem cutV_ints (ns : List Int) (lo hi : Option Int) : ∃ ms : List Int, cutV (ns.map V.int) lo hi = ms.map V.int := by
  unfold cutV
  exact ⟨_, by rw [← List.map_drop, ← List.map_take]⟩
theorem atI_int {α : Type} {xs : List α} {i : Int} {v : α} (h0 : 0 ≤ i) (h : xs[i.toNat]? = some v) : atI xs i = some v := by
  have e := atI_nat h
  rw [Int.toNat_of_nonneg h0] at e
  exact e
theorem b01 (b : Bool) : -(2 ^ 64) < (if b = true then (1 : Int) else 0) ∧ (if b = true then (1 : Int) else 0) < 2 ^ 64 := by
  cases b <;> exact ⟨by decide, by decide⟩
/-! the pool -/
def PoolO (o : HO) : Prop := ∃ g m : Int, o = .lst [.int g, .int m] ∧ 0 ≤ g ∧ 0 ≤ m ∧ m < 2147483647
def PoolAt (H : Hp) (p : Addr) : Prop := ∃ o, H p = some o ∧ PoolO o
def spTake : Sp := fun vs H Q _ => ∃ (p : Addr) (many : Int), vs = [.ref p, .int many] ∧ PoolAt H p ∧ 1 ≤ many ∧ many < 1000000 ∧
  ∀ (r : Int) (o : HO), 0 ≤ r → r < many → PoolO o → Q (.int r) (upd H p o)
def spPool (K : PySem.W.Frag) : Sp := fun vs H Q _ => ∃ (a : Addr) (ns : List Int) (k : Int), vs = [.ref a, .int k] ∧ SqL K H a (ns.map V.int) ∧ 0 ≤ k ∧ k < 1000 ∧
  ∀ (p : Addr) (H' : Hp), Same H H' → H p = none → PoolAt H' p → Q (.ref p) H'
/-- all but what stands at p is as it was -/
def Kept (p : Addr) (H H' : Hp) : Prop := ∀ b o, H b = some o → b ≠ p → H' b = some o
theorem Kept.refl (p : Addr) (H : Hp) : Kept p H H := fun _ _ h _ => h
theorem Kept.trans {p : Addr} {H H1 H2 : Hp} (a : Kept p H H1) (b : Kept p H1 H2) : Kept p H H2 := fun c o h n => b c o (a c o h n) n
theorem Kept.same {p : Addr} {H H1 : Hp} (a : Same H H1) : Kept p H H1 := fun c o h _ => a c o h
theorem Kept.upd (p : Addr) (H : Hp) (o : HO) : Kept p H (upd H p o) := fun b x e n => by
  rw [upd_ne n]
  exact e
theorem Kept.set {p b : Addr} {H H1 : Hp} {o : HO} (a : Kept p H H1) (hb : H b = none) : Kept p H (L2.upd H1 b o) := fun c x e n => by
  rw [upd_ne (ne_of_none e hb)]
  exact a c x e n
theorem Kept.free {p b : Addr} {H H' : Hp} (a : Kept p H H') (n : b ≠ p) (h : H' b = none) : H b = none := by
  cases z : H b with
  | none => rfl
  | some o =>
    rw [a b o z n] at h
    cases h
theorem pool_ne {H : Hp} {p b : Addr} (h : PoolAt H p) (n : H b = none) : b ≠ p := by
  obtain ⟨o, e, _⟩ := h
  exact (ne_of_none e n).symm
theorem PoolAt.upd {H : Hp} {p b : Addr} {o : HO} (h : PoolAt H p) (n : p ≠ b) : PoolAt (upd H b o) p := by
  obtain ⟨x, e, z⟩ := h
  exact ⟨x, by rw [upd_ne n]; exact e, z⟩
theorem PoolAt.same {H H' : Hp} {p : Addr} (h : PoolAt H p) (s : Same H H') : PoolAt H' p := by
  obtain ⟨o, e, z⟩ := h
  exact ⟨o, s _ _ e, z⟩
theorem PTup.kept {p a : Addr} {H H' : Hp} {xs : List V} (h : PTup H a xs) (k : Kept p H H') (hp : PoolAt H p) : PTup H' a xs := by
  obtain ⟨o, e, d⟩ := h
  obtain ⟨x, e2, g, m, rfl, _⟩ := hp
  refine ⟨o, k _ _ e (fun z => ?_), d⟩
  subst z
  rw [e] at e2
  cases e2
theorem seq_kept {K : PySem.W.Frag} {p a : Addr} {H H' : Hp} {xs : List V} (k : Kept p H H') (n : a ≠ p) (h : SqL K H a xs) : SqL K H' a xs := by
  rcases h with (h | ⟨o, h⟩) | h
  · exact .inl (.inl (k _ _ h n))
  · exact .inl (.inr ⟨o, k _ _ h n⟩)
  · exact .inr h
theorem tyes {σ : L2.St} {H : Hp} {A B : Hp → Prop} (h : A H) : tYes σ H (fun b H3 => if b = true then A H3 else B H3) := (iteT h : if true = true then A H else B H)
theorem erase_map (f : Int → V) : ∀ (l : List Int) (j : Nat), (l.map f).eraseIdx j = (l.eraseIdx j).map f
  | [], _ => rfl
  | _ :: _, 0 => rfl
  | x :: l, j + 1 => by
    show f x :: (l.map f).eraseIdx j = f x :: (l.eraseIdx j).map f
    rw [erase_map f l j]
theorem free_upd {H : Hp} {a b : Addr} {o : HO} (h : upd H a o b = none) : b ≠ a ∧ H b = none := by
  by_cases e : b = a
  · subst e
    rw [upd_same] at h
    cases h
  · rw [upd_ne e] at h
    exact ⟨e, h⟩
theorem seqIx {i : Int} {n : Nat} (h0 : 0 ≤ i) (h : i < n) : seqIndex? i n = some i.toNat :=
  (ixN_seq (n := n) (i := i) (j := i.toNat) (by unfold ixN; rw [if_pos h0, if_pos h])).1
theorem erase_perm : ∀ (l : List Int) (j : Nat) (y : Int), l[j]? = some y → (y :: l.eraseIdx j).Perm l
  | [], j, y, h => by simp at h
  | x :: l, 0, y, h => by
    have e : x = y := by simpa using h
    rw [e]
    exact List.Perm.refl _
  | x :: l, j + 1, y, h => by
    have e : l[j]? = some y := by simpa using h
    exact (List.Perm.swap x y (l.eraseIdx j)).trans ((erase_perm l j y e).cons x)
abbrev rLenK (K : PySem.W.Frag) : List V → Hp → VK → Prop := fun xs H Q => ∃ p ys, xs = [.ref p] ∧ (SqL K H p ys ∨ SqT K H p ys) ∧ Q (.int ys.length) H
def spPicked (K : PySem.W.Frag) : Sp := fun vs H Q _ => ∃ (p b : Addr) (ns : List Int) (many : Int), vs = [.ref p, .ref b, .int many] ∧ PoolAt H p ∧ SqL K H b (ns.map V.int) ∧ b ≠ p ∧ ns.Nodup ∧ ns.length ≤ 1000 ∧ 0 ≤ many ∧
  ∀ (q : Addr) (H' : Hp) (ms : List Int), H q = none → Kept p H H' → PoolAt H' p → H' q = some (.lst (ms.map V.int)) → ms.Nodup → (∀ x ∈ ms, x ∈ ns) → ms.length = min many.toNat ns.length → ms.Pairwise (· ≤ ·) → Q (.ref q) H'
def hundred : List Int := (List.range 100).map fun i => ((i : Nat) : Int)
theorem hundred_rg : rgV 0 100 = hundred.map V.int := by
  unfold rgV hundred
  rw [List.map_map]
  rfl
theorem hundred_nd : hundred.Nodup := by decide +kernel
theorem hundred_len : hundred.length = 100 := rfl
theorem hundred_mem {x : Int} (h : x ∈ hundred) : 0 ≤ x ∧ x < 100 := by
  unfold hundred at h
  obtain ⟨i, hi, rfl⟩ := List.mem_map.mp h
  have := List.mem_range.mp hi
  omega
theorem cons_nil_fin {α : Type} {xs : List α} {r : Int} (n : Nat) (h : xs.length = n) (r0 : 0 ≤ r) (r1 : r < n) : ∃ v ∈ xs, atI xs r = some v := by
  have hr : r.toNat < xs.length := by omega
  exact ⟨xs[r.toNat], List.getElem_mem hr, atI_int r0 (List.getElem?_eq_getElem hr)⟩
theorem iteB {c : Bool} {A B : Prop} (h1 : c = true → A) (h2 : c = false → B) : if c = true then A else B := by
  cases c
  · exact iteF (h2 rfl)
  · exact iteT (h1 rfl)
theorem sorted_one : ∀ {xs ys : List Int}, xs.Pairwise (· < ·) → ys.Pairwise (· < ·) → (∀ k, k ∈ xs ↔ k ∈ ys) → xs = ys
  | [], [], _, _, _ => rfl
  | [], y :: ys, _, _, h => (List.not_mem_nil ((h y).mpr List.mem_cons_self)).elim
  | x :: xs, [], _, _, h => (List.not_mem_nil ((h x).mp List.mem_cons_self)).elim
  | x :: xs, y :: ys, hx, hy, h => by
    have px := List.pairwise_cons.mp hx
    have py := List.pairwise_cons.mp hy
    have e : x = y := by
      rcases List.mem_cons.mp ((h x).mp List.mem_cons_self) with z | z
      · exact z
      · rcases List.mem_cons.mp ((h y).mpr List.mem_cons_self) with z2 | z2
        · exact z2.symm
        · have h1 := py.1 x z
          have h2 := px.1 y z2
          omega
    subst e
    have r : xs = ys := sorted_one px.2 py.2 fun k => by
      constructor
      · intro hk
        rcases List.mem_cons.mp ((h k).mp (List.mem_cons_of_mem _ hk)) with z | z
        · have h1 := px.1 k hk
          omega
        · exact z
      · intro hk
        rcases List.mem_cons.mp ((h k).mpr (List.mem_cons_of_mem _ hk)) with z | z
        · have h1 := py.1 k hk
          omega
        · exact z
    rw [r]
theorem nodup_few {S : List Int} : ∀ {ms : List Int}, ms.Nodup → (∀ k ∈ ms, k ∈ S) → ms.length ≤ S.length := by
  induction S with
  | nil =>
    intro ms _ h
    cases ms with
    | nil => exact Nat.le_refl _
    | cons x l => exact (List.not_mem_nil (h x List.mem_cons_self)).elim
  | cons y S ih =>
    intro ms nd h
    have z := ih (ms := ms.erase y) (nd.erase y) fun k hk => by
      have h1 := (nd.mem_erase_iff.mp hk)
      rcases List.mem_cons.mp (h k h1.2) with e | e
      · exact absurd e h1.1
      · exact e
    rw [List.length_cons]
    by_cases hy : y ∈ ms
    · rw [List.length_erase_of_mem hy] at z
      omega
    · rw [List.erase_of_not_mem hy] at z
      omega
theorem fnG_fun {P : Program} {w : World} {K : PySem.W.Frag} {mg : Str → Option Value} {base : Heap} {x ql : Str} {st : Stmt} {f : Addr} {fd : FuncData} {N ps : List Str} {k : Nat} {sp : Sp} (F : Fun K x ql st f fd) (S : FnScope N ps (defScope st)) (len : ∀ vs H Q E, sp vs H Q E → vs.length = ps.length)
    (hb : ∀ (cdv : Value) (A : Around) (outer : List Env) (s : Shared) (H : Hp) (vs : List V) (Q : VK) (E : XK), (A.deeper (envOfC ql (defScope st) s.heap.objs.size f cdv)).guards = some [] → Room k (A.deeper (envOfC ql (defScope st) s.heap.objs.size f cdv)) → sp vs H Q E →
      ∃ t, PSs (cxOf CX0 P w K mg base N ql (defScope st) f cdv A outer s H E).nox (defBody st) t ∧ t { nx := fun _ H' => Q .non H', rt := Q } (start N vs) H) : FnG P w K mg base CX0 (k + 1) f fd ps sp := by
  obtain ⟨oc, od, kV, doc, pm, an, cdv, ct, osl, rfl, lk, hcd⟩ := F.ex
  refine fnG_of lk hcd S len fun A outer s H vs Q E hg hr hsp => ?_
  obtain ⟨t, h, q⟩ := hb cdv A outer s H vs Q E hg hr hsp
  exact ⟨t, h.nox, q⟩
section
variable {X : Cx} {e : Expr}
/-- a test that is never asked, an expression that is never reckoned -/
def tNo : TT := fun _ _ _ => False
theorem pt_never : PT X e tNo := ⟨fun _ _ _ _ _ _ h => h.elim⟩
def tNoE : TE := fun _ _ _ => False
theorem pe_never : PE X e tNoE := ⟨fun _ _ _ _ _ _ h => h.elim⟩
end
end Su
/-! ### SC: a set of ints by a comprehension with two clauses -/
namespace Su
open PySem PySem.Spec PyProof.Rows L2
abbrev sc2 (e a b c d : Expr) (sp : Scope) (po : Pos) : Expr := .SetComp e [⟨a, b, [], 0⟩, ⟨c, d, [], 0⟩] sp po
section
variable {prog : Program} {w : World} {A : Around} {R : Result → Shared → Prop} {s : Shared} {e a b c d : Expr} {sp : Scope} {po : Pos} {it acc : Value} {env : Env}
theorem sc2_out : compTurn (sc2 e a b c d sp po) 0 it acc env = (do
      standAt b.pos
      match ← pyNext it with
      | none => pure (.done .next)
      | some v =>
        letOwnedTupleGo a it v
        assign a env v
        let x ← eval d env
        standAt d.pos
        let y ← foldedSetIterable d env x
        let _ ← runOwn (.compStart (sc2 e a b c d sp po) 1 (← holding [y] (pyIter y)) acc env) env
        again (.compLoop (sc2 e a b c d sp po) 0 it acc env)) := by rfl
theorem sc2_in : compTurn (sc2 e a b c d sp po) 1 it acc env = (do
      standAt d.pos
      match ← pyNext it with
      | none => pure (.done .next)
      | some v =>
        letOwnedTupleGo c it v
        assign c env v
        (do let x ← eval e env; standAt e.pos; let _ ← call (.builtin "set.add") [acc, x])
        again (.compLoop (sc2 e a b c d sp po) 1 it acc env)) := by rfl
/-- the tail of a turn that raises: the frame is noted -/
abbrev nb (prog : Program) (w : World) (A : Around) (env : Env) (R : Result → Shared → Prop) : Value → Shared → Prop := notedBy (model prog w) A env fun x u => R (.error x) u
theorem sc2_loop0 (hf : ∀ x, foldedSetIterable d env x = pure x) (J : Nat → Shared → Prop)
    (one : ∀ n u, J n u → wpAny (model prog w) A (pyNext it) (fun r u1 => match r with
      | none => R (.ok .next) u1
      | some v => wpAny (model prog w) A (letOwnedTupleGo a it v) (fun _ u2 => wpAny (model prog w) A (assign a env v) (fun _ u3 =>
          wpAny (model prog w) A (eval d env) (fun x u4 => wpAny (model prog w) A (pyIter x) (fun jt u5 =>
            codeAny (model prog w) A (.compStart (sc2 e a b c d sp po) 1 jt acc env) (fun r u6 => match r with
              | .ok _ => ∃ m, m < n ∧ J m u6
              | .error _ => False) u5) (nb prog w A env R) u4) (nb prog w A env R) u3) (nb prog w A env R) u2) (nb prog w A env R) u1) (nb prog w A env R) u)
    (n : Nat) (h : J n s) : codeAny (model prog w) A (.compLoop (sc2 e a b c d sp po) 0 it acc env) R s := by
  refine codeAny_loop rfl J (fun n u hJ => ?_) n h
  show wpAny _ A ((compTurn (sc2 e a b c d sp po) 0 it acc env).onRaise (fun x => do noteFrame x env; theTreesLotGoes x)) _ _ u
  refine wpAny_noted ?_
  rw [sc2_out]
  refine wpAny_bind (wpAny_standAt (wpAny_bind (wpAny_mono (one n u hJ) (fun r u1 h1 => ?_) fun _ _ k => k)))
  cases r with
  | none => exact wpAny_pure h1
  | some v =>
    refine wpAny_bind (wpAny_mono h1 (fun _ u2 h2 => wpAny_bind (wpAny_mono h2 (fun _ u3 h3 => ?_) fun _ _ k => k)) fun _ _ k => k)
    refine wpAny_bind (wpAny_mono h3 (fun x u4 h4 => ?_) fun _ _ k => k)
    refine wpAny_bind (wpAny_standAt (wpAny_bind (wpAny_of_eq (hf x) (wpAny_bind (wpAny_holding (wpAny_mono h4 (fun jt u5 h5 => ?_) fun _ _ k => k))))))
    refine wpAny_bind (wpAny_runOwn ?_)
    rw [Around.mark_none]
    refine codeAny_mono h5 fun r u6 hr => ?_
    cases r with
    | error x => exact hr.elim
    | ok f =>
      first
        | exact wpAny_pure ⟨rfl, hr⟩
        | exact wpAny_bind (wpAny_pure (wpAny_pure ⟨rfl, hr⟩))
theorem sc2_loop1 (J : Nat → Shared → Prop)
    (one : ∀ n u, J n u → wpAny (model prog w) A (pyNext it) (fun r u1 => match r with
      | none => R (.ok .next) u1
      | some v => wpAny (model prog w) A (letOwnedTupleGo c it v) (fun _ u2 => wpAny (model prog w) A (assign c env v) (fun _ u3 =>
          wpAny (model prog w) A (eval e env) (fun x u4 => wpAny (model prog w) A (call (.builtin "set.add") [acc, x]) (fun _ u5 => ∃ m, m < n ∧ J m u5) (nb prog w A env R) u4) (nb prog w A env R) u3)
            (nb prog w A env R) u2) (nb prog w A env R) u1) (nb prog w A env R) u)
    (n : Nat) (h : J n s) : codeAny (model prog w) A (.compLoop (sc2 e a b c d sp po) 1 it acc env) R s := by
  refine codeAny_loop rfl J (fun n u hJ => ?_) n h
  show wpAny _ A ((compTurn (sc2 e a b c d sp po) 1 it acc env).onRaise (fun x => do noteFrame x env; theTreesLotGoes x)) _ _ u
  refine wpAny_noted ?_
  rw [sc2_in]
  refine wpAny_bind (wpAny_standAt (wpAny_bind (wpAny_mono (one n u hJ) (fun r u1 h1 => ?_) fun _ _ k => k)))
  cases r with
  | none => exact wpAny_pure h1
  | some v =>
    refine wpAny_bind (wpAny_mono h1 (fun _ u2 h2 => wpAny_bind (wpAny_mono h2 (fun _ u3 h3 => ?_) fun _ _ k => k)) fun _ _ k => k)
    refine wpAny_bind (wpAny_bind (wpAny_mono h3 (fun x u4 h4 => wpAny_bind (wpAny_standAt (wpAny_bind (wpAny_mono h4 (fun _ u5 h5 => ?_) fun _ _ k => k)))) fun _ _ k => k))
    first
      | exact wpAny_pure (wpAny_pure ⟨rfl, h5⟩)
      | exact wpAny_pure ⟨rfl, h5⟩
theorem sc2_begin (h0 : codeAny (model prog w) A (.compLoop (sc2 e a b c d sp po) 1 it acc env) R s)
    (h : wpAny (model prog w) A (pyIter it) (fun jt u => codeAny (model prog w) A (.compLoop (sc2 e a b c d sp po) 1 jt acc env) R u) (nb prog w A env R) s) :
    codeAny (model prog w) A (.compStart (sc2 e a b c d sp po) 1 it acc env) R s := by
  refine codeAny_of_tree ?_
  show wpAny _ _ ((compStart (sc2 e a b c d sp po) 1 it acc env).onRaise (fun x => do noteFrame x env; standAt theWindowsPlace)) _ _ s
  refine wpAny_notedAt ?_
  unfold compStart
  show wpAny _ _ (ask >>= _) _ _ s
  refine wpAny_bind (wpAny_askSetting (wpAny_ite ?_))
  split
  · first
      | exact wpAny_pure ⟨rfl, h0⟩
      | exact wpAny_bind (wpAny_pure (wpAny_pure ⟨rfl, h0⟩))
  · refine wpAny_bind (wpAny_rule ?_)
    show wpAny _ _ (standAt d.pos >>= _) _ _ s
    exact wpAny_bind (wpAny_standAt (wpAny_bind (wpAny_mono h (fun jt u k => wpAny_pure ⟨rfl, k⟩) fun _ _ k => k)))
end
end Su
namespace Su
open PySem PySem.Spec PyProof.Rows L2
section
variable {X : Cx}
/-- what the comprehension asks: the outer walk, in each of its turns the inner one, and each int put into the set -/
def tSC (w : World) (wo : TI) (go : TG) (wn : TI) (gn : TG) (te : TE) (vs vs1 : List Nat) : TE := fun σ H Q => wo σ H fun J H1 => ∀ D, H1 D = none →
  ∃ W : Nat → Nat → Hp → Prop, (∃ m, W 0 m (upd H1 D (SetO w D (fun _ => false) 0))) ∧ ∀ i m H, W i m H →
    (J.stop i H ∧ Q (.ref D) H) ∨
    (J.go i H ∧ ∃ Nx : Hp → Prop, (∀ H', Nx H' → ∃ m', m' < m ∧ W (i + 1) m' H') ∧ ∀ x H', J.yld i H x H' → go x (wipe σ vs) H' fun σ2 H2 => wipe σ2 vs = wipe σ vs ∧
      wn σ2 H2 fun L H3 => ∃ U : Nat → Nat → Hp → Prop, (∃ m, U 0 m H3) ∧ ∀ j k H, U j k H →
        (L.stop j H ∧ Nx H) ∨
        (L.go j H ∧ ∃ Ny : Hp → Prop, (∀ H', Ny H' → ∃ k', k' < k ∧ U (j + 1) k' H') ∧ ∀ y H', L.yld j H y H' → gn y (wipe σ2 vs1) H' fun σ3 H4 => wipe σ3 vs1 = wipe σ2 vs1 ∧
          te σ3 H4 fun z H5 => ∃ (c : Int) (S : Int → Bool) (n : Nat), z = .int c ∧ H5 D = some (SetO w D S n) ∧ n + 1 < scanBound ∧
            Ny (upd H5 D (SetO w D (fun j => S j || decide (j = c)) (if S c = true then n else n + 1)))))
abbrev setE (w : World) : Obj := { cls := .type "set", dict := none, data := .set #[] 0 (.fresh 0 0 (!w.params.followText "set-order")) }
theorem put_int {pins : List (Addr × Obj)} {σ : L2.St} {H : Hp} {s : Shared} {E : Value → Shared → Prop} {D : Addr} {S : Int → Bool} {n : Nat} {k : Int} {v : Value} {Q : Value → Shared → Prop}
    (I : Inv X pins σ H s) (hD : H D = some (SetO X.w D S n)) (few : n + 1 < scanBound) (r : RelV (.int k) v)
    (h : ∀ t, Inv X pins σ (upd H D (SetO X.w D (fun j => S j || decide (j = k)) (if S k = true then n else n + 1))) t → Q .none t) :
    wpAny (model X.prog X.w) X.A (call (.builtin "set.add") [.ref D, v]) Q E s := by
  obtain ⟨tk, rfl⟩ := r
  refine setR_add (setO_get I hD) few fun g sb new => ?_
  have there : ∃ u, g.get? D = some u := by
    have ⟨o, _, _, _, ho, _⟩ := new
    exact ⟨o, ho⟩
  refine h _ (I.write (e := D) (t' := s.toks + 1) (by rw [hD]; trivial) (.inl rfl) (fun b u hb hu => ?_) there (setO_new new))
  exact (sb.2 b hb).trans hu
theorem pe_sc2 {e a b c d : Expr} {sp : Scope} {own : List (Str × Nat)} {vs1 : List Nat} {pos : Pos} {wo wn : TI} {go gn : TG} {te : TE} (hc : X.calm = true) (hN : X.N.Nodup) (pio : PI X a b wo)
    (ok : BlkOk X.N X.env.scope sp own) (hv : ∀ i ∈ vs1, i ∈ own.map (·.2))
    (pgo : ∀ (s : Shared) (H : Hp) (C : Addr) (cl : List (Str × Addr)) (fp : List Addr), PG (X.blk s H sp (compEnvC sp cl C X.env) fp) a go)
    (pin : ∀ (s : Shared) (H : Hp) (C : Addr) (cl : List (Str × Addr)) (fp : List Addr), PI (X.blk s H sp (compEnvC sp cl C X.env) fp) c d wn)
    (pgn : ∀ (s : Shared) (H : Hp) (C : Addr) (cl : List (Str × Addr)) (fp : List Addr), PG (X.blk s H sp (compEnvC sp cl C X.env) fp) c gn)
    (pe : ∀ (s : Shared) (H : Hp) (C : Addr) (cl : List (Str × Addr)) (fp : List Addr), PE (X.blk s H sp (compEnvC sp cl C X.env) fp) e te)
    (fo : ∀ x, foldedSetIterable b X.env x = pure x := by intro _; rfl) (fn : ∀ env x, foldedSetIterable d env x = pure x := by intro _ _; rfl) :
    PE X (sc2 e a b c d sp pos) (tSC X.w wo go wn gn te (own.map (·.2)) vs1) := by
  refine ⟨fun pins s σ H Q I hq => ?_⟩
  rw [PpSet.eval_SetComp]
  have cl0 : ∀ y ∈ sp.names, y.2 = .free → ∃ k, X.env.cells.lookup y.1 = some k := by
    intro y hy z
    rcases ok.free y hy z with k | k
    · exact I.ok.has _ (.inl k)
    · exact I.ok.has _ (.inr k)
  refine wpAny_comprehension_free (use := none) rfl fo (closure_ok cl0) ok.kind (fun y hy z => by rw [ok.uniq y hy, z]) ?_
  refine thn (pio.run pins s σ H _ I hq) fun xv s1 hx => thn hx fun iv s2 h2 => ?_
  obtain ⟨it, fa, tn, J, Hb, rfl, Ib, T, stb, fb, q⟩ := h2
  refine PpSet.newSet_ok (newEnv_comp ?_)
  generalize eD : s2.heap.objs.size = D
  obtain ⟨W, ⟨m0, w0⟩, turn⟩ := q D (Ib.hok.fresh (Nat.le_of_eq eD))
  generalize e3 : ({ s2 with heap := s2.heap.push (setE X.w) } : Shared) = s3
  have hp3 : s3.heap = s2.heap.push (setE X.w) := by rw [← e3]
  have Ic : Inv X pins σ (upd Hb D (SetO X.w D (fun _ => false) 0)) s3 := by
    rw [← e3]
    refine Ib.laid (t' := s2.toks) (fun _ _ z => Heap.get?_push_of_some _ z) (Nat.le_of_eq eD) ?_
    rw [← eD]
    exact setO_new (setR_fresh X.w)
  have small : ∀ x ∈ fa, x < s2.heap.objs.size := by
    intro x hx
    obtain ⟨o, z, _⟩ := T.obj _ _ stb x hx
    exact Heap.lt_size z
  have fc : ∀ x ∈ fa, FpOk X pins (upd Hb D (SetO X.w D (fun _ => false) 0)) x ∧ x < s3.heap.objs.size := by
    intro x hx
    have lt := small x hx
    constructor
    · refine ⟨?_, (fb x hx).2⟩
      rw [upd_ne (by rw [← eD]; exact Nat.ne_of_lt lt)]
      exact (fb x hx).1
    · rw [hp3, Heap.size_push]
      exact Nat.lt_succ_of_lt lt
  have stc : tn 0 s3.heap := T.keep _ _ _ stb fun _ _ _ z => by
    rw [hp3]
    exact Heap.get?_push_of_some _ z
  have Id := block_start Ic ok hN fc
  have qgo := pgo s3 (upd Hb D (SetO X.w D (fun _ => false) 0)) s3.heap.objs.size (cellsFrom (s3.heap.objs.size + 1) sp.names (cloFrom X.env.cells sp.names [])) fa
  have qin := pin s3 (upd Hb D (SetO X.w D (fun _ => false) 0)) s3.heap.objs.size (cellsFrom (s3.heap.objs.size + 1) sp.names (cloFrom X.env.cells sp.names [])) fa
  have qgn := pgn s3 (upd Hb D (SetO X.w D (fun _ => false) 0)) s3.heap.objs.size (cellsFrom (s3.heap.objs.size + 1) sp.names (cloFrom X.env.cells sp.names [])) fa
  have qe := pe s3 (upd Hb D (SetO X.w D (fun _ => false) 0)) s3.heap.objs.size (cellsFrom (s3.heap.objs.size + 1) sp.names (cloFrom X.env.cells sp.names [])) fa
  have nofa : ∀ x ∈ fa, (upd Hb D (SetO X.w D (fun _ => false) 0)) x = none := fun x hx => (fc x hx).1.1
  show codeAny _ _ (.compStart (sc2 e a b c d sp pos) 0 (.ref it) (.ref D) (compEnvC sp (cellsFrom (s3.heap.objs.size + 1) sp.names (cloFrom X.env.cells sp.names [])) s3.heap.objs.size X.env)) _ { s3 with heap := pushCells (s3.heap.push { cls := .type "dict", data := .dict #[] }) sp.names }
  generalize eE : compEnvC sp (cellsFrom (s3.heap.objs.size + 1) sp.names (cloFrom X.env.cells sp.names [])) s3.heap.objs.size X.env = en at Id qgo qin qgn qe ⊢
  have locE : en.locals = s3.heap.objs.size := by
    subst eE
    rfl
  generalize eH : upd Hb D (SetO X.w D (fun _ => false) 0) = Hc at Ic Id qgo qin qgn qe w0 nofa fc
  generalize e4 : ({ s3 with heap := pushCells (s3.heap.push { cls := .type "dict", data := .dict #[] }) sp.names } : Shared) = s4 at Id ⊢
  have std : tn 0 s4.heap := T.keep _ _ _ stc fun _ _ _ z => by
    rw [← e4]
    exact pushCells_keeps _ _ _ _ (Heap.get?_push_of_some _ z)
  have foot : ∀ {τ : L2.St} {G : Hp} {t : Shared}, Inv (X.blk s3 Hc sp en fa) [] τ G t → (∀ x ∈ fa, G x = none) → ∀ x ∈ fa, FpOk (X.blk s3 Hc sp en fa) [] G x := by
    intro τ G t It hn x hx
    refine ⟨hn x hx, (It.ok.exf x hx).1, It.ok.exfs x hx, .inl hx, fun y k z => (It.ok.exf x hx).2 y k z, fun p hp => ?_⟩
    exact absurd (show p ∈ ([] : List (Addr × Obj)) ++ [] from hp) (by simp)
  have main : codeAny (model X.prog X.w) X.A (.compLoop (sc2 e a b c d sp pos) 0 (.ref it) (.ref D) en) (compPost (model X.prog X.w) X.A X.xe none (fun u t => EP X pins σ Q u t) (.ref D) s3.heap.objs.size) s4 := by
    refine sc2_loop0 (fn en) (fun n t => ∃ i G, Inv (X.blk s3 Hc sp en fa) [] (wipe σ (own.map (·.2))) G t ∧ tn i t.heap ∧ (∀ x ∈ fa, G x = none) ∧ W i n G) ?_ m0 ⟨0, Hc, Id, std, nofa, w0⟩
    rintro n s5 ⟨i, H5, I5, st5, n5, w5⟩
    rcases turn i n H5 w5 with ⟨stop, qq⟩ | ⟨hgo, Nx, hNx, step⟩
    · refine thnF (T.done (X.blk s3 Hc sp en fa) rfl rfl rfl hc i [] s5 _ H5 (fun _ _ => False) I5 (foot I5 n5) st5 stop) fun r s6 ⟨hr, I6⟩ => ?_
      subst hr
      have I7 : Inv X pins σ H5 s6 := by
        refine Ic.call' (ch := fa) I6.os I6.base I6.hok I6.bare fun x hx => ?_
        have z := (fc x hx).1.2
        exact ⟨z.2.2.1, z.1, z.2.2.2.1, z.2.2.2.2⟩
      have nl : H5 s3.heap.objs.size = none := by
        have z : H5 en.locals = none := I6.free
        rwa [locE] at z
      obtain ⟨m, hn, _⟩ := I6.loc
      have hn2 : s6.heap.Ns en.locals m := hn
      rw [locE] at hn2
      obtain ⟨f0, f1, f2, f3, f4, f5⟩ := Ic.fpOk (Nat.le_refl _) nl
      refine ⟨m, hn2, fun g sb => ?_⟩
      exact ⟨.ref D, H5, I7.turned (t' := s6.toks) (fun y o hy z => (sb.2 y hy).trans z) f0 f1 f3 f4 f5, rfl, qq⟩
    · refine thnF (T.item (X.blk s3 Hc sp en fa) rfl rfl rfl hc i [] s5 _ H5 (fun _ _ => False) I5 (foot I5 n5) st5 hgo) fun r s6 ⟨u, hr, h6⟩ => ?_
      subst hr
      refine thnF h6 fun _ s7 ⟨x, H7, I7, r7, y7, st7, n7⟩ => ?_
      refine thnF (qgo.run _ s7 _ H7 x u _ (I7.pinned (foot I7 n7) (T.obj _ _ st7)) r7 (step x H7 y7)) fun _ s8 ⟨σ8, H8, I8, hw8, q8⟩ => ?_
      have shut : ∀ {τ : L2.St} {t : Shared} {G : Hp}, Inv (X.blk s3 Hc sp en fa) ([] ++ pinsAt fa s7.heap) τ G t → (wipe σ (own.map (·.2))).length = τ.length →
          (∀ (j : Nat) v, (wipe σ (own.map (·.2)))[j]? = some (some v) → τ[j]? = some (some v)) → Nx G →
          ∃ m, m < n ∧ ∃ i G, Inv (X.blk s3 Hc sp en fa) [] (wipe σ (own.map (·.2))) G t ∧ tn i t.heap ∧ (∀ x ∈ fa, G x = none) ∧ W i m G := by
        intro τ t G It hl hk nx
        obtain ⟨m', lt, w'⟩ := hNx G nx
        have held : ∀ y ∈ fa, ∀ o, s7.heap.get? y = some o → t.heap.get? y = some o ∧ G y = none := by
          intro y hy o z
          have k := It.pin (y, o) (List.mem_append_right _ (List.mem_append_right _ (mem_pinsAt hy z)))
          exact ⟨k.1, k.2.1⟩
        refine ⟨m', lt, i + 1, G, (It.unpinned (pins := [])).weak hl hk, T.keep _ _ _ st7 fun y hy o z => (held y hy o z).1, fun y hy => ?_, w'⟩
        obtain ⟨o, z, _⟩ := T.obj _ _ st7 y hy
        exact (held y hy o z).2
      have len8 : (wipe σ (own.map (·.2))).length = σ8.length := by
        rw [← hw8, wipe_length]
      have keep8 : ∀ (j : Nat) v, (wipe σ (own.map (·.2)))[j]? = some (some v) → (wipe σ8 vs1)[j]? = some (some v) := by
        intro j v z
        rw [← hw8] at z
        obtain ⟨z1, z2⟩ := wipe_some z
        rw [wipe_out fun k => z2 (hv j k)]
        exact z1
      refine thnF (qin.run _ s8 σ8 H8 _ I8 q8) fun xv s9 hx => thnF hx fun iw s10 h10 => ?_
      obtain ⟨jt, fi, tm, L, H10, rfl, I10, T1, st10, f10, U, ⟨m1, u1⟩, turn1⟩ := h10
      have foot1 : ∀ {G : Hp}, (∀ y ∈ fi, G y = none) → ∀ y ∈ fi, FpOk (X.blk s3 Hc sp en fa) ([] ++ pinsAt fa s7.heap) G y := fun hn y hy => ⟨hn y hy, (f10 y hy).2⟩
      have inner : codeAny (model X.prog X.w) X.A (.compLoop (sc2 e a b c d sp pos) 1 (.ref jt) (.ref D) en)
          (fun r t => match r with
            | .ok _ => ∃ m, m < n ∧ ∃ i G, Inv (X.blk s3 Hc sp en fa) [] (wipe σ (own.map (·.2))) G t ∧ tn i t.heap ∧ (∀ x ∈ fa, G x = none) ∧ W i m G
            | .error _ => False) s10 := by
        refine sc2_loop1 (fun k t => ∃ j G, Inv (X.blk s3 Hc sp en fa) ([] ++ pinsAt fa s7.heap) (wipe σ8 vs1) G t ∧ tm j t.heap ∧ (∀ y ∈ fi, G y = none) ∧ U j k G) ?_ m1
          ⟨0, H10, I10.weak (wipe_length _ _) (fun j v z => (wipe_some z).1), st10, fun y hy => (f10 y hy).1, u1⟩
        rintro k s11 ⟨j, H11, I11, st11, n11, w11⟩
        rcases turn1 j k H11 w11 with ⟨stop1, nx1⟩ | ⟨go1, Ny, hNy, step1⟩
        · refine thnF (T1.done (X.blk s3 Hc sp en fa) rfl rfl rfl hc j _ s11 (wipe σ8 vs1) H11 (fun _ _ => False) I11 (foot1 n11) st11 stop1) fun r s12 ⟨hr, I12⟩ => ?_
          subst hr
          exact shut I12 (len8.trans (wipe_length σ8 vs1).symm) keep8 nx1
        · refine thnF (T1.item (X.blk s3 Hc sp en fa) rfl rfl rfl hc j _ s11 (wipe σ8 vs1) H11 (fun _ _ => False) I11 (foot1 n11) st11 go1) fun r s12 ⟨v1, hr, h12⟩ => ?_
          subst hr
          refine thnF h12 fun _ s13 ⟨x1, H13, I13, r13, y13, st13, n13⟩ => ?_
          refine thnF (qgn.run _ s13 (wipe σ8 vs1) H13 x1 v1 _ (I13.pinned (foot1 n13) (T1.obj _ _ st13)) r13 (step1 x1 H13 y13)) fun _ s14 ⟨σ14, H14, I14, hw14, q14⟩ => ?_
          refine thnF (qe.run _ s14 σ14 H14 _ I14 q14) fun z s15 ⟨yv, H15, I15, r15, cc, S, nn, ey, hD15, few, nx⟩ => ?_
          subst ey
          refine put_int (X := X.blk s3 Hc sp en fa) I15 hD15 few r15 fun s16 I16 => ?_
          obtain ⟨m', lt, w'⟩ := hNy _ nx
          have held : ∀ y ∈ fi, ∀ o, s13.heap.get? y = some o → s16.heap.get? y = some o ∧ (upd H15 D (SetO X.w D (fun j => S j || decide (j = cc)) (if S cc = true then nn else nn + 1))) y = none := by
            intro y hy o z
            have k := I16.pin (y, o) (List.mem_append_right _ (List.mem_append_right _ (mem_pinsAt hy z)))
            exact ⟨k.1, k.2.1⟩
          refine ⟨m', lt, j + 1, _, I16.unpinned.weak (by rw [← hw14, wipe_length]) (fun j v z => by rw [← hw14] at z; exact (wipe_some z).1), T1.keep _ _ _ st13 fun y hy o z => (held y hy o z).1, fun y hy => ?_, w'⟩
          obtain ⟨o, z, _⟩ := T1.obj _ _ st13 y hy
          exact (held y hy o z).2
      exact sc2_begin inner (T1.self X.A 0 _ _ _ st10 inner)
  exact PpSet.codeAny_compStart_set main (T.self X.A 0 _ _ _ std main)
end
end Su
/-! ### SE: sets of ints: set(l), sorted(s) of any size -/
namespace Su
open PySem PySem.Spec PyProof.Rows L2
/-- the set that set(..) begins with -/
abbrev set0 (w : World) : Obj := { cls := .type "set", dict := none, data := .set #[] 0 (.fresh 0 0 (!w.params.followText "set-order")) }
section
variable {P : Program} {w : World} {A : Around} {E : Value → Shared → Prop} {s : Shared}
theorem set_of_list {l : Addr} {its : Array Value} (ns : List Int) {Q : Value → Shared → Prop} (hh : A.handled = none) (hl : s.heap.IsList l its) (ia : IntsAre its.toList ns) (few : ns.length + 1 < scanBound)
    (q : ∀ (h' : Heap) (tk c : Nat), SetR w h' s.heap.objs.size (fun j => decide (j ∈ ns)) c → c ≤ ns.length → (∀ b o, s.heap.get? b = some o → h'.get? b = some o) → Q (.ref s.heap.objs.size) { s with heap := h', toks := tk }) :
    wpAny (model P w) A (call (.type "set") [.ref l]) Q E s := by
  have sz : its.size = ns.length := by
    have z := IntsAre.length ia
    rwa [Array.length_toList] at z
  obtain ⟨c0, tl0, m0⟩ := F.called_set.mro
  have m1 := F.called_set.made
  have m2 := F.called_set.sub
  have m3 := F.called_set.notType
  have m4 := F.called_set.canCreate
  have m5 := F.typeCall_set_1 (.ref l)
  refine wpAny_call (codeAny_of_tree ?_)
  show wpAny _ _ (callAny (.type "set") _) _ _ _
  refine wpAny_pure ⟨Code.quiet_builtin _ (by decide +kernel), codeAny_builtin F.entry_type_call ?_⟩
  rw [Around.under_plain (weight_type_call_type "set" [.ref l] []) rfl]
  repeat (any_goals (first | assumption | wp_step))
  refine codeAny_mono (code_set_led1 (.ref l) (E := E) (Q₁ := fun x t => x = .ref s.heap.objs.size ∧ t = { s with heap := s.heap.push (set0 w) }) ⟨rfl, rfl⟩) fun r t hr => ?_
  match r, hr with
  | .error e, hr => exact hr
  | .ok .next, hr => exact hr.elim
  | .ok .brk, hr => exact hr.elim
  | .ok .cont, hr => exact hr.elim
  | .ok (.ret x), hr =>
    obtain ⟨rfl, rfl⟩ := hr
    have at0 : (s.heap.push (set0 w)).get? s.heap.objs.size = some (set0 w) := Heap.get?_push_size _ rfl
    have ty0 : Shared.TypeIs { s with heap := s.heap.push (set0 w) } (.ref s.heap.objs.size) "set" := ⟨_, at0, rfl⟩
    have n1 := F.called_set.init.lookup
    have n2 := F.called_set.init.bind (.ref s.heap.objs.size)
    repeat (any_goals (first | assumption | wp_step))
    refine codeAny_mono (codeAny_call_builtin (R := wants (fun r t => r = .none ∧ ∃ h' tk c, t = { s with heap := h', toks := tk } ∧ SetR w h' s.heap.objs.size (fun j => decide (j ∈ ns)) c ∧ c ≤ ns.length ∧ ∀ b o, s.heap.get? b = some o → h'.get? b = some o) E)
      F.called_set.init.plain F.entry_set_init (check_set_init_1 ty0 ?_)) fun r2 t2 hr2 => ?_
    · obtain ⟨⟨oc, od, odt, os⟩, ho, hc, nl, hd⟩ := hl
      simp only at hc hd
      subst hc hd
      have lt : l < s.heap.objs.size := Heap.lt_size ho
      have ho1 : (s.heap.push (set0 w)).get? l = some { cls := .type "list", dict := od, data := .seq its nl, slots := os } := Heap.get?_push_of_some _ ho
      have isl : (s.heap.push (set0 w)).IsList l its := ⟨_, ho1, rfl, nl, rfl⟩
      have p1 := F.sub_list_set
      have p2 := F.sub_list_frozenset
      have p3 : (Value.type "list" == Value.type "dict") = false := by decide
      unfold Builtin.«set.__init__» noKeywords Builtin.Frozenset.updateFrom
      generalize hPI : pyIter = PI
      wp_walk
      subst hPI
      refine wpAny_pyIter_list isl (wpAny_bind (wpAny_runValue ?_))
      have size1 : (s.heap.push (set0 w)).objs.size = s.heap.objs.size + 1 := Heap.size_push ..
      have ap : l ≠ (s.heap.push (set0 w)).objs.size := by
        rw [size1]
        exact Nat.ne_of_lt (Nat.lt_succ_of_lt lt)
      have ap2 : s.heap.objs.size ∉ [(s.heap.push (set0 w)).objs.size, l] := by
        rw [size1]
        simp only [List.mem_cons, List.not_mem_nil, or_false, not_or]
        exact ⟨Nat.ne_of_lt (Nat.lt_succ_self _), Nat.ne_of_gt lt⟩
      refine set_update_ints ((Walks.list (by simp [hh]) _ l ap its).toS) s.heap.objs.size ap2 ns sz few (fun i v hv => ?_) (its.size - 0) 0 _ (by omega) (Nat.zero_le _) ⟨⟨_, Heap.get?_push_size _ rfl, rfl, rfl⟩, isl.push _⟩ ⟨0, Nat.le_refl 0, setR_new_at (Heap.get?_push_of_some _ at0)⟩ fun t3 c3 mv hc3 hS3 => ?_
      · have hi : i < ns.length := by
          rw [← sz]
          exact (Array.getElem?_eq_some_iff.mp hv).1
        obtain ⟨tk, e⟩ := PyProof.Rows.IntsAre.int_at ia i v (by rw [Array.getElem?_toList]; exact hv)
        refine ⟨ns[i], tk, List.getElem?_eq_getElem hi, ?_⟩
        rw [e, List.getD_eq_getElem?_getD, List.getElem?_eq_getElem hi] <;> rfl
      · obtain ⟨h3, g3, d3, tk3, os3⟩ := t3
        obtain rfl : g3 = s.gens := mv.gens
        obtain rfl : d3 = s.drawn := mv.drawn
        obtain rfl : os3 = s.os := mv.os
        show wpAny _ _ _ _ _ _
        refine wpAny_pure ?_
        show wpAny _ _ (ret Value.none) _ _ _
        refine wpAny_pure ⟨rfl, h3, tk3, c3, rfl, hS3, by omega, fun b o e => ?_⟩
        have bl : b < s.heap.objs.size := Heap.lt_size e
        refine mv.heap b o ?_ (Heap.get?_push_of_some _ (Heap.get?_push_of_some _ e))
        rw [size1]
        simp only [List.mem_cons, List.not_mem_nil, or_false, not_or]
        exact ⟨Nat.ne_of_lt bl, Nat.ne_of_lt (Nat.lt_succ_of_lt bl)⟩
    · match r2, hr2 with
      | .error e, hr2 => exact hr2
      | .ok .next, hr2 => exact hr2.elim
      | .ok .brk, hr2 => exact hr2.elim
      | .ok .cont, hr2 => exact hr2.elim
      | .ok (.ret y), hr2 =>
        obtain ⟨rfl, h', tk, c, rfl, hS, hc, hk⟩ := hr2
        repeat (any_goals (first | assumption | wp_step))
        exact q _ _ _ hS hc hk
end
/-- a set of ints whose members are those of l -/
def SetIs (w : World) (H : Hp) (D : Addr) (l : List Int) : Prop := ∃ (S : Int → Bool) (n : Nat) (d : List Int), H D = some (SetO w D S n) ∧ d.Nodup ∧ d.length = n ∧ (∀ k, S k = true ↔ k ∈ d) ∧ ∀ k, k ∈ d ↔ k ∈ l
theorem SetIs.add {w : World} {H : Hp} {D : Addr} {l : List Int} (h : SetIs w H D l) {A : List Int} (hA : A.length < 1000) (hl : ∀ k ∈ l, k ∈ A) (c : Int) :
    ∃ (S : Int → Bool) (n : Nat), H D = some (SetO w D S n) ∧ n + 1 < scanBound ∧ ∀ (H' : Hp), H' D = some (SetO w D (fun j => S j || decide (j = c)) (if S c = true then n else n + 1)) → SetIs w H' D (l ++ [c]) := by
  obtain ⟨S, n, d, e, nd, hn, hS, hd⟩ := h
  have z := nodup_few (S := A) nd fun k hk => hl k ((hd k).mp hk)
  refine ⟨S, n, e, by unfold scanBound; omega, fun H' e' => ?_⟩
  by_cases hc : S c = true
  · rw [if_pos hc] at e'
    refine ⟨_, n, d, e', nd, hn, fun k => ?_, fun k => ?_⟩
    · rw [Bool.or_eq_true, decide_eq_true_eq, hS k]
      constructor
      · rintro (h | rfl)
        · exact h
        · exact (hS k).mp hc
      · exact .inl
    · rw [List.mem_append, List.mem_singleton, hd k]
      constructor
      · exact .inl
      · rintro (h | rfl)
        · exact h
        · exact (hd k).mp ((hS k).mp hc)
  · rw [if_neg hc] at e'
    refine ⟨_, n + 1, c :: d, e', List.nodup_cons.mpr ⟨fun h => hc ((hS c).mpr h), nd⟩, by rw [List.length_cons, hn], fun k => ?_, fun k => ?_⟩
    · rw [Bool.or_eq_true, decide_eq_true_eq, hS k, List.mem_cons]
      exact Or.comm
    · rw [List.mem_append, List.mem_singleton, List.mem_cons, hd k]
      exact Or.comm
theorem SetIs.of {w : World} {h : Heap} {H : Hp} {D : Addr} {S : Int → Bool} {c : Nat} {l : List Int} (R : SetR w h D S c) (e : H D = some (SetO w D S c)) (hl : ∀ k, S k = true ↔ k ∈ l) : SetIs w H D l := by
  obtain ⟨o, es, ep, t, ho, hex, hd, g, nd, hm, hb, hf, hn, _⟩ := R
  exact ⟨S, c, es.toList.map keyOf, e, nd, by rw [List.length_map, Array.length_toList]; exact hn, hm, fun k => (hm k).symm.trans (hl k)⟩
section
variable {X : Cx}
/-- set(l), l a list of ints -/
def rSetL (w : World) (K : PySem.W.Frag) : List V → Hp → VK → Prop := fun xs H Q => ∃ (l : Addr) (ns : List Int), xs = [.ref l] ∧ SqL K H l (ns.map V.int) ∧ ns.length ≤ 4000 ∧ ∀ (p : Addr) (H' : Hp), Same H H' → H p = none → SetIs w H' p ns → Q (.ref p) H'
theorem cr_setL (hc : X.calm = true) : CallR X (.type "set") (rSetL X.w X.K) := by
  intro pins s σ H xs us Q I r h
  obtain ⟨l, ns, rfl, hq, hl, q⟩ := h
  rw [Vals.ref1 r]
  obtain ⟨its, rv, pl, hz⟩ := I.list hq
  refine set_of_list ns (I.ok.hd hc) pl.isList (by simpa using ints_of rv) (by unfold scanBound; omega) fun h' tk c hR hc' hk => ?_
  have new : H s.heap.objs.size = none := I.hok.fresh (Nat.le_refl _)
  refine ⟨.ref s.heap.objs.size, _, I.laid (t' := tk) hk (Nat.le_refl _) (setO_new hR), rfl, q _ _ (same_upd new) new ?_⟩
  exact SetIs.of hR upd_same fun k => decide_eq_true_iff
/-- sorted(s), s a set of ints -/
theorem sorted_setA {P : Program} {w : World} {A : Around} {E : Value → Shared → Prop} {s : Shared} {a : Addr} {S : Int → Bool} {n : Nat} {Q : Value → Shared → Prop} (R : SetR w s.heap a S n) (hh : A.handled = none)
    (q : ∀ (t : Shared) (p : Addr) (out : Array Value) (c : Nat) (ns : List Int), (∀ b o, s.heap.get? b = some o → t.heap.get? b = some o) → t.gens = s.gens → t.os = s.os → s.heap.objs.size ≤ p →
      t.heap.get? p = some (seqObj "list" out c) → IntsAre out.toList ns → ns.Pairwise (· < ·) → (∀ k, k ∈ ns ↔ S k = true) → ns.length < 4096 → Q (.ref p) t) :
    wpAny (model P w) A (call (.builtin "sorted") [.ref a]) Q E s := by
  obtain ⟨o, es, ep, t, ho, hex, hd, g, nd, hm, hb, hf, hn, hr, hl⟩ := R
  refine Calls.call_function_entry kind_sorted plain_sorted entry_sorted (args_sorted1 _) ?_
  unfold Builtin.«sorted»
  refine wpAny_bind (m := checkCount "sorted" 1 1 _) (wpAny_pure (wpAny_bind (collect_set (A := A.in1) hh ⟨o, ho, hex.1, hd⟩ hf hb hr hl fun s1 vs k1 hz g1 o1 pm => ?_)))
  have len : vs.length = es.size := by
    rw [pm.length_eq, List.length_map, Array.length_toList]
  have hI : IntsAre vs (vs.map Builtin.Re.reRawOf) := L2.ints_of vs fun v hv => by
    obtain ⟨x, hx, z⟩ := List.mem_map.mp (pm.mem_iff.mp hv)
    obtain ⟨k, tk, h1, _⟩ := g x hx
    exact ⟨k, tk, z ▸ h1⟩
  have pk : (vs.map Builtin.Re.reRawOf).Perm (es.toList.map keyOf) := by
    have z := pm.map Builtin.Re.reRawOf
    rwa [List.map_map] at z
  have small : vs.length ≤ sizeLine := by
    have : es.size < 4096 := hb
    rw [len, sizeLine_eq]
    omega
  refine wpAny_bind (wpAny_newList ?_ small)
  have at1 : (s1.heap.push (seqObj "list" vs.toArray 0)).get? s1.heap.objs.size = some (seqObj "list" vs.toArray 0) := Heap.get?_push_size _ rfl
  refine wpAny_bind (wpAny_holding (wpAny_call_entry slot_list_sort ⟨_, at1, rfl⟩ entry_list_sort (SrtO.list_sort_ord SrtO.swo_int at1 small (fun h2 => SrtO.ints_sortable hI h2) fun out h1 h2 => ⟨_, rfl, ?_⟩) (args_list_sort _)))
  obtain ⟨k3, k4, k5⟩ := SrtO.ints_out hI h1 h2
  obtain ⟨c, hc⟩ := sortedHeap_at (vs := vs) (out := out.toArray) at1
  have pn := k4.trans pk
  refine wpAny_pure ⟨_, rfl, q _ s1.heap.objs.size out.toArray c (out.map SrtO.iv) (fun b u z => ?_) g1 o1 hz hc k3 (lt_of_le_nodup _ k5 (pn.nodup_iff.mpr nd)) (fun k => by rw [pn.mem_iff, ← hm k]) ?_⟩
  · have y := k1 b u z
    have lt := Heap.lt_size y
    show (sortedHeap (s1.heap.push (seqObj "list" vs.toArray 0)) s1.heap.objs.size vs out.toArray).get? b = some u
    rw [sortedHeap_old (Nat.ne_of_lt lt) (by rw [size_push']; exact Nat.lt_succ_of_lt lt)]
    exact Heap.get?_push_of_some _ y
  · rw [pn.length_eq, List.length_map, Array.length_toList]
    exact hb
def rSortedS (w : World) : List V → Hp → VK → Prop := fun vs H Q => ∃ (a : Addr) (l : List Int), vs = [.ref a] ∧ SetIs w H a l ∧ ∀ (ns : List Int) (p : Addr), ns.Pairwise (· < ·) → (∀ k : Int, k ∈ ns ↔ k ∈ l) → H p = none → Q (.ref p) (upd H p (.lst (ns.map V.int)))
theorem cr_sortedS (hc : X.calm = true) : CallR X (.builtin "sorted") (rSortedS X.w) := by
  intro pins s σ H vs us Q I r h
  obtain ⟨a, l, rfl, ⟨S, n, d, ha, nd, hn, hS, hd⟩, q⟩ := h
  rw [Vals.ref1 r]
  refine sorted_setA (setO_get I ha) (I.ok.hd hc) fun t p out c ns k g o hp hg hi hs hm hl => ?_
  have len : (ns.map V.int).length ≤ sizeLine := by
    rw [List.length_map, sizeLine_eq]
    omega
  have new : H p = none := I.hok.fresh hp
  have J : Inv X pins σ (upd H p (.lst (ns.map V.int))) { s with heap := t.heap, gens := t.gens, drawn := t.drawn, toks := t.toks } :=
    I.call (ch := []) (Un.laid k hp new) (I.hok.laid k hp ⟨len, out.toList, c, vals_of_ints hi, hg⟩) (by rw [g]; exact I.bare) (fun _ z => nomatch z)
  have et : t = { s with heap := t.heap, gens := t.gens, drawn := t.drawn, toks := t.toks } := by
    cases t
    cases s
    cases o
    rfl
  rw [et]
  exact ⟨.ref p, _, J, rfl, q ns p hs (fun k => (hm k).trans ((hS k).trans (hd k))) new⟩
end
end Su
/-! ### WA: webs in the heap -/
namespace Su
open PySem PySem.Spec PyProof.Rows L2
/-- a tuple, by whatever it was made -/
def T2 (H : Hp) (a : Addr) (xs : List V) : Prop := PTup H a xs ∨ H a = some (.tup xs)
theorem T2.sq {K : PySem.W.Frag} {H : Hp} {a : Addr} {xs : List V} (h : T2 H a xs) : SqT K H a xs := by
  rcases h with h | h
  · exact h.sq
  · exact .inl (.inl h)
theorem T2.same {H H' : Hp} {a : Addr} {xs : List V} (h : T2 H a xs) (s : Same H H') : T2 H' a xs := by
  rcases h with h | h
  · exact .inl (h.same s)
  · exact .inr (s _ _ h)
theorem T2.ty {K : PySem.W.Frag} {H : Hp} {a : Addr} {xs : List V} (h : T2 H a xs) : TyX K H (.ref a) (.type "tuple") := by
  rcases h with ⟨o, h, _⟩ | h
  · exact .fTuple h
  · exact .base (.tup h)
/-- all tuples stay -/
def K2 (H H' : Hp) : Prop := ∀ a xs, T2 H a xs → T2 H' a xs
theorem K2.same {H H' : Hp} (s : Same H H') : K2 H H' := fun _ _ h => h.same s
theorem K2.trans {H H1 H2 : Hp} (a : K2 H H1) (b : K2 H1 H2) : K2 H H2 := fun x xs h => b x xs (a x xs h)
/-- what is no tuple may be changed -/
theorem K2.upd {H : Hp} {a : Addr} {o u : HO} (e : H a = some o) (n : ∀ xs, o ≠ .tup xs) (n2 : ∀ b xs, o ≠ .frz b (.tup xs)) : K2 H (upd H a u) := by
  rintro b xs (⟨ob, h, d⟩ | h)
  · refine .inl ⟨ob, ?_, d⟩
    rw [upd_ne]
    · exact h
    · rintro rfl
      rw [e] at h
      cases h
      exact n2 _ _ rfl
  · refine .inr ?_
    rw [upd_ne]
    · exact h
    · rintro rfl
      rw [e] at h
      cases h
      exact n _ rfl
theorem K2.lst {H : Hp} {a : Addr} {xs : List V} {u : HO} (e : H a = some (.lst xs)) : K2 H (L2.upd H a u) := K2.upd e (fun _ z => nomatch z) (fun _ _ z => nomatch z)
abbrev Rw := List Int × List Int
def RowAt (H : Hp) (v : V) (r : Rw) : Prop := ∃ a b c, v = .ref a ∧ T2 H a [.ref b, .ref c] ∧ T2 H b (r.1.map V.int) ∧ T2 H c (r.2.map V.int)
theorem RowAt.keep {H H' : Hp} {v : V} {r : Rw} (k : K2 H H') (h : RowAt H v r) : RowAt H' v r := by
  obtain ⟨a, b, c, e, h1, h2, h3⟩ := h
  exact ⟨a, b, c, e, k _ _ h1, k _ _ h2, k _ _ h3⟩
def RowsAt (H : Hp) : List V → List Rw → Prop
  | [], [] => True
  | v :: vs, r :: rs => RowAt H v r ∧ RowsAt H vs rs
  | _, _ => False
theorem RowsAt.keep {H H' : Hp} (k : K2 H H') : ∀ {vs : List V} {rs : List Rw}, RowsAt H vs rs → RowsAt H' vs rs
  | [], [], _ => trivial
  | _ :: _, _ :: _, h => ⟨h.1.keep k, RowsAt.keep k h.2⟩
  | [], _ :: _, h => h.elim
  | _ :: _, [], h => h.elim
theorem RowsAt.len {H : Hp} : ∀ {vs : List V} {rs : List Rw}, RowsAt H vs rs → vs.length = rs.length
  | [], [], _ => rfl
  | _ :: _, _ :: _, h => by rw [List.length_cons, List.length_cons, RowsAt.len h.2]
  | [], _ :: _, h => h.elim
  | _ :: _, [], h => h.elim
theorem RowsAt.get {H : Hp} : ∀ {vs : List V} {rs : List Rw}, RowsAt H vs rs → ∀ {i : Nat} {v : V}, vs[i]? = some v → ∃ r, rs[i]? = some r ∧ RowAt H v r
  | [], [], _, i, v, e => by simp at e
  | _ :: _, _ :: _, h, 0, v, e => by
    obtain rfl := (by simpa using e : _ = v)
    exact ⟨_, rfl, h.1⟩
  | _ :: _, _ :: _, h, i + 1, v, e => RowsAt.get h.2 (i := i) (by simpa using e)
  | [], _ :: _, h, _, _, _ => h.elim
  | _ :: _, [], h, _, _, _ => h.elim
theorem RowsAt.app {H : Hp} : ∀ {vs ws : List V} {rs qs : List Rw}, RowsAt H vs rs → RowsAt H ws qs → RowsAt H (vs ++ ws) (rs ++ qs)
  | [], _, [], _, _, h => h
  | _ :: _, _, _ :: _, _, g, h => ⟨g.1, RowsAt.app g.2 h⟩
  | [], _, _ :: _, _, g, _ => g.elim
  | _ :: _, _, [], _, g, _ => g.elim
theorem RowsAt.snoc {H : Hp} {vs : List V} {rs : List Rw} {v : V} {r : Rw} (g : RowsAt H vs rs) (h : RowAt H v r) : RowsAt H (vs ++ [v]) (rs ++ [r]) := g.app ⟨h, trivial⟩
theorem RowsAt.of {H : Hp} : ∀ {vs : List V} {rs : List Rw}, vs.length = rs.length → (∀ (i : Nat) (v : V) (r : Rw), vs[i]? = some v → rs[i]? = some r → RowAt H v r) → RowsAt H vs rs
  | [], [], _, _ => trivial
  | v :: vs, r :: rs, e, h => ⟨h 0 v r rfl rfl, RowsAt.of (by simpa using e) fun i x y h1 h2 => h (i + 1) x y h1 h2⟩
  | [], _ :: _, e, _ => by simp at e
  | _ :: _, [], e, _ => by simp at e
/-- a web in the heap -/
def WebAt (H : Hp) (p : Addr) (rs : List Rw) : Prop := ∃ ws, H p = some (.lst ws) ∧ RowsAt H ws rs
theorem WebAt.same {H H' : Hp} {p : Addr} {rs : List Rw} (h : WebAt H p rs) (s : Same H H') : WebAt H' p rs := by
  obtain ⟨ws, e, r⟩ := h
  exact ⟨ws, s _ _ e, r.keep (K2.same s)⟩
/-- rising numbers within a bound -/
structure Ris (lo hi : Int) (ns : List Int) : Prop where
  pw : ns.Pairwise (· < ·)
  lo : ∀ k ∈ ns, lo ≤ k
  hi : ∀ k ∈ ns, k ≤ hi
structure RowOk (n : Nat) (r : Rw) : Prop where
  rooms : Ris 0 99 r.1
  few : r.1.length ≤ 6
  tos : Ris 0 ((n : Int) - 1) r.2
def allRooms (rs : List Rw) : List Int := (rs.map Prod.fst).flatten
structure WebOk (rs : List Rw) : Prop where
  pos : 1 ≤ rs.length
  few : rs.length ≤ 80
  row : ∀ r ∈ rs, RowOk rs.length r
  all : ∃ S : List Int, S.length ≤ 12 ∧ ∀ k ∈ allRooms rs, k ∈ S
theorem ris_len {ns : List Int} {n : Nat} : Ris 0 ((n : Int) - 1) ns → ns.length ≤ n := by
  induction n generalizing ns with
  | zero =>
    intro h
    cases ns with
    | nil => exact Nat.le_refl _
    | cons a l =>
      have h1 := h.lo a List.mem_cons_self
      have h2 := h.hi a List.mem_cons_self
      omega
  | succ n ih =>
    intro h
    rcases List.eq_nil_or_concat ns with e | ⟨l, a, e⟩
    · rw [e]
      exact Nat.zero_le _
    · rw [List.concat_eq_append] at e
      subst e
      have pw := List.pairwise_append.mp h.pw
      have ha := h.hi a (List.mem_append_right _ List.mem_cons_self)
      have z := ih (ns := l) ⟨pw.1, fun k hk => h.lo k (List.mem_append_left _ hk), fun k hk => by
        have := pw.2.2 k hk a List.mem_cons_self
        omega⟩
      rw [List.length_append]
      show l.length + 1 ≤ n + 1
      omega
section
variable {X : Cx}
/-- a slice of a tuple, whatever it is -/
def rSl2 : V → Option Int → Option Int → Hp → VK → Prop := fun x lo hi H Q => ∃ a xs, x = .ref a ∧ T2 H a xs ∧ ∀ v H', Same H H' → T2 H' v (cutV xs lo hi) → Q (.ref v) H'
theorem sl_tup2 : SlR X rSl2 := by
  intro pins s σ H x v vl vu lo hi sl Q I rx hs pl pu h
  obtain ⟨a, xs, rfl, hx, q⟩ := h
  refine sl_tupA pins s σ H _ v vl vu lo hi sl Q I rx hs pl pu ⟨a, xs, rfl, hx.sq, fun hw => q a H (Same.refl H) ?_, fun _ p np => q p _ (same_upd np) (.inr upd_same)⟩
  have z : cutV xs lo hi = xs := by
    unfold cutV
    rw [hw.1, hw.2, Nat.sub_zero, List.drop_zero, List.take_length]
  rw [z]
  exact hx
end
theorem cut_tail (xs : List V) : cutV xs (some 1) none = xs.drop 1 := by
  cases xs with
  | nil => rfl
  | cons x l =>
    have e1 : HT.sIx (x :: l).length 0 (some 1) = 1 := by
      have z := HT.sIx_nat (x :: l).length 0 1
      have z2 : HT.sIx (x :: l).length 0 (some (1 : Int)) = min 1 (x :: l).length := z
      rw [z2, List.length_cons]
      omega
    unfold cutV
    rw [e1, HT.sIx_none, List.take_of_length_le]
    rw [List.length_drop]
    exact Nat.le_refl _
theorem rep_all (n : Nat) : (List.replicate n true).all id = true := by
  rw [List.all_eq_true]
  intro x hx
  rw [List.eq_of_mem_replicate hx]
  rfl
theorem rep_snoc (n : Nat) : (List.replicate n (V.bl true)) ++ [V.bl true] = List.replicate (n + 1) (V.bl true) := by
  rw [← List.replicate_succ']
theorem rep_map (n : Nat) : (List.replicate n true).map V.bl = List.replicate n (V.bl true) := List.map_replicate
/-! a comprehension over zip of two tuples -/
open RZ in
theorem lc_zipT {K : PySem.W.Frag} {a b : Addr} {xs ys : List V} {g : TG} {tt : TT} {te : TE} {vs : List Nat} {σ : L2.St} {H1 : Hp} {D : Addr} {Qd : Hp → Prop} (hl : ys.length ≤ xs.length) (Pv : Nat → Hp → Prop) (h0 : Pv 0 (upd H1 D (.lst [])))
    (hq : ∀ i H, i ≤ ys.length → Pv i H → SqT K H a xs ∧ SqT K H b ys)
    (hs : ∀ (i : Nat) (x y : V) (T : Addr) (H : Hp), xs[i]? = some x → ys[i]? = some y → Pv i H → H T = none → g (.ref T) (wipe σ vs) (upd H T (.tup [x, y])) fun σ2 H2 => wipe σ2 vs = wipe σ vs ∧ tt σ2 H2 fun b H3 =>
      if b = true then te σ2 H3 fun y H4 => ∃ acc, H4 D = some (.lst acc) ∧ acc.length < sizeLine ∧ Pv (i + 1) (upd H4 D (.lst (acc ++ [y]))) else Pv (i + 1) H3) (hd : ∀ H, Pv ys.length H → Qd H) :
    ∃ W : Nat → Nat → Hp → Prop, (∃ m, W 0 m (upd H1 D (.lst []))) ∧ ∀ i m H, W i m H →
      ((ItzT K a b).stop i H ∧ Qd H) ∨ ((ItzT K a b).go i H ∧ ∃ Nx : Hp → Prop, (∀ H', Nx H' → ∃ m', m' < m ∧ W (i + 1) m' H') ∧ ∀ x H', (ItzT K a b).yld i H x H' → g x (wipe σ vs) H' fun σ2 H2 => wipe σ2 vs = wipe σ vs ∧ tt σ2 H2 fun b H3 =>
        if b = true then te σ2 H3 fun y H4 => ∃ acc, H4 D = some (.lst acc) ∧ acc.length < sizeLine ∧ Nx (upd H4 D (.lst (acc ++ [y]))) else Nx H3) := by
  refine ⟨fun i m H => m = ys.length - i ∧ i ≤ ys.length ∧ Pv i H, ⟨ys.length, (Nat.sub_zero _).symm, Nat.zero_le _, h0⟩, ?_⟩
  rintro i m H ⟨rfl, hi, p⟩
  obtain ⟨qx, qy⟩ := hq i H hi p
  by_cases hlt : i < ys.length
  · have hy : ys[i]? = some ys[i] := List.getElem?_eq_getElem hlt
    have hx : xs[i]? = some xs[i] := List.getElem?_eq_getElem (by omega)
    refine .inr ⟨⟨xs, ys, _, _, qx, qy, hx, hy⟩, Pv (i + 1), fun H' p' => ⟨ys.length - (i + 1), by omega, rfl, hlt, p'⟩, fun v H' y => ?_⟩
    obtain ⟨T, x', y', rfl, nT, rfl, f1, f2⟩ := y
    exact hs i x' y' T H (f1 xs qx) (f2 ys qy) p nT
  · have e : i = ys.length := by omega
    subst e
    exact .inl ⟨⟨xs, ys, qx, qy, .inr (Nat.le_refl _)⟩, hd H p⟩
section
variable {K : PySem.W.Frag} {a : Addr} {xs : List V}
theorem lc_enumS {g : TG} {tt : TT} {te : TE} {vs : List Nat} {σ : L2.St} {H1 : Hp} {D : Addr} {Qd : Hp → Prop} (Pv : Nat → Hp → Prop) (h0 : Pv 0 (upd H1 D (.lst []))) (hl : ∀ i H, i ≤ xs.length → Pv i H → SqL K H a xs)
    (hs : ∀ i x H T, xs[i]? = some x → Pv i H → H T = none → g (.ref T) (wipe σ vs) (upd H T (.tup [.int (i : Nat), x])) fun σ2 H2 => wipe σ2 vs = wipe σ vs ∧ tt σ2 H2 fun b H3 =>
      if b = true then te σ2 H3 fun y H4 => ∃ acc, H4 D = some (.lst acc) ∧ acc.length < sizeLine ∧ Pv (i + 1) (upd H4 D (.lst (acc ++ [y]))) else Pv (i + 1) H3) (hd : ∀ H, Pv xs.length H → Qd H) :
    ∃ W : Nat → Nat → Hp → Prop, (∃ m, W 0 m (upd H1 D (.lst []))) ∧ ∀ i m H, W i m H →
      ((Ite K a).stop i H ∧ Qd H) ∨ ((Ite K a).go i H ∧ ∃ Nx : Hp → Prop, (∀ H', Nx H' → ∃ m', m' < m ∧ W (i + 1) m' H') ∧ ∀ x H', (Ite K a).yld i H x H' → g x (wipe σ vs) H' fun σ2 H2 => wipe σ2 vs = wipe σ vs ∧ tt σ2 H2 fun b H3 =>
        if b = true then te σ2 H3 fun y H4 => ∃ acc, H4 D = some (.lst acc) ∧ acc.length < sizeLine ∧ Nx (upd H4 D (.lst (acc ++ [y]))) else Nx H3) := by
  refine ⟨fun i m H => m = xs.length - i ∧ i ≤ xs.length ∧ Pv i H, ⟨xs.length, (Nat.sub_zero _).symm, Nat.zero_le _, h0⟩, ?_⟩
  rintro i m H ⟨rfl, hi, p⟩
  have q := hl i H hi p
  by_cases hlt : i < xs.length
  · refine .inr ⟨⟨xs, xs[i], q, List.getElem?_eq_getElem hlt⟩, Pv (i + 1), fun H' p' => ⟨xs.length - (i + 1), by omega, rfl, hlt, p'⟩, fun v H' y => ?_⟩
    obtain ⟨T, x, rfl, nT, rfl, y⟩ := y
    exact hs i x H T (y xs q) p nT
  · have e : i = xs.length := by omega
    subst e
    exact .inl ⟨⟨xs, q, Nat.le_refl _⟩, hd H p⟩
theorem for_enumS {g : TG} {tb : TS} {D : Ends} {σ : L2.St} {H : Hp} (Pv : Nat → L2.St → Hp → Prop) (h0 : Pv 0 σ H) (hl : ∀ i σ H, i ≤ xs.length → Pv i σ H → SqL K H a xs)
    (hs : ∀ i x σ H T, xs[i]? = some x → Pv i σ H → H T = none → g (.ref T) σ (upd H T (.tup [.int (i : Nat), x])) fun σ2 H2 => tb { D with nx := Pv (i + 1), ct := Pv (i + 1), bk := D.nx } σ2 H2) (hd : ∀ σ H, Pv xs.length σ H → D.nx σ H) :
    ∃ W : Nat → Nat → L2.St → Hp → Prop, (∃ m, W 0 m σ H) ∧ ∀ i m σ H, W i m σ H →
      ((Ite K a).stop i H ∧ D.nx σ H) ∨ ((Ite K a).go i H ∧ ∃ N : L2.St → Hp → Prop, (∀ σ' H', N σ' H' → ∃ m', m' < m ∧ W (i + 1) m' σ' H') ∧ ∀ v H', (Ite K a).yld i H v H' → g v σ H' fun σ2 H2 => tb { D with nx := N, ct := N, bk := D.nx } σ2 H2) := by
  refine ⟨fun i m σ H => m = xs.length - i ∧ i ≤ xs.length ∧ Pv i σ H, ⟨xs.length, (Nat.sub_zero _).symm, Nat.zero_le _, h0⟩, ?_⟩
  rintro i m σ H ⟨rfl, hi, p⟩
  have q := hl i σ H hi p
  by_cases hlt : i < xs.length
  · refine .inr ⟨⟨xs, xs[i], q, List.getElem?_eq_getElem hlt⟩, Pv (i + 1), fun σ' H' p' => ⟨xs.length - (i + 1), by omega, rfl, hlt, p'⟩, fun v H' y => ?_⟩
    obtain ⟨T, x, rfl, nT, rfl, y⟩ := y
    exact hs i x σ H T (y xs q) p nT
  · have e : i = xs.length := by omega
    subst e
    exact .inl ⟨⟨xs, q, Nat.le_refl _⟩, hd σ H p⟩
end
theorem K2.of {p : Addr} {H H' : Hp} (k : Kept p H H') (hp : PoolAt H p) : K2 H H' := by
  rintro a xs (h | h)
  · exact .inl (h.kept k hp)
  · refine .inr (k _ _ h fun z => ?_)
    subst z
    obtain ⟨o, e, g, m, rfl, _⟩ := hp
    rw [e] at h
    cases h
theorem cut_to (xs : List V) (k : Nat) : cutV xs none (some (k : Int)) = xs.take k := by
  have e1 : HT.sIx xs.length xs.length (some (k : Int)) = min k xs.length := HT.sIx_nat xs.length xs.length k
  unfold cutV
  rw [e1, HT.sIx_none, Nat.sub_zero, List.drop_zero]
  by_cases h : k ≤ xs.length
  · rw [Nat.min_eq_left h]
  · rw [Nat.min_eq_right (by omega), List.take_length, List.take_of_length_le (by omega)]
theorem cut_from (xs : List V) (k : Nat) : cutV xs (some (k : Int)) none = xs.drop k := by
  have e1 : HT.sIx xs.length 0 (some (k : Int)) = min k xs.length := HT.sIx_nat xs.length 0 k
  unfold cutV
  rw [e1, HT.sIx_none]
  by_cases h : k ≤ xs.length
  · rw [Nat.min_eq_left h, List.take_of_length_le (by rw [List.length_drop]; exact Nat.le_refl _)]
  · rw [Nat.min_eq_right (by omega), List.drop_of_length_le (Nat.le_refl _), List.take_nil, List.drop_of_length_le (by omega)]
theorem pw_lt {ms : List Int} (h : ms.Pairwise (· ≤ ·)) (nd : ms.Nodup) : ms.Pairwise (· < ·) := by
  have z := h.and nd
  exact z.imp fun ⟨a, b⟩ => by omega
/-! a web as data, for repr -/
theorem dp_intsS {K : PySem.W.Frag} {H : Hp} : ∀ ns : List Int, DpAll K H (ns.map V.int) (ns.map PyData.int)
  | [] => .nil
  | n :: ns => .cons (.int n) (dp_intsS ns)
def rowD (r : Rw) : PyData := .tuple [.tuple (r.1.map PyData.int), .tuple (r.2.map PyData.int)]
def webD (rs : List Rw) : PyData := .list (rs.map rowD)
theorem rows_dp {K : PySem.W.Frag} {H : Hp} : ∀ {ws : List V} {rs : List Rw}, RowsAt H ws rs → DpAll K H ws (rs.map rowD)
  | [], [], _ => .nil
  | w :: ws, r :: rs, h => by
    obtain ⟨⟨a, b, c, rfl, h1, h2, h3⟩, t⟩ := h
    exact .cons (.tup h1.sq (.cons (.tup h2.sq (dp_intsS _)) (.cons (.tup h3.sq (dp_intsS _)) .nil))) (rows_dp t)
  | [], _ :: _, h => h.elim
  | _ :: _, [], h => h.elim
theorem WebAt.dp {K : PySem.W.Frag} {H : Hp} {p : Addr} {rs : List Rw} (h : WebAt H p rs) : Dp K H (.ref p) (webD rs) := by
  obtain ⟨ws, e, r⟩ := h
  exact .lst (SqL.of e) (rows_dp r)
theorem FineL.up {ds : List PyData} {n m n' m' : Nat} (h : FineL ds n m) (a : n ≤ n') (b : m ≤ m') : FineL ds n' m' := ⟨h.sh, h.nd, Nat.le_trans h.dp a, h.lv, Nat.le_trans h.wt b, h.cl⟩
theorem row_fine {n : Nat} {r : Rw} (ok : RowOk n r) (hn : n ≤ 80) : Fine (rowD r) 2 3600 := by
  have h1 := FineL.ints r.1 fun z hz => by
    have a := ok.rooms.lo z hz
    have b := ok.rooms.hi z hz
    omega
  have h2 := FineL.ints r.2 fun z hz => by
    have a := ok.tos.lo z hz
    have b := ok.tos.hi z hz
    omega
  have l1 := ok.few
  have l2 := ris_len ok.tos
  have z := Fine.tuple (FineL.cons (Fine.tuple h1) (FineL.cons (Fine.tuple h2) FineL.nil))
  exact z.up (Nat.le_refl _) (by omega)
theorem rows_fine {n : Nat} (hn : n ≤ 80) : ∀ {rs : List Rw}, (∀ r ∈ rs, RowOk n r) → FineL (rs.map rowD) 2 (3601 * rs.length)
  | [], _ => FineL.nil
  | r :: rs, h => by
    have a := FineL.cons (row_fine (h r List.mem_cons_self) hn) (rows_fine hn fun y hy => h y (List.mem_cons_of_mem _ hy))
    exact a.up (Nat.le_refl _) (by rw [List.length_cons]; omega)
theorem WebOk.fine {rs : List Rw} (ok : WebOk rs) : Fine (webD rs) 3 300000 := by
  have h := ok.few
  exact (Fine.list (rows_fine h ok.row)).up (Nat.le_refl _) (by omega)
end Su
/-! ### SF: a tuple times 0 or 1, the sorted keys of a dict -/
namespace Su
open PySem PySem.Spec PyProof.Rows L2
theorem tuple_mul0 (l : Addr) (items : Array Value) (n : Nat) (dd : Option Addr) (sl : Array (Option Value)) (u : Tok) (ne : items.isEmpty = false) :
    Meets (Builtin.«tuple.__mul__» ⟨[.ref l, .int 0 u], []⟩) (fun _ R s => s.heap.get? l = some { cls := .type "tuple", dict := dd, data := .seq items n, slots := sl } ∧ R (.ok (.ret (Value.ref s.heap.objs.size))) { s with heap := s.heap.push (tupO []) }) :=
  .of_wp fun prog w A R s h => by
    obtain ⟨hp, g, d, tk, os⟩ := s
    obtain ⟨hl, h⟩ := h
    have f1 := AutoSeq1.idx_int
    wp_walk using wpAny_loadPart' hl
    repeat (first
      | (refine wpAny_ite_false (by rw [ne]; rfl) ?_; wp_walk using wpAny_loadPart' hl)
      | (refine wpAny_ite_true rfl ?_; wp_walk using wpAny_loadPart' hl))
    exact ⟨_, rfl, h⟩
theorem tuple_mul1 (l : Addr) (items : Array Value) (n : Nat) (dd : Option Addr) (sl : Array (Option Value)) (u : Tok) :
    Meets (Builtin.«tuple.__mul__» ⟨[.ref l, .int 1 u], []⟩) (fun _ R s => s.heap.get? l = some { cls := .type "tuple", dict := dd, data := .seq items n, slots := sl } ∧ R (.ok (.ret (Value.ref l))) s) :=
  .of_wp fun prog w A R s h => by
    obtain ⟨hp, g, d, tk, os⟩ := s
    obtain ⟨hl, h⟩ := h
    have f1 := AutoSeq1.idx_int
    wp_walk using wpAny_loadPart' hl
    exact ⟨_, rfl, h⟩
section
variable {X : Cx}
/-- (x, ..) * k, k 0 or 1 -/
def rMul01 : R2 := fun x y H Q => ∃ (a : Addr) (k : Int) (xs : List V), x = .ref a ∧ y = .int k ∧ T2 H a xs ∧ xs ≠ [] ∧ (k = 0 ∨ k = 1) ∧ ∀ v H', Same H H' → T2 H' v (if k = 1 then xs else []) → Q (.ref v) H'
theorem op_mul01 : OpR X (binaryOp .Mult) rMul01 := by
  intro pins s σ H x y v u Q I rx ry h
  obtain ⟨a, k, xs, rfl, rfl, ha, ne, hk, q⟩ := h
  cases rx
  obtain ⟨t, rfl⟩ := ry
  obtain ⟨its, r, ⟨⟨cls, dd, data, sl⟩, ho, hc, n, hd⟩, hs⟩ := I.tuple (ha.sq (K := X.K))
  simp only at hc hd
  subst hc hd
  have ni : its.toArray.isEmpty = false := by
    cases its with
    | nil =>
      cases r
      exact absurd rfl ne
    | cons _ _ => rfl
  rcases hk with rfl | rfl
  · refine wpAny_binaryOp_repeat_ref (T := "tuple") (U := "int") (by decide) ⟨_, ho, rfl⟩ (fun s' => typeIs_int s' 0 t) noFill_tuple_mul F.fills_int_mul F.slot_int_rmul repeat_tuple F.slot_int_index.lookup
      (call_meets F.slot_int_rmul (typeIs_int s 0 t) F.entry_int_rmul (F.args_int_rmul_2 _ _) (int_rmul_tuple 0 t a its.toArray n dd sl)
        ⟨ho, rfl, ⟨_, ho, rfl⟩, call_meets F.slot_tuple_mul ⟨_, ho, rfl⟩ F.entry_tuple_mul (F.args_tuple_mul_2 _ _) (tuple_mul0 a its.toArray n dd sl t ni) ⟨ho, ?_⟩⟩)
    exact newF I .nil (Nat.zero_le _) (fun v H' s' _ h => q v H' s' (.inl h)) s.toks
  · refine wpAny_binaryOp_repeat_ref (T := "tuple") (U := "int") (by decide) ⟨_, ho, rfl⟩ (fun s' => typeIs_int s' 1 t) noFill_tuple_mul F.fills_int_mul F.slot_int_rmul repeat_tuple F.slot_int_index.lookup
      (call_meets F.slot_int_rmul (typeIs_int s 1 t) F.entry_int_rmul (F.args_int_rmul_2 _ _) (int_rmul_tuple 1 t a its.toArray n dd sl)
        ⟨ho, rfl, ⟨_, ho, rfl⟩, call_meets F.slot_tuple_mul ⟨_, ho, rfl⟩ F.entry_tuple_mul (F.args_tuple_mul_2 _ _) (tuple_mul1 a its.toArray n dd sl t) ⟨ho, ?_⟩⟩)
    exact ⟨.ref a, H, I, rfl, q a H (Same.refl H) ha⟩
/-- the keys of a dict, all ints -/
def KeysI (kvs : List (Key × V)) (ks : List Int) : Prop := kvs.map (·.1) = ks.map Sum.inl
theorem KeysI.len {kvs : List (Key × V)} {ks : List Int} (h : KeysI kvs ks) : kvs.length = ks.length := by
  have z := congrArg List.length h
  rwa [List.length_map, List.length_map] at z
theorem KeysI.put {kvs : List (Key × V)} {ks : List Int} (h : KeysI kvs ks) (nd : ks.Nodup) (k : Int) (v : V) : ∃ ks', KeysI (putK kvs (Sum.inl k) v) ks' ∧ ks'.Nodup ∧ ∀ j, j ∈ ks' ↔ j ∈ ks ∨ j = k := by
  unfold putK
  by_cases hk : (kvs.any fun kv => decide (kv.1 = Sum.inl k)) = true
  · rw [if_pos hk]
    refine ⟨ks, ?_, nd, fun j => ⟨.inl, ?_⟩⟩
    · unfold KeysI at h ⊢
      rw [← h, List.map_map]
      refine List.map_congr_left fun q _ => ?_
      show (if q.1 = Sum.inl k then (q.1, v) else q).1 = q.1
      split <;> rfl
    · rintro (z | rfl)
      · exact z
      · obtain ⟨q, hq, e⟩ := List.any_eq_true.mp hk
        have z : (Sum.inl j : Key) ∈ kvs.map (·.1) := by
          rw [← of_decide_eq_true e]
          exact List.mem_map_of_mem hq
        rw [h] at z
        obtain ⟨i, hi, e2⟩ := List.mem_map.mp z
        rw [← Sum.inl.inj e2]
        exact hi
  · rw [if_neg hk]
    have nk : k ∉ ks := fun hm => hk (by
      have z : (Sum.inl k : Key) ∈ kvs.map (·.1) := by
        rw [h]
        exact List.mem_map_of_mem hm
      obtain ⟨q, hq, e⟩ := List.mem_map.mp z
      exact List.any_eq_true.mpr ⟨q, hq, decide_eq_true e⟩)
    refine ⟨ks ++ [k], ?_, ?_, fun j => by rw [List.mem_append, List.mem_singleton]⟩
    · unfold KeysI at h ⊢
      rw [List.map_append, List.map_append, h]
      rfl
    · rw [List.nodup_append]
      refine ⟨nd, by simp, fun a ha b hb => ?_⟩
      rw [List.mem_singleton.mp hb]
      rintro rfl
      exact nk ha
/-- sorted(d), all keys ints -/
def rSortedDI : List V → Hp → VK → Prop := fun xs H Q => ∃ (a : Addr) (kvs : List (Key × V)) (ks : List Int), xs = [.ref a] ∧ H a = some (.dK kvs) ∧ KeysI kvs ks ∧ ks.length ≤ 4000 ∧
  ∀ (ys : List Int) (p : Addr), ys.Perm ks → ys.Pairwise (· ≤ ·) → H p = none → Q (.ref p) (upd H p (.lst (ys.map V.int)))
theorem cr_sortedDI (hc : X.calm = true) : CallR X (.builtin "sorted") rSortedDI := by
  intro pins s σ H xs us Q I r h
  obtain ⟨a, kvs, ks, rfl, hd, hks, few, q⟩ := h
  rw [Vals.ref1 r]
  obtain ⟨z, lo, vs, rel, dd⟩ := dk_rd I.hok (.inl hd)
  obtain ⟨ep, hat⟩ := dd.dictAt
  have keys : vs.map (·.1) = ks.map Sum.inl := rel.keys.symm.trans hks
  have len : vs.length = ks.length := by
    have y := congrArg List.length keys
    rwa [List.length_map, List.length_map] at y
  have small : vs.length ≤ sizeLine := by
    rw [len, sizeLine_eq]
    omega
  refine Calls.call_function_entry kind_sorted plain_sorted entry_sorted (args_sorted1 _) ?_
  unfold Builtin.«sorted»
  refine wpAny_bind (m := checkCount "sorted" 1 1 _) (wpAny_pure (wpAny_bind (PySem.W.kdu_collect (A := X.A.in1) (PySem.W.kdl_dict (knd := mixKind X.prog X.w) (kvs := vs) (ep := ep) lo) (I.ok.hd hc) hat small fun h' tk acc hk hacc => ?_)))
  have rv : Vals (vs.map fun p => kV p.1) acc.toList := keys_at (by rw [Array.length_toList, hacc.1]) fun j v e => hacc.2 j v (by rw [← Array.getElem?_toList]; exact e)
  have rv2 : Vals (ks.map V.int) acc.toList := by
    have y : (vs.map fun p => kV p.1) = ks.map V.int := by
      have y1 : (vs.map fun p => kV p.1) = (vs.map (·.1)).map kV := by rw [List.map_map]; rfl
      rw [y1, keys, List.map_map]
      rfl
    rwa [y] at rv
  have hI := rv2.ints
  have alen : acc.toList.length ≤ sizeLine := by
    rw [Array.length_toList, hacc.1]
    exact small
  have I1 : Inv X pins σ H { s with heap := h', toks := tk } := I.kept hk
  refine wpAny_bind (wpAny_newList ?_ alen)
  have at1 : (h'.push (seqObj "list" acc.toList.toArray 0)).get? h'.objs.size = some (seqObj "list" acc.toList.toArray 0) := Heap.get?_push_size _ rfl
  show wpAny _ _ _ _ _ { s with heap := h'.push (seqObj "list" acc.toList.toArray 0), toks := tk }
  refine wpAny_bind (wpAny_holding (wpAny_call_entry slot_list_sort ⟨_, at1, rfl⟩ entry_list_sort (SrtO.list_sort_ord SrtO.swo_int (s := { s with heap := h'.push (seqObj "list" acc.toList.toArray 0), toks := tk }) at1 alen (fun h2 => SrtO.ints_sortable hI h2) fun out h1 h2 => ⟨_, rfl, ?_⟩) (args_list_sort _)))
  obtain ⟨k3, k4, k5⟩ := SrtO.ints_out hI h1 h2
  obtain ⟨c, hcc⟩ := sortedHeap_at (vs := acc.toList) (out := out.toArray) at1
  have olen : ((out.map SrtO.iv).map V.int).length ≤ sizeLine := by
    rw [List.length_map, k4.length_eq, sizeLine_eq]
    omega
  refine wpAny_pure ⟨_, rfl, .ref h'.objs.size, upd H h'.objs.size (.lst ((out.map SrtO.iv).map V.int)), I1.laid (t' := tk) (fun b u e => ?_) (Nat.le_refl _) (show ObjOk X.prog X.w _ _ _ (.lst _) from ⟨olen, out, c, vals_of_ints k3, hcc⟩), rfl, q _ _ k4 k5 (I1.hok.fresh (Nat.le_refl _))⟩
  have lt : b < h'.objs.size := Heap.lt_size e
  rw [sortedHeap_old (Nat.ne_of_lt lt) (by rw [size_push']; exact Nat.lt_succ_of_lt lt)]
  exact Heap.get?_push_of_some _ e
end
end Su
/-! ### SG: l.extend(t), t a tuple; rows that are written -/
namespace Su
open PySem PySem.Spec PyProof.Rows L2
theorem ext_tup (l : Addr) (items : Array Value) (n : Nat) (b : Addr) (more : Array Value) (m : Nat) (dd : Option Addr) (sl : Array (Option Value)) (h0 : ¬(!items.isEmpty && Builtin.List.listTooLong (items.size + more.size)) = true) (h1 : items.size ≤ sizeLine) (h2 : items.size + more.size ≤ sizeLine + 1) :
    Meets (Builtin.«list.extend» ⟨[.ref l, .ref b], []⟩) (fun _ R s => s.heap.get? l = some { cls := .type "list", data := .seq items n } ∧ s.heap.get? b = some { cls := .type "tuple", dict := dd, data := .seq more m, slots := sl } ∧
      R (.ok (.ret .none)) { s with heap := s.heap.update l (Obj.mapSeq fun x => x ++ more) }) :=
  .of_wp fun prog w A R s h => by
    obtain ⟨hp, g, d, tk, os⟩ := s
    obtain ⟨hl, hb, h⟩ := h
    have f1 := AutoSeq1.idx_int
    have f2 := F.sub_tuple_tuple
    have f3 := F.sub_list_list
    have f4 := F.sub_tuple_list
    have f5 := F.sub_list_tuple
    have fits : (items ++ more).size ≤ sizeLine + 1 := by
      rw [Array.size_append]
      exact h2
    wp_walk using (wpAny_updateSeq hl rfl (hz := h1) (_hz' := fits)), wpAny_loadPart' hl, wpAny_loadPart' hb
    exact ⟨_, rfl, h⟩
section
variable {X : Cx}
def rExtT (K : PySem.W.Frag) : V → List V → Hp → VK → Prop := fun x vs H Q => ∃ l b xs zs, x = .ref l ∧ vs = [.ref b] ∧ H l = some (.lst xs) ∧ SqT K H b zs ∧ xs.length + zs.length ≤ sizeLine ∧ Q .non (upd H l (.lst (xs ++ zs)))
theorem mt_extT : MtM X "list.extend" (rExtT X.K) := by
  intro pins s σ H x vs v us Q I rx rv h
  obtain ⟨l, b, xs, zs, rfl, rfl, hH, hB, hz, q⟩ := h
  cases rx
  obtain ⟨u, rfl, ru⟩ := rv.one
  cases ru
  obtain ⟨z, its, n, r, hl, e⟩ := I.lstM hH
  obtain ⟨it2, r2, ⟨⟨cls, dd, data, sl⟩, ho, hc, m, hd⟩, _⟩ := I.tuple hB
  simp only at hc hd
  subst hc hd
  have hl2 := r2.length
  have fit : its.toArray.size + it2.toArray.size ≤ sizeLine := by
    rw [List.size_toArray, List.size_toArray]
    omega
  have short : ¬ (!its.toArray.isEmpty && Builtin.List.listTooLong (its.toArray.size + it2.toArray.size)) = true := by
    rw [notLongL fit, Bool.and_false]
    exact Bool.false_ne_true
  refine call_meets F.slot_list_extend ⟨_, e, rfl⟩ F.entry_list_extend (F.args_list_extend_2 _ _) (ext_tup l its.toArray n b it2.toArray m dd sl short (by rw [List.size_toArray]; omega) (by omega)) ⟨e, ho, ?_⟩
  refine ⟨.non, _, I.lset (its' := its ++ it2) hH e (by simp) (r.append r2) ?_, rfl, q⟩
  rw [List.length_append]
  omega
end
/-! written rows -/
def risB (hi : Int) : Int → List Int → Bool
  | _, [] => true
  | lo, k :: r => decide (lo ≤ k) && decide (k ≤ hi) && risB hi (k + 1) r
theorem ris_of {hi : Int} : ∀ {lo : Int} {l : List Int}, risB hi lo l = true → Ris lo hi l
  | _, [], _ => ⟨List.Pairwise.nil, fun _ h => (List.not_mem_nil h).elim, fun _ h => (List.not_mem_nil h).elim⟩
  | lo, k :: r, h => by
    unfold risB at h
    rw [Bool.and_eq_true, Bool.and_eq_true, decide_eq_true_eq, decide_eq_true_eq] at h
    have z := ris_of h.2
    refine ⟨List.pairwise_cons.mpr ⟨fun x hx => by have := z.lo x hx; omega, z.pw⟩, fun x hx => ?_, fun x hx => ?_⟩
    · rcases List.mem_cons.mp hx with e | e
      · rw [e]
        exact h.1.1
      · have := z.lo x e
        omega
    · rcases List.mem_cons.mp hx with e | e
      · rw [e]
        exact h.1.2
      · exact z.hi x e
def rowB (n : Nat) (r : Rw) : Bool := risB 99 0 r.1 && decide (r.1.length ≤ 6) && risB ((n : Int) - 1) 0 r.2
theorem row_of {n : Nat} {r : Rw} (h : rowB n r = true) : RowOk n r := by
  unfold rowB at h
  rw [Bool.and_eq_true, Bool.and_eq_true, decide_eq_true_eq] at h
  exact ⟨ris_of h.1.1, h.1.2, ris_of h.2⟩
def webB (A : List Int) (rs : List Rw) : Bool := decide (1 ≤ rs.length) && decide (rs.length ≤ 80) && rs.all (rowB rs.length) && decide (A.length ≤ 12) && (allRooms rs).all (fun k => decide (k ∈ A))
theorem web_of {A : List Int} {rs : List Rw} (h : webB A rs = true) : WebOk rs := by
  unfold webB at h
  simp only [Bool.and_eq_true, decide_eq_true_eq, List.all_eq_true] at h
  exact ⟨h.1.1.1.1, h.1.1.1.2, fun r hr => row_of (h.1.1.2 r hr), A, h.1.2, h.2⟩
def upto (n : Nat) : List Int := (List.range n).map fun i => ((i : Nat) : Int)
theorem upto_rg (n : Nat) : rgV 0 (n : Int) = (upto n).map V.int := by
  unfold rgV upto
  rw [List.map_map, show ((n : Int) - 0).toNat = n by omega]
  refine List.map_congr_left fun i _ => ?_
  show V.int (0 + (i : Nat)) = V.int (i : Int)
  rw [Int.zero_add]
theorem upto_mem {n : Nat} {k : Int} : k ∈ upto n ↔ 0 ≤ k ∧ k < n := by
  unfold upto
  rw [List.mem_map]
  constructor
  · rintro ⟨i, hi, rfl⟩
    have := List.mem_range.mp hi
    omega
  · intro h
    exact ⟨k.toNat, List.mem_range.mpr (by omega), by omega⟩
theorem upto_pw (n : Nat) : (upto n).Pairwise (· < ·) := by
  unfold upto
  rw [List.pairwise_map]
  exact List.pairwise_lt_range.imp fun h => by omega
end Su
/-! ### SI: a comprehension within another one -/
namespace Su
open PySem PySem.Spec PyProof.Rows L2
theorem blkOk_in {N : List Str} {sc scope : Scope} {own : List (Str × Nat)} (fr : List Str) (h : blkC N { kind := .function, names := fr.map fun x => (x, NameKind.cell), isGenerator := false, isCoroutine := false } scope own = true)
    (h2 : ∀ x ∈ fr, sc.names.lookup x = some .cell ∨ sc.names.lookup x = some .free) : BlkOk N sc scope own := by
  have b := blkOk_by h
  refine ⟨b.kind, b.uniq, b.ix, fun y hy e => ?_, b.own⟩
  refine h2 y.1 ?_
  have key : ∀ (l : List Str) (x : Str) (k : NameKind), (l.map fun x => (x, NameKind.cell)).lookup x = some k → x ∈ l := by
    intro l
    induction l with
    | nil =>
      intro x k e
      simp at e
    | cons a l ih =>
      intro x k e
      rw [List.map_cons, List.lookup_cons] at e
      by_cases hx : (x == a) = true
      · rw [eq_of_beq hx]
        exact List.mem_cons_self
      · rw [Bool.not_eq_true] at hx
        rw [hx] at e
        exact List.mem_cons_of_mem _ (ih x k e)
  rcases b.free y hy e with z | z
  · exact key _ _ _ z
  · exact key _ _ _ z
end Su
/-! ### XA: an exception that is caught and kept -/
namespace Su
open PySem PySem.Spec PyProof.Rows L2
/-- at a: an exception of the class cls, its dict at d -/
def exK (a : Addr) (cls : Value) (d : Option Addr) : HO := .ext fun h => ∃ (oe : Obj) (vs : Array Value), h.get? a = some oe ∧ Zc cls d oe ∧ oe.data = .fields vs
theorem exK_ok {P : Program} {w : World} {H : Hp} {h : Heap} {a : Addr} {cls : Value} {d : Option Addr} {oe : Obj} {vs : Array Value} (e : h.get? a = some oe) (z : Zc cls d oe) (hd : oe.data = .fields vs) : ObjOk P w H h a (exK a cls d) := by
  refine ⟨⟨oe, vs, e, z, hd⟩, ⟨oe, e⟩, fun h1 h2 p k => ?_⟩
  obtain ⟨o, v, e1, z1, d1⟩ := p
  exact ⟨o, v, k _ e1, z1, d1⟩
section
variable {X : Cx} {pins : List (Addr × Obj)} {σ : L2.St} {H : Hp} {s : Shared}
/-- what is new since the entry may be tracked from now on -/
theorem track {a : Addr} {o : HO} (I : Inv X pins σ H s) (ha : H a = none) (h0 : X.s_0.heap.get? a = none) (nl : a ≠ X.env.locals) (nc : ∀ x c, X.env.cells.lookup x = some c → c ≠ a) (np : ∀ p ∈ X.pn ++ pins, p.1 ≠ a)
    (new : ObjOk X.prog X.w (upd H a o) s.heap a o) : Inv X pins σ (upd H a o) s where
  ok := I.ok
  os := I.os
  bare := I.bare
  base := {
    keep := I.base.keep
    slot := I.base.slot
    free := fun b u q n x => by
      rw [upd_ne fun z => by rw [z, h0] at q; cases q]
      exact I.base.free b u q n x
    there := I.base.there
    tups := fun b xs q => by
      have z := I.base.tups b xs q
      rw [upd_ne (ne_of_none z ha)]
      exact z
    frzs := fun b u v q => by
      have z := I.base.frzs b u v q
      rw [upd_ne (ne_of_none z ha)]
      exact z
    tbls := fun b ps q => by
      obtain ⟨more, z⟩ := I.base.tbls b ps q
      exact ⟨more, by rw [upd_ne (ne_of_none z ha)]; exact z⟩ }
  loc := I.loc
  cell := I.cell
  free := by
    rw [upd_ne nl.symm]
    exact I.free
  freeC := fun x c e => by
    rw [upd_ne (nc x c e)]
    exact I.freeC x c e
  pin := fun p hp => by
    obtain ⟨p1, p2, p3⟩ := I.pin p hp
    exact ⟨p1, by rw [upd_ne (np p hp)]; exact p2, p3⟩
  hok := HOk.laidN I.hok (fun _ _ q => q) ha new
  len := I.len
end
def wKeep (K : PySem.W.Frag) (c : Value) (i : Nat) (ts : Addr → TS) (Wo : WX) (D : Ends) : WX := fun cls d σ H =>
  ∃ b, PySem.W.exmOne K cls c = some b ∧
    (b = true → ∀ a, H a = none → ts a { nx := fun σ' H' => D.nx (σ'.set i none) (upd H' a (exK a cls d)), rt := fun _ _ => False, bk := fun _ _ => False, ct := fun _ _ => False } (σ.set i (some (.ref a))) H) ∧
    (b = false → Wo cls d σ H)
section
variable {X : Cx} {x n : Str} {c : Value} {i : Nat} {body suite : List Stmt} {b0 : Stmt} {np pos pos' : Pos} {tb : WX → TS} {ts : Addr → TS} {Wo : WX}
/-- try: .. except x as n: suite, the exception tracked behind the suite -/
theorem ps_try_keep (hex : X.ex = []) (hs : X.stack = X.env :: X.outer) (hf : X.env.frame = some X.env.locals) (hN : X.N.Nodup) (hi : X.N[i]? = some n) (hln : X.env.kindOf n = some .local) (hc : Names X x c) (tk : Takes X Wo)
    (hb : ∀ (W : WX) (pn : List (Addr × Obj)) (xe : Value → Shared → Prop), Takes (X.tr pn xe) W → PassesOwn (model X.prog X.w) X.A X.env xe → PSs (X.tr pn xe) body (tb W))
    (hsu : ∀ (a : Addr) (oe : Obj) (pn : List (Addr × Obj)), PSs (X.suite a ((a, oe) :: pn)) (b0 :: suite) (ts a)) :
    PS X (.Try body [.ExceptHandler (some (.Name x np)) (some n) (b0 :: suite) pos'] [] [] pos) (fun D σ H => tb (wKeep X.K c i ts Wo D) D σ H) := by
  refine ⟨fun pins s σ H D I h => ?_⟩
  have ok := I.ok
  have frm : X.A.frames = some (X.env :: X.outer) := by
    rw [ok.frames, hs]
  refine wpAny_Try_except ?_
  refine wpAny_mono ((hb (wKeep X.K c i ts Wo D) (X.pn ++ pins) (fun u t => wpAny (model X.prog X.w) X.A (noteFrame u X.env) (fun _ t2 => wpAny (model X.prog X.w) X.A (setFlight u none) (fun _ t3 =>
    wpAny (model X.prog X.w) X.A (handleBy u X.env [.ExceptHandler (some (.Name x np)) (some n) (b0 :: suite) pos']) (SP X pins D) X.xe t3) X.xe t2) X.xe t) (fun u t xx => ?_) PassesOwn.looking).run [] s σ H D (I.toTry _) h) (fun fl t hsp => ?_) (fun _ _ z => z)
  · obtain ⟨a, B, sI, pins2, τ, G, cls, d, rfl, Jt, nb, up, sky, na, os, ag, b, hb1, hyes, hno⟩ := xx
    have J : Inv X pins τ G sI := Jt.ofTry ok
    have sky2 : Sky B (X.env :: X.outer) a (Zc cls d) X.env.locals t.heap := by
      rw [← hs]
      exact sky
    show wpAny (model X.prog X.w) X.A (noteFrame (.ref a) X.env) _ _ _
    refine Sky.land Zc.steady frm hf sky2 fun g3 fl3 up3 => ?_
    have J3 : Inv X pins τ G { t with heap := g3 } := J.landed nb fl3.1 (up.trans up3) os ag
    obtain ⟨oe3, vs3, at3, zc3, dt3⟩ := fl3.there
    have nofr : a ∉ frs (X.env :: X.outer) := by
      intro hm
      obtain ⟨_, o', e', hnf⟩ := fl3.2.2.1.mem hm
      rw [at3] at e'
      cases e'
      exact hnf _ dt3
    have nL : a ≠ X.env.locals := fun z => nofr (List.mem_filterMap.mpr ⟨X.env, List.mem_cons_self, by rw [hf, z]⟩)
    have nF : a ∉ X.fs := by
      intro hm
      obtain ⟨e, he, q⟩ := List.mem_filterMap.mp hm
      exact nofr (List.mem_filterMap.mpr ⟨e, List.mem_cons_of_mem _ he, q⟩)
    -- it wasn't there ahead
    have gone : sI.heap.get? a = none := by
      cases z : sI.heap.get? a with
      | none => rfl
      | some o =>
        have y := nb a o z (by rw [hs]; exact nofr)
        rw [fl3.2.1] at y
        cases y
    have gone0 : X.s_0.heap.get? a = none := by
      cases z : X.s_0.heap.get? a with
      | none => rfl
      | some o =>
        obtain ⟨o', y⟩ := J.base.there a o z (by rw [hex]; simp)
        rw [gone] at y
        cases y
    have noc : ∀ y k, X.env.cells.lookup y = some k → k ≠ a := by
      rintro y k e rfl
      obtain ⟨v, o, e1, _⟩ := J.cell y k e
      rw [gone] at e1
      cases e1
    have nop : ∀ q ∈ X.pn ++ pins, q.1 ≠ a := by
      intro q hq e
      have y := (J.pin q hq).1
      rw [e, gone] at y
      cases y
    have S3 := J3.suite at3 dt3 na nL nF
    refine wpAny_handleBy_cons (codeAny_handlers_test ?_) (by intro q; cases q)
    have LT : PySem.W.Looks (model X.prog X.w) g3 (typeOf (.ref a)) cls := fun A Q E s k q => wpAny_typeOf_ref (k _ _ at3) (by rw [zc3.1]; exact q)
    have LM := PySem.W.exm_one (M := model X.prog X.w) (J3.kIn) LT hb1
    have asked : ∀ {Q : Value → Shared → Prop} {E : Value → Shared → Prop}, Q c { t with heap := g3 } → wpAny (model X.prog X.w) (X.A.mark (some (.ref a))) (eval (.Name x np) X.env) Q E { t with heap := g3 } := by
      intro Q E q
      obtain ⟨hg, hdbg, hm | ⟨hm, hv, hnn⟩⟩ := hc
      · exact ld_glob (X := X.suite a ((a, oe3) :: (X.pn ++ pins))) S3 hg hm q hdbg
      · exact ld_blt (X := X.suite a ((a, oe3) :: (X.pn ++ pins))) S3 hg hm hv q hnn hdbg
    refine asked (LM.here ?_)
    cases b with
    | true =>
      refine codeAny_handlers_suite_as (HandSPX.lands_againZ fl3 fun g4 fl4 up4 => ?_)
      have J4 : Inv X pins τ G { t with heap := g4 } := J.landed nb fl4.1 ((up.trans up3).trans up4) os ag
      obtain ⟨oe4, vs4, at4, zc4, dt4⟩ := fl4.there
      have S4 := J4.suite at4 dt4 na nL nF
      refine store_ok (X := X.suite a ((a, oe4) :: (X.pn ++ pins))) (v := .ref a) S4 hN hi (.inl hln) rfl (fun t5 S5 => ?_) (.inr hln)
      refine wpAny_mono ((hsu a oe4 (X.pn ++ pins)).run [] t5 _ G _ S5 (hyes rfl a na)) (fun fl t6 hsp => ?_) (fun _ _ z => False.elim z)
      cases fl with
      | next =>
        obtain ⟨τ6, G6, S6, q6⟩ := hsp
        obtain ⟨p1, p2, _⟩ := S6.pin (a, oe4) (List.mem_append_left _ List.mem_cons_self)
        have J6 : Inv X pins τ6 (upd G6 a (exK a cls d)) t6 := track (S6.unsuite ok) p2 gone0 nL noc nop (exK_ok p1 zc4 dt4)
        exact gone_ok J6 hN hi hln fun t7 J7 => ⟨_, _, J7, q6⟩
      | brk =>
        obtain ⟨_, _, _, q6⟩ := hsp
        exact False.elim q6
      | cont =>
        obtain ⟨_, _, _, q6⟩ := hsp
        exact False.elim q6
      | ret u =>
        obtain ⟨_, _, _, _, _, q6⟩ := hsp
        exact False.elim q6
    | false =>
      show wpAny _ X.A (handleBy (.ref a) X.env []) _ _ _
      refine wpAny_handleBy_nil ?_
      obtain ⟨k1, k2, k3, oe, vs, T, oT, ts', he, hz, hd, h1, hr⟩ := id fl3
      unfold PySem.passOn
      refine wpAny_bind (wpAny_field he hd h1 ?_)
      rw [if_neg (show ¬ ((Value.ref T == Value.none) = true) from by simp)]
      have away : wpAny (model X.prog X.w) X.A (setFlight (.ref a) X.env.frame) (fun _ t4 => wpAny (model X.prog X.w) X.A (throw (.ref a) : Sem Flow) (SP X pins D) X.xe t4) X.xe { t with heap := g3 } := by
        rw [hf]
        refine HandSPX.setFlight_upZ fl3 fun g4 hh4 up4 => wpAny_throw (tk _ _ ?_)
        exact ⟨a, B, sI, pins, τ, G, cls, d, rfl, J, nb, (up.trans up3).trans up4, .inr (.inr (by rw [hs]; exact hh4)), na, os, ag, hno rfl⟩
      first
        | exact wpAny_bind (wpAny_pure (wpAny_bind away))
        | exact wpAny_bind away
  · cases fl with
    | next =>
      obtain ⟨τ, G, J, q⟩ := hsp
      exact wpAny_execs_nil ⟨τ, G, J.ofTry ok, q⟩
    | brk =>
      obtain ⟨τ, G, J, q⟩ := hsp
      exact ⟨τ, G, J.ofTry ok, q⟩
    | cont =>
      obtain ⟨τ, G, J, q⟩ := hsp
      exact ⟨τ, G, J.ofTry ok, q⟩
    | ret u =>
      obtain ⟨v, τ, G, J, r, q⟩ := hsp
      exact ⟨v, τ, G, J.ofTry ok, r, q⟩
end
end Su
/-! ### XB: what is asked of a kept exception: isinstance, a field -/
namespace Su
open PySem PySem.Spec PyProof.Rows L2
/-- what the written part says of an own exception class -/
structure ExcT (K : PySem.W.Frag) (C : Addr) : Prop where
  cl : (PySem.W.clsIn K C).isSome = true
  ga : PySem.W.findIn K (.ref C) "__getattribute__" = some (some (.builtin "BaseException.__getattribute__"))
  gg : PySem.W.findIn K (.ref C) "__getattr__" = some none
  sub : PySem.W.subIn K (.ref C) (.type "BaseException") = some true
  cc : PySem.W.findIn K (.ref C) "__class__" = some (some (.builtin "object.__class__"))
  sp : PySem.W.specialIn K (.builtin "object.__class__") "__get__" = some (some (.builtin "getset_descriptor.__get__"))
  tk : PySem.W.takesIn K (.builtin "object.__class__") = some true
  mr : PySem.W.mroIn K C (.type "object") = some true
  hd : PySem.W.hasDictIn K C = true
/-- its dict, if it has one, is told -/
def XdAt (H : Hp) (d : Option Addr) : Prop := ∀ dd, d = some dd → ∃ fs, H dd = some (.xd fs)
section
variable {X : Cx} {pins : List (Addr × Obj)} {σ : L2.St} {H : Hp} {s : Shared}
theorem exK_inst {a C : Addr} {d : Option Addr} (I : Inv X pins σ H s) (e : H a = some (exK a (.ref C) d)) (hd : XdAt H d) : ∃ (ox : Obj) (od : Option Obj), PySem.W.InstAt s.heap a ox C od := by
  obtain ⟨oe, vs, e1, z, dt⟩ := (I.hok a _ e).1
  have no : PySem.W.notCls oe = true := by
    unfold PySem.W.notCls
    rw [dt]
  cases d with
  | none => exact ⟨oe, none, e1, z.1, no, by rw [z.2]; trivial⟩
  | some dd =>
    obtain ⟨fs, hx⟩ := hd dd rfl
    obtain ⟨mA, hns, _⟩ := (show ObjOk X.prog X.w H s.heap dd (.xd fs) from I.hok dd _ hx)
    obtain ⟨od, ho, _⟩ := lookIn_ns hns
    exact ⟨oe, some od, e1, z.1, no, by rw [z.2]; exact ho⟩
theorem exK_kit {a C : Addr} {d : Option Addr} (T : ExcT X.K C) (I : Inv X pins σ H s) (e : H a = some (exK a (.ref C) d)) (hd : XdAt H d) : ∃ P : Heap → Prop, PySem.W.KitX X.K (.ref a) (.ref C) P ∧ P s.heap := by
  obtain ⟨ox, od, J⟩ := exK_inst I e hd
  exact ⟨_, PySem.W.kitx_exc T.cl T.ga T.gg T.sub T.cc T.sp T.tk T.mr, J⟩
/-- isinstance(e, c) -/
def rIsiE (K : PySem.W.Frag) : List V → Hp → VK → Prop := fun xs H Q => ∃ (a C : Addr) (d : Option Addr) (c : V) (u : Value) (b : Bool), xs = [.ref a, c] ∧ ClsV c u ∧ ExcT K C ∧ H a = some (exK a (.ref C) d) ∧ XdAt H d ∧ PySem.W.kitOne K (.ref C) u = some b ∧ Q (.bl b) H
theorem call_isiE : CallR X (.builtin "isinstance") (rIsiE X.K) := by
  intro pins s σ H xs us Q I r h
  obtain ⟨a, C, d, c, u, b, rfl, k, T, e, hd, ek, q⟩ := h
  obtain ⟨u1, u2, rfl, r1, r2⟩ := vals2 r
  cases r1
  have e2 := k.eq r2
  subst e2
  obtain ⟨P, Z, p⟩ := exK_kit T I e hd
  exact PySem.W.kia_one Z I.kIn p ek (fun z => nomatch z) fun tk => ⟨.bl b, H, I.tok tk, rfl, q⟩
/-- isinstance(e, (c, ..)) -/
def rIsiET (K : PySem.W.Frag) : List V → Hp → VK → Prop := fun xs H Q => ∃ (a C tp : Addr) (d : Option Addr) (cs : List V) (us : List Value) (b : Bool), xs = [.ref a, .ref tp] ∧ T2 H tp cs ∧ Paired ClsV cs us ∧ ExcT K C ∧ H a = some (exK a (.ref C) d) ∧ XdAt H d ∧
  PySem.W.kitAny K (.ref C) us = some b ∧ Q (.bl b) H
theorem call_isiET : CallR X (.builtin "isinstance") (rIsiET X.K) := by
  intro pins s σ H xs us Q I r h
  obtain ⟨a, C, tp, d, cs, ws, b, rfl, hT, k, T, e, hd, ek, q⟩ := h
  obtain ⟨u1, u2, rfl, r1, r2⟩ := vals2 r
  cases r1
  cases r2
  obtain ⟨P, Z, p⟩ := exK_kit T I e hd
  obtain ⟨its, rv, ⟨⟨oc, od, dt, sl⟩, h1, h2, n, h3⟩, _⟩ := I.tuple (hT.sq (K := X.K))
  have e3 := ClsV.all k rv
  subst e3
  simp only at h2 h3
  subst h2 h3
  exact PySem.W.kia_tup Z I.kIn p h1 ek (fun z => nomatch z) fun tk => ⟨.bl b, H, I.tok tk, rfl, q⟩
/-- e.f -/
def tXfld (K : PySem.W.Frag) (f : Str) (te : TE) : TE := fun σ H Q => te σ H fun x H1 => ∃ (a C dd : Addr) (fs : List (Str × V)) (v : V), x = .ref a ∧ ExcT K C ∧ PySem.W.findIn K (.ref C) f = some none ∧ H1 a = some (exK a (.ref C) (some dd)) ∧ H1 dd = some (.xd fs) ∧ fs.lookup f = some v ∧ Q v H1
theorem pe_xfld {e : Expr} {f : Str} {te : TE} {pos : Pos} (he : PE X e te) (hb : attributeBase e f X.env (eval e X.env) = eval e X.env := by rfl) : PE X (.Attribute e f pos) (tXfld X.K f te) := by
  refine ⟨fun pins s σ H Q I h => ?_⟩
  refine attr_of hb (thn (he.run pins s σ H _ I h) fun u s1 ⟨x, H1, I1, rx, a, C, dd, fs, v, ex, T, no, ea, ed, ef, q⟩ => ?_)
  subst ex
  cases rx
  obtain ⟨oe, vs, e1, z, dt⟩ := (I1.hok a _ ea).1
  obtain ⟨mA, hns, hr⟩ := (show ObjOk X.prog X.w H1 s1.heap dd (.xd fs) from I1.hok dd _ ed)
  obtain ⟨od, ho, hl⟩ := lookIn_ns hns
  obtain ⟨u, hu, ru⟩ := RelO.some_of (v := v) (o := mA f) (by rw [← ef]; exact hr f)
  have J : PySem.W.InstAt s1.heap a oe C (some od) := ⟨e1, z.1, by unfold PySem.W.notCls; rw [dt], by rw [z.2]; exact ho⟩
  exact HandSPX.exc_get I1.kIn J T.ga T.gg T.sub (PySem.W.findObj_own T.hd no rfl (by rw [hl, hu])) (handed_of ru) ⟨v, H1, I1.tok _, ru, q⟩
end
end Su
/-! ### XC: an own exception class, over another one, whose __init__ calls that of the built-in above and keeps a field -/
namespace Su
namespace XC
open PySem PySem.W PySem.Calls PyProof.Rows PySem.HandSPX Builtin Builtin.ObjectAttr
def inA (f : Str) (p1 p2 : Pos) : Arguments :=
  { posonlyargs := [], args := [{ arg := "self", annotation := none, pos := p1 }, { arg := f, annotation := none, pos := p2 }], vararg := none, kwonlyargs := [], kw_defaults := [], kwarg := none, defaults := [] }
def inB (f t : Str) (r1 r2 r3 r4 r5 r6 q1 q2 q3 q4 : Pos) : List Stmt :=
  [.Expr (.Call (.Attribute (.Call (.Name "super" r1) [] [] r2) "__init__" r3) [.Constant (.str t) 0 r4] [] r5) r6, .Assign [.Attribute (.Name "self" q1) f q2] (.Name f q3) q4]
def inS (f : Str) : Scope :=
  { kind := .function, names := [(PySem.Str.ofString "self", .local), (f, .local), (PySem.Str.ofString "__class__", .free), (PySem.Str.ofString "super", .globalImplicit)], isGenerator := false, isCoroutine := false, more := [] }
/-- a field's name -/
structure Fld (f : Str) : Prop where
  self : f ≠ "self"
  cl : f ≠ "__class__"
  su : f ≠ "super"
  db : (f == ("__debug__" : Str)) = false
  bnd : ∀ (q : Str) (p1 p2 : Pos) (bd : List Stmt) (doc pm : Value) (an : Option Addr) (cd ct : Value) (cc : Addr) (a b : Value), bindArgs (ksFn "__init__" q (inA f p1 p2) bd (inS f) .none .none doc pm an cd ct cc) ⟨[a, b], []⟩ = pure ([("self", a), (f, b)] : List (Str × Value))
  sw : ∀ (q : Str) (L a : Addr) (cd : Value) (cc : Addr) (t : Str) (r1 r2 r3 r4 r5 : Pos) (k : Nat), swapsWith (.Call (.Attribute (.Call (.Name "super" r1) [] [] r2) "__init__" r3) [.Constant (.str t) 0 r4] [] r5) none k (ksEnv q (inS f) L a cd cc) = pure false
  sx : ∀ (q : Str) (L a : Addr) (cd : Value) (cc : Addr) (q1 q2 q3 : Pos) (k : Nat), swapsWith (.Name f q3) (some (.Attribute (.Name "self" q1) f q2)) k (ksEnv q (inS f) L a cd cc) = pure false
theorem fld_row : Fld "row" := ⟨by decide, by decide, by decide, by decide, fun _ _ _ _ _ _ _ _ _ _ _ _ => by first | rfl | with_unfolding_all rfl, fun _ _ _ _ _ _ _ _ _ _ _ _ => by first | rfl | with_unfolding_all rfl, fun _ _ _ _ _ _ _ _ _ => by first | rfl | with_unfolding_all rfl⟩
theorem fld_number : Fld "number" := ⟨by decide, by decide, by decide, by decide, fun _ _ _ _ _ _ _ _ _ _ _ _ => by first | rfl | with_unfolding_all rfl, fun _ _ _ _ _ _ _ _ _ _ _ _ => by first | rfl | with_unfolding_all rfl, fun _ _ _ _ _ _ _ _ _ => by first | rfl | with_unfolding_all rfl⟩
theorem fld_part : Fld "part" := ⟨by decide, by decide, by decide, by decide, fun _ _ _ _ _ _ _ _ _ _ _ _ => by first | rfl | with_unfolding_all rfl, fun _ _ _ _ _ _ _ _ _ _ _ _ => by first | rfl | with_unfolding_all rfl, fun _ _ _ _ _ _ _ _ _ => by first | rfl | with_unfolding_all rfl⟩
theorem fld_room : Fld "room" := ⟨by decide, by decide, by decide, by decide, fun _ _ _ _ _ _ _ _ _ _ _ _ => by first | rfl | with_unfolding_all rfl, fun _ _ _ _ _ _ _ _ _ _ _ _ => by first | rfl | with_unfolding_all rfl, fun _ _ _ _ _ _ _ _ _ => by first | rfl | with_unfolding_all rfl⟩
theorem fld_to : Fld "to" := ⟨by decide, by decide, by decide, by decide, fun _ _ _ _ _ _ _ _ _ _ _ _ => by first | rfl | with_unfolding_all rfl, fun _ _ _ _ _ _ _ _ _ _ _ _ => by first | rfl | with_unfolding_all rfl, fun _ _ _ _ _ _ _ _ _ => by first | rfl | with_unfolding_all rfl⟩
theorem fld_name : Fld "name" := ⟨by decide, by decide, by decide, by decide, fun _ _ _ _ _ _ _ _ _ _ _ _ => by first | rfl | with_unfolding_all rfl, fun _ _ _ _ _ _ _ _ _ _ _ _ => by first | rfl | with_unfolding_all rfl, fun _ _ _ _ _ _ _ _ _ => by first | rfl | with_unfolding_all rfl⟩
/-- what the written part says of the class n at C, over the built-in B, with the field f, its __init__ at fI -/
structure Own (P : Program) (K : Frag) (mg : Str → Option Value) (n f : Str) (C fI : Addr) (B newId initId : String) (bmB : List Value) : Prop where
  fld : Fld f
  gC : mg n = some (.ref C)
  ini : excInitIn K C bmB newId = true
  ovr : excOver K C bmB = true
  base : ExcBaseFacts B newId initId bmB
  stor : StoreFacts B bmB "object.__setattr__" "object"
  kx : KxsFacts B initId
  sa : findIn K (.ref C) "__setattr__" = some (some (.builtin "object.__setattr__"))
  noN : findIn K (.ref C) f = some none
  iC : findIn K (.ref C) "__init__" = some (some (.ref fI))
  fC : isFn K (.ref fI) = true
  kC : keepIn K (.ref C) = true
  exC : subIn K (.ref C) (.type "BaseException") = some true
  tyC : typeIn K (.ref C) = some (.type "type")
  hdC : hasDictIn K C = true
  isB : subIn K (.ref C) (.type B) = some true
  sup : ks_superIn K C C "__init__" = some (some (.builtin initId))
  own : mroIn K C (.ref C) = some true
  nos : mg "super" = none
  opq : nsIn K cStatics "thirdparty.any" = some none
  ntop : (P.main.scope.names.lookup ("super" : Str)).isSome = false
  fn : ∃ (oc : Value) (od : Option Addr) (q : Str) (doc pm : Value) (an : Option Addr) (cda cc : Addr) (ct : Value) (osl : Array (Option Value)) (t : Str) (p1 p2 r1 r2 r3 r4 r5 r6 q1 q2 q3 q4 : Pos)
      (ccl : Value) (cdd : Option Addr) (vs : Array Value) (ccs : Array (Option Value)) (file : Str) (tf : Tok) (cl : Value) (cld : Option Addr) (csl : Array (Option Value)),
    K.lookup fI = some ⟨oc, od, .func (ksFn "__init__" q (inA f p1 p2) (inB f t r1 r2 r3 r4 r5 r6 q1 q2 q3 q4) (inS f) .none .none doc pm an (.ref cda) ct cc), osl⟩ ∧ codeIn K (.ref cda) q = true ∧
    K.lookup cda = some ⟨ccl, cdd, .fields vs, ccs⟩ ∧ vs[2]? = some (.str file tf) ∧ ((P.main.file : Str) == file) = true ∧ (r3.endLine == r5.line) = true ∧ K.lookup cc = some ⟨cl, cld, .cell (some (.ref C)), csl⟩
/-- what __init__ leaves of a fresh exception at x -/
structure Left (h h' : Heap) (x C dx t1 : Addr) (f : Str) (v : Value) : Prop where
  keep : ∀ b o, b ≠ x → h.get? b = some o → h'.get? b = some o
  obj : h'.get? x = some { cls := .ref C, dict := some dx, data := .fields #[.ref t1, .none, .none, .none, .bool false, .none] }
  dbig : h.objs.size ≤ dx
  dne : dx ≠ x
  ns : h'.Ns1 dx (fun y => if y = f then some v else none)
section
variable {P : Program} {w : World} {A : Around} {E : Value → Shared → Prop} {R : Result → Shared → Prop} {s : Shared} {K : Frag} {mg : Str → Option Value} {n f : Str} {C fI : Addr} {B newId initId : String} {bmB : List Value}
theorem ev_init {env : Env} {o : Expr} {m : Str} {t : Str} {r3 r4 r5 : Pos} (hl : (r3.endLine == r5.line) = true) : ∃ pl, eval (.Call (.Attribute o m r3) [.Constant (.str t) 0 r4] [] r5) env = (do
    let ov ← attributeBase o m env (eval o env); standAt r3.atName
    let (g, first) ← holding [ov] (getMethod ov m pl); callWith r5 g first (backTo r5 (starEach [.Constant (.str t) 0 r4] env)) []) := by
  have e1 : methodCallForm 1 (backTo r5 (starEach [.Constant (.str t) 0 r4] env)) (backToKw r5 (keywordEach [] env)) = true := rfl
  have e2 : methodCallPos true o env r3 r5 = pure r5 := by
    unfold methodCallPos
    rw [hl]
    rfl
  refine ⟨do return (← importBound o env).getD true, ?_⟩
  rw [arm_eval_Call]
  show (do let ov ← attributeBase o m env (eval o env); standAt r3.atName; methodCall o m r3 r5 env ov 1 (backTo r5 (starEach [.Constant (.str t) 0 r4] env)) (backToKw r5 (keywordEach [] env))) = _
  unfold methodCall
  rw [e1, e2]
  simp only [calleeOf, if_true, pure_bind]
  rfl
theorem put_new {x t1 : Addr} {v : Value} {tk : Tok} (T : Own P K mg n f C fI B newId initId bmB) (X : K.In s.heap) (hx : s.heap.get? x = some (excO C t1))
    (hq : ∀ h' tk' dx, (∀ b o, b ≠ x → s.heap.get? b = some o → h'.get? b = some o) → s.heap.objs.size ≤ dx → dx ≠ x → h'.get? x = some { cls := .ref C, dict := some dx, data := .fields #[.ref t1, .none, .none, .none, .bool false, .none] } →
      h'.Ns1 dx (fun y => if y = f then some v else none) → R (.ok (.ret .none)) { s with heap := h', toks := tk' }) :
    codeAny (model P w) A (.call (.builtin "object.__setattr__") ⟨[.ref x, .str f tk, v], []⟩) R s := by
  obtain ⟨cd, hc, hd⟩ := any_some T.hdC
  have hxs : x ≠ s.heap.objs.size := Nat.ne_of_lt (Heap.lt_size hx)
  refine osa_openX (od := none) (r := none) T.stor X ⟨hx, rfl, rfl, trivial⟩ T.ovr (by unfold takerIn; rw [T.noN]; rfl) fun b => ?_
  obtain ⟨hp, g, d, t, os⟩ := s
  refine wpAny_bind (wpAny_pure (wpAny_bind (instanceDict_exc hx (looks_clsIn X hc) hd ?_)))
  show wpAny _ _ (storeInDict hp.objs.size (.str f tk) f v) _ _ _
  refine store_in_new ?_ fun h' tk' hn' hs => ?_
  · exact ⟨_, #[], _, (Heap.get?_update_ne _ _ _ _ hxs.symm).trans (Heap.get?_push_at rfl rfl), rfl, fun e he => absurd he (by simp), fun _ => rfl⟩
  · have e1 : (hp.push (dictOf [] 0)).get? x = some (excO C t1) := Heap.get?_push_of_some _ hx
    exact hq h' tk' hp.objs.size (fun b o hb ho => (hs.2 b (Nat.ne_of_lt (Heap.lt_size ho))).trans ((Heap.get?_update_ne _ _ _ _ hb).trans (Heap.get?_push_of_some _ ho))) (Nat.le_refl _) hxs.symm ((hs.2 x hxs).trans (Heap.get?_update_self _ e1 rfl)) hn'
theorem kind_f (F : Fld f) : (inS f).names.lookup f = some .local := by
  show List.lookup f ((PySem.Str.ofString "self", NameKind.local) :: (f, NameKind.local) :: _) = _
  rw [List.lookup_cons, show (f == PySem.Str.ofString "self") = false from by simpa using F.self, List.lookup_cons, beq_self_eq_true]
theorem kind_c (F : Fld f) : (inS f).names.lookup ("__class__" : Str) = some .free := by
  show List.lookup ("__class__" : Str) ((PySem.Str.ofString "self", NameKind.local) :: (f, NameKind.local) :: (PySem.Str.ofString "__class__", NameKind.free) :: _) = _
  rw [List.lookup_cons, show (("__class__" : Str) == PySem.Str.ofString "self") = false from by decide, List.lookup_cons, show (("__class__" : Str) == f) = false from by simpa using Ne.symm F.cl, List.lookup_cons, show (("__class__" : Str) == PySem.Str.ofString "__class__") = true from by decide]
theorem kind_s (F : Fld f) : (inS f).names.lookup ("super" : Str) = some .globalImplicit := by
  show List.lookup ("super" : Str) ((PySem.Str.ofString "self", NameKind.local) :: (f, NameKind.local) :: (PySem.Str.ofString "__class__", NameKind.free) :: (PySem.Str.ofString "super", NameKind.globalImplicit) :: _) = _
  rw [List.lookup_cons, show (("super" : Str) == PySem.Str.ofString "self") = false from by decide, List.lookup_cons, show (("super" : Str) == f) = false from by simpa using Ne.symm F.su, List.lookup_cons, show (("super" : Str) == PySem.Str.ofString "__class__") = false from by decide, List.lookup_cons, show (("super" : Str) == PySem.Str.ofString "super") = true from by decide]
/-- the built-in's __init__, bound to x, called: its args are laid anew -/
theorem call_mw {u x t0 : Addr} {a : Value} {Q : Value → Shared → Prop} (T : Own P K mg n f C fI B newId initId bmB) (X : K.In s.heap) (hx : s.heap.get? x = some (excO C t0)) (hu : s.heap.get? u = some (kxs_mw initId x))
    (hq : ∀ h' t1, (∀ b o, b ≠ x → s.heap.get? b = some o → h'.get? b = some o) → h'.get? x = some (excO C t1) → Q .none { s with heap := h' }) : wpAny (model P w) A (call (.ref u) [a]) Q E s := by
  obtain ⟨nm, N', qn, bs, bm, hdct, sn, sub, ab, col, dd, k0, k1, k2, k3, k5, hC, hT⟩ := excInit_of X T.ini
  obtain ⟨hp, g, d, tk, os⟩ := s
  have z1 : (Value.type "method-wrapper" == Value.type "method" || Value.type "method-wrapper" == Value.type "builtin_function_or_method" || Value.type "method-wrapper" == Value.type "method-wrapper") = true := by decide
  refine wpAny_call (codeAny_of_tree (show wpAny _ A.in1 (callAny (.ref u) ⟨[a], []⟩) _ _ _ from ?_))
  simp only [callAny]
  refine wpAny_bind (wpAny_load hu (by simp only [kxs_mw, z1, if_true]; refine KFB.if_so (by decide) (wpAny_bind (check_bound_init T.base.toExcCallFacts hC hx rfl (wpAny_bind (wpAny_pure (wpAny_pure ?_))))); exact ⟨plainId_quiet T.base.init.plain _, codeAny_builtin T.base.initEntry (exc_init_tree (cls := .ref C) (t0 := t0) (dv := none) (c2 := .none) (c3 := .none) (b4 := .bool false) hx (by rw [sizeLine_eq]; exact (by decide : 1 ≤ 16777216)) fun h' k e _ => hq h' _ k e)⟩))
theorem x_init (T : Own P K mg n f C fI B newId initId bmB) {x t0 : Addr} {v : Value} (X : K.In s.heap) (hG : s.heap.Ns mainGlobals mg) (hB : ∃ mb, s.heap.Ns builtinsNs mb ∧ ∀ y : Str, y ≠ "__name__" → mb y = bootBuiltins y) (hlim : s.heap.NoLimit)
    (hx : s.heap.get? x = some (excO C t0)) (hnx : K.lookup x = none) (hroom : A.depth < recursionLimit) (hq : ∀ h' tk dx t1, Left s.heap h' x C dx t1 f v → R (.ok (.ret .none)) { s with heap := h', toks := tk }) :
    codeAny (model P w) A (.call (.ref fI) ⟨[.ref x, v], []⟩) R s := by
  obtain ⟨oc, od, q, doc, pm, an, cda, cc, ct, osl, t, p1, p2, r1, r2, r3, r4, r5, r6, q1, q2, q3, q4, ccl, cdd, vs, ccs, file, tf, cl, cld, csl, ho, hcd, hcode, hvs, hfile, hln, hcell⟩ := T.fn
  obtain ⟨hp, g, d, tk0, os⟩ := s
  refine ks_codeAny_call_defAt (fd := ksFn "__init__" q (inA f p1 p2) (inB f t r1 r2 r3 r4 r5 r6 q1 q2 q3 q4) (inS f) .none .none doc pm an (.ref cda) ct cc) (body := inB f t r1 r2 r3 r4 r5 r6 q1 q2 q3 q4) (binds := [("self", .ref x), (f, v)]) hroom (X _ _ ho) rfl hlim (codeRec_of X hcd) rfl
    (BindsTo.of_eq ?b) ?c ?l (fun h₁ hns k₁ => ?_) rfl rfl rfl
  case b => exact T.fld.bnd _ _ _ _ _ _ _ _ _ _ _ _
  case c =>
    intro y hy e
    rcases List.mem_cons.mp hy with rfl | hy
    · cases e
    rcases List.mem_cons.mp hy with rfl | hy
    · cases e
    rcases List.mem_cons.mp hy with rfl | hy
    · cases e
    rcases List.mem_cons.mp hy with rfl | hy
    · cases e
    cases hy
  case l =>
    intro y hy
    rcases List.mem_cons.mp hy with rfl | hy
    · rfl
    rcases List.mem_cons.mp hy with rfl | hy
    · exact kind_f T.fld
    cases hy
  have X1 : K.In h₁ := X.keeps k₁
  have hx1 := k₁ _ _ hx
  obtain ⟨mb, hb1, hb2⟩ := hB
  obtain ⟨cd, hc, hd⟩ := any_some T.hdC
  have lself : (fun y => List.lookup y ([("self", .ref x), (f, v)] : List (Str × Value)).reverse) "self" = some (.ref x) := by
    show List.lookup ("self" : Str) [(f, v), ("self", .ref x)] = _
    rw [List.lookup_cons, show (("self" : Str) == f) = false from by simpa using Ne.symm T.fld.self, List.lookup_cons, beq_self_eq_true]
  have lf : (fun y => List.lookup y ([("self", .ref x), (f, v)] : List (Str × Value)).reverse) f = some v := by
    show List.lookup f [(f, v), ("self", .ref x)] = _
    rw [List.lookup_cons, beq_self_eq_true]
  obtain ⟨oD, hD1, hD2⟩ : ∃ oD, h₁.get? C = some oD ∧ oD.data = .cls cd := by
    unfold clsIn at hc
    split at hc
    · rename_i c d cd' sl ho
      cases hc
      exact ⟨_, X1 _ _ ho, rfl⟩
    · cases hc
  show _root_.PySem.wpAt _ _ (.func _ (ksEnv q (inS f) hp.objs.size fI (.ref cda) cc)) (execs _ (ksEnv q (inS f) hp.objs.size fI (.ref cda) cc)) _ _ _
  obtain ⟨pl, ev⟩ := ev_init (env := ksEnv q (inS f) hp.objs.size fI (.ref cda) cc) (o := .Call (.Name "super" r1) [] [] r2) (m := "__init__") (t := t) (r4 := r4) hln
  refine ks_wpAt_execs_cons (ks_wpAt_Expr_any (ks_wpAt_MethodCall (pl := pl) ?_ ev) rfl (T.fld.sw _ _ _ _ _ _ _ _ _ _ _ _))
  refine ks_wpAt_super_base (env := ksEnv q (inS f) hp.objs.size fI (.ref cda) cc) (kind_s T.fld) (kind_c T.fld) (by decide) rfl (X1 _ _ ho) rfl rfl rfl (X1 _ _ hcode) rfl hvs hfile T.ntop ?_
  refine ks_loadName_global rfl (kind_s T.fld) (loadGlobal_builtin (env := ksEnv q (inS f) hp.objs.size fI (.ref cda) cc) (hG.keeps k₁) T.nos (hb1.keeps k₁) ((hb2 _ (by decide)).trans (show bootBuiltins "super" = some (.type "super") from by first | rfl | decide +kernel)) ⟨rfl, ?_⟩)
  refine wpAny_loadName_free rfl (kind_c T.fld) rfl ⟨_, X1 _ _ hcell, rfl⟩ (wpAny_loadName_local rfl rfl hns lself (ks_wpAny_isType_cls hD1 hD2 ⟨rfl, ?_⟩))
  refine ks_wpAny_call_super hD1 hD2 hx1 rfl (fun c e => by cases e) (looks_mroIn X1 T.own) (fun h2 e2 k2 => ?_)
  have X2 : K.In h2 := X1.keeps k2
  have hx2 := k2 _ _ hx1
  have Ix : InstAt h2 x (excO C t0) C none := ⟨hx2, rfl, rfl, trivial⟩
  have hm := T.sup
  unfold ks_superIn at hm
  rw [hc] at hm
  refine kxs_getMethod T.kx e2 (looks_opaque X2 T.opq) (l₀ := cd.mro) (fun A Q E s k q => wpAny_bind ((looks_clsIn X2 hc) A _ E s k (wpAny_pure q))) rfl X2 hm (Ix.type.andThen (looks_subIn X2 T.isB)) (ks_ne X2 Ix hc) (by decide) ?_
  have k3 : ∀ b o, h2.get? b = some o → (h2.push (kxs_mw initId x)).get? b = some o := fun b o e => Heap.get?_push_of_some _ e
  refine kxs_callWith (i := initId) (x := x) rfl (evalArgs_plain (spliced_more (wpAny_Constant_str (spliced_none ⟨Heap.get?_push_at rfl rfl, ?_⟩))))
  refine call_mw T (X2.keeps k3) (k3 _ _ hx2) (Heap.get?_push_at rfl rfl) fun h4 t1 k4 hx4 => ?_
  have kk : ∀ b o, h₁.get? b = some o → (h2.push (kxs_mw initId x)).get? b = some o := fun b o e => k3 _ _ (k2 _ _ e)
  have hxL : hp.objs.size ≠ x := Nat.ne_of_gt (Heap.lt_size hx)
  have n4 : h4.Ns hp.objs.size (fun y => List.lookup y ([("self", .ref x), (f, v)] : List (Str × Value)).reverse) := by
    obtain ⟨oL, es, ep, hL, r⟩ := hns.keeps kk
    exact ⟨oL, es, ep, k4 _ _ hxL hL, r⟩
  have X4 : K.In h4 := fun b o e => k4 b o (fun z => by rw [z, hnx] at e; cases e) (X2.keeps k3 b o e)
  have lt : hp.objs.size < h4.objs.size := n4.lt
  show _root_.PySem.wpAt _ _ _ (execs _ (ksEnv q (inS f) hp.objs.size fI (.ref cda) cc)) _ _ _
  refine ks_wpAt_execs_cons (ks_wpAt_Assign_Attr (wpAt_of_wpAny ?_) (T.fld.sx _ _ _ _ _ _ _ _ _))
  refine wpAny_Name (wpAny_loadName_local rfl (kind_f T.fld) n4 lf (wpAny_Name (wpAny_loadName_local rfl rfl n4 lself ?_) (by decide))) T.fld.db
  refine set_plain X4 (ox := excO C t1) (od := none) ⟨hx4, rfl, rfl, trivial⟩ T.sa (put_new T X4 hx4 fun h5 tk5 dx k5 dn dne hx5 hn5 => ?_)
  show _root_.PySem.wpAt _ _ _ (execs [] _) _ _ _
  refine wpAt_of_wpAny (wpAny_execs_nil (hq h5 tk5 dx t1 ⟨fun b o hb e => k5 b o hb (k4 b o hb (kk _ _ (k₁ _ _ e))), hx5, Nat.le_trans (Nat.le_of_lt lt) dn, dne, hn5⟩))
/-- n(v), made: its own dict at d holds the field -/
structure Made (h h' : Heap) (e C d : Addr) (f : Str) (v : Value) : Prop where
  keep : ∀ b o, h.get? b = some o → h'.get? b = some o
  new : h.objs.size ≤ e
  obj : ∃ oe us, h'.get? e = some oe ∧ oe.cls = .ref C ∧ oe.dict = some d ∧ oe.data = .fields us ∧ us[1]? = some .none
  dbig : h.objs.size ≤ d
  dne : d ≠ e
  ns : h'.Ns1 d (fun y => if y = f then some v else none)
theorem x_made (T : Own P K mg n f C fI B newId initId bmB) {v : Value} (X : K.In s.heap) (hG : s.heap.Ns mainGlobals mg) (hB : ∃ mb, s.heap.Ns builtinsNs mb ∧ ∀ y : Str, y ≠ "__name__" → mb y = bootBuiltins y) (hlim : s.heap.NoLimit) (hroom : A.depth + 1 < recursionLimit)
    (hq : ∀ h' tk e d, Made s.heap h' e C d f v → R (.ok (.ret (.ref e))) { s with heap := h', toks := tk }) : codeAny (model P w) A (.call (.ref C) ⟨[v], []⟩) R s := by
  obtain ⟨nm, N', qn, bs, bm, hdct, sn, sub, ab, col, dd, k0, k1, k2, k3, k5, hC, hT⟩ := excInit_of X T.ini
  obtain ⟨oI, hoI, hcI⟩ : ∃ oI, s.heap.get? fI = some oI ∧ oI.cls = .type "function" := by
    obtain ⟨o, ho, hc⟩ := Option.map_eq_some_iff.mp (show (K.lookup fI).map (fun z => z.cls) = some (.type "function") from beq_iff_eq.mp T.fC)
    exact ⟨o, X _ _ ho, hc⟩
  obtain ⟨hp, g, dr, tk, os⟩ := s
  have k : ∀ b o, hp.get? b = some o → ((hp.push (kdv_tup [v])).push (excO C hp.objs.size)).get? b = some o := fun b o e => Heap.get?_push_of_some _ (Heap.get?_push_of_some _ e)
  have hnx : K.lookup (hp.objs.size + 1) = none := by
    cases e : K.lookup (hp.objs.size + 1) with
    | none => rfl
    | some o => exact absurd (Nat.lt_of_succ_lt (Heap.lt_size (show hp.get? (hp.objs.size + 1) = some o from X _ _ e))) (Nat.lt_irrefl _)
  refine call_own T.base hT hC (looks_findIn X T.iC) (fun self => exc_bind hoI hcI self) (by rw [sizeLine_eq]; exact (by decide : 1 ≤ 16777216)) ?_
  obtain ⟨mb, hb1, hb2⟩ := hB
  refine x_init (s := ⟨(hp.push (kdv_tup [v])).push (excO C hp.objs.size), g, dr, tk, os⟩) T (X.keeps k) (hG.keeps k) ⟨mb, hb1.keeps k, hb2⟩ (hlim.keeps k) (by heap_get) hnx (show A.depth + 1 < recursionLimit from hroom) fun h' tk' dx t1 L => ?_
  have z : hp.objs.size + 1 + 1 ≤ dx := by
    have q := L.dbig
    first
      | (simpa only [Heap.size_push] using q)
      | exact q
      | (rw [Heap.size_push, Heap.size_push] at q; exact q)
  refine ⟨rfl, hq h' tk' (hp.objs.size + 1) dx ⟨fun b o e => L.keep b o (Nat.ne_of_lt (Nat.lt_succ_of_lt (Heap.lt_size e))) (k b o e), Nat.le_succ _, ⟨_, _, L.obj, rfl, rfl, rfl, rfl⟩, Nat.le_trans (Nat.le_trans (Nat.le_succ _) (Nat.le_succ _)) z, L.dne, L.ns⟩⟩
end
end XC
open PySem PySem.Spec PyProof.Rows L2
theorem relO_fld {f : Str} {v : V} {u : Value} (r : RelV v u) (y : Str) : RelO (List.lookup y [(f, v)]) (if y = f then some u else none) := by
  by_cases e : y = f
  · subst e
    rw [if_pos rfl, List.lookup_cons, beq_self_eq_true]
    exact r
  · rw [if_neg e, List.lookup_cons, show (y == f) = false from by simpa using e]
    trivial
section
variable {X : Cx} {n f : Str} {C fI : Addr} {B newId initId : String} {bmB : List Value}
/-- n(e): a new exception, its dict at d -/
def tMkX (C : Addr) (f : Str) (ta : TA) : L2.St → Hp → XK → Prop := fun σ H Q => ta σ H fun vs H1 => ∃ v, vs = [v] ∧ ∀ d, H1 d = none → Q (.ref C) (some d) (upd H1 d (.xd [(f, v)]))
theorem pmk_x {a : Expr} {ta : TA} {p pos : Pos} {k : Nat} (T : XC.Own X.prog X.K X.mg n f C fI B newId initId bmB) (hr : Room k X.A) (ha : PA X [a] ta) (hg : Gl X n := by rfl)
    (he : starEach (a :: []) X.env = (false, eval a X.env) :: starEach [] X.env := by rfl) (hpl : (backTo pos (starEach [] X.env)).any (·.1) = false := by rfl) (hdb : (n == ("__debug__" : Str)) = false := by decide) : PMk X (.Call (.Name n p) [a] [] pos) (tMkX C f ta) := by
  intro pins s σ H Q I h
  refine wpAny_Call_Name_kw (ld_glob I hg T.gC (PySem.W.callWith_K (h₀ := X.base) I.ok.mod.kin T.kC (thn (ha.run pos pins s σ H _ I h) fun us s1 ⟨vs, H1, I1, r1, v, ev, q1⟩ => ?_) he hpl) hdb)
  subst ev
  refine ⟨I1.kIn, ?_⟩
  obtain ⟨u1, rfl, rv⟩ := vals1 r1
  show wpAny _ _ (call (.ref C) [u1]) _ _ _
  have hlim := I1.nolimit
  obtain ⟨mb, hb1, hb2⟩ := I1.mod.blt
  have hG := I1.mod.glob.keeps I1.bk
  have hb := hb1.keeps I1.bk
  obtain ⟨hp, g, dr, tk, os⟩ := s1
  refine wpAny_call (XC.x_made T I1.kIn hG ⟨mb, hb, hb2⟩ hlim (by have := hr.dp; omega) fun h' tk' e d M => ?_)
  show MkP X pins σ Q (.ref e) ⟨h', g, dr, tk', os⟩
  obtain ⟨oe, fv, hoe, hc, hd, hdat, h1⟩ := M.obj
  obtain ⟨G', g1, g2⟩ := restrict h' fun b => decide (b ≠ e)
  have gk : ∀ b, b ≠ e → G'.get? b = h'.get? b := fun b hb => g1 b (decide_eq_true hb)
  have ge : G'.get? e = none := g2 e (by simp)
  have ob : ObjOk X.prog X.w (upd H1 d (.xd [(f, v)])) G' d (.xd [(f, v)]) := ⟨_, M.ns.at (fun o q => (gk d M.dne).trans q), fun y => relO_fld rv y⟩
  have J : Inv X pins σ (upd H1 d (.xd [(f, v)])) ⟨G', g, dr, tk', os⟩ := I1.laid (t' := tk') (fun b o q => (gk b (Nat.ne_of_lt (Nat.lt_of_lt_of_le (Heap.lt_size q) M.new))).trans (M.keep b o q)) M.dbig ob
  refine ⟨e, oe, fv, ⟨G', g, dr, tk', os⟩, _, .ref C, some d, rfl, J, fun b o q => ?_, ge, hoe, ⟨hc, hd⟩, hdat, h1, by rw [upd_ne (Ne.symm M.dne)]; exact I1.hok.fresh M.new, rfl, I1.bare, raises_own T.exC T.tyC, q1 d (I1.hok.fresh M.dbig)⟩
  by_cases hb : b = e
  · rw [hb] at q
    cases ge.symm.trans (show G'.get? e = some o from q)
  · exact (gk b hb).symm.trans q
/-- raise n(e) -/
def tRaiseX (C : Addr) (f : Str) (W : WX) (ta : TA) : TS := fun _ σ H => tMkX C f ta σ H fun cls d H' => W cls d σ H'
theorem ps_raiseX {a : Expr} {ta : TA} {W : WX} {p pos pos2 : Pos} {k : Nat} (hc : X.calm = true) (T : XC.Own X.prog X.K X.mg n f C fI B newId initId bmB) (hr : Room k X.A) (tk : Takes X W) (ha : PA X [a] ta) (hg : Gl X n := by rfl)
    (he : starEach (a :: []) X.env = (false, eval a X.env) :: starEach [] X.env := by rfl) (hpl : (backTo pos (starEach [] X.env)).any (·.1) = false := by rfl) (hdb : (n == ("__debug__" : Str)) = false := by decide) :
    PS X (.Raise (some (.Call (.Name n p) [a] [] pos)) none pos2) (tRaiseX C f W ta) := ps_raise hc tk (pmk_x T hr ha hg he hpl hdb)
end
end Su
/-! ### XD: defs that may let an exception out -/
namespace Su
open PySem PySem.Spec PyProof.Rows L2
structure CalX (P : Program) (w : World) (K : PySem.W.Frag) (mg : Str → Option Value) (base : Heap) (k : Nat) (x : Str) (ps : List Str) (sp : Sp) : Prop where
  ex : ∃ (f : Addr) (fd : FuncData), FnOk P w K mg base (L2.CX P w) k f fd ps sp ∧ mg x = some (.ref f) ∧ PySem.W.keepIn K (.ref f) = true ∧ Binds K fd ps [] ∧ ∃ o : Obj, K.lookup f = some o ∧ o.data = .func fd
section
variable {P : Program} {w : World} {K : PySem.W.Frag} {mg : Str → Option Value} {base : Heap}
theorem cal_ofX {x : Str} {st : Stmt} {N ps : List Str} {k : Nat} {sp : Sp} (T : At K mg x st ps) (S : FnScope N ps (defScope st)) (len : ∀ vs H Q E, sp vs H Q E → vs.length = ps.length)
    (hb : ∀ (f : Addr) (cdv : Value) (A : Around) (outer : List Env) (s : Shared) (H : Hp) (vs : List V) (Q : VK) (E : XK), Room k (A.deeper (envOfC x (defScope st) s.heap.objs.size f cdv)) → sp vs H Q E →
      ∃ t, PSs (cxOf (L2.CX P w) P w K mg base N x (defScope st) f cdv A outer s H E) (defBody st) t ∧ t { nx := fun _ H' => Q .non H', rt := Q } (start N vs) H) : CalX P w K mg base (k + 1) x ps sp := by
  obtain ⟨f, fd, F, hm, b⟩ := T.ex
  have z : ∃ o : Obj, K.lookup f = some o ∧ o.data = .func fd := by
    obtain ⟨oc, od, kV, doc, pm, an, cdv, ct, osl, _, lk, _⟩ := F.ex
    exact ⟨_, lk, rfl⟩
  exact ⟨f, fd, F.okX S len (fun cdv A outer s H vs Q E => hb f cdv A outer s H vs Q E), hm, F.kp, b, z⟩
end
section
variable {X : Cx} {x : Str} {ps : List Str} {sp : Sp} {k j : Nat} {e : Expr} {es : List Expr} {t : TA} {p pos : Pos} {W : WX}
theorem pe_ownX (tk : Takes X W) (C : CalX X.prog X.w X.K X.mg X.base k x ps sp) (hr : Room j X.A) (hk : k ≤ j) (hg : Gl X x) (ha : PA X (e :: es) t)
    (hdb : (x == ("__debug__" : Str)) = false := by decide) (he : starEach (e :: es) X.env = (false, eval e X.env) :: starEach es X.env := by rfl) (hpl : (backTo pos (starEach es X.env)).any (·.1) = false := by rfl) :
    PE X (.Call (.Name x p) (e :: es) [] pos) (tCallS sp (WE W) t) := by
  obtain ⟨f, fd, F, hm, kp, b, _⟩ := C.ex
  exact pe_callS F (hr.mono hk) hg hm kp b (fun σ => passAt tk σ) ha hdb he hpl
end
end Su
/-! ### XE: raise X('..'), X an own exception class without own __init__ -/
namespace Su
open PySem PySem.Spec PyProof.Rows L2
/-- what the written part says of the class n at C, over the built-in B -/
structure Own0 (K : PySem.W.Frag) (mg : Str → Option Value) (n : Str) (C : Addr) (B newId initId : String) (bmB : List Value) : Prop where
  base : ExcBaseFacts B newId initId bmB
  ini : PySem.W.excIn K C bmB newId = true
  gC : mg n = some (.ref C)
  kC : PySem.W.keepIn K (.ref C) = true
  exC : PySem.W.subIn K (.ref C) (.type "BaseException") = some true
  tyC : PySem.W.typeIn K (.ref C) = some (.type "type")
def tRaiseT (C : Addr) (W : WX) : TS := fun _ σ H => W (.ref C) none σ H
theorem ps_raiseT {X : Cx} {n m : Str} {C : Addr} {B newId initId : String} {bmB : List Value} {W : WX} {j : Nat} {p p2 pos pos2 : Pos} (hc : X.calm = true) (T : Own0 X.K X.mg n C B newId initId bmB) (tk : Takes X W) (hg : Gl X n := by rfl)
    (hdb : (n == ("__debug__" : Str)) = false := by decide) : PS X (.Raise (some (.Call (.Name n p) [.Constant (.str m) j p2] [] pos)) none pos2) (tRaiseT C W) :=
  ps_raise hc tk (pmk_own T.base T.ini T.gC T.kC (raises_own T.exC T.tyC) hg hdb)
end Su
/-! ### GA: things of any kind -/
namespace Su
open PySem PySem.Spec PyProof.Rows L2
inductive G where
  | non
  | bl (b : Bool)
  | int (i : Int)
  | str (s : Str)
  | lst (l : List G)
  | tup (l : List G)
  | dct
mutual
/-- the value is such a thing; its lists stand apart from p -/
inductive Tg (p : Addr) (H : Hp) : V → G → Prop
  | non : Tg p H .non .non
  | bl (b : Bool) : Tg p H (.bl b) (.bl b)
  | int (i : Int) : Tg p H (.int i) (.int i)
  | str (s : Str) : Tg p H (.str s) (.str s)
  | lst {a : Addr} {vs : List V} {ds : List G} (n : a ≠ p) (e : H a = some (.lst vs)) (t : TgL p H vs ds) : Tg p H (.ref a) (.lst ds)
  | tup {a : Addr} {vs : List V} {ds : List G} (e : T2 H a vs) (t : TgL p H vs ds) : Tg p H (.ref a) (.tup ds)
  | dct {a : Addr} (e : H a = some (.dK [])) : Tg p H (.ref a) .dct
inductive TgL (p : Addr) (H : Hp) : List V → List G → Prop
  | nil : TgL p H [] []
  | cons {v : V} {vs : List V} {d : G} {ds : List G} (h : Tg p H v d) (t : TgL p H vs ds) : TgL p H (v :: vs) (d :: ds)
end
/-- what keeps such things -/
structure Keeps (p : Addr) (H H' : Hp) : Prop where
  ls : ∀ a vs, a ≠ p → H a = some (.lst vs) → H' a = some (.lst vs)
  tw : ∀ a vs, T2 H a vs → T2 H' a vs
  dk : ∀ a kvs, H a = some (.dK kvs) → H' a = some (.dK kvs)
theorem Keeps.of {p : Addr} {H H' : Hp} (k : Kept p H H') (hp : PoolAt H p) : Keeps p H H' := by
  refine ⟨fun a vs n z => k _ _ z n, fun a vs h => K2.of k hp _ _ h, fun a kvs z => ?_⟩
  obtain ⟨o, e, g, m, rfl, _⟩ := hp
  exact k _ _ z (ne_of z e (by intro y; cases y))
theorem Keeps.same {p : Addr} {H H' : Hp} (s : Same H H') : Keeps p H H' := ⟨fun a vs n z => s _ _ z, fun a vs h => h.same s, fun a kvs z => s _ _ z⟩
mutual
theorem Tg.keep {p : Addr} {H H' : Hp} (k : Keeps p H H') : ∀ {v : V} {g : G}, Tg p H v g → Tg p H' v g
  | _, _, .non => .non
  | _, _, .bl b => .bl b
  | _, _, .int i => .int i
  | _, _, .str s => .str s
  | _, _, .lst n e t => .lst n (k.ls _ _ n e) (TgL.keep k t)
  | _, _, .tup e t => .tup (k.tw _ _ e) (TgL.keep k t)
  | _, _, .dct e => .dct (k.dk _ _ e)
theorem TgL.keep {p : Addr} {H H' : Hp} (k : Keeps p H H') : ∀ {vs : List V} {gs : List G}, TgL p H vs gs → TgL p H' vs gs
  | _, _, .nil => .nil
  | _, _, .cons h t => .cons (Tg.keep k h) (TgL.keep k t)
end
theorem TgL.len {p : Addr} {H : Hp} : ∀ {vs : List V} {gs : List G}, TgL p H vs gs → vs.length = gs.length
  | _, _, .nil => rfl
  | _, _, .cons _ t => by
    rw [List.length_cons, List.length_cons, TgL.len t]
theorem TgL.get {p : Addr} {H : Hp} : ∀ {vs : List V} {gs : List G}, TgL p H vs gs → ∀ {i : Nat} {v : V}, vs[i]? = some v → ∃ g, gs[i]? = some g ∧ Tg p H v g
  | _, _, .nil, i, v, e => by simp at e
  | _, _, .cons h t, 0, v, e => by
    obtain rfl := (by simpa using e : _ = v)
    exact ⟨_, rfl, h⟩
  | _, _, .cons h t, i + 1, v, e => TgL.get t (i := i) (by simpa using e)
theorem TgL.ints {p : Addr} {H : Hp} : ∀ ns : List Int, TgL p H (ns.map V.int) (ns.map G.int)
  | [] => .nil
  | n :: ns => .cons (.int n) (TgL.ints ns)
theorem TgL.app {p : Addr} {H : Hp} : ∀ {vs ws : List V} {gs hs : List G}, TgL p H vs gs → TgL p H ws hs → TgL p H (vs ++ ws) (gs ++ hs)
  | _, _, _, _, .nil, h => h
  | _, _, _, _, .cons x t, h => .cons x (TgL.app t h)
/-! kinds -/
def tyG : G → String
  | .non => "NoneType"
  | .bl _ => "bool"
  | .int _ => "int"
  | .str _ => "str"
  | .lst _ => "list"
  | .tup _ => "tuple"
  | .dct => "dict"
theorem Tg.ty {K : PySem.W.Frag} {p : Addr} {H : Hp} {v : V} {g : G} (h : Tg p H v g) : TyX K H v (.type (tyG g)) := by
  cases h with
  | non => exact .base .non
  | bl b => exact .base (.bl b)
  | int i => exact .base (.int i)
  | str s => exact .base (.str s)
  | lst n e t => exact .base (.lst e)
  | tup e t => exact e.ty
  | dct e => exact .base (.dK e)
def isInt : G → Bool
  | .non => false
  | .bl _ => true
  | .int _ => true
  | .str _ => false
  | .lst _ => false
  | .tup _ => false
  | .dct => false
theorem kit_int {K : PySem.W.Frag} (g : G) : PySem.W.kitOne K (.type (tyG g)) (.type "int") = some (isInt g) := by
  refine kit_ty ?_
  cases g
  · exact (by decide +kernel : kitB "NoneType" "int" = some false)
  · exact (by decide +kernel : kitB "bool" "int" = some true)
  · exact (by decide +kernel : kitB "int" "int" = some true)
  · exact (by decide +kernel : kitB "str" "int" = some false)
  · exact (by decide +kernel : kitB "list" "int" = some false)
  · exact (by decide +kernel : kitB "tuple" "int" = some false)
  · exact (by decide +kernel : kitB "dict" "int" = some false)
def isBool : G → Bool
  | .non => false
  | .bl _ => true
  | .int _ => false
  | .str _ => false
  | .lst _ => false
  | .tup _ => false
  | .dct => false
theorem kit_bool {K : PySem.W.Frag} (g : G) : PySem.W.kitOne K (.type (tyG g)) (.type "bool") = some (isBool g) := by
  refine kit_ty ?_
  cases g
  · exact (by decide +kernel : kitB "NoneType" "bool" = some false)
  · exact (by decide +kernel : kitB "bool" "bool" = some true)
  · exact (by decide +kernel : kitB "int" "bool" = some false)
  · exact (by decide +kernel : kitB "str" "bool" = some false)
  · exact (by decide +kernel : kitB "list" "bool" = some false)
  · exact (by decide +kernel : kitB "tuple" "bool" = some false)
  · exact (by decide +kernel : kitB "dict" "bool" = some false)
def isStr : G → Bool
  | .non => false
  | .bl _ => false
  | .int _ => false
  | .str _ => true
  | .lst _ => false
  | .tup _ => false
  | .dct => false
theorem kit_str {K : PySem.W.Frag} (g : G) : PySem.W.kitOne K (.type (tyG g)) (.type "str") = some (isStr g) := by
  refine kit_ty ?_
  cases g
  · exact (by decide +kernel : kitB "NoneType" "str" = some false)
  · exact (by decide +kernel : kitB "bool" "str" = some false)
  · exact (by decide +kernel : kitB "int" "str" = some false)
  · exact (by decide +kernel : kitB "str" "str" = some true)
  · exact (by decide +kernel : kitB "list" "str" = some false)
  · exact (by decide +kernel : kitB "tuple" "str" = some false)
  · exact (by decide +kernel : kitB "dict" "str" = some false)
def isTuple : G → Bool
  | .non => false
  | .bl _ => false
  | .int _ => false
  | .str _ => false
  | .lst _ => false
  | .tup _ => true
  | .dct => false
theorem kit_tuple {K : PySem.W.Frag} (g : G) : PySem.W.kitOne K (.type (tyG g)) (.type "tuple") = some (isTuple g) := by
  refine kit_ty ?_
  cases g
  · exact (by decide +kernel : kitB "NoneType" "tuple" = some false)
  · exact (by decide +kernel : kitB "bool" "tuple" = some false)
  · exact (by decide +kernel : kitB "int" "tuple" = some false)
  · exact (by decide +kernel : kitB "str" "tuple" = some false)
  · exact (by decide +kernel : kitB "list" "tuple" = some false)
  · exact (by decide +kernel : kitB "tuple" "tuple" = some true)
  · exact (by decide +kernel : kitB "dict" "tuple" = some false)
def isList : G → Bool
  | .non => false
  | .bl _ => false
  | .int _ => false
  | .str _ => false
  | .lst _ => true
  | .tup _ => false
  | .dct => false
theorem kit_list {K : PySem.W.Frag} (g : G) : PySem.W.kitOne K (.type (tyG g)) (.type "list") = some (isList g) := by
  refine kit_ty ?_
  cases g
  · exact (by decide +kernel : kitB "NoneType" "list" = some false)
  · exact (by decide +kernel : kitB "bool" "list" = some false)
  · exact (by decide +kernel : kitB "int" "list" = some false)
  · exact (by decide +kernel : kitB "str" "list" = some false)
  · exact (by decide +kernel : kitB "list" "list" = some true)
  · exact (by decide +kernel : kitB "tuple" "list" = some false)
  · exact (by decide +kernel : kitB "dict" "list" = some false)
end Su
/-! ### GB: such things as data -/
namespace Su
open PySem PySem.Spec PyProof.Rows L2
mutual
def toD : G → PyData
  | .non => .none
  | .bl b => .bool b
  | .int i => .int i
  | .str s => .str s
  | .lst l => .list (toDs l)
  | .tup l => .tuple (toDs l)
  | .dct => .dict []
def toDs : List G → List PyData
  | [] => []
  | g :: gs => toD g :: toDs gs
end
mutual
def okD : G → Bool
  | .dct => false
  | .lst l => okDs l
  | .tup l => okDs l
  | _ => true
def okDs : List G → Bool
  | [] => true
  | g :: gs => okD g && okDs gs
end
mutual
theorem Tg.dp {K : PySem.W.Frag} {p : Addr} {H : Hp} : ∀ {v : V} {g : G}, Tg p H v g → okD g = true → Dp K H v (toD g)
  | _, _, .non, _ => .non
  | _, _, .bl b, _ => .bl b
  | _, _, .int i, _ => .int i
  | _, _, .str s, _ => .str s
  | _, _, .lst n e t, h => .lst (SqL.of e) (TgL.dp t (by simpa only [okD] using h))
  | _, _, .tup e t, h => .tup e.sq (TgL.dp t (by simpa only [okD] using h))
  | _, _, .dct _, h => by simp [okD] at h
theorem TgL.dp {K : PySem.W.Frag} {p : Addr} {H : Hp} : ∀ {vs : List V} {gs : List G}, TgL p H vs gs → okDs gs = true → DpAll K H vs (toDs gs)
  | _, _, .nil, _ => .nil
  | _, _, .cons x t, h => by
    simp only [okDs, Bool.and_eq_true] at h
    exact .cons (Tg.dp x h.1) (TgL.dp t h.2)
end
theorem toDs_map : ∀ gs : List G, toDs gs = gs.map toD
  | [] => rfl
  | g :: gs => by
    show toD g :: toDs gs = toD g :: gs.map toD
    rw [toDs_map gs]
theorem okDs_all : ∀ gs : List G, okDs gs = gs.all okD
  | [] => rfl
  | g :: gs => by
    show (okD g && okDs gs) = (okD g && gs.all okD)
    rw [okDs_all gs]
theorem eqv_nilD (ds : List PyData) : PyData.eqv (.list ds) (.list []) = ds.isEmpty := by
  cases ds with
  | nil => rfl
  | cons x l => rfl
/-- a thing that may stand in a tuple -/
structure OkE (g : G) : Prop where
  ok : okD g = true
  cl : (toD g).canLay0 = true
  dp : (toD g).depth ≤ 4
theorem lay_all : ∀ {gs : List G}, (∀ g ∈ gs, OkE g) → PyData.canLayAll0 (toDs gs) = true ∧ PyData.depthAll (toDs gs) ≤ 4
  | [], _ => ⟨by simp [toDs, PyData.canLayAll0], by simp [toDs, PyData.depthAll]⟩
  | g :: gs, h => by
    obtain ⟨a, b⟩ := lay_all fun x hx => h x (List.mem_cons_of_mem _ hx)
    have c := h g List.mem_cons_self
    refine ⟨?_, ?_⟩
    · simp only [toDs, PyData.canLayAll0, c.cl, a, Bool.and_self]
    · simp only [toDs, PyData.depthAll]
      have := c.dp
      omega
/-- a list of such things beside [] -/
theorem OkE.list {gs : List G} (h : ∀ g ∈ gs, OkE g) : okDs gs = true ∧ SeqAt.shaped (.list (toDs gs)) = true := by
  obtain ⟨a, b⟩ := lay_all h
  refine ⟨?_, ?_⟩
  · rw [okDs_all, List.all_eq_true]
    exact fun g hg => (h g hg).ok
  · unfold SeqAt.shaped
    rw [Bool.and_eq_true, decide_eq_true_eq]
    refine ⟨by simp only [PyData.canLay0, a], ?_⟩
    simp only [PyData.depth]
    omega
theorem shaped_nil : SeqAt.shaped (.list []) = true := by
  have f2 : Fine (.list []) 1 0 := Fine.list FineL.nil
  exact f2.shaped (by decide)
end Su
/-! ### GC: repr of such things -/
namespace Su
open PySem PySem.Spec PyProof.Rows L2
structure Fz (g : G) (n m : Nat) : Prop where
  sh : (toD g).showable = true
  dp : (toD g).depth ≤ n
  lv : (toD g).leavesShort 30 = true
  wt : (toD g).weight ≤ m
structure FzL (gs : List G) (n m : Nat) : Prop where
  sh : PyData.showableAll (toDs gs) = true
  dp : PyData.depthAll (toDs gs) ≤ n
  lv : PyData.leavesShortAll 30 (toDs gs) = true
  wt : PyData.weightAll (toDs gs) ≤ m
theorem Fz.up {g : G} {n m n' m' : Nat} (h : Fz g n m) (a : n ≤ n') (b : m ≤ m') : Fz g n' m' := ⟨h.sh, Nat.le_trans h.dp a, h.lv, Nat.le_trans h.wt b⟩
theorem FzL.up {g : List G} {n m n' m' : Nat} (h : FzL g n m) (a : n ≤ n') (b : m ≤ m') : FzL g n' m' := ⟨h.sh, Nat.le_trans h.dp a, h.lv, Nat.le_trans h.wt b⟩
theorem Fz.int {i : Int} (h1 : -1000000 ≤ i) (h2 : i ≤ 1000000) : Fz (.int i) 0 40 := by
  have hb : i.natAbs < 10 ^ 12 := by omega
  have hl : i.natAbs.log2 < 39 := by
    by_cases z : i.natAbs = 0
    · rw [z]
      decide
    · exact (Nat.log2_lt z).mpr (by omega)
  refine ⟨?_, by simp [toD, PyData.depth], ?_, ?_⟩
  · simp only [toD, PyData.showable, decide_eq_true_eq]
    omega
  · simp only [toD, PyData.leavesShort, decide_eq_true_eq]
    exact Nat.le_trans (PyData.shown_int_le hb) (by decide)
  · simp only [toD, PyData.weight]
    split <;> omega
theorem Fz.none : Fz .non 0 0 := ⟨by simp [toD, PyData.showable], by simp [toD, PyData.depth], by simp [toD, PyData.leavesShort], by simp [toD, PyData.weight]⟩
theorem Fz.bool (b : Bool) : Fz (.bl b) 0 0 := ⟨by simp [toD, PyData.showable], by simp [toD, PyData.depth], by simp [toD, PyData.leavesShort], by simp [toD, PyData.weight]⟩
theorem Fz.dct : Fz .dct 1 0 := ⟨by simp [toD, PyData.showable, PyData.showableKv], by simp [toD, PyData.depth, PyData.depthKv], by simp [toD, PyData.leavesShort, PyData.leavesShortKv], by simp [toD, PyData.weight, PyData.weightKv]⟩
theorem FzL.nil {n : Nat} : FzL [] n 0 := ⟨by simp [toDs, PyData.showableAll], by simp [toDs, PyData.depthAll], by simp [toDs, PyData.leavesShortAll], by simp [toDs, PyData.weightAll]⟩
theorem FzL.cons {g : G} {gs : List G} {n m k : Nat} (h : Fz g n m) (t : FzL gs n k) : FzL (g :: gs) n (m + 1 + k) := by
  refine ⟨?_, ?_, ?_, ?_⟩
  · simp only [toDs, PyData.showableAll, h.sh, t.sh, Bool.and_self]
  · simp only [toDs, PyData.depthAll]
    have := h.dp
    have := t.dp
    omega
  · simp only [toDs, PyData.leavesShortAll, h.lv, t.lv, Bool.and_self]
  · simp only [toDs, PyData.weightAll]
    have := h.wt
    have := t.wt
    omega
theorem Fz.tup {gs : List G} {n m : Nat} (t : FzL gs n m) : Fz (.tup gs) (n + 1) m :=
  ⟨by simpa only [toD, PyData.showable] using t.sh, by simp only [toD, PyData.depth]; have := t.dp; omega, by simpa only [toD, PyData.leavesShort] using t.lv, by simpa only [toD, PyData.weight] using t.wt⟩
theorem Fz.lst {gs : List G} {n m : Nat} (t : FzL gs n m) : Fz (.lst gs) (n + 1) m :=
  ⟨by simpa only [toD, PyData.showable] using t.sh, by simp only [toD, PyData.depth]; have := t.dp; omega, by simpa only [toD, PyData.leavesShort] using t.lv, by simpa only [toD, PyData.weight] using t.wt⟩
theorem FzL.all {n m : Nat} : ∀ {gs : List G}, (∀ g ∈ gs, Fz g n m) → FzL gs n ((m + 1) * gs.length)
  | [], _ => FzL.nil
  | g :: gs, h => by
    have a := FzL.cons (h g List.mem_cons_self) (FzL.all fun y hy => h y (List.mem_cons_of_mem _ hy))
    have e : m + 1 + (m + 1) * gs.length = (m + 1) * (g :: gs).length := by
      rw [List.length_cons, Nat.mul_add, Nat.mul_one, Nat.add_comm]
    rw [e] at a
    exact a
theorem Fz.len {g : G} {n m : Nat} (h : Fz g n m) (hm : m ≤ 500000) : (toD g).shown.length ≤ sizeLine := by
  have a := PyData.shown_le 30 (by decide) (toD g) h.lv
  have b := h.wt
  rw [sizeLine_eq]
  omega
mutual
theorem okD_nd : ∀ g : G, okD g = true → (toD g).hasDict = false
  | .non, _ => by simp [toD, PyData.hasDict]
  | .bl _, _ => by simp [toD, PyData.hasDict]
  | .int _, _ => by simp [toD, PyData.hasDict]
  | .str _, _ => by simp [toD, PyData.hasDict]
  | .lst l, h => by
    simp only [toD, PyData.hasDict]
    exact okDs_nd l (by simpa only [okD] using h)
  | .tup l, h => by
    simp only [toD, PyData.hasDict]
    exact okDs_nd l (by simpa only [okD] using h)
  | .dct, h => by simp [okD] at h
theorem okDs_nd : ∀ gs : List G, okDs gs = true → PyData.hasDictAll (toDs gs) = false
  | [], _ => by simp [toDs, PyData.hasDictAll]
  | g :: gs, h => by
    simp only [okDs, Bool.and_eq_true] at h
    simp only [toDs, PyData.hasDictAll, okD_nd g h.1, okDs_nd gs h.2, Bool.or_self]
end
/-- a thing without a dict, or an empty dict -/
def Flat (g : G) : Prop := okD g = true ∨ g = .dct
section
variable {X : Cx} {pins : List (Addr × Obj)} {σ : L2.St} {H : Hp} {s : Shared} {p : Addr}
theorem flat_reads (I : Inv X pins σ H s) {v : V} {g : G} {u : Value} (h : Tg p H v g) (r : RelV v u) (fl : Flat g) : ∃ as, Reads s.heap u (toD g) as ∧ ((toD g).hasDict = true → sysModules ∉ as) := by
  rcases fl with ok | rfl
  · obtain ⟨as, rd⟩ := Dp.reads I (toD g) v u (h.dp ok) r
    exact ⟨as, rd, PyData.noDict_hsm (okD_nd g ok)⟩
  · cases h with
    | @dct a e =>
      cases r
      obtain ⟨_, lo, vs, kv, o, es, ep, ho, hx, hd, _, pr, _⟩ := dk_of I.hok e
      cases kv
      have ee : es.toList = [] := by
        cases hz : es.toList with
        | nil => rfl
        | cons x l =>
          rw [hz] at pr
          cases pr
      refine ⟨_, Reads.dict (kvs := []) ho hx.1 hd (by rw [ee]; exact .nil) (by rw [ee]; exact .nil), fun _ hm => ?_⟩
      rcases List.mem_append.mp hm with z | z
      · rcases List.mem_cons.mp z with y | y
        · rw [← y] at lo
          simp at lo
        · cases y
      · cases z
theorem rows_reads (I : Inv X pins σ H s) : ∀ {vs : List V} {gs : List G} {us : List Value}, TgL p H vs gs → Vals vs us → (∀ g ∈ gs, Flat g) → PyData.showableAll (toDs gs) = true → (∀ t ∈ PyData.shownAll (toDs gs), t.length ≤ sizeLine) →
    (∃ as, ReadsAll s.heap us (toDs gs) as) ∧ ∃ bs, ReadAtMost s.heap (PyData.depthAll (toDs gs)) bs ∧ ReprAllK X.prog X.w bs s.heap (PyData.depthAll (toDs gs)) us (PyData.shownAll (toDs gs))
  | _, _, _, .nil, r, _, _, _ => by
    cases r
    exact ⟨⟨_, .nil⟩, [], (fun _ h => nomatch h), by simp only [toDs, PyData.shownAll]; exact .nil⟩
  | _, _, _, .cons (d := d) (ds := ds) h t, r, fl, sh, hz => by
    cases r with
    | cons r1 r2 =>
      have sh' : (toD d).showable = true ∧ PyData.showableAll (toDs ds) = true := by simpa [toDs, PyData.showableAll] using sh
      obtain ⟨as, rd, hsm⟩ := flat_reads I h r1 (fl d List.mem_cons_self)
      obtain ⟨b1, hb1, k1⟩ := ReprK.of_reads (prog := X.prog) (w := X.w) rd sh'.1 hsm (hz _ (by simp only [toDs, PyData.shownAll]; exact List.mem_cons_self ..))
      obtain ⟨⟨as2, rd2⟩, b2, hb2, k2⟩ := rows_reads I t r2 (fun g hg => fl g (List.mem_cons_of_mem _ hg)) sh'.2 (fun t ht => hz t (by simp only [toDs, PyData.shownAll]; exact List.mem_cons_of_mem _ ht))
      refine ⟨⟨_, .cons rd rd2⟩, b1 ++ b2, ?_, ?_⟩
      · intro b hm
        simp only [toDs, PyData.depthAll]
        rcases List.mem_append.mp hm with hm | hm
        · obtain ⟨d', as', r', hd'⟩ := hb1 b hm
          exact ⟨d', as', r', Nat.le_trans hd' (Nat.le_max_left _ _)⟩
        · obtain ⟨d', as', r', hd'⟩ := hb2 b hm
          exact ⟨d', as', r', Nat.le_trans hd' (Nat.le_max_right _ _)⟩
      · simp only [toDs, PyData.depthAll, PyData.shownAll]
        exact .cons ((k1.more fun b hb => List.mem_append_left _ hb).level_le (Nat.le_max_left _ _)) (k2.more_le (fun b hb => List.mem_append_right _ hb) (Nat.le_max_right _ _))
end
/-- what may be shown: flat, or a list of flat things -/
structure Shw (g : G) : Prop where
  fz : Fz g 40 500000
  fl : Flat g ∨ ∃ gs, g = .lst gs ∧ ∀ x ∈ gs, Flat x
section
variable {X : Cx}
def rReprG : List V → Hp → VK → Prop := fun xs H Q => ∃ (p : Addr) (v : V) (g : G), xs = [v] ∧ Tg p H v g ∧ Shw g ∧ Q (.str (toD g).shown) H
theorem call_reprG (hg : X.A.guards = some []) (hu : X.A.units + 64 < cLine) : CallR X (.builtin "repr") rReprG := by
  intro pins s σ H xs us Q I r h
  obtain ⟨p, v, g, rfl, ht, sw, q⟩ := h
  obtain ⟨u, rfl, ru⟩ := vals1 r
  have hz := sw.fz.len (Nat.le_refl _)
  have hdp := sw.fz.dp
  have ht0 := ht
  rcases sw.fl with fl | ⟨gs, rfl, fl⟩
  · cases ht with
    | non =>
      cases ru
      simp only [toD, PyData.shown] at q
      exact PySem.P.repr_of_none ⟨.str _, H, I.tok _, ⟨_, rfl⟩, q⟩
    | bl b =>
      cases ru
      simp only [toD, PyData.shown] at q
      exact PySem.P.repr_of_bool ⟨.str _, H, I.tok _, ⟨_, rfl⟩, q⟩
    | int i =>
      obtain ⟨t, rfl⟩ := ru
      simp only [toD, PyData.shown] at q
      have z := sw.fz.sh
      simp only [toD, PyData.showable, decide_eq_true_eq] at z
      exact PySem.P.repr_of_int z ⟨.str _, H, I.tok _, ⟨_, rfl⟩, q⟩
    | str x =>
      obtain ⟨t, rfl⟩ := ru
      simp only [toD, PyData.shown] at q hz
      exact PySem.P.repr_of_str ⟨.str _, H, I.tok _, ⟨_, rfl⟩, q⟩ hz
    | @lst a vs ds n e t =>
      cases ru
      obtain ⟨as, rd, hsm⟩ := flat_reads I ht0 rfl fl
      exact repr_of_reads' rd sw.fz.sh hsm hg (by omega) (fun _ _ z => z) (fun h' u tk hk => ⟨.str _, H, I.kept hk, ⟨u, rfl⟩, q⟩) hz
    | @tup a vs ds e t =>
      cases ru
      obtain ⟨as, rd, hsm⟩ := flat_reads I ht0 rfl fl
      exact repr_of_reads' rd sw.fz.sh hsm hg (by omega) (fun _ _ z => z) (fun h' u tk hk => ⟨.str _, H, I.kept hk, ⟨u, rfl⟩, q⟩) hz
    | @dct a e =>
      cases ru
      obtain ⟨as, rd, hsm⟩ := flat_reads I ht0 rfl fl
      exact repr_of_reads' rd sw.fz.sh hsm hg (by omega) (fun _ _ z => z) (fun h' u tk hk => ⟨.str _, H, I.kept hk, ⟨u, rfl⟩, q⟩) hz
  · cases ht with
    | @lst a vs _ n e t =>
      cases ru
      obtain ⟨its, rv, ⟨o, na, ho, hc, _, hd⟩, _⟩ := I.list (SqL.of e)
      have hz' : (listText (PyData.shownAll (toDs gs))).length ≤ sizeLine := by simpa only [toD, PyData.shown] using hz
      have sh' : PyData.showableAll (toDs gs) = true := by simpa only [toD, PyData.showable] using sw.fz.sh
      obtain ⟨⟨as, rda⟩, bs, hb, hk⟩ := rows_reads I t rv fl sh' (fun t ht => Nat.le_trans (listText_mem_le ht) hz')
      have rd : Reads s.heap (.ref a) (.list (toDs gs)) (a :: as) := Reads.list ho hc hd (by simpa using rda)
      have hna : a ∉ bs := not_mem_of_deeper rd (by simp only [PyData.depth]; omega) hb
      have q2 : Q (.str (listText (PyData.shownAll (toDs gs)))) H := by simpa only [toD, PyData.shown] using q
      simp only [toD, PyData.depth] at hdp
      refine call_repr_slot (by omega) ⟨o, ho, hc⟩ F.slot_list_repr.toG ?_
      cases its with
      | nil =>
        have e0 : toDs gs = [] := by
          clear q q2 hz hz' hdp sw sh' hk hb hna rd ht0 fl
          generalize toDs gs = ds at rda ⊢
          cases rda
          rfl
        rw [e0] at q2
        simp only [PyData.shownAll, listText_nil] at q2
        exact call_list_repr_empty ⟨o, ho, hc⟩ ho hd ⟨_, _, rfl, .str _, H, I.kept fun _ _ e => e, ⟨_, rfl⟩, q2⟩
      | cons x l =>
        exact call_list_reprK ho hc hd hna (by simpa using hk.length_eq) (fun i y e => hk.item i y (by simpa using e)) hg (fun b _ => Clear.nil b) (by show X.A.units + 1 + (_ + 1) < cLine; omega) (fun _ _ z => z) (fun h' u tk hk => ⟨_, _, rfl, .str _, H, I.kept hk, ⟨u, rfl⟩, q2⟩) hz'
end
end Su
/-! ### SH: set(t), t a tuple of ints -/
namespace Su
open PySem PySem.Spec PyProof.Rows L2
section
variable {P : Program} {w : World} {A : Around} {E : Value → Shared → Prop} {s : Shared}
theorem set_of_tup {l : Addr} {its : Array Value} (ns : List Int) {Q : Value → Shared → Prop} (hh : A.handled = none) (hl : s.heap.IsTuple l its) (ia : IntsAre its.toList ns) (few : ns.length + 1 < scanBound)
    (q : ∀ (h' : Heap) (tk c : Nat), SetR w h' s.heap.objs.size (fun j => decide (j ∈ ns)) c → c ≤ ns.length → (∀ b o, s.heap.get? b = some o → h'.get? b = some o) → Q (.ref s.heap.objs.size) { s with heap := h', toks := tk }) :
    wpAny (model P w) A (call (.type "set") [.ref l]) Q E s := by
  have sz : its.size = ns.length := by
    have z := IntsAre.length ia
    rwa [Array.length_toList] at z
  obtain ⟨c0, tl0, m0⟩ := F.called_set.mro
  have m1 := F.called_set.made
  have m2 := F.called_set.sub
  have m3 := F.called_set.notType
  have m4 := F.called_set.canCreate
  have m5 := F.typeCall_set_1 (.ref l)
  refine wpAny_call (codeAny_of_tree ?_)
  show wpAny _ _ (callAny (.type "set") _) _ _ _
  refine wpAny_pure ⟨Code.quiet_builtin _ (by decide +kernel), codeAny_builtin F.entry_type_call ?_⟩
  rw [Around.under_plain (weight_type_call_type "set" [.ref l] []) rfl]
  repeat (any_goals (first | assumption | wp_step))
  refine codeAny_mono (code_set_led1 (.ref l) (E := E) (Q₁ := fun x t => x = .ref s.heap.objs.size ∧ t = { s with heap := s.heap.push (set0 w) }) ⟨rfl, rfl⟩) fun r t hr => ?_
  match r, hr with
  | .error e, hr => exact hr
  | .ok .next, hr => exact hr.elim
  | .ok .brk, hr => exact hr.elim
  | .ok .cont, hr => exact hr.elim
  | .ok (.ret x), hr =>
    obtain ⟨rfl, rfl⟩ := hr
    have at0 : (s.heap.push (set0 w)).get? s.heap.objs.size = some (set0 w) := Heap.get?_push_size _ rfl
    have ty0 : Shared.TypeIs { s with heap := s.heap.push (set0 w) } (.ref s.heap.objs.size) "set" := ⟨_, at0, rfl⟩
    have n1 := F.called_set.init.lookup
    have n2 := F.called_set.init.bind (.ref s.heap.objs.size)
    repeat (any_goals (first | assumption | wp_step))
    refine codeAny_mono (codeAny_call_builtin (R := wants (fun r t => r = .none ∧ ∃ h' tk c, t = { s with heap := h', toks := tk } ∧ SetR w h' s.heap.objs.size (fun j => decide (j ∈ ns)) c ∧ c ≤ ns.length ∧ ∀ b o, s.heap.get? b = some o → h'.get? b = some o) E)
      F.called_set.init.plain F.entry_set_init (check_set_init_1 ty0 ?_)) fun r2 t2 hr2 => ?_
    · obtain ⟨⟨oc, od, odt, os⟩, ho, hc, nl, hd⟩ := hl
      simp only at hc hd
      subst hc hd
      have lt : l < s.heap.objs.size := Heap.lt_size ho
      have ho1 : (s.heap.push (set0 w)).get? l = some { cls := .type "tuple", dict := od, data := .seq its nl, slots := os } := Heap.get?_push_of_some _ ho
      have isl : (s.heap.push (set0 w)).IsTuple l its := ⟨_, ho1, rfl, nl, rfl⟩
      have p1 := F.sub_tuple_set
      have p2 := F.sub_tuple_frozenset
      have p3 : (Value.type "tuple" == Value.type "dict") = false := by decide
      unfold Builtin.«set.__init__» noKeywords Builtin.Frozenset.updateFrom
      generalize hPI : pyIter = PI
      wp_walk
      subst hPI
      refine wpAny_pyIter_tuple isl (wpAny_bind (wpAny_runValue ?_))
      have size1 : (s.heap.push (set0 w)).objs.size = s.heap.objs.size + 1 := Heap.size_push ..
      have ap : l ≠ (s.heap.push (set0 w)).objs.size := by
        rw [size1]
        exact Nat.ne_of_lt (Nat.lt_succ_of_lt lt)
      have ap2 : s.heap.objs.size ∉ [(s.heap.push (set0 w)).objs.size, l] := by
        rw [size1]
        simp only [List.mem_cons, List.not_mem_nil, or_false, not_or]
        exact ⟨Nat.ne_of_lt (Nat.lt_succ_self _), Nat.ne_of_gt lt⟩
      refine set_update_ints ((Walks.tuple (by simp [hh]) _ l ap its).toS) s.heap.objs.size ap2 ns sz few (fun i v hv => ?_) (its.size - 0) 0 _ (by omega) (Nat.zero_le _) ⟨⟨_, Heap.get?_push_size _ rfl, rfl, rfl⟩, (isl.extBut (b := (s.heap.push (set0 w)).objs.size) (fun b o hb e => Heap.get?_push_of_some _ e) ap)⟩ ⟨0, Nat.le_refl 0, setR_new_at (Heap.get?_push_of_some _ at0)⟩ fun t3 c3 mv hc3 hS3 => ?_
      · have hi : i < ns.length := by
          rw [← sz]
          exact (Array.getElem?_eq_some_iff.mp hv).1
        obtain ⟨tk, e⟩ := PyProof.Rows.IntsAre.int_at ia i v (by rw [Array.getElem?_toList]; exact hv)
        refine ⟨ns[i], tk, List.getElem?_eq_getElem hi, ?_⟩
        rw [e, List.getD_eq_getElem?_getD, List.getElem?_eq_getElem hi] <;> rfl
      · obtain ⟨h3, g3, d3, tk3, os3⟩ := t3
        obtain rfl : g3 = s.gens := mv.gens
        obtain rfl : d3 = s.drawn := mv.drawn
        obtain rfl : os3 = s.os := mv.os
        show wpAny _ _ _ _ _ _
        refine wpAny_pure ?_
        show wpAny _ _ (ret Value.none) _ _ _
        refine wpAny_pure ⟨rfl, h3, tk3, c3, rfl, hS3, by omega, fun b o e => ?_⟩
        have bl : b < s.heap.objs.size := Heap.lt_size e
        refine mv.heap b o ?_ (Heap.get?_push_of_some _ (Heap.get?_push_of_some _ e))
        rw [size1]
        simp only [List.mem_cons, List.not_mem_nil, or_false, not_or]
        exact ⟨Nat.ne_of_lt bl, Nat.ne_of_lt (Nat.lt_succ_of_lt bl)⟩
    · match r2, hr2 with
      | .error e, hr2 => exact hr2
      | .ok .next, hr2 => exact hr2.elim
      | .ok .brk, hr2 => exact hr2.elim
      | .ok .cont, hr2 => exact hr2.elim
      | .ok (.ret y), hr2 =>
        obtain ⟨rfl, h', tk, c, rfl, hS, hc, hk⟩ := hr2
        repeat (any_goals (first | assumption | wp_step))
        exact q _ _ _ hS hc hk
end
section
variable {X : Cx}
def rSetT (w : World) (K : PySem.W.Frag) : List V → Hp → VK → Prop := fun xs H Q => ∃ (l : Addr) (ns : List Int), xs = [.ref l] ∧ SqT K H l (ns.map V.int) ∧ ns.length ≤ 4000 ∧ ∀ (p : Addr) (H' : Hp), Same H H' → H p = none → SetIs w H' p ns → Q (.ref p) H'
theorem cr_setT (hc : X.calm = true) : CallR X (.type "set") (rSetT X.w X.K) := by
  intro pins s σ H xs us Q I r h
  obtain ⟨l, ns, rfl, hq, hl, q⟩ := h
  rw [Vals.ref1 r]
  obtain ⟨its, rv, pl, hz⟩ := I.tuple hq
  refine set_of_tup ns (I.ok.hd hc) pl (by simpa using ints_of rv) (by unfold scanBound; omega) fun h' tk c hR hc' hk => ?_
  have new : H s.heap.objs.size = none := I.hok.fresh (Nat.le_refl _)
  exact ⟨.ref s.heap.objs.size, _, I.laid (t' := tk) hk (Nat.le_refl _) (setO_new hR), rfl, q _ _ (same_upd new) new (SetIs.of hR upd_same fun k => decide_eq_true_iff)⟩
end
end Su
/-! ### SJ: tuples, however made, behind one another -/
namespace Su
open PySem PySem.Spec PyProof.Rows L2
section
variable {X : Cx}
def rCat2 : R2 := fun x y H Q => ∃ a b xs ys, x = .ref a ∧ y = .ref b ∧ T2 H a xs ∧ T2 H b ys ∧ xs.length + ys.length ≤ sizeLine ∧ ∀ v H', Same H H' → T2 H' v (xs ++ ys) → Q (.ref v) H'
theorem op_cat2 : OpR X (binaryOp .Add) rCat2 := by
  intro pins s σ H x y v u Q I rx ry h
  obtain ⟨a, b, xs, ys, rfl, rfl, ha, hb, hz, q⟩ := h
  cases rx
  cases ry
  obtain ⟨its, r1, p1, _⟩ := I.tuple (ha.sq (K := X.K))
  obtain ⟨its2, r2, p2, _⟩ := I.tuple (hb.sq (K := X.K))
  by_cases hx : xs = []
  · subst hx
    cases r1
    exact cat_tup0 p1 p2 ⟨.ref b, H, I, rfl, q b H (Same.refl H) hb⟩
  · refine HT.cat_tup p1 p2 (fun z => hx (r1.nil_iff.mp z)) (fun z => ⟨.ref a, H, I, rfl, q a H (Same.refl H) ?_⟩) (fun z => ?_) (by rw [← r1.length, ← r2.length]; exact hz)
    · rw [r2.nil_iff.mp z, List.append_nil]
      exact ha
    · exact newF I (r1.append r2) (by rw [List.length_append]; exact hz) (fun v H' s' _ h => q v H' s' (.inl h)) s.toks
end
end Su
/-! ### PM: terms of programs -/
namespace Su
open PySem PySem.Spec PyProof.Rows L2
inductive Tm where
  | ask (rs : List Int)
  | rest
  | thn (ts : List Tm)
  | frk (ts : List Tm)
  | rnd (least : Int) (most : Option Int) (t : Tm)
  | call (nm : Str)
def mostV : Option Int → V
  | none => .non
  | some k => .int k
mutual
inductive TmAt (H : Hp) : V → Tm → Prop
  | ask {a b : Addr} {rs : List Int} (e : PTup H a [.str "ask", .ref b]) (r : PTup H b (rs.map V.int)) : TmAt H (.ref a) (.ask rs)
  | rest {a : Addr} (e : PTup H a [.str "rest"]) : TmAt H (.ref a) .rest
  | thn {a b : Addr} {vs : List V} {ts : List Tm} (e : PTup H a [.str "then", .ref b]) (r : PTup H b vs) (t : TmL H vs ts) : TmAt H (.ref a) (.thn ts)
  | frk {a b : Addr} {vs : List V} {ts : List Tm} (e : PTup H a [.str "fork", .ref b]) (r : PTup H b vs) (t : TmL H vs ts) : TmAt H (.ref a) (.frk ts)
  | rnd {a : Addr} {v : V} {l : Int} {m : Option Int} {t : Tm} (e : PTup H a [.str "round", .int l, mostV m, v]) (r : TmAt H v t) : TmAt H (.ref a) (.rnd l m t)
  | call {a : Addr} {nm : Str} (e : PTup H a [.str "call", .str nm]) : TmAt H (.ref a) (.call nm)
inductive TmL (H : Hp) : List V → List Tm → Prop
  | nil : TmL H [] []
  | cons {v : V} {vs : List V} {t : Tm} {ts : List Tm} (h : TmAt H v t) (r : TmL H vs ts) : TmL H (v :: vs) (t :: ts)
end
/-- tuples are kept -/
def KT (H H' : Hp) : Prop := ∀ a vs, PTup H a vs → PTup H' a vs
theorem KT.same {H H' : Hp} (s : Same H H') : KT H H' := fun _ _ h => h.same s
theorem KT.of {p : Addr} {H H' : Hp} (k : Kept p H H') (hp : PoolAt H p) : KT H H' := fun _ _ h => h.kept k hp
theorem KT.trans {H H1 H2 : Hp} (a : KT H H1) (b : KT H1 H2) : KT H H2 := fun x vs h => b x vs (a x vs h)
mutual
theorem TmAt.keep {H H' : Hp} (k : KT H H') : ∀ {v : V} {t : Tm}, TmAt H v t → TmAt H' v t
  | _, _, .ask e r => .ask (k _ _ e) (k _ _ r)
  | _, _, .rest e => .rest (k _ _ e)
  | _, _, .thn e r t => .thn (k _ _ e) (k _ _ r) (TmL.keep k t)
  | _, _, .frk e r t => .frk (k _ _ e) (k _ _ r) (TmL.keep k t)
  | _, _, .rnd e r => .rnd (k _ _ e) (TmAt.keep k r)
  | _, _, .call e => .call (k _ _ e)
theorem TmL.keep {H H' : Hp} (k : KT H H') : ∀ {vs : List V} {ts : List Tm}, TmL H vs ts → TmL H' vs ts
  | _, _, .nil => .nil
  | _, _, .cons h t => .cons (TmAt.keep k h) (TmL.keep k t)
end
theorem TmL.len {H : Hp} : ∀ {vs : List V} {ts : List Tm}, TmL H vs ts → vs.length = ts.length
  | _, _, .nil => rfl
  | _, _, .cons _ t => by
    rw [List.length_cons, List.length_cons, TmL.len t]
theorem TmL.get {H : Hp} : ∀ {vs : List V} {ts : List Tm}, TmL H vs ts → ∀ {i : Nat} {v : V}, vs[i]? = some v → ∃ t, ts[i]? = some t ∧ TmAt H v t
  | _, _, .nil, i, v, e => by simp at e
  | _, _, .cons h t, 0, v, e => by
    obtain rfl := (by simpa using e : _ = v)
    exact ⟨_, rfl, h⟩
  | _, _, .cons h t, i + 1, v, e => TmL.get t (i := i) (by simpa using e)
theorem TmL.app {H : Hp} : ∀ {vs ws : List V} {ts us : List Tm}, TmL H vs ts → TmL H ws us → TmL H (vs ++ ws) (ts ++ us)
  | _, _, _, _, .nil, h => h
  | _, _, _, _, .cons x t, h => .cons x (TmL.app t h)
/-- at most so deep; what holds of every call, of every ask -/
def Lv (C : Str → Prop) (R : List Int → Prop) : Nat → Tm → Prop
  | 0, _ => False
  | _ + 1, .ask rs => R rs
  | _ + 1, .rest => True
  | d + 1, .thn ts => ts.length ≤ 3 ∧ ∀ t ∈ ts, Lv C R d t
  | d + 1, .frk ts => ts.length ≤ 3 ∧ ∀ t ∈ ts, Lv C R d t
  | d + 1, .rnd l m t => (0 ≤ l ∧ l ≤ 100 ∧ ∀ k, m = some k → 0 ≤ k ∧ k ≤ 100) ∧ Lv C R d t
  | _ + 1, .call nm => C nm
theorem Lv.imp {C C' : Str → Prop} {R R' : List Int → Prop} (hc : ∀ n, C n → C' n) (hR : ∀ r, R r → R' r) : ∀ {d : Nat} {t : Tm}, Lv C R d t → Lv C' R' d t
  | 0, _, h => h.elim
  | d + 1, .ask rs, h => hR rs h
  | d + 1, .rest, _ => trivial
  | d + 1, .thn ts, h => ⟨h.1, fun t ht => Lv.imp hc hR (h.2 t ht)⟩
  | d + 1, .frk ts, h => ⟨h.1, fun t ht => Lv.imp hc hR (h.2 t ht)⟩
  | d + 1, .rnd l m t, h => ⟨h.1, Lv.imp hc hR h.2⟩
  | d + 1, .call nm, h => hc nm h
theorem Lv.up {C : Str → Prop} {R : List Int → Prop} : ∀ {d : Nat} {t : Tm}, Lv C R d t → Lv C R (d + 1) t
  | 0, _, h => h.elim
  | d + 1, .ask rs, h => h
  | d + 1, .rest, _ => trivial
  | d + 1, .thn ts, h => ⟨h.1, fun t ht => Lv.up (h.2 t ht)⟩
  | d + 1, .frk ts, h => ⟨h.1, fun t ht => Lv.up (h.2 t ht)⟩
  | d + 1, .rnd l m t, h => ⟨h.1, Lv.up h.2⟩
  | d + 1, .call nm, h => h
/-! the reach and the rooms, in numbers -/
def reachF (env : Str → Int) : Nat → Tm → Int
  | 0, _ => 0
  | _ + 1, .ask _ => 1
  | _ + 1, .rest => 1
  | d + 1, .thn ts => (ts.map (reachF env d)).sum
  | d + 1, .frk ts => (ts.map (reachF env d)).sum + 1
  | d + 1, .rnd l none t => reachF env d t * (l + 1) + 1
  | d + 1, .rnd l (some k) t => reachF env d t * k + k - l
  | _ + 1, .call nm => env nm
def roomsF : Nat → Tm → List Int
  | 0, _ => []
  | _ + 1, .ask rs => rs
  | _ + 1, .rest => []
  | d + 1, .thn ts => (ts.map (roomsF d)).flatten
  | d + 1, .frk ts => (ts.map (roomsF d)).flatten
  | d + 1, .rnd _ _ t => roomsF d t
  | _ + 1, .call _ => []
end Su
/-! ### PS: a list comprehension over a text; one sign in a text; a text times a number -/
namespace Su
open PySem PySem.Spec PyProof.Rows L2
abbrev lett : Str := "abcdefghijklmnopqrstuvwxyz"
def rSign : R2 := fun x y H Q => ∃ (c : Nat) (z : Str), x = .str ⟨#[c]⟩ ∧ y = .str z ∧ Q (.bl (decide (c ∈ z.cps.toList))) H
theorem op_sign {X : Cx} : OpR X (compareOp .In) rSign := op_in_sign
theorem lc_str {x : Str} {g : TG} {tt : TT} {te : TE} {vs : List Nat} {σ : L2.St} {H1 : Hp} {D : Addr} {Qd : Hp → Prop} (Pv : Nat → Hp → Prop) (h0 : Pv 0 (upd H1 D (.lst [])))
    (hs : ∀ i c H, x.cps[i]? = some c → Pv i H → g (.str ⟨#[c]⟩) (wipe σ vs) H fun σ2 H2 => wipe σ2 vs = wipe σ vs ∧ tt σ2 H2 fun b H3 =>
      if b = true then te σ2 H3 fun y H4 => ∃ acc, H4 D = some (.lst acc) ∧ acc.length < sizeLine ∧ Pv (i + 1) (upd H4 D (.lst (acc ++ [y]))) else Pv (i + 1) H3) (hd : ∀ H, Pv x.cps.size H → Qd H) :
    ∃ W : Nat → Nat → Hp → Prop, (∃ m, W 0 m (upd H1 D (.lst []))) ∧ ∀ i m H, W i m H →
      ((Its x).stop i H ∧ Qd H) ∨ ((Its x).go i H ∧ ∃ Nx : Hp → Prop, (∀ H', Nx H' → ∃ m', m' < m ∧ W (i + 1) m' H') ∧ ∀ y H', (Its x).yld i H y H' → g y (wipe σ vs) H' fun σ2 H2 => wipe σ2 vs = wipe σ vs ∧ tt σ2 H2 fun b H3 =>
        if b = true then te σ2 H3 fun y H4 => ∃ acc, H4 D = some (.lst acc) ∧ acc.length < sizeLine ∧ Nx (upd H4 D (.lst (acc ++ [y]))) else Nx H3) := by
  refine ⟨fun i m H => m = x.cps.size - i ∧ i ≤ x.cps.size ∧ Pv i H, ⟨x.cps.size, by simp, Nat.zero_le _, h0⟩, ?_⟩
  rintro i m H ⟨rfl, hi, p⟩
  by_cases hlt : i < x.cps.size
  · refine .inr ⟨hlt, Pv (i + 1), fun H' p' => ⟨x.cps.size - (i + 1), by omega, rfl, hlt, p'⟩, fun y H' yy => ?_⟩
    obtain ⟨e, c, ec, rfl⟩ := yy
    subst e
    exact hs i c _ ec p
  · have e : i = x.cps.size := by omega
    subst e
    exact .inl ⟨Nat.le_refl _, hd H p⟩
theorem fold_size (xs : Array Nat) : ∀ (n : Nat) (acc : Array Nat), ((List.replicate n xs).foldl (· ++ ·) acc).size = acc.size + n * xs.size
  | 0, acc => by simp
  | n + 1, acc => by
    rw [List.replicate_succ, List.foldl_cons, fold_size xs n, Array.size_append, Nat.succ_mul]
    omega
/-- a short text some times -/
def rMulS : R2 := fun x y H Q => ∃ (a : Str) (n : Nat), x = .str a ∧ y = .int (n : Int) ∧ 1 ≤ n ∧ n ≤ 1000 ∧ 1 ≤ a.length ∧ a.length ≤ 1000 ∧ Q (.str ⟨(List.replicate n a.cps).foldl (· ++ ·) #[]⟩) H
theorem op_mulS {X : Cx} : OpR X (binaryOp .Mult) rMulS := by
  intro pins s σ H x y v u Q I rx ry h
  obtain ⟨a, n, rfl, rfl, h1, h2, h3, h4, q⟩ := h
  obtain ⟨t, rfl⟩ := rx
  obtain ⟨t', rfl⟩ := ry
  refine PySem.P.mul_str ?_ ?_ ?_ ?_
  · rw [decide_eq_false (by omega), decide_eq_false (by omega)]
    rfl
  · intro _ _ z
    have z2 : (a.length : Int) * n ≤ 1000 * 1000 := by
      have : a.length * n ≤ 1000 * 1000 := Nat.mul_le_mul h4 h2
      omega
    have z3 : (1000 * 1000 : Int) ≤ 2 ^ 63 - 1 := by decide
    have z4 : (a.length : Int) ≤ (2 ^ 63 - 1) / (n : Int) := Int.le_ediv_of_mul_le (by omega) (Int.le_trans z2 z3)
    omega
  · intro _ _
    have z2 : a.length * n ≤ 1000 * 1000 := Nat.mul_le_mul h4 h2
    unfold Builtin.Str.tooLong
    rw [Int.toNat_natCast]
    have hb : sizeLine = 16777216 := rfl
    exact decide_eq_false (by omega)
  · rw [if_neg (by omega)]
    by_cases e : n = 1
    · subst e
      rw [if_pos (by simp)]
      have e2 : (⟨(List.replicate 1 a.cps).foldl (· ++ ·) #[]⟩ : Str) = a := by
        show (⟨#[] ++ a.cps⟩ : Str) = a
        rw [Array.empty_append]
      rw [e2] at q
      exact ⟨.str a, _, I, ⟨t, rfl⟩, q⟩
    · rw [if_neg (by simp; omega)]
      rw [Int.toNat_natCast]
      refine ⟨?_, .str _, _, I.tok _, ⟨_, rfl⟩, q⟩
      have z2 : n * a.length ≤ 1000 * 1000 := Nat.mul_le_mul h2 h4
      have hb : sizeLine = 16777216 := rfl
      show ((List.replicate n a.cps).foldl (· ++ ·) #[]).size ≤ sizeLine
      rw [fold_size]
      have z3 : a.length = a.cps.size := rfl
      rw [← z3, Array.size_empty]
      omega
end Su
/-! ### TX: what is shown of data is a text of code points -/
namespace Su
open PySem PySem.Spec PyProof.Rows L2
theorem sok_app {a b : Str} (h1 : PyData.strOk a = true) (h2 : PyData.strOk b = true) : PyData.strOk (a ++ b) = true := by
  show (a.cps ++ b.cps).all _ = true
  rw [Array.all_append, Bool.and_eq_true]
  exact ⟨h1, h2⟩
theorem sok_of (s : String) : PyData.strOk (Str.ofString s) = true := by
  unfold PyData.strOk
  rw [Str.ofString_eq_toList, List.all_toArray, List.all_eq_true]
  intro c hc
  obtain ⟨d, _, rfl⟩ := List.mem_map.mp hc
  rw [decide_eq_true_eq]
  have := d.valid
  unfold UInt32.isValidChar Nat.isValidChar at this
  show d.val.toNat < _
  omega
theorem sok_from : ∀ (ts : List Str) (k : Nat) (acc : Str), PyData.strOk acc = true → (∀ t ∈ ts, PyData.strOk t = true) → PyData.strOk (textFrom k acc ts) = true
  | [], _, _, h, _ => h
  | t :: ts, k, acc, h, ht => sok_from ts (k + 1) _ (sok_app (sok_app h (sok_of _)) (ht t List.mem_cons_self)) fun x hx => ht x (List.mem_cons_of_mem _ hx)
theorem sok_list {ts : List Str} (h : ∀ t ∈ ts, PyData.strOk t = true) : PyData.strOk (listText ts) = true := sok_app (sok_from ts 0 _ (sok_of _) h) (sok_of _)
theorem sok_join (sep : Str) (hs : PyData.strOk sep = true) : ∀ (ts : List Str), (∀ t ∈ ts, PyData.strOk t = true) → PyData.strOk (Str.join sep ts) = true
  | [], _ => by show PyData.strOk Str.empty = true; decide +kernel
  | [x], h => h x List.mem_cons_self
  | x :: y :: r, h => sok_app (sok_app (h x List.mem_cons_self) hs) (sok_join sep hs (y :: r) fun t ht => h t (List.mem_cons_of_mem _ ht))
theorem sok_tuple {ts : List Str} (h : ∀ t ∈ ts, PyData.strOk t = true) : PyData.strOk (tupleText ts) = true := sok_app (sok_app (sok_of _) (sok_join _ (sok_of _) ts h)) (sok_of _)
mutual
/-- no text in it, no dict -/
def noStr : PyData → Bool
  | .str _ => false
  | .dict _ => false
  | .list xs => noStrs xs
  | .tuple xs => noStrs xs
  | _ => true
def noStrs : List PyData → Bool
  | [] => true
  | d :: ds => noStr d && noStrs ds
end
mutual
theorem sok_shown : ∀ d : PyData, noStr d = true → PyData.strOk d.shown = true
  | .none, _ => by simp only [PyData.shown]; exact sok_of _
  | .bool b, _ => by cases b <;> simp only [PyData.shown] <;> exact sok_of _
  | .int i, _ => by simp only [PyData.shown]; exact sok_of _
  | .list xs, h => by simp only [PyData.shown]; exact sok_list (sok_all xs (by simpa only [noStr] using h))
  | .tuple xs, h => by simp only [PyData.shown]; exact sok_tuple (sok_all xs (by simpa only [noStr] using h))
  | .str _, h => by simp [noStr] at h
  | .dict _, h => by simp [noStr] at h
theorem sok_all : ∀ ds : List PyData, noStrs ds = true → ∀ t ∈ PyData.shownAll ds, PyData.strOk t = true
  | [], _, t, ht => by simp [PyData.shownAll] at ht
  | d :: ds, h, t, ht => by
    simp only [noStrs, Bool.and_eq_true] at h
    simp only [PyData.shownAll, List.mem_cons] at ht
    rcases ht with rfl | ht
    · exact sok_shown d h.1
    · exact sok_all ds h.2 t ht
end
theorem noStrs_all : ∀ ds : List PyData, noStrs ds = ds.all noStr
  | [] => rfl
  | d :: ds => by simp only [noStrs, List.all_cons, noStrs_all ds]
theorem noStr_ints (ns : List Int) : noStr (.tuple (ns.map PyData.int)) = true := by
  simp only [noStr, noStrs_all, List.all_eq_true]
  intro d hd
  obtain ⟨i, _, rfl⟩ := List.mem_map.mp hd
  simp only [noStr]
theorem noStr_web (rs : List Rw) : noStr (webD rs) = true := by
  simp only [webD, noStr, noStrs_all, List.all_eq_true]
  intro d hd
  obtain ⟨r, _, rfl⟩ := List.mem_map.mp hd
  unfold rowD
  simp only [noStr, noStrs, Bool.and_true, Bool.and_eq_true]
  exact ⟨by simpa only [noStr] using noStr_ints r.1, by simpa only [noStr] using noStr_ints r.2⟩
end Su
/-! ### TX2: repr of a text, and texts joined, are texts of code points -/
namespace Su
open PySem PySem.Spec PyProof.Rows L2
theorem cp_lt (c : Char) : c.toNat < 0x110000 := by
  have := c.valid
  unfold UInt32.isValidChar Nat.isValidChar at this
  show c.val.toNat < _
  omega
theorem rc_ok {q c : Nat} (hq : q < 0x110000) (hc : c < 0x110000) : ∀ x ∈ Builtin.Str.reprChar q c, x < 0x110000 := by
  have dg : ∀ (w : Nat), ∀ x ∈ (List.replicate (w - ((Nat.toDigits 16 c).map Char.toNat).length) 48 ++ (Nat.toDigits 16 c).map Char.toNat), x < 0x110000 := by
    intro w x hx
    rcases List.mem_append.mp hx with h | h
    · rw [(List.mem_replicate.mp h).2]
      decide
    · obtain ⟨d, _, rfl⟩ := List.mem_map.mp h
      exact cp_lt d
  intro x hx
  unfold Builtin.Str.reprChar at hx
  simp only at hx
  repeat' split at hx
  all_goals first
    | (simp only [List.mem_cons, List.not_mem_nil, or_false] at hx; rcases hx with rfl | rfl <;> first | assumption | decide)
    | (simp only [List.mem_cons, List.not_mem_nil, or_false] at hx; subst hx; assumption)
    | (rcases List.mem_append.mp hx with h | h
       · simp only [List.mem_cons, List.not_mem_nil, or_false] at h
         rcases h with rfl | rfl <;> decide
       · exact dg _ x h)
theorem fold_ok {f : Nat → List Nat} (hf : ∀ c, c < 0x110000 → ∀ x ∈ f c, x < 0x110000) : ∀ (l : List Nat) (acc : Array Nat), (∀ c ∈ l, c < 0x110000) → (acc.all (· < 0x110000)) = true → ((l.foldl (fun out c => out ++ (f c).toArray) acc).all (· < 0x110000)) = true
  | [], acc, _, h => h
  | c :: l, acc, hl, h => by
    rw [List.foldl_cons]
    refine fold_ok hf l _ (fun x hx => hl x (List.mem_cons_of_mem _ hx)) ?_
    rw [Array.all_append, Bool.and_eq_true]
    refine ⟨h, ?_⟩
    rw [List.all_toArray, List.all_eq_true]
    intro x hx
    exact decide_eq_true (hf c (hl c List.mem_cons_self) x hx)
theorem sok_repr {x : Str} (h : PyData.strOk x = true) : PyData.strOk (reprText x) = true := by
  have hq : reprQuote x < 0x110000 := by
    unfold reprQuote
    split <;> decide
  have hx : ∀ c ∈ x.cps.toList, c < 0x110000 := by
    intro c hc
    have h2 : x.cps.all (· < 0x110000) = true := h
    rw [← Array.all_toList, List.all_eq_true] at h2
    exact of_decide_eq_true (h2 c hc)
  show (((x.cps.foldl (fun out c => out ++ (Builtin.Str.reprChar (reprQuote x) c).toArray) #[reprQuote x]).push (reprQuote x)).all (· < 0x110000)) = true
  rw [Array.all_push, Bool.and_eq_true, ← Array.foldl_toList]
  refine ⟨fold_ok (fun c hc => rc_ok hq hc) _ _ hx ?_, decide_eq_true hq⟩
  rw [List.all_toArray, List.all_eq_true]
  intro c hc
  rw [List.mem_singleton.mp hc]
  exact decide_eq_true hq
theorem sok_glued {sep : Str} (hs : PyData.strOk sep = true) {ts : List Str} (h : ∀ t ∈ ts, PyData.strOk t = true) : PyData.strOk (Txt.join sep ts) = true := by
  have go : ∀ (l : List Str) (acc : Array Nat), (∀ t ∈ l, PyData.strOk t = true) → acc.all (· < 0x110000) = true → (l.foldl (fun acc p => acc ++ sep.cps ++ p.cps) acc).all (· < 0x110000) = true := by
    intro l
    induction l with
    | nil => exact fun acc _ h => h
    | cons t l ih =>
      intro acc hl ha
      rw [List.foldl_cons]
      refine ih _ (fun x hx => hl x (List.mem_cons_of_mem _ hx)) ?_
      rw [Array.all_append, Array.all_append, Bool.and_eq_true, Bool.and_eq_true]
      exact ⟨⟨ha, hs⟩, hl t List.mem_cons_self⟩
  show ((ts.drop 1).foldl (fun acc p => acc ++ sep.cps ++ p.cps) (ts.headD Str.empty).cps).all (· < 0x110000) = true
  refine go _ _ (fun t ht => h t (List.mem_of_mem_drop ht)) ?_
  cases ts with
  | nil => decide +kernel
  | cons t ts => exact h t List.mem_cons_self
mutual
/-- all texts in it are of code points, no dict -/
def okStr : PyData → Bool
  | .str x => PyData.strOk x
  | .dict _ => false
  | .list xs => okStrs xs
  | .tuple xs => okStrs xs
  | _ => true
def okStrs : List PyData → Bool
  | [] => true
  | d :: ds => okStr d && okStrs ds
end
mutual
theorem sok_shownS : ∀ d : PyData, okStr d = true → PyData.strOk d.shown = true
  | .none, _ => by simp only [PyData.shown]; exact sok_of _
  | .bool b, _ => by cases b <;> simp only [PyData.shown] <;> exact sok_of _
  | .int i, _ => by simp only [PyData.shown]; exact sok_of _
  | .list xs, h => by simp only [PyData.shown]; exact sok_list (sok_allS xs (by simpa only [okStr] using h))
  | .tuple xs, h => by simp only [PyData.shown]; exact sok_tuple (sok_allS xs (by simpa only [okStr] using h))
  | .str x, h => by simp only [PyData.shown]; exact sok_repr (by simpa only [okStr] using h)
  | .dict _, h => by simp [okStr] at h
theorem sok_allS : ∀ ds : List PyData, okStrs ds = true → ∀ t ∈ PyData.shownAll ds, PyData.strOk t = true
  | [], _, t, ht => by simp [PyData.shownAll] at ht
  | d :: ds, h, t, ht => by
    simp only [okStrs, Bool.and_eq_true] at h
    simp only [PyData.shownAll, List.mem_cons] at ht
    rcases ht with rfl | ht
    · exact sok_shownS d h.1
    · exact sok_allS ds h.2 t ht
end
theorem Fine.str {x : Str} {m : Nat} (h : PyData.strOk x = true) (hl : x.length ≤ m) : Fine (.str x) 0 m := by
  refine ⟨by simp [PyData.showable], by simp [PyData.hasDict], by simp [PyData.depth], ?_, ?_, ?_⟩
  · simp only [PyData.leavesShort]
    have h2 : x.cps.all (· < 0x110000) = true := h
    rw [← Array.all_toList, List.all_eq_true] at h2
    rw [List.all_eq_true]
    intro c hc
    have := of_decide_eq_true (h2 c hc)
    exact decide_eq_true (Nat.lt_of_lt_of_le this (by decide))
  · simp only [PyData.weight]
    exact hl
  · simp only [PyData.canLay0]
    exact h
theorem eqv_ints : ∀ xs ys : List Int, PyData.eqvAll (xs.map PyData.int) (ys.map PyData.int) = decide (xs = ys)
  | [], [] => by simp [PyData.eqvAll]
  | [], y :: ys => by simp [PyData.eqvAll]
  | x :: xs, [] => by simp [PyData.eqvAll]
  | x :: xs, y :: ys => by
    rw [List.map_cons, List.map_cons, PyData.eqvAll, eqv_ints xs ys, PyData.eqv]
    by_cases e : x = y
    · subst e
      simp
    · rw [show (x == y) = false from beq_eq_false_iff_ne.mpr e, Bool.false_and]
      exact (decide_eq_false fun z => e (List.cons.inj z).1).symm
end Su
/-! ### XF: an exception that is caught, seen from the begin of its suite on -/
namespace Su
open PySem PySem.Spec PyProof.Rows L2
def wIn (K : PySem.W.Frag) (c : Value) (i : Nat) (ts : Addr → List (Addr × Obj) → TS) (Wo : WX) (D : Ends) : WX := fun cls d σ H =>
  ∃ b, PySem.W.exmOne K cls c = some b ∧
    (b = true → ∀ a pn, H a = none → ts a pn { nx := fun σ' H' => D.nx (σ'.set i none) H', rt := D.rt, bk := fun σ' H' => D.bk (σ'.set i none) H', ct := fun σ' H' => D.ct (σ'.set i none) H' } (σ.set i (some (.ref a))) (upd H a (exK a cls d))) ∧
    (b = false → Wo cls d σ H)
def tTryIn (K : PySem.W.Frag) (c : Value) (i : Nat) (ts : Addr → List (Addr × Obj) → TS) (Wo : WX) (tb : WX → TS) : TS := fun D σ H => tb (wIn K c i ts Wo D) D σ H
section
variable {X : Cx} {x n : Str} {c : Value} {i : Nat} {body suite : List Stmt} {b0 : Stmt} {np pos pos' : Pos} {tb : WX → TS} {ts : Addr → List (Addr × Obj) → TS} {Wo : WX}
/-- try: .. except x as n: suite, the exception tracked in the suite -/
theorem ps_try_in (hex : X.ex = []) (hs : X.stack = X.env :: X.outer) (hf : X.env.frame = some X.env.locals) (hN : X.N.Nodup) (hi : X.N[i]? = some n) (hln : X.env.kindOf n = some .local) (hc : Names X x c) (tk : Takes X Wo)
    (hb : ∀ (W : WX) (pn : List (Addr × Obj)) (xe : Value → Shared → Prop), Takes (X.tr pn xe) W → PassesOwn (model X.prog X.w) X.A X.env xe → PSs (X.tr pn xe) body (tb W))
    (hsu : ∀ (a : Addr) (pn : List (Addr × Obj)), PSs (X.suite a pn) (b0 :: suite) (ts a pn)) :
    PS X (.Try body [.ExceptHandler (some (.Name x np)) (some n) (b0 :: suite) pos'] [] [] pos) (tTryIn X.K c i ts Wo tb) := by
  refine ⟨fun pins s σ H D I h => ?_⟩
  have ok := I.ok
  have frm : X.A.frames = some (X.env :: X.outer) := by
    rw [ok.frames, hs]
  refine wpAny_Try_except ?_
  refine wpAny_mono ((hb (wIn X.K c i ts Wo D) (X.pn ++ pins) (fun u t => wpAny (model X.prog X.w) X.A (noteFrame u X.env) (fun _ t2 => wpAny (model X.prog X.w) X.A (setFlight u none) (fun _ t3 =>
    wpAny (model X.prog X.w) X.A (handleBy u X.env [.ExceptHandler (some (.Name x np)) (some n) (b0 :: suite) pos']) (SP X pins D) X.xe t3) X.xe t2) X.xe t) (fun u t xx => ?_) PassesOwn.looking).run [] s σ H D (I.toTry _) h) (fun fl t hsp => ?_) (fun _ _ z => z)
  · obtain ⟨a, B, sI, pins2, τ, G, cls, d, rfl, Jt, nb, up, sky, na, os, ag, b, hb1, hyes, hno⟩ := xx
    have J : Inv X pins τ G sI := Jt.ofTry ok
    have sky2 : Sky B (X.env :: X.outer) a (Zc cls d) X.env.locals t.heap := by
      rw [← hs]
      exact sky
    show wpAny (model X.prog X.w) X.A (noteFrame (.ref a) X.env) _ _ _
    refine Sky.land Zc.steady frm hf sky2 fun g3 fl3 up3 => ?_
    have J3 : Inv X pins τ G { t with heap := g3 } := J.landed nb fl3.1 (up.trans up3) os ag
    obtain ⟨oe3, vs3, at3, zc3, dt3⟩ := fl3.there
    have nofr : a ∉ frs (X.env :: X.outer) := by
      intro hm
      obtain ⟨_, o', e', hnf⟩ := fl3.2.2.1.mem hm
      rw [at3] at e'
      cases e'
      exact hnf _ dt3
    have nL : a ≠ X.env.locals := fun z => nofr (List.mem_filterMap.mpr ⟨X.env, List.mem_cons_self, by rw [hf, z]⟩)
    have nF : a ∉ X.fs := by
      intro hm
      obtain ⟨e, he, q⟩ := List.mem_filterMap.mp hm
      exact nofr (List.mem_filterMap.mpr ⟨e, List.mem_cons_of_mem _ he, q⟩)
    -- it wasn't there ahead
    have gone : sI.heap.get? a = none := by
      cases z : sI.heap.get? a with
      | none => rfl
      | some o =>
        have y := nb a o z (by rw [hs]; exact nofr)
        rw [fl3.2.1] at y
        cases y
    have gone0 : X.s_0.heap.get? a = none := by
      cases z : X.s_0.heap.get? a with
      | none => rfl
      | some o =>
        obtain ⟨o', y⟩ := J.base.there a o z (by rw [hex]; simp)
        rw [gone] at y
        cases y
    have noc : ∀ y k, X.env.cells.lookup y = some k → k ≠ a := by
      rintro y k e rfl
      obtain ⟨v, o, e1, _⟩ := J.cell y k e
      rw [gone] at e1
      cases e1
    have nop : ∀ q ∈ X.pn ++ pins, q.1 ≠ a := by
      intro q hq e
      have y := (J.pin q hq).1
      rw [e, gone] at y
      cases y
    have S3 := J3.suite at3 dt3 na nL nF
    refine wpAny_handleBy_cons (codeAny_handlers_test ?_) (by intro q; cases q)
    have LT : PySem.W.Looks (model X.prog X.w) g3 (typeOf (.ref a)) cls := fun A Q E s k q => wpAny_typeOf_ref (k _ _ at3) (by rw [zc3.1]; exact q)
    have LM := PySem.W.exm_one (M := model X.prog X.w) (J3.kIn) LT hb1
    have asked : ∀ {Q : Value → Shared → Prop} {E : Value → Shared → Prop}, Q c { t with heap := g3 } → wpAny (model X.prog X.w) (X.A.mark (some (.ref a))) (eval (.Name x np) X.env) Q E { t with heap := g3 } := by
      intro Q E q
      obtain ⟨hg, hdbg, hm | ⟨hm, hv, hnn⟩⟩ := hc
      · exact ld_glob (X := X.suite a ((a, oe3) :: (X.pn ++ pins))) S3 hg hm q hdbg
      · exact ld_blt (X := X.suite a ((a, oe3) :: (X.pn ++ pins))) S3 hg hm hv q hnn hdbg
    refine asked (LM.here ?_)
    cases b with
    | true =>
      refine codeAny_handlers_suite_as (HandSPX.lands_againZ fl3 fun g4 fl4 up4 => ?_)
      have J4 : Inv X pins τ G { t with heap := g4 } := J.landed nb fl4.1 ((up.trans up3).trans up4) os ag
      obtain ⟨oe4, vs4, at4, zc4, dt4⟩ := fl4.there
      have J5 : Inv X pins τ (upd G a (exK a cls d)) { t with heap := g4 } := track J4 na gone0 nL noc nop (exK_ok at4 zc4 dt4)
      have S4 : Inv (X.suite a (X.pn ++ pins)) [] τ (upd G a (exK a cls d)) { t with heap := g4 } := ⟨J5.ok.suite _ _, J5.os, J5.bare, J5.base, J5.loc, J5.cell, J5.free, J5.freeC, fun p hp => J5.pin p (by rw [List.append_nil] at hp; exact hp), J5.hok, J5.len⟩
      refine store_ok (X := X.suite a (X.pn ++ pins)) (v := .ref a) S4 hN hi (.inl hln) rfl (fun t5 S5 => ?_) (.inr hln)
      refine wpAny_mono ((hsu a (X.pn ++ pins)).run [] t5 _ _ _ S5 (hyes rfl a _ na)) (fun fl t6 hsp => ?_) (fun _ _ z => False.elim z)
      have end_ : ∀ {σ6 : L2.St} {H6 : Hp} {Q : Shared → Prop}, Inv (X.suite a (X.pn ++ pins)) [] σ6 H6 t6 → (∀ t7, Inv X pins (σ6.set i none) H6 t7 → Q t7) →
          wpAny (model X.prog X.w) X.A (do bindName X.env n .none; unbindBehindTheSuite X.env n pos') (fun _ t7 => Q t7) X.xe t6 := fun {σ6 H6 Q} S6 hq => by
        have J6 : Inv X pins σ6 H6 t6 := ⟨ok, S6.os, S6.bare, S6.base, S6.loc, S6.cell, S6.free, S6.freeC, fun p hp => S6.pin p (List.mem_append_left _ hp), S6.hok, S6.len⟩
        exact gone_ok J6 hN hi hln hq
      cases fl with
      | next =>
        obtain ⟨σ6, H6, S6, q6⟩ := hsp
        exact end_ S6 fun t7 J7 => ⟨_, _, J7, q6⟩
      | brk =>
        obtain ⟨σ6, H6, S6, q6⟩ := hsp
        exact end_ S6 fun t7 J7 => ⟨_, _, J7, q6⟩
      | cont =>
        obtain ⟨σ6, H6, S6, q6⟩ := hsp
        exact end_ S6 fun t7 J7 => ⟨_, _, J7, q6⟩
      | ret u =>
        obtain ⟨v6, σ6, H6, S6, r6, q6⟩ := hsp
        exact end_ S6 fun t7 J7 => ⟨_, _, _, J7, r6, q6⟩
    | false =>
      show wpAny _ X.A (handleBy (.ref a) X.env []) _ _ _
      refine wpAny_handleBy_nil ?_
      obtain ⟨k1, k2, k3, oe, vs, T, oT, ts', he, hz, hd, h1, hr⟩ := id fl3
      unfold PySem.passOn
      refine wpAny_bind (wpAny_field he hd h1 ?_)
      rw [if_neg (show ¬ ((Value.ref T == Value.none) = true) from by simp)]
      have away : wpAny (model X.prog X.w) X.A (setFlight (.ref a) X.env.frame) (fun _ t4 => wpAny (model X.prog X.w) X.A (throw (.ref a) : Sem Flow) (SP X pins D) X.xe t4) X.xe { t with heap := g3 } := by
        rw [hf]
        refine HandSPX.setFlight_upZ fl3 fun g4 hh4 up4 => wpAny_throw (tk _ _ ?_)
        exact ⟨a, B, sI, pins, τ, G, cls, d, rfl, J, nb, (up.trans up3).trans up4, .inr (.inr (by rw [hs]; exact hh4)), na, os, ag, hno rfl⟩
      first
        | exact wpAny_bind (wpAny_pure (wpAny_bind away))
        | exact wpAny_bind away
  · cases fl with
    | next =>
      obtain ⟨τ, G, J, q⟩ := hsp
      exact wpAny_execs_nil ⟨τ, G, J.ofTry ok, q⟩
    | brk =>
      obtain ⟨τ, G, J, q⟩ := hsp
      exact ⟨τ, G, J.ofTry ok, q⟩
    | cont =>
      obtain ⟨τ, G, J, q⟩ := hsp
      exact ⟨τ, G, J.ofTry ok, q⟩
    | ret u =>
      obtain ⟨v, τ, G, J, r, q⟩ := hsp
      exact ⟨v, τ, G, J.ofTry ok, r, q⟩
end
section
variable {X : Cx}
/-- repr of a scalar, wherever -/
def rReprS : List V → Hp → VK → Prop := fun xs H Q => (xs = [.non] ∧ Q (.str "None") H) ∨ (∃ b : Bool, xs = [.bl b] ∧ Q (.str (if b then "True" else "False")) H) ∨ ∃ i : Int, xs = [.int i] ∧ i.natAbs.log2 < 1920 ∧ Q (.str (toString i)) H
theorem call_reprS : CallR X (.builtin "repr") rReprS := by
  intro pins s σ H xs us Q I r h
  rcases h with ⟨rfl, q⟩ | ⟨b, rfl, q⟩ | ⟨i, rfl, hz, q⟩
  · obtain ⟨u, rfl, ru⟩ := vals1 r
    cases ru
    exact PySem.P.repr_of_none ⟨.str _, H, I.tok _, ⟨_, rfl⟩, q⟩
  · obtain ⟨u, rfl, ru⟩ := vals1 r
    cases ru
    exact PySem.P.repr_of_bool ⟨.str _, H, I.tok _, ⟨_, rfl⟩, q⟩
  · obtain ⟨u, rfl, t, rfl⟩ := vals1 r
    exact PySem.P.repr_of_int hz ⟨.str _, H, I.tok _, ⟨_, rfl⟩, q⟩
end
end Su
namespace Su
open PySem PySem.Spec PyProof.Rows L2
def topS (i : Nat) : Stmt := PySem.Challenge.pw_surehand_k08_programs_looked_at.main.body.getD i (.Pass ⟨0, 0, 0, 0⟩)
abbrev s_HandError : Stmt := topS 1
abbrev s_NoProgram : Stmt := topS 2
abbrev s_NoWeb : Stmt := topS 3
abbrev s_NoRun : Stmt := topS 4
abbrev s_NoText : Stmt := topS 5
abbrev s_is_whole : Stmt := topS 8
abbrev sIsWhole : Stmt := topS 8
abbrev s_is_room : Stmt := topS 9
abbrev sIsRoom : Stmt := topS 9
abbrev s_are_rising : Stmt := topS 10
abbrev s_are_rooms : Stmt := topS 11
abbrev s_are_letters : Stmt := topS 18
abbrev s_is_name : Stmt := topS 19
abbrev s_are_times : Stmt := topS 20
abbrev s_are_terms : Stmt := topS 21
abbrev s_is_term : Stmt := topS 22
abbrev s_is_named_term : Stmt := topS 23
abbrev s_terms_within : Stmt := topS 24
abbrev s_calls_only : Stmt := topS 25
abbrev s_names_behind : Stmt := topS 26
abbrev s_look_at_program : Stmt := topS 27
abbrev s_law_pool : Stmt := topS 29
abbrev sPool : Stmt := topS 29
abbrev s_law_take : Stmt := topS 30
abbrev sTake : Stmt := topS 30
abbrev s_law_picked : Stmt := topS 31
abbrev sPicked : Stmt := topS 31
abbrev s_law_names : Stmt := topS 32
abbrev s_law_term : Stmt := topS 33
abbrev s_law_program : Stmt := topS 34
abbrev s_law_is_name : Stmt := topS 35
abbrev s_law_whole : Stmt := topS 36
abbrev sWhole : Stmt := topS 36
abbrev s_law_are_rooms : Stmt := topS 37
abbrev s_law_inner : Stmt := topS 38
abbrev s_law_is_term : Stmt := topS 39
abbrev s_law_grown : Stmt := topS 40
abbrev s_law_calls : Stmt := topS 41
abbrev s_law_due : Stmt := topS 42
abbrev s_law_told : Stmt := topS 43
abbrev s_law_nested : Stmt := topS 44
abbrev s_law_odd_term : Stmt := topS 45
abbrev s_law_bent : Stmt := topS 46
abbrev s_law : Stmt := topS 47
abbrev sLaw : Stmt := topS 47
end Su
/-! ### W1G: how a row of a web is looked at, of a thing of any kind -/
namespace Su
open PySem PySem.Spec PyProof.Rows L2
def wholeG : G → Bool
  | .int _ => true
  | _ => false
/-- a whole number from 0, below n -/
def inG (n : Int) : G → Bool
  | .int i => decide (0 ≤ i) && decide (i < n)
  | _ => false
def valI : G → Int
  | .int i => i
  | _ => 0
def ups (ns : List Int) : List Bool := (ns.zip (ns.drop 1)).map fun p => decide (p.1 < p.2)
def risG (n : Int) (gs : List G) : Bool := (gs.map (inG n)).all id && (ups (gs.map valI)).all id
def roomsG (lo hi : Int) : G → Bool
  | .tup gs => (decide (lo ≤ (gs.length : Int)) && decide ((gs.length : Int) ≤ hi)) && risG 100 gs
  | _ => false
theorem ups_get {ns : List Int} {i : Nat} {a b : Int} (e1 : ns[i]? = some a) (e2 : ns[1 + i]? = some b) : (ups ns)[i]? = some (decide (a < b)) := by
  unfold ups
  have z : (ns.zip (ns.drop 1))[i]? = some (a, b) := List.getElem?_zip_eq_some.mpr ⟨e1, by rw [List.getElem?_drop]; exact e2⟩
  rw [List.getElem?_map, z]
  rfl
theorem take_one {α : Type} {l : List α} {i : Nat} {x : α} (e : l[i]? = some x) : l.take (i + 1) = l.take i ++ [x] := by
  rw [List.take_add_one, e]
  rfl
theorem ints_of_all {p : Addr} {H : Hp} {n : Int} : ∀ {vs : List V} {gs : List G}, TgL p H vs gs → (gs.map (inG n)).all id = true → vs = (gs.map valI).map V.int
  | _, _, .nil, _ => rfl
  | _, _, .cons (d := d) h t, e => by
    rw [List.map_cons, List.all_cons, Bool.and_eq_true] at e
    rw [List.map_cons, List.map_cons, ← ints_of_all t e.2]
    cases h with
    | int i => rfl
    | _ => cases e.1
def spWhole : Sp := fun vs H Q _ => ∃ (p : Addr) (v : V) (g : G), vs = [v] ∧ Tg p H v g ∧ Q (.bl (wholeG g)) H
def spRoom : Sp := fun vs H Q _ => ∃ (p : Addr) (v : V) (g : G), vs = [v] ∧ Tg p H v g ∧ Q (.bl (inG 100 g)) H
def spRising : Sp := fun vs H Q _ => ∃ (a : Addr) (ns : List Int), vs = [.ref a] ∧ T2 H a (ns.map V.int) ∧ ns.length ≤ 1000 ∧ ∀ H', Same H H' → Q (.bl ((ups ns).all id)) H'
def spRooms : Sp := fun vs H Q _ => ∃ (p : Addr) (v : V) (g : G) (lo hi : Int), vs = [v, .int lo, .int hi] ∧ Tg p H v g ∧ hi ≤ 1000 ∧ ∀ H', Same H H' → Q (.bl (roomsG lo hi g)) H'
theorem sc_is_whole : FnScope ["thing"] ["thing"] (defScope s_is_whole) := ⟨rfl, rfl, rfl, by decide +kernel, rfl, by decide +kernel, by decide +kernel⟩
theorem sc_is_room : FnScope ["thing"] ["thing"] (defScope s_is_room) := ⟨rfl, rfl, rfl, by decide +kernel, rfl, by decide +kernel, by decide +kernel⟩
theorem sc_are_rising : FnScope ["numbers", "one", "other"] ["numbers"] (defScope s_are_rising) := ⟨rfl, rfl, rfl, by decide +kernel, rfl, by decide +kernel, by decide +kernel⟩
theorem sc_are_rooms : FnScope ["thing", "least", "most", "room"] ["thing", "least", "most"] (defScope s_are_rooms) := ⟨rfl, rfl, rfl, by decide +kernel, rfl, by decide +kernel, by decide +kernel⟩
section
variable {P : Program} {w : World} {K : PySem.W.Frag} {mg : Str → Option Value} {base : Heap}
theorem whole_int {p : Addr} {H : Hp} {v : V} {g : G} (h : Tg p H v g) (e : wholeG g = true) : ∃ i, v = .int i ∧ g = .int i := by
  cases h with
  | int i => exact ⟨i, rfl, rfl⟩
  | _ => cases e
theorem ok_whole (T : At K mg "is_whole" s_is_whole ["thing"]) (B : Bt mg) : Cal P w K mg base 1 "is_whole" ["thing"] spWhole := by
  refine cal_of T sc_is_whole (fun vs H Q E h => ?_) (fun f cdv A outer s H vs Q E hr h => ?_)
  · obtain ⟨p, v, g, rfl, _⟩ := h
    rfl
  · obtain ⟨p, v, g, rfl, hv, q⟩ := h
    refine ⟨_, (pss_one (ps_ret (pe_and (pe_callB call_isi (by rfl) B.isinstance (by decide +kernel) (pa_cons (pv 0) (pa_cons (pe_bltn (v := .ty "int") (u := .type "int") (by rfl) B.int (by decide +kernel) rfl) pa_nil))) (pe_one (pe_not (pe_callB call_isi (by rfl) B.isinstance (by decide +kernel) (pa_cons (pv 0) (pa_cons (pe_bltn (v := .ty "bool") (u := .type "bool") (by rfl) B.bool (by decide +kernel) rfl) pa_nil)))))))), ?_⟩
    refine ⟨_, rfl, v, .ty "int", _, _, _, rfl, .ty "int", hv.ty, kit_int g, _, rfl, iteB (fun e => ?_) (fun e => ?_)⟩
    · refine ⟨_, rfl, v, .ty "bool", _, _, _, rfl, .ty "bool", hv.ty, kit_bool g, _, rfl, ?_⟩
      rw [show (!isBool g) = wholeG g from by cases g <;> first | rfl | cases e]
      exact q
    · rw [show false = wholeG g from by cases g <;> first | rfl | cases e]
      exact q
theorem ok_room (T : At K mg "is_room" s_is_room ["thing"]) (D : ∃ t, mg "LAST_ROOM" = some (.int 99 t)) (c_is_whole : Cal P w K mg base 1 "is_whole" ["thing"] spWhole) : Cal P w K mg base 2 "is_room" ["thing"] spRoom := by
  obtain ⟨tl, mLast⟩ := D
  refine cal_of T sc_is_room (fun vs H Q E h => ?_) (fun f cdv A outer s H vs Q E hr h => ?_)
  · obtain ⟨p, v, g, rfl, _⟩ := h
    rfl
  · obtain ⟨p, v, g, rfl, hv, q⟩ := h
    refine ⟨_, (pss_one (ps_ret (pe_and (pe_own c_is_whole hr (by decide) (by rfl) (pa_cons (pv 0) pa_nil)) (pe_one (pe_chain op_le op_le pe_int (pv 0) (pe_glob (v := .int 99) rfl mLast ⟨_, rfl⟩)))))), ?_⟩
    refine ⟨_, rfl, p, v, g, rfl, hv, _, rfl, iteB (fun e => ?_) (fun e => ?_)⟩
    · obtain ⟨i, rfl, rfl⟩ := whole_int hv e
      refine ⟨_, rfl, _, _, rfl, rfl, _, rfl, iteB (fun e1 => ?_) (fun e1 => ?_)⟩
      · refine ⟨_, _, rfl, rfl, ?_⟩
        have z : decide (i ≤ 99) = inG 100 (.int i) := by
          show decide (i ≤ 99) = (decide (0 ≤ i) && decide (i < 100))
          rw [e1, Bool.true_and]
          exact decide_eq_decide.mpr (by omega)
        rw [← z] at q
        exact q
      · rw [show false = inG 100 (.int i) from by show false = (decide (0 ≤ i) && decide (i < 100)); rw [e1, Bool.false_and]]
        exact q
    · rw [show false = inG 100 g from by cases g <;> first | rfl | cases e]
      exact q
theorem ok_rising (T : At K mg "are_rising" s_are_rising ["numbers"]) (B : Bt mg) : Cal P w K mg base 1 "are_rising" ["numbers"] spRising := by
  refine cal_of T sc_are_rising (fun vs H Q E h => ?_) (fun f cdv A outer s H vs Q E hr h => ?_)
  · obtain ⟨a, ns, rfl, _⟩ := h
    rfl
  · obtain ⟨a, ns, rfl, ha, hl, q⟩ := h
    refine ⟨_, (pss_one (ps_ret (pe_callB (cr_all rfl) (by rfl) B.all (by decide +kernel) (pa_cons (pe_lc (own := [("one", 1), ("other", 2)]) (g := (gTup K 2 (gCons (gName 1) (gCons (gName 2) gNil)))) (tt := tYes) (te := (tOp (rI0 fun i j => .bl (decide (i < j))) (tVar 1) (tVar 2))) (by rfl) sc_are_rising.nd (RZ.pi_zipA (by rfl) B.zip (pa_cons (pv 0) (pa_cons (pe_slice sl_tup2 (pv 0) (po_some pe_int) po_none) pa_nil))) (blkOk_by (own := [("one", 1), ("other", 2)]) (N := ["numbers", "one", "other"]) (sc := defScope s_are_rising) (by decide +kernel)) (fun _ _ _ _ _ => (pg_tup (by rfl) (pgs_cons (pg_name (i := 1) sc_are_rising.nd rfl (Or.inl rfl)) (pgs_cons (pg_name (i := 2) sc_are_rising.nd rfl (Or.inl rfl)) pgs_nil)))) (fun _ _ _ _ _ => pts_nil) (fun _ _ _ _ _ => (pe_cmpR op_lt (pv 1) (pv 2) (nomark _)))) pa_nil)))), ?_⟩
    refine ⟨_, rfl, _, rfl, 1, rfl, a, _, rfl, ha, fun b H1 s1 hb => ?_⟩
    rw [cut_tail, ← List.map_drop] at hb
    refine ⟨a, b, _, _, rfl, .inr ⟨(ha.same s1).sq, hb.sq, fun D nD => ?_⟩⟩
    refine lc_zipT (K := K) (a := a) (b := b) (xs := ns.map V.int) (ys := (ns.drop 1).map V.int) (by rw [List.length_map, List.length_map, List.length_drop]; omega) (fun i H2 => Same H H2 ∧ T2 H2 a (ns.map V.int) ∧ T2 H2 b ((ns.drop 1).map V.int) ∧ H2 D = some (.lst (((ups ns).take i).map V.bl))) ?_ ?_ ?_ ?_
    · have sD : Same H1 (upd H1 D (.lst [])) := same_upd nD
      exact ⟨s1.trans sD, (ha.same s1).same sD, hb.same sD, upd_same⟩
    · rintro i H2 _ ⟨_, h1, h2, _⟩
      exact ⟨h1.sq, h2.sq⟩
    · rintro i x y T H2 hx hy ⟨s2, h1, h2, hD⟩ nT
      have sT : Same H2 (upd H2 T (.tup [x, y])) := same_upd nT
      rw [List.getElem?_map] at hx hy
      rw [List.getElem?_drop] at hy
      obtain ⟨n1, e1, rfl⟩ := Option.map_eq_some_iff.mp hx
      obtain ⟨n2, e2, rfl⟩ := Option.map_eq_some_iff.mp hy
      have hi : i < ns.length := (List.getElem?_eq_some_iff.mp e1).1
      refine ⟨T, _, rfl, SqT.of upd_same, rfl, _, _, rfl, _, _, rfl, rfl, rfl, tyes ?_⟩
      refine ⟨_, rfl, _, rfl, _, _, rfl, rfl, ((ups ns).take i).map V.bl, sT _ _ hD, ?_, ?_⟩
      · rw [List.length_map, List.length_take]
        exact small1000 (by omega)
      · have h3 := sT _ _ hD
        have k3 := (K2.same sT).trans (K2.lst (u := .lst (((ups ns).take (i + 1)).map V.bl)) h3)
        show _ ∧ _ ∧ _ ∧ _
        rw [take_one (ups_get e1 e2), List.map_append] at k3 ⊢
        refine ⟨fun c o ec => ?_, k3 _ _ h1, k3 _ _ h2, upd_same⟩
        rw [upd_ne (ne_of_none (s1 _ _ ec) nD)]
        exact sT _ _ (s2 _ _ ec)
    · rintro H2 ⟨s2, h1, h2, hD⟩
      refine ⟨D, ups ns, rfl, ?_, ?_⟩
      · rw [List.take_of_length_le (by unfold ups; rw [List.length_map, List.length_zip, List.length_map]; omega)] at hD
        exact SqL.of hD
      · exact q H2 s2
theorem ok_rooms (T : At K mg "are_rooms" s_are_rooms ["thing", "least", "most"]) (B : Bt mg) (c_is_room : Cal P w K mg base 2 "is_room" ["thing"] spRoom) (c_are_rising : Cal P w K mg base 1 "are_rising" ["numbers"] spRising) :
    Cal P w K mg base 3 "are_rooms" ["thing", "least", "most"] spRooms := by
  refine cal_of T sc_are_rooms (fun vs H Q E h => ?_) (fun f cdv A outer s H vs Q E hr h => ?_)
  · obtain ⟨p, v, g, lo, hi, rfl, _⟩ := h
    rfl
  · obtain ⟨p, v, g, lo, hi, rfl, hv, hm, q⟩ := h
    refine ⟨_, (pss_cons (ps_if (PW.pt (pw_or (pt_not (pt_val (pe_callB call_isi (by rfl) B.isinstance (by decide +kernel) (pa_cons (pv 0) (pa_cons (pe_bltn (v := .ty "tuple") (u := .type "tuple") (by rfl) B.tuple (by decide +kernel) rfl) pa_nil))))) (pw_or1 (pt_not (pt_chain op_le op_le (pv 1) (pe_callB call_len_seq (by rfl) B.len PySem.boot_len (pa_cons (pv 0) pa_nil)) (pv 2)))))) (pss_one (ps_ret pe_bl)) pss_nil)
      (pss_one (ps_ret (pe_and (pe_callB (cr_all rfl) (by rfl) B.all (by decide +kernel) (pa_cons (pe_lc (own := [("room", 3)]) (g := (gName 3)) (tt := tYes) (te := (tCall spRoom [] E0 (tCons (tVar 3) tNil))) (by rfl) sc_are_rooms.nd (pi_tup (pv 0)) (blkOk_by (own := [("room", 3)]) (N := ["thing", "least", "most", "room"]) (sc := defScope s_are_rooms) (by decide +kernel)) (fun _ _ _ _ _ => (pg_name (i := 3) sc_are_rooms.nd rfl (Or.inl rfl))) (fun _ _ _ _ _ => pts_nil) (fun _ _ _ _ _ => (pe_own c_is_room hr (by decide) (by rfl) (pa_cons (pv 3) pa_nil)))) pa_nil)) (pe_one (pe_own c_are_rising hr (by decide) (by rfl) (pa_cons (pv 0) pa_nil))))))), ?_⟩
    refine ⟨_, rfl, v, .ty "tuple", _, _, _, rfl, .ty "tuple", hv.ty, kit_tuple g, _, rfl, iteB (fun e => ?_) (fun e => ?_)⟩
    · refine iteT ?_
      rw [show false = roomsG lo hi g from by cases g <;> first | rfl | cases e]
      exact q H (Same.refl H)
    cases hv with
    | @tup a vs gs ha t =>
      have hlen : vs.length = gs.length := t.len
      refine ⟨_, rfl, _, rfl, a, _, rfl, .inr ha.sq, _, _, rfl, rfl, _, rfl, iteB (fun e1 => ?_) (fun e1 => ?_)⟩
      · refine ⟨_, rfl, _, _, rfl, rfl, _, rfl, ?_⟩
        rw [hlen] at e1 ⊢
        refine iteB (fun e2 => ?_) (fun e2 => ?_)
        · have e3 : decide ((gs.length : Int) ≤ hi) = false := by simpa using e2
          have z : false = roomsG lo hi (.tup gs) := by
            show false = ((decide (lo ≤ (gs.length : Int)) && decide ((gs.length : Int) ≤ hi)) && risG 100 gs)
            rw [e3, Bool.and_false, Bool.false_and]
          rw [z]
          exact q H (Same.refl H)
        · have e3 : decide ((gs.length : Int) ≤ hi) = true := by simpa using e2
          have small : gs.length ≤ 1000 := by
            have := of_decide_eq_true e3
            omega
          have z : roomsG lo hi (.tup gs) = risG 100 gs := by
            show ((decide (lo ≤ (gs.length : Int)) && decide ((gs.length : Int) ≤ hi)) && risG 100 gs) = _
            rw [e1, e3, Bool.true_and, Bool.true_and]
          refine ⟨_, rfl, a, rfl, ⟨_, ha.sq⟩, fun D nD => ?_⟩
          refine lc_tup (K := K) (a := a) (xs := vs) (fun i H2 => Same H H2 ∧ T2 H2 a vs ∧ H2 D = some (.lst (((gs.map (inG 100)).take i).map V.bl))) ?_ ?_ ?_ ?_
          · have sD : Same H (upd H D (.lst [])) := same_upd nD
            exact ⟨sD, ha.same sD, upd_same⟩
          · rintro i H2 _ ⟨_, h3, _⟩
            exact h3.sq
          · rintro i x H2 hx ⟨s2, h3, hD⟩
            obtain ⟨g1, e4, tg⟩ := t.get hx
            have hi : i < gs.length := (List.getElem?_eq_some_iff.mp e4).1
            refine ⟨rfl, tyes ?_⟩
            refine ⟨_, rfl, p, x, g1, rfl, tg.keep (Keeps.same s2), ((gs.map (inG 100)).take i).map V.bl, hD, (by rw [List.length_map, List.length_take, List.length_map]; exact small1000 (by omega)), ?_⟩
            rw [take_one (x := inG 100 g1) (by rw [List.getElem?_map, e4]; rfl), List.map_append]
            refine ⟨fun c o ec => ?_, K2.lst hD _ _ h3, upd_same⟩
            rw [upd_ne (ne_of_none ec nD)]
            exact s2 _ _ ec
          · rintro H2 ⟨s2, h3, hD⟩
            rw [List.take_of_length_le (by rw [List.length_map]; omega)] at hD
            refine ⟨D, gs.map (inG 100), rfl, SqL.of hD, _, rfl, iteB (fun e5 => ?_) (fun e5 => ?_)⟩
            · rw [ints_of_all t e5] at h3
              refine ⟨_, rfl, a, _, rfl, h3, (by rw [List.length_map]; exact small), fun H3 s3 => ?_⟩
              have q3 := q H3 (s2.trans s3)
              rw [z] at q3
              unfold risG at q3
              rw [e5, Bool.true_and] at q3
              exact q3
            · have q3 := q H2 s2
              rw [z] at q3
              unfold risG at q3
              rw [e5, Bool.false_and] at q3
              exact q3
      · refine ⟨_, rfl, iteT ?_⟩
        rw [hlen] at e1
        have z : false = roomsG lo hi (.tup gs) := by
          show false = ((decide (lo ≤ (gs.length : Int)) && decide ((gs.length : Int) ≤ hi)) && risG 100 gs)
          rw [e1, Bool.false_and, Bool.false_and]
        rw [z]
        exact q H (Same.refl H)
    | _ => cases e
end
end Su
/-! ### PR: programs that are drawn, as things -/
namespace Su
open PySem PySem.Spec PyProof.Rows L2
/-! texts that are not too long -/
mutual
def okS : G → Bool
  | .str s => decide (s.length ≤ 1000)
  | .lst l => okSs l
  | .tup l => okSs l
  | .non => true
  | .bl _ => true
  | .int _ => true
  | .dct => true
def okSs : List G → Bool
  | [] => true
  | g :: gs => okS g && okSs gs
end
theorem okSs_mem : ∀ {gs : List G} {g : G}, okSs gs = true → g ∈ gs → okS g = true
  | x :: gs, g, h, m => by
    unfold okSs at h
    rw [Bool.and_eq_true] at h
    rcases List.mem_cons.mp m with z | z
    · rw [z]
      exact h.1
    · exact okSs_mem h.2 z
theorem okSs_of : ∀ {gs : List G}, (∀ g ∈ gs, okS g = true) → okSs gs = true
  | [], _ => by unfold okSs; rfl
  | x :: gs, h => by
    unfold okSs
    rw [h x List.mem_cons_self, okSs_of fun g hg => h g (List.mem_cons_of_mem _ hg)]
    rfl
/-- a thing without dicts, that may be shown and compared -/
structure Nc (g : G) (n m : Nat) : Prop where
  fz : Fz g n m
  ok : okD g = true
  cl : (toD g).canLay0 = true
  st : okS g = true
structure NcL (gs : List G) (n m : Nat) : Prop where
  fz : FzL gs n m
  ok : okDs gs = true
  cl : PyData.canLayAll0 (toDs gs) = true
  st : okSs gs = true
theorem Nc.up {g : G} {n m n' m' : Nat} (h : Nc g n m) (a : n ≤ n') (b : m ≤ m') : Nc g n' m' := ⟨h.fz.up a b, h.ok, h.cl, h.st⟩
theorem NcL.up {g : List G} {n m n' m' : Nat} (h : NcL g n m) (a : n ≤ n') (b : m ≤ m') : NcL g n' m' := ⟨h.fz.up a b, h.ok, h.cl, h.st⟩
theorem Nc.tup {gs : List G} {n m : Nat} (t : NcL gs n m) : Nc (.tup gs) (n + 1) m := ⟨Fz.tup t.fz, by simpa only [okD] using t.ok, by simpa only [toD, PyData.canLay0] using t.cl, by simpa only [okS] using t.st⟩
theorem Nc.lst {gs : List G} {n m : Nat} (t : NcL gs n m) : Nc (.lst gs) (n + 1) m := ⟨Fz.lst t.fz, by simpa only [okD] using t.ok, by simpa only [toD, PyData.canLay0] using t.cl, by simpa only [okS] using t.st⟩
theorem NcL.nil {n : Nat} : NcL [] n 0 := ⟨FzL.nil, rfl, by simp [toDs, PyData.canLayAll0], by unfold okSs; rfl⟩
theorem NcL.cons {g : G} {gs : List G} {n m k : Nat} (h : Nc g n m) (t : NcL gs n k) : NcL (g :: gs) n (m + 1 + k) := by
  refine ⟨FzL.cons h.fz t.fz, ?_, ?_, ?_⟩
  · simp only [okDs, h.ok, t.ok, Bool.and_self]
  · simp only [toDs, PyData.canLayAll0, h.cl, t.cl, Bool.and_self]
  · simp only [okSs, h.st, t.st, Bool.and_self]
theorem NcL.all {n m : Nat} : ∀ {gs : List G}, (∀ g ∈ gs, Nc g n m) → NcL gs n ((m + 1) * gs.length)
  | [], _ => NcL.nil
  | g :: gs, h => by
    have a := NcL.cons (h g List.mem_cons_self) (NcL.all fun y hy => h y (List.mem_cons_of_mem _ hy))
    have e : m + 1 + (m + 1) * gs.length = (m + 1) * (g :: gs).length := by
      rw [List.length_cons, Nat.mul_add, Nat.mul_one, Nat.add_comm]
    rw [e] at a
    exact a
theorem Nc.int {i : Int} (h1 : -1000000 ≤ i := by decide) (h2 : i ≤ 1000000 := by decide) : Nc (.int i) 0 40 := ⟨Fz.int h1 h2, rfl, rfl, rfl⟩
theorem Nc.none : Nc .non 0 0 := ⟨Fz.none, rfl, rfl, rfl⟩
theorem Nc.bool (b : Bool) : Nc (.bl b) 0 0 := ⟨Fz.bool b, rfl, rfl, rfl⟩
theorem Nc.str {s : Str} {m : Nat} (h : s.cps.size ≤ m := by decide +kernel) (h2 : ∀ c ∈ s.cps.toList, c < 1000 := by decide +kernel) (hm : m ≤ 1000 := by decide) : Nc (.str s) 0 m := by
  refine ⟨⟨by simp [toD, PyData.showable], by simp [toD, PyData.depth], ?_, ?_⟩, rfl, ?_, ?_⟩
  · simp only [toD, PyData.leavesShort, List.all_eq_true, decide_eq_true_eq]
    intro c hc
    exact Nat.lt_of_lt_of_le (h2 c hc) (by decide)
  · simp only [toD, PyData.weight]
    exact h
  · simp only [toD, PyData.canLay0, PyData.strOk]
    rw [← Array.all_toList, List.all_eq_true]
    intro c hc
    have z := h2 c hc
    rw [decide_eq_true_eq]
    omega
  · show decide (s.cps.size ≤ 1000) = true
    rw [decide_eq_true_eq]
    omega
theorem NcL.ints : ∀ ns : List Int, (∀ k ∈ ns, -1000 ≤ k ∧ k ≤ 1000) → NcL (ns.map G.int) 0 (41 * ns.length)
  | [], _ => NcL.nil
  | n :: ns, h => by
    have h1 := h n List.mem_cons_self
    have a := NcL.cons (Nc.int (i := n) (by omega) (by omega)) (NcL.ints ns fun y hy => h y (List.mem_cons_of_mem _ hy))
    exact a.up (Nat.le_refl _) (by rw [List.length_cons]; omega)
/-- what a thing without dicts is when it's taken apart -/
structure OkT (g : G) : Prop where
  ok : okD g = true
  cl : (toD g).canLay0 = true
  dp : (toD g).depth ≤ 40
  st : okS g = true
theorem Nc.okT {g : G} {n m : Nat} (h : Nc g n m) (hn : n ≤ 40) : OkT g := ⟨h.ok, h.cl, Nat.le_trans h.fz.dp hn, h.st⟩
theorem okTs_mem {gs : List G} (h : okDs gs = true) (c : PyData.canLayAll0 (toDs gs) = true) (d : PyData.depthAll (toDs gs) ≤ 40) (s : okSs gs = true) : ∀ {x : G}, x ∈ gs → OkT x := by
  induction gs with
  | nil => exact fun hx => (List.not_mem_nil hx).elim
  | cons g gs ih =>
    intro x hx
    simp only [okDs, Bool.and_eq_true] at h
    simp only [toDs, PyData.canLayAll0, Bool.and_eq_true] at c
    simp only [toDs, PyData.depthAll] at d
    simp only [okSs, Bool.and_eq_true] at s
    rcases List.mem_cons.mp hx with z | z
    · rw [z]
      exact ⟨h.1, c.1, by omega, s.1⟩
    · exact ih h.2 c.2 (by omega) s.2 z
theorem OkT.mem {gs : List G} (h : OkT (.tup gs)) {x : G} (hx : x ∈ gs) : OkT x := by
  have ok := h.ok
  have cl := h.cl
  have dp := h.dp
  have st := h.st
  simp only [okD] at ok
  simp only [toD, PyData.canLay0] at cl
  simp only [toD, PyData.depth] at dp
  simp only [okS] at st
  exact okTs_mem ok cl (by omega) st hx
theorem OkT.shaped {g : G} (h : OkT g) : SeqAt.shaped (toD g) = true := by
  unfold SeqAt.shaped
  rw [h.cl, Bool.true_and, decide_eq_true_eq]
  exact Nat.le_trans h.dp (by decide)
/-! terms -/
theorem TmL.snoc {H : Hp} {v : V} {t : Tm} (h : TmAt H v t) : ∀ {vs : List V} {ts : List Tm}, TmL H vs ts → TmL H (vs ++ [v]) (ts ++ [t])
  | _, _, .nil => .cons h .nil
  | _, _, .cons h1 r => .cons h1 (TmL.snoc h r)
def Few (S : List Int) (r : List Int) : Prop := r.length ≤ 3 ∧ ∀ k ∈ r, k ∈ S
def PrL (H : Hp) : List V → List (Str × Tm) → Prop
  | [], [] => True
  | v :: vs, q :: qs => (∃ a u, v = .ref a ∧ PTup H a [.str q.1, u] ∧ TmAt H u q.2) ∧ PrL H vs qs
  | _, _ => False
theorem PrL.keep {H H' : Hp} (k : KT H H') : ∀ {vs : List V} {ps : List (Str × Tm)}, PrL H vs ps → PrL H' vs ps
  | [], [], _ => trivial
  | v :: vs, q :: qs, z => by
    obtain ⟨⟨a, u, e, p, t⟩, r⟩ := z
    exact ⟨⟨a, u, e, k _ _ p, t.keep k⟩, PrL.keep k r⟩
  | [], _ :: _, z => z.elim
  | _ :: _, [], z => z.elim
theorem PrL.len {H : Hp} : ∀ {vs : List V} {ps : List (Str × Tm)}, PrL H vs ps → vs.length = ps.length
  | [], [], _ => rfl
  | v :: vs, q :: qs, z => by
    rw [List.length_cons, List.length_cons, PrL.len z.2]
  | [], _ :: _, z => z.elim
  | _ :: _, [], z => z.elim
theorem PrL.get {H : Hp} : ∀ {vs : List V} {ps : List (Str × Tm)}, PrL H vs ps → ∀ {i : Nat} {v : V}, vs[i]? = some v → ∃ q a u, ps[i]? = some q ∧ v = .ref a ∧ PTup H a [.str q.1, u] ∧ TmAt H u q.2
  | [], [], _, i, v, e => by simp at e
  | v0 :: vs, q :: qs, z, 0, v, e => by
    obtain ⟨⟨a, u, e2, p, t⟩, _⟩ := z
    have e3 : v0 = v := by simpa using e
    subst e3
    exact ⟨q, a, u, rfl, e2, p, t⟩
  | v0 :: vs, q :: qs, z, i + 1, v, e => PrL.get z.2 (i := i) (by simpa using e)
  | [], _ :: _, z, _, _, _ => z.elim
  | _ :: _, [], z, _, _, _ => z.elim
theorem PrL.snoc {H : Hp} {a : Addr} {u : V} {q : Str × Tm} (p : PTup H a [.str q.1, u]) (t : TmAt H u q.2) : ∀ {vs : List V} {ps : List (Str × Tm)}, PrL H vs ps → PrL H (vs ++ [.ref a]) (ps ++ [q])
  | [], [], _ => ⟨⟨a, u, rfl, p, t⟩, trivial⟩
  | _ :: _, _ :: _, z => ⟨z.1, PrL.snoc p t z.2⟩
  | [], _ :: _, z => z.elim
  | _ :: _, [], z => z.elim
/-- a program: each name calls only names behind it -/
def PN (S : List Int) (d : Nat) : List (Str × Tm) → Prop
  | [] => True
  | (_, t) :: r => Lv (· ∈ r.map Prod.fst) (Few S) d t ∧ PN S d r
theorem PN.all {S : List Int} {d : Nat} : ∀ {ps : List (Str × Tm)}, PN S d ps → ∀ q ∈ ps, Lv (fun _ => True) (Few S) d q.2
  | (n, t) :: r, h, q, hq => by
    rcases List.mem_cons.mp hq with z | z
    · rw [z]
      exact h.1.imp (fun _ _ => trivial) (fun _ z => z)
    · exact PN.all h.2 q z
theorem PN.names {S : List Int} {d : Nat} : ∀ {ps : List (Str × Tm)}, PN S d ps → ∀ q ∈ ps, Lv (· ∈ ps.map Prod.fst) (Few S) d q.2
  | (n, t) :: r, h, q, hq => by
    rcases List.mem_cons.mp hq with z | z
    · rw [z]
      exact h.1.imp (fun x hx => List.mem_cons_of_mem _ hx) (fun _ z => z)
    · exact (PN.names h.2 q z).imp (fun x hx => List.mem_cons_of_mem _ hx) (fun _ z => z)
theorem PN.of {S : List Int} {d : Nat} : ∀ {ps : List (Str × Tm)}, (∀ k q, ps[k]? = some q → Lv (· ∈ (ps.map Prod.fst).drop (k + 1)) (Few S) d q.2) → PN S d ps
  | [], _ => trivial
  | (n, t) :: r, h => ⟨h 0 (n, t) rfl, PN.of fun k q e => h (k + 1) q e⟩
theorem cut_drop {xs : List V} {i : Nat} (h : i + 1 ≤ xs.length) : cutV xs (some ((i : Int) + 1)) none = xs.drop (i + 1) := by
  have z := cut_from xs (i + 1)
  rw [Int.natCast_add] at z
  exact z
theorem dp_strs {K : PySem.W.Frag} {H : Hp} : ∀ ns : List Str, DpAll K H (ns.map V.str) (ns.map PyData.str)
  | [] => .nil
  | n :: ns => .cons (.str n) (dp_strs ns)
theorem KT.upd {H : Hp} {L : Addr} {xs ys : List V} (e : H L = some (.lst xs)) : KT H (upd H L (.lst ys)) := by
  rintro a vs ⟨o, h, hd⟩
  refine ⟨o, ?_, hd⟩
  rw [upd_ne]
  · exact h
  · rintro rfl
    rw [e] at h
    cases h
theorem most_at {l e j : Int} (l0 : 0 ≤ l) (l1 : l < 13) (e0 : 0 ≤ e) (e1 : e < 3) (j0 : 0 ≤ j) (j1 : j < 4) : ∃ m : Option Int, atI [V.non, .int l, .int (l + 1), .int (l + e)] j = some (mostV m) ∧ ∀ k, m = some k → 0 ≤ k ∧ k ≤ 100 := by
  obtain h | h | h | h : j = 0 ∨ j = 1 ∨ j = 2 ∨ j = 3 := by omega
  · subst h
    exact ⟨none, rfl, fun k z => nomatch z⟩
  · subst h
    exact ⟨some l, rfl, fun k z => by cases z; omega⟩
  · subst h
    exact ⟨some (l + 1), rfl, fun k z => by cases z; omega⟩
  · subst h
    exact ⟨some (l + e), rfl, fun k z => by cases z; omega⟩
theorem few_at {j : Int} (j0 : 0 ≤ j) (j1 : j < 4) : ∃ m : Int, atI [V.int 1, .int 1, .int 2, .int 3] j = some (.int m) ∧ 0 ≤ m ∧ m ≤ 3 := by
  obtain h | h | h | h : j = 0 ∨ j = 1 ∨ j = 2 ∨ j = 3 := by omega
  · subst h
    exact ⟨1, rfl, by decide, by decide⟩
  · subst h
    exact ⟨1, rfl, by decide, by decide⟩
  · subst h
    exact ⟨2, rfl, by decide, by decide⟩
  · subst h
    exact ⟨3, rfl, by decide, by decide⟩
/-! terms as things -/
def mostT : Option Int → G
  | none => .non
  | some k => .int k
mutual
def gT : Tm → G
  | .ask rs => .tup [.str "ask", .tup (rs.map G.int)]
  | .rest => .tup [.str "rest"]
  | .thn ts => .tup [.str "then", .tup (gTs ts)]
  | .frk ts => .tup [.str "fork", .tup (gTs ts)]
  | .rnd l m t => .tup [.str "round", .int l, mostT m, gT t]
  | .call n => .tup [.str "call", .str n]
def gTs : List Tm → List G
  | [] => []
  | t :: ts => gT t :: gTs ts
end
theorem most_tg {p : Addr} {H : Hp} : ∀ m : Option Int, Tg p H (mostV m) (mostT m)
  | none => .non
  | some k => .int k
mutual
theorem TmAt.tg {p : Addr} {H : Hp} : ∀ {v : V} {t : Tm}, TmAt H v t → Tg p H v (gT t)
  | _, _, .ask e r => .tup (.inl e) (.cons (.str _) (.cons (.tup (.inl r) (TgL.ints _)) .nil))
  | _, _, .rest e => .tup (.inl e) (.cons (.str _) .nil)
  | _, _, .thn e r t => .tup (.inl e) (.cons (.str _) (.cons (.tup (.inl r) (TmL.tg t)) .nil))
  | _, _, .frk e r t => .tup (.inl e) (.cons (.str _) (.cons (.tup (.inl r) (TmL.tg t)) .nil))
  | _, _, .rnd e r => .tup (.inl e) (.cons (.str _) (.cons (.int _) (.cons (most_tg _) (.cons (TmAt.tg r) .nil))))
  | _, _, .call e => .tup (.inl e) (.cons (.str _) (.cons (.str _) .nil))
theorem TmL.tg {p : Addr} {H : Hp} : ∀ {vs : List V} {ts : List Tm}, TmL H vs ts → TgL p H vs (gTs ts)
  | _, _, .nil => .nil
  | _, _, .cons h r => .cons (TmAt.tg h) (TmL.tg r)
end
theorem gTs_map : ∀ ts : List Tm, gTs ts = ts.map gT
  | [] => rfl
  | t :: ts => by
    show gT t :: gTs ts = gT t :: ts.map gT
    rw [gTs_map ts]
def wdT : Nat → Nat
  | 0 => 0
  | d + 1 => 130 + 3 * wdT d
theorem tm_nc {C : Str → Prop} {S : List Int} (hC : ∀ n, C n → n.cps.size ≤ 6 ∧ ∀ c ∈ n.cps.toList, c < 1000) (hS : ∀ k ∈ S, 0 ≤ k ∧ k < 100) : ∀ (d : Nat) (t : Tm), Lv C (Few S) d t → Nc (gT t) (2 * d) (wdT d)
  | 0, _, hl => hl.elim
  | d + 1, .ask rs, hl => by
    have z := NcL.ints rs fun k hk => by
      have := hS k (hl.2 k hk)
      omega
    have h3 := hl.1
    exact (Nc.tup (NcL.cons (n := 1) ((Nc.str (s := "ask") (m := 3)).up (by decide) (Nat.le_refl _)) (NcL.cons (Nc.tup z) NcL.nil))).up (by omega) (by show _ ≤ 130 + 3 * wdT d; omega)
  | d + 1, .rest, hl => (Nc.tup (NcL.cons (n := 0) (Nc.str (s := "rest") (m := 4)) NcL.nil)).up (by omega) (by show _ ≤ 130 + 3 * wdT d; omega)
  | d + 1, .call nm, hl => by
    obtain ⟨h1, h2⟩ := hC nm hl
    exact (Nc.tup (NcL.cons (n := 0) (Nc.str (s := "call") (m := 4)) (NcL.cons (Nc.str h1 h2) NcL.nil))).up (by omega) (by show _ ≤ 130 + 3 * wdT d; omega)
  | d + 1, .rnd l m t, hl => by
    have hm : Nc (mostT m) 0 40 := by
      cases m with
      | none => exact Nc.none.up (by decide) (by decide)
      | some k =>
        have := hl.1.2.2 k rfl
        exact Nc.int (by omega) (by omega)
    have h0 := hl.1.1
    have h1 := hl.1.2.1
    have zt := tm_nc hC hS d t hl.2
    exact (Nc.tup (NcL.cons (n := 2 * d) ((Nc.str (s := "round") (m := 5)).up (Nat.zero_le _) (Nat.le_refl _)) (NcL.cons ((Nc.int (i := l) (by omega) (by omega)).up (Nat.zero_le _) (Nat.le_refl _)) (NcL.cons (hm.up (Nat.zero_le _) (Nat.le_refl _)) (NcL.cons zt NcL.nil))))).up (by omega) (by show _ ≤ 130 + 3 * wdT d; omega)
  | d + 1, .thn ts, hl => by
    have z := NcL.all (gs := gTs ts) (n := 2 * d) (m := wdT d) fun g hg => by
      rw [gTs_map] at hg
      obtain ⟨t, ht, rfl⟩ := List.mem_map.mp hg
      exact tm_nc hC hS d t (hl.2 t ht)
    rw [gTs_map, List.length_map] at z
    have h3 : (wdT d + 1) * ts.length ≤ (wdT d + 1) * 3 := Nat.mul_le_mul_left _ hl.1
    have e : gT (.thn ts) = .tup [.str "then", .tup (ts.map gT)] := by
      rw [← gTs_map]
      rfl
    rw [e]
    exact (Nc.tup (NcL.cons (n := 2 * d + 1) ((Nc.str (s := "then") (m := 4)).up (Nat.zero_le _) (Nat.le_refl _)) (NcL.cons (Nc.tup z) NcL.nil))).up (by omega) (by show _ ≤ 130 + 3 * wdT d; omega)
  | d + 1, .frk ts, hl => by
    have z := NcL.all (gs := gTs ts) (n := 2 * d) (m := wdT d) fun g hg => by
      rw [gTs_map] at hg
      obtain ⟨t, ht, rfl⟩ := List.mem_map.mp hg
      exact tm_nc hC hS d t (hl.2 t ht)
    rw [gTs_map, List.length_map] at z
    have h3 : (wdT d + 1) * ts.length ≤ (wdT d + 1) * 3 := Nat.mul_le_mul_left _ hl.1
    have e : gT (.frk ts) = .tup [.str "fork", .tup (ts.map gT)] := by
      rw [← gTs_map]
      rfl
    rw [e]
    exact (Nc.tup (NcL.cons (n := 2 * d + 1) ((Nc.str (s := "fork") (m := 4)).up (Nat.zero_le _) (Nat.le_refl _)) (NcL.cons (Nc.tup z) NcL.nil))).up (by omega) (by show _ ≤ 130 + 3 * wdT d; omega)
end Su
/-! ### PG: how a thing of any kind is looked at as a program -/
namespace Su
open PySem PySem.Spec PyProof.Rows L2
structure GbP (mg : Str → Option Value) : Prop where
  lett : ∃ t, mg "SMALL_LETTERS" = some (.str lett t)
  long : ∃ t, mg "LONGEST_NAME" = some (.int 6 t)
  tup : ∃ t, mg "MOST_TUPLES" = some (.int 8 t)
  deep : ∃ t, mg "DEEPEST" = some (.int 6 t)
  rnd : ∃ t, mg "MOST_ROUNDS" = some (.int 12 t)
def inLett (c : Nat) : Bool := decide (c ∈ lett.cps.toList)
def letG (most : Int) : G → Bool
  | .str s => (decide (1 ≤ (s.length : Int)) && decide ((s.length : Int) ≤ most)) && (s.cps.toList.map inLett).all id
  | _ => false
def mostG (i : Int) : G → Bool
  | .non => true
  | .int k => decide (i ≤ k) && decide (k ≤ 12)
  | _ => false
def timesG (l m : G) : Bool := inG 13 l && mostG (valI l) m
def termsG (f : G → Bool) (lo hi : Int) : G → Bool
  | .tup gs => (decide (lo ≤ (gs.length : Int)) && decide ((gs.length : Int) ≤ hi)) && (gs.map f).all id
  | _ => false
def lastG (f : G → Bool) (x : Str) (y : G) : Bool := if x = "ask" then roomsG 1 6 y else if x = "then" then termsG f 1 8 y else if x = "fork" then termsG f 2 6 y else (decide (x = "call") && letG 6 y)
def roundG (f : G → Bool) : List G → Bool
  | [l, m, t] => timesG l m && f t
  | _ => false
def oneG (f : G → Bool) (x : Str) : List G → Bool
  | [y] => lastG f x y
  | _ => false
def termG : Nat → G → Bool
  | 0, _ => false
  | d + 1, .tup (.str x :: r) => if x = "rest" then r.isEmpty else if x = "round" then roundG (termG d) r else oneG (termG d) x r
  | _ + 1, _ => false
def namedG : G → Bool
  | .tup [x, y] => letG 6 x && termG 6 y
  | _ => false
def spLetters : Sp := fun vs H Q _ => ∃ (p : Addr) (v : V) (g : G) (most : Int), vs = [v, .int most] ∧ Tg p H v g ∧ most ≤ 1000 ∧ okS g = true ∧ ∀ H', Same H H' → Q (.bl (letG most g)) H'
def spName : Sp := fun vs H Q _ => ∃ (p : Addr) (v : V) (g : G), vs = [v] ∧ Tg p H v g ∧ okS g = true ∧ ∀ H', Same H H' → Q (.bl (letG 6 g)) H'
def spTimes : Sp := fun vs H Q _ => ∃ (p : Addr) (v u : V) (g k : G), vs = [v, u] ∧ Tg p H v g ∧ Tg p H u k ∧ Q (.bl (timesG g k)) H
def spTerms (d : Nat) : Sp := fun vs H Q _ => ∃ (p : Addr) (v : V) (g : G) (lo hi : Int), vs = [v, .int lo, .int hi, .int d] ∧ Tg p H v g ∧ okS g = true ∧ hi ≤ 1000 ∧ ∀ H', Same H H' → Q (.bl (termsG (termG d) lo hi g)) H'
def spIsTerm (d : Nat) : Sp := fun vs H Q _ => ∃ (p : Addr) (v : V) (g : G), vs = [v, .int d] ∧ Tg p H v g ∧ okS g = true ∧ ∀ H', Same H H' → Q (.bl (termG d g)) H'
def spNamed : Sp := fun vs H Q _ => ∃ (p : Addr) (v : V) (g : G), vs = [v] ∧ Tg p H v g ∧ okS g = true ∧ ∀ H', Same H H' → Q (.bl (namedG g)) H'
theorem sc_are_letters : FnScope ["thing", "most", "sign"] ["thing", "most"] (defScope s_are_letters) := ⟨rfl, rfl, rfl, by decide +kernel, rfl, by decide +kernel, by decide +kernel⟩
theorem sc_is_name : FnScope ["thing"] ["thing"] (defScope s_is_name) := ⟨rfl, rfl, rfl, by decide +kernel, rfl, by decide +kernel, by decide +kernel⟩
theorem sc_are_times : FnScope ["least", "most"] ["least", "most"] (defScope s_are_times) := ⟨rfl, rfl, rfl, by decide +kernel, rfl, by decide +kernel, by decide +kernel⟩
theorem sc_are_terms : FnScope ["thing", "least", "most", "deep", "one"] ["thing", "least", "most", "deep"] (defScope s_are_terms) := ⟨rfl, rfl, rfl, by decide +kernel, rfl, by decide +kernel, by decide +kernel⟩
theorem sc_is_term : FnScope ["thing", "deep", "word"] ["thing", "deep"] (defScope s_is_term) := ⟨rfl, rfl, rfl, by decide +kernel, rfl, by decide +kernel, by decide +kernel⟩
theorem sc_is_named_term : FnScope ["thing"] ["thing"] (defScope s_is_named_term) := ⟨rfl, rfl, rfl, by decide +kernel, rfl, by decide +kernel, by decide +kernel⟩
section
variable {P : Program} {w : World} {K : PySem.W.Frag} {mg : Str → Option Value} {base : Heap}
theorem ok_letters (T : At K mg "are_letters" s_are_letters ["thing", "most"]) (B : Bt mg) (D : GbP mg) : Cal P w K mg base 1 "are_letters" ["thing", "most"] spLetters := by
  obtain ⟨tl, mLett⟩ := D.lett
  refine cal_of T sc_are_letters (fun vs H Q E h => ?_) (fun f cdv A outer s H vs Q E hr h => ?_)
  · obtain ⟨p, v, g, most, rfl, _⟩ := h
    rfl
  · obtain ⟨p, v, g, most, rfl, hv, hm, hs, q⟩ := h
    refine ⟨_, (pss_cons (ps_if (PW.pt (pw_or (pt_not (pt_val (pe_callB call_isi (by rfl) B.isinstance (by decide +kernel) (pa_cons (pv 0) (pa_cons (pe_bltn (v := .ty "str") (u := .type "str") (by rfl) B.str (by decide +kernel) rfl) pa_nil))))) (pw_or1 (pt_not (pt_chain op_le op_le pe_int (pe_callB call_len_str (by rfl) B.len PySem.boot_len (pa_cons (pv 0) pa_nil)) (pv 1)))))) (pss_one (ps_ret pe_bl)) pss_nil)
      (pss_one (ps_ret (pe_callB (cr_all rfl) (by rfl) B.all (by decide +kernel) (pa_cons (pe_lc (own := [("sign", 2)]) (g := (gName 2)) (tt := tYes) (te := (tOp rSign (tVar 2) (tC (.str lett)))) (by rfl) sc_are_letters.nd (pi_str (pv 0)) (blkOk_by (own := [("sign", 2)]) (N := ["thing", "most", "sign"]) (sc := defScope s_are_letters) (by decide +kernel)) (fun _ _ _ _ _ => (pg_name (i := 2) sc_are_letters.nd rfl (Or.inl rfl))) (fun _ _ _ _ _ => pts_nil) (fun _ _ _ _ _ => (pe_cmpR op_sign (pv 2) (pe_glob (v := .str lett) rfl mLett ⟨_, rfl⟩) (by rfl)))) pa_nil))))), ?_⟩
    refine ⟨_, rfl, v, .ty "str", _, _, _, rfl, .ty "str", hv.ty, kit_str g, _, rfl, iteB (fun e => ?_) (fun e => ?_)⟩
    · refine iteT ?_
      rw [show false = letG most g from by cases g <;> first | rfl | cases e]
      exact q H (Same.refl H)
    cases hv with
    | str z =>
      have hz : z.length ≤ 1000 := by
        have y : decide (z.length ≤ 1000) = true := hs
        exact of_decide_eq_true y
      have hb : sizeLine = 16777216 := rfl
      have hd : letG most (.str z) = ((decide (1 ≤ (z.length : Int)) && decide ((z.length : Int) ≤ most)) && (z.cps.toList.map inLett).all id) := rfl
      refine ⟨_, rfl, z, rfl, by omega, _, _, rfl, rfl, _, rfl, iteB (fun e1 => ?_) (fun e1 => ?_)⟩
      · refine ⟨_, rfl, _, _, rfl, rfl, _, rfl, iteB (fun e2 => ?_) (fun e2 => ?_)⟩
        · have e3 : decide ((z.length : Int) ≤ most) = false := by simpa using e2
          have z1 : false = letG most (.str z) := by
            rw [hd, e3, Bool.and_false, Bool.false_and]
          rw [z1]
          exact q H (Same.refl H)
        · have e3 : decide ((z.length : Int) ≤ most) = true := by simpa using e2
          rw [e1, e3, Bool.true_and, Bool.true_and] at hd
          refine ⟨_, rfl, z, rfl, fun D nD => ?_⟩
          refine lc_str (x := z) (fun i H2 => Same H H2 ∧ H2 D = some (.lst (((z.cps.toList.map inLett).take i).map V.bl))) ?_ ?_ ?_
          · exact ⟨same_upd nD, upd_same⟩
          · rintro i c H2 hc ⟨s2, hD⟩
            have hi : i < z.cps.toList.length := by
              rw [← Array.getElem?_toList] at hc
              exact (List.getElem?_eq_some_iff.mp hc).1
            refine ⟨rfl, tyes ?_⟩
            refine ⟨_, rfl, c, lett, rfl, rfl, ((z.cps.toList.map inLett).take i).map V.bl, hD, (by rw [List.length_map, List.length_take, List.length_map]; exact small1000 (by have : z.cps.toList.length = z.length := rfl; omega)), ?_⟩
            rw [take_one (x := inLett c) (by rw [List.getElem?_map, Array.getElem?_toList, hc]; rfl), List.map_append]
            refine ⟨fun b o eb => ?_, upd_same⟩
            rw [upd_ne (ne_of_none eb nD)]
            exact s2 _ _ eb
          · rintro H2 ⟨s2, hD⟩
            rw [List.take_of_length_le (by rw [List.length_map]; exact Nat.le_refl _)] at hD
            refine ⟨D, z.cps.toList.map inLett, rfl, SqL.of hD, ?_⟩
            have q3 := q H2 s2
            rw [hd] at q3
            exact q3
      · refine ⟨_, rfl, iteT ?_⟩
        have z1 : false = letG most (.str z) := by
          rw [hd, e1, Bool.false_and, Bool.false_and]
        rw [z1]
        exact q H (Same.refl H)
    | _ => cases e
theorem ok_name (T : At K mg "is_name" s_is_name ["thing"]) (D : GbP mg) (c_are_letters : Cal P w K mg base 1 "are_letters" ["thing", "most"] spLetters) : Cal P w K mg base 2 "is_name" ["thing"] spName := by
  obtain ⟨tl, mLong⟩ := D.long
  refine cal_of T sc_is_name (fun vs H Q E h => ?_) (fun f cdv A outer s H vs Q E hr h => ?_)
  · obtain ⟨p, v, g, rfl, _⟩ := h
    rfl
  · obtain ⟨p, v, g, rfl, hv, hs, q⟩ := h
    refine ⟨_, (pss_one (ps_ret (pe_own c_are_letters hr (by decide) (by rfl) (pa_cons (pv 0) (pa_cons (pe_glob (v := .int 6) rfl mLong ⟨_, rfl⟩) pa_nil))))), ?_⟩
    exact ⟨_, rfl, p, v, g, 6, rfl, hv, by decide, hs, q⟩
theorem ok_times (T : At K mg "are_times" s_are_times ["least", "most"]) (D : GbP mg) (c_is_whole : Cal P w K mg base 1 "is_whole" ["thing"] spWhole) : Cal P w K mg base 2 "are_times" ["least", "most"] spTimes := by
  obtain ⟨tl, mRnd⟩ := D.rnd
  refine cal_of T sc_are_times (fun vs H Q E h => ?_) (fun f cdv A outer s H vs Q E hr h => ?_)
  · obtain ⟨p, v, u, g, k, rfl, _⟩ := h
    rfl
  · obtain ⟨p, v, u, g, k, rfl, hv, hu, q⟩ := h
    refine ⟨_, (pss_cons (ps_if (PW.pt (pw_or (pt_not (pt_val (pe_own c_is_whole hr (by decide) (by rfl) (pa_cons (pv 0) pa_nil)))) (pw_or1 (pt_not (pt_chain op_le op_le pe_int (pv 0) (pe_glob (v := .int 12) rfl mRnd ⟨_, rfl⟩)))))) (pss_one (ps_ret pe_bl)) pss_nil)
      (pss_one (ps_ret (pe_or (pe_cmpR op_isN (pv 1) pe_non (nomark _)) (pe_one (pe_and (pe_own c_is_whole hr (by decide) (by rfl) (pa_cons (pv 1) pa_nil)) (pe_one (pe_chain op_le op_le (pv 0) (pv 1) (pe_glob (v := .int 12) rfl mRnd ⟨_, rfl⟩))))))))), ?_⟩
    refine ⟨_, rfl, p, v, g, rfl, hv, _, rfl, iteB (fun e => ?_) (fun e => ?_)⟩
    · refine iteT ?_
      have z : false = timesG g k := by
        unfold timesG
        rw [show inG 13 g = false from by cases g <;> first | rfl | cases e]
        rfl
      rw [z]
      exact q
    obtain ⟨i, rfl, rfl⟩ := whole_int hv (by simpa using e)
    have hd : timesG (.int i) k = ((decide (0 ≤ i) && decide (i < 13)) && mostG i k) := rfl
    refine ⟨_, rfl, _, _, rfl, rfl, _, rfl, iteB (fun e1 => ?_) (fun e1 => ?_)⟩
    · refine ⟨_, _, rfl, rfl, _, rfl, iteB (fun e2 => ?_) (fun e2 => ?_)⟩
      · have e3 : decide (i < 13) = false := by
          have : ¬ i ≤ 12 := by simpa using e2
          exact decide_eq_false (by omega)
        rw [e1, e3] at hd
        have q2 := q
        rw [hd] at q2
        exact q2
      · have e3 : decide (i < 13) = true := by
          have : i ≤ 12 := by simpa using e2
          exact decide_eq_true (by omega)
        rw [e1, e3, Bool.true_and, Bool.true_and] at hd
        rw [hd] at q
        refine ⟨_, rfl, rfl, _, rfl, iteB (fun e4 => ?_) (fun e4 => ?_)⟩
        · have : u = .non := of_decide_eq_true e4
          subst this
          cases hu
          exact q
        · refine ⟨_, rfl, p, u, k, rfl, hu, _, rfl, iteB (fun e5 => ?_) (fun e5 => ?_)⟩
          · obtain ⟨j, rfl, rfl⟩ := whole_int hu e5
            refine ⟨_, rfl, _, rfl, _, _, rfl, rfl, _, rfl, iteB (fun e6 => ?_) (fun e6 => ?_)⟩
            · refine ⟨_, _, rfl, rfl, ?_⟩
              rw [show mostG i (.int j) = (decide (i ≤ j) && decide (j ≤ 12)) from rfl, e6, Bool.true_and] at q
              exact q
            · rw [show mostG i (.int j) = (decide (i ≤ j) && decide (j ≤ 12)) from rfl, e6, Bool.false_and] at q
              exact q
          · cases hu with
            | non => exact absurd e4 (by decide)
            | int j => cases e5
            | _ => exact q
    · refine ⟨_, rfl, iteT ?_⟩
      rw [e1] at hd
      rw [hd] at q
      exact q
theorem ok_terms (T : At K mg "are_terms" s_are_terms ["thing", "least", "most", "deep"]) (B : Bt mg) {d lv : Nat} (c_is_term : Cal P w K mg base lv "is_term" ["thing", "deep"] (spIsTerm d)) :
    Cal P w K mg base (lv + 1) "are_terms" ["thing", "least", "most", "deep"] (spTerms d) := by
  refine cal_of T sc_are_terms (fun vs H Q E h => ?_) (fun f cdv A outer s H vs Q E hr h => ?_)
  · obtain ⟨p, v, g, lo, hi, rfl, _⟩ := h
    rfl
  · obtain ⟨p, v, g, lo, hi, rfl, hv, hs, hm, q⟩ := h
    refine ⟨_, (pss_cons (ps_if (PW.pt (pw_or (pt_not (pt_val (pe_callB call_isi (by rfl) B.isinstance (by decide +kernel) (pa_cons (pv 0) (pa_cons (pe_bltn (v := .ty "tuple") (u := .type "tuple") (by rfl) B.tuple (by decide +kernel) rfl) pa_nil))))) (pw_or1 (pt_not (pt_chain op_le op_le (pv 1) (pe_callB call_len_seq (by rfl) B.len PySem.boot_len (pa_cons (pv 0) pa_nil)) (pv 2)))))) (pss_one (ps_ret pe_bl)) pss_nil)
      (pss_one (ps_ret (pe_callB (cr_all rfl) (by rfl) B.all (by decide +kernel) (pa_cons (pe_lc (own := [("one", 4)]) (g := (gName 4)) (tt := tYes) (te := (tCall (spIsTerm d) [] E0 (tCons (tVar 4) (tCons (tVar 3) tNil)))) (by rfl) sc_are_terms.nd (pi_tup (pv 0)) (blkOk_by (own := [("one", 4)]) (N := ["thing", "least", "most", "deep", "one"]) (sc := defScope s_are_terms) (by decide +kernel)) (fun _ _ _ _ _ => (pg_name (i := 4) sc_are_terms.nd rfl (Or.inl rfl))) (fun _ _ _ _ _ => pts_nil) (fun _ _ _ _ _ => (pe_own c_is_term hr (Nat.le_refl _) (by rfl) (pa_cons (pv 4) (pa_cons (pv 3) pa_nil))))) pa_nil))))), ?_⟩
    refine ⟨_, rfl, v, .ty "tuple", _, _, _, rfl, .ty "tuple", hv.ty, kit_tuple g, _, rfl, iteB (fun e => ?_) (fun e => ?_)⟩
    · refine iteT ?_
      rw [show false = termsG (termG d) lo hi g from by cases g <;> first | rfl | cases e]
      exact q H (Same.refl H)
    cases hv with
    | @tup a vs gs ha t =>
      have hlen : vs.length = gs.length := t.len
      have hss : okSs gs = true := hs
      have hd : termsG (termG d) lo hi (.tup gs) = ((decide (lo ≤ (gs.length : Int)) && decide ((gs.length : Int) ≤ hi)) && (gs.map (termG d)).all id) := rfl
      refine ⟨_, rfl, _, rfl, a, _, rfl, .inr ha.sq, _, _, rfl, rfl, _, rfl, iteB (fun e1 => ?_) (fun e1 => ?_)⟩
      · refine ⟨_, rfl, _, _, rfl, rfl, _, rfl, ?_⟩
        rw [hlen] at e1 ⊢
        refine iteB (fun e2 => ?_) (fun e2 => ?_)
        · have e3 : decide ((gs.length : Int) ≤ hi) = false := by simpa using e2
          have z : false = termsG (termG d) lo hi (.tup gs) := by
            rw [hd, e3, Bool.and_false, Bool.false_and]
          rw [z]
          exact q H (Same.refl H)
        · have e3 : decide ((gs.length : Int) ≤ hi) = true := by simpa using e2
          have small : gs.length ≤ 1000 := by
            have := of_decide_eq_true e3
            omega
          rw [e1, e3, Bool.true_and, Bool.true_and] at hd
          refine ⟨_, rfl, a, rfl, ⟨_, ha.sq⟩, fun D nD => ?_⟩
          refine lc_tup (K := K) (a := a) (xs := vs) (fun i H2 => Same H H2 ∧ H2 D = some (.lst (((gs.map (termG d)).take i).map V.bl))) ?_ ?_ ?_ ?_
          · exact ⟨same_upd nD, upd_same⟩
          · rintro i H2 _ ⟨s2, _⟩
            exact (ha.same s2).sq
          · rintro i x H2 hx ⟨s2, hD⟩
            obtain ⟨g1, e4, tg⟩ := t.get hx
            have hi : i < gs.length := (List.getElem?_eq_some_iff.mp e4).1
            refine ⟨rfl, tyes ?_⟩
            refine ⟨_, rfl, _, rfl, p, x, g1, rfl, tg.keep (Keeps.same s2), okSs_mem hss (List.mem_of_getElem? e4), fun H3 s3 => ?_⟩
            refine ⟨((gs.map (termG d)).take i).map V.bl, s3 _ _ hD, (by rw [List.length_map, List.length_take, List.length_map]; exact small1000 (by omega)), ?_⟩
            rw [take_one (x := termG d g1) (by rw [List.getElem?_map, e4]; rfl), List.map_append]
            refine ⟨fun c o ec => ?_, upd_same⟩
            rw [upd_ne (ne_of_none ec nD)]
            exact s3 _ _ (s2 _ _ ec)
          · rintro H2 ⟨s2, hD⟩
            rw [List.take_of_length_le (by rw [List.length_map]; omega)] at hD
            refine ⟨D, gs.map (termG d), rfl, SqL.of hD, ?_⟩
            have q3 := q H2 s2
            rw [hd] at q3
            exact q3
      · refine ⟨_, rfl, iteT ?_⟩
        rw [hlen] at e1
        have z : false = termsG (termG d) lo hi (.tup gs) := by
          rw [hd, e1, Bool.false_and, Bool.false_and]
        rw [z]
        exact q H (Same.refl H)
    | _ => cases e
theorem ok_is_term (T : At K mg "is_term" s_is_term ["thing", "deep"]) (T2 : At K mg "are_terms" s_are_terms ["thing", "least", "most", "deep"]) (B : Bt mg) (c_are_times : Cal P w K mg base 2 "are_times" ["least", "most"] spTimes) (c_is_name : Cal P w K mg base 2 "is_name" ["thing"] spName)
    (c_are_rooms : Cal P w K mg base 3 "are_rooms" ["thing", "least", "most"] spRooms) : ∀ d : Nat, Cal P w K mg base (2 * d + 5) "is_term" ["thing", "deep"] (spIsTerm d)
  | 0 => by
    refine cal_of T sc_is_term (fun vs H Q E h => ?_) (fun f cdv A outer s H vs Q E hr h => ?_)
    · obtain ⟨p, v, g, rfl, _⟩ := h
      rfl
    · obtain ⟨p, v, g, rfl, hv, hs, q⟩ := h
      refine ⟨_, (pss_cons (ps_if (PW.pt (pw_or (pt_cmpR op_lt (pv 1) pe_int (nomark _)) (pw_or (pt_not (pt_val (pe_callB call_isi (by rfl) B.isinstance (by decide +kernel) (pa_cons (pv 0) (pa_cons (pe_bltn (v := .ty "tuple") (u := .type "tuple") (by rfl) B.tuple (by decide +kernel) rfl) pa_nil))))) (pw_or (pt_cmpR op_eq (pe_callB call_len_seq (by rfl) B.len PySem.boot_len (pa_cons (pv 0) pa_nil)) pe_int (nomark _)) (pw_or1 (pt_not (pt_val (pe_callB call_isi (by rfl) B.isinstance (by decide +kernel) (pa_cons (pe_ix ix_tup (pv 0) pe_int (fun _ _ => rfl)) (pa_cons (pe_bltn (v := .ty "str") (u := .type "str") (by rfl) B.str (by decide +kernel) rfl) pa_nil)))))))))) (pss_one (ps_ret pe_bl)) pss_nil)
      (pss_cons (ps_set (i := 2) sc_is_term.nd rfl (Or.inl rfl) (pe_ix ix_tup (pv 0) pe_int (fun _ _ => rfl)))
      (pss_cons (ps_if (pt_cmpR op_eq (pv 2) pe_str (nomark _)) (pss_one (ps_ret (pe_cmpR op_eq (pe_callB call_len_seq (by rfl) B.len PySem.boot_len (pa_cons (pv 0) pa_nil)) pe_int (nomark _)))) pss_nil)
      (pss_cons (ps_if (pt_cmpR op_eq (pv 2) pe_str (nomark _)) (pss_one (ps_ret (pe_and (pe_cmpR op_eq (pe_callB call_len_seq (by rfl) B.len PySem.boot_len (pa_cons (pv 0) pa_nil)) pe_int (nomark _)) (pe_and (pe_own c_are_times hr (by decide) (by rfl) (pa_cons (pe_ix ix_tup (pv 0) pe_int (fun _ _ => rfl)) (pa_cons (pe_ix ix_tup (pv 0) pe_int (fun _ _ => rfl)) pa_nil))) (pe_one pe_never))))) pss_nil)
      (pss_cons (ps_if (pt_cmpR op_ne (pe_callB call_len_seq (by rfl) B.len PySem.boot_len (pa_cons (pv 0) pa_nil)) pe_int (nomark _)) (pss_one (ps_ret pe_bl)) pss_nil)
      (pss_cons (ps_if (pt_cmpR op_eq (pv 2) pe_str (nomark _)) (pss_one (ps_ret (pe_own c_are_rooms hr (by decide) (by rfl) (pa_cons (pe_ix ix_tup (pv 0) pe_int (fun _ _ => rfl)) (pa_cons pe_int (pa_cons pe_int pa_nil)))))) pss_nil)
      (pss_cons (ps_if (pt_cmpR op_eq (pv 2) pe_str (nomark _)) (pss_one (ps_ret pe_never)) pss_nil)
      (pss_cons (ps_if (pt_cmpR op_eq (pv 2) pe_str (nomark _)) (pss_one (ps_ret pe_never)) pss_nil)
      (pss_one (ps_ret (pe_and (pe_cmpR op_eq (pv 2) pe_str (nomark _)) (pe_one (pe_own c_is_name hr (by decide) (by rfl) (pa_cons (pe_ix ix_tup (pv 0) pe_int (fun _ _ => rfl)) pa_nil)))))))))))))), ?_⟩
      refine ⟨_, rfl, _, _, rfl, rfl, _, rfl, iteB (fun _ => iteT ?_) (fun z => absurd z (by decide))⟩
      exact q H (Same.refl H)
  | d + 1 => by
    have c_is_term := ok_is_term T T2 B c_are_times c_is_name c_are_rooms d
    have c_are_terms := ok_terms T2 B c_is_term
    refine cal_of T sc_is_term (fun vs H Q E h => ?_) (fun f cdv A outer s H vs Q E hr h => ?_)
    · obtain ⟨p, v, g, rfl, _⟩ := h
      rfl
    · obtain ⟨p, v, g, rfl, hv, hs, q⟩ := h
      refine ⟨_, (pss_cons (ps_if (PW.pt (pw_or (pt_cmpR op_lt (pv 1) pe_int (nomark _)) (pw_or (pt_not (pt_val (pe_callB call_isi (by rfl) B.isinstance (by decide +kernel) (pa_cons (pv 0) (pa_cons (pe_bltn (v := .ty "tuple") (u := .type "tuple") (by rfl) B.tuple (by decide +kernel) rfl) pa_nil))))) (pw_or (pt_cmpR op_eq (pe_callB call_len_seq (by rfl) B.len PySem.boot_len (pa_cons (pv 0) pa_nil)) pe_int (nomark _)) (pw_or1 (pt_not (pt_val (pe_callB call_isi (by rfl) B.isinstance (by decide +kernel) (pa_cons (pe_ix ix_tup (pv 0) pe_int (fun _ _ => rfl)) (pa_cons (pe_bltn (v := .ty "str") (u := .type "str") (by rfl) B.str (by decide +kernel) rfl) pa_nil)))))))))) (pss_one (ps_ret pe_bl)) pss_nil)
      (pss_cons (ps_set (i := 2) sc_is_term.nd rfl (Or.inl rfl) (pe_ix ix_tup (pv 0) pe_int (fun _ _ => rfl)))
      (pss_cons (ps_if (pt_cmpR op_eq (pv 2) pe_str (nomark _)) (pss_one (ps_ret (pe_cmpR op_eq (pe_callB call_len_seq (by rfl) B.len PySem.boot_len (pa_cons (pv 0) pa_nil)) pe_int (nomark _)))) pss_nil)
      (pss_cons (ps_if (pt_cmpR op_eq (pv 2) pe_str (nomark _)) (pss_one (ps_ret (pe_and (pe_cmpR op_eq (pe_callB call_len_seq (by rfl) B.len PySem.boot_len (pa_cons (pv 0) pa_nil)) pe_int (nomark _)) (pe_and (pe_own c_are_times hr (by omega) (by rfl) (pa_cons (pe_ix ix_tup (pv 0) pe_int (fun _ _ => rfl)) (pa_cons (pe_ix ix_tup (pv 0) pe_int (fun _ _ => rfl)) pa_nil))) (pe_one (pe_own c_is_term hr (by omega) (by rfl) (pa_cons (pe_ix ix_tup (pv 0) pe_int (fun _ _ => rfl)) (pa_cons (pe_op op_sub (pv 1) pe_int) pa_nil)))))))) pss_nil)
      (pss_cons (ps_if (pt_cmpR op_ne (pe_callB call_len_seq (by rfl) B.len PySem.boot_len (pa_cons (pv 0) pa_nil)) pe_int (nomark _)) (pss_one (ps_ret pe_bl)) pss_nil)
      (pss_cons (ps_if (pt_cmpR op_eq (pv 2) pe_str (nomark _)) (pss_one (ps_ret (pe_own c_are_rooms hr (by omega) (by rfl) (pa_cons (pe_ix ix_tup (pv 0) pe_int (fun _ _ => rfl)) (pa_cons pe_int (pa_cons pe_int pa_nil)))))) pss_nil)
      (pss_cons (ps_if (pt_cmpR op_eq (pv 2) pe_str (nomark _)) (pss_one (ps_ret (pe_own c_are_terms hr (by omega) (by rfl) (pa_cons (pe_ix ix_tup (pv 0) pe_int (fun _ _ => rfl)) (pa_cons pe_int (pa_cons pe_int (pa_cons (pe_op op_sub (pv 1) pe_int) pa_nil))))))) pss_nil)
      (pss_cons (ps_if (pt_cmpR op_eq (pv 2) pe_str (nomark _)) (pss_one (ps_ret (pe_own c_are_terms hr (by omega) (by rfl) (pa_cons (pe_ix ix_tup (pv 0) pe_int (fun _ _ => rfl)) (pa_cons pe_int (pa_cons pe_int (pa_cons (pe_op op_sub (pv 1) pe_int) pa_nil))))))) pss_nil)
      (pss_one (ps_ret (pe_and (pe_cmpR op_eq (pv 2) pe_str (nomark _)) (pe_one (pe_own c_is_name hr (by omega) (by rfl) (pa_cons (pe_ix ix_tup (pv 0) pe_int (fun _ _ => rfl)) pa_nil)))))))))))))), ?_⟩
      refine ⟨_, rfl, _, _, rfl, rfl, _, rfl, iteB (fun z => absurd (of_decide_eq_true z) (by omega)) (fun _ => ?_)⟩
      refine ⟨_, rfl, v, .ty "tuple", _, _, _, rfl, .ty "tuple", hv.ty, kit_tuple g, _, rfl, iteB (fun e => ?_) (fun e => ?_)⟩
      · refine iteT ?_
        rw [show false = termG (d + 1) g from by cases g <;> first | rfl | cases e]
        exact q H (Same.refl H)
      cases hv with
      | @tup a vs gs ha t =>
        have hlen : vs.length = gs.length := t.len
        have hss : okSs gs = true := hs
        refine ⟨_, rfl, a, _, rfl, .inr ha.sq, rfl, _, rfl, ?_⟩
        cases t with
        | nil => exact iteT (iteT (q H (Same.refl H)))
        | @cons v0 vr g0 r h0 tr =>
          refine iteB (fun z => absurd (of_decide_eq_true z) (by intro y; cases y)) (fun _ => ?_)
          refine ⟨_, rfl, _, _, _, _, rfl, rfl, ha.sq, atI_nat (j := 0) rfl, v0, .ty "str", _, _, _, rfl, .ty "str", h0.ty, kit_str g0, _, rfl, iteB (fun e1 => ?_) (fun e1 => ?_)⟩
          · rw [show false = termG (d + 1) (.tup (g0 :: r)) from by cases g0 <;> first | rfl | cases e1]
            exact q H (Same.refl H)
          cases h0 with
          | str x =>
            have q0 := q H (Same.refl H)
            have hdm : ((d + 1 : Nat) : Int) - 1 = (d : Int) := by omega
            refine ⟨_, rfl, _, _, _, _, rfl, rfl, ha.sq, atI_nat (j := 0) rfl, ?_⟩
            refine ⟨_, rfl, rfl, _, rfl, iteB (fun z => ?_) (fun z => ?_)⟩
            · have ex : x = "rest" := by
                have y := of_decide_eq_true z
                injection y
              have e2 : termG (d + 1) (.tup (.str x :: r)) = r.isEmpty := by
                show (if x = "rest" then r.isEmpty else _) = _
                rw [if_pos ex]
              rw [e2] at q0
              refine ⟨_, rfl, a, _, rfl, .inr ha.sq, rfl, ?_⟩
              cases tr with
              | nil => exact q0
              | @cons v1 v2 g1 g2 h1 t1 =>
                have e3 : decide (V.int ((V.str x :: v1 :: v2).length : Nat) = V.int 1) = false := decide_eq_false (by
                  intro y
                  injection y with y
                  rw [List.length_cons, List.length_cons] at y
                  omega)
                rw [e3]
                exact q0
            have n0 : ¬ x = "rest" := fun y => absurd z (by rw [y]; decide)
            refine ⟨_, rfl, rfl, _, rfl, iteB (fun z1 => ?_) (fun z1 => ?_)⟩
            · have ex : x = "round" := by
                have y := of_decide_eq_true z1
                injection y
              have e2 : termG (d + 1) (.tup (.str x :: r)) = roundG (termG d) r := by
                show (if x = "rest" then _ else if x = "round" then _ else _) = _
                rw [if_neg n0, if_pos ex]
              refine ⟨_, rfl, a, _, rfl, .inr ha.sq, rfl, _, rfl, ?_⟩
              cases tr with
              | nil =>
                rw [e2] at q0
                exact iteF q0
              | @cons v1 vr1 g1 r1 h1 t1 => cases t1 with
                | nil =>
                  rw [e2] at q0
                  exact iteF q0
                | @cons v2 vr2 g2 r2 h2 t2 => cases t2 with
                  | nil =>
                    rw [e2] at q0
                    exact iteF q0
                  | @cons v3 vr3 g3 r3 h3 t3 => cases t3 with
                    | @cons v4 vr4 g4 r4 h4 t4 =>
                      rw [e2] at q0
                      refine iteB (fun y => absurd (of_decide_eq_true y) ?_) (fun _ => q0)
                      intro y
                      injection y with y
                      rw [List.length_cons, List.length_cons, List.length_cons, List.length_cons, List.length_cons] at y
                      omega
                    | nil =>
                      refine iteT ?_
                      refine ⟨_, rfl, _, _, _, _, rfl, rfl, ha.sq, atI_nat (j := 1) rfl, _, rfl, _, _, _, _, rfl, rfl, ha.sq, atI_nat (j := 2) rfl, p, v1, v2, g1, g2, rfl, h1, h2, _, rfl, iteB (fun e5 => ?_) (fun e5 => ?_)⟩
                      · have k3 : okS g3 = true := okSs_mem hss (by simp)
                        refine ⟨_, rfl, _, _, _, _, rfl, rfl, ha.sq, atI_nat (j := 3) rfl, _, rfl, _, _, rfl, rfl, p, v3, g3, (by show [v3, V.int (((d + 1 : Nat) : Int) - 1)] = _; rw [hdm]), h3, k3, fun H1 s1 => ?_⟩
                        have q1 := q H1 s1
                        rw [e2] at q1
                        have e6 : (timesG g1 g2 && termG d g3) = termG d g3 := by rw [e5, Bool.true_and]
                        exact e6 ▸ q1
                      · rw [e2] at q0
                        have e6 : (timesG g1 g2 && termG d g3) = false := by rw [e5, Bool.false_and]
                        exact e6 ▸ q0
            have n1 : ¬ x = "round" := fun y => absurd z1 (by rw [y]; decide)
            have e2 : termG (d + 1) (.tup (.str x :: r)) = oneG (termG d) x r := by
              show (if x = "rest" then _ else if x = "round" then _ else _) = _
              rw [if_neg n0, if_neg n1]
            refine ⟨_, rfl, a, _, rfl, .inr ha.sq, rfl, _, rfl, ?_⟩
            cases tr with
            | nil =>
              rw [e2] at q0
              exact iteT q0
            | @cons v1 vr1 g1 r1 h1 t1 => cases t1 with
              | @cons v2 vr2 g2 r2 h2 t2 =>
                rw [e2] at q0
                refine iteB (fun _ => q0) (fun y => ?_)
                simp at y
                omega
              | nil =>
                refine iteNS rfl ?_
                have k1 : okS g1 = true := okSs_mem hss (by simp)
                have e3 : termG (d + 1) (.tup [.str x, g1]) = lastG (termG d) x g1 := e2
                unfold lastG at e3
                refine ⟨_, rfl, rfl, _, rfl, iteB (fun z2 => ?_) (fun z2 => ?_)⟩
                · have ex : x = "ask" := by
                    have y := of_decide_eq_true z2
                    injection y
                  rw [if_pos ex] at e3
                  refine ⟨_, rfl, _, _, _, _, rfl, rfl, ha.sq, atI_nat (j := 1) rfl, p, v1, g1, 1, 6, rfl, h1, by decide, fun H1 s1 => ?_⟩
                  have q1 := q H1 s1
                  rw [e3] at q1
                  exact q1
                rw [if_neg (fun y => absurd z2 (by rw [y]; decide))] at e3
                refine ⟨_, rfl, rfl, _, rfl, iteB (fun z3 => ?_) (fun z3 => ?_)⟩
                · have ex : x = "then" := by
                    have y := of_decide_eq_true z3
                    injection y
                  rw [if_pos ex] at e3
                  refine ⟨_, rfl, _, _, _, _, rfl, rfl, ha.sq, atI_nat (j := 1) rfl, _, rfl, _, _, rfl, rfl, p, v1, g1, 1, 8, (by show [v1, V.int 1, V.int 8, V.int (((d + 1 : Nat) : Int) - 1)] = _; rw [hdm]), h1, k1, by decide, fun H1 s1 => ?_⟩
                  have q1 := q H1 s1
                  rw [e3] at q1
                  exact q1
                rw [if_neg (fun y => absurd z3 (by rw [y]; decide))] at e3
                refine ⟨_, rfl, rfl, _, rfl, iteB (fun z4 => ?_) (fun z4 => ?_)⟩
                · have ex : x = "fork" := by
                    have y := of_decide_eq_true z4
                    injection y
                  rw [if_pos ex] at e3
                  refine ⟨_, rfl, _, _, _, _, rfl, rfl, ha.sq, atI_nat (j := 1) rfl, _, rfl, _, _, rfl, rfl, p, v1, g1, 2, 6, (by show [v1, V.int 2, V.int 6, V.int (((d + 1 : Nat) : Int) - 1)] = _; rw [hdm]), h1, k1, by decide, fun H1 s1 => ?_⟩
                  have q1 := q H1 s1
                  rw [e3] at q1
                  exact q1
                rw [if_neg (fun y => absurd z4 (by rw [y]; decide))] at e3
                refine ⟨_, rfl, rfl, _, rfl, iteB (fun z5 => ?_) (fun z5 => ?_)⟩
                · have ex : x = "call" := by
                    have y := of_decide_eq_true z5
                    injection y
                  rw [decide_eq_true ex, Bool.true_and] at e3
                  refine ⟨_, rfl, _, _, _, _, rfl, rfl, ha.sq, atI_nat (j := 1) rfl, p, v1, g1, rfl, h1, k1, fun H1 s1 => ?_⟩
                  have q1 := q H1 s1
                  rw [e3] at q1
                  exact q1
                · rw [decide_eq_false (fun y => absurd z5 (by rw [y]; decide)), Bool.false_and] at e3
                  rw [e3] at q0
                  exact q0
          | _ => cases e1
      | _ => cases e
theorem ok_named (T : At K mg "is_named_term" s_is_named_term ["thing"]) (B : Bt mg) (D : GbP mg) (c_is_name : Cal P w K mg base 2 "is_name" ["thing"] spName) (c_is_term : Cal P w K mg base 17 "is_term" ["thing", "deep"] (spIsTerm 6)) :
    Cal P w K mg base 18 "is_named_term" ["thing"] spNamed := by
  obtain ⟨tl, mDeep⟩ := D.deep
  refine cal_of T sc_is_named_term (fun vs H Q E h => ?_) (fun f cdv A outer s H vs Q E hr h => ?_)
  · obtain ⟨p, v, g, rfl, _⟩ := h
    rfl
  · obtain ⟨p, v, g, rfl, hv, hs, q⟩ := h
    refine ⟨_, (pss_cons (ps_if (PW.pt (pw_or (pt_not (pt_val (pe_callB call_isi (by rfl) B.isinstance (by decide +kernel) (pa_cons (pv 0) (pa_cons (pe_bltn (v := .ty "tuple") (u := .type "tuple") (by rfl) B.tuple (by decide +kernel) rfl) pa_nil))))) (pw_or1 (pt_cmpR op_ne (pe_callB call_len_seq (by rfl) B.len PySem.boot_len (pa_cons (pv 0) pa_nil)) pe_int (nomark _))))) (pss_one (ps_ret pe_bl)) pss_nil)
      (pss_one (ps_ret (pe_and (pe_own c_is_name hr (by decide) (by rfl) (pa_cons (pe_ix ix_tup (pv 0) pe_int (fun _ _ => rfl)) pa_nil)) (pe_one (pe_own c_is_term hr (by decide) (by rfl) (pa_cons (pe_ix ix_tup (pv 0) pe_int (fun _ _ => rfl)) (pa_cons (pe_glob (v := .int 6) rfl mDeep ⟨_, rfl⟩) pa_nil)))))))), ?_⟩
    refine ⟨_, rfl, v, .ty "tuple", _, _, _, rfl, .ty "tuple", hv.ty, kit_tuple g, _, rfl, iteB (fun e => ?_) (fun e => ?_)⟩
    · refine iteT ?_
      rw [show false = namedG g from by cases g <;> first | rfl | cases e]
      exact q H (Same.refl H)
    cases hv with
    | @tup a vs gs ha t =>
      have hss : okSs gs = true := hs
      have q0 := q H (Same.refl H)
      refine ⟨_, rfl, a, _, rfl, .inr ha.sq, rfl, _, rfl, ?_⟩
      cases t with
      | nil => exact iteT q0
      | @cons v1 vr1 g1 r1 h1 t1 => cases t1 with
        | nil => exact iteT q0
        | @cons v2 vr2 g2 r2 h2 t2 => cases t2 with
          | @cons v3 vr3 g3 r3 h3 t3 =>
            refine iteB (fun _ => q0) (fun y => ?_)
            simp at y
            omega
          | nil =>
            refine iteNS rfl ?_
            have e3 : namedG (.tup [g1, g2]) = (letG 6 g1 && termG 6 g2) := rfl
            refine ⟨_, rfl, _, _, _, _, rfl, rfl, ha.sq, atI_nat (j := 0) rfl, p, v1, g1, rfl, h1, okSs_mem hss (by simp), fun H1 s1 => ⟨_, rfl, iteB (fun e5 => ?_) (fun e5 => ?_)⟩⟩
            · refine ⟨_, rfl, _, _, _, _, rfl, rfl, (ha.same s1).sq, atI_nat (j := 1) rfl, p, v2, g2, rfl, h2.keep (Keeps.same s1), okSs_mem hss (by simp), fun H2 s2 => ?_⟩
              have q1 := q H2 (s1.trans s2)
              rw [e3, e5, Bool.true_and] at q1
              exact q1
            · have q1 := q H1 s1
              rw [e3, e5, Bool.false_and] at q1
              exact q1
    | _ => cases e
end
end Su
/-! ### PH: the names that a term calls; how a thing of any kind is looked at as a program -/
namespace Su
open PySem PySem.Spec PyProof.Rows L2
def itemsG : G → List G
  | .tup gs => gs
  | _ => []
def subsR (x : Str) : List G → List G
  | [y] => if x = "then" ∨ x = "fork" then itemsG y else []
  | [_, _, t] => if x = "round" then [t] else []
  | _ => []
def subsG : G → List G
  | .tup (.str x :: r) => subsR x r
  | _ => []
def strOf : List G → Option Str
  | [.str s] => some s
  | _ => none
def callOf : G → Option Str
  | .tup (.str x :: r) => if x = "call" then strOf r else none
  | _ => none
def callsG (ns : List Str) : Nat → G → Bool
  | 0, _ => true
  | d + 1, g => match callOf g with
    | some s => decide (s ∈ ns)
    | none => ((subsG g).map (callsG ns d)).all id
/-- the kinds of terms -/
inductive TK (d : Nat) : G → Prop
  | rest : TK d (.tup [.str "rest"])
  | round {l m t : G} (h : timesG l m = true) (k : termG d t = true) : TK d (.tup [.str "round", l, m, t])
  | ask {y : G} (h : roomsG 1 6 y = true) : TK d (.tup [.str "ask", y])
  | thn {gs : List G} (h1 : 1 ≤ gs.length) (h2 : gs.length ≤ 8) (k : ∀ g ∈ gs, termG d g = true) : TK d (.tup [.str "then", .tup gs])
  | frk {gs : List G} (h1 : 2 ≤ gs.length) (h2 : gs.length ≤ 6) (k : ∀ g ∈ gs, termG d g = true) : TK d (.tup [.str "fork", .tup gs])
  | call {s : Str} (h : letG 6 (.str s) = true) : TK d (.tup [.str "call", .str s])
theorem letG_str {m : Int} {g : G} (h : letG m g = true) : ∃ s, g = .str s := by
  cases g with
  | str s => exact ⟨s, rfl⟩
  | _ => cases h
theorem termsG_tup {f : G → Bool} {lo hi : Int} {g : G} (h : termsG f lo hi g = true) : ∃ gs, g = .tup gs ∧ lo ≤ (gs.length : Int) ∧ (gs.length : Int) ≤ hi ∧ ∀ x ∈ gs, f x = true := by
  cases g with
  | tup gs =>
    have z : ((decide (lo ≤ (gs.length : Int)) && decide ((gs.length : Int) ≤ hi)) && (gs.map f).all id) = true := h
    rw [Bool.and_eq_true, Bool.and_eq_true, decide_eq_true_eq, decide_eq_true_eq] at z
    exact ⟨gs, rfl, z.1.1, z.1.2, fun x hx => (List.all_eq_true.mp z.2) _ (List.mem_map.mpr ⟨x, hx, rfl⟩)⟩
  | _ => cases h
theorem termG_kind {d : Nat} {g : G} (h : termG (d + 1) g = true) : TK d g := by
  cases g with
  | tup l =>
    cases l with
    | nil => cases h
    | cons g0 r =>
      cases g0 with
      | str x =>
        have z : (if x = "rest" then r.isEmpty else if x = "round" then roundG (termG d) r else oneG (termG d) x r) = true := h
        by_cases e0 : x = "rest"
        · rw [if_pos e0] at z
          subst e0
          cases r with
          | nil => exact .rest
          | cons _ _ => cases z
        rw [if_neg e0] at z
        by_cases e1 : x = "round"
        · rw [if_pos e1] at z
          subst e1
          unfold roundG at z
          split at z
          · rw [Bool.and_eq_true] at z
            exact .round z.1 z.2
          · cases z
        rw [if_neg e1] at z
        unfold oneG at z
        split at z
        · unfold lastG at z
          by_cases e2 : x = "ask"
          · rw [if_pos e2] at z
            subst e2
            exact .ask z
          rw [if_neg e2] at z
          by_cases e3 : x = "then"
          · rw [if_pos e3] at z
            subst e3
            obtain ⟨gs, rfl, h1, h2, h3⟩ := termsG_tup z
            exact .thn (by omega) (by omega) h3
          rw [if_neg e3] at z
          by_cases e4 : x = "fork"
          · rw [if_pos e4] at z
            subst e4
            obtain ⟨gs, rfl, h1, h2, h3⟩ := termsG_tup z
            exact .frk (by omega) (by omega) h3
          rw [if_neg e4, Bool.and_eq_true, decide_eq_true_eq] at z
          obtain ⟨e5, z⟩ := z
          subst e5
          obtain ⟨s, rfl⟩ := letG_str z
          exact .call z
        · cases z
      | _ => cases h
  | _ => cases h
theorem subs_rest : subsG (.tup [.str "rest"]) = [] := rfl
theorem subs_round (l m t : G) : subsG (.tup [.str "round", l, m, t]) = [t] := (if_pos rfl : (if ("round" : Str) = "round" then [t] else []) = [t])
theorem subs_then (gs : List G) : subsG (.tup [.str "then", .tup gs]) = gs := (if_pos (.inl rfl) : (if ("then" : Str) = "then" ∨ ("then" : Str) = "fork" then itemsG (.tup gs) else []) = itemsG (.tup gs))
theorem subs_fork (gs : List G) : subsG (.tup [.str "fork", .tup gs]) = gs := (if_pos (.inr rfl) : (if ("fork" : Str) = "then" ∨ ("fork" : Str) = "fork" then itemsG (.tup gs) else []) = itemsG (.tup gs))
theorem subs_ask (y : G) : subsG (.tup [.str "ask", y]) = [] := (if_neg (by decide +kernel) : (if ("ask" : Str) = "then" ∨ ("ask" : Str) = "fork" then itemsG y else []) = [])
theorem subs_call (y : G) : subsG (.tup [.str "call", y]) = [] := (if_neg (by decide +kernel) : (if ("call" : Str) = "then" ∨ ("call" : Str) = "fork" then itemsG y else []) = [])
theorem call_call (x : Str) : callOf (.tup [.str "call", .str x]) = some x := (if_pos rfl : (if ("call" : Str) = "call" then strOf [.str x] else none) = strOf [.str x])
theorem call_no {x : Str} {r : List G} (h : x ≠ "call") : callOf (.tup (.str x :: r)) = none := if_neg h
theorem termG_subs {d : Nat} {g : G} (h : termG (d + 1) g = true) : (subsG g).length ≤ 8 ∧ ∀ x ∈ subsG g, termG d x = true := by
  cases termG_kind h with
  | round _ k =>
    rw [subs_round]
    refine ⟨by show 1 ≤ 8; decide, fun x hx => ?_⟩
    rw [List.mem_singleton.mp hx]
    exact k
  | thn h1 h2 k =>
    rw [subs_then]
    exact ⟨h2, k⟩
  | frk h1 h2 k =>
    rw [subs_fork]
    exact ⟨by omega, k⟩
  | rest => exact ⟨Nat.zero_le _, fun x hx => (List.not_mem_nil hx).elim⟩
  | ask h =>
    rw [subs_ask]
    exact ⟨Nat.zero_le _, fun x hx => (List.not_mem_nil hx).elim⟩
  | call h =>
    rw [subs_call]
    exact ⟨Nat.zero_le _, fun x hx => (List.not_mem_nil hx).elim⟩
/-- a term in the heap, by what terms_within asks of it -/
theorem within_cases {p : Addr} {H : Hp} {v : V} {g : G} {d : Nat} (hv : Tg p H v g) (ht : termG (d + 1) g = true) :
    (∃ (a : Addr) (x : Str) (vr : List V), v = .ref a ∧ T2 H a (.str x :: vr) ∧ x ≠ "then" ∧ x ≠ "fork" ∧ x ≠ "round" ∧ subsG g = []) ∨
    (∃ (a : Addr) (x : Str) (vb : V) (gs : List G), v = .ref a ∧ T2 H a [.str x, vb] ∧ (x = "then" ∨ x = "fork") ∧ Tg p H vb (.tup gs) ∧ subsG g = gs) ∨
    ∃ (a : Addr) (v1 v2 v3 : V) (t : G), v = .ref a ∧ T2 H a [.str "round", v1, v2, v3] ∧ Tg p H v3 t ∧ subsG g = [t] := by
  cases termG_kind ht with
  | rest => cases hv with
    | @tup a vs _ ha t => cases t with
      | cons h0 t0 => cases h0; exact .inl ⟨a, _, _, rfl, ha, by decide +kernel, by decide +kernel, by decide +kernel, rfl⟩
  | ask h => cases hv with
    | @tup a vs _ ha t => cases t with
      | cons h0 t0 => cases h0; exact .inl ⟨a, _, _, rfl, ha, by decide +kernel, by decide +kernel, by decide +kernel, subs_ask _⟩
  | call h => cases hv with
    | @tup a vs _ ha t => cases t with
      | cons h0 t0 => cases h0; exact .inl ⟨a, _, _, rfl, ha, by decide +kernel, by decide +kernel, by decide +kernel, subs_call _⟩
  | thn h1 h2 k => cases hv with
    | @tup a vs _ ha t => cases t with
      | cons h0 t0 => cases t0 with
        | cons hb t1 => cases t1; cases h0; exact .inr (.inl ⟨a, _, _, _, rfl, ha, .inl rfl, hb, subs_then _⟩)
  | frk h1 h2 k => cases hv with
    | @tup a vs _ ha t => cases t with
      | cons h0 t0 => cases t0 with
        | cons hb t1 => cases t1; cases h0; exact .inr (.inl ⟨a, _, _, _, rfl, ha, .inr rfl, hb, subs_fork _⟩)
  | round h k => cases hv with
    | @tup a vs _ ha t => cases t with
      | cons h0 t0 => cases t0 with
        | cons h1 t1 => cases t1 with
          | cons h2 t2 => cases t2 with
            | cons h3 t3 => cases t3; cases h0; exact .inr (.inr ⟨a, _, _, _, _, rfl, ha, h3, subs_round _ _ _⟩)
theorem calls_cases {p : Addr} {H : Hp} {v : V} {g : G} {d : Nat} (hv : Tg p H v g) (ht : termG (d + 1) g = true) :
    (∃ (a : Addr) (x : Str), v = .ref a ∧ T2 H a [.str "call", .str x] ∧ callOf g = some x) ∨
    ∃ (a : Addr) (x : Str) (vr : List V), v = .ref a ∧ T2 H a (.str x :: vr) ∧ x ≠ "call" ∧ callOf g = none := by
  cases termG_kind ht with
  | call h => cases hv with
    | @tup a vs _ ha t => cases t with
      | cons h0 t0 => cases t0 with
        | cons h1 t1 => cases t1; cases h0; cases h1; exact .inl ⟨a, _, rfl, ha, call_call _⟩
  | rest => cases hv with
    | @tup a vs _ ha t => cases t with
      | cons h0 t0 => cases h0; exact .inr ⟨a, _, _, rfl, ha, by decide +kernel, call_no (by decide +kernel)⟩
  | ask h => cases hv with
    | @tup a vs _ ha t => cases t with
      | cons h0 t0 => cases h0; exact .inr ⟨a, _, _, rfl, ha, by decide +kernel, call_no (by decide +kernel)⟩
  | thn h1 h2 k => cases hv with
    | @tup a vs _ ha t => cases t with
      | cons h0 t0 => cases h0; exact .inr ⟨a, _, _, rfl, ha, by decide +kernel, call_no (by decide +kernel)⟩
  | frk h1 h2 k => cases hv with
    | @tup a vs _ ha t => cases t with
      | cons h0 t0 => cases h0; exact .inr ⟨a, _, _, rfl, ha, by decide +kernel, call_no (by decide +kernel)⟩
  | round h k => cases hv with
    | @tup a vs _ ha t => cases t with
      | cons h0 t0 => cases h0; exact .inr ⟨a, _, _, rfl, ha, by decide +kernel, call_no (by decide +kernel)⟩
def spWithinG : Sp := fun vs H Q _ => ∃ (p : Addr) (v : V) (g : G) (d : Nat), vs = [v] ∧ Tg p H v g ∧ termG (d + 1) g = true ∧ ∀ (u : Addr) (ws : List V) (H' : Hp), Same H H' → T2 H' u ws → TgL p H' ws (subsG g) → Q (.ref u) H'
def spCalls (d : Nat) : Sp := fun vs H Q _ => ∃ (p : Addr) (v : V) (g : G) (n : Addr) (ns : List Str), vs = [v, .ref n] ∧ Tg p H v g ∧ termG d g = true ∧ H n = some (.lst (ns.map V.str)) ∧ ∀ H', Same H H' → Q (.bl (callsG ns d g)) H'
def nmG : G → Option Str
  | .tup [.str s, _] => if letG 6 (.str s) = true then some s else none
  | _ => none
def spBehind : Sp := fun vs H Q _ => ∃ (p : Addr) (a : Addr) (ws : List V) (gs : List G) (i : Nat), vs = [.ref a, .int i] ∧ H a = some (.lst ws) ∧ TgL p H ws gs ∧ okSs gs = true ∧ gs.length ≤ 1000 ∧ i < gs.length ∧
  ∀ (u : Addr) (H' : Hp), Same H H' → H u = none → H' u = some (.lst (((gs.drop (i + 1)).filterMap nmG).map V.str)) → Q (.ref u) H'
theorem inV_str (s : Str) : ∀ ns : List Str, inV (.str s) (ns.map V.str) = decide (s ∈ ns)
  | [] => rfl
  | n :: ns => by
    show (eqV (.str n) (.str s) || inV (.str s) (ns.map V.str)) = _
    rw [inV_str s ns]
    show (n == s || decide (s ∈ ns)) = decide (s ∈ n :: ns)
    rw [Bool.eq_iff_iff, Bool.or_eq_true, decide_eq_true_eq, decide_eq_true_eq, beq_iff_eq, List.mem_cons]
    constructor
    · rintro (rfl | h)
      · exact .inl rfl
      · exact .inr h
    · rintro (rfl | h)
      · exact .inl rfl
      · exact .inr h
theorem flat_strs (ns : List Str) : (ns.map V.str).all flatV = true := by
  rw [List.all_eq_true]
  intro x hx
  obtain ⟨n, _, rfl⟩ := List.mem_map.mp hx
  rfl
theorem sc_terms_within : FnScope ["term"] ["term"] (defScope s_terms_within) := ⟨rfl, rfl, rfl, by decide +kernel, rfl, by decide +kernel, by decide +kernel⟩
theorem sc_calls_only : FnScope ["term", "names", "one"] ["term", "names"] (defScope s_calls_only) := ⟨rfl, rfl, rfl, by decide +kernel, rfl, by decide +kernel, by decide +kernel⟩
theorem sc_names_behind : FnScope ["things", "number", "thing"] ["things", "number"] (defScope s_names_behind) := ⟨rfl, rfl, rfl, by decide +kernel, rfl, by decide +kernel, by decide +kernel⟩
section
variable {P : Program} {w : World} {K : PySem.W.Frag} {mg : Str → Option Value} {base : Heap}
theorem ok_withinG (T : At K mg "terms_within" s_terms_within ["term"]) : Cal P w K mg base 1 "terms_within" ["term"] spWithinG := by
  refine cal_of T sc_terms_within (fun vs H Q E h => ?_) (fun f cdv A outer s H vs Q E hr h => ?_)
  · obtain ⟨p, v, g, d, rfl, _⟩ := h
    rfl
  · obtain ⟨p, v, g, d, rfl, hv, ht, q⟩ := h
    refine ⟨_, (pss_cons (ps_if (pt_cmpR op_in_seq (pe_ix ix_tup (pv 0) pe_int (fun _ _ => rfl)) (pe_tupF (pa_cons pe_str (pa_cons pe_str pa_nil))) (by rfl)) (pss_one (ps_ret (pe_ix ix_tup (pv 0) pe_int (fun _ _ => rfl)))) pss_nil)
      (pss_cons (ps_if (pt_cmpR op_eq (pe_ix ix_tup (pv 0) pe_int (fun _ _ => rfl)) pe_str (nomark _)) (pss_one (ps_ret (pe_tupF (pa_cons (pe_ix ix_tup (pv 0) pe_int (fun _ _ => rfl)) pa_nil)))) pss_nil)
      (pss_one (ps_ret (pe_tupF pa_nil))))), ?_⟩
    rcases within_cases hv ht with ⟨a, x, vr, rfl, ha, n1, n2, n3, es⟩ | ⟨a, x, vb, gs, rfl, ha, hx, hb, es⟩ | ⟨a, v1, v2, v3, t, rfl, ha, h3, es⟩
    · refine ⟨_, rfl, _, _, _, _, rfl, rfl, ha.sq, atI_nat (j := 0) rfl, (by show 2 ≤ sizeLine; decide), fun t1 H1 s1 m1 p1 => ?_⟩
      refine ⟨t1, _, rfl, .inr p1.sq, rfl, rfl, _, rfl, iteB (fun z => ?_) (fun _ => ?_)⟩
      · have z2 : inV (.str x) ([("then" : Str), "fork"].map V.str) = true := z
        rw [inV_str, decide_eq_true_eq] at z2
        rcases List.mem_cons.mp z2 with y | y
        · exact (n1 y).elim
        · exact (n2 (List.mem_singleton.mp y)).elim
      refine ⟨_, rfl, _, _, _, _, rfl, rfl, (ha.same s1).sq, atI_nat (j := 0) rfl, rfl, _, rfl, iteB (fun z => ?_) (fun _ => ?_)⟩
      · have y := of_decide_eq_true z
        injection y with y
        exact (n3 y).elim
      exact ⟨Nat.zero_le _, fun u H2 s2 n2 p2 => q u _ H2 (s1.trans s2) (.inl p2) (by rw [es]; exact .nil)⟩
    · refine ⟨_, rfl, _, _, _, _, rfl, rfl, ha.sq, atI_nat (j := 0) rfl, (by show 2 ≤ sizeLine; decide), fun t1 H1 s1 m1 p1 => ?_⟩
      refine ⟨t1, _, rfl, .inr p1.sq, rfl, rfl, _, rfl, iteB (fun _ => ?_) (fun z => ?_)⟩
      · have hb1 := hb.keep (Keeps.same s1)
        cases hb1 with
        | @tup b ws _ eb tb => exact ⟨_, rfl, _, _, _, _, rfl, rfl, (ha.same s1).sq, atI_nat (j := 1) rfl, q b ws H1 s1 eb (by rw [es]; exact tb)⟩
      · have z2 : inV (.str x) ([("then" : Str), "fork"].map V.str) = false := z
        rw [inV_str, decide_eq_false_iff_not] at z2
        exact (z2 (by rcases hx with y | y <;> simp [y])).elim
    · refine ⟨_, rfl, _, _, _, _, rfl, rfl, ha.sq, atI_nat (j := 0) rfl, (by show 2 ≤ sizeLine; decide), fun t1 H1 s1 m1 p1 => ?_⟩
      refine ⟨t1, _, rfl, .inr p1.sq, rfl, rfl, _, rfl, iteB (fun z => absurd z (by decide +kernel)) (fun _ => ?_)⟩
      refine ⟨_, rfl, _, _, _, _, rfl, rfl, (ha.same s1).sq, atI_nat (j := 0) rfl, rfl, _, rfl, iteB (fun _ => ?_) (fun z => absurd z (by decide +kernel))⟩
      refine ⟨_, rfl, _, _, _, _, rfl, rfl, (ha.same s1).sq, atI_nat (j := 3) rfl, (by show 1 ≤ sizeLine; decide), fun u H2 s2 n2 p2 => ?_⟩
      exact q u _ H2 (s1.trans s2) (.inl p2) (by rw [es]; exact .cons (h3.keep (Keeps.same (s1.trans s2))) .nil)
theorem ok_calls (T : At K mg "calls_only" s_calls_only ["term", "names"]) (B : Bt mg) (c_terms_within : Cal P w K mg base 1 "terms_within" ["term"] spWithinG) : ∀ d : Nat, Cal P w K mg base (d + 2) "calls_only" ["term", "names"] (spCalls d)
  | 0 => by
    refine cal_of T sc_calls_only (fun vs H Q E h => ?_) (fun f cdv A outer s H vs Q E hr h => ?_)
    · obtain ⟨p, v, g, n, ns, rfl, _⟩ := h
      rfl
    · obtain ⟨p, v, g, n, ns, rfl, hv, ht, q⟩ := h
      cases ht
  | d + 1 => by
    have c_calls_only := ok_calls T B c_terms_within d
    refine cal_of T sc_calls_only (fun vs H Q E h => ?_) (fun f cdv A outer s H vs Q E hr h => ?_)
    · obtain ⟨p, v, g, n, ns, rfl, _⟩ := h
      rfl
    · obtain ⟨p, v, g, n, ns, rfl, hv, ht, hn, q⟩ := h
      refine ⟨_, (pss_cons (ps_if (pt_cmpR op_eq (pe_ix ix_tup (pv 0) pe_int (fun _ _ => rfl)) pe_str (nomark _)) (pss_one (ps_ret (pe_cmpR op_in_seq (pe_ix ix_tup (pv 0) pe_int (fun _ _ => rfl)) (pv 1) (by rfl)))) pss_nil)
      (pss_one (ps_ret (pe_callB (cr_all rfl) (by rfl) B.all (by decide +kernel) (pa_cons (pe_lc (own := [("one", 2)]) (g := (gName 2)) (tt := tYes) (te := (tCall (spCalls d) [] E0 (tCons (tVar 2) (tCons (tVar 1) tNil)))) (by rfl) sc_calls_only.nd (pi_tup (pe_own c_terms_within hr (by omega) (by rfl) (pa_cons (pv 0) pa_nil))) (blkOk_by (own := [("one", 2)]) (N := ["term", "names", "one"]) (sc := defScope s_calls_only) (by decide +kernel)) (fun _ _ _ _ _ => (pg_name (i := 2) sc_calls_only.nd rfl (Or.inl rfl))) (fun _ _ _ _ _ => pts_nil) (fun _ _ _ _ _ => (pe_own c_calls_only hr (by omega) (by rfl) (pa_cons (pv 2) (pa_cons (pv 1) pa_nil))))) pa_nil))))), ?_⟩
      obtain ⟨hsl, hst⟩ := termG_subs ht
      rcases calls_cases hv ht with ⟨a, x, rfl, ha, ec⟩ | ⟨a, x, vr, rfl, ha, n1, ec⟩
      · have e2 : callsG ns (d + 1) g = decide (x ∈ ns) := by
          show (match callOf g with | some s => decide (s ∈ ns) | none => ((subsG g).map (callsG ns d)).all id) = _
          rw [ec]
        refine ⟨_, rfl, _, _, _, _, rfl, rfl, ha.sq, atI_nat (j := 0) rfl, rfl, _, rfl, iteB (fun _ => ?_) (fun z => absurd z (by decide +kernel))⟩
        refine ⟨_, rfl, _, _, _, _, rfl, rfl, ha.sq, atI_nat (j := 1) rfl, _, rfl, n, _, rfl, .inl (SqL.of hn), rfl, flat_strs ns, ?_⟩
        have q0 := q H (Same.refl H)
        rw [e2, ← inV_str] at q0
        exact q0
      · have e2 : callsG ns (d + 1) g = ((subsG g).map (callsG ns d)).all id := by
          show (match callOf g with | some s => decide (s ∈ ns) | none => ((subsG g).map (callsG ns d)).all id) = _
          rw [ec]
        rw [e2] at q
        refine ⟨_, rfl, _, _, _, _, rfl, rfl, ha.sq, atI_nat (j := 0) rfl, rfl, _, rfl, iteB (fun z => ?_) (fun _ => ?_)⟩
        · have y := of_decide_eq_true z
          injection y with y
          exact (n1 y).elim
        refine ⟨_, rfl, p, _, g, d, rfl, hv, ht, fun u ws H1 s1 pu tl => ?_⟩
        have hwl : ws.length = (subsG g).length := tl.len
        refine ⟨u, rfl, ⟨_, pu.sq⟩, fun D nD => ?_⟩
        refine lc_tup (K := K) (a := u) (xs := ws) (fun i H2 => Same H1 H2 ∧ H2 D = some (.lst ((((subsG g).map (callsG ns d)).take i).map V.bl))) ?_ ?_ ?_ ?_
        · exact ⟨same_upd nD, upd_same⟩
        · rintro i H2 _ ⟨s2, _⟩
          exact (pu.same s2).sq
        · rintro i x H2 hx ⟨s2, hD⟩
          obtain ⟨t0, et, ht0⟩ := tl.get hx
          refine ⟨rfl, tyes ?_⟩
          refine ⟨_, rfl, _, rfl, p, x, t0, n, ns, rfl, ht0.keep (Keeps.same s2), hst t0 (List.mem_of_getElem? et), s2 _ _ (s1 _ _ hn), fun H3 s3 => ?_⟩
          refine ⟨_, s3 _ _ hD, ?_, ?_, ?_⟩
          · rw [List.length_map, List.length_take, List.length_map]
            exact small1000 (by omega)
          · intro c o ec
            rw [upd_ne (ne_of_none ec nD)]
            exact s3 _ _ (s2 _ _ ec)
          · rw [upd_same, take_one (x := callsG ns d t0) (by rw [List.getElem?_map, et]; rfl), List.map_append]
            rfl
        · rintro H2 ⟨s2, hD⟩
          rw [List.take_of_length_le (by rw [List.length_map]; omega)] at hD
          exact ⟨D, _, rfl, SqL.of hD, q H2 (s1.trans s2)⟩
end
end Su
/-! ### PI: names_behind, look_at_program -/
namespace Su
open PySem PySem.Spec PyProof.Rows L2
theorem nm_some {g : G} {s : Str} (h : nmG g = some s) : ∃ t, g = .tup [.str s, t] ∧ letG 6 (.str s) = true := by
  unfold nmG at h
  split at h
  · split at h
    · next e =>
      cases h
      exact ⟨_, rfl, e⟩
    · cases h
  · cases h
theorem nm_of {s : Str} {t : G} (h : letG 6 (.str s) = true) : nmG (.tup [.str s, t]) = some s := if_pos h
def tmOf : G → G
  | .tup [_, t] => t
  | _ => .non
def namesTo (gs : List G) (i : Nat) : List Str := (gs.take i).filterMap nmG
def namesFrom (gs : List G) (i : Nat) : List Str := (gs.drop (i + 1)).filterMap nmG
def freshG (ahead : List Str) (g : G) : Bool := match nmG g with
  | some s => !decide (s ∈ ahead)
  | none => false
def okOne (gs : List G) (i : Nat) (g : G) : Bool := (namedG g && freshG (namesTo gs i) g) && callsG (namesFrom gs i) 6 (tmOf g)
def okAt (gs : List G) (i : Nat) : Bool := match gs[i]? with
  | some g => okOne gs i g
  | none => true
/-- the first number from i on, among n of them, that is not so -/
def fb (f : Nat → Bool) : Nat → Nat → Option Nat
  | 0, _ => none
  | n + 1, i => if f i = true then fb f n (i + 1) else some i
theorem fb_some {f : Nat → Bool} {k : Nat} : ∀ (n i : Nat), (∀ j, i ≤ j → j < k → f j = true) → i ≤ k → k < i + n → f k = false → fb f n i = some k
  | 0, i, _, h1, h2, _ => absurd h2 (by omega)
  | n + 1, i, h, h1, h2, h3 => by
    unfold fb
    rcases Nat.lt_or_eq_of_le h1 with z | z
    · rw [if_pos (h i (Nat.le_refl _) z)]
      exact fb_some n (i + 1) (fun j a b => h j (by omega) b) (by omega) (by omega) h3
    · subst z
      rw [if_neg (by rw [h3]; exact Bool.false_ne_true)]
theorem fb_none {f : Nat → Bool} : ∀ (n i : Nat), (∀ j, i ≤ j → j < i + n → f j = true) → fb f n i = none
  | 0, i, _ => rfl
  | n + 1, i, h => by
    unfold fb
    rw [if_pos (h i (Nat.le_refl _) (by omega))]
    exact fb_none n (i + 1) fun j a b => h j (by omega) (by omega)
/-- none: a program; some r: it is refused, its number r -/
def lookP : G → Option (Option Nat)
  | .lst gs => if 1 ≤ gs.length ∧ gs.length ≤ 8 then (fb (okAt gs) gs.length 0).map some else some none
  | _ => some none
def numV : Option Nat → V
  | none => .non
  | some i => .int i
def spLookP (C : Addr) : Sp := fun vs H Q E => ∃ (p : Addr) (v : V) (g : G), vs = [v] ∧ Tg p H v g ∧ okS g = true ∧ (lookP g = none → ∀ H', Same H H' → Q .non H') ∧
  ∀ r, lookP g = some r → ∀ (H' : Hp) (d : Addr), Same H H' → H d = none → H' d = some (.xd [("number", numV r)]) → E (.ref C) (some d) H'
theorem fm_take {α β : Type} {f : α → Option β} {l : List α} {i : Nat} {x : α} (e : l[i]? = some x) : (l.take (i + 1)).filterMap f = (l.take i).filterMap f ++ (f x).toList := by
  rw [take_one e, List.filterMap_append]
  cases h : f x <;> simp [h]
theorem cut_dropI {xs : List V} {i : Nat} (h : i + 1 ≤ xs.length) : cutV xs (some ((i : Int) + 1)) none = xs.drop (i + 1) := by
  have z := cut_from xs (i + 1)
  rw [Int.natCast_add] at z
  exact z
theorem named_shape {g : G} (h : namedG g = true) : ∃ s t, g = .tup [.str s, t] ∧ letG 6 (.str s) = true ∧ termG 6 t = true := by
  unfold namedG at h
  split at h
  · rw [Bool.and_eq_true] at h
    obtain ⟨s, rfl⟩ := letG_str h.1
    exact ⟨s, _, rfl, h.1, h.2⟩
  · cases h
theorem TgL.drop {p : Addr} {H : Hp} : ∀ {vs : List V} {gs : List G} (n : Nat), TgL p H vs gs → TgL p H (vs.drop n) (gs.drop n)
  | _, _, 0, h => h
  | _, _, n + 1, .nil => .nil
  | _, _, n + 1, .cons _ t => TgL.drop n t
theorem sc_look_at_program : FnScope ["thing", "ahead", "number", "one"] ["thing"] (defScope s_look_at_program) := ⟨rfl, rfl, rfl, by decide +kernel, rfl, by decide +kernel, by decide +kernel⟩
section
variable {P : Program} {w : World} {K : PySem.W.Frag} {mg : Str → Option Value} {base : Heap}
theorem ok_behind (T : At K mg "names_behind" s_names_behind ["things", "number"]) (B : Bt mg) (c_is_name : Cal P w K mg base 2 "is_name" ["thing"] spName) : Cal P w K mg base 3 "names_behind" ["things", "number"] spBehind := by
  refine cal_of T sc_names_behind (fun vs H Q E h => ?_) (fun f cdv A outer s H vs Q E hr h => ?_)
  · obtain ⟨p, a, ws, gs, i, rfl, _⟩ := h
    rfl
  · obtain ⟨p, a, ws, gs, i, rfl, ha, tl, hs, hl, hi, q⟩ := h
    refine ⟨_, (pss_one (ps_ret (pe_lc (own := [("thing", 2)]) (g := (gName 2)) (tt := (tAnd (tB (tCB (rIsi K) (tCons (tVar 2) (tCons (tC (.ty "tuple")) tNil)))) (tAnd (tTest (tOp rEq (tCB (rLenK K) (tCons (tVar 2) tNil)) (tC (.int 2)))) (tB (tCall spName [] E0 (tCons (tOp (rIxT K) (tVar 2) (tC (.int 0))) tNil)))))) (te := (tOp (rIxT K) (tVar 2) (tC (.int 0)))) (by rfl) sc_names_behind.nd (pi_list (pe_slice sl_list (pv 0) (po_some (pe_op op_add (pv 1) pe_int)) po_none)) (blkOk_by (own := [("thing", 2)]) (N := ["things", "number", "thing"]) (sc := defScope s_names_behind) (by decide +kernel)) (fun _ _ _ _ _ => (pg_name (i := 2) sc_names_behind.nd rfl (Or.inl rfl))) (fun _ _ _ _ _ => pts_one (PW.pt (pw_and (pt_val (pe_callB call_isi (by rfl) B.isinstance (by decide +kernel) (pa_cons (pv 2) (pa_cons (pe_bltn (v := .ty "tuple") (u := .type "tuple") (by rfl) B.tuple (by decide +kernel) rfl) pa_nil)))) (pw_and (pt_cmpR op_eq (pe_callB call_len_seq (by rfl) B.len PySem.boot_len (pa_cons (pv 2) pa_nil)) pe_int (nomark _)) (pw_and1 (pt_val (pe_own c_is_name hr (by decide) (by rfl) (pa_cons (pe_ix ix_tup (pv 2) pe_int (fun _ _ => rfl)) pa_nil)))))))) (fun _ _ _ _ _ => (pe_ix ix_tup (pv 2) pe_int (fun _ _ => rfl)))))), ?_⟩
    have hwl : ws.length = gs.length := tl.len
    refine ⟨_, rfl, _, rfl, _, _, rfl, rfl, _, rfl, a, _, rfl, SqL.of ha, fun L nL => ?_⟩
    rw [cut_dropI (by omega)]
    have sL : Same H (upd H L (.lst (ws.drop (i + 1)))) := same_upd nL
    refine ⟨L, rfl, ⟨_, SqL.of upd_same⟩, fun D nD => ?_⟩
    obtain ⟨eDL, nD0⟩ := free_upd nD
    have td : TgL p H (ws.drop (i + 1)) (gs.drop (i + 1)) := tl.drop _
    refine lc_list (K := K) (a := L) (xs := ws.drop (i + 1)) (fun k H2 => Same H H2 ∧ H2 L = some (.lst (ws.drop (i + 1))) ∧ H2 D = some (.lst ((((gs.drop (i + 1)).take k).filterMap nmG).map V.str))) ?_ ?_ ?_ ?_
    · exact ⟨sL.trans (same_upd nD), by rw [upd_ne eDL.symm, upd_same], upd_same⟩
    · rintro k H2 _ ⟨_, h, _⟩
      exact SqL.of h
    · rintro k x H2 hx ⟨s2, hL, hD⟩
      obtain ⟨g1, e1, tg0⟩ := td.get hx
      have tg := tg0.keep (Keeps.same s2)
      have hk : okS g1 = true := okSs_mem hs (List.mem_of_mem_drop (List.mem_of_getElem? e1))
      have no : ∀ H3, Same H2 H3 → nmG g1 = none → (Same H H3 ∧ H3 L = some (.lst (ws.drop (i + 1))) ∧ H3 D = some (.lst ((((gs.drop (i + 1)).take (k + 1)).filterMap nmG).map V.str))) := by
        intro H3 s3 en
        refine ⟨s2.trans s3, s3 _ _ hL, ?_⟩
        rw [fm_take e1, en]
        show H3 D = some (.lst ((_ ++ []).map V.str))
        rw [List.append_nil]
        exact s3 _ _ hD
      refine ⟨rfl, _, rfl, x, .ty "tuple", _, _, _, rfl, .ty "tuple", tg.ty, kit_tuple g1, _, rfl, iteB (fun e => ?_) (fun e => ?_)⟩
      · cases tg with
        | @tup b vb gb hb tb =>
          refine ⟨_, rfl, b, _, rfl, .inr hb.sq, rfl, _, rfl, ?_⟩
          cases tb with
          | nil => exact iteF (iteF (no H2 (Same.refl _) rfl))
          | @cons v1 vr1 x1 r1 h1 t1 => cases t1 with
            | nil => exact iteF (iteF (no H2 (Same.refl _) (by cases x1 <;> rfl)))
            | @cons v2 vr2 x2 r2 h2 t2 => cases t2 with
              | @cons v3 vr3 x3 r3 h3 t3 =>
                refine iteB (fun y => ?_) (fun _ => iteF (no H2 (Same.refl _) (by cases x1 <;> rfl)))
                have y2 := of_decide_eq_true y
                injection y2 with y2
                rw [List.length_cons, List.length_cons, List.length_cons] at y2
                omega
              | nil =>
                refine iteT ?_
                refine ⟨_, rfl, _, _, _, _, rfl, rfl, hb.sq, atI_nat (j := 0) rfl, p, v1, x1, rfl, h1, okSs_mem (show okSs _ = true from hk) (by simp), fun H3 s3 => ⟨_, rfl, iteB (fun e5 => ?_) (fun e5 => ?_)⟩⟩
                · obtain ⟨z, rfl⟩ := letG_str e5
                  cases h1
                  have hL3 := s3 _ _ hL
                  have hD3 := s3 _ _ hD
                  refine ⟨_, rfl, _, _, _, _, rfl, rfl, (hb.same s3).sq, atI_nat (j := 0) rfl, _, hD3, ?_, fun c o ec => ?_, by rw [upd_ne eDL.symm]; exact hL3, ?_⟩
                  · rw [List.length_map]
                    have h8 := List.length_filterMap_le nmG ((gs.drop (i + 1)).take k)
                    rw [List.length_take, List.length_drop] at h8
                    exact small1000 (by omega)
                  · rw [upd_ne (ne_of_none ec nD0)]
                    exact s3 _ _ (s2 _ _ ec)
                  · rw [upd_same, fm_take e1, nm_of e5, List.map_append]
                    rfl
                · refine no H3 s3 ?_
                  cases x1 with
                  | str z => exact if_neg (by rw [e5]; exact Bool.false_ne_true)
                  | _ => rfl
        | _ => cases e
      · refine iteF (no H2 (Same.refl _) ?_)
        cases g1 <;> first | rfl | cases e
    · rintro H2 ⟨s2, hL, hD⟩
      rw [List.take_of_length_le (by rw [List.length_drop, List.length_drop]; omega)] at hD
      exact q D H2 s2 nD0 hD
theorem ok_lookP {C fI : Addr} {newId initId : String} {bmB : List Value} (OW : XC.Own P K mg "NoProgram" "number" C fI "ValueError" newId initId bmB) (T : At K mg "look_at_program" s_look_at_program ["thing"]) (B : Bt mg) (D : GbP mg)
    (c_is_named_term : Cal P w K mg base 18 "is_named_term" ["thing"] spNamed) (c_calls_only : Cal P w K mg base 8 "calls_only" ["term", "names"] (spCalls 6)) (c_names_behind : Cal P w K mg base 3 "names_behind" ["things", "number"] spBehind) :
    CalX P w K mg base 19 "look_at_program" ["thing"] (spLookP C) := by
  obtain ⟨tr, mTup⟩ := D.tup
  refine cal_ofX T sc_look_at_program (fun vs H Q E h => ?_) (fun f cdv A outer s H vs Q E hr h => ?_)
  · obtain ⟨p, v, g, rfl, _⟩ := h
    rfl
  · obtain ⟨p, v, g, rfl, hv, hs, qy, qn⟩ := h
    refine ⟨_, (pss_cons (ps_if (PW.pt (pw_or (pt_not (pt_val (pe_callB call_isi (by rfl) B.isinstance (by decide +kernel) (pa_cons (pv 0) (pa_cons (pe_bltn (v := .ty "list") (u := .type "list") (by rfl) B.list (by decide +kernel) rfl) pa_nil))))) (pw_or1 (pt_not (pt_chain op_le op_le pe_int (pe_callB call_len_seq (by rfl) B.len PySem.boot_len (pa_cons (pv 0) pa_nil)) (pe_glob (v := .int 8) rfl mTup ⟨_, rfl⟩)))))) (pss_one (ps_raiseX rfl OW hr (takes_of rfl rfl rfl rfl) (pa_cons pe_non pa_nil))) pss_nil)
      (pss_cons (ps_set (i := 1) sc_look_at_program.nd rfl (Or.inl rfl) (pe_lst pa_nil))
      (pss_one (ps_for (passes_of rfl) rfl (pi_enum (by rfl) B.enumerate (pa_cons (pv 0) pa_nil)) (pg_tup (by rfl) (pgs_cons (pg_name (i := 2) sc_look_at_program.nd rfl (Or.inl rfl)) (pgs_cons (pg_name (i := 3) sc_look_at_program.nd rfl (Or.inl rfl)) pgs_nil))) (pss_cons (ps_if (PW.pt (pw_or (pt_not (pt_val (pe_own c_is_named_term hr (by decide) (by rfl) (pa_cons (pv 3) pa_nil)))) (pw_or (pt_cmpR op_in_seq (pe_ix ix_tup (pv 3) pe_int (fun _ _ => rfl)) (pv 1) (by rfl)) (pw_or1 (pt_not (pt_val (pe_own c_calls_only hr (by decide) (by rfl) (pa_cons (pe_ix ix_tup (pv 3) pe_int (fun _ _ => rfl)) (pa_cons (pe_own c_names_behind hr (by decide) (by rfl) (pa_cons (pv 0) (pa_cons (pv 2) pa_nil))) pa_nil))))))))) (pss_one (ps_raiseX rfl OW hr (takes_of rfl rfl rfl rfl) (pa_cons (pv 2) pa_nil))) pss_nil)
      (pss_one (ps_expr (pe_bm PySem.F.plainAttrs_list PySem.F.slot_list_append PySem.F.type_list_append mt_append (pv 1) (pa_cons (pe_ix ix_tup (pv 3) pe_int (fun _ _ => rfl)) pa_nil))))))))), ?_⟩
    refine ⟨_, rfl, v, .ty "list", _, _, _, rfl, .ty "list", hv.ty, kit_list g, _, rfl, iteB (fun e => ?_) (fun e => ?_)⟩
    · refine iteT ?_
      have z : lookP g = some none := by
        cases g <;> first | rfl | cases e
      exact ⟨_, rfl, fun d hd => qn none z _ d (same_upd hd) hd upd_same⟩
    cases hv with
    | @lst a vs gs na ha t =>
      have hlen : vs.length = gs.length := t.len
      have hss : okSs gs = true := hs
      have lk : lookP (.lst gs) = if 1 ≤ gs.length ∧ gs.length ≤ 8 then (fb (okAt gs) gs.length 0).map some else some none := rfl
      refine ⟨_, rfl, a, _, rfl, .inl (SqL.of ha), _, _, rfl, rfl, _, rfl, iteB (fun e1 => ?_) (fun e1 => ?_)⟩
      · refine ⟨_, _, rfl, rfl, _, rfl, ?_⟩
        have l1 := of_decide_eq_true e1
        refine iteB (fun e2 => ?_) (fun e2 => ?_)
        · have l2 : ¬ (vs.length : Int) ≤ 8 := by simpa using e2
          have z : lookP (.lst gs) = some none := by
            rw [lk, if_neg (by omega)]
          exact ⟨_, rfl, fun d hd => qn none z _ d (same_upd hd) hd upd_same⟩
        have l2 : (vs.length : Int) ≤ 8 := by simpa using e2
        rw [if_pos (by omega)] at lk
        refine ⟨Nat.zero_le _, fun L nL => ?_⟩
        have sL : Same H (upd H L (.lst [])) := same_upd nL
        refine ⟨_, rfl, a, _, rfl, SqL.of (sL _ _ ha), ?_⟩
        refine for_enumS (K := K) (a := a) (xs := vs) (fun i σ H2 => ∃ y1 y2 : Option V, σ = [some (.ref a), some (.ref L), y1, y2] ∧ Same H H2 ∧ H2 L = some (.lst ((namesTo gs i).map V.str)) ∧ ∀ j, j < i → okAt gs j = true) ?_ ?_ ?_ ?_
        · exact ⟨none, none, rfl, sL, upd_same, fun j hj => absurd hj (Nat.not_lt_zero _)⟩
        · rintro i σ H2 _ ⟨_, _, _, s2, _⟩
          exact SqL.of (s2 _ _ ha)
        · rintro i x σ H2 T hx ⟨y1, y2, rfl, s2, hL, good⟩ nT
          obtain ⟨g1, e4, tg0⟩ := t.get hx
          have hi : i < gs.length := (List.getElem?_eq_some_iff.mp e4).1
          have sT : Same H2 (upd H2 T (.tup [.int (i : Nat), x])) := same_upd nT
          have hok : okS g1 = true := okSs_mem hss (List.mem_of_getElem? e4)
          have eo : okAt gs i = okOne gs i g1 := by
            unfold okAt
            rw [e4]
          have bad : okAt gs i = false → lookP (.lst gs) = some (some i) := by
            intro b
            rw [lk, fb_some gs.length 0 (fun j _ hj => good j hj) (Nat.zero_le _) (by omega) b]
            rfl
          refine ⟨T, _, rfl, SqT.of upd_same, rfl, _, _, rfl, _, _, rfl, rfl, ?_⟩
          refine ⟨_, rfl, p, x, g1, rfl, tg0.keep (Keeps.same (s2.trans sT)), hok, fun H3 s3 => ⟨_, rfl, iteB (fun e5 => ?_) (fun e5 => ?_)⟩⟩
          · have b : namedG g1 = false := by simpa using e5
            have s03 := (s2.trans sT).trans s3
            have z := bad (by rw [eo]; unfold okOne; rw [b]; rfl)
            exact iteT ⟨_, rfl, _, rfl, fun d hd => qn (some i) z _ d (s03.trans (same_upd hd)) (s03.free hd) upd_same⟩
          have b1 : namedG g1 = true := by simpa using e5
          have s03 := (s2.trans sT).trans s3
          obtain ⟨z, t1, rfl, hz, ht1⟩ := named_shape b1
          have tg3 := tg0.keep (Keeps.same s03)
          cases tg3 with
          | @tup b vb _ hb tb => cases tb with
            | cons h1 tb1 => cases tb1 with
              | cons h2 tb2 =>
                cases tb2
                cases h1
                have enm : nmG (.tup [.str z, t1]) = some z := nm_of hz
                have hL3 : H3 L = some (.lst ((namesTo gs i).map V.str)) := s3 _ _ (sT _ _ hL)
                refine ⟨_, rfl, _, _, _, _, rfl, rfl, hb.sq, atI_nat (j := 0) rfl, _, rfl, L, _, rfl, .inl (SqL.of hL3), rfl, flat_strs _, _, rfl, ?_⟩
                have e7 : inV (.str z) ((namesTo gs i).map V.str) = decide (z ∈ namesTo gs i) := inV_str _ _
                refine iteB (fun e6 => ?_) (fun e6 => ?_)
                · have e8 : decide (z ∈ namesTo gs i) = true := by rw [← e7]; exact e6
                  have zz := bad (by rw [eo]; unfold okOne freshG; rw [enm, b1]; simp only; rw [e8]; rfl)
                  exact iteT ⟨_, rfl, _, rfl, fun d hd => qn (some i) zz _ d (s03.trans (same_upd hd)) (s03.free hd) upd_same⟩
                have e8 : decide (z ∈ namesTo gs i) = false := by rw [← e7]; exact e6
                refine ⟨_, rfl, _, _, _, _, rfl, rfl, hb.sq, atI_nat (j := 1) rfl, _, rfl, _, rfl, p, a, vs, gs, i, rfl, s03 _ _ ha, t.keep (Keeps.same s03), hss, by omega, hi, fun u H4 s4 nu hu => ?_⟩
                refine ⟨p, _, t1, u, _, rfl, h2.keep (Keeps.same s4), ht1, hu, fun H5 s5 => ⟨_, rfl, ?_⟩⟩
                have s05 := (s03.trans s4).trans s5
                have e9 : okOne gs i (.tup [.str z, t1]) = callsG (namesFrom gs i) 6 t1 := by
                  unfold okOne freshG
                  rw [enm, b1]
                  simp only
                  rw [e8]
                  rfl
                refine iteB (fun e6 => ?_) (fun e6 => ?_)
                · have b2 : callsG (namesFrom gs i) 6 t1 = false := by unfold namesFrom; simpa using e6
                  have zz := bad (by rw [eo, e9]; exact b2)
                  exact ⟨_, rfl, _, rfl, fun d hd => qn (some i) zz _ d (s05.trans (same_upd hd)) (s05.free hd) upd_same⟩
                · have b2 : callsG (namesFrom gs i) 6 t1 = true := by unfold namesFrom; simpa using e6
                  have hL5 : H5 L = some (.lst ((namesTo gs i).map V.str)) := s5 _ _ (s4 _ _ hL3)
                  refine ⟨_, rfl, .inl ⟨rfl, _, SqL.of hL5⟩, _, rfl, _, _, _, _, rfl, rfl, ((hb.same s4).same s5).sq, atI_nat (j := 0) rfl, L, _, _, rfl, rfl, hL5, ?_, ?_⟩
                  · rw [List.length_map]
                    have h8 := List.length_filterMap_le nmG (gs.take i)
                    rw [List.length_take] at h8
                    exact small1000 (by unfold namesTo; omega)
                  · refine ⟨_, _, rfl, fun c o ec => ?_, ?_, fun j hj => ?_⟩
                    · rw [upd_ne (ne_of_none ec nL)]
                      exact s05 _ _ ec
                    · rw [upd_same]
                      unfold namesTo
                      rw [fm_take e4, enm, List.map_append]
                      rfl
                    · rcases Nat.lt_succ_iff_lt_or_eq.mp hj with h | rfl
                      · exact good j h
                      · rw [eo, e9]
                        exact b2
        · rintro σ H2 ⟨y1, y2, rfl, s2, hL, good⟩
          rw [hlen] at good
          have zz : lookP (.lst gs) = none := by
            rw [lk, fb_none gs.length 0 fun j _ hj => good j (by omega)]
            rfl
          exact qy zz H2 s2
      · refine ⟨_, rfl, iteT ?_⟩
        have l1 := of_decide_eq_false e1
        have z : lookP (.lst gs) = some none := by
          rw [lk, if_neg (by omega)]
        exact ⟨_, rfl, fun d hd => qn none z _ d (same_upd hd) hd upd_same⟩
    | _ => cases e
end
end Su
namespace Su
open PySem PySem.Spec PyProof.Rows L2
theorem sc_law_take : FnScope ["_law_pool_here", "_law_many", "_law_found"] ["_law_pool_here", "_law_many"] (defScope s_law_take) := ⟨rfl, rfl, rfl, by decide +kernel, rfl, by decide +kernel, by decide +kernel⟩
theorem sc_law_pool : FnScope ["_law_script", "_law_k", "_law_cell", "_law_great", "_law_mixed"] ["_law_script", "_law_k"] (defScope s_law_pool) := ⟨rfl, rfl, rfl, by decide +kernel, rfl, by decide +kernel, by decide +kernel⟩
section
variable {P : Program} {w : World} {K : PySem.W.Frag} {mg : Str → Option Value} {base : Heap}
theorem ok_take (T : At K mg "_law_take" s_law_take ["_law_pool_here", "_law_many"]) : Cal P w K mg base 1 "_law_take" ["_law_pool_here", "_law_many"] spTake := by
  refine cal_of T sc_law_take (fun vs H Q E h => ?_) (fun f cdv A outer s H vs Q E hr h => ?_)
  · obtain ⟨p, many, rfl, _⟩ := h
    rfl
  · obtain ⟨p, many, rfl, ⟨o, hp, g, m, rfl, g0, m0, m1⟩, n1, n2, q⟩ := h
    refine ⟨_, (pss_cons (ps_if (pt_cmpR op_gt (pe_ix ix_list (pv 0) pe_int (fun _ _ => rfl)) pe_int (nomark _)) (pss_cons (ps_set (i := 2) sc_law_take.nd rfl (Or.inl rfl) (pe_op op_mod (pe_ix ix_list (pv 0) pe_int (fun _ _ => rfl)) (pv 1)))
      (pss_cons (ps_asg (pe_op op_fdiv (pe_ix ix_list (pv 0) pe_int (fun _ _ => rfl)) (pv 1)) (pg_sub (pv 0) pe_int set_list))
      (pss_one (ps_ret (pv 2))))) pss_nil)
      (pss_cons (ps_asg (pe_op op_mod (pe_op op_add (pe_op op_mul (pe_ix ix_list (pv 0) pe_int (fun _ _ => rfl)) pe_int) pe_int) pe_int) (pg_sub (pv 0) pe_int set_list))
      (pss_one (ps_ret (pe_op op_mod (pe_op op_fdiv (pe_op op_mod (pe_op op_mul (pe_ix ix_list (pv 0) pe_int (fun _ _ => rfl)) (pe_ix ix_list (pv 0) pe_int (fun _ _ => rfl))) pe_int) pe_int) (pv 1)))))), ?_⟩
    refine ⟨_, rfl, p, _, _, _, rfl, rfl, SqL.of hp, atI_nat (j := 0) rfl, _, _, rfl, rfl, _, rfl, ite2 (fun e => ?_) (fun e => ?_)⟩
    · refine ⟨_, rfl, p, _, _, _, rfl, rfl, SqL.of hp, atI_nat (j := 0) rfl, _, rfl, _, _, rfl, rfl, (by omega), ?_⟩
      refine ⟨_, rfl, p, _, _, _, rfl, rfl, SqL.of hp, atI_nat (j := 0) rfl, _, rfl, _, _, rfl, rfl, ⟨by omega, by omega⟩, ?_⟩
      refine ⟨_, rfl, p, _, _, 0, rfl, rfl, hp, rfl, ?_⟩
      refine ⟨_, rfl, q _ _ (Int.emod_nonneg _ (by omega)) (Int.emod_lt_of_pos _ (by omega)) ⟨_, _, rfl, Int.ediv_nonneg g0 (by omega), m0, m1⟩⟩
    · refine ⟨_, rfl, p, _, _, _, rfl, rfl, SqL.of hp, atI_nat (j := 1) rfl, _, _, rfl, rfl, .inl ⟨by omega, by omega⟩, _, _, rfl, rfl, _, _, rfl, rfl, (by show (0 : Int) < 2147483647; decide), ?_⟩
      refine ⟨_, rfl, p, _, _, 1, rfl, rfl, hp, rfl, ?_⟩
      have e0 : 0 ≤ (m * 48271 + 11) % 2147483647 := Int.emod_nonneg _ (by decide)
      have e1 : (m * 48271 + 11) % 2147483647 < 2147483647 := Int.emod_lt_of_pos _ (by decide)
      refine ⟨_, rfl, p, _, _, _, rfl, rfl, SqL.of upd_same, atI_nat (j := 1) rfl, _, rfl, p, _, _, _, rfl, rfl, SqL.of upd_same, atI_nat (j := 1) rfl, _, _, rfl, rfl, .inl ⟨by omega, by omega⟩, _, _, rfl, rfl, (by show (0 : Int) < 2147483629; decide), _, _, rfl, rfl, ⟨by decide, by decide⟩, _, rfl, _, _, rfl, rfl, (by omega), ?_⟩
      exact q _ _ (Int.emod_nonneg _ (by omega)) (Int.emod_lt_of_pos _ (by omega)) ⟨_, _, rfl, g0, e0, e1⟩
theorem ok_pool (T : At K mg "_law_pool" s_law_pool ["_law_script", "_law_k"]) (B : Bt mg) : Cal P w K mg base 1 "_law_pool" ["_law_script", "_law_k"] (spPool K) := by
  refine cal_of T sc_law_pool (fun vs H Q E h => ?_) (fun f cdv A outer s H vs Q E hr h => ?_)
  · obtain ⟨a, ns, k, rfl, _⟩ := h
    rfl
  · obtain ⟨a, ns, k, rfl, hS, k0, k1, q⟩ := h
    refine ⟨_, (pss_cons (ps_set (i := 2) sc_law_pool.nd rfl (Or.inl rfl) (pe_op op_add (pe_op op_mul pe_int (pe_callB (cr_sum rfl) (by rfl) B.sum (by decide +kernel) (pa_cons (pe_slice sl_list (pv 0) po_none (po_some pe_int)) pa_nil))) (pv 1)))
      (pss_cons (ps_if (pt_cmpR op_lt (pv 1) (pe_callB call_len_seq (by rfl) B.len PySem.boot_len (pa_cons (pv 0) pa_nil)) (nomark _)) (pss_one (ps_set (i := 2) sc_law_pool.nd rfl (Or.inl rfl) (pe_ix ix_list (pv 0) (pv 1) (fun _ _ => rfl)))) pss_nil)
      (pss_cons (ps_set (i := 3) sc_law_pool.nd rfl (Or.inl rfl) (pe_callB call_abs (by rfl) B.abs (by decide +kernel) (pa_cons (pv 2) pa_nil)))
      (pss_cons (ps_set (i := 4) sc_law_pool.nd rfl (Or.inl rfl) (pe_op op_mod (pe_op op_mul (pe_op op_add (pe_op op_add (pe_op op_add (pe_op op_mod (pv 3) pe_int) (pe_op op_mul (pe_op op_mul pe_int (pv 1)) (pv 1))) (pe_op op_mul pe_int (pv 1))) pe_int) pe_int) pe_int))
      (pss_one (ps_ret (pe_lst (pa_cons (pe_op op_mul (pv 3) (pe_callTy call_int1 (by rfl) B.int (by decide +kernel) (pa_cons (pe_cmpR op_ge (pv 3) (pe_op op_pow pe_int pe_int) (nomark _)) pa_nil))) (pa_cons (pe_op op_mod (pe_op op_mul (pv 4) (pv 4)) pe_int) pa_nil))))))))), ?_⟩
    obtain ⟨ms, ems⟩ := cutV_ints ns none (some 63)
    refine ⟨_, rfl, 63, rfl, a, _, rfl, hS, fun c nc => ?_⟩
    rw [ems]
    have s1 : Same H (upd H c (.lst (ms.map V.int))) := same_upd nc
    refine ⟨c, ms, rfl, SqL.of upd_same, _, _, rfl, rfl, .inl ⟨by decide, by decide⟩, _, rfl, _, _, rfl, rfl, ?_⟩
    refine ⟨_, rfl, _, rfl, a, _, rfl, .inl (s1.seq hS), _, _, rfl, rfl, _, rfl, ite2 (fun e => ?_) (fun e => ?_)⟩
    rw [decide_eq_true_eq, List.length_map] at e
    obtain ⟨z, g⟩ : ∃ z : Int, atI (ns.map V.int) k = some (V.int z) := by
      have hk : k.toNat < ns.length := by omega
      exact ⟨_, atI_int (v := V.int ns[k.toNat]) k0 (by rw [List.getElem?_map, List.getElem?_eq_getElem hk]; rfl)⟩
    refine ⟨_, rfl, _, rfl, a, _, k, .int z, rfl, rfl, s1.seq hS, g, ?_⟩
    all_goals
      refine ⟨_, rfl, _, rfl, ?_⟩
      refine ⟨_, rfl, _, _, rfl, rfl, (by show (0 : Int) < 2147483629; decide), _, rfl, _, _, rfl, rfl, .inl ⟨by decide, by decide⟩, _, rfl, _, _, rfl, rfl, .inr ⟨by omega, by omega⟩, _, _, rfl, rfl, _, rfl, _, _, rfl, rfl, .inl ⟨by decide, by decide⟩, _, _, rfl, rfl, _, _, rfl, rfl, _, _, rfl, rfl, .inr ⟨by decide, by decide⟩, _, _, rfl, rfl, (by show (0 : Int) < 2147483647; decide), ?_⟩
      refine ⟨_, rfl, _, rfl, _, _, rfl, rfl, ⟨by decide, by decide, by decide⟩, _, _, rfl, rfl, .inr ⟨_, rfl, _, _, rfl, rfl, .inr ?_, ?_⟩⟩
      · exact b01 _
      refine ⟨_, rfl, _, rfl, _, _, rfl, rfl, .inl ?_, _, _, rfl, rfl, (by show (0 : Int) < 2147483629; decide), (by show 2 ≤ sizeLine; decide), fun p np => ?_⟩
      · refine ⟨Int.lt_of_lt_of_le (by decide) (Int.emod_nonneg _ (by decide)), Int.lt_trans (Int.emod_lt_of_pos _ (by decide)) (by decide)⟩
      refine q p _ (s1.trans (same_upd np)) (s1.free np) ⟨_, upd_same, _, _, rfl, ?_, Int.emod_nonneg _ (by decide), Int.lt_trans (Int.emod_lt_of_pos _ (by decide)) (by decide)⟩
      refine Int.mul_nonneg ?_ ?_ <;> split <;> omega
end
theorem sc_law_picked : FnScope ["_law_pool_here", "_law_some", "_law_many", "_law_left", "_law_k"] ["_law_pool_here", "_law_some", "_law_many"] (defScope s_law_picked) := ⟨rfl, rfl, rfl, by decide +kernel, rfl, by decide +kernel, by decide +kernel⟩
section
variable {P : Program} {w : World} {K : PySem.W.Frag} {mg : Str → Option Value} {base : Heap}
theorem ok_picked (T : At K mg "_law_picked" s_law_picked ["_law_pool_here", "_law_some", "_law_many"]) (B : Bt mg) (c_take : Cal P w K mg base 1 "_law_take" ["_law_pool_here", "_law_many"] spTake) :
    Cal P w K mg base 2 "_law_picked" ["_law_pool_here", "_law_some", "_law_many"] (spPicked K) := by
  refine cal_of T sc_law_picked (fun vs H Q E h => ?_) (fun f cdv A outer s H vs Q E hr h => ?_)
  · obtain ⟨p, b, ns, many, rfl, _⟩ := h
    rfl
  · obtain ⟨p, b, ns, many, rfl, hp, hS, hbp, nd, hl, m0, q⟩ := h
    refine ⟨_, (pss_cons (ps_set (i := 3) sc_law_picked.nd rfl (Or.inr rfl) (pe_callTy call_list_of (by rfl) B.list (by decide +kernel) (pa_cons (pv 1) pa_nil)))
      (pss_one (ps_ret (pe_callB cr_sortedI (by rfl) B.sorted (by decide +kernel) (pa_cons (pe_lc (own := [("_law_k", 4)]) (g := (gName 4)) (tt := tYes) (te := (tBM K "list" rPopAt (tVar 3) (tCons (tCall spTake [] E0 (tCons (tVar 0) (tCons (tCB (rLenK K) (tCons (tVar 3) tNil)) tNil))) tNil))) (by rfl) sc_law_picked.nd (pi_range1 (by rfl) B.range (pa_cons (pe_callB (call_min2 rfl) (by rfl) B.min (by decide +kernel) (pa_cons (pv 2) (pa_cons (pe_callB call_len_seq (by rfl) B.len PySem.boot_len (pa_cons (pv 3) pa_nil)) pa_nil))) pa_nil)) (blkOk_by (own := [("_law_k", 4)]) (N := ["_law_pool_here", "_law_some", "_law_many", "_law_left", "_law_k"]) (sc := defScope s_law_picked) (by decide +kernel)) (fun _ _ _ _ _ => (pg_name (i := 4) sc_law_picked.nd rfl (Or.inl rfl))) (fun _ _ _ _ _ => pts_nil) (fun _ _ _ _ _ => (pe_bm PySem.F.plainAttrs_list PySem.F.slot_list_pop PySem.F.type_list_pop mt_popAt (pv 3) (pa_cons (pe_own c_take hr (by decide) (by rfl) (pa_cons (pv 0) (pa_cons (pe_callB call_len_seq (by rfl) B.len PySem.boot_len (pa_cons (pv 3) pa_nil)) pa_nil))) pa_nil)))) pa_nil))))), ?_⟩
    refine ⟨_, rfl, b, _, rfl, .inl hS, fun l nl => ?_⟩
    have elp : l ≠ p := pool_ne hp nl
    have hl0 : (if ((ns.map V.int).length : Int) < many then ((ns.map V.int).length : Int) else many) = ((min many.toNat ns.length : Nat) : Int) := by
      rw [List.length_map]
      split <;> omega
    refine ⟨_, rfl, _, rfl, l, _, rfl, .inl (SqL.of upd_same), _, _, rfl, _, rfl, (by omega), (by omega), fun D nD => ?_⟩
    rw [hl0]
    refine lc_range (lo := 0) (n := min many.toNat ns.length) (fun i H2 => ∃ lf acc : List Int, H2 l = some (.lst (lf.map V.int)) ∧ H2 D = some (.lst (acc.map V.int)) ∧ acc.length = i ∧ (acc ++ lf).Perm ns ∧ PoolAt H2 p ∧ Kept p H H2) ?_ ?_ ?_
    · obtain ⟨eDl, nD0⟩ := free_upd nD
      refine ⟨ns, [], (by rw [upd_ne eDl.symm, upd_same]), upd_same, rfl, List.Perm.refl _, (hp.upd elp.symm).upd (pool_ne hp nD0).symm, ((Kept.refl p H).set nl).set nD0⟩
    · rintro i H2 hi ⟨lf, acc, h1, h2, hlen, hpm, hpo, hk⟩
      obtain ⟨eDl, nD0⟩ := free_upd nD
      have eDp : D ≠ p := pool_ne hp nD0
      have hll : acc.length + lf.length = ns.length := by
        have := hpm.length_eq
        rw [List.length_append] at this
        exact this
      refine ⟨rfl, tyes ?_⟩
      refine ⟨_, rfl, .inl ⟨rfl, _, SqL.of h1⟩, _, rfl, _, rfl, l, _, rfl, .inl (SqL.of h1), p, _, rfl, hpo, ?_, ?_, fun r o r0 r1 po => ?_⟩
      · rw [List.length_map]
        omega
      · rw [List.length_map]
        omega
      · rw [List.length_map] at r1
        have hr1 : r.toNat < lf.length := by omega
        refine ⟨l, lf.map V.int, r, r.toNat, V.int lf[r.toNat], rfl, rfl, (by rw [upd_ne elp]; exact h1), by omega, by omega, seqIx r0 (by rw [List.length_map]; exact r1), (by rw [List.getElem?_map, List.getElem?_eq_getElem hr1]; rfl), ?_⟩
        have hg : lf[r.toNat]? = some lf[r.toNat] := List.getElem?_eq_getElem hr1
        generalize lf[r.toNat] = y at *
        refine ⟨acc.map V.int, (by rw [upd_ne eDl, upd_ne eDp]; exact h2), ?_, lf.eraseIdx r.toNat, acc ++ [y], ?_, ?_, ?_, ?_, ?_, ?_⟩
        · rw [List.length_map]
          exact small1000 (by omega)
        · rw [upd_ne eDl.symm, upd_same, erase_map]
        · rw [upd_same, List.map_append]
          rfl
        · rw [List.length_append, hlen]
          rfl
        · rw [List.append_assoc]
          exact ((erase_perm lf r.toNat y hg).append_left acc).trans hpm
        · refine PoolAt.upd (PoolAt.upd ⟨o, upd_same, po⟩ elp.symm) eDp.symm
        · exact (((hk.trans (Kept.upd p H2 o)).set nl).set nD0)
    · rintro H2 ⟨lf, acc, h1, h2, hlen, hpm, hpo, hk⟩
      obtain ⟨eDl, nD0⟩ := free_upd nD
      refine ⟨D, acc, rfl, SqL.of h2, fun ms c pm so nc => ?_⟩
      have ecp : c ≠ p := pool_ne hpo nc
      have hsub : ∀ x ∈ ms, x ∈ ns := fun x hx => hpm.subset (List.mem_append_left _ (pm.subset hx))
      have hnd : (acc ++ lf).Nodup := hpm.nodup_iff.mpr nd
      exact q c _ ms (hk.free ecp nc) (hk.trans (Kept.same (same_upd nc))) (hpo.upd ecp.symm) upd_same (pm.nodup_iff.mpr (List.nodup_append.mp hnd).1) hsub (by rw [pm.length_eq, hlen]) so
end
end Su
/-! ### PN: names, terms and programs that a law draws -/
namespace Su
open PySem PySem.Spec PyProof.Rows L2
def NameOk (s : Str) : Prop := s.cps.size ≤ 6 ∧ 1 ≤ s.cps.size ∧ ∀ c ∈ s.cps.toList, c ∈ lett.cps.toList
def NamesOk (ns : List Str) : Prop := ∀ n ∈ ns, NameOk n
def spNames : Sp := fun vs H Q _ => ∃ (p : Addr) (many : Int), vs = [.ref p, .int many] ∧ PoolAt H p ∧ 0 ≤ many ∧ many ≤ 26 ∧
  ∀ (u : Addr) (H' : Hp) (ns : List Str) (l : Nat), H u = none → Kept p H H' → PoolAt H' p → H' u = some (.lst (ns.map V.str)) → NamesOk ns → ns.length = many.toNat → ns.Nodup → (∀ n ∈ ns, n.cps.size = l) → Q (.ref u) H'
def letAt (j : Nat) : Nat := lett.cps.toList.getD j 0
theorem lett_at {r : Int} (h0 : 0 ≤ r) (h1 : r < 26) : atI lett.cps.toList r = some (letAt r.toNat) ∧ letAt r.toNat ∈ lett.cps.toList := by
  have hl : lett.cps.toList.length = 26 := by decide +kernel
  have hr : r.toNat < lett.cps.toList.length := by omega
  have e : lett.cps.toList[r.toNat]? = some (letAt r.toNat) := by
    unfold letAt
    rw [List.getD_eq_getElem?_getD, List.getElem?_eq_getElem hr]
    rfl
  exact ⟨atI_int h0 e, List.mem_of_getElem? e⟩
theorem letAt_inj : ∀ i < 26, ∀ j < 26, letAt i = letAt j → i = j := by decide +kernel
theorem lett_small : ∀ c ∈ lett.cps.toList, c < 1000 := by decide +kernel
def one1 (c : Nat) : Str := ⟨#[c]⟩
theorem join_ones : ∀ cs : List Nat, TL.joinL [] (cs.map fun c => [c]) = cs
  | [] => rfl
  | [c] => rfl
  | c :: d :: r => by
    show c :: TL.joinL [] ((d :: r).map fun c => [c]) = c :: d :: r
    rw [join_ones (d :: r)]
theorem joinOnes (cs : List Nat) : Txt.join (Str.ofString "") (cs.map one1) = ⟨cs.toArray⟩ := by
  have z := SX.join_S [] (cs.map fun c => [c])
  rw [join_ones, List.map_map] at z
  exact z
theorem name_cat {s : Str} {c : Nat} (h : s.cps.size ≤ 5) (hs : ∀ c ∈ s.cps.toList, c ∈ lett.cps.toList) (hc : c ∈ lett.cps.toList) : NameOk (s ++ one1 c) := by
  have e : (s ++ one1 c).cps = s.cps ++ #[c] := rfl
  refine ⟨?_, ?_, ?_⟩
  · rw [e, Array.size_append]
    show s.cps.size + 1 ≤ 6
    omega
  · rw [e, Array.size_append]
    show 1 ≤ s.cps.size + 1
    omega
  · rw [e, Array.toList_append]
    intro x hx
    rcases List.mem_append.mp hx with z | z
    · exact hs x z
    · rw [List.mem_singleton.mp z]
      exact hc
/-- the name that a stem and a number make -/
def nmAt (cs : List Nat) (r : Int) (k : Nat) : Str := ⟨cs.toArray⟩ ++ one1 (letAt ((r + (0 + (k : Int))) % 26).toNat)
theorem nmAt_inj {cs : List Nat} {r : Int} {i j : Nat} (hi : i < 26) (hj : j < 26) (h : nmAt cs r i = nmAt cs r j) : i = j := by
  have e : (nmAt cs r i).cps.toList = (nmAt cs r j).cps.toList := by rw [h]
  have e1 : ∀ k, (nmAt cs r k).cps.toList = cs ++ [letAt ((r + (0 + (k : Int))) % 26).toNat] := fun k => by
    show ((cs.toArray ++ #[_]).toList) = _
    rw [Array.toList_append]
  rw [e1, e1] at e
  have e2 := List.append_cancel_left e
  have e3 : letAt ((r + (0 + (i : Int))) % 26).toNat = letAt ((r + (0 + (j : Int))) % 26).toNat := by simpa using e2
  have e4 := letAt_inj _ (by omega) _ (by omega) e3
  omega
theorem sc_law_names : FnScope ["_law_pool_here", "_law_many", "_law_letters", "_law_stem", "_law_first", "_law_k"] ["_law_pool_here", "_law_many"] (defScope s_law_names) := ⟨rfl, rfl, rfl, by decide +kernel, rfl, by decide +kernel, by decide +kernel⟩
section
variable {P : Program} {w : World} {K : PySem.W.Frag} {mg : Str → Option Value} {base : Heap}
theorem ok_names (T : At K mg "_law_names" s_law_names ["_law_pool_here", "_law_many"]) (B : Bt mg) (c_take : Cal P w K mg base 1 "_law_take" ["_law_pool_here", "_law_many"] spTake) :
    Cal P w K mg base 2 "_law_names" ["_law_pool_here", "_law_many"] spNames := by
  refine cal_of T sc_law_names (fun vs H Q E h => ?_) (fun f cdv A outer s H vs Q E hr h => ?_)
  · obtain ⟨p, many, rfl, _⟩ := h
    rfl
  · obtain ⟨p, many, rfl, hp, m0, m1, q⟩ := h
    refine ⟨_, (pss_cons (ps_set (i := 2) sc_law_names.nd rfl (Or.inr rfl) pe_str)
      (pss_cons (ps_set (i := 3) sc_law_names.nd rfl (Or.inr rfl) (pe_join pe_str (pe_lc (own := [("_law_k", 5)]) (g := (gName 5)) (tt := tYes) (te := (tOp rIxS (tVar 2) (tCall spTake [] E0 (tCons (tVar 0) (tCons (tC (.int 26)) tNil))))) (by rfl) sc_law_names.nd (pi_range1 (by rfl) B.range (pa_cons (pe_own c_take hr (by decide) (by rfl) (pa_cons (pv 0) (pa_cons pe_int pa_nil))) pa_nil)) (blkOk_by (own := [("_law_k", 5)]) (N := ["_law_pool_here", "_law_many", "_law_letters", "_law_stem", "_law_first", "_law_k"]) (sc := defScope s_law_names) (by decide +kernel)) (fun _ _ _ _ _ => (pg_name (i := 5) sc_law_names.nd rfl (Or.inl rfl))) (fun _ _ _ _ _ => pts_nil) (fun _ _ _ _ _ => (pe_ix ix_str (pv 2) (pe_own c_take hr (by decide) (by rfl) (pa_cons (pv 0) (pa_cons pe_int pa_nil))) (fun _ _ => rfl))))))
      (pss_cons (ps_set (i := 4) sc_law_names.nd rfl (Or.inr rfl) (pe_own c_take hr (by decide) (by rfl) (pa_cons (pv 0) (pa_cons pe_int pa_nil))))
      (pss_one (ps_ret (pe_lc (own := [("_law_k", 5)]) (g := (gName 5)) (tt := tYes) (te := _) (by rfl) sc_law_names.nd (pi_range1 (by rfl) B.range (pa_cons (pv 1) pa_nil)) (blkOk_by (own := [("_law_k", 5)]) (N := ["_law_pool_here", "_law_many", "_law_letters", "_law_stem", "_law_first", "_law_k"]) (sc := defScope s_law_names) (by decide +kernel)) (fun _ _ _ _ _ => (pg_name (i := 5) sc_law_names.nd rfl (Or.inl rfl))) (fun _ _ _ _ _ => pts_nil) (fun _ _ _ _ _ => (pe_op op_add_str (pv 3) (pe_ix ix_str (pv 2) (pe_op op_mod (pe_op op_add (pv 4) (pv 5)) pe_int) (fun _ _ => rfl)))))))))), ?_⟩
    refine ⟨⟨_, rfl⟩, _, rfl, p, 6, rfl, hp, (by decide), (by decide), fun r o r0 r1 po => ?_⟩
    have hk1 : Kept p H (upd H p o) := Kept.upd p H o
    have hp1 : PoolAt (upd H p o) p := ⟨o, upd_same, po⟩
    refine ⟨r, rfl, by omega, by omega, fun D nD => ?_⟩
    obtain ⟨eDp, nD0⟩ := free_upd nD
    have hll : lett.length ≤ sizeLine := by decide +kernel
    refine lc_range (lo := 0) (n := r.toNat) (fun i H2 => ∃ cs : List Nat, cs.length = i ∧ (∀ c ∈ cs, c ∈ lett.cps.toList) ∧ H2 D = some (.lst ((cs.map one1).map V.str)) ∧ PoolAt H2 p ∧ Kept p H H2) ?_ ?_ ?_
    · exact ⟨[], rfl, fun _ hx => (List.not_mem_nil hx).elim, upd_same, hp1.upd eDp.symm, hk1.set nD0⟩
    · rintro i H2 hi ⟨cs, hcl, hcs, hD, hpo, hk⟩
      refine ⟨rfl, tyes ?_⟩
      refine ⟨_, rfl, _, rfl, p, 26, rfl, hpo, (by decide), (by decide), fun r2 o2 r20 r21 po2 => ?_⟩
      obtain ⟨ec, hc⟩ := lett_at r20 r21
      generalize letAt r2.toNat = c at ec hc
      refine ⟨lett, r2, c, rfl, rfl, hll, ec, ?_⟩
      refine ⟨_, (by rw [upd_ne eDp]; exact hD), ?_, cs ++ [c], ?_, ?_, ?_, ?_, ?_⟩
      · rw [List.length_map, List.length_map]
        exact small1000 (by omega)
      · rw [List.length_append, hcl]
        rfl
      · intro x hx
        rcases List.mem_append.mp hx with z | z
        · exact hcs x z
        · rw [List.mem_singleton.mp z]
          exact hc
      · rw [upd_same, List.map_append, List.map_append]
        rfl
      · exact PoolAt.upd ⟨o2, upd_same, po2⟩ eDp.symm
      · exact (hk.trans (Kept.upd p H2 o2)).set nD0
    · rintro H2 ⟨cs, hcl, hcs, hD, hpo, hk⟩
      have hsum : ((cs.map one1).map (·.length)).sum = cs.length := by
        clear hD hcl hcs
        induction cs with
        | nil => rfl
        | cons c cs ih =>
          rw [List.map_cons, List.map_cons, List.sum_cons, ih, List.length_cons]
          show 1 + cs.length = _
          omega
      refine ⟨_, D, cs.map one1, rfl, rfl, .inl (SqL.of hD), ?_, ?_⟩
      · rw [hsum]
        show cs.length + (cs.map one1).length * 0 ≤ 16777216
        omega
      · rw [joinOnes]
        refine ⟨_, rfl, p, 26, rfl, hpo, (by decide), (by decide), fun r2 o2 r20 r21 po2 => ?_⟩
        refine ⟨_, rfl, many, rfl, by omega, by omega, fun L nL => ?_⟩
        obtain ⟨eLp, nL2⟩ := free_upd nL
        have nL0 : H L = none := hk.free eLp nL2
        have hkk := hk.trans (Kept.upd p H2 o2)
        refine lc_range (lo := 0) (n := many.toNat) (fun i H3 => H3 L = some (.lst (((List.range i).map (nmAt cs r2)).map V.str)) ∧ PoolAt H3 p ∧ Kept p H H3) ?_ ?_ ?_
        · exact ⟨upd_same, PoolAt.upd ⟨o2, upd_same, po2⟩ eLp.symm, hkk.set nL0⟩
        · rintro i H3 hi ⟨hL, hpo3, hk3⟩
          refine ⟨rfl, tyes ?_⟩
          have h26 : (0 : Int) ≤ (r2 + (0 + (i : Int))) % 26 := by omega
          have h27 : (r2 + (0 + (i : Int))) % 26 < 26 := by omega
          obtain ⟨ec, hc⟩ := lett_at h26 h27
          refine ⟨_, rfl, _, rfl, _, rfl, _, rfl, _, _, rfl, rfl, _, _, rfl, rfl, (show (0 : Int) < 26 by decide), lett, _, _, rfl, rfl, hll, ec, ?_⟩
          refine ⟨_, _, rfl, rfl, ?_, _, hL, ?_, ?_, ?_, ?_⟩
          · show cs.length + 1 ≤ sizeLine
            have hb : sizeLine = 16777216 := rfl
            omega
          · rw [List.length_map, List.length_map, List.length_range]
            exact small1000 (by omega)
          · rw [upd_same, List.range_succ, List.map_append, List.map_append]
            rfl
          · exact hpo3.upd eLp.symm
          · exact hk3.set nL0
        · rintro H3 ⟨hL, hpo3, hk3⟩
          refine q L H3 _ (cs.length + 1) nL0 hk3 hpo3 hL ?_ ?_ ?_ ?_
          · intro n hn
            obtain ⟨k, hk, rfl⟩ := List.mem_map.mp hn
            exact name_cat (s := ⟨cs.toArray⟩) (by show cs.length ≤ 5; omega) (by rw [List.toList_toArray]; exact hcs) (lett_at (by omega) (by omega)).2
          · rw [List.length_map, List.length_range]
          · refine List.pairwise_map.mpr (List.Pairwise.imp_of_mem (R := fun a b => a < b) (fun {a b} ha hb hab e => ?_) List.pairwise_lt_range)
            have ha' := List.mem_range.mp ha
            have hb' := List.mem_range.mp hb
            have := nmAt_inj (by omega) (by omega) e
            omega
          · intro n hn
            obtain ⟨k, hk, rfl⟩ := List.mem_map.mp hn
            show (cs.toArray ++ #[_]).size = _
            rw [Array.size_append]
            rfl
end
end Su
/-! ### PT: terms and programs that a law draws -/
namespace Su
open PySem PySem.Spec PyProof.Rows L2
theorem NameOk.le {n : Str} (h : NameOk n) : n.cps.size ≤ 6 ∧ ∀ c ∈ n.cps.toList, c < 1000 := ⟨h.1, fun c hc => lett_small c (h.2.2 c hc)⟩
theorem strs_lay : ∀ {ns : List Str}, NamesOk ns → PyData.canLayAll0 (ns.map PyData.str) = true ∧ PyData.depthAll (ns.map PyData.str) = 0
  | [], _ => ⟨by simp [PyData.canLayAll0], by simp [PyData.depthAll]⟩
  | n :: ns, h => by
    obtain ⟨a, b⟩ := strs_lay fun x hx => h x (List.mem_cons_of_mem _ hx)
    have z := (Nc.str (h n List.mem_cons_self).le.1 (h n List.mem_cons_self).le.2).cl
    refine ⟨?_, ?_⟩
    · simp only [List.map_cons, PyData.canLayAll0, a, Bool.and_true]
      exact z
    · simp only [List.map_cons, PyData.depthAll, b, PyData.depth, Nat.max_self]
theorem strs_shaped {ns : List Str} (h : NamesOk ns) : SeqAt.shaped (.list (ns.map PyData.str)) = true := by
  obtain ⟨a, b⟩ := strs_lay h
  unfold SeqAt.shaped
  rw [Bool.and_eq_true, decide_eq_true_eq]
  refine ⟨by simp only [PyData.canLay0, a], ?_⟩
  simp only [PyData.depth, b]
  decide
def spTerm (d : Nat) : Sp := fun vs H Q _ => ∃ (p n b : Addr) (ns : List Str) (rs : List Int), vs = [.ref p, .int d, .ref n, .ref b] ∧ PoolAt H p ∧ n ≠ p ∧ b ≠ p ∧ H n = some (.lst (ns.map V.str)) ∧ ns.length ≤ 100 ∧ NamesOk ns ∧ H b = some (.lst (rs.map V.int)) ∧ rs.Nodup ∧ rs.length ≤ 1000 ∧ 1 ≤ d ∧
  ∀ (v : V) (H' : Hp) (t : Tm), Kept p H H' → PoolAt H' p → TmAt H' v t → Lv (· ∈ ns) (Few rs) d t → Q v H'
theorem sc_law_term : FnScope ["_law_pool_here", "_law_deep", "_law_names_here", "_law_some", "_law_way", "_law_least", "_law_most", "_law_k"] ["_law_pool_here", "_law_deep", "_law_names_here", "_law_some"] (defScope s_law_term) := ⟨rfl, rfl, rfl, by decide +kernel, rfl, by decide +kernel, by decide +kernel⟩
section
variable {P : Program} {w : World} {K : PySem.W.Frag} {mg : Str → Option Value} {base : Heap}
theorem ok_term (T : At K mg "_law_term" s_law_term ["_law_pool_here", "_law_deep", "_law_names_here", "_law_some"]) (B : Bt mg) (c_take : Cal P w K mg base 1 "_law_take" ["_law_pool_here", "_law_many"] spTake) (c_picked : Cal P w K mg base 2 "_law_picked" ["_law_pool_here", "_law_some", "_law_many"] (spPicked K)) :
    ∀ d : Nat, Cal P w K mg base (d + 3) "_law_term" ["_law_pool_here", "_law_deep", "_law_names_here", "_law_some"] (spTerm d)
  | 0 => by
    refine cal_of T sc_law_term (fun vs H Q E h => ?_) (fun f cdv A outer s H vs Q E hr h => ?_)
    · obtain ⟨p, n, b, ns, rs, rfl, _⟩ := h
      rfl
    · obtain ⟨p, n, b, ns, rs, rfl, hp, np, bp, hn, hnl, hno, hb, nd, hrl, d1, q⟩ := h
      exact absurd d1 (by decide)
  | d + 1 => by
    have c_term := ok_term T B c_take c_picked d
    refine cal_of T sc_law_term (fun vs H Q E h => ?_) (fun f cdv A outer s H vs Q E hr h => ?_)
    · obtain ⟨p, n, b, ns, rs, rfl, _⟩ := h
      rfl
    · obtain ⟨p, n, b, ns, rs, rfl, hp, np, bp, hn, hnl, hno, hb, nd, hrl, d1, q⟩ := h
      refine ⟨_, (pss_cons (ps_set (i := 4) sc_law_term.nd rfl (Or.inl rfl) (pe_own c_take hr (by omega) (by rfl) (pa_cons (pv 0) (pa_cons pe_int pa_nil))))
      (pss_cons (ps_if (pt_cmpR op_eq (pv 4) pe_int (nomark _)) (pss_one (ps_ret (pe_tupF (pa_cons pe_str pa_nil)))) pss_nil)
      (pss_cons (ps_if (PW.pt (pw_and (pt_cmpR op_eq (pv 4) pe_int (nomark _)) (pw_and1 (pt_cmpR (op_neD hr.units) (pv 2) (pe_lst pa_nil) (nomark _))))) (pss_one (ps_ret (pe_tupF (pa_cons pe_str (pa_cons (pe_ix ix_list (pv 2) (pe_own c_take hr (by omega) (by rfl) (pa_cons (pv 0) (pa_cons (pe_callB call_len_seq (by rfl) B.len PySem.boot_len (pa_cons (pv 2) pa_nil)) pa_nil))) (fun _ _ => rfl)) pa_nil))))) pss_nil)
      (pss_cons (ps_if (PW.pt (pw_and (pt_cmpR op_gt (pv 1) pe_int (nomark _)) (pw_and1 (pt_cmpR op_eq (pv 4) pe_int (nomark _))))) (pss_one (ps_ret (pe_tupF (pa_cons pe_str (pa_cons (pe_callTy call_tupleF (by rfl) B.tuple (by decide +kernel) (pa_cons (pe_lc (own := [("_law_k", 7)]) (g := (gName 7)) (tt := tYes) (te := (tCall (spTerm d) [] E0 (tCons (tVar 0) (tCons (tOp (rI0 fun i j => .int (i - j)) (tVar 1) (tC (.int 1))) (tCons (tVar 2) (tCons (tVar 3) tNil)))))) (by rfl) sc_law_term.nd (pi_range1 (by rfl) B.range (pa_cons (pe_op op_add pe_int (pe_own c_take hr (by omega) (by rfl) (pa_cons (pv 0) (pa_cons pe_int pa_nil)))) pa_nil)) (blkOk_by (own := [("_law_k", 7)]) (N := ["_law_pool_here", "_law_deep", "_law_names_here", "_law_some", "_law_way", "_law_least", "_law_most", "_law_k"]) (sc := defScope s_law_term) (by decide +kernel)) (fun _ _ _ _ _ => (pg_name (i := 7) sc_law_term.nd rfl (Or.inl rfl))) (fun _ _ _ _ _ => pts_nil) (fun _ _ _ _ _ => (pe_own c_term hr (by omega) (by rfl) (pa_cons (pv 0) (pa_cons (pe_op op_sub (pv 1) pe_int) (pa_cons (pv 2) (pa_cons (pv 3) pa_nil))))))) pa_nil)) pa_nil))))) pss_nil)
      (pss_cons (ps_if (PW.pt (pw_and (pt_cmpR op_gt (pv 1) pe_int (nomark _)) (pw_and1 (pt_cmpR op_eq (pv 4) pe_int (nomark _))))) (pss_one (ps_ret (pe_tupF (pa_cons pe_str (pa_cons (pe_callTy call_tupleF (by rfl) B.tuple (by decide +kernel) (pa_cons (pe_lc (own := [("_law_k", 7)]) (g := (gName 7)) (tt := tYes) (te := (tCall (spTerm d) [] E0 (tCons (tVar 0) (tCons (tOp (rI0 fun i j => .int (i - j)) (tVar 1) (tC (.int 1))) (tCons (tVar 2) (tCons (tVar 3) tNil)))))) (by rfl) sc_law_term.nd (pi_range1 (by rfl) B.range (pa_cons (pe_op op_add pe_int (pe_own c_take hr (by omega) (by rfl) (pa_cons (pv 0) (pa_cons pe_int pa_nil)))) pa_nil)) (blkOk_by (own := [("_law_k", 7)]) (N := ["_law_pool_here", "_law_deep", "_law_names_here", "_law_some", "_law_way", "_law_least", "_law_most", "_law_k"]) (sc := defScope s_law_term) (by decide +kernel)) (fun _ _ _ _ _ => (pg_name (i := 7) sc_law_term.nd rfl (Or.inl rfl))) (fun _ _ _ _ _ => pts_nil) (fun _ _ _ _ _ => (pe_own c_term hr (by omega) (by rfl) (pa_cons (pv 0) (pa_cons (pe_op op_sub (pv 1) pe_int) (pa_cons (pv 2) (pa_cons (pv 3) pa_nil))))))) pa_nil)) pa_nil))))) pss_nil)
      (pss_cons (ps_if (PW.pt (pw_and (pt_cmpR op_gt (pv 1) pe_int (nomark _)) (pw_and1 (pt_cmpR op_gt (pv 4) pe_int (nomark _))))) (pss_cons (ps_set (i := 5) sc_law_term.nd rfl (Or.inl rfl) (pe_own c_take hr (by omega) (by rfl) (pa_cons (pv 0) (pa_cons pe_int pa_nil))))
      (pss_cons (ps_set (i := 6) sc_law_term.nd rfl (Or.inl rfl) (pe_ix ix_list (pe_lst (pa_cons pe_non (pa_cons (pv 5) (pa_cons (pe_op op_add (pv 5) pe_int) (pa_cons (pe_op op_add (pv 5) (pe_own c_take hr (by omega) (by rfl) (pa_cons (pv 0) (pa_cons pe_int pa_nil)))) pa_nil))))) (pe_own c_take hr (by omega) (by rfl) (pa_cons (pv 0) (pa_cons pe_int pa_nil))) (fun _ _ => rfl)))
      (pss_one (ps_ret (pe_tupF (pa_cons pe_str (pa_cons (pv 5) (pa_cons (pv 6) (pa_cons (pe_own c_term hr (by omega) (by rfl) (pa_cons (pv 0) (pa_cons (pe_op op_sub (pv 1) pe_int) (pa_cons (pv 2) (pa_cons (pv 3) pa_nil))))) pa_nil))))))))) pss_nil)
      (pss_one (ps_ret (pe_tupF (pa_cons pe_str (pa_cons (pe_callTy call_tupleF (by rfl) B.tuple (by decide +kernel) (pa_cons (pe_own c_picked hr (by omega) (by rfl) (pa_cons (pv 0) (pa_cons (pv 3) (pa_cons (pe_ix ix_list (pe_lst (pa_cons pe_int (pa_cons pe_int (pa_cons pe_int (pa_cons pe_int pa_nil))))) (pe_own c_take hr (by omega) (by rfl) (pa_cons (pv 0) (pa_cons pe_int pa_nil))) (fun _ _ => rfl)) pa_nil)))) pa_nil)) pa_nil))))))))))), ?_⟩
      refine ⟨_, rfl, p, 9, rfl, hp, (by decide), (by decide), fun wy o w0 w1 po => ?_⟩
      have hk1 : Kept p H (upd H p o) := Kept.upd p H o
      have hp1 : PoolAt (upd H p o) p := ⟨o, upd_same, po⟩
      have ask : ∀ (H0 : Hp) (D : Ends) (y5 y6 y7 : Option V), D.rt = Q → Kept p H H0 → PoolAt H0 p → tRet (tTupF (tCons (tC (.str "ask")) (tCons (tCB (rTupL K) (tCons (tCall (spPicked K) [] E0 (tCons (tVar 0) (tCons (tVar 3) (tCons (tOp (rIxL K) (tLst (tCons (tC (.int 1)) (tCons (tC (.int 1)) (tCons (tC (.int 2)) (tCons (tC (.int 3)) tNil))))) (tCall spTake [] E0 (tCons (tVar 0) (tCons (tC (.int 4)) tNil)))) tNil)))) tNil)) tNil))) D [some (.ref p), some (.int ((d + 1 : Nat) : Int)), some (.ref n), some (.ref b), some (.int wy), y5, y6, y7] H0 := by
        intro H0 D y5 y6 y7 hD hk hpo
        refine ⟨_, rfl, _, rfl, (by show 4 ≤ sizeLine; decide), fun L nL => ?_⟩
        have eLp : L ≠ p := pool_ne hpo nL
        have hb0 : H0 b = some (.lst (rs.map V.int)) := hk _ _ hb bp
        have eLb : b ≠ L := ne_of_none hb0 nL
        refine ⟨_, rfl, p, 4, rfl, hpo.upd eLp.symm, (by decide), (by decide), fun j o2 j0 j1 po2 => ?_⟩
        obtain ⟨m, hm, m0, m3⟩ := few_at j0 j1
        refine ⟨_, _, _, _, rfl, rfl, SqL.of (by rw [upd_ne eLp, upd_same]), hm, ?_⟩
        refine ⟨p, b, rs, m, rfl, ⟨o2, upd_same, po2⟩, SqL.of (by rw [upd_ne bp, upd_ne eLb]; exact hb0), bp, nd, hrl, m0, fun q1 H5 ms n5 k5 hp5 h5 nd5 sub5 len5 pw5 => ?_⟩
        refine ⟨q1, _, rfl, SqL.of h5, fun u H6 s6 n6 pu => ?_⟩
        refine ⟨(by show 2 ≤ sizeLine; decide), fun a H7 s7 n7 pa => ?_⟩
        rw [hD]
        have kk : Kept p H H7 := ((((hk.trans (Kept.same (same_upd nL))).trans (Kept.upd p _ o2)).trans k5).trans (Kept.same (s6.trans s7)))
        exact q (.ref a) H7 (.ask ms) kk (hp5.same (s6.trans s7)) (.ask pa (pu.same s7)) ⟨by omega, sub5⟩
      obtain h | h | h | h | h | h | h | h | h : wy = 0 ∨ wy = 1 ∨ wy = 2 ∨ wy = 3 ∨ wy = 4 ∨ wy = 5 ∨ wy = 6 ∨ wy = 7 ∨ wy = 8 := by omega
      · subst h
        refine ⟨_, rfl, rfl, _, rfl, iteB (fun z => absurd z (by decide +kernel)) (fun _ => ?_)⟩
        refine ⟨_, rfl, rfl, _, rfl, iteB (fun z => absurd z (by decide +kernel)) (fun _ => iteF ?_)⟩
        by_cases hd1 : 1 ≤ d
        · refine ⟨_, rfl, _, _, rfl, rfl, _, rfl, iteB (fun _ => ?_) (fun z => absurd (of_decide_eq_false z) (by omega))⟩
          refine ⟨_, rfl, rfl, _, rfl, iteB (fun z => absurd z (by decide +kernel)) (fun _ => ?_)⟩
          refine ⟨_, rfl, _, _, rfl, rfl, _, rfl, iteB (fun _ => ?_) (fun z => absurd (of_decide_eq_false z) (by omega))⟩
          refine ⟨_, rfl, rfl, _, rfl, iteB (fun z => absurd z (by decide +kernel)) (fun _ => ?_)⟩
          refine ⟨_, rfl, _, _, rfl, rfl, _, rfl, iteB (fun _ => ?_) (fun z => absurd (of_decide_eq_false z) (by omega))⟩
          refine ⟨_, rfl, _, _, rfl, rfl, _, rfl, iteB (fun z => absurd z (by decide +kernel)) (fun _ => ?_)⟩
          exact ask _ _ none none none rfl hk1 hp1
        · refine ⟨_, rfl, _, _, rfl, rfl, _, rfl, iteB (fun z => absurd (of_decide_eq_true z) (by omega)) (fun _ => iteF ?_)⟩
          refine ⟨_, rfl, _, _, rfl, rfl, _, rfl, iteB (fun z => absurd (of_decide_eq_true z) (by omega)) (fun _ => iteF ?_)⟩
          refine ⟨_, rfl, _, _, rfl, rfl, _, rfl, iteB (fun z => absurd (of_decide_eq_true z) (by omega)) (fun _ => iteF ?_)⟩
          exact ask _ _ none none none rfl hk1 hp1
      · subst h
        refine ⟨_, rfl, rfl, _, rfl, iteB (fun z => absurd z (by decide +kernel)) (fun _ => ?_)⟩
        refine ⟨_, rfl, rfl, _, rfl, iteB (fun z => absurd z (by decide +kernel)) (fun _ => iteF ?_)⟩
        by_cases hd1 : 1 ≤ d
        · refine ⟨_, rfl, _, _, rfl, rfl, _, rfl, iteB (fun _ => ?_) (fun z => absurd (of_decide_eq_false z) (by omega))⟩
          refine ⟨_, rfl, rfl, _, rfl, iteB (fun z => absurd z (by decide +kernel)) (fun _ => ?_)⟩
          refine ⟨_, rfl, _, _, rfl, rfl, _, rfl, iteB (fun _ => ?_) (fun z => absurd (of_decide_eq_false z) (by omega))⟩
          refine ⟨_, rfl, rfl, _, rfl, iteB (fun z => absurd z (by decide +kernel)) (fun _ => ?_)⟩
          refine ⟨_, rfl, _, _, rfl, rfl, _, rfl, iteB (fun _ => ?_) (fun z => absurd (of_decide_eq_false z) (by omega))⟩
          refine ⟨_, rfl, _, _, rfl, rfl, _, rfl, iteB (fun z => absurd z (by decide +kernel)) (fun _ => ?_)⟩
          exact ask _ _ none none none rfl hk1 hp1
        · refine ⟨_, rfl, _, _, rfl, rfl, _, rfl, iteB (fun z => absurd (of_decide_eq_true z) (by omega)) (fun _ => iteF ?_)⟩
          refine ⟨_, rfl, _, _, rfl, rfl, _, rfl, iteB (fun z => absurd (of_decide_eq_true z) (by omega)) (fun _ => iteF ?_)⟩
          refine ⟨_, rfl, _, _, rfl, rfl, _, rfl, iteB (fun z => absurd (of_decide_eq_true z) (by omega)) (fun _ => iteF ?_)⟩
          exact ask _ _ none none none rfl hk1 hp1
      · subst h
        refine ⟨_, rfl, rfl, _, rfl, iteB (fun z => absurd z (by decide +kernel)) (fun _ => ?_)⟩
        refine ⟨_, rfl, rfl, _, rfl, iteB (fun z => absurd z (by decide +kernel)) (fun _ => iteF ?_)⟩
        by_cases hd1 : 1 ≤ d
        · refine ⟨_, rfl, _, _, rfl, rfl, _, rfl, iteB (fun _ => ?_) (fun z => absurd (of_decide_eq_false z) (by omega))⟩
          refine ⟨_, rfl, rfl, _, rfl, iteB (fun z => absurd z (by decide +kernel)) (fun _ => ?_)⟩
          refine ⟨_, rfl, _, _, rfl, rfl, _, rfl, iteB (fun _ => ?_) (fun z => absurd (of_decide_eq_false z) (by omega))⟩
          refine ⟨_, rfl, rfl, _, rfl, iteB (fun z => absurd z (by decide +kernel)) (fun _ => ?_)⟩
          refine ⟨_, rfl, _, _, rfl, rfl, _, rfl, iteB (fun _ => ?_) (fun z => absurd (of_decide_eq_false z) (by omega))⟩
          refine ⟨_, rfl, _, _, rfl, rfl, _, rfl, iteB (fun z => absurd z (by decide +kernel)) (fun _ => ?_)⟩
          exact ask _ _ none none none rfl hk1 hp1
        · refine ⟨_, rfl, _, _, rfl, rfl, _, rfl, iteB (fun z => absurd (of_decide_eq_true z) (by omega)) (fun _ => iteF ?_)⟩
          refine ⟨_, rfl, _, _, rfl, rfl, _, rfl, iteB (fun z => absurd (of_decide_eq_true z) (by omega)) (fun _ => iteF ?_)⟩
          refine ⟨_, rfl, _, _, rfl, rfl, _, rfl, iteB (fun z => absurd (of_decide_eq_true z) (by omega)) (fun _ => iteF ?_)⟩
          exact ask _ _ none none none rfl hk1 hp1
      · subst h
        refine ⟨_, rfl, rfl, _, rfl, iteB (fun _ => ?_) (fun z => absurd z (by decide +kernel))⟩
        refine ⟨(by show 1 ≤ sizeLine; decide), fun a H7 s7 n7 pa => ?_⟩
        exact q (.ref a) H7 .rest (hk1.trans (Kept.same s7)) (hp1.same s7) (.rest pa) trivial
      · subst h
        refine ⟨_, rfl, rfl, _, rfl, iteB (fun z => absurd z (by decide +kernel)) (fun _ => ?_)⟩
        refine ⟨_, rfl, rfl, _, rfl, iteB (fun _ => ?_) (fun z => absurd z (by decide +kernel))⟩
        refine ⟨_, rfl, Nat.zero_le _, fun c nc => ?_⟩
        have ecp : c ≠ p := pool_ne hp1 nc
        have hn1 : (upd H p o) n = some (.lst (ns.map V.str)) := hk1 _ _ hn np
        have ecn : n ≠ c := ne_of_none hn1 nc
        have hk2 : Kept p H (upd (upd H p o) c (.lst [])) := hk1.trans (Kept.same (same_upd nc))
        have hp2 : PoolAt (upd (upd H p o) c (.lst [])) p := hp1.upd ecp.symm
        have hn2 := hk2 _ _ hn np
        refine ⟨_, _, .lst (SqL.of hn2) (dp_strs ns), .lst (SqL.of upd_same) .nil, strs_shaped hno, shaped_nil, _, rfl, ?_⟩
        cases ns with
        | nil =>
          refine iteF ?_
          by_cases hd1 : 1 ≤ d
          · refine ⟨_, rfl, _, _, rfl, rfl, _, rfl, iteB (fun _ => ?_) (fun z => absurd (of_decide_eq_false z) (by omega))⟩
            refine ⟨_, rfl, rfl, _, rfl, iteB (fun z => absurd z (by decide +kernel)) (fun _ => ?_)⟩
            refine ⟨_, rfl, _, _, rfl, rfl, _, rfl, iteB (fun _ => ?_) (fun z => absurd (of_decide_eq_false z) (by omega))⟩
            refine ⟨_, rfl, rfl, _, rfl, iteB (fun z => absurd z (by decide +kernel)) (fun _ => ?_)⟩
            refine ⟨_, rfl, _, _, rfl, rfl, _, rfl, iteB (fun _ => ?_) (fun z => absurd (of_decide_eq_false z) (by omega))⟩
            refine ⟨_, rfl, _, _, rfl, rfl, _, rfl, iteB (fun z => absurd z (by decide +kernel)) (fun _ => ?_)⟩
            exact ask _ _ none none none rfl hk2 hp2
          · refine ⟨_, rfl, _, _, rfl, rfl, _, rfl, iteB (fun z => absurd (of_decide_eq_true z) (by omega)) (fun _ => iteF ?_)⟩
            refine ⟨_, rfl, _, _, rfl, rfl, _, rfl, iteB (fun z => absurd (of_decide_eq_true z) (by omega)) (fun _ => iteF ?_)⟩
            refine ⟨_, rfl, _, _, rfl, rfl, _, rfl, iteB (fun z => absurd (of_decide_eq_true z) (by omega)) (fun _ => iteF ?_)⟩
            exact ask _ _ none none none rfl hk2 hp2
        | cons n0 nr =>
          refine iteT ?_
          refine ⟨_, rfl, _, rfl, _, rfl, n, _, rfl, .inl (SqL.of hn2), p, _, rfl, hp2, ?_, ?_, fun r o2 r0 r1 po2 => ?_⟩
          · rw [List.length_map, List.length_cons]
            omega
          · rw [List.length_map]
            omega
          · rw [List.length_map] at r1
            have hr1 : r.toNat < (n0 :: nr).length := by omega
            have hg : ((n0 :: nr).map V.str)[r.toNat]? = some (.str (n0 :: nr)[r.toNat]) := by
              rw [List.getElem?_map, List.getElem?_eq_getElem hr1]
              rfl
            have hmem : (n0 :: nr)[r.toNat] ∈ (n0 :: nr) := List.getElem_mem hr1
            generalize (n0 :: nr)[r.toNat] = nm at *
            refine ⟨_, _, _, _, rfl, rfl, SqL.of (by rw [upd_ne np]; exact hn2), atI_int r0 hg, ?_⟩
            refine ⟨(by show 2 ≤ sizeLine; decide), fun a H7 s7 n7 pa => ?_⟩
            exact q (.ref a) H7 (.call nm) ((hk2.trans (Kept.upd p _ o2)).trans (Kept.same s7)) (PoolAt.same ⟨o2, upd_same, po2⟩ s7) (.call pa) hmem
      · subst h
        refine ⟨_, rfl, rfl, _, rfl, iteB (fun z => absurd z (by decide +kernel)) (fun _ => ?_)⟩
        refine ⟨_, rfl, rfl, _, rfl, iteB (fun z => absurd z (by decide +kernel)) (fun _ => iteF ?_)⟩
        by_cases hd1 : 1 ≤ d
        · refine ⟨_, rfl, _, _, rfl, rfl, _, rfl, iteB (fun _ => ?_) (fun z => absurd (of_decide_eq_false z) (by omega))⟩
          refine ⟨_, rfl, rfl, _, rfl, iteB (fun _ => ?_) (fun z => absurd z (by decide +kernel))⟩
          refine ⟨_, rfl, p, 3, rfl, hp1, (by decide), (by decide), fun r2 o2 r20 r21 po2 => ?_⟩
          refine ⟨_, _, rfl, rfl, _, rfl, (by omega), (by omega), fun D nD => ?_⟩
          obtain ⟨eDp, nD1⟩ := free_upd nD
          have nD0 : H D = none := hk1.free eDp nD1
          have hk2 := hk1.trans (Kept.upd p _ o2)
          refine lc_range (lo := 0) (n := (1 + r2).toNat) (fun i H2 => ∃ (vs : List V) (ts : List Tm), H2 D = some (.lst vs) ∧ TmL H2 vs ts ∧ ts.length = i ∧ (∀ t ∈ ts, Lv (· ∈ ns) (Few rs) d t) ∧ PoolAt H2 p ∧ Kept p H H2) ?_ ?_ ?_
          · exact ⟨[], [], upd_same, .nil, rfl, fun _ hx => (List.not_mem_nil hx).elim, PoolAt.upd ⟨o2, upd_same, po2⟩ eDp.symm, hk2.set nD0⟩
          · rintro i H2 hi ⟨vs, ts, hD, tl, htl, hts, hpo, hk⟩
            refine ⟨rfl, tyes ?_⟩
            refine ⟨_, rfl, _, rfl, _, _, rfl, rfl, _, rfl, _, rfl, p, n, b, ns, rs, (by show [V.ref p, V.int (((d + 1 : Nat) : Int) - 1), .ref n, .ref b] = _; rw [show ((d + 1 : Nat) : Int) - 1 = (d : Int) by omega]), hpo, np, bp, hk _ _ hn np, hnl, hno, hk _ _ hb bp, nd, hrl, hd1, fun v H3 t k3 hp3 ht hlv => ?_⟩
            have h3 : H3 D = some (.lst vs) := k3 _ _ hD eDp
            have hvl : vs.length = ts.length := tl.len
            refine ⟨vs, h3, small1000 (by omega), vs ++ [v], ts ++ [t], upd_same, ?_, ?_, ?_, hp3.upd eDp.symm, (hk.trans k3).set nD0⟩
            · exact TmL.snoc (ht.keep (KT.upd h3)) (tl.keep ((KT.of k3 hpo).trans (KT.upd h3)))
            · rw [List.length_append, htl]
              rfl
            · intro x hx
              rcases List.mem_append.mp hx with z | z
              · exact hts x z
              · rw [List.mem_singleton.mp z]
                exact hlv
          · rintro H2 ⟨vs, ts, hD, tl, htl, hts, hpo, hk⟩
            refine ⟨D, _, rfl, SqL.of hD, fun u H6 s6 n6 pu => ?_⟩
            refine ⟨(by show 2 ≤ sizeLine; decide), fun a H7 s7 n7 pa => ?_⟩
            exact q (.ref a) H7 (.thn ts) (hk.trans (Kept.same (s6.trans s7))) (hpo.same (s6.trans s7)) (.thn pa (pu.same s7) (tl.keep (KT.same (s6.trans s7)))) ⟨by omega, hts⟩
        · refine ⟨_, rfl, _, _, rfl, rfl, _, rfl, iteB (fun z => absurd (of_decide_eq_true z) (by omega)) (fun _ => iteF ?_)⟩
          refine ⟨_, rfl, _, _, rfl, rfl, _, rfl, iteB (fun z => absurd (of_decide_eq_true z) (by omega)) (fun _ => iteF ?_)⟩
          refine ⟨_, rfl, _, _, rfl, rfl, _, rfl, iteB (fun z => absurd (of_decide_eq_true z) (by omega)) (fun _ => iteF ?_)⟩
          exact ask _ _ none none none rfl hk1 hp1
      · subst h
        refine ⟨_, rfl, rfl, _, rfl, iteB (fun z => absurd z (by decide +kernel)) (fun _ => ?_)⟩
        refine ⟨_, rfl, rfl, _, rfl, iteB (fun z => absurd z (by decide +kernel)) (fun _ => iteF ?_)⟩
        by_cases hd1 : 1 ≤ d
        · refine ⟨_, rfl, _, _, rfl, rfl, _, rfl, iteB (fun _ => ?_) (fun z => absurd (of_decide_eq_false z) (by omega))⟩
          refine ⟨_, rfl, rfl, _, rfl, iteB (fun z => absurd z (by decide +kernel)) (fun _ => ?_)⟩
          refine ⟨_, rfl, _, _, rfl, rfl, _, rfl, iteB (fun _ => ?_) (fun z => absurd (of_decide_eq_false z) (by omega))⟩
          refine ⟨_, rfl, rfl, _, rfl, iteB (fun _ => ?_) (fun z => absurd z (by decide +kernel))⟩
          refine ⟨_, rfl, p, 2, rfl, hp1, (by decide), (by decide), fun r2 o2 r20 r21 po2 => ?_⟩
          refine ⟨_, _, rfl, rfl, _, rfl, (by omega), (by omega), fun D nD => ?_⟩
          obtain ⟨eDp, nD1⟩ := free_upd nD
          have nD0 : H D = none := hk1.free eDp nD1
          have hk2 := hk1.trans (Kept.upd p _ o2)
          refine lc_range (lo := 0) (n := (2 + r2).toNat) (fun i H2 => ∃ (vs : List V) (ts : List Tm), H2 D = some (.lst vs) ∧ TmL H2 vs ts ∧ ts.length = i ∧ (∀ t ∈ ts, Lv (· ∈ ns) (Few rs) d t) ∧ PoolAt H2 p ∧ Kept p H H2) ?_ ?_ ?_
          · exact ⟨[], [], upd_same, .nil, rfl, fun _ hx => (List.not_mem_nil hx).elim, PoolAt.upd ⟨o2, upd_same, po2⟩ eDp.symm, hk2.set nD0⟩
          · rintro i H2 hi ⟨vs, ts, hD, tl, htl, hts, hpo, hk⟩
            refine ⟨rfl, tyes ?_⟩
            refine ⟨_, rfl, _, rfl, _, _, rfl, rfl, _, rfl, _, rfl, p, n, b, ns, rs, (by show [V.ref p, V.int (((d + 1 : Nat) : Int) - 1), .ref n, .ref b] = _; rw [show ((d + 1 : Nat) : Int) - 1 = (d : Int) by omega]), hpo, np, bp, hk _ _ hn np, hnl, hno, hk _ _ hb bp, nd, hrl, hd1, fun v H3 t k3 hp3 ht hlv => ?_⟩
            have h3 : H3 D = some (.lst vs) := k3 _ _ hD eDp
            have hvl : vs.length = ts.length := tl.len
            refine ⟨vs, h3, small1000 (by omega), vs ++ [v], ts ++ [t], upd_same, ?_, ?_, ?_, hp3.upd eDp.symm, (hk.trans k3).set nD0⟩
            · exact TmL.snoc (ht.keep (KT.upd h3)) (tl.keep ((KT.of k3 hpo).trans (KT.upd h3)))
            · rw [List.length_append, htl]
              rfl
            · intro x hx
              rcases List.mem_append.mp hx with z | z
              · exact hts x z
              · rw [List.mem_singleton.mp z]
                exact hlv
          · rintro H2 ⟨vs, ts, hD, tl, htl, hts, hpo, hk⟩
            refine ⟨D, _, rfl, SqL.of hD, fun u H6 s6 n6 pu => ?_⟩
            refine ⟨(by show 2 ≤ sizeLine; decide), fun a H7 s7 n7 pa => ?_⟩
            exact q (.ref a) H7 (.frk ts) (hk.trans (Kept.same (s6.trans s7))) (hpo.same (s6.trans s7)) (.frk pa (pu.same s7) (tl.keep (KT.same (s6.trans s7)))) ⟨by omega, hts⟩
        · refine ⟨_, rfl, _, _, rfl, rfl, _, rfl, iteB (fun z => absurd (of_decide_eq_true z) (by omega)) (fun _ => iteF ?_)⟩
          refine ⟨_, rfl, _, _, rfl, rfl, _, rfl, iteB (fun z => absurd (of_decide_eq_true z) (by omega)) (fun _ => iteF ?_)⟩
          refine ⟨_, rfl, _, _, rfl, rfl, _, rfl, iteB (fun z => absurd (of_decide_eq_true z) (by omega)) (fun _ => iteF ?_)⟩
          exact ask _ _ none none none rfl hk1 hp1
      · subst h
        refine ⟨_, rfl, rfl, _, rfl, iteB (fun z => absurd z (by decide +kernel)) (fun _ => ?_)⟩
        refine ⟨_, rfl, rfl, _, rfl, iteB (fun z => absurd z (by decide +kernel)) (fun _ => iteF ?_)⟩
        by_cases hd1 : 1 ≤ d
        · refine ⟨_, rfl, _, _, rfl, rfl, _, rfl, iteB (fun _ => ?_) (fun z => absurd (of_decide_eq_false z) (by omega))⟩
          refine ⟨_, rfl, rfl, _, rfl, iteB (fun z => absurd z (by decide +kernel)) (fun _ => ?_)⟩
          refine ⟨_, rfl, _, _, rfl, rfl, _, rfl, iteB (fun _ => ?_) (fun z => absurd (of_decide_eq_false z) (by omega))⟩
          refine ⟨_, rfl, rfl, _, rfl, iteB (fun z => absurd z (by decide +kernel)) (fun _ => ?_)⟩
          refine ⟨_, rfl, _, _, rfl, rfl, _, rfl, iteB (fun _ => ?_) (fun z => absurd (of_decide_eq_false z) (by omega))⟩
          refine ⟨_, rfl, _, _, rfl, rfl, _, rfl, iteB (fun _ => ?_) (fun z => absurd z (by decide +kernel))⟩
          refine ⟨_, rfl, p, 3, rfl, hp1, (by decide), (by decide), fun l o2 l0 l1 po2 => ?_⟩
          have hp2 : PoolAt (upd (upd H p o) p o2) p := ⟨o2, upd_same, po2⟩
          refine ⟨_, rfl, _, rfl, _, _, rfl, rfl, _, rfl, _, rfl, p, 3, rfl, hp2, (by decide), (by decide), fun e o3 e0 e1 po3 => ?_⟩
          refine ⟨_, _, rfl, rfl, (by show 4 ≤ sizeLine; decide), fun L nL => ?_⟩
          have hp3 : PoolAt (upd (upd (upd H p o) p o2) p o3) p := ⟨o3, upd_same, po3⟩
          have eLp : L ≠ p := pool_ne hp3 nL
          refine ⟨_, rfl, p, 4, rfl, hp3.upd eLp.symm, (by decide), (by decide), fun j o4 j0 j1 po4 => ?_⟩
          obtain ⟨m, hm, hmk⟩ := most_at (e := e) l0 (by omega) e0 e1 j0 j1
          refine ⟨_, _, _, _, rfl, rfl, SqL.of (by rw [upd_ne eLp, upd_same]), hm, ?_⟩
          have hk3 : Kept p H (upd (upd (upd H p o) p o2) p o3) := (hk1.trans (Kept.upd p _ o2)).trans (Kept.upd p _ o3)
          have hk4 : Kept p H (upd (upd (upd (upd (upd H p o) p o2) p o3) L (.lst [V.non, .int l, .int (l + 1), .int (l + e)])) p o4) := (hk3.trans (Kept.same (same_upd nL))).trans (Kept.upd p _ o4)
          refine ⟨_, rfl, _, rfl, _, rfl, _, rfl, _, _, rfl, rfl, _, rfl, _, rfl, p, n, b, ns, rs, (by show [V.ref p, V.int (((d + 1 : Nat) : Int) - 1), .ref n, .ref b] = _; rw [show ((d + 1 : Nat) : Int) - 1 = (d : Int) by omega]), ⟨o4, upd_same, po4⟩, np, bp, hk4 _ _ hn np, hnl, hno, hk4 _ _ hb bp, nd, hrl, hd1, fun v H6 t k6 hp6 ht hlv => ?_⟩
          refine ⟨(by show 4 ≤ sizeLine; decide), fun a H7 s7 n7 pa => ?_⟩
          exact q (.ref a) H7 (.rnd l m t) ((hk4.trans k6).trans (Kept.same s7)) (hp6.same s7) (.rnd pa (ht.keep (KT.same s7))) ⟨⟨l0, by omega, hmk⟩, hlv⟩
        · refine ⟨_, rfl, _, _, rfl, rfl, _, rfl, iteB (fun z => absurd (of_decide_eq_true z) (by omega)) (fun _ => iteF ?_)⟩
          refine ⟨_, rfl, _, _, rfl, rfl, _, rfl, iteB (fun z => absurd (of_decide_eq_true z) (by omega)) (fun _ => iteF ?_)⟩
          refine ⟨_, rfl, _, _, rfl, rfl, _, rfl, iteB (fun z => absurd (of_decide_eq_true z) (by omega)) (fun _ => iteF ?_)⟩
          exact ask _ _ none none none rfl hk1 hp1
      · subst h
        refine ⟨_, rfl, rfl, _, rfl, iteB (fun z => absurd z (by decide +kernel)) (fun _ => ?_)⟩
        refine ⟨_, rfl, rfl, _, rfl, iteB (fun z => absurd z (by decide +kernel)) (fun _ => iteF ?_)⟩
        by_cases hd1 : 1 ≤ d
        · refine ⟨_, rfl, _, _, rfl, rfl, _, rfl, iteB (fun _ => ?_) (fun z => absurd (of_decide_eq_false z) (by omega))⟩
          refine ⟨_, rfl, rfl, _, rfl, iteB (fun z => absurd z (by decide +kernel)) (fun _ => ?_)⟩
          refine ⟨_, rfl, _, _, rfl, rfl, _, rfl, iteB (fun _ => ?_) (fun z => absurd (of_decide_eq_false z) (by omega))⟩
          refine ⟨_, rfl, rfl, _, rfl, iteB (fun z => absurd z (by decide +kernel)) (fun _ => ?_)⟩
          refine ⟨_, rfl, _, _, rfl, rfl, _, rfl, iteB (fun _ => ?_) (fun z => absurd (of_decide_eq_false z) (by omega))⟩
          refine ⟨_, rfl, _, _, rfl, rfl, _, rfl, iteB (fun _ => ?_) (fun z => absurd z (by decide +kernel))⟩
          refine ⟨_, rfl, p, 3, rfl, hp1, (by decide), (by decide), fun l o2 l0 l1 po2 => ?_⟩
          have hp2 : PoolAt (upd (upd H p o) p o2) p := ⟨o2, upd_same, po2⟩
          refine ⟨_, rfl, _, rfl, _, _, rfl, rfl, _, rfl, _, rfl, p, 3, rfl, hp2, (by decide), (by decide), fun e o3 e0 e1 po3 => ?_⟩
          refine ⟨_, _, rfl, rfl, (by show 4 ≤ sizeLine; decide), fun L nL => ?_⟩
          have hp3 : PoolAt (upd (upd (upd H p o) p o2) p o3) p := ⟨o3, upd_same, po3⟩
          have eLp : L ≠ p := pool_ne hp3 nL
          refine ⟨_, rfl, p, 4, rfl, hp3.upd eLp.symm, (by decide), (by decide), fun j o4 j0 j1 po4 => ?_⟩
          obtain ⟨m, hm, hmk⟩ := most_at (e := e) l0 (by omega) e0 e1 j0 j1
          refine ⟨_, _, _, _, rfl, rfl, SqL.of (by rw [upd_ne eLp, upd_same]), hm, ?_⟩
          have hk3 : Kept p H (upd (upd (upd H p o) p o2) p o3) := (hk1.trans (Kept.upd p _ o2)).trans (Kept.upd p _ o3)
          have hk4 : Kept p H (upd (upd (upd (upd (upd H p o) p o2) p o3) L (.lst [V.non, .int l, .int (l + 1), .int (l + e)])) p o4) := (hk3.trans (Kept.same (same_upd nL))).trans (Kept.upd p _ o4)
          refine ⟨_, rfl, _, rfl, _, rfl, _, rfl, _, _, rfl, rfl, _, rfl, _, rfl, p, n, b, ns, rs, (by show [V.ref p, V.int (((d + 1 : Nat) : Int) - 1), .ref n, .ref b] = _; rw [show ((d + 1 : Nat) : Int) - 1 = (d : Int) by omega]), ⟨o4, upd_same, po4⟩, np, bp, hk4 _ _ hn np, hnl, hno, hk4 _ _ hb bp, nd, hrl, hd1, fun v H6 t k6 hp6 ht hlv => ?_⟩
          refine ⟨(by show 4 ≤ sizeLine; decide), fun a H7 s7 n7 pa => ?_⟩
          exact q (.ref a) H7 (.rnd l m t) ((hk4.trans k6).trans (Kept.same s7)) (hp6.same s7) (.rnd pa (ht.keep (KT.same s7))) ⟨⟨l0, by omega, hmk⟩, hlv⟩
        · refine ⟨_, rfl, _, _, rfl, rfl, _, rfl, iteB (fun z => absurd (of_decide_eq_true z) (by omega)) (fun _ => iteF ?_)⟩
          refine ⟨_, rfl, _, _, rfl, rfl, _, rfl, iteB (fun z => absurd (of_decide_eq_true z) (by omega)) (fun _ => iteF ?_)⟩
          refine ⟨_, rfl, _, _, rfl, rfl, _, rfl, iteB (fun z => absurd (of_decide_eq_true z) (by omega)) (fun _ => iteF ?_)⟩
          exact ask _ _ none none none rfl hk1 hp1
end
def spProgram : Sp := fun vs H Q _ => ∃ (p b : Addr) (most : Int) (d : Nat) (rs : List Int), vs = [.ref p, .int most, .int d, .ref b] ∧ PoolAt H p ∧ b ≠ p ∧ H b = some (.lst (rs.map V.int)) ∧ rs.Nodup ∧ rs.length ≤ 1000 ∧ 1 ≤ d ∧ d ≤ 5 ∧ 1 ≤ most ∧ most ≤ 6 ∧
  ∀ (u : Addr) (H' : Hp) (ws : List V) (ps : List (Str × Tm)), H u = none → Kept p H H' → PoolAt H' p → H' u = some (.lst ws) → PrL H' ws ps → PN rs d ps → NamesOk (ps.map Prod.fst) → 1 ≤ ps.length → ps.length ≤ 6 → Q (.ref u) H'
theorem sc_law_program : FnScope ["_law_pool_here", "_law_most", "_law_deep", "_law_some", "_law_names_here", "_law_k", "_law_name"] ["_law_pool_here", "_law_most", "_law_deep", "_law_some"] (defScope s_law_program) := ⟨rfl, rfl, rfl, by decide +kernel, rfl, by decide +kernel, by decide +kernel⟩
section
variable {P : Program} {w : World} {K : PySem.W.Frag} {mg : Str → Option Value} {base : Heap}
theorem ok_program (T : At K mg "_law_program" s_law_program ["_law_pool_here", "_law_most", "_law_deep", "_law_some"]) (B : Bt mg) (c_take : Cal P w K mg base 1 "_law_take" ["_law_pool_here", "_law_many"] spTake) (c_names : Cal P w K mg base 2 "_law_names" ["_law_pool_here", "_law_many"] spNames)
    (c_term : ∀ d, Cal P w K mg base (d + 3) "_law_term" ["_law_pool_here", "_law_deep", "_law_names_here", "_law_some"] (spTerm d)) : Cal P w K mg base 9 "_law_program" ["_law_pool_here", "_law_most", "_law_deep", "_law_some"] spProgram := by
  refine cal_of T sc_law_program (fun vs H Q E h => ?_) (fun f cdv A outer s H vs Q E hr h => ?_)
  · obtain ⟨p, b, most, d, rs, rfl, _⟩ := h
    rfl
  · obtain ⟨p, b, most, d, rs, rfl, hp, bp, hb, nd, hrl, d1, d5, mo1, mo6, q⟩ := h
    have c_term := c_term d
    refine ⟨_, (pss_cons (ps_set (i := 4) sc_law_program.nd rfl (Or.inr rfl) (pe_own c_names hr (by omega) (by rfl) (pa_cons (pv 0) (pa_cons (pe_op op_add pe_int (pe_own c_take hr (by omega) (by rfl) (pa_cons (pv 0) (pa_cons (pv 1) pa_nil)))) pa_nil))))
      (pss_one (ps_ret (pe_lc (own := [("_law_k", 5), ("_law_name", 6)]) (g := (gTup K 2 (gCons (gName 5) (gCons (gName 6) gNil)))) (tt := tYes) (te := (tTupF (tCons (tVar 6) (tCons (tCall (spTerm d) [] E0 (tCons (tVar 0) (tCons (tVar 2) (tCons (tSl (rSlL K) (tVar 4) (tPart (tOp (rI0 fun i j => .int (i + j)) (tVar 5) (tC (.int 1)))) tNoPart) (tCons (tVar 3) tNil))))) tNil)))) (by rfl) sc_law_program.nd (pi_enum (by rfl) B.enumerate (pa_cons (pv 4) pa_nil)) (blkOk_by (own := [("_law_k", 5), ("_law_name", 6)]) (N := ["_law_pool_here", "_law_most", "_law_deep", "_law_some", "_law_names_here", "_law_k", "_law_name"]) (sc := defScope s_law_program) (by decide +kernel)) (fun _ _ _ _ _ => (pg_tup (by rfl) (pgs_cons (pg_name (i := 5) sc_law_program.nd rfl (Or.inl rfl)) (pgs_cons (pg_name (i := 6) sc_law_program.nd rfl (Or.inl rfl)) pgs_nil)))) (fun _ _ _ _ _ => pts_nil) (fun _ _ _ _ _ => (pe_tupF (pa_cons (pv 6) (pa_cons (pe_own c_term hr (by omega) (by rfl) (pa_cons (pv 0) (pa_cons (pv 2) (pa_cons (pe_slice sl_list (pv 4) (po_some (pe_op op_add (pv 5) pe_int)) po_none) (pa_cons (pv 3) pa_nil))))) pa_nil)))))))), ?_⟩
    refine ⟨_, rfl, _, rfl, _, rfl, p, most, rfl, hp, mo1, (by omega), fun r o r0 r1 po => ?_⟩
    have hk1 : Kept p H (upd H p o) := Kept.upd p H o
    refine ⟨_, _, rfl, rfl, p, _, rfl, ⟨o, upd_same, po⟩, (by omega), (by omega), fun N H1 ns _ nN k1 hp1 hN hno hnl _ _ => ?_⟩
    have eNp : N ≠ p := (free_upd nN).1
    have nN0 : H N = none := (free_upd nN).2
    have hk2 := hk1.trans k1
    have hb1 : H1 b = some (.lst (rs.map V.int)) := hk2 _ _ hb bp
    refine ⟨_, rfl, N, _, rfl, SqL.of hN, fun D nD => ?_⟩
    have eDp : D ≠ p := pool_ne hp1 nD
    have eDN : N ≠ D := ne_of_none hN nD
    have nD0 : H D = none := hk2.free eDp nD
    refine lc_enumS (K := K) (a := N) (xs := ns.map V.str) (fun i H2 => ∃ (ws : List V) (ps : List (Str × Tm)), H2 D = some (.lst ws) ∧ PrL H2 ws ps ∧ ps.map Prod.fst = ns.take i ∧ (∀ k q, ps[k]? = some q → Lv (· ∈ ns.drop (k + 1)) (Few rs) d q.2) ∧ H2 N = some (.lst (ns.map V.str)) ∧ PoolAt H2 p ∧ Kept p H H2) ?_ ?_ ?_ ?_
    · exact ⟨[], [], upd_same, trivial, rfl, fun k q e => by simp at e, (by rw [upd_ne eDN]; exact hN), hp1.upd eDp.symm, hk2.set nD0⟩
    · rintro i H2 _ ⟨_, _, _, _, _, _, h, _, _⟩
      exact SqL.of h
    · rintro i x H2 T hx ⟨ws, ps, hD, pr, hpf, hps, hN2, hpo, hk⟩ nT
      have hil : i < ns.length := by
        have z := (List.getElem?_eq_some_iff.mp hx).1
        rwa [List.length_map] at z
      obtain ⟨nm, hnm, rfl⟩ : ∃ nm, ns[i]? = some nm ∧ x = .str nm := by
        rw [List.getElem?_map, List.getElem?_eq_getElem hil] at hx
        exact ⟨_, List.getElem?_eq_getElem hil, by injection hx with hx; exact hx.symm⟩
      have sT : Same H2 (upd H2 T (.tup [.int (i : Nat), .str nm])) := same_upd nT
      refine ⟨T, _, rfl, SqT.of upd_same, rfl, _, _, rfl, _, _, rfl, rfl, rfl, tyes ?_⟩
      refine ⟨_, rfl, _, rfl, _, rfl, _, rfl, _, rfl, _, _, rfl, rfl, _, rfl, N, _, rfl, SqL.of (sT _ _ hN2), fun L nL => ?_⟩
      rw [cut_drop (by rw [List.length_map]; omega), ← List.map_drop]
      generalize hH3 : upd H2 T (.tup [.int (i : Nat), .str nm]) = H3 at *
      have hpo3 : PoolAt H3 p := hpo.same sT
      have eLp : L ≠ p := pool_ne hpo3 nL
      have sL : Same H3 (upd H3 L (.lst ((ns.drop (i + 1)).map V.str))) := same_upd nL
      have hk4 : Kept p H (upd H3 L (.lst ((ns.drop (i + 1)).map V.str))) := hk.trans (Kept.same (sT.trans sL))
      refine ⟨_, rfl, p, L, b, ns.drop (i + 1), rs, rfl, hpo3.upd eLp.symm, eLp, bp, upd_same, ?_, ?_, hk4 _ _ hb bp, nd, hrl, d1, fun v H5 t k5 hp5 ht hlv => ?_⟩
      · rw [List.length_drop]
        omega
      · intro y hy
        exact hno y (List.mem_of_mem_drop hy)
      · refine ⟨(by show 2 ≤ sizeLine; decide), fun a H6 s6 n6 pa => ?_⟩
        have hpl : ws.length = ps.length := pr.len
        have hpl2 : ps.length = i := by
          have z := congrArg List.length hpf
          rw [List.length_map, List.length_take] at z
          omega
        have k26 : Kept p H2 H6 := ((Kept.same (sT.trans sL)).trans k5).trans (Kept.same s6)
        have h6 : H6 D = some (.lst ws) := k26 _ _ hD eDp
        refine ⟨ws, h6, small1000 (by omega), ws ++ [.ref a], ps ++ [(nm, t)], upd_same, ?_, ?_, ?_, ?_, (hp5.same s6).upd eDp.symm, (hk.trans k26).set nD0⟩
        · refine PrL.snoc (q := (nm, t)) (KT.upd h6 _ _ pa) ((ht.keep (KT.same s6)).keep (KT.upd h6)) (pr.keep ((KT.of k26 hpo).trans (KT.upd h6)))
        · rw [List.map_append, hpf, List.take_add_one, hnm]
          rfl
        · intro k q0 e
          rcases Nat.lt_or_ge k ps.length with z | z
          · rw [List.getElem?_append_left z] at e
            exact hps k q0 e
          · rw [List.getElem?_append_right z] at e
            have ek : k = ps.length := by
              have := (List.getElem?_eq_some_iff.mp e).1
              rw [List.length_singleton] at this
              omega
            subst ek
            rw [Nat.sub_self] at e
            have e2 : (nm, t) = q0 := by simpa using e
            subst e2
            rw [hpl2]
            exact hlv
        · rw [upd_ne eDN]
          exact k26 _ _ hN2 eNp
    · rintro H2 ⟨ws, ps, hD, pr, hpf, hps, hN2, hpo, hk⟩
      rw [List.length_map, List.take_length] at hpf
      have hpl : ps.length = ns.length := by rw [← hpf, List.length_map]
      refine q D H2 ws ps nD0 hk hpo hD pr (PN.of ?_) ?_ ?_ ?_
      · rw [hpf]
        exact hps
      · rw [hpf]
        exact hno
      · omega
      · omega
end
end Su
/-! ### LG: how the law itself looks at a name, at rooms -/
namespace Su
open PySem PySem.Spec PyProof.Rows L2
theorem bTrue {b : Bool} (h : (!b) = false) : b = true := by
  cases b
  · cases h
  · rfl
theorem bFalse {b : Bool} (h : (!b) = true) : b = false := by
  cases b
  · rfl
  · cases h
abbrev rLeS : R2 := fun x y H Q => ∃ i j, x = .str i ∧ y = .str j ∧ Q (.bl (!decide (j.cps.toList < i.cps.toList))) H
theorem lett_range : lett.cps.toList = List.range' 97 26 := by decide +kernel
theorem inLett_eq (c : Nat) : inLett c = (decide (97 ≤ c) && decide (c ≤ 122)) := by
  unfold inLett
  rw [lett_range, Bool.eq_iff_iff, decide_eq_true_eq, Bool.and_eq_true, decide_eq_true_eq, decide_eq_true_eq, List.mem_range'_1]
  omega
theorem a_is : (Str.ofString "a").cps.toList = [97] := by decide +kernel
theorem z_is : (Str.ofString "z").cps.toList = [122] := by decide +kernel
theorem lt_one (a b : Nat) : (([a] : List Nat) < [b]) ↔ a < b := by
  rw [List.cons_lt_cons_iff]
  constructor
  · rintro (h | ⟨_, h⟩)
    · exact h
    · exact absurd h (List.not_lt_nil _)
  · exact .inl
theorem ge_a (c : Nat) : (!decide ((⟨#[c]⟩ : Str).cps.toList < (Str.ofString "a").cps.toList)) = decide (97 ≤ c) := by
  rw [a_is]
  show (!decide ([c] < [97])) = _
  rw [Bool.eq_iff_iff, Bool.not_eq_true', decide_eq_false_iff_not, decide_eq_true_eq, lt_one]
  omega
theorem le_z (c : Nat) : (!decide ((Str.ofString "z").cps.toList < (⟨#[c]⟩ : Str).cps.toList)) = decide (c ≤ 122) := by
  rw [z_is]
  show (!decide ([122] < [c])) = _
  rw [Bool.eq_iff_iff, Bool.not_eq_true', decide_eq_false_iff_not, decide_eq_true_eq, lt_one]
  omega
theorem filt_empty {α : Type} (f : α → Bool) : ∀ l : List α, (l.filter fun g => !f g).isEmpty = l.all f
  | [] => rfl
  | x :: l => by
    rw [List.filter_cons, List.all_cons, ← filt_empty f l]
    cases f x <;> rfl
theorem toDs_empty (gs : List G) : (toDs gs).isEmpty = gs.isEmpty := by
  cases gs <;> rfl
theorem ones_shaped : ∀ cs : List Nat, (∀ c ∈ cs, c < 1114112) → SeqAt.shaped (.list ((cs.map one1).map PyData.str)) = true := by
  intro cs h
  have z : ∀ cs : List Nat, (∀ c ∈ cs, c < 1114112) → PyData.canLayAll0 ((cs.map one1).map PyData.str) = true ∧ PyData.depthAll ((cs.map one1).map PyData.str) = 0 := by
    intro cs
    induction cs with
    | nil => exact fun _ => ⟨by simp [PyData.canLayAll0], by simp [PyData.depthAll]⟩
    | cons c cs ih =>
      intro h
      obtain ⟨a, b⟩ := ih fun x hx => h x (List.mem_cons_of_mem _ hx)
      have hc := h c List.mem_cons_self
      refine ⟨?_, ?_⟩
      · simp only [List.map_cons, PyData.canLayAll0, a, Bool.and_true, PyData.canLay0, PyData.strOk]
        rw [← Array.all_toList, List.all_eq_true]
        intro x hx
        rw [show x = c from List.mem_singleton.mp hx, decide_eq_true_eq]
        omega
      · simp only [List.map_cons, PyData.depthAll, b, PyData.depth, Nat.max_self]
  obtain ⟨a, b⟩ := z cs h
  unfold SeqAt.shaped
  rw [Bool.and_eq_true, decide_eq_true_eq]
  refine ⟨by simp only [PyData.canLay0, a], ?_⟩
  simp only [PyData.depth, b]
  decide
theorem str_small {s : Str} (h : (toD (.str s)).canLay0 = true) : ∀ c ∈ s.cps.toList, c < 1114112 := by
  intro c hc
  simp only [toD, PyData.canLay0, PyData.strOk] at h
  rw [← Array.all_toList, List.all_eq_true] at h
  have := of_decide_eq_true (h c hc)
  omega
theorem ris_len' {n : Int} {gs : List G} (h : gs.length ≤ 6) : (gs.map valI).length ≤ 1000 := by
  rw [List.length_map]
  omega
theorem ups_pw : ∀ {ns : List Int}, (ups ns).all id = true → ns.Pairwise (· < ·)
  | [], _ => List.Pairwise.nil
  | [_], _ => List.pairwise_singleton _ _
  | a :: b :: l, h => by
    have h2 : (decide (a < b) && (ups (b :: l)).all id) = true := h
    rw [Bool.and_eq_true, decide_eq_true_eq] at h2
    have ih := ups_pw h2.2
    refine List.pairwise_cons.mpr ⟨fun c hc => ?_, ih⟩
    rcases List.mem_cons.mp hc with rfl | hc
    · exact h2.1
    · exact Int.lt_trans h2.1 ((List.pairwise_cons.mp ih).1 c hc)
theorem ups_all : ∀ {ns : List Int}, ns.Pairwise (· < ·) → (ups ns).all id = true
  | [], _ => rfl
  | [a], _ => rfl
  | a :: b :: l, h => by
    have h1 := List.pairwise_cons.mp h
    have ih := ups_all h1.2
    show (decide (a < b) && (ups (b :: l)).all id) = true
    rw [decide_eq_true (h1.1 b List.mem_cons_self), ih]
    rfl
theorem OkE.list' {gs : List G} (h : ∀ g ∈ gs, OkT g) : okDs gs = true ∧ SeqAt.shaped (.list (toDs gs)) = true := by
  have lay : ∀ {gs : List G}, (∀ g ∈ gs, OkT g) → PyData.canLayAll0 (toDs gs) = true ∧ PyData.depthAll (toDs gs) ≤ 40 := by
    intro gs
    induction gs with
    | nil => exact fun _ => ⟨by simp [toDs, PyData.canLayAll0], by simp [toDs, PyData.depthAll]⟩
    | cons g gs ih =>
      intro h
      obtain ⟨a, b⟩ := ih fun x hx => h x (List.mem_cons_of_mem _ hx)
      have c := h g List.mem_cons_self
      refine ⟨?_, ?_⟩
      · simp only [toDs, PyData.canLayAll0, c.cl, a, Bool.and_self]
      · simp only [toDs, PyData.depthAll]
        have := c.dp
        omega
  obtain ⟨a, b⟩ := lay h
  refine ⟨?_, ?_⟩
  · rw [okDs_all, List.all_eq_true]
    exact fun g hg => (h g hg).ok
  · unfold SeqAt.shaped
    rw [Bool.and_eq_true, decide_eq_true_eq]
    refine ⟨by simp only [PyData.canLay0, a], ?_⟩
    simp only [PyData.depth]
    omega
def spLName : Sp := fun vs H Q _ => ∃ (p : Addr) (v : V) (g : G), vs = [v] ∧ Tg p H v g ∧ OkT g ∧ ∀ H', Same H H' → Q (.bl (letG 6 g)) H'
def spLRooms : Sp := fun vs H Q _ => ∃ (p : Addr) (v : V) (g : G), vs = [v, .int 1] ∧ Tg p H v g ∧ OkT g ∧ ∀ H', Same H H' → Q (.bl (roomsG 1 6 g)) H'
theorem sc_law_whole : FnScope ["_law_thing"] ["_law_thing"] (defScope s_law_whole) := ⟨rfl, rfl, rfl, by decide +kernel, rfl, by decide +kernel, by decide +kernel⟩
theorem sc_law_is_name : FnScope ["_law_thing", "_law_sign"] ["_law_thing"] (defScope s_law_is_name) := ⟨rfl, rfl, rfl, by decide +kernel, rfl, by decide +kernel, by decide +kernel⟩
theorem sc_law_are_rooms : FnScope ["_law_thing", "_law_least", "_law_one"] ["_law_thing", "_law_least"] (defScope s_law_are_rooms) := ⟨rfl, rfl, rfl, by decide +kernel, rfl, by decide +kernel, by decide +kernel⟩
section
variable {P : Program} {w : World} {K : PySem.W.Frag} {mg : Str → Option Value} {base : Heap}
theorem ok_lwhole (T : At K mg "_law_whole" s_law_whole ["_law_thing"]) (B : Bt mg) : Cal P w K mg base 1 "_law_whole" ["_law_thing"] spWhole := by
  refine cal_of T sc_law_whole (fun vs H Q E h => ?_) (fun f cdv A outer s H vs Q E hr h => ?_)
  · obtain ⟨p, v, g, rfl, _⟩ := h
    rfl
  · obtain ⟨p, v, g, rfl, hv, q⟩ := h
    refine ⟨_, (pss_one (ps_ret (pe_and (pe_callB call_isi (by rfl) B.isinstance (by decide +kernel) (pa_cons (pv 0) (pa_cons (pe_bltn (v := .ty "int") (u := .type "int") (by rfl) B.int (by decide +kernel) rfl) pa_nil))) (pe_one (pe_not (pe_callB call_isi (by rfl) B.isinstance (by decide +kernel) (pa_cons (pv 0) (pa_cons (pe_bltn (v := .ty "bool") (u := .type "bool") (by rfl) B.bool (by decide +kernel) rfl) pa_nil)))))))), ?_⟩
    refine ⟨_, rfl, v, .ty "int", _, _, _, rfl, .ty "int", hv.ty, kit_int g, _, rfl, iteB (fun e => ?_) (fun e => ?_)⟩
    · refine ⟨_, rfl, v, .ty "bool", _, _, _, rfl, .ty "bool", hv.ty, kit_bool g, _, rfl, ?_⟩
      rw [show (!isBool g) = wholeG g from by cases g <;> first | rfl | cases e]
      exact q
    · rw [show false = wholeG g from by cases g <;> first | rfl | cases e]
      exact q
theorem ok_lname (T : At K mg "_law_is_name" s_law_is_name ["_law_thing"]) (B : Bt mg) : Cal P w K mg base 1 "_law_is_name" ["_law_thing"] spLName := by
  refine cal_of T sc_law_is_name (fun vs H Q E h => ?_) (fun f cdv A outer s H vs Q E hr h => ?_)
  · obtain ⟨p, v, g, rfl, _⟩ := h
    rfl
  · obtain ⟨p, v, g, rfl, hv, hs, q⟩ := h
    refine ⟨_, (pss_cons (ps_if (PW.pt (pw_or (pt_not (pt_val (pe_callB call_isi (by rfl) B.isinstance (by decide +kernel) (pa_cons (pv 0) (pa_cons (pe_bltn (v := .ty "str") (u := .type "str") (by rfl) B.str (by decide +kernel) rfl) pa_nil))))) (pw_or1 (pt_not (pt_chain op_le op_le pe_int (pe_callB call_len_str (by rfl) B.len PySem.boot_len (pa_cons (pv 0) pa_nil)) pe_int))))) (pss_one (ps_ret pe_bl)) pss_nil)
      (pss_one (ps_ret (pe_cmpR (op_eqD hr.units) (pe_lc (own := [("_law_sign", 1)]) (g := (gName 1)) (tt := (tNot (tTest (tChain rLeS rLeS (tC (.str "a")) (tVar 1) (tC (.str "z")))))) (te := (tVar 1)) (by rfl) sc_law_is_name.nd (pi_str (pv 0)) (blkOk_by (own := [("_law_sign", 1)]) (N := ["_law_thing", "_law_sign"]) (sc := defScope s_law_is_name) (by decide +kernel)) (fun _ _ _ _ _ => (pg_name (i := 1) sc_law_is_name.nd rfl (Or.inl rfl))) (fun _ _ _ _ _ => pts_one (pt_not (pt_chain op_le_str op_le_str pe_str (pv 1) pe_str))) (fun _ _ _ _ _ => (pv 1))) (pe_lst pa_nil) (nomark _))))), ?_⟩
    refine ⟨_, rfl, v, .ty "str", _, _, _, rfl, .ty "str", hv.ty, kit_str g, _, rfl, iteB (fun e => ?_) (fun e => ?_)⟩
    · refine iteT ?_
      rw [show false = letG 6 g from by cases g <;> first | rfl | cases e]
      exact q H (Same.refl H)
    cases hv with
    | str z =>
      have hz : z.length ≤ 1000 := by
        have y : decide (z.length ≤ 1000) = true := hs.st
        exact of_decide_eq_true y
      have hb : sizeLine = 16777216 := rfl
      have hd : letG 6 (.str z) = ((decide (1 ≤ (z.length : Int)) && decide ((z.length : Int) ≤ 6)) && (z.cps.toList.map inLett).all id) := rfl
      refine ⟨_, rfl, z, rfl, by omega, _, _, rfl, rfl, _, rfl, iteB (fun e1 => ?_) (fun e1 => ?_)⟩
      · refine ⟨_, _, rfl, rfl, _, rfl, iteB (fun e2 => ?_) (fun e2 => ?_)⟩
        · have e3 : decide ((z.length : Int) ≤ 6) = false := by simpa using e2
          have z1 : false = letG 6 (.str z) := by
            rw [hd, e3, Bool.and_false, Bool.false_and]
          rw [z1]
          exact q H (Same.refl H)
        · have e3 : decide ((z.length : Int) ≤ 6) = true := by simpa using e2
          rw [e1, e3, Bool.true_and, Bool.true_and] at hd
          refine ⟨_, rfl, z, rfl, fun D nD => ?_⟩
          refine lc_str (x := z) (fun i H2 => Same H H2 ∧ H2 D = some (.lst ((((z.cps.toList.take i).filter fun c => !inLett c).map one1).map V.str))) ?_ ?_ ?_
          · exact ⟨same_upd nD, upd_same⟩
          · rintro i c H2 hc ⟨s2, hD⟩
            have ec : z.cps.toList[i]? = some c := by
              rw [← hc, Array.getElem?_toList]
            have hlen : ((((z.cps.toList.take i).filter fun c => !inLett c).map one1).map V.str).length < sizeLine := by
              rw [List.length_map, List.length_map]
              have z1 := List.length_filter_le (fun c => !inLett c) (z.cps.toList.take i)
              rw [List.length_take] at z1
              have z2 : z.cps.toList.length = z.length := Array.length_toList
              omega
            have yes : inLett c = false → ∃ acc, H2 D = some (.lst acc) ∧ acc.length < sizeLine ∧ Same H (upd H2 D (.lst (acc ++ [V.str (one1 c)]))) ∧ (upd H2 D (.lst (acc ++ [V.str (one1 c)]))) D = some (.lst ((((z.cps.toList.take (i + 1)).filter fun c => !inLett c).map one1).map V.str)) := fun y => by
              refine ⟨_, hD, hlen, fun a o ea => ?_, ?_⟩
              · rw [upd_ne (ne_of_none ea nD)]
                exact s2 _ _ ea
              · rw [upd_same, take_one ec, List.filter_append, List.filter_cons_of_pos (by rw [y]; rfl), List.filter_nil, List.map_append, List.map_append]
                rfl
            have no : inLett c = true → Same H H2 ∧ H2 D = some (.lst ((((z.cps.toList.take (i + 1)).filter fun c => !inLett c).map one1).map V.str)) := fun y => by
              refine ⟨s2, ?_⟩
              rw [take_one ec, List.filter_append, List.filter_cons_of_neg (by rw [y]; decide), List.filter_nil, List.append_nil]
              exact hD
            have e0 := inLett_eq c
            refine ⟨rfl, ?_⟩
            have tst : ∀ R : Bool → Hp → Prop, R (!inLett c) H2 → tNot (tTest (tChain rLeS rLeS (tC (V.str (Str.ofString "a"))) (tVar 1) (tC (V.str (Str.ofString "z"))))) ([some (V.str z), some (V.str ⟨#[c]⟩)]) H2 R := by
              intro R hR
              have e1 := ge_a c
              have e2 := le_z c
              rw [e0] at hR
              refine ⟨_, rfl, ?_⟩
              refine ⟨_, _, rfl, rfl, _, rfl, ?_⟩
              rw [e1]
              refine iteB (fun z1 => ?_) (fun z1 => ?_)
              · refine ⟨_, _, rfl, rfl, _, rfl, ?_⟩
                rw [e2]
                rw [z1, Bool.true_and] at hR
                exact hR
              · rw [z1, Bool.false_and] at hR
                exact ⟨_, rfl, hR⟩
            exact tst _ (iteB (fun e => ⟨_, rfl, yes (bFalse e)⟩) (fun e => no (bTrue e)))
          · rintro H2 ⟨s2, hD⟩
            rw [List.take_of_length_le (by rw [Array.length_toList]; exact Nat.le_refl _)] at hD
            refine ⟨Nat.zero_le _, fun M nM => ?_⟩
            have sM := same_upd (o := .lst []) nM
            have eMD : D ≠ M := ne_of_none hD nM
            have shp := ones_shaped (z.cps.toList.filter fun c => !inLett c) fun c hc => str_small hs.cl c (List.mem_filter.mp hc).1
            refine ⟨_, _, .lst (SqL.of (sM _ _ hD)) (dp_strs _), .lst (SqL.of upd_same) .nil, shp, shaped_nil, ?_⟩
            have q1 := q _ (s2.trans sM)
            have ev : PyData.eqv (.list (((z.cps.toList.filter fun c => !inLett c).map one1).map PyData.str)) (.list []) = letG 6 (.str z) := by
              rw [eqv_nilD, hd, List.all_map]
              have z3 := filt_empty inLett z.cps.toList
              rw [← show (z.cps.toList.filter fun c => !inLett c).isEmpty = z.cps.toList.all (id ∘ inLett) from z3]
              cases z.cps.toList.filter fun c => !inLett c <;> rfl
            rw [ev]
            exact q1
      · refine ⟨_, rfl, iteT ?_⟩
        have z1 : false = letG 6 (.str z) := by
          rw [hd, e1, Bool.false_and, Bool.false_and]
        rw [z1]
        exact q H (Same.refl H)
    | _ => cases e
theorem ok_lrooms (T : At K mg "_law_are_rooms" s_law_are_rooms ["_law_thing", "_law_least"]) (B : Bt mg) (c_whole : Cal P w K mg base 1 "_law_whole" ["_law_thing"] spWhole) : Cal P w K mg base 2 "_law_are_rooms" ["_law_thing", "_law_least"] spLRooms := by
  refine cal_of T sc_law_are_rooms (fun vs H Q E h => ?_) (fun f cdv A outer s H vs Q E hr h => ?_)
  · obtain ⟨p, v, g, rfl, _⟩ := h
    rfl
  · obtain ⟨p, v, g, rfl, hv, hs, q⟩ := h
    refine ⟨_, (pss_cons (ps_if (PW.pt (pw_or (pt_not (pt_val (pe_callB call_isi (by rfl) B.isinstance (by decide +kernel) (pa_cons (pv 0) (pa_cons (pe_bltn (v := .ty "tuple") (u := .type "tuple") (by rfl) B.tuple (by decide +kernel) rfl) pa_nil))))) (pw_or1 (pt_not (pt_chain op_le op_le (pv 1) (pe_callB call_len_seq (by rfl) B.len PySem.boot_len (pa_cons (pv 0) pa_nil)) pe_int))))) (pss_one (ps_ret pe_bl)) pss_nil)
      (pss_cons (ps_if (pt_cmpR (op_neD hr.units) (pe_lc (own := [("_law_one", 2)]) (g := (gName 2)) (tt := (tOr (tNot (tB (tCall spWhole [] E0 (tCons (tVar 2) tNil)))) (tNot (tTest (tChain (rI0 fun i j => .bl (decide (i ≤ j))) (rI0 fun i j => .bl (decide (i ≤ j))) (tC (.int 0)) (tVar 2) (tC (.int 99))))))) (te := (tVar 2)) (by rfl) sc_law_are_rooms.nd (pi_tup (pv 0)) (blkOk_by (own := [("_law_one", 2)]) (N := ["_law_thing", "_law_least", "_law_one"]) (sc := defScope s_law_are_rooms) (by decide +kernel)) (fun _ _ _ _ _ => (pg_name (i := 2) sc_law_are_rooms.nd rfl (Or.inl rfl))) (fun _ _ _ _ _ => pts_one (PW.pt (pw_or (pt_not (pt_val (pe_own c_whole hr (by decide) (by rfl) (pa_cons (pv 2) pa_nil)))) (pw_or1 (pt_not (pt_chain op_le op_le pe_int (pv 2) pe_int)))))) (fun _ _ _ _ _ => (pv 2))) (pe_lst pa_nil) (nomark _)) (pss_one (ps_ret pe_bl)) pss_nil)
      (pss_one (ps_ret (pe_cmpR (op_eqD hr.units) (pe_callB (cr_sortedS rfl) (by rfl) B.sorted (by decide +kernel) (pa_cons (pe_callTy (cr_setT rfl) (by rfl) B.set (by decide +kernel) (pa_cons (pv 0) pa_nil)) pa_nil)) (pe_callTy call_list_of (by rfl) B.list (by decide +kernel) (pa_cons (pv 0) pa_nil)) (nomark _)))))), ?_⟩
    refine ⟨_, rfl, v, .ty "tuple", _, _, _, rfl, .ty "tuple", hv.ty, kit_tuple g, _, rfl, iteB (fun e => ?_) (fun e => ?_)⟩
    · refine iteT ?_
      rw [show false = roomsG 1 6 g from by cases g <;> first | rfl | cases e]
      exact q H (Same.refl H)
    cases hv with
    | @tup a vs gs ha t =>
      have hlen : vs.length = gs.length := t.len
      have rl : roomsG 1 6 (.tup gs) = ((decide ((1 : Int) ≤ (gs.length : Int)) && decide ((gs.length : Int) ≤ 6)) && risG 100 gs) := rfl
      refine ⟨_, rfl, _, rfl, a, _, rfl, .inr ha.sq, _, _, rfl, rfl, _, rfl, ?_⟩
      rw [hlen]
      refine iteB (fun e1 => ?_) (fun e1 => ?_)
      rotate_left
      · refine ⟨_, rfl, iteT ?_⟩
        have z1 : false = roomsG 1 6 (.tup gs) := by
          rw [rl, e1, Bool.false_and, Bool.false_and]
        rw [z1]
        exact q H (Same.refl H)
      refine ⟨_, _, rfl, rfl, _, rfl, iteB (fun e2 => ?_) (fun e2 => ?_)⟩
      · have e3 : decide ((gs.length : Int) ≤ 6) = false := by simpa using e2
        have z1 : false = roomsG 1 6 (.tup gs) := by
          rw [rl, e3, Bool.and_false, Bool.false_and]
        rw [z1]
        exact q H (Same.refl H)
      have e3 : decide ((gs.length : Int) ≤ 6) = true := by simpa using e2
      have l6 : gs.length ≤ 6 := by
        have := of_decide_eq_true e3
        omega
      rw [rl, e1, e3, Bool.true_and, Bool.true_and] at q
      refine ⟨_, rfl, a, rfl, ⟨_, ha.sq⟩, fun D nD => ?_⟩
      refine lc_tup (K := K) (a := a) (xs := vs) (fun i H3 => Same H H3 ∧ ∃ ws, H3 D = some (.lst ws) ∧ TgL p H ws ((gs.take i).filter fun g => !inG 100 g)) ?_ ?_ ?_ ?_
      · exact ⟨same_upd nD, [], upd_same, .nil⟩
      · rintro i H3 _ ⟨s3, _⟩
        exact (ha.same s3).sq
      · rintro i x H3 hx ⟨s3, ws, hD, tl⟩
        obtain ⟨g0, eg, hg0⟩ := t.get hx
        have hil : i < gs.length := (List.getElem?_eq_some_iff.mp eg).1
        have et : gs.take (i + 1) = gs.take i ++ [g0] := take_one eg
        have hlv : ws.length < sizeLine := by
          rw [tl.len]
          have z := List.length_filter_le (fun g => !inG 100 g) (gs.take i)
          rw [List.length_take] at z
          exact small1000 (by omega)
        have yes : inG 100 g0 = false → ∃ acc, H3 D = some (.lst acc) ∧ acc.length < sizeLine ∧ Same H (upd H3 D (.lst (acc ++ [x]))) ∧ ∃ ws, (upd H3 D (.lst (acc ++ [x]))) D = some (.lst ws) ∧ TgL p H ws ((gs.take (i + 1)).filter fun g => !inG 100 g) := fun z => by
          refine ⟨ws, hD, hlv, fun c o ec => ?_, ws ++ [x], upd_same, ?_⟩
          · rw [upd_ne (ne_of_none ec nD)]
            exact s3 _ _ ec
          · rw [et, List.filter_append, List.filter_cons_of_pos (by rw [z]; rfl), List.filter_nil]
            exact tl.app (.cons hg0 .nil)
        have no : inG 100 g0 = true → Same H H3 ∧ ∃ ws, H3 D = some (.lst ws) ∧ TgL p H ws ((gs.take (i + 1)).filter fun g => !inG 100 g) := fun z => by
          refine ⟨s3, ws, hD, ?_⟩
          rw [et, List.filter_append, List.filter_cons_of_neg (by rw [z]; decide), List.filter_nil, List.append_nil]
          exact tl
        refine ⟨rfl, _, rfl, p, x, g0, rfl, hg0.keep (Keeps.same s3), _, rfl, iteB (fun ea => ?_) (fun ea => ?_)⟩
        · refine iteT ⟨_, rfl, yes ?_⟩
          have y := bFalse ea
          cases g0 <;> first | rfl | cases y
        have y := bTrue ea
        obtain ⟨j, rfl, rfl⟩ := whole_int hg0 y
        have rng : inG 100 (.int j) = (decide (0 ≤ j) && decide (j < 100)) := rfl
        have j99 : decide (j ≤ 99) = decide (j < 100) := decide_eq_decide.mpr (by omega)
        refine ⟨_, rfl, _, _, rfl, rfl, _, rfl, iteB (fun eb => ?_) (fun eb => ?_)⟩
        · refine ⟨_, _, rfl, rfl, _, rfl, ?_⟩
          refine iteB (fun ec => ?_) (fun ec => ?_)
          · exact ⟨_, rfl, yes (by rw [rng, ← j99, bFalse ec, Bool.and_false])⟩
          · exact no (by rw [rng, ← j99, show decide (0 ≤ j) = true from eb, bTrue ec]; rfl)
        · exact ⟨_, rfl, iteT ⟨_, rfl, yes (by rw [rng, show decide (0 ≤ j) = false from eb]; rfl)⟩⟩
      · rintro H3 ⟨s3, ws, hD, tl⟩
        rw [hlen, List.take_length] at tl
        refine ⟨Nat.zero_le _, fun c nc => ?_⟩
        have ecD : D ≠ c := ne_of_none hD nc
        have s4 : Same H (upd H3 c (.lst [])) := s3.trans (same_upd nc)
        have okl := OkE.list' (gs := gs.filter fun g => !inG 100 g) (fun g hg => hs.mem ((List.mem_filter.mp hg).1))
        refine ⟨_, _, .lst (SqL.of (by rw [upd_ne ecD]; exact hD)) (TgL.dp (tl.keep (Keeps.same (p := p) s4)) okl.1), .lst (SqL.of upd_same) .nil, okl.2, shaped_nil, _, rfl, ?_⟩
        rw [eqv_nilD, toDs_empty, filt_empty]
        generalize upd H3 c (.lst []) = H5 at s4
        have ra : risG 100 gs = ((gs.map (inG 100)).all id && (ups (gs.map valI)).all id) := rfl
        have ma : (gs.map (inG 100)).all id = gs.all (inG 100) := by
          rw [List.all_map]
          rfl
        refine iteB (fun ed => ?_) (fun ed => ?_)
        · have q1 := q H5 s4
          rw [ra, ma, bFalse ed, Bool.false_and] at q1
          exact q1
        have hall : (gs.map (inG 100)).all id = true := by
          rw [ma]
          exact bTrue ed
        rw [ra, hall, Bool.true_and] at q
        have ha5 := ha.same s4
        rw [ints_of_all t hall] at ha5
        have hnl : (gs.map valI).length ≤ 1000 := by
          rw [List.length_map]
          omega
        generalize gs.map valI = ns at *
        refine ⟨_, rfl, a, ns, rfl, ha5.sq, by omega, fun S H6 s6 nS setS => ?_⟩
        refine ⟨S, ns, rfl, setS, fun ms u pw mem nu => ?_⟩
        have su : Same H6 (upd H6 u (.lst (ms.map V.int))) := same_upd nu
        refine ⟨_, rfl, a, _, rfl, .inr (ha5.same (s6.trans su)).sq, fun l nl => ?_⟩
        have sl : Same (upd H6 u (.lst (ms.map V.int))) (upd (upd H6 u (.lst (ms.map V.int))) l (.lst (ns.map V.int))) := same_upd nl
        have shp : ∀ xs : List Int, SeqAt.shaped (.list (xs.map PyData.int)) = true := by
          intro xs
          have z := (OkE.list (gs := xs.map G.int) fun g hg => by
            obtain ⟨k, _, rfl⟩ := List.mem_map.mp hg
            exact ⟨rfl, rfl, by simp [toD, PyData.depth]⟩).2
          rw [toDs_map, List.map_map] at z
          exact z
        refine ⟨_, _, .lst (SqL.of (sl _ _ upd_same)) (dp_intsS _), .lst (SqL.of upd_same) (dp_intsS _), shp ms, shp ns, ?_⟩
        have q1 := q _ (((s4.trans s6).trans su).trans sl)
        have ev : PyData.eqv (.list (ms.map PyData.int)) (.list (ns.map PyData.int)) = (ups ns).all id := by
          show PyData.eqvAll _ _ = _
          rw [eqv_ints]
          by_cases h : (ups ns).all id = true
          · rw [h, decide_eq_true (sorted_one pw (ups_pw h) mem)]
          · rw [Bool.not_eq_true] at h
            rw [h, decide_eq_false]
            intro z
            rw [z] at pw
            rw [ups_all pw] at h
            cases h
        rw [ev]
        exact q1
    | _ => cases e
end
end Su
/-! ### LH: what stands within a term, by the law -/
namespace Su
open PySem PySem.Spec PyProof.Rows L2
def thenG (lo hi : Nat) : G → Option (List G)
  | .tup gs => if lo ≤ gs.length ∧ gs.length ≤ hi then some gs else none
  | _ => none
def roundI : List G → Option (List G)
  | [l, m, t] => if timesG l m = true then some [t] else none
  | _ => none
def lastI (x : Str) (y : G) : Option (List G) := if x = "ask" then (if roomsG 1 6 y = true then some [] else none) else if x = "then" then thenG 1 8 y else if x = "fork" then thenG 2 6 y else if (decide (x = "call") && letG 6 y) = true then some [] else none
def oneI (x : Str) : List G → Option (List G)
  | [y] => lastI x y
  | _ => none
def innerG : G → Option (List G)
  | .tup (.str x :: r) => if x = "rest" then (if r.isEmpty = true then some [] else none) else if x = "round" then roundI r else oneI x r
  | _ => none
def allT (f : G → Bool) : Option (List G) → Bool
  | some cs => (cs.map f).all id
  | none => false
theorem allT_if (f : G → Bool) (b : Bool) : b = allT f (if b = true then some [] else none) := by
  cases b <;> rfl
theorem termsG_then (f : G → Bool) (lo hi : Nat) (y : G) : termsG f lo hi y = allT f (thenG lo hi y) := by
  cases y with
  | tup gs =>
    show ((decide ((lo : Int) ≤ (gs.length : Int)) && decide ((gs.length : Int) ≤ hi)) && (gs.map f).all id) = allT f (if lo ≤ gs.length ∧ gs.length ≤ hi then some gs else none)
    by_cases h : lo ≤ gs.length ∧ gs.length ≤ hi
    · rw [if_pos h, decide_eq_true (by omega), decide_eq_true (by omega)]
      rfl
    · rw [if_neg h]
      by_cases h1 : lo ≤ gs.length
      · rw [decide_eq_false (p := (gs.length : Int) ≤ hi) (by omega), Bool.and_false]
        rfl
      · rw [decide_eq_false (by omega)]
        rfl
  | _ => rfl
theorem lastG_last (f : G → Bool) (x : Str) (y : G) : lastG f x y = allT f (lastI x y) := by
  unfold lastG lastI
  split
  · exact allT_if f _
  split
  · exact termsG_then f 1 8 y
  split
  · exact termsG_then f 2 6 y
  · exact allT_if f _
theorem termG_inner (d : Nat) (g : G) : termG (d + 1) g = allT (termG d) (innerG g) := by
  cases g with
  | tup l => cases l with
    | nil => rfl
    | cons g0 r => cases g0 with
      | str x =>
        show (if x = "rest" then r.isEmpty else if x = "round" then roundG (termG d) r else oneG (termG d) x r) = allT (termG d) (if x = "rest" then (if r.isEmpty = true then some [] else none) else if x = "round" then roundI r else oneI x r)
        split
        · exact allT_if _ _
        split
        · match r with
          | [l, m, t] =>
            show (timesG l m && termG d t) = allT (termG d) (if timesG l m = true then some [t] else none)
            cases timesG l m
            · rfl
            · show (true && termG d t) = (termG d t && true)
              rw [Bool.true_and, Bool.and_true]
          | [] => rfl
          | [_] => rfl
          | [_, _] => rfl
          | _ :: _ :: _ :: _ :: _ => rfl
        · match r with
          | [y] => exact lastG_last _ x y
          | [] => rfl
          | _ :: _ :: _ => rfl
      | _ => rfl
  | _ => rfl
/-! sizes -/
mutual
def gsz : G → Nat
  | .tup l => gszs l + 1
  | .lst l => gszs l + 1
  | .non => 1
  | .bl _ => 1
  | .int _ => 1
  | .str _ => 1
  | .dct => 1
def gszs : List G → Nat
  | [] => 0
  | g :: gs => gsz g + gszs gs
end
theorem gsz_pos : ∀ g : G, 1 ≤ gsz g := by
  intro g
  cases g <;> simp [gsz]
theorem gszs_map : ∀ gs : List G, gszs gs = (gs.map gsz).sum
  | [] => rfl
  | g :: gs => by
    show gsz g + gszs gs = _
    rw [gszs_map gs]
    rfl
theorem inner_round {l m t : G} : innerG (.tup [.str "round", l, m, t]) = if timesG l m = true then some [t] else none := rfl
theorem inner_what {g : G} {cs : List G} (h : innerG g = some cs) : cs = [] ∨ (∃ x l m t, g = .tup [.str x, l, m, t] ∧ cs = [t]) ∨ ∃ x, g = .tup [.str x, .tup cs] := by
  have thn : ∀ {lo hi : Nat} {x : Str} {y : G} {cs : List G}, thenG lo hi y = some cs → ∃ z, G.tup [.str x, y] = .tup [.str z, .tup cs] := by
    intro lo hi x y cs h
    cases y with
    | tup gs =>
      have h2 : (if lo ≤ gs.length ∧ gs.length ≤ hi then some gs else none) = some cs := h
      split at h2
      · cases h2
        exact ⟨x, rfl⟩
      · cases h2
    | _ => cases h
  cases g with
  | tup l => cases l with
    | nil => cases h
    | cons g0 r => cases g0 with
      | str x =>
        have h2 : (if x = "rest" then (if r.isEmpty = true then some [] else none) else if x = "round" then roundI r else oneI x r) = some cs := h
        split at h2
        · split at h2
          · cases h2
            exact .inl rfl
          · cases h2
        split at h2
        · unfold roundI at h2
          split at h2
          · split at h2
            · cases h2
              exact .inr (.inl ⟨_, _, _, _, rfl, rfl⟩)
            · cases h2
          · cases h2
        · unfold oneI at h2
          split at h2
          · unfold lastI at h2
            split at h2
            · split at h2
              · cases h2
                exact .inl rfl
              · cases h2
            split at h2
            · exact .inr (.inr (thn h2))
            split at h2
            · exact .inr (.inr (thn h2))
            split at h2
            · cases h2
              exact .inl rfl
            · cases h2
          · cases h2
      | _ => cases h
  | _ => cases h
theorem inner_less {g : G} {cs : List G} (h : innerG g = some cs) : gszs cs + 1 ≤ gsz g := by
  rcases inner_what h with rfl | ⟨x, l, m, t, rfl, rfl⟩ | ⟨x, rfl⟩
  · exact gsz_pos g
  · have := gsz_pos l
    simp only [gsz, gszs]
    omega
  · simp only [gsz, gszs]
    omega
theorem inner_ok {g : G} {cs : List G} (h : innerG g = some cs) (ok : OkT g) : ∀ c ∈ cs, OkT c := by
  intro c hc
  rcases inner_what h with rfl | ⟨x, l, m, t, rfl, rfl⟩ | ⟨x, rfl⟩
  · exact (List.not_mem_nil hc).elim
  · rw [List.mem_singleton.mp hc]
    exact ok.mem (by simp)
  · exact (ok.mem (x := .tup cs) (by simp)).mem hc
def spInner : Sp := fun vs H Q _ => ∃ (p a : Addr) (x : Str) (vr : List V) (r : List G), vs = [.ref a] ∧ T2 H a (.str x :: vr) ∧ TgL p H vr r ∧ OkT (.tup (.str x :: r)) ∧ (innerG (.tup (.str x :: r)) = none → ∀ H', Same H H' → Q .non H') ∧
  ∀ cs, innerG (.tup (.str x :: r)) = some cs → ∀ (u : Addr) (ws : List V) (H' : Hp), Same H H' → H u = none → H' u = some (.lst ws) → TgL p H' ws cs → Q (.ref u) H'
theorem mid_if {t : TT} {u S : TS} {D : Ends} {σ : L2.St} {H : Hp} {r : V → Hp → Prop} {b c : L2.St → Hp → Prop} (h1 : ∀ R : Bool → Hp → Prop, R false H → t σ H R) (h2 : S D σ H) : tNext (Ends.mk (tSeq (tIfS t u tNext) S D) r b c) σ H := h1 _ (iteF h2)
theorem mid_ifG {t : TT} {u S : TS} {D : Ends} {σ : L2.St} {H : Hp} {j : Nat} {v : V} {r : V → Hp → Prop} {b c : L2.St → Hp → Prop} (h1 : ∀ R : Bool → Hp → Prop, R false H → t (σ.set j (some v)) H R) (h2 : S D (σ.set j (some v)) H) : gName j v σ H (Ends.mk (tSeq (tIfS t u tNext) S D) r b c).nx := h1 _ (iteF h2)
theorem mid_ifH {t : TT} {u S : TS} {D : Ends} {σ : L2.St} {H : Hp} (hR : ∀ H', Same H H' → S D σ H') (h : ∀ D2 : Ends, (∀ H', Same H H' → D2.nx σ H') → tIfS t u tNext D2 σ H) : tSeq (tIfS t u tNext) S D σ H := h _ hR
theorem mid_if0 {t : TT} {u S : TS} {D : Ends} {σ : L2.St} {H : Hp} (h1 : ∀ R : Bool → Hp → Prop, R false H → t σ H R) (h2 : S D σ H) : tSeq (tIfS t u tNext) S D σ H := h1 _ (iteF h2)
theorem mid_ifM2 {t : TT} {u S : TS} {D : Ends} {σ : L2.St} {H : Hp} (M : Hp → Prop) (hR : ∀ H', M H' → S D σ H') (h : ∀ D2 : Ends, (∀ H', M H' → D2.nx σ H') → D2.rt = D.rt → tIfS t u tNext D2 σ H) : tSeq (tIfS t u tNext) S D σ H := h _ hR rfl
theorem inner_rest (r : List G) : innerG (.tup (.str "rest" :: r)) = if r.isEmpty = true then some [] else none := by
  show (if ("rest" : Str) = "rest" then (if r.isEmpty = true then some [] else none) else if ("rest" : Str) = "round" then roundI r else oneI "rest" r) = _
  rw [if_pos rfl]
theorem inner_one {x : Str} (y : G) (h0 : x ≠ "rest") (h1 : x ≠ "round") : innerG (.tup [.str x, y]) = lastI x y := by
  show (if x = "rest" then _ else if x = "round" then _ else lastI x y) = _
  rw [if_neg h0, if_neg h1]
theorem inner_not {x : Str} {r : List G} (h0 : x ≠ "rest") (h1 : x ≠ "round") (h : ∀ y, r ≠ [y]) : innerG (.tup (.str x :: r)) = none := by
  show (if x = "rest" then _ else if x = "round" then _ else oneI x r) = _
  rw [if_neg h0, if_neg h1]
  match r with
  | [] => rfl
  | [y] => exact absurd rfl (h y)
  | _ :: _ :: _ => rfl
theorem last_ask (y : G) : lastI "ask" y = if roomsG 1 6 y = true then some [] else none := by
  unfold lastI
  rw [if_pos rfl]
theorem last_then (y : G) : lastI "then" y = thenG 1 8 y := by
  unfold lastI
  rw [if_neg (by decide +kernel), if_pos rfl]
theorem last_fork (y : G) : lastI "fork" y = thenG 2 6 y := by
  unfold lastI
  rw [if_neg (by decide +kernel), if_neg (by decide +kernel), if_pos rfl]
theorem last_call (y : G) : lastI "call" y = if letG 6 y = true then some [] else none := by
  unfold lastI
  rw [if_neg (by decide +kernel), if_neg (by decide +kernel), if_neg (by decide +kernel), decide_eq_true rfl, Bool.true_and]
theorem inner_word {x : Str} {r cs : List G} (h : innerG (.tup (.str x :: r)) = some cs) : x = "rest" ∨ (x = "round" ∧ ∃ l m t, r = [l, m, t]) ∨ x = "ask" ∨ x = "then" ∨ x = "fork" ∨ x = "call" := by
  by_cases h0 : x = "rest"
  · exact .inl h0
  by_cases h1 : x = "round"
  · refine .inr (.inl ⟨h1, ?_⟩)
    have h2 : (if x = "rest" then (if r.isEmpty = true then some [] else none) else if x = "round" then roundI r else oneI x r) = some cs := h
    rw [if_neg h0, if_pos h1] at h2
    unfold roundI at h2
    split at h2
    · exact ⟨_, _, _, rfl⟩
    · cases h2
  by_cases h2 : ∃ y, r = [y]
  · obtain ⟨y, rfl⟩ := h2
    rw [inner_one y h0 h1] at h
    unfold lastI at h
    split at h
    · rename_i e
      exact .inr (.inr (.inl e))
    split at h
    · rename_i e
      exact .inr (.inr (.inr (.inl e)))
    split at h
    · rename_i e
      exact .inr (.inr (.inr (.inr (.inl e))))
    split at h
    · rename_i e
      rw [Bool.and_eq_true, decide_eq_true_eq] at e
      exact .inr (.inr (.inr (.inr (.inr e.1))))
    · cases h
  · rw [inner_not h0 h1 fun y e => h2 ⟨y, e⟩] at h
    cases h
theorem len_one {vr : List V} {r : List G} (e : vr.length = r.length) (x : V) : decide (V.int ((x :: vr).length : Nat) = V.int 1) = r.isEmpty := by
  cases r with
  | nil =>
    cases vr with
    | nil => rfl
    | cons _ _ => cases e
  | cons y r =>
    refine decide_eq_false fun z => ?_
    injection z with z
    rw [List.length_cons, e, List.length_cons] at z
    omega
theorem len_two {vr : List V} {r : List G} (e : vr.length = r.length) (x : V) : decide (V.int ((x :: vr).length : Nat) = V.int 2) = true ↔ ∃ y, r = [y] := by
  rw [decide_eq_true_eq]
  constructor
  · intro z
    injection z with z
    rw [List.length_cons, e] at z
    match r, z with
    | [y], _ => exact ⟨y, rfl⟩
    | [], z => simp at z
    | _ :: _ :: _, z => simp at z; omega
  · rintro ⟨y, rfl⟩
    rw [List.length_cons, e]
    rfl
theorem sc_law_inner : FnScope ["_law_thing", "_law_word"] ["_law_thing"] (defScope s_law_inner) := ⟨rfl, rfl, rfl, by decide +kernel, rfl, by decide +kernel, by decide +kernel⟩
section
variable {P : Program} {w : World} {K : PySem.W.Frag} {mg : Str → Option Value} {base : Heap}
theorem ok_linner (T : At K mg "_law_inner" s_law_inner ["_law_thing"]) (B : Bt mg) (c_whole : Cal P w K mg base 1 "_law_whole" ["_law_thing"] spWhole) (c_is_name : Cal P w K mg base 1 "_law_is_name" ["_law_thing"] spLName) (c_are_rooms : Cal P w K mg base 2 "_law_are_rooms" ["_law_thing", "_law_least"] spLRooms) :
    Cal P w K mg base 3 "_law_inner" ["_law_thing"] spInner := by
  refine cal_of T sc_law_inner (fun vs H Q E h => ?_) (fun f cdv A outer s H vs Q E hr h => ?_)
  · obtain ⟨p, a, x, vr, r, rfl, _⟩ := h
    rfl
  · obtain ⟨p, a, x, vr, r, rfl, ha, tr, ok, qn, qs⟩ := h
    refine ⟨_, (pss_cons (ps_set (i := 1) sc_law_inner.nd rfl (Or.inl rfl) (pe_ix ix_tup (pv 0) pe_int (fun _ _ => rfl)))
      (pss_cons (ps_if (PW.pt (pw_and (pt_cmpR op_eq (pv 1) pe_str (nomark _)) (pw_and1 (pt_cmpR op_eq (pe_callB call_len_seq (by rfl) B.len PySem.boot_len (pa_cons (pv 0) pa_nil)) pe_int (nomark _))))) (pss_cons (ps_if (PW.pt (pw_or (pt_not (pt_val (pe_own c_whole hr (by decide) (by rfl) (pa_cons (pe_ix ix_tup (pv 0) pe_int (fun _ _ => rfl)) pa_nil)))) (pw_or1 (pt_not (pt_chain op_le op_le pe_int (pe_ix ix_tup (pv 0) pe_int (fun _ _ => rfl)) pe_int))))) (pss_one (ps_ret pe_non)) pss_nil)
      (pss_cons (ps_if (PW.pt (pw_or (pt_cmpR op_isN (pe_ix ix_tup (pv 0) pe_int (fun _ _ => rfl)) pe_non (nomark _)) (pw_or1 (PW.pt (pw_and (pt_val (pe_own c_whole hr (by decide) (by rfl) (pa_cons (pe_ix ix_tup (pv 0) pe_int (fun _ _ => rfl)) pa_nil))) (pw_and1 (pt_chain op_le op_le (pe_ix ix_tup (pv 0) pe_int (fun _ _ => rfl)) (pe_ix ix_tup (pv 0) pe_int (fun _ _ => rfl)) pe_int))))))) (pss_one (ps_ret (pe_lst (pa_cons (pe_ix ix_tup (pv 0) pe_int (fun _ _ => rfl)) pa_nil)))) pss_nil)
      (pss_one (ps_ret pe_non)))) pss_nil)
      (pss_cons (ps_if (PW.pt (pw_and (pt_cmpR op_in_seq (pv 1) (pe_tupF (pa_cons pe_str (pa_cons pe_str pa_nil))) (by rfl)) (pw_and (pt_cmpR op_eq (pe_callB call_len_seq (by rfl) B.len PySem.boot_len (pa_cons (pv 0) pa_nil)) pe_int (nomark _)) (pw_and1 (pt_val (pe_callB call_isi (by rfl) B.isinstance (by decide +kernel) (pa_cons (pe_ix ix_tup (pv 0) pe_int (fun _ _ => rfl)) (pa_cons (pe_bltn (v := .ty "tuple") (u := .type "tuple") (by rfl) B.tuple (by decide +kernel) rfl) pa_nil)))))))) (pss_one (ps_if (pt_chain op_le op_le (pe_ix ix_list (pe_lst (pa_cons pe_int (pa_cons pe_int pa_nil))) (pe_callTy call_int1 (by rfl) B.int (by decide +kernel) (pa_cons (pe_cmpR op_eq (pv 1) pe_str (nomark _)) pa_nil)) (fun _ _ => rfl)) (pe_callB call_len_seq (by rfl) B.len PySem.boot_len (pa_cons (pe_ix ix_tup (pv 0) pe_int (fun _ _ => rfl)) pa_nil)) (pe_ix ix_list (pe_lst (pa_cons pe_int (pa_cons pe_int pa_nil))) (pe_callTy call_int1 (by rfl) B.int (by decide +kernel) (pa_cons (pe_cmpR op_eq (pv 1) pe_str (nomark _)) pa_nil)) (fun _ _ => rfl))) (pss_one (ps_ret (pe_callTy call_list_of (by rfl) B.list (by decide +kernel) (pa_cons (pe_ix ix_tup (pv 0) pe_int (fun _ _ => rfl)) pa_nil)))) pss_nil)) pss_nil)
      (pss_cons (ps_if (PW.pt (pw_or (PW.pt (pw_and (pt_cmpR op_eq (pv 1) pe_str (nomark _)) (pw_and1 (pt_cmpR op_eq (pe_callB call_len_seq (by rfl) B.len PySem.boot_len (pa_cons (pv 0) pa_nil)) pe_int (nomark _))))) (pw_or1 (PW.pt (pw_and (pt_cmpR op_eq (pv 1) pe_str (nomark _)) (pw_and (pt_cmpR op_eq (pe_callB call_len_seq (by rfl) B.len PySem.boot_len (pa_cons (pv 0) pa_nil)) pe_int (nomark _)) (pw_and1 (pt_val (pe_own c_is_name hr (by decide) (by rfl) (pa_cons (pe_ix ix_tup (pv 0) pe_int (fun _ _ => rfl)) pa_nil)))))))))) (pss_one (ps_ret (pe_lst pa_nil))) pss_nil)
      (pss_cons (ps_if (PW.pt (pw_and (pt_cmpR op_eq (pv 1) pe_str (nomark _)) (pw_and (pt_cmpR op_eq (pe_callB call_len_seq (by rfl) B.len PySem.boot_len (pa_cons (pv 0) pa_nil)) pe_int (nomark _)) (pw_and1 (pt_val (pe_own c_are_rooms hr (by decide) (by rfl) (pa_cons (pe_ix ix_tup (pv 0) pe_int (fun _ _ => rfl)) (pa_cons pe_int pa_nil)))))))) (pss_one (ps_ret (pe_lst pa_nil))) pss_nil)
      (pss_one (ps_ret pe_non))))))), ?_⟩
    have hlen : vr.length = r.length := tr.len
    refine ⟨_, rfl, _, _, _, _, rfl, rfl, ha.sq, atI_nat (j := 0) rfl, ?_⟩
    by_cases hA : x = "round" ∧ ∃ l m t, r = [l, m, t]
    · obtain ⟨rfl, l, m, t, rfl⟩ := hA
      rw [inner_round] at qn qs
      cases tr with
      | @cons vl _ _ _ hl tr => cases tr with
        | @cons vm _ _ _ hm tr => cases tr with
          | @cons vt _ _ _ ht tr =>
            cases tr
            refine ⟨_, rfl, rfl, _, rfl, iteB (fun _ => ?_) (fun z => absurd z (by decide +kernel))⟩
            refine ⟨_, rfl, a, _, rfl, .inr ha.sq, rfl, _, rfl, iteT ?_⟩
            have tgd : timesG l m = (inG 13 l && mostG (valI l) m) := rfl
            refine ⟨_, rfl, _, _, _, _, rfl, rfl, ha.sq, atI_nat (j := 1) rfl, p, vl, l, rfl, hl, _, rfl, iteB (fun e1 => ?_) (fun e1 => ?_)⟩
            · refine iteT (qn ?_ H (Same.refl H))
              have e2 : inG 13 l = false := by
                have y := bFalse e1
                cases l <;> first | rfl | cases y
              rw [if_neg (by rw [tgd, e2, Bool.false_and]; exact Bool.false_ne_true)]
            obtain ⟨i, rfl, rfl⟩ := whole_int hl (bTrue e1)
            have i12 : decide (i ≤ 12) = decide (i < 13) := decide_eq_decide.mpr (by omega)
            have tgi : inG 13 (.int i) = (decide (0 ≤ i) && decide (i < 13)) := rfl
            refine ⟨_, rfl, _, _, _, _, rfl, rfl, ha.sq, atI_nat (j := 1) rfl, _, _, rfl, rfl, _, rfl, iteB (fun e2 => ?_) (fun e2 => ?_)⟩
            rotate_left
            · refine ⟨_, rfl, iteT (qn ?_ H (Same.refl H))⟩
              rw [if_neg (by rw [tgd, tgi, show decide (0 ≤ i) = false from e2, Bool.false_and, Bool.false_and]; exact Bool.false_ne_true)]
            refine ⟨_, _, rfl, rfl, _, rfl, iteB (fun e3 => ?_) (fun e3 => ?_)⟩
            · refine qn ?_ H (Same.refl H)
              rw [if_neg (by rw [tgd, tgi, ← i12, bFalse e3, Bool.and_false, Bool.false_and]; exact Bool.false_ne_true)]
            have ti : timesG (.int i) m = mostG i m := by
              rw [tgd, tgi, ← i12, bTrue e3, show decide (0 ≤ i) = true from e2]
              rfl
            rw [ti] at qn qs
            have good : mostG i m = true → ∀ u : Addr, H u = none → Q (.ref u) (upd H u (.lst [vt])) := fun e u nu => by
              rw [if_pos e] at qs
              exact qs [t] rfl u [vt] _ (same_upd nu) nu upd_same (.cons (ht.keep (Keeps.same (same_upd nu))) .nil)
            refine ⟨_, rfl, _, _, _, _, rfl, rfl, ha.sq, atI_nat (j := 2) rfl, rfl, _, rfl, iteB (fun e4 => ?_) (fun e4 => ?_)⟩
            · refine ⟨_, rfl, _, _, _, _, rfl, rfl, ha.sq, atI_nat (j := 3) rfl, by show 1 ≤ sizeLine; decide, fun u nu => good ?_ u nu⟩
              have e5 : vm = .non := of_decide_eq_true e4
              subst e5
              cases hm
              rfl
            refine ⟨_, rfl, _, _, _, _, rfl, rfl, ha.sq, atI_nat (j := 2) rfl, p, vm, m, rfl, hm, _, rfl, iteB (fun e5 => ?_) (fun e5 => ?_)⟩
            rotate_left
            · refine iteF (qn ?_ H (Same.refl H))
              rw [if_neg]
              intro z
              cases m with
              | non =>
                cases hm
                simp at e4
              | int k => cases e5
              | _ => cases z
            obtain ⟨k, rfl, rfl⟩ := whole_int hm e5
            have mk : mostG i (.int k) = (decide (i ≤ k) && decide (k ≤ 12)) := rfl
            rw [mk] at qn good
            refine ⟨_, rfl, _, _, _, _, rfl, rfl, ha.sq, atI_nat (j := 1) rfl, _, rfl, _, _, _, _, rfl, rfl, ha.sq, atI_nat (j := 2) rfl, _, _, rfl, rfl, _, rfl, iteB (fun e6 => ?_) (fun e6 => ?_)⟩
            rotate_left
            · refine ⟨_, rfl, iteF (qn ?_ H (Same.refl H))⟩
              rw [if_neg (by rw [show decide (i ≤ k) = false from e6, Bool.false_and]; exact Bool.false_ne_true)]
            rw [show decide (i ≤ k) = true from e6, Bool.true_and] at qn good
            refine ⟨_, _, rfl, rfl, _, rfl, iteB (fun e7 => ?_) (fun e7 => ?_)⟩
            · exact ⟨_, rfl, _, _, _, _, rfl, rfl, ha.sq, atI_nat (j := 3) rfl, by show 1 ≤ sizeLine; decide, fun u nu => good e7 u nu⟩
            · refine qn ?_ H (Same.refl H)
              rw [if_neg (by rw [show decide (k ≤ 12) = false from e7]; exact Bool.false_ne_true)]
    refine mid_ifG (fun R hR => ?_) ?_
    · refine ⟨_, rfl, rfl, _, rfl, iteB (fun z => ?_) (fun _ => hR)⟩
      have e0 := of_decide_eq_true z
      injection e0 with e0
      refine ⟨_, rfl, a, _, rfl, .inr ha.sq, rfl, _, rfl, ?_⟩
      rw [decide_eq_false]
      · exact hR
      · intro y
        injection y with y
        rw [List.length_cons, hlen] at y
        match r, hA, y with
        | [l, m, t], hA, _ => exact hA ⟨e0, l, m, t, rfl⟩
        | [], _, y => simp at y
        | [_], _, y => simp at y
        | [_, _], _, y => simp at y
        | _ :: _ :: _ :: _ :: _, _, y => simp at y; omega
    refine mid_ifM2 (fun H1 => Same H H1 ∧ ¬ ((x = "then" ∨ x = "fork") ∧ ∃ cs, innerG (.tup (.str x :: r)) = some cs)) ?rest ?now
    case now =>
      intro D2 hD2 hrt
      have hQ : D2.rt = Q := hrt
      refine ⟨_, rfl, (by show 2 ≤ sizeLine; decide), fun t1 H1 s1 m1 p1 => ?_⟩
      have hin : inV (.str x) ([("then" : Str), "fork"].map V.str) = decide (x ∈ [("then" : Str), "fork"]) := inV_str _ _
      refine ⟨t1, _, rfl, .inr p1.sq, rfl, rfl, _, rfl, iteB (fun z => ?_) (fun z => ?_)⟩
      rotate_left
      · refine hD2 _ ⟨s1, fun y => ?_⟩
        have z2 : inV (.str x) ([("then" : Str), "fork"].map V.str) = false := z
        rw [hin, decide_eq_false_iff_not] at z2
        exact z2 (by rcases y.1 with y | y <;> simp [y])
      have hx : x = "then" ∨ x = "fork" := by
        have z2 : inV (.str x) ([("then" : Str), "fork"].map V.str) = true := z
        rw [hin, decide_eq_true_eq] at z2
        rcases List.mem_cons.mp z2 with y | y
        · exact .inl y
        · exact .inr (List.mem_singleton.mp y)
      have n0 : x ≠ "rest" := by rcases hx with rfl | rfl <;> decide +kernel
      have n1 : x ≠ "round" := by rcases hx with rfl | rfl <;> decide +kernel
      refine ⟨_, rfl, a, _, rfl, .inr (ha.same s1).sq, rfl, _, rfl, iteB (fun z1 => ?_) (fun z1 => ?_)⟩
      rotate_left
      · refine hD2 _ ⟨s1, fun y => ?_⟩
        obtain ⟨_, cs, e⟩ := y
        rw [inner_not n0 n1 fun y e => by rw [(len_two hlen _).mpr ⟨y, e⟩] at z1; cases z1] at e
        cases e
      obtain ⟨y, rfl⟩ := (len_two hlen _).mp z1
      cases tr with
      | @cons v1 _ _ _ h1 t1 =>
        cases t1
        obtain ⟨lo, hi, el, ehi, ein⟩ : ∃ lo hi : Nat, atI [V.int 1, V.int 2] (if decide (V.str x = V.str "fork") = true then (1 : Int) else 0) = some (.int lo) ∧ atI [V.int 8, V.int 6] (if decide (V.str x = V.str "fork") = true then (1 : Int) else 0) = some (.int hi) ∧ innerG (.tup [.str x, y]) = thenG lo hi y := by
          rcases hx with rfl | rfl
          · exact ⟨1, 8, by decide +kernel, by decide +kernel, by rw [inner_one y n0 n1, last_then]⟩
          · exact ⟨2, 6, by decide +kernel, by decide +kernel, by rw [inner_one y n0 n1, last_fork]⟩
        refine ⟨_, rfl, _, _, _, _, rfl, rfl, (ha.same s1).sq, atI_nat (j := 1) rfl, v1, .ty "tuple", _, _, _, rfl, .ty "tuple", (h1.keep (Keeps.same s1)).ty, kit_tuple y, _, rfl, iteB (fun z2 => ?_) (fun z2 => ?_)⟩
        rotate_left
        · refine hD2 _ ⟨s1, fun w => ?_⟩
          obtain ⟨_, cs, e⟩ := w
          rw [ein] at e
          cases y <;> first | cases e | cases z2
        have h1' := h1.keep (Keeps.same s1)
        cases h1' with
        | @tup b ws gs hb tb =>
          have hgl := tb.len
          have eth : thenG lo hi (.tup gs) = if lo ≤ gs.length ∧ gs.length ≤ hi then some gs else none := rfl
          refine ⟨(by show 2 ≤ sizeLine; decide), fun L nL => ?_⟩
          have s2 := s1.trans (same_upd (o := .lst [V.int 1, V.int 2]) nL)
          have hb2 := hb.same (same_upd (o := .lst [V.int 1, V.int 2]) nL)
          refine ⟨_, rfl, rfl, .inr ⟨_, rfl, ?_⟩⟩
          refine ⟨_, _, _, _, rfl, rfl, SqL.of upd_same, el, ?_⟩
          refine ⟨_, rfl, _, _, _, _, rfl, rfl, (ha.same s2).sq, atI_nat (j := 1) rfl, b, _, rfl, .inr hb2.sq, _, _, rfl, rfl, _, rfl, iteB (fun z3 => ?_) (fun z3 => ?_)⟩
          rotate_left
          · refine ⟨_, rfl, iteF (hD2 _ ⟨s2, fun w => ?_⟩)⟩
            obtain ⟨_, cs, e⟩ := w
            have z4 := of_decide_eq_false z3
            rw [ein, eth, if_neg (by omega)] at e
            cases e
          have z4 := of_decide_eq_true z3
          refine ⟨(by show 2 ≤ sizeLine; decide), fun L2 nL2 => ?_⟩
          have s3 := s2.trans (same_upd (o := .lst [V.int 8, V.int 6]) nL2)
          have hb3 := hb2.same (same_upd (o := .lst [V.int 8, V.int 6]) nL2)
          have tb3 := tb.keep (Keeps.same (p := p) ((same_upd (o := .lst [V.int 1, V.int 2]) nL).trans (same_upd (o := .lst [V.int 8, V.int 6]) nL2)))
          refine ⟨_, rfl, rfl, .inr ⟨_, rfl, ?_⟩⟩
          refine ⟨_, _, _, _, rfl, rfl, SqL.of upd_same, ehi, ?_⟩
          refine ⟨_, _, rfl, rfl, _, rfl, iteB (fun z5 => ?_) (fun z5 => ?_)⟩
          · have z6 := of_decide_eq_true z5
            refine ⟨_, rfl, _, _, _, _, rfl, rfl, (ha.same s3).sq, atI_nat (j := 1) rfl, b, _, rfl, .inr hb3.sq, fun u nu => ?_⟩
            rw [hQ]
            exact qs gs (by rw [ein, eth, if_pos (by omega)]) u ws _ (s3.trans (same_upd nu)) (s3.free nu) upd_same (tb3.keep (Keeps.same (same_upd nu)))
          · refine hD2 _ ⟨s3, fun w => ?_⟩
            obtain ⟨_, cs, e⟩ := w
            have z6 := of_decide_eq_false z5
            rw [ein, eth, if_neg (by omega)] at e
            cases e
        | _ => cases z2
    case rest =>
      rintro H1 ⟨s1, hB⟩
      have ha1 := ha.same s1
      have ret : ∀ {H2 : Hp}, Same H H2 → innerG (.tup (.str x :: r)) = some [] → ∀ u, H2 u = none → Q (.ref u) (upd H2 u (.lst [])) := fun s2 e u nu => qs [] e u [] _ (s2.trans (same_upd nu)) (s2.free nu) upd_same .nil
      refine mid_ifM2 (fun H2 => Same H H2 ∧ ¬ ((x = "rest" ∨ x = "call") ∧ ∃ cs, innerG (.tup (.str x :: r)) = some cs)) ?rest ?now
      case now =>
        intro D2 hD2 hrt
        have hQ : D2.rt = Q := hrt
        have call : ∀ R : Bool → Hp → Prop, (∀ H2, Same H H2 → (x = "call" ∧ ∃ y, r = [y] ∧ letG 6 y = true) → R true H2) → (∀ H2, Same H H2 → ¬ (x = "call" ∧ ∃ y, r = [y] ∧ letG 6 y = true) → R false H2) → tAnd (tTest (tOp rEq (tVar 1) (tC (V.str (Str.ofString "call"))))) (tAnd (tTest (tOp rEq (tCB (rLenK K) (tCons (tVar 0) tNil)) (tC (V.int 2)))) (tB (tCall spLName [] E0 (tCons (tOp (rIxT K) (tVar 0) (tC (V.int 1))) tNil)))) [some (.ref a), some (.str x)] H1 R := by
          intro R hT hF
          refine ⟨_, rfl, rfl, _, rfl, iteB (fun z => ?_) (fun z => ?_)⟩
          rotate_left
          · refine hF H1 s1 fun y => ?_
            rw [y.1] at z
            exact absurd z (by decide +kernel)
          have e0 := of_decide_eq_true z
          injection e0 with e0
          refine ⟨_, rfl, a, _, rfl, .inr ha1.sq, rfl, _, rfl, iteB (fun z1 => ?_) (fun z1 => ?_)⟩
          rotate_left
          · refine hF H1 s1 fun w => ?_
            obtain ⟨_, y, e, _⟩ := w
            rw [(len_two hlen _).mpr ⟨y, e⟩] at z1
            cases z1
          obtain ⟨y, rfl⟩ := (len_two hlen _).mp z1
          cases tr with
          | @cons v1 _ _ _ h1 t1 =>
            cases t1
            refine ⟨_, rfl, _, _, _, _, rfl, rfl, ha1.sq, atI_nat (j := 1) rfl, p, v1, y, rfl, h1.keep (Keeps.same s1), ok.mem (by simp), fun H2 s2 => ⟨_, rfl, ?_⟩⟩
            cases e : letG 6 y with
            | true => exact hT H2 (s1.trans s2) ⟨e0, y, rfl, e⟩
            | false =>
              refine hF H2 (s1.trans s2) fun w => ?_
              obtain ⟨_, y', e1, e2⟩ := w
              injection e1 with e1 _
              subst e1
              rw [e] at e2
              cases e2
        have nocall : ∀ H2, Same H H2 → (x ≠ "rest" ∨ r.isEmpty = false) → ¬ (x = "call" ∧ ∃ y, r = [y] ∧ letG 6 y = true) → D2.nx [some (.ref a), some (.str x)] H2 := by
          intro H2 s2 h1 h2
          refine hD2 H2 ⟨s2, fun w => ?_⟩
          obtain ⟨hx, cs, e⟩ := w
          rcases hx with rfl | rfl
          · rcases h1 with h1 | h1
            · exact h1 rfl
            · rw [inner_rest, h1, if_neg Bool.false_ne_true] at e
              cases e
          · by_cases h3 : ∃ y, r = [y]
            · obtain ⟨y, rfl⟩ := h3
              rw [inner_one y (by decide +kernel) (by decide +kernel), last_call] at e
              split at e
              · rename_i z
                exact h2 ⟨rfl, y, rfl, z⟩
              · cases e
            · rw [inner_not (by decide +kernel) (by decide +kernel) fun y e => h3 ⟨y, e⟩] at e
              cases e
        have yescall : ∀ H2, Same H H2 → (x = "call" ∧ ∃ y, r = [y] ∧ letG 6 y = true) → tRet (tLst tNil) D2 [some (.ref a), some (.str x)] H2 := by
          rintro H2 s2 ⟨rfl, y, rfl, e⟩
          refine ⟨Nat.zero_le _, fun u nu => ?_⟩
          rw [hQ]
          exact ret s2 (by rw [inner_one y (by decide +kernel) (by decide +kernel), last_call, if_pos e]) u nu
        refine ⟨_, rfl, rfl, _, rfl, iteB (fun z => ?_) (fun z => ?_)⟩
        · have e0 := of_decide_eq_true z
          injection e0 with e0
          refine ⟨_, rfl, a, _, rfl, .inr ha1.sq, rfl, _, rfl, ?_⟩
          rw [len_one hlen]
          cases e : r.isEmpty with
          | true =>
            refine iteT ⟨Nat.zero_le _, fun u nu => ?_⟩
            rw [hQ]
            exact ret s1 (by rw [e0, inner_rest, if_pos e]) u nu
          | false => exact iteF (call _ (fun H2 s2 h => iteT (yescall H2 s2 h)) fun H2 s2 h => iteF (nocall H2 s2 (.inr e) h))
        · refine iteF (call _ (fun H2 s2 h => iteT (yescall H2 s2 h)) fun H2 s2 h => iteF (nocall H2 s2 (.inl fun y => ?_) h))
          rw [y] at z
          exact absurd z (by decide +kernel)
      case rest =>
        rintro H2 ⟨s2, hC⟩
        have ha2 := ha.same s2
        have fin : ∀ H3, Same H H3 → ¬ (x = "ask" ∧ ∃ cs, innerG (.tup (.str x :: r)) = some cs) → Q .non H3 := by
          intro H3 s3 hD
          refine qn ?_ H3 s3
          cases e : innerG (.tup (.str x :: r)) with
          | none => rfl
          | some cs =>
            rcases inner_word e with h | ⟨h, y⟩ | h | h | h | h
            · exact absurd ⟨.inl h, cs, e⟩ hC
            · exact absurd ⟨h, y⟩ hA
            · exact absurd ⟨h, cs, e⟩ hD
            · exact absurd ⟨.inl h, cs, e⟩ hB
            · exact absurd ⟨.inr h, cs, e⟩ hB
            · exact absurd ⟨.inr h, cs, e⟩ hC
        refine ⟨_, rfl, rfl, _, rfl, iteB (fun z => ?_) (fun z => ?_)⟩
        rotate_left
        · refine fin H2 s2 fun y => ?_
          rw [y.1] at z
          exact absurd z (by decide +kernel)
        have e0 := of_decide_eq_true z
        injection e0 with e0
        subst e0
        refine ⟨_, rfl, a, _, rfl, .inr ha2.sq, rfl, _, rfl, iteB (fun z1 => ?_) (fun z1 => ?_)⟩
        rotate_left
        · refine fin H2 s2 fun w => ?_
          obtain ⟨_, cs, e⟩ := w
          rw [inner_not (by decide +kernel) (by decide +kernel) fun y e => by rw [(len_two hlen _).mpr ⟨y, e⟩] at z1; cases z1] at e
          cases e
        obtain ⟨y, rfl⟩ := (len_two hlen _).mp z1
        have ei : innerG (.tup [.str "ask", y]) = if roomsG 1 6 y = true then some [] else none := by rw [inner_one y (by decide +kernel) (by decide +kernel), last_ask]
        cases tr with
        | @cons v1 _ _ _ h1 t1 =>
          cases t1
          refine ⟨_, rfl, _, _, _, _, rfl, rfl, ha2.sq, atI_nat (j := 1) rfl, p, v1, y, rfl, h1.keep (Keeps.same s2), ok.mem (by simp), fun H3 s3 => ⟨_, rfl, iteB (fun z2 => ?_) (fun z2 => ?_)⟩⟩
          · exact ⟨Nat.zero_le _, fun u nu => ret (s2.trans s3) (by rw [ei, if_pos z2]) u nu⟩
          · refine fin H3 (s2.trans s3) fun w => ?_
            obtain ⟨_, cs, e⟩ := w
            rw [ei, z2, if_neg Bool.false_ne_true] at e
            cases e
end
end Su
/-! ### LI: all that stands within a term, by the law -/
namespace Su
open PySem PySem.Spec PyProof.Rows L2
abbrev It := G × Nat
def itG (x : It) : G := .tup [x.1, .int (x.2 : Int)]
def kids (x : It) : List It := if x.2 < 7 then ((innerG x.1).getD []).map fun c => (c, x.2 + 1) else []
def isz (l : List It) : Nat := (l.map fun x => gsz x.1).sum
def fine (x : It) : Bool := decide (x.2 ≤ 6) && (innerG x.1).isSome
theorem isz_kids (x : It) : isz (kids x) + 1 ≤ gsz x.1 := by
  unfold kids
  split
  · cases h : innerG x.1 with
    | none => exact gsz_pos _
    | some cs =>
      have z := inner_less h
      rw [gszs_map] at z
      unfold isz
      rw [Option.getD_some, List.map_map]
      exact z
  · exact gsz_pos _
theorem isz_len : ∀ l : List It, l.length ≤ isz l
  | [] => Nat.le_refl _
  | x :: l => by
    have z := isz_len l
    have y := gsz_pos x.1
    show l.length + 1 ≤ gsz x.1 + isz l
    omega
theorem isz_app (a b : List It) : isz (a ++ b) = isz a + isz b := by
  unfold isz
  rw [List.map_append, List.sum_append]
def Clo (g : G) (F : List It) : Prop := F = (g, 1) :: F.flatMap kids
theorem clo_kids {g : G} {F : List It} (h : Clo g F) {x y : It} (hx : x ∈ F) (hy : y ∈ kids x) : y ∈ F := by
  rw [h]
  exact List.mem_cons_of_mem _ (List.mem_flatMap.mpr ⟨x, hx, hy⟩)
theorem kids_mem {x y : It} (hy : y ∈ kids x) : y.2 = x.2 + 1 ∧ x.2 < 7 ∧ ∃ cs, innerG x.1 = some cs ∧ y.1 ∈ cs := by
  unfold kids at hy
  split at hy
  · rename_i h7
    cases h : innerG x.1 with
    | none =>
      rw [h] at hy
      exact (List.not_mem_nil hy).elim
    | some cs =>
      rw [h, Option.getD_some] at hy
      obtain ⟨c, hc, rfl⟩ := List.mem_map.mp hy
      exact ⟨rfl, h7, cs, rfl, hc⟩
  · exact (List.not_mem_nil hy).elim
theorem mem_kids {x : It} {c : G} {cs : List G} (h7 : x.2 < 7) (h : innerG x.1 = some cs) (hc : c ∈ cs) : (c, x.2 + 1) ∈ kids x := by
  unfold kids
  rw [if_pos h7, h, Option.getD_some]
  exact List.mem_map.mpr ⟨c, hc, rfl⟩
/-- what holds of the first and goes down holds of all -/
theorem clo_down {g : G} {F : List It} (h : Clo g F) (Pd : Nat → G → Prop) (h0 : Pd 1 g) (hs : ∀ d g cs c, Pd d g → d < 7 → innerG g = some cs → c ∈ cs → Pd (d + 1) c) : ∀ (n : Nat) (x : It), x ∈ F → x.2 = n → Pd n x.1
  | 0, x, hx, e => by
    rw [h] at hx
    rcases List.mem_cons.mp hx with rfl | hx
    · cases e
    · obtain ⟨y, _, hy⟩ := List.mem_flatMap.mp hx
      obtain ⟨z, _⟩ := kids_mem hy
      omega
  | n + 1, x, hx, e => by
    have hx0 := hx
    rw [h] at hx
    rcases List.mem_cons.mp hx with rfl | hx
    · have : n = 0 := by
        have : 1 = n + 1 := e
        omega
      subst this
      exact h0
    · obtain ⟨y, hy0, hy⟩ := List.mem_flatMap.mp hx
      obtain ⟨z, h7, cs, e1, e2⟩ := kids_mem hy
      have ey : y.2 = n := by omega
      have z2 := clo_down h Pd h0 hs n y hy0 ey
      exact hs n y.1 cs x.1 z2 (by omega) e1 e2
theorem termG_child {d : Nat} {g c : G} {cs : List G} (h : termG (d + 1) g = true) (e : innerG g = some cs) (hc : c ∈ cs) : termG d c = true := by
  rw [termG_inner, e] at h
  exact List.all_eq_true.mp h _ (List.mem_map.mpr ⟨c, hc, rfl⟩)
theorem clo_term {g : G} {F : List It} (h : Clo g F) (t : termG 6 g = true) : ∀ x ∈ F, x.2 ≤ 6 ∧ termG (7 - x.2) x.1 = true := by
  intro x hx
  have z := clo_down h (fun d g => d ≤ 6 ∧ termG (7 - d) g = true) ⟨by decide, t⟩ (fun d g cs c hd h7 e hc => by
    obtain ⟨h6, ht⟩ := hd
    have e1 : 7 - d = (7 - (d + 1)) + 1 := by omega
    rw [e1] at ht
    have z := termG_child ht e hc
    refine ⟨?_, z⟩
    have h5 : d ≠ 6 := by
      rintro rfl
      cases z
    omega) x.2 x hx rfl
  exact z
theorem clo_fine {g : G} {F : List It} (h : Clo g F) (t : termG 6 g = true) : ∀ x ∈ F, fine x = true := by
  intro x hx
  obtain ⟨h6, ht⟩ := clo_term h t x hx
  unfold fine
  rw [decide_eq_true h6, Bool.true_and]
  have e1 : 7 - x.2 = (6 - x.2) + 1 := by omega
  rw [e1, termG_inner] at ht
  cases e : innerG x.1 with
  | none =>
    rw [e] at ht
    cases ht
  | some cs => rfl
theorem fine_term {g : G} {F : List It} (h : Clo g F) (all : ∀ x ∈ F, fine x = true) : termG 6 g = true := by
  have z : ∀ (n : Nat) (x : It), x ∈ F → x.2 + n = 7 → termG n x.1 = true := by
    intro n
    induction n with
    | zero =>
      intro x hx e
      have y := all x hx
      unfold fine at y
      rw [Bool.and_eq_true, decide_eq_true_eq] at y
      omega
    | succ n ih =>
      intro x hx e
      have y := all x hx
      unfold fine at y
      rw [Bool.and_eq_true] at y
      rw [termG_inner]
      cases ei : innerG x.1 with
      | none =>
        rw [ei] at y
        cases y.2
      | some cs =>
        refine List.all_eq_true.mpr fun b hb => ?_
        obtain ⟨c, hc, rfl⟩ := List.mem_map.mp hb
        exact ih (c, x.2 + 1) (clo_kids h hx (mem_kids (by omega) ei hc)) (by show x.2 + 1 + n = 7; omega)
  exact z 6 (g, 1) (by rw [h]; exact List.mem_cons_self) rfl
theorem inner_subs {d : Nat} {g : G} (h : termG (d + 1) g = true) : innerG g = some (subsG g) := by
  cases termG_kind h with
  | rest => rfl
  | round h' k => rw [inner_round, if_pos h', subs_round]
  | ask h' => rw [inner_one _ (by decide +kernel) (by decide +kernel), last_ask, if_pos h', subs_ask]
  | call h' => rw [inner_one _ (by decide +kernel) (by decide +kernel), last_call, if_pos h', subs_call]
  | @thn gs h1 h2 k =>
    rw [inner_one _ (by decide +kernel) (by decide +kernel), last_then, subs_then]
    show (if 1 ≤ gs.length ∧ gs.length ≤ 8 then some gs else none) = _
    rw [if_pos ⟨h1, h2⟩]
  | @frk gs h1 h2 k =>
    rw [inner_one _ (by decide +kernel) (by decide +kernel), last_fork, subs_fork]
    show (if 2 ≤ gs.length ∧ gs.length ≤ 6 then some gs else none) = _
    rw [if_pos ⟨h1, h2⟩]
theorem call_subs {d : Nat} {g : G} (h : termG (d + 1) g = true) {s : Str} (e : callOf g = some s) : subsG g = [] := by
  cases termG_kind h with
  | rest => rfl
  | round h k => rw [call_no (by decide +kernel)] at e; cases e
  | ask h => rw [subs_ask]
  | call h => rw [subs_call]
  | thn h1 h2 k => rw [call_no (by decide +kernel)] at e; cases e
  | frk h1 h2 k => rw [call_no (by decide +kernel)] at e; cases e
def callsF (F : List It) : List Str := F.filterMap fun x => callOf x.1
theorem callsG_eq (ns : List Str) (d : Nat) (g : G) : callsG ns (d + 1) g = match callOf g with
    | some s => decide (s ∈ ns)
    | none => ((subsG g).map (callsG ns d)).all id := rfl
theorem clo_calls {g : G} {F : List It} (h : Clo g F) (t : termG 6 g = true) (ns : List Str) : callsG ns 6 g = true ↔ ∀ s ∈ callsF F, s ∈ ns := by
  have tm := clo_term h t
  constructor
  · intro hc s hs
    obtain ⟨x, hx, ex⟩ := List.mem_filterMap.mp hs
    have z := clo_down h (fun d g => d ≤ 6 ∧ termG (7 - d) g = true ∧ callsG ns (7 - d) g = true) ⟨by decide, t, hc⟩ (fun d g cs c hd h7 e hc => by
      obtain ⟨h6, ht, hn⟩ := hd
      have e1 : 7 - d = (7 - (d + 1)) + 1 := by omega
      rw [e1] at ht hn
      have z := termG_child ht e hc
      have h5 : d ≠ 6 := by
        rintro rfl
        cases z
      refine ⟨by omega, z, ?_⟩
      have e2 := inner_subs ht
      rw [e] at e2
      injection e2 with e2
      rw [callsG_eq] at hn
      cases ec : callOf g with
      | some s =>
        rw [call_subs ht ec] at e2
        rw [e2] at hc
        exact (List.not_mem_nil hc).elim
      | none =>
        rw [ec] at hn
        exact List.all_eq_true.mp hn _ (List.mem_map.mpr ⟨c, by rw [← e2]; exact hc, rfl⟩)) x.2 x hx rfl
    obtain ⟨h6, ht, hn⟩ := z
    have e1 : 7 - x.2 = (6 - x.2) + 1 := by omega
    rw [e1, callsG_eq, ex] at hn
    exact of_decide_eq_true hn
  · intro all
    have z : ∀ (n : Nat) (x : It), x ∈ F → x.2 + n = 7 → callsG ns n x.1 = true := by
      intro n
      induction n with
      | zero => exact fun x hx e => rfl
      | succ n ih =>
        intro x hx e
        obtain ⟨h6, ht⟩ := tm x hx
        have e1 : 7 - x.2 = n + 1 := by omega
        rw [e1] at ht
        rw [callsG_eq]
        cases ec : callOf x.1 with
        | some s => exact decide_eq_true (all s (List.mem_filterMap.mpr ⟨x, hx, ec⟩))
        | none =>
          refine List.all_eq_true.mpr fun b hb => ?_
          obtain ⟨c, hc, rfl⟩ := List.mem_map.mp hb
          exact ih (c, x.2 + 1) (clo_kids h hx (mem_kids (by omega) (inner_subs ht) hc)) (by show x.2 + 1 + n = 7; omega)
    exact z 6 (g, 1) (by rw [h]; exact List.mem_cons_self) rfl
theorem mid_orT {K : PySem.W.Frag} {ta tb : TE} {σ : L2.St} {H : Hp} {Q' : VK} (M : V → Hp → Prop) (hR : ∀ v H', M v H' → Q' v H') (h : ∀ Q'' : VK, (∀ v H', M v H' → Q'' v H') → tOrT K ta tb σ H Q'') : tOrT K ta tb σ H Q' := h Q' hR
theorem mid_ifN {t : TT} {u S : TS} {D : Ends} {r : V → Hp → Prop} {b c : L2.St → Hp → Prop} {σ : L2.St} {H : Hp} (M : Hp → Prop) (hR : ∀ H', M H' → S D σ H') (h : ∀ D2 : Ends, (∀ H', M H' → D2.nx σ H') → D2.rt = D.rt → tIfS t u tNext D2 σ H) : (Ends.mk (tSeq (tIfS t u tNext) S D) r b c).nx σ H := h _ hR rfl
theorem tg_zip {u : Addr} {H : Hp} {d : Nat} : ∀ {ws : List V} {cs : List G} {vs : List V}, TgL u H ws cs → vs.length = ws.length → (∀ (j : Nat) (w : V), ws[j]? = some w → ∃ e, vs[j]? = some (.ref e) ∧ T2 H e [w, .int (d : Int)]) → TgL u H vs ((cs.map fun c => ((c, d) : It)).map itG)
  | _, _, [], .nil, _, _ => .nil
  | _, _, _ :: _, .nil, e, _ => by cases e
  | _, _, [], .cons _ _, e, _ => by cases e
  | _, _, v :: vs, .cons h t, e, hs => by
    obtain ⟨e0, e1, e2⟩ := hs 0 _ rfl
    have e3 : v = .ref e0 := by simpa using e1
    subst e3
    exact .cons (.tup e2 (.cons h (.cons (.int _) .nil))) (tg_zip t (by simpa using e) fun j w hj => hs (j + 1) w (by simpa using hj))
theorem TgL.snoc {p : Addr} {H : Hp} {vs : List V} {gs : List G} {v : V} {g : G} (t : TgL p H vs gs) (h : Tg p H v g) : TgL p H (vs ++ [v]) (gs ++ [g]) := t.app (.cons h .nil)
theorem tg_item {p : Addr} {H : Hp} {v : V} {x : It} (h : Tg p H v (itG x)) : ∃ a u, v = .ref a ∧ T2 H a [u, .int (x.2 : Int)] ∧ Tg p H u x.1 := by
  cases h with
  | @tup a vs _ e t => cases t with
    | cons h1 t => cases t with
      | cons h2 t =>
        cases t
        cases h2
        exact ⟨a, _, rfl, e, h1⟩
theorem keepsU {H : Hp} {a : Addr} {xs ys : List V} (e : H a = some (.lst xs)) : Keeps a H (upd H a (.lst ys)) := by
  refine ⟨fun b vs nb eb => ?_, fun b vs h => K2.lst e _ _ h, fun b kvs eb => ?_⟩
  · rw [upd_ne nb]
    exact eb
  · rw [upd_ne (ne_of e eb (by intro y; cases y)).symm]
    exact eb
mutual
theorem Tg.re {p u : Addr} {H : Hp} (h : H u = none) : ∀ {v : V} {g : G}, Tg p H v g → Tg u H v g
  | _, _, .non => .non
  | _, _, .bl b => .bl b
  | _, _, .int i => .int i
  | _, _, .str s => .str s
  | _, _, .lst n e t => .lst (ne_of_none e h) e (TgL.re h t)
  | _, _, .tup e t => .tup e (TgL.re h t)
  | _, _, .dct e => .dct e
theorem TgL.re {p u : Addr} {H : Hp} (h : H u = none) : ∀ {vs : List V} {gs : List G}, TgL p H vs gs → TgL u H vs gs
  | _, _, .nil => .nil
  | _, _, .cons x t => .cons (Tg.re h x) (TgL.re h t)
end
def spGrown : Sp := fun vs H Q _ => ∃ (p L : Addr) (ws : List V) (g : G), vs = [.ref L] ∧ H L = some (.lst ws) ∧ TgL p H ws [itG (g, 1)] ∧ OkT g ∧ gsz g ≤ 100000 ∧ ∀ (u : Addr) (us : List V) (F : List It) (H' : Hp), Same H H' → H u = none → H' u = some (.lst us) → TgL u H' us (F.map itG) → Clo g F → (∀ x ∈ F, OkT x.1) → F.length ≤ 100000 → Q (.ref u) H'
theorem shaped_nilT : SeqAt.shaped (.tuple []) = true := by decide +kernel
theorem strT_inner {g : G} {cs : List G} (h : innerG g = some cs) : ∃ x r, g = .tup (.str x :: r) := by
  cases g with
  | tup l => cases l with
    | nil => cases h
    | cons g0 r => cases g0 with
      | str x => exact ⟨x, r, rfl⟩
      | _ => cases h
  | _ => cases h
theorem kids_no {g : G} {d : Nat} (h : ¬ d < 7 ∨ innerG g = none) : kids (g, d) = [] := by
  unfold kids
  rcases h with h | h
  · rw [if_neg h]
  · show (if d < 7 then ((innerG g).getD []).map (fun c => (c, d + 1)) else []) = []
    rw [h]
    split <;> rfl
def num (σ : L2.St) (i : Nat) : Nat := match σ[i]? with
  | some (some (.int h)) => h.toNat
  | _ => 0
theorem sc_law_grown : FnScope ["_law_some", "_law_found", "_law_at", "_law_one", "_law_deep", "_law_part"] ["_law_some"] (defScope s_law_grown) := ⟨rfl, rfl, rfl, by decide +kernel, rfl, by decide +kernel, by decide +kernel⟩
section
variable {P : Program} {w : World} {K : PySem.W.Frag} {mg : Str → Option Value} {base : Heap}
theorem ok_lgrown (T : At K mg "_law_grown" s_law_grown ["_law_some"]) (B : Bt mg) (c_inner : Cal P w K mg base 3 "_law_inner" ["_law_thing"] spInner) : Cal P w K mg base 4 "_law_grown" ["_law_some"] spGrown := by
  refine cal_of T sc_law_grown (fun vs H Q E h => ?_) (fun f cdv A outer s H vs Q E hr h => ?_)
  · obtain ⟨p, L, ws, g, rfl, _⟩ := h
    rfl
  · obtain ⟨p, L, ws, g, rfl, hL, tl, ok, hz, q⟩ := h
    refine ⟨_, (pss_cons (ps_set (i := 1) sc_law_grown.nd rfl (Or.inl rfl) (pe_callTy call_list_of (by rfl) B.list (by decide +kernel) (pa_cons (pv 0) pa_nil)))
      (pss_cons (ps_set (i := 2) sc_law_grown.nd rfl (Or.inl rfl) pe_int)
      (pss_cons (ps_while PassesOwn.never (pt_cmpR op_lt (pv 2) (pe_callB call_len_seq (by rfl) B.len PySem.boot_len (pa_cons (pv 1) pa_nil)) (nomark _)) (pss_cons (ps_asg (pe_ix ix_list (pv 1) (pv 2) (fun _ _ => rfl)) (pg_tup (by rfl) (pgs_cons (pg_name (i := 3) sc_law_grown.nd rfl (Or.inl rfl)) (pgs_cons (pg_name (i := 4) sc_law_grown.nd rfl (Or.inr rfl)) pgs_nil))))
      (pss_cons (ps_if (PW.pt (pw_and (pt_cmpR op_lt (pv 4) pe_int (nomark _)) (pw_and (pt_val (pe_callB call_isi (by rfl) B.isinstance (by decide +kernel) (pa_cons (pv 3) (pa_cons (pe_bltn (v := .ty "tuple") (u := .type "tuple") (by rfl) B.tuple (by decide +kernel) rfl) pa_nil)))) (pw_and (pt_cmpR (op_neD hr.units) (pv 3) (pe_tupF pa_nil) (nomark _)) (pw_and1 (pt_val (pe_callB call_isi (by rfl) B.isinstance (by decide +kernel) (pa_cons (pe_ix ix_tup (pv 3) pe_int (fun _ _ => rfl)) (pa_cons (pe_bltn (v := .ty "str") (u := .type "str") (by rfl) B.str (by decide +kernel) rfl) pa_nil))))))))) (pss_one (ps_expr (pe_bm PySem.F.plainAttrs_list PySem.F.slot_list_extend PySem.F.type_list_extend mt_extend (pv 1) (pa_cons (pe_lc (own := [("_law_part", 5)]) (g := (gName 5)) (tt := tYes) (te := (tTupF (tCons (tVar 5) (tCons (tOp (rI0 fun i j => .int (i + j)) (tVar 4) (tC (.int 1))) tNil)))) (by rfl) sc_law_grown.nd (pi_list (pe_orT (pe_own c_inner hr (by decide) (by rfl) (pa_cons (pv 3) pa_nil)) (pe_one (pe_lst pa_nil)))) (blkOk_by (own := [("_law_part", 5)]) (N := ["_law_some", "_law_found", "_law_at", "_law_one", "_law_deep", "_law_part"]) (sc := defScope s_law_grown) (by decide +kernel)) (fun _ _ _ _ _ => (pg_name (i := 5) sc_law_grown.nd rfl (Or.inl rfl))) (fun _ _ _ _ _ => pts_nil) (fun _ _ _ _ _ => (pe_tupF (pa_cons (pv 5) (pa_cons (pe_op op_add (pv 4) pe_int) pa_nil))))) pa_nil)))) pss_nil)
      (pss_one (ps_set (i := 2) sc_law_grown.nd rfl (Or.inl rfl) (pe_op op_add (pv 2) pe_int))))))
      (pss_one (ps_ret (pv 1)))))), ?_⟩
    refine ⟨_, rfl, L, _, rfl, .inl (SqL.of hL), fun u nu => ?_⟩
    have su := same_upd (o := .lst ws) nu
    have tlu := (tl.re nu).keep (Keeps.same su)
    refine while_by (fun σ H2 => ∃ (i : Nat) (us : List V) (F : List It) (y3 y4 : Option V), σ = [some (.ref L), some (.ref u), some (.int i), y3, y4, none] ∧ H2 u = some (.lst us) ∧ TgL u H2 us (F.map itG) ∧ F = (g, 1) :: (F.take i).flatMap kids ∧ i ≤ F.length ∧ (∀ x ∈ F, OkT x.1) ∧ i + isz (F.drop i) ≤ 100000 ∧ Kept u H H2)
      (fun σ _ => 100001 - num σ 2) ?_ ?_ ?_
    · refine ⟨0, ws, [(g, 1)], none, none, rfl, upd_same, tlu, rfl, Nat.zero_le _, fun x hx => ?_, ?_, Kept.same su⟩
      · rw [List.mem_singleton.mp hx]
        exact ok
      · show 0 + (gsz g + 0) ≤ 100000
        omega
    · rintro σ H2 ⟨i, us, F, y3, y4, rfl, hu, tf, eF, hi, okF, hsz, k2⟩
      have hul : us.length = F.length := by
        rw [tf.len, List.length_map]
      refine ⟨_, rfl, _, rfl, u, _, rfl, .inl (SqL.of hu), _, _, rfl, rfl, _, rfl, iteB (fun z => ?_) (fun z => ?_)⟩
      · have lt : i < F.length := by
          have := of_decide_eq_true z
          omega
        have ex : F[i]? = some F[i] := List.getElem?_eq_getElem lt
        have ed : F.drop i = F[i] :: F.drop (i + 1) := List.drop_eq_getElem_cons lt
        have okx := okF _ (List.getElem_mem lt)
        generalize F[i] = x at ex ed okx
        obtain ⟨g0, d⟩ := x
        have hxu : us[i]? = some us[i] := List.getElem?_eq_getElem (by omega)
        obtain ⟨gi, egi, tgi⟩ := tf.get hxu
        rw [List.getElem?_map, ex] at egi
        injection egi with egi
        subst egi
        obtain ⟨a, v0, ea, ha, hv0⟩ := tg_item tgi
        have hsz2 : i + (gsz g0 + isz (F.drop (i + 1))) ≤ 100000 := by
          rw [ed] at hsz
          exact hsz
        have gp := gsz_pos g0
        have fl : F.length ≤ 100000 := by
          have y := isz_len (F.drop i)
          rw [List.length_drop] at y
          omega
        refine ⟨_, rfl, _, rfl, u, us, _, _, rfl, rfl, SqL.of hu, atI_nat (by rw [hxu, ea]), ?_⟩
        refine ⟨a, _, rfl, ha.sq, rfl, _, _, rfl, _, _, rfl, rfl, ?_⟩
        -- behind: at = at + 1, with what was added
        have fin : ∀ (H3 : Hp) (D2 : Ends), (∀ σ' H', (∃ (i : Nat) (us : List V) (F : List It) (y3 y4 : Option V), σ' = [some (.ref L), some (.ref u), some (.int i), y3, y4, none] ∧ H' u = some (.lst us) ∧ TgL u H' us (F.map itG) ∧ F = (g, 1) :: (F.take i).flatMap kids ∧ i ≤ F.length ∧ (∀ x ∈ F, OkT x.1) ∧ i + isz (F.drop i) ≤ 100000 ∧ Kept u H H') ∧ 100001 - num σ' 2 < 100001 - i → D2.nx σ' H') → (∃ vs3, H3 u = some (.lst (us ++ vs3)) ∧ TgL u H3 (us ++ vs3) ((F ++ kids (g0, d)).map itG)) → Kept u H H3 → tAsg (tOp (rI0 fun i j => .int (i + j)) (tVar 2) (tC (.int 1))) (gName 2) D2 [some (.ref L), some (.ref u), some (.int i), some v0, some (.int (d : Int)), none] H3 := by
          rintro H3 D2 hD2 ⟨vs3, hu3, tf3⟩ k3
          refine ⟨_, rfl, _, _, rfl, rfl, ?_⟩
          have et : (F ++ kids (g0, d)).take (i + 1) = F.take i ++ [(g0, d)] := by
            rw [List.take_append_of_le_length (by omega), take_one ex]
          refine hD2 _ _ ⟨⟨i + 1, us ++ vs3, F ++ kids (g0, d), _, _, rfl, hu3, tf3, ?_, ?_, ?_, ?_, k3⟩, ?_⟩
          · rw [et, List.flatMap_append, List.flatMap_singleton, ← List.cons_append, ← eF]
          · rw [List.length_append]
            omega
          · intro y hy
            rcases List.mem_append.mp hy with hy | hy
            · exact okF y hy
            · obtain ⟨_, _, cs, e1, e2⟩ := kids_mem hy
              exact inner_ok e1 okx _ e2
          · rw [List.drop_append_of_le_length (by omega), isz_app]
            have := isz_kids (g0, d)
            have e9 : gsz ((g0, d) : It).1 = gsz g0 := rfl
            omega
          · show 100001 - ((i : Int) + 1).toNat < 100001 - i
            omega
        have none' : kids (g0, d) = [] → ∃ vs3, H2 u = some (.lst (us ++ vs3)) ∧ TgL u H2 (us ++ vs3) ((F ++ kids (g0, d)).map itG) := fun e => ⟨[], by rw [List.append_nil]; exact hu, by rw [e, List.append_nil, List.append_nil]; exact tf⟩
        have noneS : ∀ {H3 : Hp}, Same H2 H3 → kids (g0, d) = [] → ∃ vs3, H3 u = some (.lst (us ++ vs3)) ∧ TgL u H3 (us ++ vs3) ((F ++ kids (g0, d)).map itG) := fun s e => by
          obtain ⟨vs3, h1, h2⟩ := none' e
          exact ⟨vs3, s _ _ h1, h2.keep (Keeps.same s)⟩
        refine mid_ifN (fun H3 => (∃ vs3, H3 u = some (.lst (us ++ vs3)) ∧ TgL u H3 (us ++ vs3) ((F ++ kids (g0, d)).map itG)) ∧ Kept u H H3) ?rest ?now
        case rest =>
          rintro H3 ⟨h3, k3⟩
          exact fin H3 _ (fun σ' H' h => h) h3 k3
        case now =>
          intro D2 hD2 _
          refine ⟨_, rfl, _, _, rfl, rfl, _, rfl, iteB (fun z1 => ?_) (fun z1 => ?_)⟩
          rotate_left
          · exact hD2 _ ⟨noneS (Same.refl H2) (kids_no (.inl (of_decide_eq_false z1 ∘ fun h => by omega))), k2⟩
          have d7 : d < 7 := by
            have := of_decide_eq_true z1
            omega
          refine ⟨_, rfl, v0, .ty "tuple", _, _, _, rfl, .ty "tuple", hv0.ty, kit_tuple g0, _, rfl, iteB (fun z2 => ?_) (fun z2 => ?_)⟩
          rotate_left
          · refine hD2 _ ⟨noneS (Same.refl H2) (kids_no (.inr ?_)), k2⟩
            cases g0 <;> first | rfl | cases z2
          cases hv0 with
          | @tup a0 v00 l0 ha0 t0 =>
            refine ⟨_, rfl, Nat.zero_le _, fun c H3 s3 nc pc => ?_⟩
            have ha3 := ha0.same s3
            have t3 := t0.keep (Keeps.same (p := u) s3)
            have okd : okDs l0 = true := by
              have y := okx.ok
              simp only [okD] at y
              exact y
            refine ⟨_, _, .tup ha3.sq (TgL.dp t3 okd), .tup pc.sq .nil, okx.shaped, shaped_nilT, _, rfl, ?_⟩
            have k3 := k2.trans (Kept.same s3)
            cases t0 with
            | nil =>
              refine iteF (hD2 _ ⟨noneS s3 (kids_no (.inr rfl)), k3⟩)
            | @cons v1 vr g1 r h1 tr =>
              refine iteT ?_
              refine ⟨_, rfl, _, _, _, _, rfl, rfl, ha3.sq, atI_nat (j := 0) rfl, v1, .ty "str", _, _, _, rfl, .ty "str", (h1.keep (Keeps.same s3)).ty, kit_str g1, _, rfl, iteB (fun z4 => ?_) (fun z4 => ?_)⟩
              rotate_left
              · refine hD2 _ ⟨noneS s3 (kids_no (.inr ?_)), k3⟩
                cases g1 <;> first | rfl | cases z4
              cases h1 with
              | str x =>
                cases t3 with
                | @cons _ _ _ _ h13 tr3 =>
                  have hu3 := s3 _ _ hu
                  have tf3 := tf.keep (Keeps.same s3)
                  refine ⟨_, rfl, .inl ⟨rfl, _, SqL.of hu3⟩, ?_⟩
                  refine mid_orT (M := fun v H4 => ∃ (b : Addr) (ws : List V) (cs : List G), v = .ref b ∧ Same H3 H4 ∧ H4 b = some (.lst ws) ∧ TgL u H4 ws cs ∧ kids (.tup (.str x :: r), d) = cs.map fun c => (c, d + 1)) ?hR ?hM
                  case hM =>
                    intro Q2 hQ2
                    refine ⟨_, rfl, u, a0, x, vr, r, rfl, ha3, tr3, okx, fun e H4 s4 => ?_, fun cs e b ws H4 s4 nb hb tb => ?_⟩
                    · refine ⟨false, rfl, iteF ⟨Nat.zero_le _, fun b nb => hQ2 _ _ ⟨b, [], [], rfl, s4.trans (same_upd nb), upd_same, .nil, kids_no (.inr e)⟩⟩⟩
                    · have ek : kids (.tup (.str x :: r), d) = cs.map fun c => (c, d + 1) := by
                        unfold kids
                        rw [if_pos d7]
                        show ((innerG (.tup (.str x :: r))).getD []).map _ = _
                        rw [e]
                        rfl
                      cases ws with
                      | nil =>
                        cases tb
                        exact ⟨false, .inl ⟨_, SqL.of hb, rfl⟩, iteF ⟨Nat.zero_le _, fun b2 nb2 => hQ2 _ _ ⟨b2, [], [], rfl, s4.trans (same_upd nb2), upd_same, .nil, ek⟩⟩⟩
                      | cons w0 ws => exact ⟨true, .inl ⟨_, SqL.of hb, rfl⟩, iteT (hQ2 _ _ ⟨b, _, cs, rfl, s4, hb, tb, ek⟩)⟩
                  case hR =>
                    rintro v H4 ⟨b, ws, cs, rfl, s4, hb, tb, ek⟩
                    have cl : cs.length ≤ 100000 := by
                      have y := isz_kids (.tup (.str x :: r), d)
                      have y2 := isz_len (kids (.tup (.str x :: r), d))
                      have y3 : gsz ((G.tup (.str x :: r), d) : It).1 = gsz (.tup (.str x :: r)) := rfl
                      rw [ek, List.length_map] at y2
                      rw [ek] at y
                      omega
                    have wl := tb.len
                    have hb4 : sizeLine = 16777216 := rfl
                    refine ⟨b, rfl, ⟨_, SqL.of hb⟩, fun D nD => ?_⟩
                    have ebD : b ≠ D := ne_of_none hb nD
                    refine lc_list (K := K) (a := b) (xs := ws) (fun k H5 => Same H4 H5 ∧ ∃ vs5, H5 D = some (.lst vs5) ∧ vs5.length = k ∧ ∀ (j : Nat) (w : V), j < k → ws[j]? = some w → ∃ e, vs5[j]? = some (.ref e) ∧ T2 H5 e [w, .int ((d + 1 : Nat) : Int)]) ?_ ?_ ?_ ?_
                    · exact ⟨same_upd nD, [], upd_same, rfl, fun j w hj => absurd hj (Nat.not_lt_zero _)⟩
                    · rintro k H5 _ ⟨s5, _⟩
                      exact SqL.of (s5 _ _ hb)
                    · rintro k y H5 hy ⟨s5, vs5, hD, vl, t5⟩
                      have hk : k < ws.length := (List.getElem?_eq_some_iff.mp hy).1
                      refine ⟨rfl, tyes ?_⟩
                      refine ⟨_, rfl, _, rfl, _, _, rfl, rfl, (by show 2 ≤ sizeLine; decide), fun e5 H6 s6 ne pe => ?_⟩
                      have hD6 := s6 _ _ hD
                      refine ⟨vs5, hD6, by omega, fun b2 o eb => ?_, vs5 ++ [.ref e5], upd_same, by rw [List.length_append, vl]; rfl, fun j w hj ew => ?_⟩
                      · rw [upd_ne (ne_of_none eb nD)]
                        exact s6 _ _ (s5 _ _ eb)
                      · have kz : K2 H6 (upd H6 D (.lst (vs5 ++ [.ref e5]))) := K2.lst hD6
                        rcases Nat.lt_or_eq_of_le (Nat.le_of_lt_succ hj) with h | rfl
                        · obtain ⟨e, e1, e2⟩ := t5 j w h ew
                          exact ⟨e, by rw [List.getElem?_append_left (by omega)]; exact e1, kz _ _ (e2.same s6)⟩
                        · rw [hy] at ew
                          injection ew with ew
                          subst ew
                          refine ⟨e5, by rw [List.getElem?_append_right (by omega), vl, Nat.sub_self]; rfl, kz _ _ (.inl pe)⟩
                    · rintro H5 ⟨s5, vs5, hD, vl, t5⟩
                      have t6 : TgL u H5 vs5 ((cs.map fun c => ((c, d + 1) : It)).map itG) := tg_zip (tb.keep (Keeps.same s5)) vl fun j w ew => t5 j w (List.getElem?_eq_some_iff.mp ew).1 ew
                      have hu5 := s5 _ _ (s4 _ _ hu3)
                      have tf5 := tf3.keep (Keeps.same (s4.trans s5))
                      refine ⟨u, D, us, vs5, rfl, rfl, hu5, hD, by omega, ?_⟩
                      refine hD2 _ ⟨⟨vs5, upd_same, ?_⟩, (k3.trans (Kept.same (s4.trans s5))).trans (Kept.upd u _ _)⟩
                      rw [List.map_append, ek]
                      exact (tf5.app t6).keep (keepsU hu5)
              | _ => cases z4
          | _ => cases z2
      · have en : i = F.length := by
          have := of_decide_eq_false z
          omega
        subst en
        rw [List.take_length] at eF
        refine ⟨_, rfl, q u us F H2 (fun b o e => k2 b o e (ne_of_none e nu)) nu hu tf eF okF ?_⟩
        omega
    · rintro σ H3 Q1 Q2 hQ ⟨v, e1, v2, e2, p2, ys, e3, e4, i, j, e5, e6, k, e7, e8⟩
      exact ⟨v, e1, v2, e2, p2, ys, e3, e4, i, j, e5, e6, k, e7, hQ _ _ e8⟩
end
end Su
/-! ### LJ: what is a term, what it calls, what is due, by the law -/
namespace Su
open PySem PySem.Spec PyProof.Rows L2
theorem units65 {k : Nat} {A : Around} (r : Room k A) : A.units + 65 < cLine := by
  have := r.un
  omega
def spLTerm : Sp := fun vs H Q _ => ∃ (p : Addr) (v : V) (g : G), vs = [v] ∧ Tg p H v g ∧ OkT g ∧ gsz g ≤ 100000 ∧ ∀ H', Same H H' → Q (.bl (termG 6 g)) H'
def spLCalls : Sp := fun vs H Q _ => ∃ (p : Addr) (v : V) (g : G), vs = [v] ∧ Tg p H v g ∧ OkT g ∧ gsz g ≤ 100000 ∧ termG 6 g = true ∧ ∀ (u : Addr) (ss : List Str) (H' : Hp), Same H H' → H u = none → H' u = some (.lst (ss.map V.str)) →
  (∀ ns, callsG ns 6 g = true ↔ ∀ s ∈ ss, s ∈ ns) → (∀ s ∈ ss, letG 6 (.str s) = true) → ss.length ≤ 100000 → Q (.ref u) H'
theorem tgl_get {u : Addr} {H : Hp} {us : List V} {F : List It} (tf : TgL u H us (F.map itG)) {i : Nat} {x : V} (hx : us[i]? = some x) : ∃ (y : It) (a : Addr) (v : V), F[i]? = some y ∧ x = .ref a ∧ T2 H a [v, .int (y.2 : Int)] ∧ Tg u H v y.1 := by
  obtain ⟨gi, egi, tgi⟩ := tf.get hx
  rw [List.getElem?_map] at egi
  obtain ⟨y, ey, rfl⟩ := Option.map_eq_some_iff.mp egi
  obtain ⟨a, v, ea, ha, hv⟩ := tg_item tgi
  exact ⟨y, a, v, ey, ea, ha, hv⟩
theorem sc_law_is_term : FnScope ["_law_thing", "_law_some", "_law_one", "_law_deep"] ["_law_thing"] (defScope s_law_is_term) := ⟨rfl, rfl, rfl, by decide +kernel, rfl, by decide +kernel, by decide +kernel⟩
theorem sc_law_calls : FnScope ["_law_term_here", "_law_one", "_law_deep"] ["_law_term_here"] (defScope s_law_calls) := ⟨rfl, rfl, rfl, by decide +kernel, rfl, by decide +kernel, by decide +kernel⟩
section
variable {P : Program} {w : World} {K : PySem.W.Frag} {mg : Str → Option Value} {base : Heap}
theorem ok_lterm (T : At K mg "_law_is_term" s_law_is_term ["_law_thing"]) (B : Bt mg) (c_grown : Cal P w K mg base 4 "_law_grown" ["_law_some"] spGrown) (c_inner : Cal P w K mg base 3 "_law_inner" ["_law_thing"] spInner) : Cal P w K mg base 5 "_law_is_term" ["_law_thing"] spLTerm := by
  refine cal_of T sc_law_is_term (fun vs H Q E h => ?_) (fun f cdv A outer s H vs Q E hr h => ?_)
  · obtain ⟨p, v, g, rfl, _⟩ := h
    rfl
  · obtain ⟨p, v, g, rfl, hv, ok, hz, q⟩ := h
    refine ⟨_, (pss_cons (ps_set (i := 1) sc_law_is_term.nd rfl (Or.inl rfl) (pe_lst (pa_cons (pe_tupF (pa_cons (pv 0) (pa_cons pe_int pa_nil))) pa_nil)))
      (pss_cons (ps_for PassesOwn.never rfl (pi_list (pe_own c_grown hr (by decide) (by rfl) (pa_cons (pv 1) pa_nil))) (pg_tup (by rfl) (pgs_cons (pg_name (i := 2) sc_law_is_term.nd rfl (Or.inl rfl)) (pgs_cons (pg_name (i := 3) sc_law_is_term.nd rfl (Or.inl rfl)) pgs_nil))) (pss_cons (ps_if (PW.pt (pw_or (pt_cmpR op_gt (pv 3) pe_int (nomark _)) (pw_or (pt_not (pt_val (pe_callB call_isi (by rfl) B.isinstance (by decide +kernel) (pa_cons (pv 2) (pa_cons (pe_bltn (v := .ty "tuple") (u := .type "tuple") (by rfl) B.tuple (by decide +kernel) rfl) pa_nil))))) (pw_or (pt_cmpR (op_eqD hr.units) (pv 2) (pe_tupF pa_nil) (nomark _)) (pw_or1 (pt_not (pt_val (pe_callB call_isi (by rfl) B.isinstance (by decide +kernel) (pa_cons (pe_ix ix_tup (pv 2) pe_int (fun _ _ => rfl)) (pa_cons (pe_bltn (v := .ty "str") (u := .type "str") (by rfl) B.str (by decide +kernel) rfl) pa_nil)))))))))) (pss_one (ps_ret pe_bl)) pss_nil)
      (pss_one (ps_if (pt_cmpR op_isN (pe_own c_inner hr (by decide) (by rfl) (pa_cons (pv 2) pa_nil)) pe_non (nomark _)) (pss_one (ps_ret pe_bl)) pss_nil))))
      (pss_one (ps_ret pe_bl)))), ?_⟩
    refine ⟨_, rfl, (by show 2 ≤ sizeLine; decide), fun t1 H1 s1 n1 p1 => ?_⟩
    refine ⟨(by show 1 ≤ sizeLine; decide), fun L nL => ?_⟩
    have sL := same_upd (o := .lst [V.ref t1]) nL
    have tl : TgL p (upd H1 L (.lst [V.ref t1])) [V.ref t1] [itG (g, 1)] := .cons (.tup (T2.same (.inl p1) sL) (.cons (hv.keep (Keeps.same (s1.trans sL))) (.cons (.int _) .nil))) .nil
    refine ⟨_, rfl, p, L, _, g, rfl, upd_same, tl, ok, hz, fun u us F H2 s2 nu hu tf clo okF hl => ?_⟩
    have s02 : Same H H2 := (s1.trans sL).trans s2
    have hul : us.length = F.length := by
      rw [tf.len, List.length_map]
    refine ⟨u, rfl, ⟨_, SqL.of hu⟩, ?_⟩
    refine for_list (K := K) (a := u) (xs := us) (fun i σ H3 => ∃ y2 y3 : Option V, σ = [some v, some (.ref L), y2, y3] ∧ Same H2 H3 ∧ ∀ (j : Nat) (x : It), j < i → F[j]? = some x → fine x = true) ?_ ?_ ?_ ?_
    · exact ⟨none, none, rfl, Same.refl H2, fun j x hj => absurd hj (Nat.not_lt_zero _)⟩
    · rintro i σ H3 _ ⟨_, _, _, s3, _⟩
      exact SqL.of (s3 _ _ hu)
    · rintro i x σ H3 hx ⟨y2, y3, rfl, s3, good⟩
      obtain ⟨⟨g0, d⟩, a, v0, ey, rfl, ha, hv0⟩ := tgl_get tf hx
      have ha3 := ha.same s3
      have hv3 := hv0.keep (Keeps.same s3)
      have okx := okF _ (List.mem_of_getElem? ey)
      have bad : ∀ {H4 : Hp}, Same H3 H4 → fine (g0, d) = false → Q (.bl false) H4 := fun s4 e => by
        have z := q _ ((s02.trans s3).trans s4)
        have e2 : termG 6 g = false := by
          cases e3 : termG 6 g with
          | false => rfl
          | true =>
            rw [clo_fine clo e3 _ (List.mem_of_getElem? ey)] at e
            cases e
        rw [e2] at z
        exact z
      have fd : fine (g0, d) = (decide (d ≤ 6) && (innerG g0).isSome) := rfl
      refine ⟨a, _, rfl, ha3.sq, rfl, _, _, rfl, _, _, rfl, rfl, ?_⟩
      refine ⟨_, rfl, _, _, rfl, rfl, _, rfl, iteB (fun z => ?_) (fun z => ?_)⟩
      · refine iteT (bad (Same.refl H3) ?_)
        have := of_decide_eq_true z
        rw [fd, decide_eq_false (by omega), Bool.false_and]
      have d6 : d ≤ 6 := by
        have := of_decide_eq_false z
        omega
      rw [decide_eq_true d6, Bool.true_and] at fd
      refine ⟨_, rfl, v0, .ty "tuple", _, _, _, rfl, .ty "tuple", hv3.ty, kit_tuple g0, _, rfl, iteB (fun e => ?_) (fun e => ?_)⟩
      · refine iteT (bad (Same.refl H3) ?_)
        rw [fd]
        cases g0 <;> first | rfl | cases e
      cases hv3 with
      | @tup a0 v00 l0 ha0 t0 =>
        refine ⟨_, rfl, Nat.zero_le _, fun c H4 s4 nc pc => ?_⟩
        have ha4 := ha0.same s4
        have t4 := t0.keep (Keeps.same (p := u) s4)
        have okd : okDs l0 = true := by
          have y := okx.ok
          simp only [okD] at y
          exact y
        refine ⟨_, _, .tup ha4.sq (TgL.dp t4 okd), .tup pc.sq .nil, okx.shaped, shaped_nilT, _, rfl, ?_⟩
        cases t4 with
        | nil =>
          refine iteT (iteT (bad s4 ?_))
          rw [fd]
          rfl
        | @cons v1 vr g1 r h1 tr =>
          refine iteF ?_
          refine ⟨_, rfl, _, _, _, _, rfl, rfl, ha4.sq, atI_nat (j := 0) rfl, v1, .ty "str", _, _, _, rfl, .ty "str", h1.ty, kit_str g1, _, rfl, iteB (fun z4 => ?_) (fun z4 => ?_)⟩
          · refine bad s4 ?_
            rw [fd]
            cases g1 <;> first | rfl | cases z4
          cases h1 with
          | str x =>
            refine ⟨_, rfl, u, a0, x, vr, r, rfl, ha4, tr, okx, fun e H5 s5 => ?_, fun cs e b ws H5 s5 nb hb tb => ?_⟩
            · refine ⟨rfl, _, rfl, iteT (bad (s4.trans s5) ?_)⟩
              rw [fd, e]
              rfl
            · refine ⟨rfl, _, rfl, iteB (fun z => absurd (of_decide_eq_true z) (by intro y; cases y)) (fun _ => ?_)⟩
              refine ⟨_, _, rfl, s3.trans (s4.trans s5), fun j x hj ej => ?_⟩
              rcases Nat.lt_succ_iff_lt_or_eq.mp hj with h | rfl
              · exact good j x h ej
              · rw [ey] at ej
                injection ej with ej
                subst ej
                rw [fd, e]
                rfl
          | _ => cases z4
      | _ => cases e
    · rintro σ H3 ⟨y2, y3, rfl, s3, good⟩
      rw [hul] at good
      have z := q _ (s02.trans s3)
      rw [fine_term clo fun x hx => by
        obtain ⟨j, hj, ej⟩ := List.getElem_of_mem hx
        exact good j x hj (by rw [List.getElem?_eq_getElem hj, ej])] at z
      exact z
theorem ok_lcalls (T : At K mg "_law_calls" s_law_calls ["_law_term_here"]) (B : Bt mg) (c_grown : Cal P w K mg base 4 "_law_grown" ["_law_some"] spGrown) : Cal P w K mg base 5 "_law_calls" ["_law_term_here"] spLCalls := by
  refine cal_of T sc_law_calls (fun vs H Q E h => ?_) (fun f cdv A outer s H vs Q E hr h => ?_)
  · obtain ⟨p, v, g, rfl, _⟩ := h
    rfl
  · obtain ⟨p, v, g, rfl, hv, ok, hz, ht, q⟩ := h
    refine ⟨_, (pss_one (ps_ret (pe_lc (own := [("_law_one", 1), ("_law_deep", 2)]) (g := (gTup K 2 (gCons (gName 1) (gCons (gName 2) gNil)))) (tt := (tTest (tOp rEq (tOp (rIxT K) (tVar 1) (tC (.int 0))) (tC (.str "call"))))) (te := (tOp (rIxT K) (tVar 1) (tC (.int 1)))) (by rfl) sc_law_calls.nd (pi_list (pe_own c_grown hr (by decide) (by rfl) (pa_cons (pe_lst (pa_cons (pe_tupF (pa_cons (pv 0) (pa_cons pe_int pa_nil))) pa_nil)) pa_nil))) (blkOk_by (own := [("_law_one", 1), ("_law_deep", 2)]) (N := ["_law_term_here", "_law_one", "_law_deep"]) (sc := defScope s_law_calls) (by decide +kernel)) (fun _ _ _ _ _ => (pg_tup (by rfl) (pgs_cons (pg_name (i := 1) sc_law_calls.nd rfl (Or.inl rfl)) (pgs_cons (pg_name (i := 2) sc_law_calls.nd rfl (Or.inl rfl)) pgs_nil)))) (fun _ _ _ _ _ => pts_one (pt_cmpR op_eq (pe_ix ix_tup (pv 1) pe_int (fun _ _ => rfl)) pe_str (nomark _))) (fun _ _ _ _ _ => (pe_ix ix_tup (pv 1) pe_int (fun _ _ => rfl)))))), ?_⟩
    refine ⟨_, rfl, (by show 2 ≤ sizeLine; decide), fun t1 H1 s1 n1 p1 => ?_⟩
    refine ⟨(by show 1 ≤ sizeLine; decide), fun L nL => ?_⟩
    have sL := same_upd (o := .lst [V.ref t1]) nL
    have tl : TgL p (upd H1 L (.lst [V.ref t1])) [V.ref t1] [itG (g, 1)] := .cons (.tup (T2.same (.inl p1) sL) (.cons (hv.keep (Keeps.same (s1.trans sL))) (.cons (.int _) .nil))) .nil
    refine ⟨p, L, _, g, rfl, upd_same, tl, ok, hz, fun u us F H2 s2 nu hu tf clo okF hl => ?_⟩
    have s02 : Same H H2 := (s1.trans sL).trans s2
    have hul : us.length = F.length := by
      rw [tf.len, List.length_map]
    have hb4 : sizeLine = 16777216 := rfl
    refine ⟨u, rfl, ⟨_, SqL.of hu⟩, fun D nD => ?_⟩
    refine lc_list (K := K) (a := u) (xs := us) (fun i H3 => Same H2 H3 ∧ H3 D = some (.lst ((callsF (F.take i)).map V.str))) ?_ ?_ ?_ ?_
    · exact ⟨same_upd nD, upd_same⟩
    · rintro i H3 _ ⟨s3, _⟩
      exact SqL.of (s3 _ _ hu)
    · rintro i x H3 hx ⟨s3, hD⟩
      obtain ⟨⟨g0, d⟩, a, v0, ey, rfl, ha, hv0⟩ := tgl_get tf hx
      obtain ⟨h6, ht0⟩ := clo_term clo ht _ (List.mem_of_getElem? ey)
      have e1 : 7 - d = (6 - d) + 1 := by
        have : d ≤ 6 := h6
        omega
      have ht1 : termG ((6 - d) + 1) g0 = true := by
        rw [← e1]
        exact ht0
      have hv3 := hv0.keep (Keeps.same s3)
      refine ⟨a, _, rfl, (ha.same s3).sq, rfl, _, _, rfl, _, _, rfl, rfl, rfl, ?_⟩
      have et : callsF (F.take (i + 1)) = callsF (F.take i) ++ (callOf g0).toList := fm_take ey
      rcases calls_cases hv3 ht1 with ⟨b, x, rfl, hb, ec⟩ | ⟨b, x, vr, rfl, hb, n1, ec⟩
      · refine ⟨_, rfl, _, _, _, _, rfl, rfl, hb.sq, atI_nat (j := 0) rfl, rfl, _, rfl, iteT ?_⟩
        refine ⟨_, rfl, _, _, _, _, rfl, rfl, hb.sq, atI_nat (j := 1) rfl, _, hD, ?_, fun c o e => ?_, ?_⟩
        · rw [List.length_map]
          have := List.length_filterMap_le (fun x : It => callOf x.1) (F.take i)
          rw [List.length_take] at this
          unfold callsF
          omega
        · rw [upd_ne (ne_of_none e nD)]
          exact s3 _ _ e
        · rw [upd_same, et, ec, List.map_append]
          rfl
      · refine ⟨_, rfl, _, _, _, _, rfl, rfl, hb.sq, atI_nat (j := 0) rfl, rfl, _, rfl, ?_⟩
        rw [decide_eq_false (fun y => n1 (by injection y))]
        refine iteF ⟨s3, ?_⟩
        rw [et, ec]
        show H3 D = some (.lst ((callsF (F.take i) ++ []).map V.str))
        rw [List.append_nil]
        exact hD
    · rintro H3 ⟨s3, hD⟩
      rw [hul, List.take_length] at hD
      refine q D (callsF F) H3 (s02.trans s3) (s02.free nD) hD (fun ns => clo_calls clo ht ns) (fun s hs => ?_) ?_
      · obtain ⟨x, hx, ex⟩ := List.mem_filterMap.mp hs
        obtain ⟨h6, ht0⟩ := clo_term clo ht x hx
        have e1 : 7 - x.2 = (6 - x.2) + 1 := by omega
        rw [e1] at ht0
        generalize x.1 = g1 at ht0 ex
        cases termG_kind ht0 with
        | call h =>
          rw [call_call] at ex
          injection ex with ex
          rw [← ex]
          exact h
        | rest => rw [call_no (by decide +kernel)] at ex; cases ex
        | round _ _ => rw [call_no (by decide +kernel)] at ex; cases ex
        | ask _ => rw [call_no (by decide +kernel)] at ex; cases ex
        | thn _ _ _ => rw [call_no (by decide +kernel)] at ex; cases ex
        | frk _ _ _ => rw [call_no (by decide +kernel)] at ex; cases ex
      · have := List.length_filterMap_le (fun x : It => callOf x.1) F
        unfold callsF
        omega
end
end Su
/-! ### LK: what is due -/
namespace Su
open PySem PySem.Spec PyProof.Rows L2
def wordP : Option (Option Nat) → V
  | none => .str "good"
  | some _ => .str "none"
def numP : Option (Option Nat) → V
  | none => .non
  | some r => numV r
/-- what stands in a list may be taken apart -/
def DueP (g : G) : Prop := ∀ gs, g = .lst gs → ∀ x ∈ gs, ∀ a b, x = .tup [a, b] → OkT a ∧ OkT b ∧ gsz b ≤ 100000
def spLDueP : Sp := fun vs H Q _ => ∃ (p : Addr) (v : V) (g : G), vs = [v] ∧ Tg p H v g ∧ DueP g ∧ ∀ (u : Addr) (H' : Hp), Same H H' → H u = none → H' u = some (.lst [wordP (lookP g), numP (lookP g)]) → Q (.ref u) H'
def fstG : G → Option G
  | .tup [a, _] => some a
  | _ => none
theorem eqv_str {g : G} {s : Str} (h : PyData.eqv (toD g) (.str s) = true) : g = .str s := by
  cases g with
  | str x =>
    have z : (x == s) = true := h
    rw [beq_iff_eq] at z
    rw [z]
  | _ => cases h
def inStr (bs : List G) (s : Str) : Bool := (toDs bs).any fun z => PyData.eqv z (.str s)
theorem any_str (bs : List G) (s : Str) : ((toDs bs).any fun z => PyData.eqv z (.str s)) = true ↔ .str s ∈ bs := by
  rw [toDs_map, List.any_map, List.any_eq_true]
  constructor
  · rintro ⟨x, hx, e⟩
    rw [← eqv_str e]
    exact hx
  · intro h
    exact ⟨_, h, (beq_self_eq_true s : (s == s) = true)⟩
theorem from_fst {gs : List G} {i : Nat} {s : Str} (h : letG 6 (.str s) = true) : s ∈ namesFrom gs i ↔ .str s ∈ (gs.drop (i + 1)).filterMap fstG := by
  unfold namesFrom
  rw [List.mem_filterMap, List.mem_filterMap]
  constructor
  · rintro ⟨x, hx, e⟩
    obtain ⟨t, rfl, _⟩ := nm_some e
    exact ⟨_, hx, rfl⟩
  · rintro ⟨x, hx, e⟩
    refine ⟨x, hx, ?_⟩
    unfold fstG at e
    split at e
    · injection e with e
      subst e
      exact nm_of h
    · cases e
theorem strs_shaped' {ss : List Str} (h : ∀ s ∈ ss, letG 6 (.str s) = true) : SeqAt.shaped (.list (ss.map PyData.str)) = true := strs_shaped fun s hs => by
  have z : ((decide (1 ≤ (s.length : Int)) && decide ((s.length : Int) ≤ 6)) && (s.cps.toList.map inLett).all id) = true := h s hs
  rw [Bool.and_eq_true, Bool.and_eq_true, decide_eq_true_eq, decide_eq_true_eq] at z
  obtain ⟨⟨h1, h2⟩, h3⟩ := z
  have e : s.length = s.cps.size := rfl
  refine ⟨by omega, by omega, fun c hc => ?_⟩
  have z := List.all_eq_true.mp h3 _ (List.mem_map.mpr ⟨c, hc, rfl⟩)
  exact of_decide_eq_true z
theorem str_shaped {s : Str} (h : letG 6 (.str s) = true) : SeqAt.shaped (.str s) = true := by
  have z := strs_shaped' (ss := [s]) fun x hx => by rw [List.mem_singleton.mp hx]; exact h
  unfold SeqAt.shaped at z ⊢
  rw [Bool.and_eq_true] at z
  have z2 : PyData.canLay0 (.str s) = true := by
    have y := z.1
    simp only [List.map_cons, List.map_nil, PyData.canLay0, PyData.canLayAll0, Bool.and_true] at y ⊢
    exact y
  rw [z2]
  simp [PyData.depth]
theorem namedG_two (a b : G) : namedG (.tup [a, b]) = (letG 6 a && termG 6 b) := rfl
theorem sc_law_due : FnScope ["_law_thing", "_law_ahead", "_law_number", "_law_one", "_law_behind", "_law_other", "_law_name"] ["_law_thing"] (defScope s_law_due) := ⟨rfl, rfl, rfl, by decide +kernel, rfl, by decide +kernel, by decide +kernel⟩
section
variable {P : Program} {w : World} {K : PySem.W.Frag} {mg : Str → Option Value} {base : Heap}
theorem ok_ldue (T : At K mg "_law_due" s_law_due ["_law_thing"]) (B : Bt mg) (c_is_name : Cal P w K mg base 1 "_law_is_name" ["_law_thing"] spLName) (c_is_term : Cal P w K mg base 5 "_law_is_term" ["_law_thing"] spLTerm) (c_calls : Cal P w K mg base 5 "_law_calls" ["_law_term_here"] spLCalls) :
    Cal P w K mg base 6 "_law_due" ["_law_thing"] spLDueP := by
  refine cal_of T sc_law_due (fun vs H Q E h => ?_) (fun f cdv A outer s H vs Q E hr h => ?_)
  · obtain ⟨p, v, g, rfl, _⟩ := h
    rfl
  · obtain ⟨p, v, g, rfl, hv, df, q⟩ := h
    refine ⟨_, (pss_cons (ps_if (PW.pt (pw_or (pt_not (pt_val (pe_callB call_isi (by rfl) B.isinstance (by decide +kernel) (pa_cons (pv 0) (pa_cons (pe_bltn (v := .ty "list") (u := .type "list") (by rfl) B.list (by decide +kernel) rfl) pa_nil))))) (pw_or1 (pt_not (pt_chain op_le op_le pe_int (pe_callB call_len_seq (by rfl) B.len PySem.boot_len (pa_cons (pv 0) pa_nil)) pe_int))))) (pss_one (ps_ret (pe_lst (pa_cons pe_str (pa_cons pe_non pa_nil))))) pss_nil)
      (pss_cons (ps_set (i := 1) sc_law_due.nd rfl (Or.inl rfl) (pe_lst pa_nil))
      (pss_cons (ps_for PassesOwn.never rfl (pi_enum (by rfl) B.enumerate (pa_cons (pv 0) pa_nil)) (pg_tup (by rfl) (pgs_cons (pg_name (i := 2) sc_law_due.nd rfl (Or.inl rfl)) (pgs_cons (pg_name (i := 3) sc_law_due.nd rfl (Or.inl rfl)) pgs_nil))) (pss_cons (ps_if (PW.pt (pw_or (pt_not (pt_val (pe_callB call_isi (by rfl) B.isinstance (by decide +kernel) (pa_cons (pv 3) (pa_cons (pe_bltn (v := .ty "tuple") (u := .type "tuple") (by rfl) B.tuple (by decide +kernel) rfl) pa_nil))))) (pw_or (pt_cmpR op_ne (pe_callB call_len_seq (by rfl) B.len PySem.boot_len (pa_cons (pv 3) pa_nil)) pe_int (nomark _)) (pw_or (pt_not (pt_val (pe_own c_is_name hr (by decide) (by rfl) (pa_cons (pe_ix ix_tup (pv 3) pe_int (fun _ _ => rfl)) pa_nil)))) (pw_or1 (pt_not (pt_val (pe_own c_is_term hr (by decide) (by rfl) (pa_cons (pe_ix ix_tup (pv 3) pe_int (fun _ _ => rfl)) pa_nil))))))))) (pss_one (ps_ret (pe_lst (pa_cons pe_str (pa_cons (pv 2) pa_nil))))) pss_nil)
      (pss_cons (ps_set (i := 4) sc_law_due.nd rfl (Or.inr rfl) (pe_lc (own := [("_law_other", 5)]) (g := (gName 5)) (tt := (tAnd (tB (tCB (rIsi K) (tCons (tVar 5) (tCons (tC (.ty "tuple")) tNil)))) (tTest (tOp rEq (tCB (rLenK K) (tCons (tVar 5) tNil)) (tC (.int 2)))))) (te := (tOp (rIxT K) (tVar 5) (tC (.int 0)))) (by rfl) sc_law_due.nd (pi_list (pe_slice sl_list (pv 0) (po_some (pe_op op_add (pv 2) pe_int)) po_none)) (blkOk_by (own := [("_law_other", 5)]) (N := ["_law_thing", "_law_ahead", "_law_number", "_law_one", "_law_behind", "_law_other", "_law_name"]) (sc := defScope s_law_due) (by decide +kernel)) (fun _ _ _ _ _ => (pg_name (i := 5) sc_law_due.nd rfl (Or.inl rfl))) (fun _ _ _ _ _ => pts_one (PW.pt (pw_and (pt_val (pe_callB call_isi (by rfl) B.isinstance (by decide +kernel) (pa_cons (pv 5) (pa_cons (pe_bltn (v := .ty "tuple") (u := .type "tuple") (by rfl) B.tuple (by decide +kernel) rfl) pa_nil)))) (pw_and1 (pt_cmpR op_eq (pe_callB call_len_seq (by rfl) B.len PySem.boot_len (pa_cons (pv 5) pa_nil)) pe_int (nomark _)))))) (fun _ _ _ _ _ => (pe_ix ix_tup (pv 5) pe_int (fun _ _ => rfl)))))
      (pss_cons (ps_if (PW.pt (pw_or (pt_cmpR op_in_seq (pe_ix ix_tup (pv 3) pe_int (fun _ _ => rfl)) (pv 1) (by rfl)) (pw_or1 (pt_cmpR (op_neD hr.units) (pe_lc (own := [("_law_name", 6)]) (g := (gName 6)) (tt := (tTest (tOp (rNotInD K) (tVar 6) (tVar 4)))) (te := (tVar 6)) (by rfl) sc_law_due.nd (pi_list (pe_own c_calls hr (by decide) (by rfl) (pa_cons (pe_ix ix_tup (pv 3) pe_int (fun _ _ => rfl)) pa_nil))) (blkOk_by (own := [("_law_name", 6)]) (N := ["_law_thing", "_law_ahead", "_law_number", "_law_one", "_law_behind", "_law_other", "_law_name"]) (sc := defScope s_law_due) (by decide +kernel)) (fun _ _ _ _ _ => (pg_name (i := 6) sc_law_due.nd rfl (Or.inl rfl))) (fun _ _ _ _ _ => pts_one (pt_cmpR (op_notInD (units65 hr)) (pv 6) (pv 4) (by rfl))) (fun _ _ _ _ _ => (pv 6))) (pe_lst pa_nil) (nomark _))))) (pss_one (ps_ret (pe_lst (pa_cons pe_str (pa_cons (pv 2) pa_nil))))) pss_nil)
      (pss_one (ps_expr (pe_bm PySem.F.plainAttrs_list PySem.F.slot_list_append PySem.F.type_list_append mt_append (pv 1) (pa_cons (pe_ix ix_tup (pv 3) pe_int (fun _ _ => rfl)) pa_nil))))))))
      (pss_one (ps_ret (pe_lst (pa_cons pe_str (pa_cons pe_non pa_nil)))))))), ?_⟩
    have say : ∀ {r : Option Nat} {H1 : Hp}, lookP g = some r → Same H H1 → ∀ u, H1 u = none → Q (.ref u) (upd H1 u (.lst [V.str "none", numV r])) := by
      intro r H1 e s1 u nu
      exact q u _ (s1.trans (same_upd nu)) (s1.free nu) (by rw [e]; exact upd_same)
    refine ⟨_, rfl, v, .ty "list", _, _, _, rfl, .ty "list", hv.ty, kit_list g, _, rfl, iteB (fun e => ?_) (fun e => ?_)⟩
    · refine iteT ?_
      have z : lookP g = some none := by
        cases g <;> first | rfl | cases e
      exact ⟨(by show 2 ≤ sizeLine; decide), fun u nu => say z (Same.refl H) u nu⟩
    cases hv with
    | @lst a vs gs na ha t =>
      have hlen : vs.length = gs.length := t.len
      have dg := df gs rfl
      have lk : lookP (.lst gs) = if 1 ≤ gs.length ∧ gs.length ≤ 8 then (fb (okAt gs) gs.length 0).map some else some none := rfl
      refine ⟨_, rfl, a, _, rfl, .inl (SqL.of ha), _, _, rfl, rfl, _, rfl, iteB (fun e1 => ?_) (fun e1 => ?_)⟩
      rotate_left
      · refine ⟨_, rfl, iteT ?_⟩
        have l1 := of_decide_eq_false e1
        have z : lookP (.lst gs) = some none := by
          rw [lk, if_neg (by omega)]
        exact ⟨(by show 2 ≤ sizeLine; decide), fun u nu => say z (Same.refl H) u nu⟩
      refine ⟨_, _, rfl, rfl, _, rfl, ?_⟩
      have l1 := of_decide_eq_true e1
      refine iteB (fun e2 => ?_) (fun e2 => ?_)
      · have l2 : ¬ (vs.length : Int) ≤ 8 := by simpa using e2
        have z : lookP (.lst gs) = some none := by
          rw [lk, if_neg (by omega)]
        exact ⟨(by show 2 ≤ sizeLine; decide), fun u nu => say z (Same.refl H) u nu⟩
      have l2 : (vs.length : Int) ≤ 8 := by simpa using e2
      have l8 : gs.length ≤ 8 := by omega
      rw [if_pos (by omega)] at lk
      refine ⟨Nat.zero_le _, fun L nL => ?_⟩
      have sL : Same H (upd H L (.lst [])) := same_upd nL
      refine ⟨_, rfl, a, _, rfl, SqL.of (sL _ _ ha), ?_⟩
      refine for_enumS (K := K) (a := a) (xs := vs) (fun i σ H2 => ∃ y2 y3 y4 : Option V, σ = [some (.ref a), some (.ref L), y2, y3, y4, none, none] ∧ Same H H2 ∧ H2 L = some (.lst ((namesTo gs i).map V.str)) ∧ ∀ j, j < i → okAt gs j = true) ?_ ?_ ?_ ?_
      · exact ⟨none, none, none, rfl, sL, upd_same, fun j hj => absurd hj (Nat.not_lt_zero _)⟩
      · rintro i σ H2 _ ⟨_, _, _, _, s2, _⟩
        exact SqL.of (s2 _ _ ha)
      · rintro i x σ H2 T hx ⟨y2, y3, y4, rfl, s2, hL, good⟩ nT
        obtain ⟨g1, e4, tg0⟩ := t.get hx
        have hi : i < gs.length := (List.getElem?_eq_some_iff.mp e4).1
        have sT : Same H2 (upd H2 T (.tup [.int (i : Nat), x])) := same_upd nT
        have eo : okAt gs i = okOne gs i g1 := by
          unfold okAt
          rw [e4]
        have eo1 : okOne gs i g1 = ((namedG g1 && freshG (namesTo gs i) g1) && callsG (namesFrom gs i) 6 (tmOf g1)) := rfl
        have bad : okAt gs i = false → lookP (.lst gs) = some (some i) := by
          intro b
          rw [lk, fb_some gs.length 0 (fun j _ hj => good j hj) (Nat.zero_le _) (by omega) b]
          rfl
        refine ⟨T, _, rfl, SqT.of upd_same, rfl, _, _, rfl, _, _, rfl, rfl, ?_⟩
        have s3 := s2.trans sT
        have hL3 := sT _ _ hL
        generalize upd H2 T (.tup [.int (i : Nat), x]) = H3 at s3 hL3 ⊢
        have tg3 := tg0.keep (Keeps.same s3)
        have no : ∀ {H4 : Hp}, Same H H4 → namedG g1 = false → ∀ u, H4 u = none → Q (.ref u) (upd H4 u (.lst [V.str "none", V.int (i : Nat)])) := fun s4 b => say (r := some i) (bad (by rw [eo, eo1, b]; rfl)) s4
        refine ⟨_, rfl, x, .ty "tuple", _, _, _, rfl, .ty "tuple", tg3.ty, kit_tuple g1, _, rfl, iteB (fun e5 => ?_) (fun e5 => ?_)⟩
        · refine iteT ?_
          have b : namedG g1 = false := by
            cases g1 <;> first | rfl | cases e5
          exact ⟨_, rfl, (by show 2 ≤ sizeLine; decide), fun u nu => no s3 b u nu⟩
        obtain ⟨es, rfl⟩ : ∃ es, g1 = .tup es := by
          cases g1 <;> first | exact ⟨_, rfl⟩ | cases e5
        obtain ⟨b, ws, rfl, hb, tl⟩ : ∃ b ws, x = .ref b ∧ T2 H3 b ws ∧ TgL p H3 ws es := by
          cases tg3 with
          | tup e t => exact ⟨_, _, rfl, e, t⟩
        have hwl := tl.len
        refine ⟨_, rfl, b, _, rfl, .inr hb.sq, rfl, _, rfl, iteB (fun e6 => ?_) (fun e6 => ?_)⟩
        · have hne : ¬ es.length = 2 := by
            intro z
            rw [hwl, z] at e6
            cases e6
          have b : namedG (.tup es) = false := by
            match es, hne with
            | [], _ => rfl
            | [_], _ => rfl
            | [_, _], h => exact absurd rfl h
            | _ :: _ :: _ :: _, _ => rfl
          exact iteT ⟨_, rfl, (by show 2 ≤ sizeLine; decide), fun u nu => no s3 b u nu⟩
        obtain ⟨ga, gb, rfl⟩ : ∃ ga gb, es = [ga, gb] := by
          have hne : es.length = 2 := by
            have z := bTrue e6
            have z1 := V.int.inj (of_decide_eq_true z)
            omega
          match es, hne with
          | [x, y], _ => exact ⟨x, y, rfl⟩
        obtain ⟨va, vb, rfl, ta, tb⟩ : ∃ va vb, ws = [va, vb] ∧ Tg p H3 va ga ∧ Tg p H3 vb gb := by
          cases tl with
          | cons h1 t1 =>
            cases t1 with
            | cons h2 t2 =>
              cases t2
              exact ⟨_, _, rfl, h1, h2⟩
        obtain ⟨oka, okb, szb⟩ := dg _ (List.mem_of_getElem? e4) ga gb rfl
        rw [namedG_two] at eo1 no
        refine ⟨_, rfl, _, _, _, _, rfl, rfl, hb.sq, atI_nat (j := 0) rfl, p, va, ga, rfl, ta, oka, fun H4 s4 => ⟨_, rfl, iteB (fun e7 => ?_) (fun e7 => ?_)⟩⟩
        · exact iteT ⟨_, rfl, (by show 2 ≤ sizeLine; decide), fun u nu => no (s3.trans s4) (by rw [bFalse e7, Bool.false_and]) u nu⟩
        have n1 : letG 6 ga = true := bTrue e7
        refine ⟨_, rfl, _, _, _, _, rfl, rfl, (hb.same s4).sq, atI_nat (j := 1) rfl, p, vb, gb, rfl, tb.keep (Keeps.same s4), okb, szb, fun H5 s5 => ⟨_, rfl, iteB (fun e8 => ?_) (fun e8 => ?_)⟩⟩
        · exact ⟨_, rfl, (by show 2 ≤ sizeLine; decide), fun u nu => no ((s3.trans s4).trans s5) (by rw [bFalse e8, Bool.and_false]) u nu⟩
        have t1 : termG 6 gb = true := bTrue e8
        obtain ⟨z, rfl⟩ := letG_str n1
        have s35 := (s3.trans s4).trans s5
        have b1 : namedG (.tup [.str z, gb]) = true := by rw [namedG_two, n1, t1]; rfl
        have enm : nmG (.tup [.str z, gb]) = some z := nm_of n1
        rw [n1, t1, Bool.true_and, Bool.true_and] at eo1
        have fr : freshG (namesTo gs i) (.tup [.str z, gb]) = !decide (z ∈ namesTo gs i) := by
          unfold freshG
          rw [enm]
        have etm : tmOf (.tup [.str z, gb]) = gb := rfl
        rw [fr, etm] at eo1
        have bad2 : ∀ {H6 : Hp}, Same H H6 → okAt gs i = false → ∀ u, H6 u = none → Q (.ref u) (upd H6 u (.lst [V.str "none", V.int (i : Nat)])) := fun s6 e => say (r := some i) (bad e) s6
        cases ta with
        | str _ =>
          refine ⟨_, rfl, _, rfl, _, _, rfl, rfl, _, rfl, a, _, rfl, SqL.of (s35 _ _ ha), fun M nM => ?_⟩
          rw [cut_dropI (by omega)]
          have sM : Same H5 (upd H5 M (.lst (vs.drop (i + 1)))) := same_upd nM
          refine ⟨M, rfl, ⟨_, SqL.of upd_same⟩, fun D nD => ?_⟩
          obtain ⟨eDM, nD0⟩ := free_upd nD
          have td : TgL p H5 (vs.drop (i + 1)) (gs.drop (i + 1)) := (t.drop _).keep (Keeps.same s35)
          refine lc_list (K := K) (a := M) (xs := vs.drop (i + 1)) (fun k H6 => Same H5 H6 ∧ H6 M = some (.lst (vs.drop (i + 1))) ∧ ∃ bv, H6 D = some (.lst bv) ∧ TgL p H5 bv (((gs.drop (i + 1)).take k).filterMap fstG)) ?_ ?_ ?_ ?_
          · exact ⟨sM.trans (same_upd nD), by rw [upd_ne eDM.symm, upd_same], [], upd_same, .nil⟩
          · rintro k H6 _ ⟨_, h, _⟩
            exact SqL.of h
          · rintro k y H6 hy ⟨s6, hM, bv, hD, tbv⟩
            obtain ⟨g2, e9, tg9⟩ := td.get hy
            have tg6 := tg9.keep (Keeps.same s6)
            have bl : bv.length ≤ 8 := by
              have h1 := tbv.len
              have h2 := List.length_filterMap_le fstG ((gs.drop (i + 1)).take k)
              rw [List.length_take, List.length_drop] at h2
              omega
            have no2 : ∀ {H7 : Hp}, Same H6 H7 → fstG g2 = none → (Same H5 H7 ∧ H7 M = some (.lst (vs.drop (i + 1))) ∧ ∃ bv, H7 D = some (.lst bv) ∧ TgL p H5 bv (((gs.drop (i + 1)).take (k + 1)).filterMap fstG)) := by
              intro H7 s7 en
              refine ⟨s6.trans s7, s7 _ _ hM, bv, s7 _ _ hD, ?_⟩
              rw [fm_take e9, en]
              show TgL p H5 bv (_ ++ [])
              rw [List.append_nil]
              exact tbv
            refine ⟨rfl, _, rfl, y, .ty "tuple", _, _, _, rfl, .ty "tuple", tg6.ty, kit_tuple g2, _, rfl, iteB (fun ea => ?_) (fun ea => ?_)⟩
            rotate_left
            · refine iteF (no2 (Same.refl H6) ?_)
              cases g2 <;> first | rfl | cases ea
            cases tg9 with
            | @tup c vb gb2 hc5 tb2 =>
              have hc := hc5.same s6
              refine ⟨_, rfl, c, _, rfl, .inr hc.sq, rfl, _, rfl, ?_⟩
              · cases tb2 with
                | nil => exact iteF (no2 (Same.refl H6) rfl)
                | @cons v1 vr1 x1 r1 h1 t1 => cases t1 with
                  | nil => exact iteF (no2 (Same.refl H6) rfl)
                  | @cons v2 vr2 x2 r2 h2 t2 => cases t2 with
                    | @cons v3 vr3 x3 r3 h3 t3 =>
                      refine iteB (fun y => ?_) (fun _ => no2 (Same.refl H6) rfl)
                      have y2 := of_decide_eq_true y
                      injection y2 with y2
                      rw [List.length_cons, List.length_cons, List.length_cons] at y2
                      omega
                    | nil =>
                      refine iteT ?_
                      refine ⟨_, rfl, _, _, _, _, rfl, rfl, hc.sq, atI_nat (j := 0) rfl, bv, hD, small1000 (by omega), fun c2 o ec => ?_, by rw [upd_ne eDM.symm]; exact hM, bv ++ [v1], upd_same, ?_⟩
                      · rw [upd_ne (ne_of_none ec nD0)]
                        exact s6 _ _ ec
                      · rw [fm_take e9]
                        exact tbv.snoc h1
            | _ => cases ea
          · rintro H6 ⟨s6, hM, bv, hD, tbv⟩
            rw [List.take_of_length_le (by rw [List.length_drop, List.length_drop]; omega)] at tbv
            have s06 : Same H H6 := s35.trans s6
            have hL6 : H6 L = some (.lst ((namesTo gs i).map V.str)) := s6 _ _ (s5 _ _ (s4 _ _ hL3))
            have hb6 : T2 H6 b [.str z, vb] := ((hb.same s4).same s5).same s6
            have tb6 := tb.keep (Keeps.same (p := p) ((s4.trans s5).trans s6))
            refine ⟨_, rfl, _, _, _, _, rfl, rfl, hb6.sq, atI_nat (j := 0) rfl, _, rfl, L, _, rfl, .inl (SqL.of hL6), rfl, flat_strs _, _, rfl, ?_⟩
            have e7 : inV (.str z) ((namesTo gs i).map V.str) = decide (z ∈ namesTo gs i) := inV_str _ _
            refine iteB (fun e9 => ?_) (fun e9 => ?_)
            · have e10 : decide (z ∈ namesTo gs i) = true := by rw [← e7]; exact e9
              exact iteT ⟨_, rfl, (by show 2 ≤ sizeLine; decide), fun u nu => bad2 s06 (by rw [eo, eo1, e10]; rfl) u nu⟩
            have e10 : decide (z ∈ namesTo gs i) = false := by rw [← e7]; exact e9
            rw [e10] at eo1
            have eo2 : okOne gs i (.tup [.str z, gb]) = callsG (namesFrom gs i) 6 gb := eo1
            refine ⟨_, rfl, _, _, _, _, rfl, rfl, hb6.sq, atI_nat (j := 1) rfl, p, vb, gb, rfl, tb6, okb, szb, t1, fun u7 ss H7 s7 nu7 hu7 hcalls hss hsl => ?_⟩
            have hD7 := s7 _ _ hD
            have tbv7 := tbv.keep (Keeps.same (s6.trans s7))
            generalize ebs : (gs.drop (i + 1)).filterMap fstG = bs at tbv7
            have okbs : ∀ x ∈ bs, OkT x := by
              intro x hx
              rw [← ebs] at hx
              obtain ⟨y, hy, ey⟩ := List.mem_filterMap.mp hx
              unfold fstG at ey
              split at ey
              · injection ey with ey
                rw [← ey]
                exact (dg _ (List.mem_of_mem_drop hy) _ _ rfl).1
              · cases ey
            have shb := OkE.list' okbs
            refine ⟨u7, rfl, ⟨_, SqL.of hu7⟩, fun D2 nD2 => ?_⟩
            have hb4 : sizeLine = 16777216 := rfl
            refine lc_list (K := K) (a := u7) (xs := ss.map V.str) (fun k H8 => Same H7 H8 ∧ H8 D2 = some (.lst (((ss.take k).filter fun s => !inStr bs s).map V.str))) ?_ ?_ ?_ ?_
            · exact ⟨same_upd nD2, upd_same⟩
            · rintro k H8 _ ⟨s8, _⟩
              exact SqL.of (s8 _ _ hu7)
            · rintro k y H8 hy ⟨s8, hD8⟩
              rw [List.getElem?_map] at hy
              obtain ⟨s0, es0, rfl⟩ := Option.map_eq_some_iff.mp hy
              have hs0 := hss s0 (List.mem_of_getElem? es0)
              have tv : ((toDs bs).any fun z => PyData.eqv z (.str s0)) = inStr bs s0 := rfl
              refine ⟨rfl, _, rfl, _, rfl, _, _, .str s0, .lst (SqL.of (s8 _ _ hD7)) ((tbv7.keep (Keeps.same s8)).dp shb.1), str_shaped hs0, shb.2, _, rfl, ?_⟩
              rw [tv]
              refine iteB (fun ef => ?_) (fun ef => ?_)
              · refine ⟨_, rfl, _, hD8, ?_, fun c o ec => ?_, ?_⟩
                · rw [List.length_map]
                  have h1 := List.length_filter_le (fun s => !inStr bs s) (ss.take k)
                  rw [List.length_take] at h1
                  omega
                · rw [upd_ne (ne_of_none ec nD2)]
                  exact s8 _ _ ec
                · rw [upd_same, take_one es0, List.filter_append, show ([s0].filter fun s => !inStr bs s) = [s0] from List.filter_cons_of_pos (p := fun s => !inStr bs s) ef, List.map_append]
                  rfl
              · refine ⟨s8, ?_⟩
                rw [take_one es0, List.filter_append, show ([s0].filter fun s => !inStr bs s) = [] from List.filter_cons_of_neg (p := fun s => !inStr bs s) (by rw [ef]; exact Bool.false_ne_true), List.append_nil]
                exact hD8
            · rintro H8 ⟨s8, hD8⟩
              rw [List.length_map, List.take_length] at hD8
              refine ⟨Nat.zero_le _, fun M2 nM2 => ?_⟩
              have sM2 := same_upd (o := .lst []) nM2
              have shf := strs_shaped' (ss := ss.filter fun s => !inStr bs s) fun s hs => hss s (List.mem_filter.mp hs).1
              refine ⟨_, _, .lst (SqL.of (sM2 _ _ hD8)) (dp_strs _), .lst (SqL.of upd_same) .nil, shf, shaped_nil, _, rfl, ?_⟩
              have s09 := (s06.trans (s7.trans s8)).trans sM2
              have hL9 := sM2 _ _ (s8 _ _ (s7 _ _ hL6))
              have hb9 := ((hb6.same s7).same s8).same sM2
              have ev : PyData.eqv (.list ((ss.filter fun s => !inStr bs s).map PyData.str)) (.list []) = callsG (namesFrom gs i) 6 gb := by
                rw [eqv_nilD]
                have h1 : (((ss.filter fun s => !inStr bs s).map PyData.str).isEmpty) = ss.all (inStr bs) := by
                  rw [← filt_empty]
                  cases ss.filter fun s => !inStr bs s <;> rfl
                rw [h1, Bool.eq_iff_iff, List.all_eq_true, hcalls]
                constructor
                · intro h s hs
                  refine (from_fst (hss s hs)).mpr ?_
                  rw [ebs]
                  exact (any_str bs s).mp (h s hs)
                · intro h s hs
                  have y := (from_fst (hss s hs)).mp (h s hs)
                  rw [ebs] at y
                  exact (any_str bs s).mpr y
              rw [ev]
              generalize upd H8 M2 (.lst []) = H9 at s09 hL9 hb9 ⊢
              refine iteB (fun ef => ?_) (fun ef => ?_)
              · exact ⟨_, rfl, (by show 2 ≤ sizeLine; decide), fun u nu => bad2 s09 (by rw [eo, eo2, bFalse ef]) u nu⟩
              · refine ⟨_, rfl, .inl ⟨rfl, _, SqL.of hL9⟩, _, rfl, _, _, _, _, rfl, rfl, hb9.sq, atI_nat (j := 0) rfl, L, _, _, rfl, rfl, hL9, ?_, ?_⟩
                · rw [List.length_map]
                  have h8 := List.length_filterMap_le nmG (gs.take i)
                  rw [List.length_take] at h8
                  exact small1000 (by unfold namesTo; omega)
                · refine ⟨_, _, _, rfl, fun c o ec => ?_, ?_, fun j hj => ?_⟩
                  · rw [upd_ne (ne_of_none ec nL)]
                    exact s09 _ _ ec
                  · rw [upd_same]
                    unfold namesTo
                    rw [fm_take e4, enm, List.map_append]
                    rfl
                  · rcases Nat.lt_succ_iff_lt_or_eq.mp hj with h | rfl
                    · exact good j h
                    · rw [eo, eo2]
                      exact bTrue ef
      · rintro σ H2 ⟨y2, y3, y4, rfl, s2, hL, good⟩
        rw [hlen] at good
        have zz : lookP (.lst gs) = none := by
          rw [lk, fb_none gs.length 0 fun j _ hj => good j (by omega)]
          rfl
        exact ⟨(by show 2 ≤ sizeLine; decide), fun u nu => q u _ (s2.trans (same_upd nu)) (s2.free nu) (by rw [zz]; exact upd_same)⟩
    | _ => cases e
end
end Su
/-! ### LL: what the law makes of what is told or raised -/
namespace Su
open PySem PySem.Spec PyProof.Rows L2
structure ErrP (K : PySem.W.Frag) (mg : Str → Option Value) (C CH CR CT CW : Addr) : Prop where
  he : mg "HandError" = some (.ref CH)
  ex : PySem.W.exmOne K (.ref C) (.ref CH) = some true
  np : mg "NoProgram" = some (.ref C)
  nr : mg "NoRun" = some (.ref CR)
  nt : mg "NoText" = some (.ref CT)
  nw : mg "NoWeb" = some (.ref CW)
  ve : mg "ValueError" = none
  x : ExcT K C
  nof : PySem.W.findIn K (.ref C) "number" = some none
  ip : PySem.W.kitOne K (.ref C) (.ref C) = some true
  iv : PySem.W.kitOne K (.ref C) (.type "ValueError") = some true
  io : PySem.W.kitAny K (.ref C) [.ref CR, .ref CT] = some false
  iw : PySem.W.kitOne K (.ref C) (.ref CW) = some false
def spToldP : Sp := fun vs H Q _ => ∃ (p : Addr) (v : V) (g : G), vs = [v] ∧ Tg p H v g ∧ okS g = true ∧ ∀ (u : Addr) (H' : Hp), Same H H' → H u = none → H' u = some (.lst [wordP (lookP g), numP (lookP g)]) → Q (.ref u) H'
theorem sc_law_told : FnScope ["_law_thing", "_law_error", "_law_found", "e"] ["_law_thing"] (defScope s_law_told) := ⟨rfl, rfl, rfl, by decide +kernel, rfl, by decide +kernel, by decide +kernel⟩
section
variable {P : Program} {w : World} {K : PySem.W.Frag} {mg : Str → Option Value} {base : Heap}
theorem ok_told {C CH CR CT CW : Addr} (E0' : ErrP K mg C CH CR CT CW) (T : At K mg "_law_told" s_law_told ["_law_thing"]) (B : Bt mg) (c_look_at_program : CalX P w K mg base 19 "look_at_program" ["thing"] (spLookP C)) : Cal P w K mg base 20 "_law_told" ["_law_thing"] spToldP := by
  refine cal_of T sc_law_told (fun vs H Q E h => ?_) (fun f cdv A outer s H vs Q E hr h => ?_)
  · obtain ⟨p, v, g, rfl, _⟩ := h
    rfl
  · obtain ⟨p, v, g, rfl, hv, hs, q⟩ := h
    have hHE := E0'.he
    refine ⟨_, (pss_cons (ps_set (i := 1) sc_law_told.nd rfl (Or.inl rfl) pe_non)
      (pss_cons (ps_set (i := 2) sc_law_told.nd rfl (Or.inl rfl) pe_non)
      (pss_cons (ps_try_keep (i := 3) (Wo := fun _ _ _ _ => False) rfl rfl rfl sc_law_told.nd rfl rfl ⟨rfl, by decide, Or.inl hHE⟩ takes0 (fun W pn xe tk _ => (pss_one (ps_set (i := 2) sc_law_told.nd rfl (Or.inl rfl) (pe_ownX tk c_look_at_program hr (by decide) (by rfl) (pa_cons (pv 0) pa_nil))))) (fun a oe pn => (pss_one (ps_set (i := 1) sc_law_told.nd rfl (Or.inl rfl) (pv 3)))))
      (pss_cons (ps_if (pt_cmpR op_isN (pv 1) pe_non (nomark _)) (pss_one (ps_ret (pe_lst (pa_cons (pe_ix ix_list (pe_lst (pa_cons pe_str (pa_cons pe_str pa_nil))) (pe_callTy call_int1 (by rfl) B.int (by decide +kernel) (pa_cons (pe_cmpR op_isN (pv 2) pe_non (nomark _)) pa_nil)) (fun _ _ => rfl)) (pa_cons (pv 2) pa_nil))))) pss_nil)
      (pss_cons (ps_if (PW.pt (pw_or (pt_not (pt_val (pe_callB call_isiE (by rfl) B.isinstance (by decide +kernel) (pa_cons (pv 1) (pa_cons (pe_glob (v := .ref C) (by rfl) E0'.np rfl) pa_nil))))) (pw_or (pt_not (pt_val (pe_callB call_isiE (by rfl) B.isinstance (by decide +kernel) (pa_cons (pv 1) (pa_cons (pe_bltn (v := .ty "ValueError") (u := .type "ValueError") (by rfl) E0'.ve (by decide +kernel) rfl) pa_nil))))) (pw_or1 (pt_val (pe_callB call_isiET (by rfl) B.isinstance (by decide +kernel) (pa_cons (pv 1) (pa_cons (pe_tupF (pa_cons (pe_glob (v := .ref CR) (by rfl) E0'.nr rfl) (pa_cons (pe_glob (v := .ref CT) (by rfl) E0'.nt rfl) pa_nil))) pa_nil)))))))) (pss_one (ps_ret (pe_lst (pa_cons pe_str (pa_cons pe_non pa_nil))))) pss_nil)
      (pss_one (ps_ret (pe_lst (pa_cons (pe_ix ix_list (pe_lst (pa_cons pe_str (pa_cons pe_str pa_nil))) (pe_callTy call_int1 (by rfl) B.int (by decide +kernel) (pa_cons (pe_callB call_isiE (by rfl) B.isinstance (by decide +kernel) (pa_cons (pv 1) (pa_cons (pe_glob (v := .ref CW) (by rfl) E0'.nw rfl) pa_nil))) pa_nil)) (fun _ _ => rfl)) (pa_cons (pe_xfld (pv 1)) pa_nil)))))))))), ?_⟩
    have no : ∀ r, lookP g = some r → ∀ (H1 : Hp) (d : Addr), Same H H1 → H d = none → H1 d = some (.xd [("number", numV r)]) → ∀ a, H1 a = none → ∀ (u : Addr) (H2 : Hp), Same (upd H1 a (exK a (.ref C) (some d))) H2 → H1 u = none → u ≠ a → H2 u = some (.lst [.str "none", numV r]) → Q (.ref u) H2 := by
      intro r e H1 d s1 nd hd a na u H2 s2 nu ua hu
      refine q u H2 (fun b o eb => s2 _ _ ?_) (s1.free nu) (by rw [e]; exact hu)
      rw [upd_ne (ne_of_none (s1 _ _ eb) na)]
      exact s1 _ _ eb
    refine ⟨_, rfl, p, v, g, rfl, hv, hs, fun e H1 s1 => ?_, fun r e H1 d s1 nd hd => ?_⟩
    · refine ⟨_, rfl, rfl, _, rfl, iteT ?_⟩
      refine ⟨(by show 2 ≤ sizeLine; decide), fun L nL => ?_⟩
      refine ⟨_, rfl, rfl, .inr ⟨_, rfl, ?_⟩⟩
      refine ⟨_, _, _, _, rfl, rfl, SqL.of upd_same, atI_nat (j := 1) rfl, ?_⟩
      refine ⟨_, rfl, (by show 2 ≤ sizeLine; decide), fun u nu => ?_⟩
      exact q u _ (s1.trans ((same_upd nL).trans (same_upd nu))) (s1.free ((same_upd nL).free nu)) (by rw [e]; exact upd_same)
    · refine ⟨true, E0'.ex, fun _ a na => ?_, fun z => by cases z⟩
      have da : d ≠ a := ne_of_none hd na
      have ha : (upd H1 a (exK a (.ref C) (some d))) a = some (exK a (.ref C) (some d)) := upd_same
      have hd2 : (upd H1 a (exK a (.ref C) (some d))) d = some (.xd [("number", numV r)]) := by
        rw [upd_ne da]
        exact hd
      have xd : ∀ {H3 : Hp}, Same (upd H1 a (exK a (.ref C) (some d))) H3 → XdAt H3 (some d) := fun s3 dd ed => by
        cases ed
        exact ⟨_, s3 _ _ hd2⟩
      refine ⟨_, rfl, ?_⟩
      refine ⟨_, rfl, rfl, _, rfl, iteB (fun z => absurd (of_decide_eq_true z) (by intro h; cases h)) (fun _ => ?_)⟩
      refine ⟨_, rfl, a, C, some d, .ref C, .ref C, true, rfl, .own C, E0'.x, ha, xd (Same.refl _), E0'.ip, _, rfl, iteF ?_⟩
      refine ⟨_, rfl, a, C, some d, .ty "ValueError", .type "ValueError", true, rfl, .ty "ValueError", E0'.x, ha, xd (Same.refl _), E0'.iv, _, rfl, iteF ?_⟩
      refine ⟨_, rfl, (by show 2 ≤ sizeLine; decide), fun tp H3 s3 ntp htp => ?_⟩
      refine ⟨a, C, tp, some d, [.ref CR, .ref CT], [.ref CR, .ref CT], false, rfl, .inl htp, .cons (.own CR) (.cons (.own CT) .nil), E0'.x, s3 _ _ ha, xd s3, E0'.io, _, rfl, iteF ?_⟩
      refine ⟨(by show 2 ≤ sizeLine; decide), fun L nL => ?_⟩
      have sL := same_upd (o := .lst [V.str "none", V.str "odd"]) nL
      have s4 := s3.trans sL
      refine ⟨_, rfl, a, C, some d, .ref CW, .ref CW, false, rfl, .own CW, E0'.x, s4 _ _ ha, xd s4, E0'.iw, .inr ⟨_, rfl, ?_⟩⟩
      refine ⟨_, _, _, _, rfl, rfl, SqL.of upd_same, atI_nat (j := 0) rfl, ?_⟩
      refine ⟨_, rfl, a, C, d, _, numV r, rfl, E0'.x, E0'.nof, s4 _ _ ha, s4 _ _ hd2, (by simp [List.lookup]), ?_⟩
      refine ⟨(by show 2 ≤ sizeLine; decide), fun u nu => ?_⟩
      have nua := s4.free nu
      have ua : u ≠ a := fun z => by rw [z, ha] at nua; cases nua
      rw [upd_ne ua] at nua
      exact no r e H1 d s1 nd hd a na u _ (s4.trans (same_upd nu)) nua ua upd_same
end
end Su
/-! ### SK: a tuple so many times -/
namespace Su
open PySem PySem.Spec PyProof.Rows L2
section
variable {X : Cx}
def rRepA : R2 := fun x y H Q => ∃ (a : Addr) (k : Int) (xs : List V), x = .ref a ∧ y = .int k ∧ T2 H a xs ∧ xs ≠ [] ∧ 0 ≤ k ∧ k ≤ 1000 ∧ xs.length ≤ 1000 ∧ ∀ v H', Same H H' → T2 H' v (List.replicate k.toNat xs).flatten → Q (.ref v) H'
theorem op_repA : OpR X (binaryOp .Mult) rRepA := by
  intro pins s σ H x y v u Q I rx ry h
  obtain ⟨a, k, xs, rfl, rfl, ha, ne, k0, k1, hl, q⟩ := h
  by_cases h2 : 2 ≤ k
  · exact op_repT pins s σ H _ _ v u Q I rx ry ⟨a, k, xs, rfl, rfl, ha.sq, ne, h2, k1, hl, fun p np => q p _ (same_upd np) (.inr upd_same)⟩
  · refine op_mul01 pins s σ H _ _ v u Q I rx ry ⟨a, k, xs, rfl, rfl, ha, ne, by omega, fun v H' s' ht => q v H' s' ?_⟩
    have e : k = 0 ∨ k = 1 := by omega
    rcases e with rfl | rfl
    · exact ht
    · rw [show (List.replicate (1 : Int).toNat xs).flatten = xs from by simp]
      exact ht
end
end Su
/-! ### LM: terms that are none, or odd -/
namespace Su
open PySem PySem.Spec PyProof.Rows L2
theorem TgL.rep {p : Addr} {H : Hp} {vs : List V} {gs : List G} (h : TgL p H vs gs) : ∀ n : Nat, TgL p H (List.replicate n vs).flatten (List.replicate n gs).flatten
  | 0 => .nil
  | n + 1 => by
    rw [List.replicate_succ, List.replicate_succ, List.flatten_cons, List.flatten_cons]
    exact h.app (TgL.rep h n)
theorem NcL.app {n m k : Nat} : ∀ {a b : List G}, NcL a n m → NcL b n k → NcL (a ++ b) n (m + k)
  | [], _, _, h => h.up (Nat.le_refl _) (by omega)
  | x :: a, b, h1, h2 => by
    have sh := h1.fz.sh
    have dp := h1.fz.dp
    have lv := h1.fz.lv
    have wt := h1.fz.wt
    have ok := h1.ok
    have cl := h1.cl
    have st := h1.st
    simp only [toDs, PyData.showableAll, PyData.depthAll, PyData.leavesShortAll, PyData.weightAll, okDs, PyData.canLayAll0, okSs, Bool.and_eq_true] at sh dp lv wt ok cl st
    have t : NcL (a ++ b) n (PyData.weightAll (toDs a) + k) := NcL.app ⟨⟨sh.2, by omega, lv.2, Nat.le_refl _⟩, ok.2, cl.2, st.2⟩ h2
    have z := NcL.cons (g := x) (n := n) (m := (toD x).weight) ⟨⟨sh.1, by omega, lv.1, Nat.le_refl _⟩, ok.1, cl.1, st.1⟩ t
    exact z.up (Nat.le_refl _) (by omega)
theorem NcL.rep {gs : List G} {n m : Nat} (h : NcL gs n m) : ∀ k : Nat, NcL (List.replicate k gs).flatten n (m * k)
  | 0 => NcL.nil
  | k + 1 => by
    rw [List.replicate_succ, List.flatten_cons]
    exact (h.app (NcL.rep h k)).up (Nat.le_refl _) (by rw [Nat.mul_succ, Nat.add_comm]; exact Nat.le_refl _)
mutual
/-- things of tuples alone -/
inductive Tt (H : Hp) : V → G → Prop
  | non : Tt H .non .non
  | bl (b : Bool) : Tt H (.bl b) (.bl b)
  | int (i : Int) : Tt H (.int i) (.int i)
  | str (s : Str) : Tt H (.str s) (.str s)
  | tup {a : Addr} {vs : List V} {ds : List G} (e : T2 H a vs) (t : TtL H vs ds) : Tt H (.ref a) (.tup ds)
inductive TtL (H : Hp) : List V → List G → Prop
  | nil : TtL H [] []
  | cons {v : V} {vs : List V} {d : G} {ds : List G} (h : Tt H v d) (t : TtL H vs ds) : TtL H (v :: vs) (d :: ds)
end
mutual
theorem Tt.keep {H H' : Hp} (k : K2 H H') : ∀ {v : V} {g : G}, Tt H v g → Tt H' v g
  | _, _, .non => .non
  | _, _, .bl b => .bl b
  | _, _, .int i => .int i
  | _, _, .str s => .str s
  | _, _, .tup e t => .tup (k _ _ e) (TtL.keep k t)
theorem TtL.keep {H H' : Hp} (k : K2 H H') : ∀ {vs : List V} {gs : List G}, TtL H vs gs → TtL H' vs gs
  | _, _, .nil => .nil
  | _, _, .cons h t => .cons (Tt.keep k h) (TtL.keep k t)
end
mutual
theorem Tt.tg {p : Addr} {H : Hp} : ∀ {v : V} {g : G}, Tt H v g → Tg p H v g
  | _, _, .non => .non
  | _, _, .bl b => .bl b
  | _, _, .int i => .int i
  | _, _, .str s => .str s
  | _, _, .tup e t => .tup e (TtL.tg t)
theorem TtL.tg {p : Addr} {H : Hp} : ∀ {vs : List V} {gs : List G}, TtL H vs gs → TgL p H vs gs
  | _, _, .nil => .nil
  | _, _, .cons h t => .cons (Tt.tg h) (TtL.tg t)
end
theorem TtL.snoc {H : Hp} {v : V} {g : G} (h : Tt H v g) : ∀ {vs : List V} {gs : List G}, TtL H vs gs → TtL H (vs ++ [v]) (gs ++ [g])
  | _, _, .nil => .cons h .nil
  | _, _, .cons h1 t => .cons h1 (TtL.snoc h t)
theorem TtL.len {H : Hp} : ∀ {vs : List V} {gs : List G}, TtL H vs gs → vs.length = gs.length
  | _, _, .nil => rfl
  | _, _, .cons _ t => by
    rw [List.length_cons, List.length_cons, TtL.len t]
def spNested : Sp := fun vs H Q _ => ∃ (wd many : Int), vs = [.int wd, .int many] ∧ 0 ≤ wd ∧ wd < 3 ∧ 1 ≤ many ∧ many ≤ 7 ∧ ∀ (v : V) (g : G) (H' : Hp), Same H H' → Tt H' v g → Nc g 16 500 → Q v H'
def spOddTerm : Sp := fun vs H Q _ => ∃ (p : Addr) (own : Str), vs = [.ref p, .str own] ∧ PoolAt H p ∧ NameOk own ∧ ∀ (v : V) (g : G) (H' : Hp), Kept p H H' → PoolAt H' p → Tg p H' v g → Nc g 16 500 → Q v H'
theorem sc_law_nested : FnScope ["_law_word", "_law_many", "_law_found", "_law_turn"] ["_law_word", "_law_many"] (defScope s_law_nested) := ⟨rfl, rfl, rfl, by decide +kernel, rfl, by decide +kernel, by decide +kernel⟩
theorem sc_law_odd_term : FnScope ["_law_pool_here", "_law_own", "_law_some", "_law_k"] ["_law_pool_here", "_law_own"] (defScope s_law_odd_term) := ⟨rfl, rfl, rfl, by decide +kernel, rfl, by decide +kernel, by decide +kernel⟩
section
variable {P : Program} {w : World} {K : PySem.W.Frag} {mg : Str → Option Value} {base : Heap}
theorem ok_nested (T : At K mg "_law_nested" s_law_nested ["_law_word", "_law_many"]) (B : Bt mg) : Cal P w K mg base 1 "_law_nested" ["_law_word", "_law_many"] spNested := by
  refine cal_of T sc_law_nested (fun vs H Q E h => ?_) (fun f cdv A outer s H vs Q E hr h => ?_)
  · obtain ⟨wd, many, rfl, _⟩ := h
    rfl
  · obtain ⟨wd, many, rfl, w0, w3, m1, m7, q⟩ := h
    refine ⟨_, (pss_cons (ps_set (i := 2) sc_law_nested.nd rfl (Or.inl rfl) (pe_tupF (pa_cons pe_str pa_nil)))
      (pss_cons (ps_for PassesOwn.never rfl (pi_range1 (by rfl) B.range (pa_cons (pe_op op_sub (pv 1) pe_int) pa_nil)) (pg_name (i := 3) sc_law_nested.nd rfl (Or.inl rfl)) (pss_one (ps_set (i := 2) sc_law_nested.nd rfl (Or.inl rfl) (pe_ix ix_list (pe_lst (pa_cons (pe_tupF (pa_cons pe_str (pa_cons (pe_tupF (pa_cons (pv 2) pa_nil)) pa_nil))) (pa_cons (pe_tupF (pa_cons pe_str (pa_cons (pe_tupF (pa_cons (pv 2) (pa_cons (pe_tupF (pa_cons pe_str pa_nil)) pa_nil))) pa_nil))) (pa_cons (pe_tupF (pa_cons pe_str (pa_cons pe_int (pa_cons pe_non (pa_cons (pv 2) pa_nil))))) pa_nil)))) (pv 0) (fun _ _ => rfl)))))
      (pss_one (ps_ret (pv 2))))), ?_⟩
    refine ⟨(by show 1 ≤ sizeLine; decide), fun t0 H0 s0 n0 p0 => ?_⟩
    refine ⟨_, rfl, _, _, rfl, rfl, (many - 1), rfl, by omega, by omega, ?_⟩
    refine for_range (lo := 0) (n := (many - 1).toNat) (fun i σ H2 => ∃ (v : V) (g : G) (y3 : Option V), σ = [some (.int wd), some (.int many), some v, y3] ∧ Tt H2 v g ∧ Nc g (2 * i + 1) (60 * i + 10) ∧ Same H H2) ?_ ?_ ?_
    · exact ⟨_, .tup [.str "rest"], none, rfl, .tup (.inl p0) (.cons (.str _) .nil), (Nc.tup (NcL.cons (n := 0) (Nc.str (s := "rest") (m := 4)) NcL.nil)).up (by decide) (by decide), s0⟩
    · rintro i σ H2 hi ⟨v, g, y3, rfl, tv, nv, s2⟩
      refine ⟨_, rfl, (by show 1 ≤ sizeLine; decide), fun a Ha sa na pa => ?_⟩
      refine ⟨(by show 2 ≤ sizeLine; decide), fun b Hb sb nb pb => ?_⟩
      refine ⟨_, rfl, (by show 1 ≤ sizeLine; decide), fun c Hc sc nc pc => ?_⟩
      refine ⟨(by show 2 ≤ sizeLine; decide), fun d Hd sd nd pd => ?_⟩
      refine ⟨(by show 2 ≤ sizeLine; decide), fun e He se ne pe => ?_⟩
      refine ⟨_, rfl, (by show 4 ≤ sizeLine; decide), fun x Hx sx nx px => ?_⟩
      refine ⟨(by show 3 ≤ sizeLine; decide), fun L nL => ?_⟩
      have sL := same_upd (o := .lst [V.ref b, V.ref e, V.ref x]) nL
      have hL := upd_same (H := Hx) (a := L) (o := .lst [V.ref b, V.ref e, V.ref x])
      generalize upd Hx L (.lst [V.ref b, V.ref e, V.ref x]) = HL at sL hL ⊢
      have z1 : Same Hx HL := sL
      have z2 : Same He HL := sx.trans z1
      have z3 : Same Hd HL := se.trans z2
      have z4 : Same Hc HL := sd.trans z3
      have z5 : Same Hb HL := sc.trans z4
      have z6 : Same Ha HL := sb.trans z5
      have z7 : Same H2 HL := sa.trans z6
      have tvL := tv.keep (K2.same z7)
      have things : ∀ y ∈ [V.ref b, V.ref e, V.ref x], ∃ g', Tt HL y g' ∧ Nc g' (2 * (i + 1) + 1) (60 * (i + 1) + 10) := by
        intro y hy
        simp only [List.mem_cons, List.not_mem_nil, or_false] at hy
        rcases hy with rfl | rfl | rfl
        · exact ⟨_, .tup (T2.same (.inl pb) z5) (.cons (.str _) (.cons (.tup (T2.same (.inl pa) z6) (.cons tvL .nil)) .nil)), (Nc.tup (NcL.cons (n := 2 * i + 1 + 1) ((Nc.str (s := "then") (m := 4)).up (Nat.zero_le _) (Nat.le_refl _)) (NcL.cons (Nc.tup (NcL.cons nv NcL.nil)) NcL.nil))).up (by omega) (by omega)⟩
        · exact ⟨_, .tup (T2.same (.inl pe) z2) (.cons (.str _) (.cons (.tup (T2.same (.inl pd) z3) (.cons tvL (.cons (.tup (T2.same (.inl pc) z4) (.cons (.str _) .nil)) .nil))) .nil)), (Nc.tup (NcL.cons (n := 2 * i + 1 + 1) ((Nc.str (s := "fork") (m := 4)).up (Nat.zero_le _) (Nat.le_refl _)) (NcL.cons (Nc.tup (NcL.cons nv (NcL.cons ((Nc.tup (NcL.cons (n := 0) (Nc.str (s := "rest") (m := 4)) NcL.nil)).up (by omega) (Nat.le_refl _)) NcL.nil))) NcL.nil))).up (by omega) (by omega)⟩
        · exact ⟨_, .tup (T2.same (.inl px) z1) (.cons (.str _) (.cons (.int _) (.cons .non (.cons tvL .nil)))), (Nc.tup (NcL.cons (n := 2 * i + 1) ((Nc.str (s := "round") (m := 5)).up (Nat.zero_le _) (Nat.le_refl _)) (NcL.cons ((Nc.int (i := 0)).up (Nat.zero_le _) (Nat.le_refl _)) (NcL.cons (Nc.none.up (Nat.zero_le _) (Nat.le_refl _)) (NcL.cons nv NcL.nil))))).up (by omega) (by omega)⟩
      obtain ⟨y, hy, ey⟩ := cons_nil_fin (xs := [V.ref b, V.ref e, V.ref x]) 3 rfl w0 w3
      obtain ⟨g', tg', ng'⟩ := things y hy
      exact ⟨_, rfl, L, _, _, y, rfl, rfl, SqL.of hL, ey, y, g', _, rfl, tg', ng', s2.trans z7⟩
    · rintro σ H2 ⟨v, g, y3, rfl, tv, nv, s2⟩
      exact ⟨_, rfl, q v g H2 s2 tv (nv.up (by omega) (by omega))⟩
theorem ok_oddterm (T : At K mg "_law_odd_term" s_law_odd_term ["_law_pool_here", "_law_own"]) (B : Bt mg) (c_take : Cal P w K mg base 1 "_law_take" ["_law_pool_here", "_law_many"] spTake) (c_nested : Cal P w K mg base 1 "_law_nested" ["_law_word", "_law_many"] spNested) : Cal P w K mg base 2 "_law_odd_term" ["_law_pool_here", "_law_own"] spOddTerm := by
  refine cal_of T sc_law_odd_term (fun vs H Q E h => ?_) (fun f cdv A outer s H vs Q E hr h => ?_)
  · obtain ⟨p, own, rfl, _⟩ := h
    rfl
  · obtain ⟨p, own, rfl, hp, ho, q⟩ := h
    refine ⟨_, (pss_cons (ps_set (i := 2) sc_law_odd_term.nd rfl (Or.inl rfl) (pe_lst (pa_cons pe_non (pa_cons pe_str (pa_cons (pe_lst (pa_cons pe_str pa_nil)) (pa_cons (pe_tupF pa_nil) (pa_cons (pe_tupF (pa_cons pe_str (pa_cons pe_int pa_nil))) (pa_cons (pe_tupF (pa_cons pe_str pa_nil)) (pa_cons (pe_tupF (pa_cons pe_str (pa_cons (pe_tupF pa_nil) pa_nil))) (pa_cons (pe_tupF (pa_cons pe_str (pa_cons (pe_tupF (pa_cons pe_int (pa_cons pe_int pa_nil))) pa_nil))) (pa_cons (pe_tupF (pa_cons pe_str (pa_cons (pe_tupF (pa_cons pe_int (pa_cons pe_int pa_nil))) pa_nil))) pa_nil)))))))))))
      (pss_cons (ps_set (i := 2) sc_law_odd_term.nd rfl (Or.inl rfl) (pe_op op_cat (pv 2) (pe_lst (pa_cons (pe_tupF (pa_cons pe_str (pa_cons (pe_lst (pa_cons pe_int pa_nil)) pa_nil))) (pa_cons (pe_tupF (pa_cons pe_str (pa_cons (pe_tupF (pa_cons pe_bl pa_nil)) pa_nil))) (pa_cons (pe_tupF (pa_cons pe_str (pa_cons (pe_tupF (pa_cons pe_int pa_nil)) pa_nil))) (pa_cons (pe_tupF (pa_cons pe_str (pa_cons (pe_tupF (pa_cons pe_int (pa_cons pe_int (pa_cons pe_int (pa_cons pe_int (pa_cons pe_int (pa_cons pe_int (pa_cons pe_int pa_nil)))))))) pa_nil))) (pa_cons (pe_tupF (pa_cons pe_str pa_nil)) (pa_cons (pe_tupF (pa_cons pe_str pa_nil)) pa_nil)))))))))
      (pss_cons (ps_set (i := 2) sc_law_odd_term.nd rfl (Or.inl rfl) (pe_op op_cat (pv 2) (pe_lst (pa_cons (pe_tupF (pa_cons pe_str (pa_cons (pe_tupF pa_nil) pa_nil))) (pa_cons (pe_tupF (pa_cons pe_str (pa_cons (pe_lst (pa_cons (pe_tupF (pa_cons pe_str pa_nil)) pa_nil)) pa_nil))) (pa_cons (pe_tupF (pa_cons pe_str (pa_cons (pe_op op_repA (pe_tupF (pa_cons (pe_tupF (pa_cons pe_str pa_nil)) pa_nil)) pe_int) pa_nil))) (pa_cons (pe_tupF (pa_cons pe_str (pa_cons (pe_tupF (pa_cons (pe_tupF (pa_cons pe_str pa_nil)) pa_nil)) pa_nil))) (pa_cons (pe_tupF (pa_cons pe_int (pa_cons pe_int pa_nil))) pa_nil))))))))
      (pss_cons (ps_set (i := 2) sc_law_odd_term.nd rfl (Or.inl rfl) (pe_op op_cat (pv 2) (pe_lst (pa_cons (pe_tupF (pa_cons pe_str (pa_cons (pe_op op_repA (pe_tupF (pa_cons (pe_tupF (pa_cons pe_str pa_nil)) pa_nil)) pe_int) pa_nil))) (pa_cons (pe_tupF (pa_cons pe_str (pa_cons pe_int (pa_cons pe_int (pa_cons (pe_tupF (pa_cons pe_str pa_nil)) pa_nil))))) (pa_cons (pe_tupF (pa_cons pe_str (pa_cons pe_int (pa_cons pe_int (pa_cons (pe_tupF (pa_cons pe_str pa_nil)) pa_nil))))) pa_nil))))))
      (pss_cons (ps_set (i := 2) sc_law_odd_term.nd rfl (Or.inl rfl) (pe_op op_cat (pv 2) (pe_lst (pa_cons (pe_tupF (pa_cons pe_str (pa_cons (pe_un un_neg pe_int) (pa_cons pe_int (pa_cons (pe_tupF (pa_cons pe_str pa_nil)) pa_nil))))) (pa_cons (pe_tupF (pa_cons pe_str (pa_cons pe_int (pa_cons pe_non (pa_cons (pe_tupF (pa_cons pe_str pa_nil)) pa_nil))))) (pa_cons (pe_tupF (pa_cons pe_str (pa_cons pe_bl (pa_cons pe_int (pa_cons (pe_tupF (pa_cons pe_str pa_nil)) pa_nil))))) pa_nil))))))
      (pss_cons (ps_set (i := 2) sc_law_odd_term.nd rfl (Or.inl rfl) (pe_op op_cat (pv 2) (pe_lst (pa_cons (pe_tupF (pa_cons pe_str (pa_cons pe_int (pa_cons pe_int pa_nil)))) (pa_cons (pe_tupF (pa_cons pe_str (pa_cons pe_int (pa_cons pe_str (pa_cons (pe_tupF (pa_cons pe_str pa_nil)) pa_nil))))) (pa_cons (pe_tupF (pa_cons pe_str (pa_cons (pv 1) pa_nil))) (pa_cons (pe_tupF (pa_cons pe_str (pa_cons pe_str pa_nil))) (pa_cons (pe_tupF (pa_cons pe_str (pa_cons pe_str pa_nil))) pa_nil))))))))
      (pss_cons (ps_set (i := 2) sc_law_odd_term.nd rfl (Or.inl rfl) (pe_op op_cat (pv 2) (pe_lst (pa_cons (pe_tupF (pa_cons pe_str (pa_cons (pe_op op_repA (pe_tupF (pa_cons (pe_tupF (pa_cons pe_str pa_nil)) pa_nil)) pe_int) pa_nil))) (pa_cons (pe_tupF (pa_cons pe_str (pa_cons (pe_op op_repA (pe_tupF (pa_cons (pe_tupF (pa_cons pe_str pa_nil)) pa_nil)) pe_int) pa_nil))) (pa_cons (pe_tupF (pa_cons pe_str (pa_cons pe_int (pa_cons pe_int (pa_cons (pe_tupF (pa_cons pe_str pa_nil)) pa_nil))))) pa_nil))))))
      (pss_cons (ps_set (i := 2) sc_law_odd_term.nd rfl (Or.inl rfl) (pe_op op_cat (pv 2) (pe_lc (own := [("_law_k", 3)]) (g := (gName 3)) (tt := tYes) (te := (tCall _ [] E0 (tCons (tVar 3) (tCons (tOp (rI0 fun i j => .int (i + j)) (tC (.int 6)) (tCall spTake [] E0 (tCons (tVar 0) (tCons (tC (.int 2)) tNil)))) tNil)))) (by rfl) sc_law_odd_term.nd (pi_range1 (by rfl) B.range (pa_cons pe_int pa_nil)) (blkOk_by (own := [("_law_k", 3)]) (N := ["_law_pool_here", "_law_own", "_law_some", "_law_k"]) (sc := defScope s_law_odd_term) (by decide +kernel)) (fun _ _ _ _ _ => (pg_name (i := 3) sc_law_odd_term.nd rfl (Or.inl rfl))) (fun _ _ _ _ _ => pts_nil) (fun _ _ _ _ _ => (pe_own c_nested hr (by decide) (by rfl) (pa_cons (pv 3) (pa_cons (pe_op op_add pe_int (pe_own c_take hr (by decide) (by rfl) (pa_cons (pv 0) (pa_cons pe_int pa_nil)))) pa_nil)))))))
      (pss_one (ps_ret (pe_ix ix_list (pv 2) (pe_own c_take hr (by decide) (by rfl) (pa_cons (pv 0) (pa_cons (pe_callB call_len_seq (by rfl) B.len PySem.boot_len (pa_cons (pv 2) pa_nil)) pa_nil))) (fun _ _ => rfl)))))))))))), ?_⟩
    have k0 : Kept p H H := Kept.refl p H
    refine ⟨(by show 1 ≤ sizeLine; decide), fun x1 nx1 => ?_⟩
    have sx1 := same_upd (o := .lst [V.str "rest"]) nx1
    have ex1 : x1 ≠ p := pool_ne hp nx1
    have ax1 := upd_same (H := H) (a := x1) (o := .lst [V.str "rest"])
    generalize upd H x1 (.lst [V.str "rest"]) = Hx1 at sx1 ax1 ⊢
    replace hp := hp.same sx1
    replace k0 := k0.trans (Kept.same sx1)
    refine ⟨(by show 0 ≤ sizeLine; decide), fun x2 Hx2 sx2 nx2 px2 => ?_⟩
    have ax2 : T2 Hx2 x2 [] := .inl px2
    replace hp := hp.same sx2
    replace k0 := k0.trans (Kept.same sx2)
    replace ax1 := sx2 _ _ ax1
    refine ⟨(by show 2 ≤ sizeLine; decide), fun x3 Hx3 sx3 nx3 px3 => ?_⟩
    have ax3 : T2 Hx3 x3 [V.str "rest", V.int 1] := .inl px3
    replace hp := hp.same sx3
    replace k0 := k0.trans (Kept.same sx3)
    replace ax1 := sx3 _ _ ax1
    replace ax2 := ax2.same sx3
    refine ⟨(by show 1 ≤ sizeLine; decide), fun x4 Hx4 sx4 nx4 px4 => ?_⟩
    have ax4 : T2 Hx4 x4 [V.str "Rest"] := .inl px4
    replace hp := hp.same sx4
    replace k0 := k0.trans (Kept.same sx4)
    replace ax1 := sx4 _ _ ax1
    replace ax2 := ax2.same sx4
    replace ax3 := ax3.same sx4
    refine ⟨(by show 0 ≤ sizeLine; decide), fun x5 Hx5 sx5 nx5 px5 => ?_⟩
    have ax5 : T2 Hx5 x5 [] := .inl px5
    replace hp := hp.same sx5
    replace k0 := k0.trans (Kept.same sx5)
    replace ax1 := sx5 _ _ ax1
    replace ax2 := ax2.same sx5
    replace ax3 := ax3.same sx5
    replace ax4 := ax4.same sx5
    refine ⟨(by show 2 ≤ sizeLine; decide), fun x6 Hx6 sx6 nx6 px6 => ?_⟩
    have ax6 : T2 Hx6 x6 [V.str "ask", V.ref x5] := .inl px6
    replace hp := hp.same sx6
    replace k0 := k0.trans (Kept.same sx6)
    replace ax1 := sx6 _ _ ax1
    replace ax2 := ax2.same sx6
    replace ax3 := ax3.same sx6
    replace ax4 := ax4.same sx6
    replace ax5 := ax5.same sx6
    refine ⟨(by show 2 ≤ sizeLine; decide), fun x7 Hx7 sx7 nx7 px7 => ?_⟩
    have ax7 : T2 Hx7 x7 [V.int 3, V.int 3] := .inl px7
    replace hp := hp.same sx7
    replace k0 := k0.trans (Kept.same sx7)
    replace ax1 := sx7 _ _ ax1
    replace ax2 := ax2.same sx7
    replace ax3 := ax3.same sx7
    replace ax4 := ax4.same sx7
    replace ax5 := ax5.same sx7
    replace ax6 := ax6.same sx7
    refine ⟨(by show 2 ≤ sizeLine; decide), fun x8 Hx8 sx8 nx8 px8 => ?_⟩
    have ax8 : T2 Hx8 x8 [V.str "ask", V.ref x7] := .inl px8
    replace hp := hp.same sx8
    replace k0 := k0.trans (Kept.same sx8)
    replace ax1 := sx8 _ _ ax1
    replace ax2 := ax2.same sx8
    replace ax3 := ax3.same sx8
    replace ax4 := ax4.same sx8
    replace ax5 := ax5.same sx8
    replace ax6 := ax6.same sx8
    replace ax7 := ax7.same sx8
    refine ⟨(by show 2 ≤ sizeLine; decide), fun x9 Hx9 sx9 nx9 px9 => ?_⟩
    have ax9 : T2 Hx9 x9 [V.int 4, V.int 3] := .inl px9
    replace hp := hp.same sx9
    replace k0 := k0.trans (Kept.same sx9)
    replace ax1 := sx9 _ _ ax1
    replace ax2 := ax2.same sx9
    replace ax3 := ax3.same sx9
    replace ax4 := ax4.same sx9
    replace ax5 := ax5.same sx9
    replace ax6 := ax6.same sx9
    replace ax7 := ax7.same sx9
    replace ax8 := ax8.same sx9
    refine ⟨(by show 2 ≤ sizeLine; decide), fun x10 Hx10 sx10 nx10 px10 => ?_⟩
    have ax10 : T2 Hx10 x10 [V.str "ask", V.ref x9] := .inl px10
    replace hp := hp.same sx10
    replace k0 := k0.trans (Kept.same sx10)
    replace ax1 := sx10 _ _ ax1
    replace ax2 := ax2.same sx10
    replace ax3 := ax3.same sx10
    replace ax4 := ax4.same sx10
    replace ax5 := ax5.same sx10
    replace ax6 := ax6.same sx10
    replace ax7 := ax7.same sx10
    replace ax8 := ax8.same sx10
    replace ax9 := ax9.same sx10
    refine ⟨(by show 9 ≤ sizeLine; decide), fun x11 nx11 => ?_⟩
    have sx11 := same_upd (o := .lst [V.non, V.str "rest", V.ref x1, V.ref x2, V.ref x3, V.ref x4, V.ref x6, V.ref x8, V.ref x10]) nx11
    have ex11 : x11 ≠ p := pool_ne hp nx11
    have ax11 := upd_same (H := Hx10) (a := x11) (o := .lst [V.non, V.str "rest", V.ref x1, V.ref x2, V.ref x3, V.ref x4, V.ref x6, V.ref x8, V.ref x10])
    generalize upd Hx10 x11 (.lst [V.non, V.str "rest", V.ref x1, V.ref x2, V.ref x3, V.ref x4, V.ref x6, V.ref x8, V.ref x10]) = Hx11 at sx11 ax11 ⊢
    replace hp := hp.same sx11
    replace k0 := k0.trans (Kept.same sx11)
    replace ax1 := sx11 _ _ ax1
    replace ax2 := ax2.same sx11
    replace ax3 := ax3.same sx11
    replace ax4 := ax4.same sx11
    replace ax5 := ax5.same sx11
    replace ax6 := ax6.same sx11
    replace ax7 := ax7.same sx11
    replace ax8 := ax8.same sx11
    replace ax9 := ax9.same sx11
    replace ax10 := ax10.same sx11
    have tl0 : TgL p Hx11 [V.non, V.str "rest", V.ref x1, V.ref x2, V.ref x3, V.ref x4, V.ref x6, V.ref x8, V.ref x10] [G.non, (G.str "rest"), (G.lst [(G.str "rest")]), (G.tup []), (G.tup [(G.str "rest"), (G.int 1)]), (G.tup [(G.str "Rest")]), (G.tup [(G.str "ask"), (G.tup [])]), (G.tup [(G.str "ask"), (G.tup [(G.int 3), (G.int 3)])]), (G.tup [(G.str "ask"), (G.tup [(G.int 4), (G.int 3)])])] := (.cons .non (.cons (.str _) (.cons (.lst ex1 ax1 (.cons (.str _) .nil)) (.cons (.tup ax2 .nil) (.cons (.tup ax3 (.cons (.str _) (.cons (.int _) .nil))) (.cons (.tup ax4 (.cons (.str _) .nil)) (.cons (.tup ax6 (.cons (.str _) (.cons (.tup ax5 .nil) .nil))) (.cons (.tup ax8 (.cons (.str _) (.cons (.tup ax7 (.cons (.int _) (.cons (.int _) .nil))) .nil))) (.cons (.tup ax10 (.cons (.str _) (.cons (.tup ax9 (.cons (.int _) (.cons (.int _) .nil))) .nil))) .nil)))))))))
    have nl0 : ∀ x ∈ ([G.non, (G.str "rest"), (G.lst [(G.str "rest")]), (G.tup []), (G.tup [(G.str "rest"), (G.int 1)]), (G.tup [(G.str "Rest")]), (G.tup [(G.str "ask"), (G.tup [])]), (G.tup [(G.str "ask"), (G.tup [(G.int 3), (G.int 3)])]), (G.tup [(G.str "ask"), (G.tup [(G.int 4), (G.int 3)])])] : List G), Nc x 16 500 := by
      intro x hx
      simp only [List.mem_cons, List.not_mem_nil, or_false] at hx
      rcases hx with rfl | rfl | rfl | rfl | rfl | rfl | rfl | rfl | rfl
      · exact Nc.none.up (by decide) (by decide)
      · exact (Nc.str (s := "rest") (m := 4)).up (by decide) (by decide)
      · exact (Nc.lst (NcL.cons (n := 0) ((Nc.str (s := "rest") (m := 4)).up (by decide) (Nat.le_refl _)) (NcL.nil (n := 0)))).up (by decide) (by decide)
      · exact (Nc.tup (NcL.nil (n := 0))).up (by decide) (by decide)
      · exact (Nc.tup (NcL.cons (n := 0) ((Nc.str (s := "rest") (m := 4)).up (by decide) (Nat.le_refl _)) (NcL.cons (n := 0) ((Nc.int (i := 1)).up (by decide) (Nat.le_refl _)) (NcL.nil (n := 0))))).up (by decide) (by decide)
      · exact (Nc.tup (NcL.cons (n := 0) ((Nc.str (s := "Rest") (m := 4)).up (by decide) (Nat.le_refl _)) (NcL.nil (n := 0)))).up (by decide) (by decide)
      · exact (Nc.tup (NcL.cons (n := 1) ((Nc.str (s := "ask") (m := 3)).up (by decide) (Nat.le_refl _)) (NcL.cons (n := 1) ((Nc.tup (NcL.nil (n := 0))).up (by decide) (Nat.le_refl _)) (NcL.nil (n := 1))))).up (by decide) (by decide)
      · exact (Nc.tup (NcL.cons (n := 1) ((Nc.str (s := "ask") (m := 3)).up (by decide) (Nat.le_refl _)) (NcL.cons (n := 1) ((Nc.tup (NcL.cons (n := 0) ((Nc.int (i := 3)).up (by decide) (Nat.le_refl _)) (NcL.cons (n := 0) ((Nc.int (i := 3)).up (by decide) (Nat.le_refl _)) (NcL.nil (n := 0))))).up (by decide) (Nat.le_refl _)) (NcL.nil (n := 1))))).up (by decide) (by decide)
      · exact (Nc.tup (NcL.cons (n := 1) ((Nc.str (s := "ask") (m := 3)).up (by decide) (Nat.le_refl _)) (NcL.cons (n := 1) ((Nc.tup (NcL.cons (n := 0) ((Nc.int (i := 4)).up (by decide) (Nat.le_refl _)) (NcL.cons (n := 0) ((Nc.int (i := 3)).up (by decide) (Nat.le_refl _)) (NcL.nil (n := 0))))).up (by decide) (Nat.le_refl _)) (NcL.nil (n := 1))))).up (by decide) (by decide)
    have ln0 : ([V.non, V.str "rest", V.ref x1, V.ref x2, V.ref x3, V.ref x4, V.ref x6, V.ref x8, V.ref x10] : List V).length = 9 := rfl
    generalize [V.non, V.str "rest", V.ref x1, V.ref x2, V.ref x3, V.ref x4, V.ref x6, V.ref x8, V.ref x10] = vs0 at ax11 tl0 ln0 ⊢
    generalize [G.non, (G.str "rest"), (G.lst [(G.str "rest")]), (G.tup []), (G.tup [(G.str "rest"), (G.int 1)]), (G.tup [(G.str "Rest")]), (G.tup [(G.str "ask"), (G.tup [])]), (G.tup [(G.str "ask"), (G.tup [(G.int 3), (G.int 3)])]), (G.tup [(G.str "ask"), (G.tup [(G.int 4), (G.int 3)])])] = gs0 at tl0 nl0
    refine ⟨_, rfl, (by show 1 ≤ sizeLine; decide), fun x12 nx12 => ?_⟩
    have sx12 := same_upd (o := .lst [V.int 3]) nx12
    have ex12 : x12 ≠ p := pool_ne hp nx12
    have ax12 := upd_same (H := Hx11) (a := x12) (o := .lst [V.int 3])
    generalize upd Hx11 x12 (.lst [V.int 3]) = Hx12 at sx12 ax12 ⊢
    replace hp := hp.same sx12
    replace k0 := k0.trans (Kept.same sx12)
    replace ax11 := sx12 _ _ ax11
    replace tl0 := tl0.keep (Keeps.same (p := p) sx12)
    refine ⟨(by show 2 ≤ sizeLine; decide), fun x13 Hx13 sx13 nx13 px13 => ?_⟩
    have ax13 : T2 Hx13 x13 [V.str "ask", V.ref x12] := .inl px13
    replace hp := hp.same sx13
    replace k0 := k0.trans (Kept.same sx13)
    replace ax11 := sx13 _ _ ax11
    replace tl0 := tl0.keep (Keeps.same (p := p) sx13)
    replace ax12 := sx13 _ _ ax12
    refine ⟨(by show 1 ≤ sizeLine; decide), fun x14 Hx14 sx14 nx14 px14 => ?_⟩
    have ax14 : T2 Hx14 x14 [V.bl true] := .inl px14
    replace hp := hp.same sx14
    replace k0 := k0.trans (Kept.same sx14)
    replace ax11 := sx14 _ _ ax11
    replace tl0 := tl0.keep (Keeps.same (p := p) sx14)
    replace ax12 := sx14 _ _ ax12
    replace ax13 := ax13.same sx14
    refine ⟨(by show 2 ≤ sizeLine; decide), fun x15 Hx15 sx15 nx15 px15 => ?_⟩
    have ax15 : T2 Hx15 x15 [V.str "ask", V.ref x14] := .inl px15
    replace hp := hp.same sx15
    replace k0 := k0.trans (Kept.same sx15)
    replace ax11 := sx15 _ _ ax11
    replace tl0 := tl0.keep (Keeps.same (p := p) sx15)
    replace ax12 := sx15 _ _ ax12
    replace ax13 := ax13.same sx15
    replace ax14 := ax14.same sx15
    refine ⟨(by show 1 ≤ sizeLine; decide), fun x16 Hx16 sx16 nx16 px16 => ?_⟩
    have ax16 : T2 Hx16 x16 [V.int 100] := .inl px16
    replace hp := hp.same sx16
    replace k0 := k0.trans (Kept.same sx16)
    replace ax11 := sx16 _ _ ax11
    replace tl0 := tl0.keep (Keeps.same (p := p) sx16)
    replace ax12 := sx16 _ _ ax12
    replace ax13 := ax13.same sx16
    replace ax14 := ax14.same sx16
    replace ax15 := ax15.same sx16
    refine ⟨(by show 2 ≤ sizeLine; decide), fun x17 Hx17 sx17 nx17 px17 => ?_⟩
    have ax17 : T2 Hx17 x17 [V.str "ask", V.ref x16] := .inl px17
    replace hp := hp.same sx17
    replace k0 := k0.trans (Kept.same sx17)
    replace ax11 := sx17 _ _ ax11
    replace tl0 := tl0.keep (Keeps.same (p := p) sx17)
    replace ax12 := sx17 _ _ ax12
    replace ax13 := ax13.same sx17
    replace ax14 := ax14.same sx17
    replace ax15 := ax15.same sx17
    replace ax16 := ax16.same sx17
    refine ⟨(by show 7 ≤ sizeLine; decide), fun x18 Hx18 sx18 nx18 px18 => ?_⟩
    have ax18 : T2 Hx18 x18 [V.int 1, V.int 2, V.int 3, V.int 4, V.int 5, V.int 6, V.int 7] := .inl px18
    replace hp := hp.same sx18
    replace k0 := k0.trans (Kept.same sx18)
    replace ax11 := sx18 _ _ ax11
    replace tl0 := tl0.keep (Keeps.same (p := p) sx18)
    replace ax12 := sx18 _ _ ax12
    replace ax13 := ax13.same sx18
    replace ax14 := ax14.same sx18
    replace ax15 := ax15.same sx18
    replace ax16 := ax16.same sx18
    replace ax17 := ax17.same sx18
    refine ⟨(by show 2 ≤ sizeLine; decide), fun x19 Hx19 sx19 nx19 px19 => ?_⟩
    have ax19 : T2 Hx19 x19 [V.str "ask", V.ref x18] := .inl px19
    replace hp := hp.same sx19
    replace k0 := k0.trans (Kept.same sx19)
    replace ax11 := sx19 _ _ ax11
    replace tl0 := tl0.keep (Keeps.same (p := p) sx19)
    replace ax12 := sx19 _ _ ax12
    replace ax13 := ax13.same sx19
    replace ax14 := ax14.same sx19
    replace ax15 := ax15.same sx19
    replace ax16 := ax16.same sx19
    replace ax17 := ax17.same sx19
    replace ax18 := ax18.same sx19
    refine ⟨(by show 1 ≤ sizeLine; decide), fun x20 Hx20 sx20 nx20 px20 => ?_⟩
    have ax20 : T2 Hx20 x20 [V.str "ask"] := .inl px20
    replace hp := hp.same sx20
    replace k0 := k0.trans (Kept.same sx20)
    replace ax11 := sx20 _ _ ax11
    replace tl0 := tl0.keep (Keeps.same (p := p) sx20)
    replace ax12 := sx20 _ _ ax12
    replace ax13 := ax13.same sx20
    replace ax14 := ax14.same sx20
    replace ax15 := ax15.same sx20
    replace ax16 := ax16.same sx20
    replace ax17 := ax17.same sx20
    replace ax18 := ax18.same sx20
    replace ax19 := ax19.same sx20
    refine ⟨(by show 1 ≤ sizeLine; decide), fun x21 Hx21 sx21 nx21 px21 => ?_⟩
    have ax21 : T2 Hx21 x21 [V.str "call"] := .inl px21
    replace hp := hp.same sx21
    replace k0 := k0.trans (Kept.same sx21)
    replace ax11 := sx21 _ _ ax11
    replace tl0 := tl0.keep (Keeps.same (p := p) sx21)
    replace ax12 := sx21 _ _ ax12
    replace ax13 := ax13.same sx21
    replace ax14 := ax14.same sx21
    replace ax15 := ax15.same sx21
    replace ax16 := ax16.same sx21
    replace ax17 := ax17.same sx21
    replace ax18 := ax18.same sx21
    replace ax19 := ax19.same sx21
    replace ax20 := ax20.same sx21
    refine ⟨(by show 6 ≤ sizeLine; decide), fun x22 nx22 => ?_⟩
    have sx22 := same_upd (o := .lst [V.ref x13, V.ref x15, V.ref x17, V.ref x19, V.ref x20, V.ref x21]) nx22
    have ex22 : x22 ≠ p := pool_ne hp nx22
    have ax22 := upd_same (H := Hx21) (a := x22) (o := .lst [V.ref x13, V.ref x15, V.ref x17, V.ref x19, V.ref x20, V.ref x21])
    generalize upd Hx21 x22 (.lst [V.ref x13, V.ref x15, V.ref x17, V.ref x19, V.ref x20, V.ref x21]) = Hx22 at sx22 ax22 ⊢
    replace hp := hp.same sx22
    replace k0 := k0.trans (Kept.same sx22)
    replace ax11 := sx22 _ _ ax11
    replace tl0 := tl0.keep (Keeps.same (p := p) sx22)
    replace ax12 := sx22 _ _ ax12
    replace ax13 := ax13.same sx22
    replace ax14 := ax14.same sx22
    replace ax15 := ax15.same sx22
    replace ax16 := ax16.same sx22
    replace ax17 := ax17.same sx22
    replace ax18 := ax18.same sx22
    replace ax19 := ax19.same sx22
    replace ax20 := ax20.same sx22
    replace ax21 := ax21.same sx22
    have tl1 : TgL p Hx22 [V.ref x13, V.ref x15, V.ref x17, V.ref x19, V.ref x20, V.ref x21] [(G.tup [(G.str "ask"), (G.lst [(G.int 3)])]), (G.tup [(G.str "ask"), (G.tup [(G.bl true)])]), (G.tup [(G.str "ask"), (G.tup [(G.int 100)])]), (G.tup [(G.str "ask"), (G.tup [(G.int 1), (G.int 2), (G.int 3), (G.int 4), (G.int 5), (G.int 6), (G.int 7)])]), (G.tup [(G.str "ask")]), (G.tup [(G.str "call")])] := (.cons (.tup ax13 (.cons (.str _) (.cons (.lst ex12 ax12 (.cons (.int _) .nil)) .nil))) (.cons (.tup ax15 (.cons (.str _) (.cons (.tup ax14 (.cons (.bl true) .nil)) .nil))) (.cons (.tup ax17 (.cons (.str _) (.cons (.tup ax16 (.cons (.int _) .nil)) .nil))) (.cons (.tup ax19 (.cons (.str _) (.cons (.tup ax18 (.cons (.int _) (.cons (.int _) (.cons (.int _) (.cons (.int _) (.cons (.int _) (.cons (.int _) (.cons (.int _) .nil)))))))) .nil))) (.cons (.tup ax20 (.cons (.str _) .nil)) (.cons (.tup ax21 (.cons (.str _) .nil)) .nil))))))
    have nl1 : ∀ x ∈ ([(G.tup [(G.str "ask"), (G.lst [(G.int 3)])]), (G.tup [(G.str "ask"), (G.tup [(G.bl true)])]), (G.tup [(G.str "ask"), (G.tup [(G.int 100)])]), (G.tup [(G.str "ask"), (G.tup [(G.int 1), (G.int 2), (G.int 3), (G.int 4), (G.int 5), (G.int 6), (G.int 7)])]), (G.tup [(G.str "ask")]), (G.tup [(G.str "call")])] : List G), Nc x 16 500 := by
      intro x hx
      simp only [List.mem_cons, List.not_mem_nil, or_false] at hx
      rcases hx with rfl | rfl | rfl | rfl | rfl | rfl
      · exact (Nc.tup (NcL.cons (n := 1) ((Nc.str (s := "ask") (m := 3)).up (by decide) (Nat.le_refl _)) (NcL.cons (n := 1) ((Nc.lst (NcL.cons (n := 0) ((Nc.int (i := 3)).up (by decide) (Nat.le_refl _)) (NcL.nil (n := 0)))).up (by decide) (Nat.le_refl _)) (NcL.nil (n := 1))))).up (by decide) (by decide)
      · exact (Nc.tup (NcL.cons (n := 1) ((Nc.str (s := "ask") (m := 3)).up (by decide) (Nat.le_refl _)) (NcL.cons (n := 1) ((Nc.tup (NcL.cons (n := 0) ((Nc.bool true).up (by decide) (Nat.le_refl _)) (NcL.nil (n := 0)))).up (by decide) (Nat.le_refl _)) (NcL.nil (n := 1))))).up (by decide) (by decide)
      · exact (Nc.tup (NcL.cons (n := 1) ((Nc.str (s := "ask") (m := 3)).up (by decide) (Nat.le_refl _)) (NcL.cons (n := 1) ((Nc.tup (NcL.cons (n := 0) ((Nc.int (i := 100)).up (by decide) (Nat.le_refl _)) (NcL.nil (n := 0)))).up (by decide) (Nat.le_refl _)) (NcL.nil (n := 1))))).up (by decide) (by decide)
      · exact (Nc.tup (NcL.cons (n := 1) ((Nc.str (s := "ask") (m := 3)).up (by decide) (Nat.le_refl _)) (NcL.cons (n := 1) ((Nc.tup (NcL.cons (n := 0) ((Nc.int (i := 1)).up (by decide) (Nat.le_refl _)) (NcL.cons (n := 0) ((Nc.int (i := 2)).up (by decide) (Nat.le_refl _)) (NcL.cons (n := 0) ((Nc.int (i := 3)).up (by decide) (Nat.le_refl _)) (NcL.cons (n := 0) ((Nc.int (i := 4)).up (by decide) (Nat.le_refl _)) (NcL.cons (n := 0) ((Nc.int (i := 5)).up (by decide) (Nat.le_refl _)) (NcL.cons (n := 0) ((Nc.int (i := 6)).up (by decide) (Nat.le_refl _)) (NcL.cons (n := 0) ((Nc.int (i := 7)).up (by decide) (Nat.le_refl _)) (NcL.nil (n := 0)))))))))).up (by decide) (Nat.le_refl _)) (NcL.nil (n := 1))))).up (by decide) (by decide)
      · exact (Nc.tup (NcL.cons (n := 0) ((Nc.str (s := "ask") (m := 3)).up (by decide) (Nat.le_refl _)) (NcL.nil (n := 0)))).up (by decide) (by decide)
      · exact (Nc.tup (NcL.cons (n := 0) ((Nc.str (s := "call") (m := 4)).up (by decide) (Nat.le_refl _)) (NcL.nil (n := 0)))).up (by decide) (by decide)
    refine ⟨_, _, _, _, rfl, rfl, ax11, ax22, (by show vs0.length + 6 ≤ sizeLine; exact Nat.le_of_lt (small1000 (by omega))), fun x23 nx23 => ?_⟩
    have sx23 := same_upd (o := .lst (vs0 ++ [V.ref x13, V.ref x15, V.ref x17, V.ref x19, V.ref x20, V.ref x21])) nx23
    have ex23 : x23 ≠ p := pool_ne hp nx23
    have ax23 := upd_same (H := Hx22) (a := x23) (o := .lst (vs0 ++ [V.ref x13, V.ref x15, V.ref x17, V.ref x19, V.ref x20, V.ref x21]))
    generalize upd Hx22 x23 (.lst (vs0 ++ [V.ref x13, V.ref x15, V.ref x17, V.ref x19, V.ref x20, V.ref x21])) = Hx23 at sx23 ax23 ⊢
    have tm1 := tl0.app tl1
    have nm1 : ∀ x ∈ (gs0 ++ [(G.tup [(G.str "ask"), (G.lst [(G.int 3)])]), (G.tup [(G.str "ask"), (G.tup [(G.bl true)])]), (G.tup [(G.str "ask"), (G.tup [(G.int 100)])]), (G.tup [(G.str "ask"), (G.tup [(G.int 1), (G.int 2), (G.int 3), (G.int 4), (G.int 5), (G.int 6), (G.int 7)])]), (G.tup [(G.str "ask")]), (G.tup [(G.str "call")])]), Nc x 16 500 := fun x hx => (List.mem_append.mp hx).elim (nl0 x) (nl1 x)
    replace hp := hp.same sx23
    replace k0 := k0.trans (Kept.same sx23)
    replace tm1 := tm1.keep (Keeps.same (p := p) sx23)
    have ln1 : (vs0 ++ [V.ref x13, V.ref x15, V.ref x17, V.ref x19, V.ref x20, V.ref x21]).length = 15 := by rw [List.length_append, ln0]; rfl
    generalize (vs0 ++ [V.ref x13, V.ref x15, V.ref x17, V.ref x19, V.ref x20, V.ref x21]) = vs1 at ax23 tm1 ln1 ⊢
    generalize (gs0 ++ [(G.tup [(G.str "ask"), (G.lst [(G.int 3)])]), (G.tup [(G.str "ask"), (G.tup [(G.bl true)])]), (G.tup [(G.str "ask"), (G.tup [(G.int 100)])]), (G.tup [(G.str "ask"), (G.tup [(G.int 1), (G.int 2), (G.int 3), (G.int 4), (G.int 5), (G.int 6), (G.int 7)])]), (G.tup [(G.str "ask")]), (G.tup [(G.str "call")])]) = gs1 at tm1 nm1
    refine ⟨_, rfl, (by show 0 ≤ sizeLine; decide), fun x24 Hx24 sx24 nx24 px24 => ?_⟩
    have ax24 : T2 Hx24 x24 [] := .inl px24
    replace hp := hp.same sx24
    replace k0 := k0.trans (Kept.same sx24)
    replace tm1 := tm1.keep (Keeps.same (p := p) sx24)
    replace ax23 := sx24 _ _ ax23
    refine ⟨(by show 2 ≤ sizeLine; decide), fun x25 Hx25 sx25 nx25 px25 => ?_⟩
    have ax25 : T2 Hx25 x25 [V.str "then", V.ref x24] := .inl px25
    replace hp := hp.same sx25
    replace k0 := k0.trans (Kept.same sx25)
    replace tm1 := tm1.keep (Keeps.same (p := p) sx25)
    replace ax23 := sx25 _ _ ax23
    replace ax24 := ax24.same sx25
    refine ⟨(by show 1 ≤ sizeLine; decide), fun x26 Hx26 sx26 nx26 px26 => ?_⟩
    have ax26 : T2 Hx26 x26 [V.str "rest"] := .inl px26
    replace hp := hp.same sx26
    replace k0 := k0.trans (Kept.same sx26)
    replace tm1 := tm1.keep (Keeps.same (p := p) sx26)
    replace ax23 := sx26 _ _ ax23
    replace ax24 := ax24.same sx26
    replace ax25 := ax25.same sx26
    refine ⟨(by show 1 ≤ sizeLine; decide), fun x27 nx27 => ?_⟩
    have sx27 := same_upd (o := .lst [V.ref x26]) nx27
    have ex27 : x27 ≠ p := pool_ne hp nx27
    have ax27 := upd_same (H := Hx26) (a := x27) (o := .lst [V.ref x26])
    generalize upd Hx26 x27 (.lst [V.ref x26]) = Hx27 at sx27 ax27 ⊢
    replace hp := hp.same sx27
    replace k0 := k0.trans (Kept.same sx27)
    replace tm1 := tm1.keep (Keeps.same (p := p) sx27)
    replace ax23 := sx27 _ _ ax23
    replace ax24 := ax24.same sx27
    replace ax25 := ax25.same sx27
    replace ax26 := ax26.same sx27
    refine ⟨(by show 2 ≤ sizeLine; decide), fun x28 Hx28 sx28 nx28 px28 => ?_⟩
    have ax28 : T2 Hx28 x28 [V.str "then", V.ref x27] := .inl px28
    replace hp := hp.same sx28
    replace k0 := k0.trans (Kept.same sx28)
    replace tm1 := tm1.keep (Keeps.same (p := p) sx28)
    replace ax23 := sx28 _ _ ax23
    replace ax24 := ax24.same sx28
    replace ax25 := ax25.same sx28
    replace ax26 := ax26.same sx28
    replace ax27 := sx28 _ _ ax27
    refine ⟨(by show 1 ≤ sizeLine; decide), fun x29 Hx29 sx29 nx29 px29 => ?_⟩
    have ax29 : T2 Hx29 x29 [V.str "rest"] := .inl px29
    replace hp := hp.same sx29
    replace k0 := k0.trans (Kept.same sx29)
    replace tm1 := tm1.keep (Keeps.same (p := p) sx29)
    replace ax23 := sx29 _ _ ax23
    replace ax24 := ax24.same sx29
    replace ax25 := ax25.same sx29
    replace ax26 := ax26.same sx29
    replace ax27 := sx29 _ _ ax27
    replace ax28 := ax28.same sx29
    refine ⟨(by show 1 ≤ sizeLine; decide), fun x30 Hx30 sx30 nx30 px30 => ?_⟩
    have ax30 : T2 Hx30 x30 [V.ref x29] := .inl px30
    replace hp := hp.same sx30
    replace k0 := k0.trans (Kept.same sx30)
    replace tm1 := tm1.keep (Keeps.same (p := p) sx30)
    replace ax23 := sx30 _ _ ax23
    replace ax24 := ax24.same sx30
    replace ax25 := ax25.same sx30
    replace ax26 := ax26.same sx30
    replace ax27 := sx30 _ _ ax27
    replace ax28 := ax28.same sx30
    replace ax29 := ax29.same sx30
    refine ⟨_, 9, _, rfl, rfl, ax30, List.cons_ne_nil _ _, by decide, by decide, (by show 1 ≤ 1000; decide), fun x31 Hx31 sx31 ax31 => ?_⟩
    replace hp := hp.same sx31
    replace k0 := k0.trans (Kept.same sx31)
    replace tm1 := tm1.keep (Keeps.same (p := p) sx31)
    replace ax23 := sx31 _ _ ax23
    replace ax24 := ax24.same sx31
    replace ax25 := ax25.same sx31
    replace ax26 := ax26.same sx31
    replace ax27 := sx31 _ _ ax27
    replace ax28 := ax28.same sx31
    replace ax29 := ax29.same sx31
    replace ax30 := ax30.same sx31
    refine ⟨(by show 2 ≤ sizeLine; decide), fun x32 Hx32 sx32 nx32 px32 => ?_⟩
    have ax32 : T2 Hx32 x32 [V.str "then", V.ref x31] := .inl px32
    replace hp := hp.same sx32
    replace k0 := k0.trans (Kept.same sx32)
    replace tm1 := tm1.keep (Keeps.same (p := p) sx32)
    replace ax23 := sx32 _ _ ax23
    replace ax24 := ax24.same sx32
    replace ax25 := ax25.same sx32
    replace ax26 := ax26.same sx32
    replace ax27 := sx32 _ _ ax27
    replace ax28 := ax28.same sx32
    replace ax29 := ax29.same sx32
    replace ax30 := ax30.same sx32
    replace ax31 := ax31.same sx32
    refine ⟨(by show 1 ≤ sizeLine; decide), fun x33 Hx33 sx33 nx33 px33 => ?_⟩
    have ax33 : T2 Hx33 x33 [V.str "rest"] := .inl px33
    replace hp := hp.same sx33
    replace k0 := k0.trans (Kept.same sx33)
    replace tm1 := tm1.keep (Keeps.same (p := p) sx33)
    replace ax23 := sx33 _ _ ax23
    replace ax24 := ax24.same sx33
    replace ax25 := ax25.same sx33
    replace ax26 := ax26.same sx33
    replace ax27 := sx33 _ _ ax27
    replace ax28 := ax28.same sx33
    replace ax29 := ax29.same sx33
    replace ax30 := ax30.same sx33
    replace ax31 := ax31.same sx33
    replace ax32 := ax32.same sx33
    refine ⟨(by show 1 ≤ sizeLine; decide), fun x34 Hx34 sx34 nx34 px34 => ?_⟩
    have ax34 : T2 Hx34 x34 [V.ref x33] := .inl px34
    replace hp := hp.same sx34
    replace k0 := k0.trans (Kept.same sx34)
    replace tm1 := tm1.keep (Keeps.same (p := p) sx34)
    replace ax23 := sx34 _ _ ax23
    replace ax24 := ax24.same sx34
    replace ax25 := ax25.same sx34
    replace ax26 := ax26.same sx34
    replace ax27 := sx34 _ _ ax27
    replace ax28 := ax28.same sx34
    replace ax29 := ax29.same sx34
    replace ax30 := ax30.same sx34
    replace ax31 := ax31.same sx34
    replace ax32 := ax32.same sx34
    replace ax33 := ax33.same sx34
    refine ⟨(by show 2 ≤ sizeLine; decide), fun x35 Hx35 sx35 nx35 px35 => ?_⟩
    have ax35 : T2 Hx35 x35 [V.str "fork", V.ref x34] := .inl px35
    replace hp := hp.same sx35
    replace k0 := k0.trans (Kept.same sx35)
    replace tm1 := tm1.keep (Keeps.same (p := p) sx35)
    replace ax23 := sx35 _ _ ax23
    replace ax24 := ax24.same sx35
    replace ax25 := ax25.same sx35
    replace ax26 := ax26.same sx35
    replace ax27 := sx35 _ _ ax27
    replace ax28 := ax28.same sx35
    replace ax29 := ax29.same sx35
    replace ax30 := ax30.same sx35
    replace ax31 := ax31.same sx35
    replace ax32 := ax32.same sx35
    replace ax33 := ax33.same sx35
    replace ax34 := ax34.same sx35
    refine ⟨(by show 2 ≤ sizeLine; decide), fun x36 Hx36 sx36 nx36 px36 => ?_⟩
    have ax36 : T2 Hx36 x36 [V.int 1, V.int 2] := .inl px36
    replace hp := hp.same sx36
    replace k0 := k0.trans (Kept.same sx36)
    replace tm1 := tm1.keep (Keeps.same (p := p) sx36)
    replace ax23 := sx36 _ _ ax23
    replace ax24 := ax24.same sx36
    replace ax25 := ax25.same sx36
    replace ax26 := ax26.same sx36
    replace ax27 := sx36 _ _ ax27
    replace ax28 := ax28.same sx36
    replace ax29 := ax29.same sx36
    replace ax30 := ax30.same sx36
    replace ax31 := ax31.same sx36
    replace ax32 := ax32.same sx36
    replace ax33 := ax33.same sx36
    replace ax34 := ax34.same sx36
    replace ax35 := ax35.same sx36
    refine ⟨(by show 5 ≤ sizeLine; decide), fun x37 nx37 => ?_⟩
    have sx37 := same_upd (o := .lst [V.ref x25, V.ref x28, V.ref x32, V.ref x35, V.ref x36]) nx37
    have ex37 : x37 ≠ p := pool_ne hp nx37
    have ax37 := upd_same (H := Hx36) (a := x37) (o := .lst [V.ref x25, V.ref x28, V.ref x32, V.ref x35, V.ref x36])
    generalize upd Hx36 x37 (.lst [V.ref x25, V.ref x28, V.ref x32, V.ref x35, V.ref x36]) = Hx37 at sx37 ax37 ⊢
    replace hp := hp.same sx37
    replace k0 := k0.trans (Kept.same sx37)
    replace tm1 := tm1.keep (Keeps.same (p := p) sx37)
    replace ax23 := sx37 _ _ ax23
    replace ax24 := ax24.same sx37
    replace ax25 := ax25.same sx37
    replace ax26 := ax26.same sx37
    replace ax27 := sx37 _ _ ax27
    replace ax28 := ax28.same sx37
    replace ax29 := ax29.same sx37
    replace ax30 := ax30.same sx37
    replace ax31 := ax31.same sx37
    replace ax32 := ax32.same sx37
    replace ax33 := ax33.same sx37
    replace ax34 := ax34.same sx37
    replace ax35 := ax35.same sx37
    replace ax36 := ax36.same sx37
    have tl2 : TgL p Hx37 [V.ref x25, V.ref x28, V.ref x32, V.ref x35, V.ref x36] [(G.tup [(G.str "then"), (G.tup [])]), (G.tup [(G.str "then"), (G.lst [(G.tup [(G.str "rest")])])]), (G.tup [(G.str "then"), (.tup (List.replicate (9 : Int).toNat [(G.tup [(G.str "rest")])]).flatten)]), (G.tup [(G.str "fork"), (G.tup [(G.tup [(G.str "rest")])])]), (G.tup [(G.int 1), (G.int 2)])] := (.cons (.tup ax25 (.cons (.str _) (.cons (.tup ax24 .nil) .nil))) (.cons (.tup ax28 (.cons (.str _) (.cons (.lst ex27 ax27 (.cons (.tup ax26 (.cons (.str _) .nil)) .nil)) .nil))) (.cons (.tup ax32 (.cons (.str _) (.cons (.tup ax31 (TgL.rep (.cons (.tup ax29 (.cons (.str _) .nil)) .nil) (9 : Int).toNat)) .nil))) (.cons (.tup ax35 (.cons (.str _) (.cons (.tup ax34 (.cons (.tup ax33 (.cons (.str _) .nil)) .nil)) .nil))) (.cons (.tup ax36 (.cons (.int _) (.cons (.int _) .nil))) .nil)))))
    have nl2 : ∀ x ∈ ([(G.tup [(G.str "then"), (G.tup [])]), (G.tup [(G.str "then"), (G.lst [(G.tup [(G.str "rest")])])]), (G.tup [(G.str "then"), (.tup (List.replicate (9 : Int).toNat [(G.tup [(G.str "rest")])]).flatten)]), (G.tup [(G.str "fork"), (G.tup [(G.tup [(G.str "rest")])])]), (G.tup [(G.int 1), (G.int 2)])] : List G), Nc x 16 500 := by
      intro x hx
      simp only [List.mem_cons, List.not_mem_nil, or_false] at hx
      rcases hx with rfl | rfl | rfl | rfl | rfl
      · exact (Nc.tup (NcL.cons (n := 1) ((Nc.str (s := "then") (m := 4)).up (by decide) (Nat.le_refl _)) (NcL.cons (n := 1) ((Nc.tup (NcL.nil (n := 0))).up (by decide) (Nat.le_refl _)) (NcL.nil (n := 1))))).up (by decide) (by decide)
      · exact (Nc.tup (NcL.cons (n := 2) ((Nc.str (s := "then") (m := 4)).up (by decide) (Nat.le_refl _)) (NcL.cons (n := 2) ((Nc.lst (NcL.cons (n := 1) ((Nc.tup (NcL.cons (n := 0) ((Nc.str (s := "rest") (m := 4)).up (by decide) (Nat.le_refl _)) (NcL.nil (n := 0)))).up (by decide) (Nat.le_refl _)) (NcL.nil (n := 1)))).up (by decide) (Nat.le_refl _)) (NcL.nil (n := 2))))).up (by decide) (by decide)
      · exact (Nc.tup (NcL.cons (n := 2) ((Nc.str (s := "then") (m := 4)).up (by decide) (Nat.le_refl _)) (NcL.cons (n := 2) ((Nc.tup (NcL.rep (NcL.cons (n := 1) ((Nc.tup (NcL.cons (n := 0) ((Nc.str (s := "rest") (m := 4)).up (by decide) (Nat.le_refl _)) (NcL.nil (n := 0)))).up (by decide) (Nat.le_refl _)) (NcL.nil (n := 1))) (9 : Int).toNat)).up (by decide) (Nat.le_refl _)) (NcL.nil (n := 2))))).up (by decide) (by decide)
      · exact (Nc.tup (NcL.cons (n := 2) ((Nc.str (s := "fork") (m := 4)).up (by decide) (Nat.le_refl _)) (NcL.cons (n := 2) ((Nc.tup (NcL.cons (n := 1) ((Nc.tup (NcL.cons (n := 0) ((Nc.str (s := "rest") (m := 4)).up (by decide) (Nat.le_refl _)) (NcL.nil (n := 0)))).up (by decide) (Nat.le_refl _)) (NcL.nil (n := 1)))).up (by decide) (Nat.le_refl _)) (NcL.nil (n := 2))))).up (by decide) (by decide)
      · exact (Nc.tup (NcL.cons (n := 0) ((Nc.int (i := 1)).up (by decide) (Nat.le_refl _)) (NcL.cons (n := 0) ((Nc.int (i := 2)).up (by decide) (Nat.le_refl _)) (NcL.nil (n := 0))))).up (by decide) (by decide)
    refine ⟨_, _, _, _, rfl, rfl, ax23, ax37, (by show vs1.length + 5 ≤ sizeLine; exact Nat.le_of_lt (small1000 (by omega))), fun x38 nx38 => ?_⟩
    have sx38 := same_upd (o := .lst (vs1 ++ [V.ref x25, V.ref x28, V.ref x32, V.ref x35, V.ref x36])) nx38
    have ex38 : x38 ≠ p := pool_ne hp nx38
    have ax38 := upd_same (H := Hx37) (a := x38) (o := .lst (vs1 ++ [V.ref x25, V.ref x28, V.ref x32, V.ref x35, V.ref x36]))
    generalize upd Hx37 x38 (.lst (vs1 ++ [V.ref x25, V.ref x28, V.ref x32, V.ref x35, V.ref x36])) = Hx38 at sx38 ax38 ⊢
    have tm2 := tm1.app tl2
    have nm2 : ∀ x ∈ (gs1 ++ [(G.tup [(G.str "then"), (G.tup [])]), (G.tup [(G.str "then"), (G.lst [(G.tup [(G.str "rest")])])]), (G.tup [(G.str "then"), (.tup (List.replicate (9 : Int).toNat [(G.tup [(G.str "rest")])]).flatten)]), (G.tup [(G.str "fork"), (G.tup [(G.tup [(G.str "rest")])])]), (G.tup [(G.int 1), (G.int 2)])]), Nc x 16 500 := fun x hx => (List.mem_append.mp hx).elim (nm1 x) (nl2 x)
    replace hp := hp.same sx38
    replace k0 := k0.trans (Kept.same sx38)
    replace tm2 := tm2.keep (Keeps.same (p := p) sx38)
    have ln2 : (vs1 ++ [V.ref x25, V.ref x28, V.ref x32, V.ref x35, V.ref x36]).length = 20 := by rw [List.length_append, ln1]; rfl
    generalize (vs1 ++ [V.ref x25, V.ref x28, V.ref x32, V.ref x35, V.ref x36]) = vs2 at ax38 tm2 ln2 ⊢
    generalize (gs1 ++ [(G.tup [(G.str "then"), (G.tup [])]), (G.tup [(G.str "then"), (G.lst [(G.tup [(G.str "rest")])])]), (G.tup [(G.str "then"), (.tup (List.replicate (9 : Int).toNat [(G.tup [(G.str "rest")])]).flatten)]), (G.tup [(G.str "fork"), (G.tup [(G.tup [(G.str "rest")])])]), (G.tup [(G.int 1), (G.int 2)])]) = gs2 at tm2 nm2
    refine ⟨_, rfl, (by show 1 ≤ sizeLine; decide), fun x39 Hx39 sx39 nx39 px39 => ?_⟩
    have ax39 : T2 Hx39 x39 [V.str "rest"] := .inl px39
    replace hp := hp.same sx39
    replace k0 := k0.trans (Kept.same sx39)
    replace tm2 := tm2.keep (Keeps.same (p := p) sx39)
    replace ax38 := sx39 _ _ ax38
    refine ⟨(by show 1 ≤ sizeLine; decide), fun x40 Hx40 sx40 nx40 px40 => ?_⟩
    have ax40 : T2 Hx40 x40 [V.ref x39] := .inl px40
    replace hp := hp.same sx40
    replace k0 := k0.trans (Kept.same sx40)
    replace tm2 := tm2.keep (Keeps.same (p := p) sx40)
    replace ax38 := sx40 _ _ ax38
    replace ax39 := ax39.same sx40
    refine ⟨_, 7, _, rfl, rfl, ax40, List.cons_ne_nil _ _, by decide, by decide, (by show 1 ≤ 1000; decide), fun x41 Hx41 sx41 ax41 => ?_⟩
    replace hp := hp.same sx41
    replace k0 := k0.trans (Kept.same sx41)
    replace tm2 := tm2.keep (Keeps.same (p := p) sx41)
    replace ax38 := sx41 _ _ ax38
    replace ax39 := ax39.same sx41
    replace ax40 := ax40.same sx41
    refine ⟨(by show 2 ≤ sizeLine; decide), fun x42 Hx42 sx42 nx42 px42 => ?_⟩
    have ax42 : T2 Hx42 x42 [V.str "fork", V.ref x41] := .inl px42
    replace hp := hp.same sx42
    replace k0 := k0.trans (Kept.same sx42)
    replace tm2 := tm2.keep (Keeps.same (p := p) sx42)
    replace ax38 := sx42 _ _ ax38
    replace ax39 := ax39.same sx42
    replace ax40 := ax40.same sx42
    replace ax41 := ax41.same sx42
    refine ⟨(by show 1 ≤ sizeLine; decide), fun x43 Hx43 sx43 nx43 px43 => ?_⟩
    have ax43 : T2 Hx43 x43 [V.str "rest"] := .inl px43
    replace hp := hp.same sx43
    replace k0 := k0.trans (Kept.same sx43)
    replace tm2 := tm2.keep (Keeps.same (p := p) sx43)
    replace ax38 := sx43 _ _ ax38
    replace ax39 := ax39.same sx43
    replace ax40 := ax40.same sx43
    replace ax41 := ax41.same sx43
    replace ax42 := ax42.same sx43
    refine ⟨(by show 4 ≤ sizeLine; decide), fun x44 Hx44 sx44 nx44 px44 => ?_⟩
    have ax44 : T2 Hx44 x44 [V.str "round", V.int 2, V.int 1, V.ref x43] := .inl px44
    replace hp := hp.same sx44
    replace k0 := k0.trans (Kept.same sx44)
    replace tm2 := tm2.keep (Keeps.same (p := p) sx44)
    replace ax38 := sx44 _ _ ax38
    replace ax39 := ax39.same sx44
    replace ax40 := ax40.same sx44
    replace ax41 := ax41.same sx44
    replace ax42 := ax42.same sx44
    replace ax43 := ax43.same sx44
    refine ⟨(by show 1 ≤ sizeLine; decide), fun x45 Hx45 sx45 nx45 px45 => ?_⟩
    have ax45 : T2 Hx45 x45 [V.str "rest"] := .inl px45
    replace hp := hp.same sx45
    replace k0 := k0.trans (Kept.same sx45)
    replace tm2 := tm2.keep (Keeps.same (p := p) sx45)
    replace ax38 := sx45 _ _ ax38
    replace ax39 := ax39.same sx45
    replace ax40 := ax40.same sx45
    replace ax41 := ax41.same sx45
    replace ax42 := ax42.same sx45
    replace ax43 := ax43.same sx45
    replace ax44 := ax44.same sx45
    refine ⟨(by show 4 ≤ sizeLine; decide), fun x46 Hx46 sx46 nx46 px46 => ?_⟩
    have ax46 : T2 Hx46 x46 [V.str "round", V.int 0, V.int 13, V.ref x45] := .inl px46
    replace hp := hp.same sx46
    replace k0 := k0.trans (Kept.same sx46)
    replace tm2 := tm2.keep (Keeps.same (p := p) sx46)
    replace ax38 := sx46 _ _ ax38
    replace ax39 := ax39.same sx46
    replace ax40 := ax40.same sx46
    replace ax41 := ax41.same sx46
    replace ax42 := ax42.same sx46
    replace ax43 := ax43.same sx46
    replace ax44 := ax44.same sx46
    replace ax45 := ax45.same sx46
    refine ⟨(by show 3 ≤ sizeLine; decide), fun x47 nx47 => ?_⟩
    have sx47 := same_upd (o := .lst [V.ref x42, V.ref x44, V.ref x46]) nx47
    have ex47 : x47 ≠ p := pool_ne hp nx47
    have ax47 := upd_same (H := Hx46) (a := x47) (o := .lst [V.ref x42, V.ref x44, V.ref x46])
    generalize upd Hx46 x47 (.lst [V.ref x42, V.ref x44, V.ref x46]) = Hx47 at sx47 ax47 ⊢
    replace hp := hp.same sx47
    replace k0 := k0.trans (Kept.same sx47)
    replace tm2 := tm2.keep (Keeps.same (p := p) sx47)
    replace ax38 := sx47 _ _ ax38
    replace ax39 := ax39.same sx47
    replace ax40 := ax40.same sx47
    replace ax41 := ax41.same sx47
    replace ax42 := ax42.same sx47
    replace ax43 := ax43.same sx47
    replace ax44 := ax44.same sx47
    replace ax45 := ax45.same sx47
    replace ax46 := ax46.same sx47
    have tl3 : TgL p Hx47 [V.ref x42, V.ref x44, V.ref x46] [(G.tup [(G.str "fork"), (.tup (List.replicate (7 : Int).toNat [(G.tup [(G.str "rest")])]).flatten)]), (G.tup [(G.str "round"), (G.int 2), (G.int 1), (G.tup [(G.str "rest")])]), (G.tup [(G.str "round"), (G.int 0), (G.int 13), (G.tup [(G.str "rest")])])] := (.cons (.tup ax42 (.cons (.str _) (.cons (.tup ax41 (TgL.rep (.cons (.tup ax39 (.cons (.str _) .nil)) .nil) (7 : Int).toNat)) .nil))) (.cons (.tup ax44 (.cons (.str _) (.cons (.int _) (.cons (.int _) (.cons (.tup ax43 (.cons (.str _) .nil)) .nil))))) (.cons (.tup ax46 (.cons (.str _) (.cons (.int _) (.cons (.int _) (.cons (.tup ax45 (.cons (.str _) .nil)) .nil))))) .nil)))
    have nl3 : ∀ x ∈ ([(G.tup [(G.str "fork"), (.tup (List.replicate (7 : Int).toNat [(G.tup [(G.str "rest")])]).flatten)]), (G.tup [(G.str "round"), (G.int 2), (G.int 1), (G.tup [(G.str "rest")])]), (G.tup [(G.str "round"), (G.int 0), (G.int 13), (G.tup [(G.str "rest")])])] : List G), Nc x 16 500 := by
      intro x hx
      simp only [List.mem_cons, List.not_mem_nil, or_false] at hx
      rcases hx with rfl | rfl | rfl
      · exact (Nc.tup (NcL.cons (n := 2) ((Nc.str (s := "fork") (m := 4)).up (by decide) (Nat.le_refl _)) (NcL.cons (n := 2) ((Nc.tup (NcL.rep (NcL.cons (n := 1) ((Nc.tup (NcL.cons (n := 0) ((Nc.str (s := "rest") (m := 4)).up (by decide) (Nat.le_refl _)) (NcL.nil (n := 0)))).up (by decide) (Nat.le_refl _)) (NcL.nil (n := 1))) (7 : Int).toNat)).up (by decide) (Nat.le_refl _)) (NcL.nil (n := 2))))).up (by decide) (by decide)
      · exact (Nc.tup (NcL.cons (n := 1) ((Nc.str (s := "round") (m := 5)).up (by decide) (Nat.le_refl _)) (NcL.cons (n := 1) ((Nc.int (i := 2)).up (by decide) (Nat.le_refl _)) (NcL.cons (n := 1) ((Nc.int (i := 1)).up (by decide) (Nat.le_refl _)) (NcL.cons (n := 1) ((Nc.tup (NcL.cons (n := 0) ((Nc.str (s := "rest") (m := 4)).up (by decide) (Nat.le_refl _)) (NcL.nil (n := 0)))).up (by decide) (Nat.le_refl _)) (NcL.nil (n := 1))))))).up (by decide) (by decide)
      · exact (Nc.tup (NcL.cons (n := 1) ((Nc.str (s := "round") (m := 5)).up (by decide) (Nat.le_refl _)) (NcL.cons (n := 1) ((Nc.int (i := 0)).up (by decide) (Nat.le_refl _)) (NcL.cons (n := 1) ((Nc.int (i := 13)).up (by decide) (Nat.le_refl _)) (NcL.cons (n := 1) ((Nc.tup (NcL.cons (n := 0) ((Nc.str (s := "rest") (m := 4)).up (by decide) (Nat.le_refl _)) (NcL.nil (n := 0)))).up (by decide) (Nat.le_refl _)) (NcL.nil (n := 1))))))).up (by decide) (by decide)
    refine ⟨_, _, _, _, rfl, rfl, ax38, ax47, (by show vs2.length + 3 ≤ sizeLine; exact Nat.le_of_lt (small1000 (by omega))), fun x48 nx48 => ?_⟩
    have sx48 := same_upd (o := .lst (vs2 ++ [V.ref x42, V.ref x44, V.ref x46])) nx48
    have ex48 : x48 ≠ p := pool_ne hp nx48
    have ax48 := upd_same (H := Hx47) (a := x48) (o := .lst (vs2 ++ [V.ref x42, V.ref x44, V.ref x46]))
    generalize upd Hx47 x48 (.lst (vs2 ++ [V.ref x42, V.ref x44, V.ref x46])) = Hx48 at sx48 ax48 ⊢
    have tm3 := tm2.app tl3
    have nm3 : ∀ x ∈ (gs2 ++ [(G.tup [(G.str "fork"), (.tup (List.replicate (7 : Int).toNat [(G.tup [(G.str "rest")])]).flatten)]), (G.tup [(G.str "round"), (G.int 2), (G.int 1), (G.tup [(G.str "rest")])]), (G.tup [(G.str "round"), (G.int 0), (G.int 13), (G.tup [(G.str "rest")])])]), Nc x 16 500 := fun x hx => (List.mem_append.mp hx).elim (nm2 x) (nl3 x)
    replace hp := hp.same sx48
    replace k0 := k0.trans (Kept.same sx48)
    replace tm3 := tm3.keep (Keeps.same (p := p) sx48)
    have ln3 : (vs2 ++ [V.ref x42, V.ref x44, V.ref x46]).length = 23 := by rw [List.length_append, ln2]; rfl
    generalize (vs2 ++ [V.ref x42, V.ref x44, V.ref x46]) = vs3 at ax48 tm3 ln3 ⊢
    generalize (gs2 ++ [(G.tup [(G.str "fork"), (.tup (List.replicate (7 : Int).toNat [(G.tup [(G.str "rest")])]).flatten)]), (G.tup [(G.str "round"), (G.int 2), (G.int 1), (G.tup [(G.str "rest")])]), (G.tup [(G.str "round"), (G.int 0), (G.int 13), (G.tup [(G.str "rest")])])]) = gs3 at tm3 nm3
    refine ⟨_, rfl, _, rfl, (by show 1 ≤ sizeLine; decide), fun x49 Hx49 sx49 nx49 px49 => ?_⟩
    have ax49 : T2 Hx49 x49 [V.str "rest"] := .inl px49
    replace hp := hp.same sx49
    replace k0 := k0.trans (Kept.same sx49)
    replace tm3 := tm3.keep (Keeps.same (p := p) sx49)
    replace ax48 := sx49 _ _ ax48
    refine ⟨(by show 4 ≤ sizeLine; decide), fun x50 Hx50 sx50 nx50 px50 => ?_⟩
    have ax50 : T2 Hx50 x50 [V.str "round", V.int (-1), V.int 2, V.ref x49] := .inl px50
    replace hp := hp.same sx50
    replace k0 := k0.trans (Kept.same sx50)
    replace tm3 := tm3.keep (Keeps.same (p := p) sx50)
    replace ax48 := sx50 _ _ ax48
    replace ax49 := ax49.same sx50
    refine ⟨(by show 1 ≤ sizeLine; decide), fun x51 Hx51 sx51 nx51 px51 => ?_⟩
    have ax51 : T2 Hx51 x51 [V.str "rest"] := .inl px51
    replace hp := hp.same sx51
    replace k0 := k0.trans (Kept.same sx51)
    replace tm3 := tm3.keep (Keeps.same (p := p) sx51)
    replace ax48 := sx51 _ _ ax48
    replace ax49 := ax49.same sx51
    replace ax50 := ax50.same sx51
    refine ⟨(by show 4 ≤ sizeLine; decide), fun x52 Hx52 sx52 nx52 px52 => ?_⟩
    have ax52 : T2 Hx52 x52 [V.str "round", V.int 13, V.non, V.ref x51] := .inl px52
    replace hp := hp.same sx52
    replace k0 := k0.trans (Kept.same sx52)
    replace tm3 := tm3.keep (Keeps.same (p := p) sx52)
    replace ax48 := sx52 _ _ ax48
    replace ax49 := ax49.same sx52
    replace ax50 := ax50.same sx52
    replace ax51 := ax51.same sx52
    refine ⟨(by show 1 ≤ sizeLine; decide), fun x53 Hx53 sx53 nx53 px53 => ?_⟩
    have ax53 : T2 Hx53 x53 [V.str "rest"] := .inl px53
    replace hp := hp.same sx53
    replace k0 := k0.trans (Kept.same sx53)
    replace tm3 := tm3.keep (Keeps.same (p := p) sx53)
    replace ax48 := sx53 _ _ ax48
    replace ax49 := ax49.same sx53
    replace ax50 := ax50.same sx53
    replace ax51 := ax51.same sx53
    replace ax52 := ax52.same sx53
    refine ⟨(by show 4 ≤ sizeLine; decide), fun x54 Hx54 sx54 nx54 px54 => ?_⟩
    have ax54 : T2 Hx54 x54 [V.str "round", V.bl true, V.int 2, V.ref x53] := .inl px54
    replace hp := hp.same sx54
    replace k0 := k0.trans (Kept.same sx54)
    replace tm3 := tm3.keep (Keeps.same (p := p) sx54)
    replace ax48 := sx54 _ _ ax48
    replace ax49 := ax49.same sx54
    replace ax50 := ax50.same sx54
    replace ax51 := ax51.same sx54
    replace ax52 := ax52.same sx54
    replace ax53 := ax53.same sx54
    refine ⟨(by show 3 ≤ sizeLine; decide), fun x55 nx55 => ?_⟩
    have sx55 := same_upd (o := .lst [V.ref x50, V.ref x52, V.ref x54]) nx55
    have ex55 : x55 ≠ p := pool_ne hp nx55
    have ax55 := upd_same (H := Hx54) (a := x55) (o := .lst [V.ref x50, V.ref x52, V.ref x54])
    generalize upd Hx54 x55 (.lst [V.ref x50, V.ref x52, V.ref x54]) = Hx55 at sx55 ax55 ⊢
    replace hp := hp.same sx55
    replace k0 := k0.trans (Kept.same sx55)
    replace tm3 := tm3.keep (Keeps.same (p := p) sx55)
    replace ax48 := sx55 _ _ ax48
    replace ax49 := ax49.same sx55
    replace ax50 := ax50.same sx55
    replace ax51 := ax51.same sx55
    replace ax52 := ax52.same sx55
    replace ax53 := ax53.same sx55
    replace ax54 := ax54.same sx55
    have tl4 : TgL p Hx55 [V.ref x50, V.ref x52, V.ref x54] [(G.tup [(G.str "round"), (G.int (-1)), (G.int 2), (G.tup [(G.str "rest")])]), (G.tup [(G.str "round"), (G.int 13), G.non, (G.tup [(G.str "rest")])]), (G.tup [(G.str "round"), (G.bl true), (G.int 2), (G.tup [(G.str "rest")])])] := (.cons (.tup ax50 (.cons (.str _) (.cons (.int _) (.cons (.int _) (.cons (.tup ax49 (.cons (.str _) .nil)) .nil))))) (.cons (.tup ax52 (.cons (.str _) (.cons (.int _) (.cons .non (.cons (.tup ax51 (.cons (.str _) .nil)) .nil))))) (.cons (.tup ax54 (.cons (.str _) (.cons (.bl true) (.cons (.int _) (.cons (.tup ax53 (.cons (.str _) .nil)) .nil))))) .nil)))
    have nl4 : ∀ x ∈ ([(G.tup [(G.str "round"), (G.int (-1)), (G.int 2), (G.tup [(G.str "rest")])]), (G.tup [(G.str "round"), (G.int 13), G.non, (G.tup [(G.str "rest")])]), (G.tup [(G.str "round"), (G.bl true), (G.int 2), (G.tup [(G.str "rest")])])] : List G), Nc x 16 500 := by
      intro x hx
      simp only [List.mem_cons, List.not_mem_nil, or_false] at hx
      rcases hx with rfl | rfl | rfl
      · exact (Nc.tup (NcL.cons (n := 1) ((Nc.str (s := "round") (m := 5)).up (by decide) (Nat.le_refl _)) (NcL.cons (n := 1) ((Nc.int (i := -1)).up (by decide) (Nat.le_refl _)) (NcL.cons (n := 1) ((Nc.int (i := 2)).up (by decide) (Nat.le_refl _)) (NcL.cons (n := 1) ((Nc.tup (NcL.cons (n := 0) ((Nc.str (s := "rest") (m := 4)).up (by decide) (Nat.le_refl _)) (NcL.nil (n := 0)))).up (by decide) (Nat.le_refl _)) (NcL.nil (n := 1))))))).up (by decide) (by decide)
      · exact (Nc.tup (NcL.cons (n := 1) ((Nc.str (s := "round") (m := 5)).up (by decide) (Nat.le_refl _)) (NcL.cons (n := 1) ((Nc.int (i := 13)).up (by decide) (Nat.le_refl _)) (NcL.cons (n := 1) (Nc.none.up (by decide) (Nat.le_refl _)) (NcL.cons (n := 1) ((Nc.tup (NcL.cons (n := 0) ((Nc.str (s := "rest") (m := 4)).up (by decide) (Nat.le_refl _)) (NcL.nil (n := 0)))).up (by decide) (Nat.le_refl _)) (NcL.nil (n := 1))))))).up (by decide) (by decide)
      · exact (Nc.tup (NcL.cons (n := 1) ((Nc.str (s := "round") (m := 5)).up (by decide) (Nat.le_refl _)) (NcL.cons (n := 1) ((Nc.bool true).up (by decide) (Nat.le_refl _)) (NcL.cons (n := 1) ((Nc.int (i := 2)).up (by decide) (Nat.le_refl _)) (NcL.cons (n := 1) ((Nc.tup (NcL.cons (n := 0) ((Nc.str (s := "rest") (m := 4)).up (by decide) (Nat.le_refl _)) (NcL.nil (n := 0)))).up (by decide) (Nat.le_refl _)) (NcL.nil (n := 1))))))).up (by decide) (by decide)
    refine ⟨_, _, _, _, rfl, rfl, ax48, ax55, (by show vs3.length + 3 ≤ sizeLine; exact Nat.le_of_lt (small1000 (by omega))), fun x56 nx56 => ?_⟩
    have sx56 := same_upd (o := .lst (vs3 ++ [V.ref x50, V.ref x52, V.ref x54])) nx56
    have ex56 : x56 ≠ p := pool_ne hp nx56
    have ax56 := upd_same (H := Hx55) (a := x56) (o := .lst (vs3 ++ [V.ref x50, V.ref x52, V.ref x54]))
    generalize upd Hx55 x56 (.lst (vs3 ++ [V.ref x50, V.ref x52, V.ref x54])) = Hx56 at sx56 ax56 ⊢
    have tm4 := tm3.app tl4
    have nm4 : ∀ x ∈ (gs3 ++ [(G.tup [(G.str "round"), (G.int (-1)), (G.int 2), (G.tup [(G.str "rest")])]), (G.tup [(G.str "round"), (G.int 13), G.non, (G.tup [(G.str "rest")])]), (G.tup [(G.str "round"), (G.bl true), (G.int 2), (G.tup [(G.str "rest")])])]), Nc x 16 500 := fun x hx => (List.mem_append.mp hx).elim (nm3 x) (nl4 x)
    replace hp := hp.same sx56
    replace k0 := k0.trans (Kept.same sx56)
    replace tm4 := tm4.keep (Keeps.same (p := p) sx56)
    have ln4 : (vs3 ++ [V.ref x50, V.ref x52, V.ref x54]).length = 26 := by rw [List.length_append, ln3]; rfl
    generalize (vs3 ++ [V.ref x50, V.ref x52, V.ref x54]) = vs4 at ax56 tm4 ln4 ⊢
    generalize (gs3 ++ [(G.tup [(G.str "round"), (G.int (-1)), (G.int 2), (G.tup [(G.str "rest")])]), (G.tup [(G.str "round"), (G.int 13), G.non, (G.tup [(G.str "rest")])]), (G.tup [(G.str "round"), (G.bl true), (G.int 2), (G.tup [(G.str "rest")])])]) = gs4 at tm4 nm4
    refine ⟨_, rfl, (by show 3 ≤ sizeLine; decide), fun x57 Hx57 sx57 nx57 px57 => ?_⟩
    have ax57 : T2 Hx57 x57 [V.str "round", V.int 0, V.int 1] := .inl px57
    replace hp := hp.same sx57
    replace k0 := k0.trans (Kept.same sx57)
    replace tm4 := tm4.keep (Keeps.same (p := p) sx57)
    replace ax56 := sx57 _ _ ax56
    refine ⟨(by show 1 ≤ sizeLine; decide), fun x58 Hx58 sx58 nx58 px58 => ?_⟩
    have ax58 : T2 Hx58 x58 [V.str "rest"] := .inl px58
    replace hp := hp.same sx58
    replace k0 := k0.trans (Kept.same sx58)
    replace tm4 := tm4.keep (Keeps.same (p := p) sx58)
    replace ax56 := sx58 _ _ ax56
    replace ax57 := ax57.same sx58
    refine ⟨(by show 4 ≤ sizeLine; decide), fun x59 Hx59 sx59 nx59 px59 => ?_⟩
    have ax59 : T2 Hx59 x59 [V.str "round", V.int 0, V.str "1", V.ref x58] := .inl px59
    replace hp := hp.same sx59
    replace k0 := k0.trans (Kept.same sx59)
    replace tm4 := tm4.keep (Keeps.same (p := p) sx59)
    replace ax56 := sx59 _ _ ax56
    replace ax57 := ax57.same sx59
    replace ax58 := ax58.same sx59
    refine ⟨_, rfl, (by show 2 ≤ sizeLine; decide), fun x60 Hx60 sx60 nx60 px60 => ?_⟩
    have ax60 : T2 Hx60 x60 [V.str "call", V.str own] := .inl px60
    replace hp := hp.same sx60
    replace k0 := k0.trans (Kept.same sx60)
    replace tm4 := tm4.keep (Keeps.same (p := p) sx60)
    replace ax56 := sx60 _ _ ax56
    replace ax57 := ax57.same sx60
    replace ax58 := ax58.same sx60
    replace ax59 := ax59.same sx60
    refine ⟨(by show 2 ≤ sizeLine; decide), fun x61 Hx61 sx61 nx61 px61 => ?_⟩
    have ax61 : T2 Hx61 x61 [V.str "call", V.str "nobody"] := .inl px61
    replace hp := hp.same sx61
    replace k0 := k0.trans (Kept.same sx61)
    replace tm4 := tm4.keep (Keeps.same (p := p) sx61)
    replace ax56 := sx61 _ _ ax56
    replace ax57 := ax57.same sx61
    replace ax58 := ax58.same sx61
    replace ax59 := ax59.same sx61
    replace ax60 := ax60.same sx61
    refine ⟨(by show 2 ≤ sizeLine; decide), fun x62 Hx62 sx62 nx62 px62 => ?_⟩
    have ax62 : T2 Hx62 x62 [V.str "call", V.str ""] := .inl px62
    replace hp := hp.same sx62
    replace k0 := k0.trans (Kept.same sx62)
    replace tm4 := tm4.keep (Keeps.same (p := p) sx62)
    replace ax56 := sx62 _ _ ax56
    replace ax57 := ax57.same sx62
    replace ax58 := ax58.same sx62
    replace ax59 := ax59.same sx62
    replace ax60 := ax60.same sx62
    replace ax61 := ax61.same sx62
    refine ⟨(by show 5 ≤ sizeLine; decide), fun x63 nx63 => ?_⟩
    have sx63 := same_upd (o := .lst [V.ref x57, V.ref x59, V.ref x60, V.ref x61, V.ref x62]) nx63
    have ex63 : x63 ≠ p := pool_ne hp nx63
    have ax63 := upd_same (H := Hx62) (a := x63) (o := .lst [V.ref x57, V.ref x59, V.ref x60, V.ref x61, V.ref x62])
    generalize upd Hx62 x63 (.lst [V.ref x57, V.ref x59, V.ref x60, V.ref x61, V.ref x62]) = Hx63 at sx63 ax63 ⊢
    replace hp := hp.same sx63
    replace k0 := k0.trans (Kept.same sx63)
    replace tm4 := tm4.keep (Keeps.same (p := p) sx63)
    replace ax56 := sx63 _ _ ax56
    replace ax57 := ax57.same sx63
    replace ax58 := ax58.same sx63
    replace ax59 := ax59.same sx63
    replace ax60 := ax60.same sx63
    replace ax61 := ax61.same sx63
    replace ax62 := ax62.same sx63
    have tl5 : TgL p Hx63 [V.ref x57, V.ref x59, V.ref x60, V.ref x61, V.ref x62] [(G.tup [(G.str "round"), (G.int 0), (G.int 1)]), (G.tup [(G.str "round"), (G.int 0), (G.str "1"), (G.tup [(G.str "rest")])]), (G.tup [(G.str "call"), (G.str own)]), (G.tup [(G.str "call"), (G.str "nobody")]), (G.tup [(G.str "call"), (G.str "")])] := (.cons (.tup ax57 (.cons (.str _) (.cons (.int _) (.cons (.int _) .nil)))) (.cons (.tup ax59 (.cons (.str _) (.cons (.int _) (.cons (.str _) (.cons (.tup ax58 (.cons (.str _) .nil)) .nil))))) (.cons (.tup ax60 (.cons (.str _) (.cons (.str _) .nil))) (.cons (.tup ax61 (.cons (.str _) (.cons (.str _) .nil))) (.cons (.tup ax62 (.cons (.str _) (.cons (.str _) .nil))) .nil)))))
    have nl5 : ∀ x ∈ ([(G.tup [(G.str "round"), (G.int 0), (G.int 1)]), (G.tup [(G.str "round"), (G.int 0), (G.str "1"), (G.tup [(G.str "rest")])]), (G.tup [(G.str "call"), (G.str own)]), (G.tup [(G.str "call"), (G.str "nobody")]), (G.tup [(G.str "call"), (G.str "")])] : List G), Nc x 16 500 := by
      intro x hx
      simp only [List.mem_cons, List.not_mem_nil, or_false] at hx
      rcases hx with rfl | rfl | rfl | rfl | rfl
      · exact (Nc.tup (NcL.cons (n := 0) ((Nc.str (s := "round") (m := 5)).up (by decide) (Nat.le_refl _)) (NcL.cons (n := 0) ((Nc.int (i := 0)).up (by decide) (Nat.le_refl _)) (NcL.cons (n := 0) ((Nc.int (i := 1)).up (by decide) (Nat.le_refl _)) (NcL.nil (n := 0)))))).up (by decide) (by decide)
      · exact (Nc.tup (NcL.cons (n := 1) ((Nc.str (s := "round") (m := 5)).up (by decide) (Nat.le_refl _)) (NcL.cons (n := 1) ((Nc.int (i := 0)).up (by decide) (Nat.le_refl _)) (NcL.cons (n := 1) ((Nc.str (s := "1") (m := 1)).up (by decide) (Nat.le_refl _)) (NcL.cons (n := 1) ((Nc.tup (NcL.cons (n := 0) ((Nc.str (s := "rest") (m := 4)).up (by decide) (Nat.le_refl _)) (NcL.nil (n := 0)))).up (by decide) (Nat.le_refl _)) (NcL.nil (n := 1))))))).up (by decide) (by decide)
      · exact (Nc.tup (NcL.cons (n := 0) ((Nc.str (s := "call") (m := 4)).up (by decide) (Nat.le_refl _)) (NcL.cons (n := 0) ((Nc.str (s := own) ho.le.1 ho.le.2).up (by decide) (Nat.le_refl _)) (NcL.nil (n := 0))))).up (by decide) (by decide)
      · exact (Nc.tup (NcL.cons (n := 0) ((Nc.str (s := "call") (m := 4)).up (by decide) (Nat.le_refl _)) (NcL.cons (n := 0) ((Nc.str (s := "nobody") (m := 6)).up (by decide) (Nat.le_refl _)) (NcL.nil (n := 0))))).up (by decide) (by decide)
      · exact (Nc.tup (NcL.cons (n := 0) ((Nc.str (s := "call") (m := 4)).up (by decide) (Nat.le_refl _)) (NcL.cons (n := 0) ((Nc.str (s := "") (m := 0)).up (by decide) (Nat.le_refl _)) (NcL.nil (n := 0))))).up (by decide) (by decide)
    refine ⟨_, _, _, _, rfl, rfl, ax56, ax63, (by show vs4.length + 5 ≤ sizeLine; exact Nat.le_of_lt (small1000 (by omega))), fun x64 nx64 => ?_⟩
    have sx64 := same_upd (o := .lst (vs4 ++ [V.ref x57, V.ref x59, V.ref x60, V.ref x61, V.ref x62])) nx64
    have ex64 : x64 ≠ p := pool_ne hp nx64
    have ax64 := upd_same (H := Hx63) (a := x64) (o := .lst (vs4 ++ [V.ref x57, V.ref x59, V.ref x60, V.ref x61, V.ref x62]))
    generalize upd Hx63 x64 (.lst (vs4 ++ [V.ref x57, V.ref x59, V.ref x60, V.ref x61, V.ref x62])) = Hx64 at sx64 ax64 ⊢
    have tm5 := tm4.app tl5
    have nm5 : ∀ x ∈ (gs4 ++ [(G.tup [(G.str "round"), (G.int 0), (G.int 1)]), (G.tup [(G.str "round"), (G.int 0), (G.str "1"), (G.tup [(G.str "rest")])]), (G.tup [(G.str "call"), (G.str own)]), (G.tup [(G.str "call"), (G.str "nobody")]), (G.tup [(G.str "call"), (G.str "")])]), Nc x 16 500 := fun x hx => (List.mem_append.mp hx).elim (nm4 x) (nl5 x)
    replace hp := hp.same sx64
    replace k0 := k0.trans (Kept.same sx64)
    replace tm5 := tm5.keep (Keeps.same (p := p) sx64)
    have ln5 : (vs4 ++ [V.ref x57, V.ref x59, V.ref x60, V.ref x61, V.ref x62]).length = 31 := by rw [List.length_append, ln4]; rfl
    generalize (vs4 ++ [V.ref x57, V.ref x59, V.ref x60, V.ref x61, V.ref x62]) = vs5 at ax64 tm5 ln5 ⊢
    generalize (gs4 ++ [(G.tup [(G.str "round"), (G.int 0), (G.int 1)]), (G.tup [(G.str "round"), (G.int 0), (G.str "1"), (G.tup [(G.str "rest")])]), (G.tup [(G.str "call"), (G.str own)]), (G.tup [(G.str "call"), (G.str "nobody")]), (G.tup [(G.str "call"), (G.str "")])]) = gs5 at tm5 nm5
    refine ⟨_, rfl, (by show 1 ≤ sizeLine; decide), fun x65 Hx65 sx65 nx65 px65 => ?_⟩
    have ax65 : T2 Hx65 x65 [V.str "rest"] := .inl px65
    replace hp := hp.same sx65
    replace k0 := k0.trans (Kept.same sx65)
    replace tm5 := tm5.keep (Keeps.same (p := p) sx65)
    replace ax64 := sx65 _ _ ax64
    refine ⟨(by show 1 ≤ sizeLine; decide), fun x66 Hx66 sx66 nx66 px66 => ?_⟩
    have ax66 : T2 Hx66 x66 [V.ref x65] := .inl px66
    replace hp := hp.same sx66
    replace k0 := k0.trans (Kept.same sx66)
    replace tm5 := tm5.keep (Keeps.same (p := p) sx66)
    replace ax64 := sx66 _ _ ax64
    replace ax65 := ax65.same sx66
    refine ⟨_, 8, _, rfl, rfl, ax66, List.cons_ne_nil _ _, by decide, by decide, (by show 1 ≤ 1000; decide), fun x67 Hx67 sx67 ax67 => ?_⟩
    replace hp := hp.same sx67
    replace k0 := k0.trans (Kept.same sx67)
    replace tm5 := tm5.keep (Keeps.same (p := p) sx67)
    replace ax64 := sx67 _ _ ax64
    replace ax65 := ax65.same sx67
    replace ax66 := ax66.same sx67
    refine ⟨(by show 2 ≤ sizeLine; decide), fun x68 Hx68 sx68 nx68 px68 => ?_⟩
    have ax68 : T2 Hx68 x68 [V.str "then", V.ref x67] := .inl px68
    replace hp := hp.same sx68
    replace k0 := k0.trans (Kept.same sx68)
    replace tm5 := tm5.keep (Keeps.same (p := p) sx68)
    replace ax64 := sx68 _ _ ax64
    replace ax65 := ax65.same sx68
    replace ax66 := ax66.same sx68
    replace ax67 := ax67.same sx68
    refine ⟨(by show 1 ≤ sizeLine; decide), fun x69 Hx69 sx69 nx69 px69 => ?_⟩
    have ax69 : T2 Hx69 x69 [V.str "rest"] := .inl px69
    replace hp := hp.same sx69
    replace k0 := k0.trans (Kept.same sx69)
    replace tm5 := tm5.keep (Keeps.same (p := p) sx69)
    replace ax64 := sx69 _ _ ax64
    replace ax65 := ax65.same sx69
    replace ax66 := ax66.same sx69
    replace ax67 := ax67.same sx69
    replace ax68 := ax68.same sx69
    refine ⟨(by show 1 ≤ sizeLine; decide), fun x70 Hx70 sx70 nx70 px70 => ?_⟩
    have ax70 : T2 Hx70 x70 [V.ref x69] := .inl px70
    replace hp := hp.same sx70
    replace k0 := k0.trans (Kept.same sx70)
    replace tm5 := tm5.keep (Keeps.same (p := p) sx70)
    replace ax64 := sx70 _ _ ax64
    replace ax65 := ax65.same sx70
    replace ax66 := ax66.same sx70
    replace ax67 := ax67.same sx70
    replace ax68 := ax68.same sx70
    replace ax69 := ax69.same sx70
    refine ⟨_, 6, _, rfl, rfl, ax70, List.cons_ne_nil _ _, by decide, by decide, (by show 1 ≤ 1000; decide), fun x71 Hx71 sx71 ax71 => ?_⟩
    replace hp := hp.same sx71
    replace k0 := k0.trans (Kept.same sx71)
    replace tm5 := tm5.keep (Keeps.same (p := p) sx71)
    replace ax64 := sx71 _ _ ax64
    replace ax65 := ax65.same sx71
    replace ax66 := ax66.same sx71
    replace ax67 := ax67.same sx71
    replace ax68 := ax68.same sx71
    replace ax69 := ax69.same sx71
    replace ax70 := ax70.same sx71
    refine ⟨(by show 2 ≤ sizeLine; decide), fun x72 Hx72 sx72 nx72 px72 => ?_⟩
    have ax72 : T2 Hx72 x72 [V.str "fork", V.ref x71] := .inl px72
    replace hp := hp.same sx72
    replace k0 := k0.trans (Kept.same sx72)
    replace tm5 := tm5.keep (Keeps.same (p := p) sx72)
    replace ax64 := sx72 _ _ ax64
    replace ax65 := ax65.same sx72
    replace ax66 := ax66.same sx72
    replace ax67 := ax67.same sx72
    replace ax68 := ax68.same sx72
    replace ax69 := ax69.same sx72
    replace ax70 := ax70.same sx72
    replace ax71 := ax71.same sx72
    refine ⟨(by show 1 ≤ sizeLine; decide), fun x73 Hx73 sx73 nx73 px73 => ?_⟩
    have ax73 : T2 Hx73 x73 [V.str "rest"] := .inl px73
    replace hp := hp.same sx73
    replace k0 := k0.trans (Kept.same sx73)
    replace tm5 := tm5.keep (Keeps.same (p := p) sx73)
    replace ax64 := sx73 _ _ ax64
    replace ax65 := ax65.same sx73
    replace ax66 := ax66.same sx73
    replace ax67 := ax67.same sx73
    replace ax68 := ax68.same sx73
    replace ax69 := ax69.same sx73
    replace ax70 := ax70.same sx73
    replace ax71 := ax71.same sx73
    replace ax72 := ax72.same sx73
    refine ⟨(by show 4 ≤ sizeLine; decide), fun x74 Hx74 sx74 nx74 px74 => ?_⟩
    have ax74 : T2 Hx74 x74 [V.str "round", V.int 12, V.int 12, V.ref x73] := .inl px74
    replace hp := hp.same sx74
    replace k0 := k0.trans (Kept.same sx74)
    replace tm5 := tm5.keep (Keeps.same (p := p) sx74)
    replace ax64 := sx74 _ _ ax64
    replace ax65 := ax65.same sx74
    replace ax66 := ax66.same sx74
    replace ax67 := ax67.same sx74
    replace ax68 := ax68.same sx74
    replace ax69 := ax69.same sx74
    replace ax70 := ax70.same sx74
    replace ax71 := ax71.same sx74
    replace ax72 := ax72.same sx74
    replace ax73 := ax73.same sx74
    refine ⟨(by show 3 ≤ sizeLine; decide), fun x75 nx75 => ?_⟩
    have sx75 := same_upd (o := .lst [V.ref x68, V.ref x72, V.ref x74]) nx75
    have ex75 : x75 ≠ p := pool_ne hp nx75
    have ax75 := upd_same (H := Hx74) (a := x75) (o := .lst [V.ref x68, V.ref x72, V.ref x74])
    generalize upd Hx74 x75 (.lst [V.ref x68, V.ref x72, V.ref x74]) = Hx75 at sx75 ax75 ⊢
    replace hp := hp.same sx75
    replace k0 := k0.trans (Kept.same sx75)
    replace tm5 := tm5.keep (Keeps.same (p := p) sx75)
    replace ax64 := sx75 _ _ ax64
    replace ax65 := ax65.same sx75
    replace ax66 := ax66.same sx75
    replace ax67 := ax67.same sx75
    replace ax68 := ax68.same sx75
    replace ax69 := ax69.same sx75
    replace ax70 := ax70.same sx75
    replace ax71 := ax71.same sx75
    replace ax72 := ax72.same sx75
    replace ax73 := ax73.same sx75
    replace ax74 := ax74.same sx75
    have tl6 : TgL p Hx75 [V.ref x68, V.ref x72, V.ref x74] [(G.tup [(G.str "then"), (.tup (List.replicate (8 : Int).toNat [(G.tup [(G.str "rest")])]).flatten)]), (G.tup [(G.str "fork"), (.tup (List.replicate (6 : Int).toNat [(G.tup [(G.str "rest")])]).flatten)]), (G.tup [(G.str "round"), (G.int 12), (G.int 12), (G.tup [(G.str "rest")])])] := (.cons (.tup ax68 (.cons (.str _) (.cons (.tup ax67 (TgL.rep (.cons (.tup ax65 (.cons (.str _) .nil)) .nil) (8 : Int).toNat)) .nil))) (.cons (.tup ax72 (.cons (.str _) (.cons (.tup ax71 (TgL.rep (.cons (.tup ax69 (.cons (.str _) .nil)) .nil) (6 : Int).toNat)) .nil))) (.cons (.tup ax74 (.cons (.str _) (.cons (.int _) (.cons (.int _) (.cons (.tup ax73 (.cons (.str _) .nil)) .nil))))) .nil)))
    have nl6 : ∀ x ∈ ([(G.tup [(G.str "then"), (.tup (List.replicate (8 : Int).toNat [(G.tup [(G.str "rest")])]).flatten)]), (G.tup [(G.str "fork"), (.tup (List.replicate (6 : Int).toNat [(G.tup [(G.str "rest")])]).flatten)]), (G.tup [(G.str "round"), (G.int 12), (G.int 12), (G.tup [(G.str "rest")])])] : List G), Nc x 16 500 := by
      intro x hx
      simp only [List.mem_cons, List.not_mem_nil, or_false] at hx
      rcases hx with rfl | rfl | rfl
      · exact (Nc.tup (NcL.cons (n := 2) ((Nc.str (s := "then") (m := 4)).up (by decide) (Nat.le_refl _)) (NcL.cons (n := 2) ((Nc.tup (NcL.rep (NcL.cons (n := 1) ((Nc.tup (NcL.cons (n := 0) ((Nc.str (s := "rest") (m := 4)).up (by decide) (Nat.le_refl _)) (NcL.nil (n := 0)))).up (by decide) (Nat.le_refl _)) (NcL.nil (n := 1))) (8 : Int).toNat)).up (by decide) (Nat.le_refl _)) (NcL.nil (n := 2))))).up (by decide) (by decide)
      · exact (Nc.tup (NcL.cons (n := 2) ((Nc.str (s := "fork") (m := 4)).up (by decide) (Nat.le_refl _)) (NcL.cons (n := 2) ((Nc.tup (NcL.rep (NcL.cons (n := 1) ((Nc.tup (NcL.cons (n := 0) ((Nc.str (s := "rest") (m := 4)).up (by decide) (Nat.le_refl _)) (NcL.nil (n := 0)))).up (by decide) (Nat.le_refl _)) (NcL.nil (n := 1))) (6 : Int).toNat)).up (by decide) (Nat.le_refl _)) (NcL.nil (n := 2))))).up (by decide) (by decide)
      · exact (Nc.tup (NcL.cons (n := 1) ((Nc.str (s := "round") (m := 5)).up (by decide) (Nat.le_refl _)) (NcL.cons (n := 1) ((Nc.int (i := 12)).up (by decide) (Nat.le_refl _)) (NcL.cons (n := 1) ((Nc.int (i := 12)).up (by decide) (Nat.le_refl _)) (NcL.cons (n := 1) ((Nc.tup (NcL.cons (n := 0) ((Nc.str (s := "rest") (m := 4)).up (by decide) (Nat.le_refl _)) (NcL.nil (n := 0)))).up (by decide) (Nat.le_refl _)) (NcL.nil (n := 1))))))).up (by decide) (by decide)
    refine ⟨_, _, _, _, rfl, rfl, ax64, ax75, (by show vs5.length + 3 ≤ sizeLine; exact Nat.le_of_lt (small1000 (by omega))), fun x76 nx76 => ?_⟩
    have sx76 := same_upd (o := .lst (vs5 ++ [V.ref x68, V.ref x72, V.ref x74])) nx76
    have ex76 : x76 ≠ p := pool_ne hp nx76
    have ax76 := upd_same (H := Hx75) (a := x76) (o := .lst (vs5 ++ [V.ref x68, V.ref x72, V.ref x74]))
    generalize upd Hx75 x76 (.lst (vs5 ++ [V.ref x68, V.ref x72, V.ref x74])) = Hx76 at sx76 ax76 ⊢
    have tm6 := tm5.app tl6
    have nm6 : ∀ x ∈ (gs5 ++ [(G.tup [(G.str "then"), (.tup (List.replicate (8 : Int).toNat [(G.tup [(G.str "rest")])]).flatten)]), (G.tup [(G.str "fork"), (.tup (List.replicate (6 : Int).toNat [(G.tup [(G.str "rest")])]).flatten)]), (G.tup [(G.str "round"), (G.int 12), (G.int 12), (G.tup [(G.str "rest")])])]), Nc x 16 500 := fun x hx => (List.mem_append.mp hx).elim (nm5 x) (nl6 x)
    replace hp := hp.same sx76
    replace k0 := k0.trans (Kept.same sx76)
    replace tm6 := tm6.keep (Keeps.same (p := p) sx76)
    have ln6 : (vs5 ++ [V.ref x68, V.ref x72, V.ref x74]).length = 34 := by rw [List.length_append, ln5]; rfl
    generalize (vs5 ++ [V.ref x68, V.ref x72, V.ref x74]) = vs6 at ax76 tm6 ln6 ⊢
    generalize (gs5 ++ [(G.tup [(G.str "then"), (.tup (List.replicate (8 : Int).toNat [(G.tup [(G.str "rest")])]).flatten)]), (G.tup [(G.str "fork"), (.tup (List.replicate (6 : Int).toNat [(G.tup [(G.str "rest")])]).flatten)]), (G.tup [(G.str "round"), (G.int 12), (G.int 12), (G.tup [(G.str "rest")])])]) = gs6 at tm6 nm6
    refine ⟨_, rfl, 3, rfl, by decide, by decide, fun D nD => ?_⟩
    have sD := same_upd (o := .lst []) nD
    have eDp : D ≠ p := pool_ne hp nD
    refine lc_range (lo := 0) (n := 3) (fun j HH => ∃ (ws : List V) (gs' : List G), HH D = some (.lst ws) ∧ TtL HH ws gs' ∧ gs'.length = j ∧ (∀ x ∈ gs', Nc x 16 500) ∧ PoolAt HH p ∧ Kept p Hx76 HH) ?_ ?_ ?_
    · exact ⟨[], [], upd_same, .nil, rfl, fun x hx => (List.not_mem_nil hx).elim, hp.same sD, Kept.same sD⟩
    · rintro j HH hj ⟨ws, gs', hD, tt, hl, nn, hpo, kk⟩
      refine ⟨rfl, tyes ?_⟩
      refine ⟨_, rfl, _, rfl, p, 2, rfl, hpo, by decide, by decide, fun r o r0 r1 po => ?_⟩
      have kp : Kept p HH (upd HH p o) := Kept.upd p HH o
      have k2 : K2 HH (upd HH p o) := K2.of kp hpo
      have hpo2 : PoolAt (upd HH p o) p := ⟨o, upd_same, po⟩
      have hD2 := kp _ _ hD eDp
      generalize upd HH p o = HI at kp k2 hpo2 hD2 ⊢
      refine ⟨_, _, rfl, rfl, 0 + (j : Int), 6 + r, rfl, by omega, by omega, by omega, by omega, fun v g' H3 s3 tv nv => ?_⟩
      have hD3 := s3 _ _ hD2
      have wl := tt.len
      have kz : K2 H3 (upd H3 D (.lst (ws ++ [v]))) := K2.lst hD3
      refine ⟨ws, hD3, small1000 (by omega), ws ++ [v], gs' ++ [g'], upd_same, TtL.snoc (tv.keep kz) (tt.keep ((k2.trans (K2.same s3)).trans kz)), by rw [List.length_append, hl]; rfl, fun x hx => ?_, PoolAt.upd (hpo2.same s3) eDp.symm, ?_⟩
      · rcases List.mem_append.mp hx with h | h
        · exact nn x h
        · rw [List.mem_singleton.mp h]
          exact nv
      · intro b o' eb nb
        rw [upd_ne (ne_of_none eb nD)]
        exact s3 _ _ (kp _ _ (kk _ _ eb nb) nb)
    · rintro HH ⟨ws, gs', hD, tt, hl, nn, hpo, kk⟩
      have wl := tt.len
      have ax := kk _ _ ax76 ex76
      refine ⟨_, _, _, _, rfl, rfl, ax, hD, Nat.le_of_lt (small1000 (by omega)), fun Z nZ => ?_⟩
      have sZ := same_upd (o := .lst (vs6 ++ ws)) nZ
      have eZp : Z ≠ p := pool_ne hpo nZ
      have hZ := upd_same (H := HH) (a := Z) (o := .lst (vs6 ++ ws))
      have tall := ((tm6.keep (Keeps.of kk hp)).app (tt.tg (p := p))).keep (Keeps.same (p := p) sZ)
      have nall : ∀ x ∈ gs6 ++ gs', Nc x 16 500 := fun x hx => (List.mem_append.mp hx).elim (nm6 x) (nn x)
      have hpZ := hpo.same sZ
      have kZ := kk.trans (Kept.same sZ)
      have lZ : (vs6 ++ ws).length = 37 := by rw [List.length_append, ln6]; omega
      generalize upd HH Z (.lst (vs6 ++ ws)) = H8 at sZ hZ tall hpZ kZ ⊢
      generalize vs6 ++ ws = us at hZ tall lZ
      generalize gs6 ++ gs' = hs at tall nall
      refine ⟨_, rfl, _, rfl, _, rfl, Z, _, rfl, .inl (SqL.of hZ), p, _, rfl, hpZ, by omega, by omega, fun r o r0 r1 po => ?_⟩
      obtain ⟨v, hv, ev⟩ := cons_nil_fin us.length rfl r0 r1
      have kp : Kept p H8 (upd H8 p o) := Kept.upd p H8 o
      refine ⟨Z, us, r, v, rfl, rfl, SqL.of (kp _ _ hZ eZp), ev, ?_⟩
      obtain ⟨i, hi, ei⟩ := List.getElem_of_mem hv
      obtain ⟨g', eg', tg'⟩ := tall.get (List.getElem?_eq_some_iff.mpr ⟨hi, ei⟩)
      exact q v g' _ ((k0.trans kZ).trans kp) ⟨o, upd_same, po⟩ (tg'.keep (Keeps.of kp hpZ)) (nall g' (List.mem_of_getElem? eg'))
end
end Su
/-! ### SL: a tuple so many times, its methods may be called -/
namespace Su
open PySem PySem.Spec PyProof.Rows L2
section
variable {X : Cx}
def rRepF : R2 := fun x y H Q => ∃ (a : Addr) (k : Int) (xs : List V), x = .ref a ∧ y = .int k ∧ PTup H a xs ∧ xs ≠ [] ∧ 0 ≤ k ∧ k ≤ 1000 ∧ xs.length ≤ 1000 ∧ ∀ v H', Same H H' → PTup H' v (List.replicate k.toNat xs).flatten → Q (.ref v) H'
theorem rep_flat_len {α : Type} (l : List α) : ∀ n : Nat, (List.replicate n l).flatten.length = n * l.length
  | 0 => by simp
  | n + 1 => by
    rw [List.replicate_succ, List.flatten_cons, List.length_append, rep_flat_len l n, Nat.add_mul, Nat.one_mul, Nat.add_comm]
theorem op_repF : OpR X (binaryOp .Mult) rRepF := by
  intro pins s σ H x y v u Q I rx ry h
  obtain ⟨a, k, xs, rfl, rfl, ha, ne, k0, k1, hl, q⟩ := h
  cases rx
  obtain ⟨t, rfl⟩ := ry
  obtain ⟨its, r, ⟨⟨cls, dv, data, sl⟩, ho, hc, n, hd⟩, hs⟩ := I.tuple (ha.sq (K := X.K))
  simp only at hc hd
  subst hc hd
  have le : its.length = xs.length := r.length.symm
  have pos : 0 < its.length := by
    rw [le]
    exact List.length_pos_iff.mpr ne
  have full : its.toArray.isEmpty = false := by
    cases its with
    | nil => simp at pos
    | cons _ _ => rfl
  have prod : k.toNat * xs.length ≤ 1000 * 1000 := Nat.mul_le_mul (by omega) hl
  have ty := fun (s' : Shared) => typeIs_int s' k t
  by_cases h2 : 2 ≤ k
  · have sz : its.toArray.size = its.length := List.size_toArray ..
    have small : ((its.toArray.size : Nat) : Int) * k ≤ 1000000 := by
      rw [sz, le]
      have z : ((xs.length : Nat) : Int) * k ≤ 1000 * k := Int.mul_le_mul_of_nonneg_right (by omega) k0
      omega
    have g0 : (decide (k < -(2 ^ 63)) || decide (k ≥ 2 ^ 63)) = false := by
      rw [Bool.or_eq_false_iff]
      exact ⟨decide_eq_false (by omega), decide_eq_false (by omega)⟩
    have g1 : (its.toArray.isEmpty || k == 1) = false := by
      rw [full]
      simpa using (by omega : ¬ k = 1)
    have g2 : (decide (k ≤ 0) || its.toArray.isEmpty) = false := by
      rw [full, Bool.or_false]
      exact decide_eq_false (by omega)
    have g4 : Builtin.Tuple.tupleTooMany (((its.toArray.size : Nat) : Int) * k) = false := by
      unfold Builtin.Tuple.tupleTooMany
      exact decide_eq_false (by rw [sizeLine_eq]; omega)
    have fl : (List.replicate k.toNat its).flatten.length ≤ sizeLine := by
      rw [rep_flat_len, le, sizeLine_eq]
      omega
    have M := tuple_mulW a its.toArray n dv sl k t g0 g1 g2 (by omega) g4 (by rw [size_rep, List.size_toArray]; exact fl)
    refine wpAny_binaryOp_repeat_ref (T := "tuple") (U := "int") (by decide) ⟨_, ho, rfl⟩ ty noFill_tuple_mul F.fills_int_mul F.slot_int_rmul repeat_tuple F.slot_int_index.lookup (call_meets F.slot_int_rmul (ty s) F.entry_int_rmul (F.args_int_rmul_2 _ _) (int_rmul_tuple k t a its.toArray n dv sl) ⟨ho, rfl, ⟨_, ho, rfl⟩, call_meets F.slot_tuple_mul ⟨_, ho, rfl⟩ F.entry_tuple_mul (F.args_tuple_mul_2 _ _) M ⟨ho, ?_⟩⟩)
    rw [size_rep]
    exact newF I (r.rep k.toNat) (by rw [rep_flat_len, sizeLine_eq]; omega) (fun v H' s' _ h => q v H' s' h) s.toks
  · have e : k = 0 ∨ k = 1 := by omega
    rcases e with rfl | rfl
    · refine wpAny_binaryOp_repeat_ref (T := "tuple") (U := "int") (by decide) ⟨_, ho, rfl⟩ ty noFill_tuple_mul F.fills_int_mul F.slot_int_rmul repeat_tuple F.slot_int_index.lookup (call_meets F.slot_int_rmul (ty s) F.entry_int_rmul (F.args_int_rmul_2 _ _) (int_rmul_tuple 0 t a its.toArray n dv sl) ⟨ho, rfl, ⟨_, ho, rfl⟩, call_meets F.slot_tuple_mul ⟨_, ho, rfl⟩ F.entry_tuple_mul (F.args_tuple_mul_2 _ _) (tuple_mul0 a its.toArray n dv sl t full) ⟨ho, ?_⟩⟩)
      exact newF I .nil (Nat.zero_le _) (fun v H' s' _ h => q v H' s' h) s.toks
    · refine wpAny_binaryOp_repeat_ref (T := "tuple") (U := "int") (by decide) ⟨_, ho, rfl⟩ ty noFill_tuple_mul F.fills_int_mul F.slot_int_rmul repeat_tuple F.slot_int_index.lookup (call_meets F.slot_int_rmul (ty s) F.entry_int_rmul (F.args_int_rmul_2 _ _) (int_rmul_tuple 1 t a its.toArray n dv sl) ⟨ho, rfl, ⟨_, ho, rfl⟩, call_meets F.slot_tuple_mul ⟨_, ho, rfl⟩ F.entry_tuple_mul (F.args_tuple_mul_2 _ _) (tuple_mul1 a its.toArray n dv sl t) ⟨ho, ?_⟩⟩)
      refine ⟨.ref a, H, I, rfl, q a H (Same.refl H) ?_⟩
      rw [show (List.replicate (1 : Int).toNat xs).flatten = xs from by simp]
      exact ha
end
end Su
/-! ### LN: programs that are bent -/
namespace Su
open PySem PySem.Spec PyProof.Rows L2
mutual
theorem gsz_le : ∀ g : G, gsz g ≤ (toD g).weight + 1
  | .non => Nat.le_add_left _ _
  | .bl _ => Nat.le_add_left _ _
  | .int _ => Nat.le_add_left _ _
  | .str _ => Nat.le_add_left _ _
  | .dct => Nat.le_add_left _ _
  | .lst l => by
    have z := gszs_le l
    simp only [gsz, toD, PyData.weight]
    omega
  | .tup l => by
    have z := gszs_le l
    simp only [gsz, toD, PyData.weight]
    omega
theorem gszs_le : ∀ gs : List G, gszs gs ≤ PyData.weightAll (toDs gs)
  | [] => Nat.zero_le _
  | g :: gs => by
    have z := gsz_le g
    have z2 := gszs_le gs
    simp only [gszs, toDs, PyData.weightAll]
    omega
end
/-- what may stand in a program's stead -/
structure ElP (x : G) : Prop where
  fl : Flat x
  os : okS x = true
  fz : Fz x 24 6500
  pr : ∀ a b, x = .tup [a, b] → OkT a ∧ OkT b ∧ gsz b ≤ 100000
structure ThP (g : G) : Prop where
  sw : Shw g
  os : okS g = true
  el : ∀ gs, g = .lst gs → gs.length ≤ 60 ∧ ∀ x ∈ gs, ElP x
theorem ThP.du {g : G} (h : ThP g) : DueP g := fun gs e x hx a b ex => ((h.el gs e).2 x hx).pr a b ex
theorem ElP.nc {x : G} {n m : Nat} (h : Nc x n m) (hn : n ≤ 24) (hm : m ≤ 6500) : ElP x := by
  refine ⟨.inl h.ok, h.st, h.fz.up hn hm, fun a b e => ?_⟩
  subst e
  have ok := h.okT (by omega)
  refine ⟨ok.mem (by simp), ok.mem (by simp), ?_⟩
  have z := gsz_le (.tup [a, b])
  have z2 := h.fz.wt
  simp only [gsz, gszs] at z
  omega
theorem ElP.dct : ElP .dct := ⟨.inr rfl, rfl, Fz.dct.up (by decide) (by decide), fun a b e => by cases e⟩
theorem thP_list {gs : List G} (h : ∀ x ∈ gs, ElP x) (hl : gs.length ≤ 60) : ThP (.lst gs) := by
  refine ⟨⟨(Fz.lst (FzL.all fun x hx => (h x hx).fz)).up (by decide) (by omega), .inr ⟨gs, rfl, fun x hx => (h x hx).fl⟩⟩, ?_, fun gs' e => ?_⟩
  · show okSs gs = true
    exact okSs_of fun x hx => (h x hx).os
  · injection e with e
    subst e
    exact ⟨hl, h⟩
theorem thP_nc {g : G} {n m : Nat} (h : Nc g n m) (hn : n ≤ 40) (hm : m ≤ 500000) (nl : ∀ gs, g ≠ .lst gs) : ThP g := ⟨⟨h.fz.up hn hm, .inl (.inl h.ok)⟩, h.st, fun gs e => absurd e (nl gs)⟩
theorem thP_dct : ThP .dct := ⟨⟨Fz.dct.up (by decide) (by decide), .inl (.inr rfl)⟩, rfl, fun gs e => by cases e⟩
/-- a pair of a program -/
def pT (q : Str × G) : G := .tup [.str q.1, q.2]
structure PrF (q : Str × G) : Prop where
  nm : NameOk q.1
  nc : Nc q.2 8 5300
theorem PrF.pair {q : Str × G} (h : PrF q) : Nc (pT q) 9 5308 := (Nc.tup (NcL.cons (n := 8) ((Nc.str h.nm.le.1 h.nm.le.2).up (by decide) (Nat.le_refl _)) (NcL.cons h.nc NcL.nil))).up (by decide) (by decide)
theorem PrF.el {q : Str × G} (h : PrF q) : ElP (pT q) := ElP.nc h.pair (by decide) (by decide)
theorem TgL.take {p : Addr} {H : Hp} : ∀ {vs : List V} {gs : List G} (n : Nat), TgL p H vs gs → TgL p H (vs.take n) (gs.take n)
  | _, _, 0, _ => by
    rw [List.take_zero, List.take_zero]
    exact .nil
  | _, _, n + 1, .nil => .nil
  | _, _, n + 1, .cons h t => .cons h (TgL.take n t)
theorem TgL.rev {p : Addr} {H : Hp} : ∀ {vs : List V} {gs : List G}, TgL p H vs gs → TgL p H vs.reverse gs.reverse
  | _, _, .nil => .nil
  | _, _, .cons h t => by
    rw [List.reverse_cons, List.reverse_cons]
    exact (TgL.rev t).snoc h
theorem zz_nc {c : Nat} (h : c < 1000) : Nc (.str ("zz" ++ (⟨#[c]⟩ : Str))) 0 3 := by
  have e : ("zz" ++ (⟨#[c]⟩ : Str)).cps = ("zz" : Str).cps ++ #[c] := rfl
  refine Nc.str ?_ ?_
  · rw [e, Array.size_append]
    show 2 + 1 ≤ 3
    decide
  · rw [e, Array.toList_append]
    intro x hx
    rcases List.mem_append.mp hx with z | z
    · exact (by decide +kernel : ∀ x ∈ ("zz" : Str).cps.toList, x < 1000) x z
    · rw [List.mem_singleton.mp z]
      exact h
theorem tg_pair {p : Addr} {H : Hp} {v : V} {q : Str × G} (h : Tg p H v (pT q)) : ∃ a u, v = .ref a ∧ T2 H a [.str q.1, u] ∧ Tg p H u q.2 := by
  cases h with
  | @tup a vs _ e t => cases t with
    | cons h1 t => cases t with
      | cons h2 t =>
        cases t
        cases h1
        exact ⟨a, _, rfl, e, h2⟩
def spBentP : Sp := fun vs H Q _ => ∃ (p W : Addr) (ws : List V) (qs : List (Str × G)), vs = [.ref p, .ref W] ∧ PoolAt H p ∧ W ≠ p ∧ H W = some (.lst ws) ∧ TgL p H ws (qs.map pT) ∧ (∀ q ∈ qs, PrF q) ∧ 1 ≤ qs.length ∧ qs.length ≤ 6 ∧ ∀ (v : V) (H' : Hp) (g : G), Kept p H H' → PoolAt H' p → Tg p H' v g → ThP g → Q v H'
theorem sc_law_bent : FnScope ["_law_pool_here", "_law_program_here", "_law_at", "_law_name", "_law_term_here", "_law_odd", "_law_way", "_law_one", "_law_k"] ["_law_pool_here", "_law_program_here"] (defScope s_law_bent) := ⟨rfl, rfl, rfl, by decide +kernel, rfl, by decide +kernel, by decide +kernel⟩
section
variable {P : Program} {w : World} {K : PySem.W.Frag} {mg : Str → Option Value} {base : Heap}
theorem ok_bent (T : At K mg "_law_bent" s_law_bent ["_law_pool_here", "_law_program_here"]) (B : Bt mg) (c_take : Cal P w K mg base 1 "_law_take" ["_law_pool_here", "_law_many"] spTake) (c_odd_term : Cal P w K mg base 2 "_law_odd_term" ["_law_pool_here", "_law_own"] spOddTerm) :
    Cal P w K mg base 3 "_law_bent" ["_law_pool_here", "_law_program_here"] spBentP := by
  refine cal_of T sc_law_bent (fun vs H Q E h => ?_) (fun f cdv A outer s H vs Q E hr h => ?_)
  · obtain ⟨p, W, ws, qs, rfl, _⟩ := h
    rfl
  · obtain ⟨p, W, ws, qs, rfl, hp, eWp, hW, tW, pf, l1, l6, q⟩ := h
    refine ⟨_, (pss_cons (ps_set (i := 2) sc_law_bent.nd rfl (Or.inl rfl) (pe_own c_take hr (by decide) (by rfl) (pa_cons (pv 0) (pa_cons (pe_callB call_len_seq (by rfl) B.len PySem.boot_len (pa_cons (pv 1) pa_nil)) pa_nil))))
      (pss_cons (ps_asg (pe_ix ix_list (pv 1) (pv 2) (fun _ _ => rfl)) (pg_tup (by rfl) (pgs_cons (pg_name (i := 3) sc_law_bent.nd rfl (Or.inl rfl)) (pgs_cons (pg_name (i := 4) sc_law_bent.nd rfl (Or.inl rfl)) pgs_nil))))
      (pss_cons (ps_set (i := 5) sc_law_bent.nd rfl (Or.inl rfl) (pe_own c_odd_term hr (by decide) (by rfl) (pa_cons (pv 0) (pa_cons (pe_ix ix_tup (pe_ix ix_list (pv 1) pe_int (fun _ _ => rfl)) pe_int (fun _ _ => rfl)) pa_nil))))
      (pss_cons (ps_set (i := 6) sc_law_bent.nd rfl (Or.inl rfl) (pe_own c_take hr (by decide) (by rfl) (pa_cons (pv 0) (pa_cons pe_int pa_nil))))
      (pss_cons (ps_if (pt_cmpR op_lt (pv 6) pe_int (nomark _)) (pss_cons (ps_set (i := 7) sc_law_bent.nd rfl (Or.inl rfl) (pe_ix ix_list (pe_lst (pa_cons (pv 5) (pa_cons (pe_tupF (pa_cons pe_str (pa_cons (pe_tupF (pa_cons (pv 4) (pa_cons (pv 5) pa_nil))) pa_nil))) (pa_cons (pe_tupF (pa_cons pe_str (pa_cons pe_int (pa_cons pe_non (pa_cons (pv 5) pa_nil))))) pa_nil)))) (pv 6) (fun _ _ => rfl)))
      (pss_one (ps_ret (pe_op op_cat (pe_op op_cat (pe_slice sl_list (pv 1) po_none (po_some (pv 2))) (pe_lst (pa_cons (pe_tupF (pa_cons (pv 3) (pa_cons (pv 7) pa_nil))) pa_nil))) (pe_slice sl_list (pv 1) (po_some (pe_op op_add (pv 2) pe_int)) po_none))))) pss_nil)
      (pss_cons (ps_if (pt_cmpR op_eq (pv 6) pe_int (nomark _)) (pss_cons (ps_set (i := 7) sc_law_bent.nd rfl (Or.inl rfl) (pe_ix ix_list (pe_lst (pa_cons pe_str (pa_cons pe_str (pa_cons pe_str (pa_cons pe_non (pa_cons pe_int (pa_cons pe_str (pa_cons (pe_ix ix_tup (pe_ix ix_list (pv 1) pe_int (fun _ _ => rfl)) pe_int (fun _ _ => rfl)) (pa_cons (pe_tupF (pa_cons pe_str pa_nil)) pa_nil))))))))) (pe_own c_take hr (by decide) (by rfl) (pa_cons (pv 0) (pa_cons pe_int pa_nil))) (fun _ _ => rfl)))
      (pss_one (ps_ret (pe_op op_cat (pe_op op_cat (pe_slice sl_list (pv 1) po_none (po_some (pv 2))) (pe_lst (pa_cons (pe_tupF (pa_cons (pv 7) (pa_cons (pv 4) pa_nil))) pa_nil))) (pe_slice sl_list (pv 1) (po_some (pe_op op_add (pv 2) pe_int)) po_none))))) pss_nil)
      (pss_cons (ps_if (pt_cmpR op_eq (pv 6) pe_int (nomark _)) (pss_cons (ps_set (i := 7) sc_law_bent.nd rfl (Or.inl rfl) (pe_ix ix_list (pe_lst (pa_cons pe_non (pa_cons (pe_lst (pa_cons (pv 3) (pa_cons (pv 4) pa_nil))) (pa_cons (pe_tupF (pa_cons (pv 3) pa_nil)) (pa_cons (pe_tupF (pa_cons (pv 3) (pa_cons (pv 4) (pa_cons pe_int pa_nil)))) (pa_cons (pv 3) (pa_cons pe_dnewK (pa_cons (pe_tupF pa_nil) (pa_cons pe_int pa_nil))))))))) (pe_own c_take hr (by decide) (by rfl) (pa_cons (pv 0) (pa_cons pe_int pa_nil))) (fun _ _ => rfl)))
      (pss_one (ps_ret (pe_op op_cat (pe_op op_cat (pe_slice sl_list (pv 1) po_none (po_some (pv 2))) (pe_lst (pa_cons (pv 7) pa_nil))) (pe_slice sl_list (pv 1) (po_some (pe_op op_add (pv 2) pe_int)) po_none))))) pss_nil)
      (pss_cons (ps_if (pt_cmpR op_eq (pv 6) pe_int (nomark _)) (pss_one (ps_ret (pe_revL (pv 1)))) pss_nil)
      (pss_cons (ps_if (pt_cmpR op_eq (pv 6) pe_int (nomark _)) (pss_one (ps_ret (pe_ix ix_list (pe_lst (pa_cons pe_non (pa_cons (pe_callTy call_tupleF (by rfl) B.tuple (by decide +kernel) (pa_cons (pv 1) pa_nil)) (pa_cons (pe_lst pa_nil) (pa_cons pe_dnewK (pa_cons pe_str (pa_cons (pe_op op_rep (pv 1) pe_int) (pa_cons (pe_op op_cat (pv 1) (pv 1)) (pa_cons pe_int pa_nil))))))))) (pe_own c_take hr (by decide) (by rfl) (pa_cons (pv 0) (pa_cons pe_int pa_nil))) (fun _ _ => rfl)))) pss_nil)
      (pss_one (ps_ret (pe_op op_cat (pv 1) (pe_lc (own := [("_law_k", 8)]) (g := (gName 8)) (tt := tYes) (te := (tTupF (tCons _ (tCons (tTupF (tCons (tC (.str "rest")) tNil)) tNil)))) (by rfl) sc_law_bent.nd (pi_range1 (by rfl) B.range (pa_cons (pe_own c_take hr (by decide) (by rfl) (pa_cons (pv 0) (pa_cons pe_int pa_nil))) pa_nil)) (blkOk_by (own := [("_law_k", 8)]) (N := ["_law_pool_here", "_law_program_here", "_law_at", "_law_name", "_law_term_here", "_law_odd", "_law_way", "_law_one", "_law_k"]) (sc := defScope s_law_bent) (by decide +kernel)) (fun _ _ _ _ _ => (pg_name (i := 8) sc_law_bent.nd rfl (Or.inl rfl))) (fun _ _ _ _ _ => pts_nil) (fun _ _ _ _ _ => (pe_tupF (pa_cons (pe_op op_add_str pe_str (pe_ix ix_str pe_str (pv 8) (fun _ _ => rfl))) (pa_cons (pe_tupF (pa_cons pe_str pa_nil)) pa_nil))))))))))))))))), ?_⟩
    have hwl : ws.length = qs.length := by rw [tW.len, List.length_map]
    have eW : ∀ x ∈ qs.map pT, ElP x := fun x hx => by
      obtain ⟨y, hy, rfl⟩ := List.mem_map.mp hx
      exact (pf y hy).el
    refine ⟨_, rfl, _, rfl, W, _, rfl, .inl (SqL.of hW), p, _, rfl, hp, by omega, by omega, fun r o r0 r1 po => ?_⟩
    have k0 : Kept p H (upd H p o) := Kept.upd p H o
    replace tW := tW.keep (Keeps.of k0 hp)
    replace hp : PoolAt (upd H p o) p := ⟨o, upd_same, po⟩
    replace hW := k0 _ _ hW eWp
    generalize upd H p o = H1 at k0 tW hp hW ⊢
    obtain ⟨n, rfl⟩ : ∃ n : Nat, r = (n : Int) := ⟨r.toNat, by omega⟩
    have hn : n < ws.length := by omega
    have hx : ws[n]? = some ws[n] := List.getElem?_eq_getElem hn
    obtain ⟨gx, egx, tgx⟩ := tW.get hx
    rw [List.getElem?_map] at egx
    obtain ⟨⟨nm, tn⟩, eq, rfl⟩ := Option.map_eq_some_iff.mp egx
    have pfx := pf _ (List.mem_of_getElem? eq)
    obtain ⟨a, tv, ea, ha, tT⟩ := tg_pair tgx
    refine ⟨_, rfl, _, rfl, W, ws, _, _, rfl, rfl, SqL.of hW, atI_nat (by rw [hx, ea]), ?_⟩
    refine ⟨a, _, rfl, ha.sq, rfl, _, _, rfl, _, _, rfl, rfl, ?_⟩
    have h0 : 0 < ws.length := by omega
    have hx0 : ws[0]? = some ws[0] := List.getElem?_eq_getElem h0
    obtain ⟨g0, eg0, tg0⟩ := tW.get hx0
    rw [List.getElem?_map] at eg0
    obtain ⟨⟨nm0, tn0⟩, eq0, rfl⟩ := Option.map_eq_some_iff.mp eg0
    have pf0 := pf _ (List.mem_of_getElem? eq0)
    obtain ⟨a0, tv0, ea0, ha0, _⟩ := tg_pair tg0
    have ix0 : ws[0]? = some (.ref a0) := by rw [hx0, ea0]
    refine ⟨_, rfl, _, rfl, W, ws, _, _, rfl, rfl, SqL.of hW, atI_nat ix0, _, _, _, _, rfl, rfl, ha0.sq, atI_nat (j := 0) rfl, p, nm0, rfl, hp, pf0.nm, fun ov og H2 k2 hp2 tO nO => ?_⟩
    replace tW := tW.keep (Keeps.of k2 hp)
    replace tT := tT.keep (Keeps.of k2 hp)
    replace ha0 := K2.of k2 hp _ _ ha0
    replace hW := k2 _ _ hW eWp
    replace k0 := k0.trans k2
    replace hp := hp2
    refine ⟨_, rfl, p, 8, rfl, hp, by decide, by decide, fun wy o2 w0 w1 po2 => ?_⟩
    have k3 : Kept p H2 (upd H2 p o2) := Kept.upd p H2 o2
    replace tW := tW.keep (Keeps.of k3 hp)
    replace tT := tT.keep (Keeps.of k3 hp)
    replace tO := tO.keep (Keeps.of k3 hp)
    replace ha0 := K2.of k3 hp _ _ ha0
    replace hW := k3 _ _ hW eWp
    replace k0 := k0.trans k3
    replace hp : PoolAt (upd H2 p o2) p := ⟨o2, upd_same, po2⟩
    generalize upd H2 p o2 = H3 at tW tT tO ha0 hW k0 hp ⊢
    have nT : Nc tn 8 5300 := pfx.nc
    have hnl : qs.length = ws.length := hwl.symm
    refine ⟨_, rfl, _, _, rfl, rfl, _, rfl, iteB (fun z1 => ?_) (fun z1 => ?_)⟩
    · have w3 : wy < 3 := of_decide_eq_true z1
      refine ⟨_, rfl, _, rfl, _, rfl, (by show 2 ≤ sizeLine; decide), fun x1 Hx1 sx1 nx1 px1 => ?_⟩
      have ax1 : T2 Hx1 x1 [tv, ov] := .inl px1
      replace hp := hp.same sx1
      replace k0 := k0.trans (Kept.same sx1)
      replace hW := sx1 _ _ hW
      replace tW := tW.keep (Keeps.same (p := p) sx1)
      replace tT := tT.keep (Keeps.same (p := p) sx1)
      replace tO := tO.keep (Keeps.same (p := p) sx1)
      replace ha0 := ha0.same sx1
      refine ⟨(by show 2 ≤ sizeLine; decide), fun x2 Hx2 sx2 nx2 px2 => ?_⟩
      have ax2 : T2 Hx2 x2 [V.str "then", V.ref x1] := .inl px2
      replace hp := hp.same sx2
      replace k0 := k0.trans (Kept.same sx2)
      replace hW := sx2 _ _ hW
      replace tW := tW.keep (Keeps.same (p := p) sx2)
      replace tT := tT.keep (Keeps.same (p := p) sx2)
      replace tO := tO.keep (Keeps.same (p := p) sx2)
      replace ha0 := ha0.same sx2
      replace ax1 := ax1.same sx2
      refine ⟨_, rfl, (by show 4 ≤ sizeLine; decide), fun x3 Hx3 sx3 nx3 px3 => ?_⟩
      have ax3 : T2 Hx3 x3 [V.str "round", V.int 1, V.non, ov] := .inl px3
      replace hp := hp.same sx3
      replace k0 := k0.trans (Kept.same sx3)
      replace hW := sx3 _ _ hW
      replace tW := tW.keep (Keeps.same (p := p) sx3)
      replace tT := tT.keep (Keeps.same (p := p) sx3)
      replace tO := tO.keep (Keeps.same (p := p) sx3)
      replace ha0 := ha0.same sx3
      replace ax1 := ax1.same sx3
      replace ax2 := ax2.same sx3
      refine ⟨(by show 3 ≤ sizeLine; decide), fun x4 nx4 => ?_⟩
      have sx4 := same_upd (o := .lst [ov, V.ref x2, V.ref x3]) nx4
      have ex4 : x4 ≠ p := pool_ne hp nx4
      have ax4 := upd_same (H := Hx3) (a := x4) (o := .lst [ov, V.ref x2, V.ref x3])
      generalize upd Hx3 x4 (.lst [ov, V.ref x2, V.ref x3]) = Hx4 at sx4 ax4 ⊢
      replace hp := hp.same sx4
      replace k0 := k0.trans (Kept.same sx4)
      replace hW := sx4 _ _ hW
      replace tW := tW.keep (Keeps.same (p := p) sx4)
      replace tT := tT.keep (Keeps.same (p := p) sx4)
      replace tO := tO.keep (Keeps.same (p := p) sx4)
      replace ha0 := ha0.same sx4
      replace ax1 := ax1.same sx4
      replace ax2 := ax2.same sx4
      replace ax3 := ax3.same sx4
      have tl : TgL p Hx4 [ov, V.ref x2, V.ref x3] [og, (G.tup [(G.str "then"), (G.tup [tn, og])]), (G.tup [(G.str "round"), (G.int 1), G.non, og])] := (.cons tO (.cons (.tup ax2 (.cons (.str _) (.cons (.tup ax1 (.cons tT (.cons tO .nil))) .nil))) (.cons (.tup ax3 (.cons (.str _) (.cons (.int _) (.cons .non (.cons tO .nil))))) .nil)))
      have nl : ∀ x ∈ ([og, (G.tup [(G.str "then"), (G.tup [tn, og])]), (G.tup [(G.str "round"), (G.int 1), G.non, og])] : List G), Nc x 20 6000 := by
        intro x hx
        simp only [List.mem_cons, List.not_mem_nil, or_false] at hx
        rcases hx with rfl | rfl | rfl
        · exact nO.up (by decide) (by decide)
        · exact (Nc.tup (NcL.cons (n := 17) ((Nc.str (s := "then") (m := 4)).up (by decide) (Nat.le_refl _)) (NcL.cons (n := 17) ((Nc.tup (NcL.cons (n := 16) (nT.up (by decide) (Nat.le_refl _)) (NcL.cons (n := 16) (nO.up (by decide) (Nat.le_refl _)) (NcL.nil (n := 16))))).up (by decide) (Nat.le_refl _)) (NcL.nil (n := 17))))).up (by decide) (by decide)
        · exact (Nc.tup (NcL.cons (n := 16) ((Nc.str (s := "round") (m := 5)).up (by decide) (Nat.le_refl _)) (NcL.cons (n := 16) ((Nc.int (i := 1)).up (by decide) (Nat.le_refl _)) (NcL.cons (n := 16) (Nc.none.up (by decide) (Nat.le_refl _)) (NcL.cons (n := 16) (nO.up (by decide) (Nat.le_refl _)) (NcL.nil (n := 16))))))).up (by decide) (by decide)
      obtain ⟨y, hy, ey⟩ := cons_nil_fin (xs := [ov, V.ref x2, V.ref x3]) 3 rfl w0 w3
      obtain ⟨i, hi, ei⟩ := List.getElem_of_mem hy
      obtain ⟨gy, egy, tgy⟩ := tl.get (List.getElem?_eq_some_iff.mpr ⟨hi, ei⟩)
      have ny := nl gy (List.mem_of_getElem? egy)
      refine ⟨_, rfl, x4, _, _, y, rfl, rfl, SqL.of ax4, ey, ?_⟩
      refine ⟨_, rfl, _, rfl, (n : Int), rfl, W, ws, rfl, SqL.of hW, fun d1 nd1 => ?_⟩
      rw [show cutV ws none (some (n : Int)) = ws.take n from cut_to ws n]
      have sd1 := same_upd (o := .lst (ws.take n)) nd1
      have ed1 : d1 ≠ p := pool_ne hp nd1
      have ad1 := upd_same (H := Hx4) (a := d1) (o := .lst (ws.take n))
      generalize upd Hx4 d1 (.lst (ws.take n)) = Hd1 at sd1 ad1 ⊢
      replace hp := hp.same sd1
      replace k0 := k0.trans (Kept.same sd1)
      replace hW := sd1 _ _ hW
      replace tW := tW.keep (Keeps.same (p := p) sd1)
      replace tT := tT.keep (Keeps.same (p := p) sd1)
      replace tO := tO.keep (Keeps.same (p := p) sd1)
      replace ha0 := ha0.same sd1
      replace tgy := tgy.keep (Keeps.same (p := p) sd1)
      refine ⟨_, rfl, _, rfl, (by show 2 ≤ sizeLine; decide), fun x5 Hx5 sx5 nx5 px5 => ?_⟩
      have ax5 : T2 Hx5 x5 [V.str nm, y] := .inl px5
      replace hp := hp.same sx5
      replace k0 := k0.trans (Kept.same sx5)
      replace hW := sx5 _ _ hW
      replace tW := tW.keep (Keeps.same (p := p) sx5)
      replace tT := tT.keep (Keeps.same (p := p) sx5)
      replace tO := tO.keep (Keeps.same (p := p) sx5)
      replace ha0 := ha0.same sx5
      replace tgy := tgy.keep (Keeps.same (p := p) sx5)
      replace ad1 := sx5 _ _ ad1
      refine ⟨(by show 1 ≤ sizeLine; decide), fun x6 nx6 => ?_⟩
      have sx6 := same_upd (o := .lst [V.ref x5]) nx6
      have ex6 : x6 ≠ p := pool_ne hp nx6
      have ax6 := upd_same (H := Hx5) (a := x6) (o := .lst [V.ref x5])
      generalize upd Hx5 x6 (.lst [V.ref x5]) = Hx6 at sx6 ax6 ⊢
      replace hp := hp.same sx6
      replace k0 := k0.trans (Kept.same sx6)
      replace hW := sx6 _ _ hW
      replace tW := tW.keep (Keeps.same (p := p) sx6)
      replace tT := tT.keep (Keeps.same (p := p) sx6)
      replace tO := tO.keep (Keeps.same (p := p) sx6)
      replace ha0 := ha0.same sx6
      replace tgy := tgy.keep (Keeps.same (p := p) sx6)
      replace ad1 := sx6 _ _ ad1
      replace ax5 := ax5.same sx6
      refine ⟨_, _, _, _, rfl, rfl, ad1, ax6, Nat.le_of_lt (small1000 (by rw [List.length_take]; show _ + 1 ≤ 1000; omega)), fun d3 nd3 => ?_⟩
      have sd3 := same_upd (o := .lst (ws.take n ++ [V.ref x5])) nd3
      have ed3 : d3 ≠ p := pool_ne hp nd3
      have ad3 := upd_same (H := Hx6) (a := d3) (o := .lst (ws.take n ++ [V.ref x5]))
      generalize upd Hx6 d3 (.lst (ws.take n ++ [V.ref x5])) = Hd3 at sd3 ad3 ⊢
      replace hp := hp.same sd3
      replace k0 := k0.trans (Kept.same sd3)
      replace hW := sd3 _ _ hW
      replace tW := tW.keep (Keeps.same (p := p) sd3)
      replace tT := tT.keep (Keeps.same (p := p) sd3)
      replace tO := tO.keep (Keeps.same (p := p) sd3)
      replace ha0 := ha0.same sd3
      replace tgy := tgy.keep (Keeps.same (p := p) sd3)
      replace ad1 := sd3 _ _ ad1
      replace ax5 := ax5.same sd3
      replace ax6 := sd3 _ _ ax6
      refine ⟨_, rfl, _, rfl, _, _, rfl, rfl, ((n + 1 : Nat) : Int), rfl, W, ws, rfl, SqL.of hW, fun d4 nd4 => ?_⟩
      rw [show cutV ws (some ((n + 1 : Nat) : Int)) none = ws.drop (n + 1) from cut_from ws (n + 1)]
      have sd4 := same_upd (o := .lst (ws.drop (n + 1))) nd4
      have ed4 : d4 ≠ p := pool_ne hp nd4
      have ad4 := upd_same (H := Hd3) (a := d4) (o := .lst (ws.drop (n + 1)))
      generalize upd Hd3 d4 (.lst (ws.drop (n + 1))) = Hd4 at sd4 ad4 ⊢
      replace hp := hp.same sd4
      replace k0 := k0.trans (Kept.same sd4)
      replace hW := sd4 _ _ hW
      replace tW := tW.keep (Keeps.same (p := p) sd4)
      replace tT := tT.keep (Keeps.same (p := p) sd4)
      replace tO := tO.keep (Keeps.same (p := p) sd4)
      replace ha0 := ha0.same sd4
      replace tgy := tgy.keep (Keeps.same (p := p) sd4)
      replace ad1 := sd4 _ _ ad1
      replace ax5 := ax5.same sd4
      replace ax6 := sd4 _ _ ax6
      replace ad3 := sd4 _ _ ad3
      refine ⟨_, _, _, _, rfl, rfl, ad3, ad4, Nat.le_of_lt (small1000 (by rw [List.length_append, List.length_take, List.length_drop]; show _ + 1 + _ ≤ 1000; omega)), fun d5 nd5 => ?_⟩
      have sd5 := same_upd (o := .lst (ws.take n ++ [V.ref x5] ++ ws.drop (n + 1))) nd5
      have ed5 : d5 ≠ p := pool_ne hp nd5
      have ad5 := upd_same (H := Hd4) (a := d5) (o := .lst (ws.take n ++ [V.ref x5] ++ ws.drop (n + 1)))
      generalize upd Hd4 d5 (.lst (ws.take n ++ [V.ref x5] ++ ws.drop (n + 1))) = Hd5 at sd5 ad5 ⊢
      replace hp := hp.same sd5
      replace k0 := k0.trans (Kept.same sd5)
      replace hW := sd5 _ _ hW
      replace tW := tW.keep (Keeps.same (p := p) sd5)
      replace tT := tT.keep (Keeps.same (p := p) sd5)
      replace tO := tO.keep (Keeps.same (p := p) sd5)
      replace ha0 := ha0.same sd5
      replace tgy := tgy.keep (Keeps.same (p := p) sd5)
      replace ad1 := sd5 _ _ ad1
      replace ax5 := ax5.same sd5
      replace ax6 := sd5 _ _ ax6
      replace ad3 := sd5 _ _ ad3
      replace ad4 := sd5 _ _ ad4
      refine q _ _ _ k0 hp (.lst ed5 ad5 (((tW.take n).app (.cons (.tup ax5 (.cons (.str _) (.cons tgy .nil))) .nil)).app (tW.drop (n + 1)))) (thP_list (fun x hx => ?_) ?_)
      · rcases List.mem_append.mp hx with hx | hx
        · rcases List.mem_append.mp hx with hx | hx
          · exact eW x (List.mem_of_mem_take hx)
          · rw [List.mem_singleton.mp hx]
            exact ElP.nc (Nc.tup (NcL.cons (n := 20) ((Nc.str (s := nm) pfx.nm.le.1 pfx.nm.le.2).up (by decide) (Nat.le_refl _)) (NcL.cons (n := 20) (ny.up (by decide) (Nat.le_refl _)) (NcL.nil (n := 20))))) (by decide) (by decide)
        · exact eW x (List.mem_of_mem_drop hx)
      · rw [List.length_append, List.length_append, List.length_take, List.length_drop, List.length_map]
        show _ + 1 + _ ≤ 60
        omega
    refine ⟨_, rfl, rfl, _, rfl, iteB (fun z2 => ?_) (fun z2 => ?_)⟩
    · have eWp2 := eWp
      refine ⟨_, rfl, W, ws, _, _, rfl, rfl, SqL.of hW, atI_nat ix0, _, _, _, _, rfl, rfl, ha0.sq, atI_nat (j := 0) rfl, (by show 1 ≤ sizeLine; decide), fun y1 Hy1 sy1 ny1 py1 => ?_⟩
      have ay1 : T2 Hy1 y1 [V.str "a"] := .inl py1
      replace hp := hp.same sy1
      replace k0 := k0.trans (Kept.same sy1)
      replace hW := sy1 _ _ hW
      replace tW := tW.keep (Keeps.same (p := p) sy1)
      replace tT := tT.keep (Keeps.same (p := p) sy1)
      replace tO := tO.keep (Keeps.same (p := p) sy1)
      replace ha0 := ha0.same sy1
      refine ⟨(by show 8 ≤ sizeLine; decide), fun y2 ny2 => ?_⟩
      have sy2 := same_upd (o := .lst [V.str "", V.str "abcdefg", V.str "A", V.non, V.int 1, V.str "a b", V.str nm0, V.ref y1]) ny2
      have ey2 : y2 ≠ p := pool_ne hp ny2
      have ay2 := upd_same (H := Hy1) (a := y2) (o := .lst [V.str "", V.str "abcdefg", V.str "A", V.non, V.int 1, V.str "a b", V.str nm0, V.ref y1])
      generalize upd Hy1 y2 (.lst [V.str "", V.str "abcdefg", V.str "A", V.non, V.int 1, V.str "a b", V.str nm0, V.ref y1]) = Hy2 at sy2 ay2 ⊢
      replace hp := hp.same sy2
      replace k0 := k0.trans (Kept.same sy2)
      replace hW := sy2 _ _ hW
      replace tW := tW.keep (Keeps.same (p := p) sy2)
      replace tT := tT.keep (Keeps.same (p := p) sy2)
      replace tO := tO.keep (Keeps.same (p := p) sy2)
      replace ha0 := ha0.same sy2
      replace ay1 := ay1.same sy2
      have tl : TgL p Hy2 [V.str "", V.str "abcdefg", V.str "A", V.non, V.int 1, V.str "a b", V.str nm0, V.ref y1] [(G.str ""), (G.str "abcdefg"), (G.str "A"), G.non, (G.int 1), (G.str "a b"), (G.str nm0), (G.tup [(G.str "a")])] := (.cons (.str _) (.cons (.str _) (.cons (.str _) (.cons .non (.cons (.int _) (.cons (.str _) (.cons (.str _) (.cons (.tup ay1 (.cons (.str _) .nil)) .nil))))))))
      have nl : ∀ x ∈ ([(G.str ""), (G.str "abcdefg"), (G.str "A"), G.non, (G.int 1), (G.str "a b"), (G.str nm0), (G.tup [(G.str "a")])] : List G), Nc x 20 100 := by
        intro x hx
        simp only [List.mem_cons, List.not_mem_nil, or_false] at hx
        rcases hx with rfl | rfl | rfl | rfl | rfl | rfl | rfl | rfl
        · exact (Nc.str (s := "") (m := 0)).up (by decide) (by decide)
        · exact (Nc.str (s := "abcdefg") (m := 7)).up (by decide) (by decide)
        · exact (Nc.str (s := "A") (m := 1)).up (by decide) (by decide)
        · exact Nc.none.up (by decide) (by decide)
        · exact (Nc.int (i := 1)).up (by decide) (by decide)
        · exact (Nc.str (s := "a b") (m := 3)).up (by decide) (by decide)
        · exact (Nc.str (s := nm0) pf0.nm.le.1 pf0.nm.le.2).up (by decide) (by decide)
        · exact (Nc.tup (NcL.cons (n := 0) ((Nc.str (s := "a") (m := 1)).up (by decide) (Nat.le_refl _)) (NcL.nil (n := 0)))).up (by decide) (by decide)
      refine ⟨_, rfl, p, 8, rfl, hp, by decide, by decide, fun r3 o3 r30 r31 po3 => ?_⟩
      have kp : Kept p Hy2 (upd Hy2 p o3) := Kept.upd p Hy2 o3
      replace tW := tW.keep (Keeps.of kp hp)
      replace tT := tT.keep (Keeps.of kp hp)
      replace tO := tO.keep (Keeps.of kp hp)
      replace ha0 := K2.of kp hp _ _ ha0
      replace tl := tl.keep (Keeps.of kp hp)
      replace hW := kp _ _ hW eWp
      replace k0 := k0.trans kp
      replace ay2 := kp _ _ ay2 ey2
      replace hp : PoolAt (upd Hy2 p o3) p := ⟨o3, upd_same, po3⟩
      generalize upd Hy2 p o3 = Hp3 at tW tT tO ha0 hW k0 hp tl ay2 ⊢
      obtain ⟨y, hy, ey⟩ := cons_nil_fin (xs := [V.str "", V.str "abcdefg", V.str "A", V.non, V.int 1, V.str "a b", V.str nm0, V.ref y1]) 8 rfl r30 r31
      obtain ⟨i, hi, ei⟩ := List.getElem_of_mem hy
      obtain ⟨gy, egy, tgy⟩ := tl.get (List.getElem?_eq_some_iff.mpr ⟨hi, ei⟩)
      have ny := nl gy (List.mem_of_getElem? egy)
      refine ⟨y2, _, _, y, rfl, rfl, SqL.of ay2, ey, ?_⟩
      refine ⟨_, rfl, _, rfl, (n : Int), rfl, W, ws, rfl, SqL.of hW, fun d1 nd1 => ?_⟩
      rw [show cutV ws none (some (n : Int)) = ws.take n from cut_to ws n]
      have sd1 := same_upd (o := .lst (ws.take n)) nd1
      have ed1 : d1 ≠ p := pool_ne hp nd1
      have ad1 := upd_same (H := Hp3) (a := d1) (o := .lst (ws.take n))
      generalize upd Hp3 d1 (.lst (ws.take n)) = Hd1 at sd1 ad1 ⊢
      replace hp := hp.same sd1
      replace k0 := k0.trans (Kept.same sd1)
      replace hW := sd1 _ _ hW
      replace tW := tW.keep (Keeps.same (p := p) sd1)
      replace tT := tT.keep (Keeps.same (p := p) sd1)
      replace tO := tO.keep (Keeps.same (p := p) sd1)
      replace ha0 := ha0.same sd1
      replace tgy := tgy.keep (Keeps.same (p := p) sd1)
      refine ⟨_, rfl, _, rfl, (by show 2 ≤ sizeLine; decide), fun y3 Hy3 sy3 ny3 py3 => ?_⟩
      have ay3 : T2 Hy3 y3 [y, tv] := .inl py3
      replace hp := hp.same sy3
      replace k0 := k0.trans (Kept.same sy3)
      replace hW := sy3 _ _ hW
      replace tW := tW.keep (Keeps.same (p := p) sy3)
      replace tT := tT.keep (Keeps.same (p := p) sy3)
      replace tO := tO.keep (Keeps.same (p := p) sy3)
      replace ha0 := ha0.same sy3
      replace tgy := tgy.keep (Keeps.same (p := p) sy3)
      replace ad1 := sy3 _ _ ad1
      refine ⟨(by show 1 ≤ sizeLine; decide), fun y4 ny4 => ?_⟩
      have sy4 := same_upd (o := .lst [V.ref y3]) ny4
      have ey4 : y4 ≠ p := pool_ne hp ny4
      have ay4 := upd_same (H := Hy3) (a := y4) (o := .lst [V.ref y3])
      generalize upd Hy3 y4 (.lst [V.ref y3]) = Hy4 at sy4 ay4 ⊢
      replace hp := hp.same sy4
      replace k0 := k0.trans (Kept.same sy4)
      replace hW := sy4 _ _ hW
      replace tW := tW.keep (Keeps.same (p := p) sy4)
      replace tT := tT.keep (Keeps.same (p := p) sy4)
      replace tO := tO.keep (Keeps.same (p := p) sy4)
      replace ha0 := ha0.same sy4
      replace tgy := tgy.keep (Keeps.same (p := p) sy4)
      replace ad1 := sy4 _ _ ad1
      replace ay3 := ay3.same sy4
      refine ⟨_, _, _, _, rfl, rfl, ad1, ay4, Nat.le_of_lt (small1000 (by rw [List.length_take]; show _ + 1 ≤ 1000; omega)), fun d3 nd3 => ?_⟩
      have sd3 := same_upd (o := .lst (ws.take n ++ [V.ref y3])) nd3
      have ed3 : d3 ≠ p := pool_ne hp nd3
      have ad3 := upd_same (H := Hy4) (a := d3) (o := .lst (ws.take n ++ [V.ref y3]))
      generalize upd Hy4 d3 (.lst (ws.take n ++ [V.ref y3])) = Hd3 at sd3 ad3 ⊢
      replace hp := hp.same sd3
      replace k0 := k0.trans (Kept.same sd3)
      replace hW := sd3 _ _ hW
      replace tW := tW.keep (Keeps.same (p := p) sd3)
      replace tT := tT.keep (Keeps.same (p := p) sd3)
      replace tO := tO.keep (Keeps.same (p := p) sd3)
      replace ha0 := ha0.same sd3
      replace tgy := tgy.keep (Keeps.same (p := p) sd3)
      replace ad1 := sd3 _ _ ad1
      replace ay3 := ay3.same sd3
      replace ay4 := sd3 _ _ ay4
      refine ⟨_, rfl, _, rfl, _, _, rfl, rfl, ((n + 1 : Nat) : Int), rfl, W, ws, rfl, SqL.of hW, fun d4 nd4 => ?_⟩
      rw [show cutV ws (some ((n + 1 : Nat) : Int)) none = ws.drop (n + 1) from cut_from ws (n + 1)]
      have sd4 := same_upd (o := .lst (ws.drop (n + 1))) nd4
      have ed4 : d4 ≠ p := pool_ne hp nd4
      have ad4 := upd_same (H := Hd3) (a := d4) (o := .lst (ws.drop (n + 1)))
      generalize upd Hd3 d4 (.lst (ws.drop (n + 1))) = Hd4 at sd4 ad4 ⊢
      replace hp := hp.same sd4
      replace k0 := k0.trans (Kept.same sd4)
      replace hW := sd4 _ _ hW
      replace tW := tW.keep (Keeps.same (p := p) sd4)
      replace tT := tT.keep (Keeps.same (p := p) sd4)
      replace tO := tO.keep (Keeps.same (p := p) sd4)
      replace ha0 := ha0.same sd4
      replace tgy := tgy.keep (Keeps.same (p := p) sd4)
      replace ad1 := sd4 _ _ ad1
      replace ay3 := ay3.same sd4
      replace ay4 := sd4 _ _ ay4
      replace ad3 := sd4 _ _ ad3
      refine ⟨_, _, _, _, rfl, rfl, ad3, ad4, Nat.le_of_lt (small1000 (by rw [List.length_append, List.length_take, List.length_drop]; show _ + 1 + _ ≤ 1000; omega)), fun d5 nd5 => ?_⟩
      have sd5 := same_upd (o := .lst (ws.take n ++ [V.ref y3] ++ ws.drop (n + 1))) nd5
      have ed5 : d5 ≠ p := pool_ne hp nd5
      have ad5 := upd_same (H := Hd4) (a := d5) (o := .lst (ws.take n ++ [V.ref y3] ++ ws.drop (n + 1)))
      generalize upd Hd4 d5 (.lst (ws.take n ++ [V.ref y3] ++ ws.drop (n + 1))) = Hd5 at sd5 ad5 ⊢
      replace hp := hp.same sd5
      replace k0 := k0.trans (Kept.same sd5)
      replace hW := sd5 _ _ hW
      replace tW := tW.keep (Keeps.same (p := p) sd5)
      replace tT := tT.keep (Keeps.same (p := p) sd5)
      replace tO := tO.keep (Keeps.same (p := p) sd5)
      replace ha0 := ha0.same sd5
      replace tgy := tgy.keep (Keeps.same (p := p) sd5)
      replace ad1 := sd5 _ _ ad1
      replace ay3 := ay3.same sd5
      replace ay4 := sd5 _ _ ay4
      replace ad3 := sd5 _ _ ad3
      replace ad4 := sd5 _ _ ad4
      refine q _ _ _ k0 hp (.lst ed5 ad5 (((tW.take n).app (.cons (.tup ay3 (.cons tgy (.cons tT .nil))) .nil)).app (tW.drop (n + 1)))) (thP_list (fun x hx => ?_) ?_)
      · rcases List.mem_append.mp hx with hx | hx
        · rcases List.mem_append.mp hx with hx | hx
          · exact eW x (List.mem_of_mem_take hx)
          · rw [List.mem_singleton.mp hx]
            exact ElP.nc (Nc.tup (NcL.cons (n := 20) (ny.up (by decide) (Nat.le_refl _)) (NcL.cons (n := 20) (nT.up (by decide) (Nat.le_refl _)) (NcL.nil (n := 20))))) (by decide) (by decide)
        · exact eW x (List.mem_of_mem_drop hx)
      · rw [List.length_append, List.length_append, List.length_take, List.length_drop, List.length_map]
        show _ + 1 + _ ≤ 60
        omega
    refine ⟨_, rfl, rfl, _, rfl, iteB (fun z3 => ?_) (fun z3 => ?_)⟩
    · have eWp2 := eWp
      refine ⟨_, rfl, _, rfl, (by show 2 ≤ sizeLine; decide), fun z1 nz1 => ?_⟩
      have sz1 := same_upd (o := .lst [V.str nm, tv]) nz1
      have ez1 : z1 ≠ p := pool_ne hp nz1
      have az1 := upd_same (H := H3) (a := z1) (o := .lst [V.str nm, tv])
      generalize upd H3 z1 (.lst [V.str nm, tv]) = Hz1 at sz1 az1 ⊢
      replace hp := hp.same sz1
      replace k0 := k0.trans (Kept.same sz1)
      replace hW := sz1 _ _ hW
      replace tW := tW.keep (Keeps.same (p := p) sz1)
      replace tT := tT.keep (Keeps.same (p := p) sz1)
      replace tO := tO.keep (Keeps.same (p := p) sz1)
      replace ha0 := ha0.same sz1
      refine ⟨_, rfl, (by show 1 ≤ sizeLine; decide), fun z2 Hz2 sz2 nz2 pz2 => ?_⟩
      have az2 : T2 Hz2 z2 [V.str nm] := .inl pz2
      replace hp := hp.same sz2
      replace k0 := k0.trans (Kept.same sz2)
      replace hW := sz2 _ _ hW
      replace tW := tW.keep (Keeps.same (p := p) sz2)
      replace tT := tT.keep (Keeps.same (p := p) sz2)
      replace tO := tO.keep (Keeps.same (p := p) sz2)
      replace ha0 := ha0.same sz2
      replace az1 := sz2 _ _ az1
      refine ⟨_, rfl, _, rfl, (by show 3 ≤ sizeLine; decide), fun z3 Hz3 sz3 nz3 pz3 => ?_⟩
      have az3 : T2 Hz3 z3 [V.str nm, tv, V.int 0] := .inl pz3
      replace hp := hp.same sz3
      replace k0 := k0.trans (Kept.same sz3)
      replace hW := sz3 _ _ hW
      replace tW := tW.keep (Keeps.same (p := p) sz3)
      replace tT := tT.keep (Keeps.same (p := p) sz3)
      replace tO := tO.keep (Keeps.same (p := p) sz3)
      replace ha0 := ha0.same sz3
      replace az1 := sz3 _ _ az1
      replace az2 := az2.same sz3
      refine ⟨_, rfl, fun z4 nz4 => ?_⟩
      have sz4 := same_upd (o := .dK []) nz4
      have ez4 : z4 ≠ p := pool_ne hp nz4
      have az4 := upd_same (H := Hz3) (a := z4) (o := .dK [])
      generalize upd Hz3 z4 (.dK []) = Hz4 at sz4 az4 ⊢
      replace hp := hp.same sz4
      replace k0 := k0.trans (Kept.same sz4)
      replace hW := sz4 _ _ hW
      replace tW := tW.keep (Keeps.same (p := p) sz4)
      replace tT := tT.keep (Keeps.same (p := p) sz4)
      replace tO := tO.keep (Keeps.same (p := p) sz4)
      replace ha0 := ha0.same sz4
      replace az1 := sz4 _ _ az1
      replace az2 := az2.same sz4
      replace az3 := az3.same sz4
      refine ⟨(by show 0 ≤ sizeLine; decide), fun z5 Hz5 sz5 nz5 pz5 => ?_⟩
      have az5 : T2 Hz5 z5 [] := .inl pz5
      replace hp := hp.same sz5
      replace k0 := k0.trans (Kept.same sz5)
      replace hW := sz5 _ _ hW
      replace tW := tW.keep (Keeps.same (p := p) sz5)
      replace tT := tT.keep (Keeps.same (p := p) sz5)
      replace tO := tO.keep (Keeps.same (p := p) sz5)
      replace ha0 := ha0.same sz5
      replace az1 := sz5 _ _ az1
      replace az2 := az2.same sz5
      replace az3 := az3.same sz5
      replace az4 := sz5 _ _ az4
      refine ⟨(by show 8 ≤ sizeLine; decide), fun z6 nz6 => ?_⟩
      have sz6 := same_upd (o := .lst [V.non, V.ref z1, V.ref z2, V.ref z3, V.str nm, V.ref z4, V.ref z5, V.int 0]) nz6
      have ez6 : z6 ≠ p := pool_ne hp nz6
      have az6 := upd_same (H := Hz5) (a := z6) (o := .lst [V.non, V.ref z1, V.ref z2, V.ref z3, V.str nm, V.ref z4, V.ref z5, V.int 0])
      generalize upd Hz5 z6 (.lst [V.non, V.ref z1, V.ref z2, V.ref z3, V.str nm, V.ref z4, V.ref z5, V.int 0]) = Hz6 at sz6 az6 ⊢
      replace hp := hp.same sz6
      replace k0 := k0.trans (Kept.same sz6)
      replace hW := sz6 _ _ hW
      replace tW := tW.keep (Keeps.same (p := p) sz6)
      replace tT := tT.keep (Keeps.same (p := p) sz6)
      replace tO := tO.keep (Keeps.same (p := p) sz6)
      replace ha0 := ha0.same sz6
      replace az1 := sz6 _ _ az1
      replace az2 := az2.same sz6
      replace az3 := az3.same sz6
      replace az4 := sz6 _ _ az4
      replace az5 := az5.same sz6
      have tl : TgL p Hz6 [V.non, V.ref z1, V.ref z2, V.ref z3, V.str nm, V.ref z4, V.ref z5, V.int 0] [G.non, (G.lst [(G.str nm), tn]), (G.tup [(G.str nm)]), (G.tup [(G.str nm), tn, (G.int 0)]), (G.str nm), G.dct, (G.tup []), (G.int 0)] := (.cons .non (.cons (.lst ez1 az1 (.cons (.str _) (.cons tT .nil))) (.cons (.tup az2 (.cons (.str _) .nil)) (.cons (.tup az3 (.cons (.str _) (.cons tT (.cons (.int _) .nil)))) (.cons (.str _) (.cons (.dct az4) (.cons (.tup az5 .nil) (.cons (.int _) .nil))))))))
      have nl : ∀ x ∈ ([G.non, (G.lst [(G.str nm), tn]), (G.tup [(G.str nm)]), (G.tup [(G.str nm), tn, (G.int 0)]), (G.str nm), G.dct, (G.tup []), (G.int 0)] : List G), ElP x := by
        intro x hx
        simp only [List.mem_cons, List.not_mem_nil, or_false] at hx
        rcases hx with rfl | rfl | rfl | rfl | rfl | rfl | rfl | rfl
        · exact ElP.nc Nc.none (by decide) (by decide)
        · exact ElP.nc (Nc.lst (NcL.cons (n := 8) ((Nc.str (s := nm) pfx.nm.le.1 pfx.nm.le.2).up (by decide) (Nat.le_refl _)) (NcL.cons (n := 8) (nT.up (by decide) (Nat.le_refl _)) (NcL.nil (n := 8))))) (by decide) (by decide)
        · exact ElP.nc (Nc.tup (NcL.cons (n := 0) ((Nc.str (s := nm) pfx.nm.le.1 pfx.nm.le.2).up (by decide) (Nat.le_refl _)) (NcL.nil (n := 0)))) (by decide) (by decide)
        · exact ElP.nc (Nc.tup (NcL.cons (n := 8) ((Nc.str (s := nm) pfx.nm.le.1 pfx.nm.le.2).up (by decide) (Nat.le_refl _)) (NcL.cons (n := 8) (nT.up (by decide) (Nat.le_refl _)) (NcL.cons (n := 8) ((Nc.int (i := 0)).up (by decide) (Nat.le_refl _)) (NcL.nil (n := 8)))))) (by decide) (by decide)
        · exact ElP.nc (Nc.str (s := nm) pfx.nm.le.1 pfx.nm.le.2) (by decide) (by decide)
        · exact ElP.dct
        · exact ElP.nc (Nc.tup (NcL.nil (n := 0))) (by decide) (by decide)
        · exact ElP.nc (Nc.int (i := 0)) (by decide) (by decide)
      refine ⟨_, rfl, p, 8, rfl, hp, by decide, by decide, fun r3 o3 r30 r31 po3 => ?_⟩
      have kp : Kept p Hz6 (upd Hz6 p o3) := Kept.upd p Hz6 o3
      replace tW := tW.keep (Keeps.of kp hp)
      replace tT := tT.keep (Keeps.of kp hp)
      replace tO := tO.keep (Keeps.of kp hp)
      replace ha0 := K2.of kp hp _ _ ha0
      replace tl := tl.keep (Keeps.of kp hp)
      replace hW := kp _ _ hW eWp
      replace k0 := k0.trans kp
      replace az6 := kp _ _ az6 ez6
      replace hp : PoolAt (upd Hz6 p o3) p := ⟨o3, upd_same, po3⟩
      generalize upd Hz6 p o3 = Hp3 at tW tT tO ha0 hW k0 hp tl az6 ⊢
      obtain ⟨y, hy, ey⟩ := cons_nil_fin (xs := [V.non, V.ref z1, V.ref z2, V.ref z3, V.str nm, V.ref z4, V.ref z5, V.int 0]) 8 rfl r30 r31
      obtain ⟨i, hi, ei⟩ := List.getElem_of_mem hy
      obtain ⟨gy, egy, tgy⟩ := tl.get (List.getElem?_eq_some_iff.mpr ⟨hi, ei⟩)
      have ny := nl gy (List.mem_of_getElem? egy)
      refine ⟨z6, _, _, y, rfl, rfl, SqL.of az6, ey, ?_⟩
      refine ⟨_, rfl, _, rfl, (n : Int), rfl, W, ws, rfl, SqL.of hW, fun d1 nd1 => ?_⟩
      rw [show cutV ws none (some (n : Int)) = ws.take n from cut_to ws n]
      have sd1 := same_upd (o := .lst (ws.take n)) nd1
      have ed1 : d1 ≠ p := pool_ne hp nd1
      have ad1 := upd_same (H := Hp3) (a := d1) (o := .lst (ws.take n))
      generalize upd Hp3 d1 (.lst (ws.take n)) = Hd1 at sd1 ad1 ⊢
      replace hp := hp.same sd1
      replace k0 := k0.trans (Kept.same sd1)
      replace hW := sd1 _ _ hW
      replace tW := tW.keep (Keeps.same (p := p) sd1)
      replace tT := tT.keep (Keeps.same (p := p) sd1)
      replace tO := tO.keep (Keeps.same (p := p) sd1)
      replace ha0 := ha0.same sd1
      replace tgy := tgy.keep (Keeps.same (p := p) sd1)
      refine ⟨_, rfl, (by show 1 ≤ sizeLine; decide), fun z7 nz7 => ?_⟩
      have sz7 := same_upd (o := .lst [y]) nz7
      have ez7 : z7 ≠ p := pool_ne hp nz7
      have az7 := upd_same (H := Hd1) (a := z7) (o := .lst [y])
      generalize upd Hd1 z7 (.lst [y]) = Hz7 at sz7 az7 ⊢
      replace hp := hp.same sz7
      replace k0 := k0.trans (Kept.same sz7)
      replace hW := sz7 _ _ hW
      replace tW := tW.keep (Keeps.same (p := p) sz7)
      replace tT := tT.keep (Keeps.same (p := p) sz7)
      replace tO := tO.keep (Keeps.same (p := p) sz7)
      replace ha0 := ha0.same sz7
      replace tgy := tgy.keep (Keeps.same (p := p) sz7)
      replace ad1 := sz7 _ _ ad1
      refine ⟨_, _, _, _, rfl, rfl, ad1, az7, Nat.le_of_lt (small1000 (by rw [List.length_take]; show _ + 1 ≤ 1000; omega)), fun d3 nd3 => ?_⟩
      have sd3 := same_upd (o := .lst (ws.take n ++ [y])) nd3
      have ed3 : d3 ≠ p := pool_ne hp nd3
      have ad3 := upd_same (H := Hz7) (a := d3) (o := .lst (ws.take n ++ [y]))
      generalize upd Hz7 d3 (.lst (ws.take n ++ [y])) = Hd3 at sd3 ad3 ⊢
      replace hp := hp.same sd3
      replace k0 := k0.trans (Kept.same sd3)
      replace hW := sd3 _ _ hW
      replace tW := tW.keep (Keeps.same (p := p) sd3)
      replace tT := tT.keep (Keeps.same (p := p) sd3)
      replace tO := tO.keep (Keeps.same (p := p) sd3)
      replace ha0 := ha0.same sd3
      replace tgy := tgy.keep (Keeps.same (p := p) sd3)
      replace ad1 := sd3 _ _ ad1
      replace az7 := sd3 _ _ az7
      refine ⟨_, rfl, _, rfl, _, _, rfl, rfl, ((n + 1 : Nat) : Int), rfl, W, ws, rfl, SqL.of hW, fun d4 nd4 => ?_⟩
      rw [show cutV ws (some ((n + 1 : Nat) : Int)) none = ws.drop (n + 1) from cut_from ws (n + 1)]
      have sd4 := same_upd (o := .lst (ws.drop (n + 1))) nd4
      have ed4 : d4 ≠ p := pool_ne hp nd4
      have ad4 := upd_same (H := Hd3) (a := d4) (o := .lst (ws.drop (n + 1)))
      generalize upd Hd3 d4 (.lst (ws.drop (n + 1))) = Hd4 at sd4 ad4 ⊢
      replace hp := hp.same sd4
      replace k0 := k0.trans (Kept.same sd4)
      replace hW := sd4 _ _ hW
      replace tW := tW.keep (Keeps.same (p := p) sd4)
      replace tT := tT.keep (Keeps.same (p := p) sd4)
      replace tO := tO.keep (Keeps.same (p := p) sd4)
      replace ha0 := ha0.same sd4
      replace tgy := tgy.keep (Keeps.same (p := p) sd4)
      replace ad1 := sd4 _ _ ad1
      replace az7 := sd4 _ _ az7
      replace ad3 := sd4 _ _ ad3
      refine ⟨_, _, _, _, rfl, rfl, ad3, ad4, Nat.le_of_lt (small1000 (by rw [List.length_append, List.length_take, List.length_drop]; show _ + 1 + _ ≤ 1000; omega)), fun d5 nd5 => ?_⟩
      have sd5 := same_upd (o := .lst (ws.take n ++ [y] ++ ws.drop (n + 1))) nd5
      have ed5 : d5 ≠ p := pool_ne hp nd5
      have ad5 := upd_same (H := Hd4) (a := d5) (o := .lst (ws.take n ++ [y] ++ ws.drop (n + 1)))
      generalize upd Hd4 d5 (.lst (ws.take n ++ [y] ++ ws.drop (n + 1))) = Hd5 at sd5 ad5 ⊢
      replace hp := hp.same sd5
      replace k0 := k0.trans (Kept.same sd5)
      replace hW := sd5 _ _ hW
      replace tW := tW.keep (Keeps.same (p := p) sd5)
      replace tT := tT.keep (Keeps.same (p := p) sd5)
      replace tO := tO.keep (Keeps.same (p := p) sd5)
      replace ha0 := ha0.same sd5
      replace tgy := tgy.keep (Keeps.same (p := p) sd5)
      replace ad1 := sd5 _ _ ad1
      replace az7 := sd5 _ _ az7
      replace ad3 := sd5 _ _ ad3
      replace ad4 := sd5 _ _ ad4
      refine q _ _ _ k0 hp (.lst ed5 ad5 (((tW.take n).app (.cons tgy .nil)).app (tW.drop (n + 1)))) (thP_list (fun x hx => ?_) ?_)
      · rcases List.mem_append.mp hx with hx | hx
        · rcases List.mem_append.mp hx with hx | hx
          · exact eW x (List.mem_of_mem_take hx)
          · rw [List.mem_singleton.mp hx]
            exact ny
        · exact eW x (List.mem_of_mem_drop hx)
      · rw [List.length_append, List.length_append, List.length_take, List.length_drop, List.length_map]
        show _ + 1 + _ ≤ 60
        omega
    refine ⟨_, rfl, rfl, _, rfl, iteB (fun z4 => ?_) (fun z4 => ?_)⟩
    · refine ⟨_, rfl, W, ws, rfl, SqL.of hW, fun Z nZ => ?_⟩
      have sZ := same_upd (o := .lst ws.reverse) nZ
      have eZp : Z ≠ p := pool_ne hp nZ
      refine q _ _ _ (k0.trans (Kept.same sZ)) (hp.same sZ) (.lst eZp upd_same ((tW.keep (Keeps.same sZ)).rev)) (thP_list (fun x hx => eW x (List.mem_reverse.mp hx)) ?_)
      rw [List.length_reverse, List.length_map]
      omega
    refine ⟨_, rfl, rfl, _, rfl, iteB (fun z5 => ?_) (fun z5 => ?_)⟩
    · refine ⟨_, rfl, W, _, rfl, SqL.of hW, fun t1 H4 s4 n4 p4 => ?_⟩
      replace hW := s4 _ _ hW
      replace tW := tW.keep (Keeps.same (p := p) s4)
      replace hp := hp.same s4
      replace k0 := k0.trans (Kept.same s4)
      refine ⟨(by show 0 ≤ sizeLine; decide), fun l2 nl2 => ?_⟩
      have u2 := same_upd (o := .lst []) nl2
      have el2 : l2 ≠ p := pool_ne hp nl2
      refine fun D nD => ?_
      have u3 := same_upd (o := .dK []) nD
      have hD := upd_same (H := upd H4 l2 (.lst [])) (a := D) (o := .dK [])
      have u23 := u2.trans u3
      have hl2 := u3 _ _ (upd_same (H := H4) (a := l2) (o := .lst []))
      generalize upd (upd H4 l2 (.lst [])) D (.dK []) = H5 at u23 hD hl2 ⊢
      refine ⟨_, rfl, W, 9, ws, rfl, rfl, u23 _ _ hW, by decide, by decide, ?_, fun m1 nm1 => ?_⟩
      · show ws.length * 9 ≤ sizeLine
        exact Nat.le_of_lt (small1000 (by omega))
      have u4 := same_upd (o := .lst (List.replicate (9 : Int).toNat ws).flatten) nm1
      have em1 : m1 ≠ p := pool_ne (hp.same u23) nm1
      have hm1 := upd_same (H := H5) (a := m1) (o := .lst (List.replicate (9 : Int).toNat ws).flatten)
      generalize upd H5 m1 (.lst (List.replicate (9 : Int).toNat ws).flatten) = H6 at u4 hm1 ⊢
      have s6 := u23.trans u4
      refine ⟨_, rfl, _, rfl, _, _, _, _, rfl, rfl, s6 _ _ hW, s6 _ _ hW, Nat.le_of_lt (small1000 (by omega)), fun m2 nm2 => ?_⟩
      have u5 := same_upd (o := .lst (ws ++ ws)) nm2
      have em2 : m2 ≠ p := pool_ne (hp.same s6) nm2
      have hm2 := upd_same (H := H6) (a := m2) (o := .lst (ws ++ ws))
      generalize upd H6 m2 (.lst (ws ++ ws)) = H7 at u5 hm2 ⊢
      have s7 := s6.trans u5
      refine ⟨(by show 8 ≤ sizeLine; decide), fun Lz nLz => ?_⟩
      have uZ := same_upd (o := .lst [V.non, V.ref t1, V.ref l2, V.ref D, V.str "ask 1", V.ref m1, V.ref m2, V.int 0]) nLz
      have eLz : Lz ≠ p := pool_ne (hp.same s7) nLz
      have hLz := upd_same (H := H7) (a := Lz) (o := .lst [V.non, V.ref t1, V.ref l2, V.ref D, V.str "ask 1", V.ref m1, V.ref m2, V.int 0])
      generalize upd H7 Lz (.lst [V.non, V.ref t1, V.ref l2, V.ref D, V.str "ask 1", V.ref m1, V.ref m2, V.int 0]) = H8 at uZ hLz ⊢
      have s8 := s7.trans uZ
      have hp8 := hp.same s8
      have tW8 := tW.keep (Keeps.same (p := p) s8)
      have things : ∀ x ∈ [V.non, V.ref t1, V.ref l2, V.ref D, V.str "ask 1", V.ref m1, V.ref m2, V.int 0], ∃ y, Tg p H8 x y ∧ ThP y := by
        intro x hx
        simp only [List.mem_cons, List.not_mem_nil, or_false] at hx
        rcases hx with rfl | rfl | rfl | rfl | rfl | rfl | rfl | rfl
        · exact ⟨_, .non, thP_nc Nc.none (by decide) (by decide) fun gs e => by cases e⟩
        · refine ⟨_, .tup (T2.same (.inl p4) s8) tW8, thP_nc (Nc.tup (NcL.all (n := 9) (m := 5308) fun x hx => ?_)) (by decide) (by rw [List.length_map]; omega) fun gs e => by cases e⟩
          obtain ⟨y, hy, rfl⟩ := List.mem_map.mp hx
          exact (pf y hy).pair
        · exact ⟨_, .lst el2 ((u4.trans (u5.trans uZ)) _ _ hl2) .nil, thP_list (gs := []) (fun x hx => by cases hx) (by decide)⟩
        · exact ⟨_, .dct ((u4.trans (u5.trans uZ)) _ _ hD), thP_dct⟩
        · exact ⟨_, .str _, thP_nc (Nc.str (s := "ask 1") (m := 5)) (by decide) (by decide) fun gs e => by cases e⟩
        · refine ⟨_, .lst em1 ((u5.trans uZ) _ _ hm1) (tW8.rep (9 : Int).toNat), thP_list (fun x hx => ?_) ?_⟩
          · obtain ⟨l, hl, hx⟩ := List.mem_flatten.mp hx
            rw [List.eq_of_mem_replicate hl] at hx
            exact eW x hx
          · rw [rep_flat_len, List.length_map]
            show 9 * _ ≤ 60
            omega
        · refine ⟨_, .lst em2 (uZ _ _ hm2) (tW8.app tW8), thP_list (fun x hx => (List.mem_append.mp hx).elim (eW x) (eW x)) ?_⟩
          rw [List.length_append, List.length_map]
          omega
        · exact ⟨_, .int _, thP_nc (Nc.int (i := 0)) (by decide) (by decide) fun gs e => by cases e⟩
      refine ⟨_, rfl, p, 8, rfl, hp8, by decide, by decide, fun r3 o3 r30 r31 po3 => ?_⟩
      obtain ⟨x, hx, ex⟩ := cons_nil_fin (xs := [V.non, V.ref t1, V.ref l2, V.ref D, V.str "ask 1", V.ref m1, V.ref m2, V.int 0]) 8 rfl r30 r31
      have kp : Kept p H8 (upd H8 p o3) := Kept.upd p H8 o3
      obtain ⟨y, ty, fy⟩ := things x hx
      exact ⟨Lz, _, _, x, rfl, rfl, SqL.of (kp _ _ hLz eLz), ex, q x _ y ((k0.trans (Kept.same s8)).trans kp) ⟨o3, upd_same, po3⟩ (ty.keep (Keeps.of kp hp8)) fy⟩
    refine ⟨_, rfl, _, rfl, p, 8, rfl, hp, by decide, by decide, fun r3 o3 r30 r31 po3 => ?_⟩
    have kp : Kept p H3 (upd H3 p o3) := Kept.upd p H3 o3
    replace tW := tW.keep (Keeps.of kp hp)
    replace hW := kp _ _ hW eWp
    replace k0 := k0.trans kp
    replace hp : PoolAt (upd H3 p o3) p := ⟨o3, upd_same, po3⟩
    generalize upd H3 p o3 = H4 at tW hW k0 hp ⊢
    refine ⟨r3, rfl, by omega, by omega, fun D nD => ?_⟩
    have eDp : D ≠ p := pool_ne hp nD
    refine lc_range (lo := 0) (n := r3.toNat) (fun j HH => ∃ (us : List V) (gs : List G), HH D = some (.lst us) ∧ TtL HH us gs ∧ gs.length = j ∧ (∀ x ∈ gs, Nc x 16 500) ∧ Same H4 HH) ?_ ?_ ?_
    · exact ⟨[], [], upd_same, .nil, rfl, fun x hx => (List.not_mem_nil hx).elim, same_upd nD⟩
    · rintro j HH hj ⟨us, gs, hD, tt, hl, nn, sH⟩
      refine ⟨rfl, tyes ?_⟩
      have hc : ∀ i < 7, ∃ c, ("abcdefg" : Str).cps.toList[i]? = some c ∧ c < 1000 := by decide +kernel
      obtain ⟨c, ec, hc⟩ := hc j (by omega)
      refine ⟨_, rfl, _, _, c, rfl, rfl, (by decide +kernel), (by rw [Int.zero_add]; exact atI_nat (j := j) ec), ?_⟩
      refine ⟨_, _, rfl, rfl, (by show 2 + 1 ≤ sizeLine; decide), ?_⟩
      refine ⟨(by show 1 ≤ sizeLine; decide), fun t1 Ha sa na pa => ?_⟩
      refine ⟨(by show 2 ≤ sizeLine; decide), fun t2 Hb sb nb pb => ?_⟩
      have hDb := sb _ _ (sa _ _ hD)
      have ul := tt.len
      have kz : K2 Hb (upd Hb D (.lst (us ++ [.ref t2]))) := K2.lst hDb
      refine ⟨us, hDb, small1000 (by omega), us ++ [.ref t2], gs ++ [.tup [.str ("zz" ++ (⟨#[c]⟩ : Str)), .tup [.str "rest"]]], upd_same, TtL.snoc (.tup (kz _ _ (.inl pb)) (.cons (.str _) (.cons (.tup (kz _ _ (T2.same (.inl pa) sb)) (.cons (.str _) .nil)) .nil))) (tt.keep ((K2.same (sa.trans sb)).trans kz)), by rw [List.length_append, hl]; rfl, fun x hx => ?_, fun c2 o ec2 => ?_⟩
      · rcases List.mem_append.mp hx with h | h
        · exact nn x h
        · rw [List.mem_singleton.mp h]
          exact (Nc.tup (NcL.cons (n := 1) ((zz_nc hc).up (by decide) (Nat.le_refl _)) (NcL.cons (Nc.tup (NcL.cons (n := 0) (Nc.str (s := "rest") (m := 4)) NcL.nil)) NcL.nil))).up (by decide) (by decide)
      · rw [upd_ne (ne_of_none ec2 nD)]
        exact sb _ _ (sa _ _ (sH _ _ ec2))
    · rintro HH ⟨us, gs, hD, tt, hl, nn, sH⟩
      have ul := tt.len
      refine ⟨_, _, _, _, rfl, rfl, sH _ _ hW, hD, Nat.le_of_lt (small1000 (by omega)), fun Z nZ => ?_⟩
      have sZ := same_upd (o := .lst (ws ++ us)) nZ
      have eZp : Z ≠ p := pool_ne (hp.same sH) nZ
      refine q _ _ _ (k0.trans (Kept.same (sH.trans sZ))) (hp.same (sH.trans sZ)) (.lst eZp upd_same (((tW.keep (Keeps.same sH)).app (tt.tg (p := p))).keep (Keeps.same sZ))) (thP_list (fun x hx => ?_) ?_)
      · rcases List.mem_append.mp hx with hx | hx
        · exact eW x hx
        · exact ElP.nc (nn x hx) (by decide) (by decide)
      · rw [List.length_append, List.length_map]
        omega

end
end Su
/-! ### LO: the law -/
namespace Su
open PySem PySem.Spec PyProof.Rows L2
theorem mid_ifGM {t : TT} {u S : TS} {D : Ends} {r : V → Hp → Prop} {b c : L2.St → Hp → Prop} {σ : L2.St} {H : Hp} {j : Nat} {v : V} (M : Hp → Prop) (hR : ∀ H', M H' → S D (σ.set j (some v)) H') (h : ∀ D2 : Ends, (∀ H', M H' → D2.nx (σ.set j (some v)) H') → tIfS t u tNext D2 (σ.set j (some v)) H) : gName j v σ H (Ends.mk (tSeq (tIfS t u tNext) S D) r b c).nx := h _ hR
def dueG : Option (Option Nat) → G
  | none => .lst [.str "good", .non]
  | some none => .lst [.str "none", .non]
  | some (some i) => .lst [.str "none", .int i]
theorem fb_lt {f : Nat → Bool} : ∀ (n i : Nat) {k : Nat}, fb f n i = some k → k < i + n
  | 0, i, k, h => by cases h
  | n + 1, i, k, h => by
    unfold fb at h
    split at h
    · have := fb_lt n (i + 1) h
      omega
    · cases h
      omega
theorem lookP_lt {g : G} {i : Nat} (h : lookP g = some (some i)) : i < 8 := by
  unfold lookP at h
  split at h
  · split at h
    · rename_i gs hl
      cases hb : fb (okAt gs) gs.length 0 with
      | none =>
        rw [hb] at h
        cases h
      | some j =>
        rw [hb] at h
        cases h
        have := fb_lt _ _ hb
        omega
    · cases h
  · cases h
theorem fz_good : Fz (.str "good") 0 80 := ⟨by simp [toD, PyData.showable], by simp [toD, PyData.depth], by decide +kernel, by decide +kernel⟩
theorem fz_none : Fz (.str "none") 0 80 := ⟨by simp [toD, PyData.showable], by simp [toD, PyData.depth], by decide +kernel, by decide +kernel⟩
theorem due_shw {g : G} : Shw (dueG (lookP g)) := by
  cases h : lookP g with
  | none => exact ⟨(Fz.lst (FzL.cons fz_good (FzL.cons Fz.none FzL.nil))).up (by decide) (by decide), .inl (.inl rfl)⟩
  | some r =>
    cases r with
    | none => exact ⟨(Fz.lst (FzL.cons fz_none (FzL.cons Fz.none FzL.nil))).up (by decide) (by decide), .inl (.inl rfl)⟩
    | some i =>
      have := lookP_lt h
      exact ⟨(Fz.lst (FzL.cons fz_none (FzL.cons (Fz.int (i := (i : Int)) (by omega) (by omega)) FzL.nil))).up (by decide) (by decide), .inl (.inl rfl)⟩
theorem due_tg {H : Hp} {u : Addr} (lk : Option (Option Nat)) (h : H u = some (.lst [wordP lk, numP lk])) : Tg (u + 1) H (.ref u) (dueG lk) := by
  have n : u ≠ u + 1 := Nat.ne_of_lt (Nat.lt_succ_self u)
  cases lk with
  | none => exact .lst n h (.cons (.str _) (.cons .non .nil))
  | some r =>
    cases r with
    | none => exact .lst n h (.cons (.str _) (.cons .non .nil))
    | some i => exact .lst n h (.cons (.str _) (.cons (.int _) .nil))
theorem prl_tg {p : Addr} {H : Hp} : ∀ {ws : List V} {ps : List (Str × Tm)}, PrL H ws ps → TgL p H ws ((ps.map fun q => (q.1, gT q.2)).map pT)
  | [], [], _ => .nil
  | _ :: _, _ :: _, h => by
    obtain ⟨⟨a, u, rfl, pa, tu⟩, r⟩ := h
    exact .cons (.tup (.inl pa) (.cons (.str _) (.cons tu.tg .nil))) (prl_tg r)
  | [], _ :: _, h => h.elim
  | _ :: _, [], h => h.elim
theorem pn_prf {S : List Int} {d : Nat} {ps : List (Str × Tm)} (h : PN S d ps) (hn : NamesOk (ps.map Prod.fst)) (hS : ∀ k ∈ S, 0 ≤ k ∧ k < 100) (h1 : 1 ≤ d) (h4 : d ≤ 4) : ∀ q ∈ ps.map (fun q => (q.1, gT q.2)), PrF q := by
  intro q hq
  obtain ⟨x, hx, rfl⟩ := List.mem_map.mp hq
  have z := tm_nc (fun n hn' => (hn n hn').le) hS d x.2 (PN.names h x hx)
  refine ⟨hn x.1 (List.mem_map.mpr ⟨x, hx, rfl⟩), z.up (by omega) ?_⟩
  obtain h | h | h | h : d = 1 ∨ d = 2 ∨ d = 3 ∨ d = 4 := by omega
  all_goals
    subst h
    decide
def spLaw (K : PySem.W.Frag) : Sp := fun vs H Q _ => ∃ (a : Addr) (ns : List Int), vs = [.ref a] ∧ SqL K H a (ns.map V.int) ∧ ns.length ≤ 63 ∧ ∀ H', Q (.bl true) H'
structure Calls (P : Program) (w : World) (K : PySem.W.Frag) (mg : Str → Option Value) (base : Heap) : Prop where
  take : Cal P w K mg base 1 "_law_take" ["_law_pool_here", "_law_many"] spTake
  picked : Cal P w K mg base 2 "_law_picked" ["_law_pool_here", "_law_some", "_law_many"] (spPicked K)
  pool : Cal P w K mg base 1 "_law_pool" ["_law_script", "_law_k"] (spPool K)
  program : Cal P w K mg base 9 "_law_program" ["_law_pool_here", "_law_most", "_law_deep", "_law_some"] spProgram
  bent : Cal P w K mg base 3 "_law_bent" ["_law_pool_here", "_law_program_here"] spBentP
  due : Cal P w K mg base 6 "_law_due" ["_law_thing"] spLDueP
  told : Cal P w K mg base 20 "_law_told" ["_law_thing"] spToldP
theorem sc_law : FnScope ["_law_script", "_law_k", "_law_pool_here", "_law_program_here", "_law_things", "_law_thing", "_law_kept"] ["_law_script"] (defScope s_law) := ⟨rfl, rfl, rfl, by decide +kernel, rfl, by decide +kernel, by decide +kernel⟩
section
variable {P : Program} {w : World} {K : PySem.W.Frag} {mg : Str → Option Value} {base : Heap}
theorem ok_law {f : Addr} {fd : FuncData} (F : Fun K "law" "law" s_law f fd) (B : Bt mg) (CA : Calls P w K mg base) : FnG P w K mg base CX0 21 f fd ["_law_script"] (spLaw K) := by
  obtain ⟨c_take, c_picked, c_pool, c_program, c_bent, c_due, c_told⟩ := CA
  refine fnG_fun F sc_law (fun vs H Q E h => ?_) (fun cdv A outer s H vs Q E hg hr h => ?_)
  · obtain ⟨a, ns, rfl, _⟩ := h
    rfl
  · obtain ⟨a, ns, rfl, hS, hlen, q⟩ := h
    refine ⟨_, (pss_cons (ps_for PassesOwn.never rfl (pi_range1 (by rfl) B.range (pa_cons (pe_callB (call_max2 rfl) (by rfl) B.max (by decide +kernel) (pa_cons pe_int (pa_cons (pe_callB (call_min2 rfl) (by rfl) B.min (by decide +kernel) (pa_cons (pe_callB call_len_seq (by rfl) B.len PySem.boot_len (pa_cons (pv 0) pa_nil)) (pa_cons pe_int pa_nil))) pa_nil))) pa_nil)) (pg_name (i := 1) sc_law.nd rfl (Or.inl rfl)) (pss_cons (ps_set (i := 2) sc_law.nd rfl (Or.inl rfl) (pe_own c_pool hr (by decide) (by rfl) (pa_cons (pv 0) (pa_cons (pv 1) pa_nil))))
      (pss_cons (ps_set (i := 3) sc_law.nd rfl (Or.inl rfl) (pe_own c_program hr (by decide) (by rfl) (pa_cons (pv 2) (pa_cons pe_int (pa_cons (pe_op op_add pe_int (pe_own c_take hr (by decide) (by rfl) (pa_cons (pv 2) (pa_cons pe_int pa_nil)))) (pa_cons (pe_own c_picked hr (by decide) (by rfl) (pa_cons (pv 2) (pa_cons (pe_listRg rfl (by rfl) B.list (prg_1 (by rfl) B.range pe_int)) (pa_cons pe_int pa_nil)))) pa_nil))))))
      (pss_cons (ps_set (i := 4) sc_law.nd rfl (Or.inl rfl) (pe_lst (pa_cons (pv 3) (pa_cons (pe_own c_bent hr (by decide) (by rfl) (pa_cons (pv 2) (pa_cons (pv 3) pa_nil))) (pa_cons (pe_own c_bent hr (by decide) (by rfl) (pa_cons (pv 2) (pa_cons (pv 3) pa_nil))) pa_nil)))))
      (pss_cons (ps_if (PW.pt (pw_and (pt_val (pe_callB call_isi (by rfl) B.isinstance (by decide +kernel) (pa_cons (pe_ix ix_list (pv 4) pe_int (fun _ _ => rfl)) (pa_cons (pe_bltn (v := .ty "list") (u := .type "list") (by rfl) B.list (by decide +kernel) rfl) pa_nil)))) (pw_and1 (pt_val (pe_callB call_isi (by rfl) B.isinstance (by decide +kernel) (pa_cons (pe_ix ix_list (pv 4) pe_int (fun _ _ => rfl)) (pa_cons (pe_bltn (v := .ty "list") (u := .type "list") (by rfl) B.list (by decide +kernel) rfl) pa_nil))))))) (pss_one (ps_expr (pe_bm PySem.F.plainAttrs_list PySem.F.slot_list_append PySem.F.type_list_append mt_append (pv 4) (pa_cons (pe_op op_cat (pe_slice sl_list (pe_ix ix_list (pv 4) pe_int (fun _ _ => rfl)) po_none (po_some pe_int)) (pe_slice sl_list (pe_ix ix_list (pv 4) pe_int (fun _ _ => rfl)) (po_some pe_int) po_none)) pa_nil)))) pss_nil)
      (pss_one (ps_for PassesOwn.never rfl (pi_list (pv 4)) (pg_name (i := 5) sc_law.nd rfl (Or.inl rfl)) (pss_cons (ps_set (i := 6) sc_law.nd rfl (Or.inl rfl) (pe_callB (call_reprG hg hr.units) (by rfl) B.repr (by decide +kernel) (pa_cons (pv 5) pa_nil)))
      (pss_one (ps_if (PW.pt (pw_or (pt_cmpR op_ne (pe_callB (call_reprG hg hr.units) (by rfl) B.repr (by decide +kernel) (pa_cons (pe_own c_told hr (by decide) (by rfl) (pa_cons (pv 5) pa_nil)) pa_nil)) (pe_callB (call_reprG hg hr.units) (by rfl) B.repr (by decide +kernel) (pa_cons (pe_own c_due hr (by decide) (by rfl) (pa_cons (pv 5) pa_nil)) pa_nil)) (nomark _)) (pw_or1 (pt_cmpR op_ne (pe_callB (call_reprG hg hr.units) (by rfl) B.repr (by decide +kernel) (pa_cons (pv 5) pa_nil)) (pv 6) (nomark _))))) (pss_one (ps_ret pe_bl)) pss_nil))))))))))
      (pss_one (ps_ret pe_bl))), ?_⟩
    obtain ⟨m, hm, hm2⟩ : ∃ m : Nat, (if (if (8 : Int) < ((ns.map V.int).length : Int) then 8 else ((ns.map V.int).length : Int)) > 1 then (if (8 : Int) < ((ns.map V.int).length : Int) then 8 else ((ns.map V.int).length : Int)) else 1) = (m : Int) ∧ m ≤ 8 := by
      rw [List.length_map]
      refine ⟨(if (if (8 : Int) < (ns.length : Int) then 8 else (ns.length : Int)) > 1 then (if (8 : Int) < (ns.length : Int) then 8 else (ns.length : Int)) else 1).toNat, ?_, ?_⟩
      all_goals
        by_cases e1 : (8 : Int) < (ns.length : Int)
        · simp only [e1, if_true]
          decide
        · simp only [e1, if_false]
          split <;> omega
    refine ⟨_, rfl, a, _, rfl, .inl hS, _, _, rfl, _, _, rfl, ?_⟩
    refine ⟨(m : Int), congrArg (fun z => [V.int z]) hm, by omega, by omega, ?_⟩
    rw [show ((m : Int)).toNat = m by omega]
    refine for_range (lo := 0) (n := m) (fun i σ H2 => ∃ y1 y2 y3 y4 y5 y6 : Option V, σ = [some (.ref a), y1, y2, y3, y4, y5, y6] ∧ SqL K H2 a (ns.map V.int)) ?_ ?_ ?_
    · exact ⟨none, none, none, none, none, none, rfl, hS⟩
    · rintro i σ Hs hi ⟨y1, y2, y3, y4, y5, y6, rfl, hSs⟩
      refine ⟨_, rfl, _, rfl, a, ns, _, rfl, hSs, by omega, by omega, fun p H1 s1 np hp1 => ?_⟩
      have back : ∀ {Hn : Hp}, Kept p H1 Hn → SqL K Hn a (ns.map V.int) := fun {Hn} k => Same.seq (fun b o e => k b o (s1 b o e) (ne_of_none e np)) hSs
      refine ⟨_, rfl, _, rfl, p, 4, rfl, hp1, by decide, by decide, fun r o r0 r1 po => ?_⟩
      have k2 : Kept p H1 (upd H1 p o) := Kept.upd p H1 o
      have hp2 : PoolAt (upd H1 p o) p := ⟨o, upd_same, po⟩
      generalize upd H1 p o = H2 at k2 hp2 ⊢
      obtain ⟨dd, hdd⟩ : ∃ dd : Nat, 1 + r = (dd : Int) := ⟨(1 + r).toNat, by omega⟩
      refine ⟨_, _, rfl, rfl, _, rfl, 100, rfl, ⟨by decide, by decide, by decide, by decide, by decide⟩, fun b nb => ?_⟩
      rw [hundred_rg]
      have ebp : b ≠ p := pool_ne hp2 nb
      have sb := same_upd (o := .lst (hundred.map V.int)) nb
      refine ⟨p, b, hundred, _, rfl, hp2.same sb, SqL.of upd_same, ebp, hundred_nd, (by rw [hundred_len]; decide), (by decide), fun ra H3 ms nra k3 hp3 hra nd hsub hml hle => ?_⟩
      have erp : ra ≠ p := (pool_ne (hp2.same sb) nra)
      have hms : ms.length ≤ 1000 := by
        rw [hml, hundred_len]
        omega
      have h99 : ∀ k ∈ ms, 0 ≤ k ∧ k < 100 := fun k hk => hundred_mem (hsub k hk)
      refine ⟨p, ra, 4, dd, ms, (by show [V.ref p, V.int 4, V.int (1 + r), .ref ra] = _; rw [hdd]), hp3, erp, hra, nd, hms, by omega, by omega, by decide, by decide, fun W H4 ws ps nW k4 hp4 hW hpr hpn hno l1 l6 => ?_⟩
      have eWp : W ≠ p := pool_ne hp3 nW
      have tW : TgL p H4 ws ((ps.map fun q => (q.1, gT q.2)).map pT) := prl_tg hpr
      have pf := pn_prf hpn hno h99 (by omega) (by omega)
      have ql1 : 1 ≤ (ps.map fun q => (q.1, gT q.2)).length := by rw [List.length_map]; exact l1
      have ql6 : (ps.map fun q => (q.1, gT q.2)).length ≤ 6 := by rw [List.length_map]; exact l6
      have k14 : Kept p H1 H4 := ((k2.trans (Kept.same sb)).trans k3).trans k4
      generalize ps.map (fun q => (q.1, gT q.2)) = qs at tW pf ql1 ql6
      refine ⟨_, rfl, _, rfl, _, rfl, p, W, ws, qs, rfl, hp4, eWp, hW, tW, pf, ql1, ql6, fun v1 H5 g1 k5 hp5 t1 f1 => ?_⟩
      have hW5 := k5 _ _ hW eWp
      have tW5 := tW.keep (Keeps.of k5 hp4)
      refine ⟨_, rfl, _, rfl, p, W, ws, qs, rfl, hp5, eWp, hW5, tW5, pf, ql1, ql6, fun v2 H6 g2 k6 hp6 t2 f2 => ?_⟩
      have hW6 := k6 _ _ hW5 eWp
      have tW6 := tW5.keep (Keeps.of k6 hp5)
      have t16 := t1.keep (Keeps.of k6 hp5)
      refine ⟨(by show 3 ≤ sizeLine; decide), fun L nL => ?_⟩
      have sL := same_upd (o := .lst [V.ref W, v1, v2]) nL
      have hL := upd_same (H := H6) (a := L) (o := .lst [V.ref W, v1, v2])
      have eLp : L ≠ p := pool_ne hp6 nL
      have nL1 : H1 L = none := ((k14.trans k5).trans k6).free eLp nL
      have k17 : Kept p H1 (upd H6 L (.lst [V.ref W, v1, v2])) := ((k14.trans k5).trans k6).trans (Kept.same sL)
      have t17 := t16.re nL |>.keep (Keeps.same sL)
      have t27 := t2.re nL |>.keep (Keeps.same sL)
      have tW7 := tW6.re nL |>.keep (Keeps.same sL)
      have hW7 := sL _ _ hW6
      have eWL : W ≠ L := ne_of_none hW6 nL
      generalize upd H6 L (.lst [V.ref W, v1, v2]) = H7 at hL k17 t17 t27 tW7 hW7 ⊢
      have fW : ThP (.lst (qs.map pT)) := thP_list (fun x hx => by
        obtain ⟨y, hy, rfl⟩ := List.mem_map.mp hx
        exact (pf y hy).el) (by rw [List.length_map]; omega)
      refine mid_ifGM (M := fun H8 => Kept p H1 H8 ∧ ∃ vs, H8 L = some (.lst vs) ∧ ∀ x ∈ vs, ∃ g, Tg L H8 x g ∧ ThP g) ?rest ?now
      case now =>
        intro D2 hD2
        have three : ∀ x ∈ [V.ref W, v1, v2], ∃ g, Tg L H7 x g ∧ ThP g := by
          intro x hx
          simp only [List.mem_cons, List.not_mem_nil, or_false] at hx
          rcases hx with rfl | rfl | rfl
          · exact ⟨_, .lst eWL hW7 tW7, fW⟩
          · exact ⟨g1, t17, f1⟩
          · exact ⟨g2, t27, f2⟩
        refine ⟨_, rfl, L, _, _, _, rfl, rfl, SqL.of hL, atI_nat (j := 1) rfl, v1, .ty "list", _, _, _, rfl, .ty "list", t17.ty, kit_list g1, _, rfl, iteB (fun e1 => ?_) (fun e1 => ?_)⟩
        rotate_left
        · exact hD2 H7 ⟨k17, _, hL, three⟩
        refine ⟨_, rfl, L, _, _, _, rfl, rfl, SqL.of hL, atI_nat (j := 2) rfl, v2, .ty "list", _, _, _, rfl, .ty "list", t27.ty, kit_list g2, _, rfl, iteB (fun e2 => ?_) (fun e2 => ?_)⟩
        rotate_left
        · exact hD2 H7 ⟨k17, _, hL, three⟩
        cases t17 with
        | @lst b1 vs1 gs1 nb1 hb1 tl1 => cases t27 with
          | @lst b2 vs2 gs2 nb2 hb2 tl2 =>
            refine ⟨_, rfl, .inl ⟨rfl, _, SqL.of hL⟩, ?_⟩
            refine ⟨_, rfl, L, _, _, _, rfl, rfl, SqL.of hL, atI_nat (j := 1) rfl, 1, rfl, b1, vs1, rfl, SqL.of hb1, fun d1 nd1 => ?_⟩
            rw [show cutV vs1 none (some 1) = vs1.take 1 from cut_to vs1 1]
            have u1 := same_upd (o := .lst (vs1.take 1)) nd1
            have hd1 := upd_same (H := H7) (a := d1) (o := .lst (vs1.take 1))
            generalize upd H7 d1 (.lst (vs1.take 1)) = Ha at u1 hd1 ⊢
            refine ⟨_, rfl, L, _, _, _, rfl, rfl, SqL.of (u1 _ _ hL), atI_nat (j := 2) rfl, 1, rfl, b2, vs2, rfl, SqL.of (u1 _ _ hb2), fun d2 nd2 => ?_⟩
            rw [cut_tail]
            have u2 := same_upd (o := .lst (vs2.drop 1)) nd2
            have hd2 := upd_same (H := Ha) (a := d2) (o := .lst (vs2.drop 1))
            generalize upd Ha d2 (.lst (vs2.drop 1)) = Hb at u2 hd2 ⊢
            obtain ⟨l1', el1⟩ := f1.el gs1 rfl
            obtain ⟨l2', el2⟩ := f2.el gs2 rfl
            have n1 := tl1.len
            have n2 := tl2.len
            refine ⟨_, _, _, _, rfl, rfl, u2 _ _ hd1, hd2, ?_, fun d3 nd3 => ?_⟩
            · rw [List.length_take, List.length_drop]
              exact Nat.le_of_lt (small1000 (by omega))
            have u3 := same_upd (o := .lst (vs1.take 1 ++ vs2.drop 1)) nd3
            have hd3 := upd_same (H := Hb) (a := d3) (o := .lst (vs1.take 1 ++ vs2.drop 1))
            generalize upd Hb d3 (.lst (vs1.take 1 ++ vs2.drop 1)) = Hc at u3 hd3 ⊢
            have u := (u1.trans u2).trans u3
            have hLc := u _ _ hL
            have eLd : d3 ≠ L := (ne_of_none ((u1.trans u2) _ _ hL) nd3).symm
            refine ⟨L, _, _, rfl, rfl, hLc, (by show 3 < sizeLine; decide), ?_⟩
            have ku := keepsU (ys := [V.ref W, V.ref b1, V.ref b2] ++ [V.ref d3]) hLc
            refine hD2 _ ⟨(k17.trans (Kept.same u)).set nL1, _, upd_same, fun x hx => ?_⟩
            rcases List.mem_append.mp hx with hx | hx
            · obtain ⟨g, tg, tf⟩ := three x hx
              exact ⟨g, (tg.keep (Keeps.same u)).keep ku, tf⟩
            · rw [List.mem_singleton.mp hx]
              refine ⟨_, (Tg.lst eLd hd3 (((tl1.take 1).app (tl2.drop 1)).keep (Keeps.same u))).keep ku, thP_list (fun y hy => ?_) ?_⟩
              · rcases List.mem_append.mp hy with hy | hy
                · exact el1 y (List.mem_of_mem_take hy)
                · exact el2 y (List.mem_of_mem_drop hy)
              · rw [List.length_append, List.length_take, List.length_drop]
                omega
          | _ => cases e2
        | _ => cases e1
      case rest =>
        rintro H8 ⟨k8, vs, hL8, things⟩
        refine ⟨_, rfl, L, rfl, ⟨_, SqL.of hL8⟩, ?_⟩
        refine for_list (K := K) (a := L) (xs := vs) (fun j σ H9 => ∃ y5 y6 : Option V, σ = [some (.ref a), some (.int (0 + (i : Int))), some (.ref p), some (.ref W), some (.ref L), y5, y6] ∧ Same H8 H9) ?_ ?_ ?_ ?_
        · exact ⟨_, _, rfl, Same.refl H8⟩
        · rintro j σ H9 _ ⟨_, _, _, s9⟩
          exact SqL.of (s9 _ _ hL8)
        · rintro j x σ H9 hx ⟨y5, y6, rfl, s9⟩
          obtain ⟨g, tg, tf⟩ := things x (List.mem_of_getElem? hx)
          have tg9 := tg.keep (Keeps.same (p := L) s9)
          refine ⟨_, rfl, L, x, g, rfl, tg9, tf.sw, ?_⟩
          refine ⟨_, rfl, L, x, g, rfl, tg9, tf.os, fun u7 Ha sa nu7 hu7 => ?_⟩
          refine ⟨u7 + 1, .ref u7, dueG (lookP g), rfl, due_tg _ hu7, due_shw, ?_⟩
          refine ⟨_, rfl, L, x, g, rfl, tg9.keep (Keeps.same sa), tf.du, fun u8 Hb sb nu8 hu8 => ?_⟩
          refine ⟨u8 + 1, .ref u8, dueG (lookP g), rfl, due_tg _ hu8, due_shw, rfl, _, rfl, iteNS rfl ?_⟩
          refine ⟨_, rfl, L, x, g, rfl, (tg9.keep (Keeps.same sa)).keep (Keeps.same sb), tf.sw, _, rfl, rfl, _, rfl, iteNS rfl ?_⟩
          exact ⟨_, _, rfl, s9.trans (sa.trans sb)⟩
        · rintro σ H9 ⟨y5, y6, rfl, s9⟩
          exact ⟨_, _, _, _, _, _, rfl, back (k8.trans (Kept.same s9))⟩
    · rintro σ H2 ⟨y1, y2, y3, y4, y5, y6, rfl, _⟩
      exact q H2
end
end Su
namespace Su
open PySem PySem.Spec PyProof.Rows L2
theorem at_mk {K : PySem.W.Frag} {h : Heap} {mg : Str → Option Value} {x : Str} {st : Stmt} {f : Addr} {fd : FuncData} {ps : List Str} (X : K.In h) (G : h.Ns mainGlobals mg) (a : PySem.W.nsIn K mainGlobals x = some (some (.ref f))) (F : Fun K x x st f fd) (b : Binds K fd ps []) : At K mg x st ps :=
  ⟨f, fd, F, PySem.W.mg_of X G a, b⟩
theorem all_mk {l : PySem.W.OpenLaw} {w : World} {K : PySem.W.Frag} {h : Heap} {mg : Str → Option Value} {fa f1 f2 f3 f4 f5 f6 f7 f8 f9 f10 f11 f12 f13 f14 f15 f16 f17 f18 f19 f20 f21 f22 f23 f24 f25 f26 f27 f28 f29 f30 f31 f32 f33 : Addr} {g1 g2 g3 g4 g5 : Tok} {C1 : Addr} {cdC1 : ClassData} {fI1 cda1 cc1 : Addr} {oc_1 doc_1 pm_1 ct_1 ccl1 cl_1 : Value} {od_1 an_1 cdd1 cld1 : Option Addr} {q_1 t_1 file1 : Str} {osl1 ccs1 csl1 : Array (Option Value)} {vs1 : Array Value} {tf1 : Tok} {p1_1 p2_1 r1_1 r2_1 r3_1 r4_1 r5_1 r6_1 q1_1 q2_1 q3_1 q4_1 : Pos} {C3 : Addr} {C4 C5 C6 : Addr} {tS : Tok} (X : K.In h) (G : h.Ns mainGlobals mg) (hfa : mg "law" = some (.ref fa))
    {od1 an1 od2 an2 od3 an3 od4 an4 od5 an5 od6 an6 od7 an7 od8 an8 od9 an9 od10 an10 od11 an11 od12 an12 od13 an13 od14 an14 od15 an15 od16 an16 od17 an17 od18 an18 od19 an19 od20 an20 od21 an21 od22 an22 od23 an23 od24 an24 od25 an25 od26 an26 od27 an27 od28 an28 od29 an29 od30 an30 od31 an31 od32 an32 od33 an33 : Option Addr} {sl1 sl2 sl3 sl4 sl5 sl6 sl7 sl8 sl9 sl10 sl11 sl12 sl13 sl14 sl15 sl16 sl17 sl18 sl19 sl20 sl21 sl22 sl23 sl24 sl25 sl26 sl27 sl28 sl29 sl30 sl31 sl32 sl33 : Array (Option Value)} {oc1 kV1 dc1 pm1 cd1 ct1 oc2 kV2 dc2 pm2 cd2 ct2 oc3 kV3 dc3 pm3 cd3 ct3 oc4 kV4 dc4 pm4 cd4 ct4 oc5 kV5 dc5 pm5 cd5 ct5 oc6 kV6 dc6 pm6 cd6 ct6 oc7 kV7 dc7 pm7 cd7 ct7 oc8 kV8 dc8 pm8 cd8 ct8 oc9 kV9 dc9 pm9 cd9 ct9 oc10 kV10 dc10 pm10 cd10 ct10 oc11 kV11 dc11 pm11 cd11 ct11 oc12 kV12 dc12 pm12 cd12 ct12 oc13 kV13 dc13 pm13 cd13 ct13 oc14 kV14 dc14 pm14 cd14 ct14 oc15 kV15 dc15 pm15 cd15 ct15 oc16 kV16 dc16 pm16 cd16 ct16 oc17 kV17 dc17 pm17 cd17 ct17 oc18 kV18 dc18 pm18 cd18 ct18 oc19 kV19 dc19 pm19 cd19 ct19 oc20 kV20 dc20 pm20 cd20 ct20 oc21 kV21 dc21 pm21 cd21 ct21 oc22 kV22 dc22 pm22 cd22 ct22 oc23 kV23 dc23 pm23 cd23 ct23 oc24 kV24 dc24 pm24 cd24 ct24 oc25 kV25 dc25 pm25 cd25 ct25 oc26 kV26 dc26 pm26 cd26 ct26 oc27 kV27 dc27 pm27 cd27 ct27 oc28 kV28 dc28 pm28 cd28 ct28 oc29 kV29 dc29 pm29 cd29 ct29 oc30 kV30 dc30 pm30 cd30 ct30 oc31 kV31 dc31 pm31 cd31 ct31 oc32 kV32 dc32 pm32 cd32 ct32 oc33 kV33 dc33 pm33 cd33 ct33 : Value}
    (a1 : PySem.W.nsIn K mainGlobals "is_whole" = some (some (.ref f1))) (l1 : K.lookup f1 = some ⟨oc1, od1, .func (PySem.W.fnOf "is_whole" "is_whole" (defArgs s_is_whole) (defBody s_is_whole) (defScope s_is_whole) .none kV1 dc1 pm1 an1 cd1 ct1), sl1⟩) (c1 : PySem.W.codeIn K cd1 "is_whole" = true) (k1 : PySem.W.keepIn K (.ref f1) = true)
    (a2 : PySem.W.nsIn K mainGlobals "is_room" = some (some (.ref f2))) (l2 : K.lookup f2 = some ⟨oc2, od2, .func (PySem.W.fnOf "is_room" "is_room" (defArgs s_is_room) (defBody s_is_room) (defScope s_is_room) .none kV2 dc2 pm2 an2 cd2 ct2), sl2⟩) (c2 : PySem.W.codeIn K cd2 "is_room" = true) (k2 : PySem.W.keepIn K (.ref f2) = true)
    (a3 : PySem.W.nsIn K mainGlobals "are_rising" = some (some (.ref f3))) (l3 : K.lookup f3 = some ⟨oc3, od3, .func (PySem.W.fnOf "are_rising" "are_rising" (defArgs s_are_rising) (defBody s_are_rising) (defScope s_are_rising) .none kV3 dc3 pm3 an3 cd3 ct3), sl3⟩) (c3 : PySem.W.codeIn K cd3 "are_rising" = true) (k3 : PySem.W.keepIn K (.ref f3) = true)
    (a4 : PySem.W.nsIn K mainGlobals "are_rooms" = some (some (.ref f4))) (l4 : K.lookup f4 = some ⟨oc4, od4, .func (PySem.W.fnOf "are_rooms" "are_rooms" (defArgs s_are_rooms) (defBody s_are_rooms) (defScope s_are_rooms) .none kV4 dc4 pm4 an4 cd4 ct4), sl4⟩) (c4 : PySem.W.codeIn K cd4 "are_rooms" = true) (k4 : PySem.W.keepIn K (.ref f4) = true)
    (a5 : PySem.W.nsIn K mainGlobals "are_letters" = some (some (.ref f5))) (l5 : K.lookup f5 = some ⟨oc5, od5, .func (PySem.W.fnOf "are_letters" "are_letters" (defArgs s_are_letters) (defBody s_are_letters) (defScope s_are_letters) .none kV5 dc5 pm5 an5 cd5 ct5), sl5⟩) (c5 : PySem.W.codeIn K cd5 "are_letters" = true) (k5 : PySem.W.keepIn K (.ref f5) = true)
    (a6 : PySem.W.nsIn K mainGlobals "is_name" = some (some (.ref f6))) (l6 : K.lookup f6 = some ⟨oc6, od6, .func (PySem.W.fnOf "is_name" "is_name" (defArgs s_is_name) (defBody s_is_name) (defScope s_is_name) .none kV6 dc6 pm6 an6 cd6 ct6), sl6⟩) (c6 : PySem.W.codeIn K cd6 "is_name" = true) (k6 : PySem.W.keepIn K (.ref f6) = true)
    (a7 : PySem.W.nsIn K mainGlobals "are_times" = some (some (.ref f7))) (l7 : K.lookup f7 = some ⟨oc7, od7, .func (PySem.W.fnOf "are_times" "are_times" (defArgs s_are_times) (defBody s_are_times) (defScope s_are_times) .none kV7 dc7 pm7 an7 cd7 ct7), sl7⟩) (c7 : PySem.W.codeIn K cd7 "are_times" = true) (k7 : PySem.W.keepIn K (.ref f7) = true)
    (a8 : PySem.W.nsIn K mainGlobals "are_terms" = some (some (.ref f8))) (l8 : K.lookup f8 = some ⟨oc8, od8, .func (PySem.W.fnOf "are_terms" "are_terms" (defArgs s_are_terms) (defBody s_are_terms) (defScope s_are_terms) .none kV8 dc8 pm8 an8 cd8 ct8), sl8⟩) (c8 : PySem.W.codeIn K cd8 "are_terms" = true) (k8 : PySem.W.keepIn K (.ref f8) = true)
    (a9 : PySem.W.nsIn K mainGlobals "is_term" = some (some (.ref f9))) (l9 : K.lookup f9 = some ⟨oc9, od9, .func (PySem.W.fnOf "is_term" "is_term" (defArgs s_is_term) (defBody s_is_term) (defScope s_is_term) .none kV9 dc9 pm9 an9 cd9 ct9), sl9⟩) (c9 : PySem.W.codeIn K cd9 "is_term" = true) (k9 : PySem.W.keepIn K (.ref f9) = true)
    (a10 : PySem.W.nsIn K mainGlobals "is_named_term" = some (some (.ref f10))) (l10 : K.lookup f10 = some ⟨oc10, od10, .func (PySem.W.fnOf "is_named_term" "is_named_term" (defArgs s_is_named_term) (defBody s_is_named_term) (defScope s_is_named_term) .none kV10 dc10 pm10 an10 cd10 ct10), sl10⟩) (c10 : PySem.W.codeIn K cd10 "is_named_term" = true) (k10 : PySem.W.keepIn K (.ref f10) = true)
    (a11 : PySem.W.nsIn K mainGlobals "terms_within" = some (some (.ref f11))) (l11 : K.lookup f11 = some ⟨oc11, od11, .func (PySem.W.fnOf "terms_within" "terms_within" (defArgs s_terms_within) (defBody s_terms_within) (defScope s_terms_within) .none kV11 dc11 pm11 an11 cd11 ct11), sl11⟩) (c11 : PySem.W.codeIn K cd11 "terms_within" = true) (k11 : PySem.W.keepIn K (.ref f11) = true)
    (a12 : PySem.W.nsIn K mainGlobals "calls_only" = some (some (.ref f12))) (l12 : K.lookup f12 = some ⟨oc12, od12, .func (PySem.W.fnOf "calls_only" "calls_only" (defArgs s_calls_only) (defBody s_calls_only) (defScope s_calls_only) .none kV12 dc12 pm12 an12 cd12 ct12), sl12⟩) (c12 : PySem.W.codeIn K cd12 "calls_only" = true) (k12 : PySem.W.keepIn K (.ref f12) = true)
    (a13 : PySem.W.nsIn K mainGlobals "names_behind" = some (some (.ref f13))) (l13 : K.lookup f13 = some ⟨oc13, od13, .func (PySem.W.fnOf "names_behind" "names_behind" (defArgs s_names_behind) (defBody s_names_behind) (defScope s_names_behind) .none kV13 dc13 pm13 an13 cd13 ct13), sl13⟩) (c13 : PySem.W.codeIn K cd13 "names_behind" = true) (k13 : PySem.W.keepIn K (.ref f13) = true)
    (a14 : PySem.W.nsIn K mainGlobals "look_at_program" = some (some (.ref f14))) (l14 : K.lookup f14 = some ⟨oc14, od14, .func (PySem.W.fnOf "look_at_program" "look_at_program" (defArgs s_look_at_program) (defBody s_look_at_program) (defScope s_look_at_program) .none kV14 dc14 pm14 an14 cd14 ct14), sl14⟩) (c14 : PySem.W.codeIn K cd14 "look_at_program" = true) (k14 : PySem.W.keepIn K (.ref f14) = true)
    (a15 : PySem.W.nsIn K mainGlobals "_law_pool" = some (some (.ref f15))) (l15 : K.lookup f15 = some ⟨oc15, od15, .func (PySem.W.fnOf "_law_pool" "_law_pool" (defArgs s_law_pool) (defBody s_law_pool) (defScope s_law_pool) .none kV15 dc15 pm15 an15 cd15 ct15), sl15⟩) (c15 : PySem.W.codeIn K cd15 "_law_pool" = true) (k15 : PySem.W.keepIn K (.ref f15) = true)
    (a16 : PySem.W.nsIn K mainGlobals "_law_take" = some (some (.ref f16))) (l16 : K.lookup f16 = some ⟨oc16, od16, .func (PySem.W.fnOf "_law_take" "_law_take" (defArgs s_law_take) (defBody s_law_take) (defScope s_law_take) .none kV16 dc16 pm16 an16 cd16 ct16), sl16⟩) (c16 : PySem.W.codeIn K cd16 "_law_take" = true) (k16 : PySem.W.keepIn K (.ref f16) = true)
    (a17 : PySem.W.nsIn K mainGlobals "_law_picked" = some (some (.ref f17))) (l17 : K.lookup f17 = some ⟨oc17, od17, .func (PySem.W.fnOf "_law_picked" "_law_picked" (defArgs s_law_picked) (defBody s_law_picked) (defScope s_law_picked) .none kV17 dc17 pm17 an17 cd17 ct17), sl17⟩) (c17 : PySem.W.codeIn K cd17 "_law_picked" = true) (k17 : PySem.W.keepIn K (.ref f17) = true)
    (a18 : PySem.W.nsIn K mainGlobals "_law_names" = some (some (.ref f18))) (l18 : K.lookup f18 = some ⟨oc18, od18, .func (PySem.W.fnOf "_law_names" "_law_names" (defArgs s_law_names) (defBody s_law_names) (defScope s_law_names) .none kV18 dc18 pm18 an18 cd18 ct18), sl18⟩) (c18 : PySem.W.codeIn K cd18 "_law_names" = true) (k18 : PySem.W.keepIn K (.ref f18) = true)
    (a19 : PySem.W.nsIn K mainGlobals "_law_term" = some (some (.ref f19))) (l19 : K.lookup f19 = some ⟨oc19, od19, .func (PySem.W.fnOf "_law_term" "_law_term" (defArgs s_law_term) (defBody s_law_term) (defScope s_law_term) .none kV19 dc19 pm19 an19 cd19 ct19), sl19⟩) (c19 : PySem.W.codeIn K cd19 "_law_term" = true) (k19 : PySem.W.keepIn K (.ref f19) = true)
    (a20 : PySem.W.nsIn K mainGlobals "_law_program" = some (some (.ref f20))) (l20 : K.lookup f20 = some ⟨oc20, od20, .func (PySem.W.fnOf "_law_program" "_law_program" (defArgs s_law_program) (defBody s_law_program) (defScope s_law_program) .none kV20 dc20 pm20 an20 cd20 ct20), sl20⟩) (c20 : PySem.W.codeIn K cd20 "_law_program" = true) (k20 : PySem.W.keepIn K (.ref f20) = true)
    (a21 : PySem.W.nsIn K mainGlobals "_law_is_name" = some (some (.ref f21))) (l21 : K.lookup f21 = some ⟨oc21, od21, .func (PySem.W.fnOf "_law_is_name" "_law_is_name" (defArgs s_law_is_name) (defBody s_law_is_name) (defScope s_law_is_name) .none kV21 dc21 pm21 an21 cd21 ct21), sl21⟩) (c21 : PySem.W.codeIn K cd21 "_law_is_name" = true) (k21 : PySem.W.keepIn K (.ref f21) = true)
    (a22 : PySem.W.nsIn K mainGlobals "_law_whole" = some (some (.ref f22))) (l22 : K.lookup f22 = some ⟨oc22, od22, .func (PySem.W.fnOf "_law_whole" "_law_whole" (defArgs s_law_whole) (defBody s_law_whole) (defScope s_law_whole) .none kV22 dc22 pm22 an22 cd22 ct22), sl22⟩) (c22 : PySem.W.codeIn K cd22 "_law_whole" = true) (k22 : PySem.W.keepIn K (.ref f22) = true)
    (a23 : PySem.W.nsIn K mainGlobals "_law_are_rooms" = some (some (.ref f23))) (l23 : K.lookup f23 = some ⟨oc23, od23, .func (PySem.W.fnOf "_law_are_rooms" "_law_are_rooms" (defArgs s_law_are_rooms) (defBody s_law_are_rooms) (defScope s_law_are_rooms) .none kV23 dc23 pm23 an23 cd23 ct23), sl23⟩) (c23 : PySem.W.codeIn K cd23 "_law_are_rooms" = true) (k23 : PySem.W.keepIn K (.ref f23) = true)
    (a24 : PySem.W.nsIn K mainGlobals "_law_inner" = some (some (.ref f24))) (l24 : K.lookup f24 = some ⟨oc24, od24, .func (PySem.W.fnOf "_law_inner" "_law_inner" (defArgs s_law_inner) (defBody s_law_inner) (defScope s_law_inner) .none kV24 dc24 pm24 an24 cd24 ct24), sl24⟩) (c24 : PySem.W.codeIn K cd24 "_law_inner" = true) (k24 : PySem.W.keepIn K (.ref f24) = true)
    (a25 : PySem.W.nsIn K mainGlobals "_law_is_term" = some (some (.ref f25))) (l25 : K.lookup f25 = some ⟨oc25, od25, .func (PySem.W.fnOf "_law_is_term" "_law_is_term" (defArgs s_law_is_term) (defBody s_law_is_term) (defScope s_law_is_term) .none kV25 dc25 pm25 an25 cd25 ct25), sl25⟩) (c25 : PySem.W.codeIn K cd25 "_law_is_term" = true) (k25 : PySem.W.keepIn K (.ref f25) = true)
    (a26 : PySem.W.nsIn K mainGlobals "_law_grown" = some (some (.ref f26))) (l26 : K.lookup f26 = some ⟨oc26, od26, .func (PySem.W.fnOf "_law_grown" "_law_grown" (defArgs s_law_grown) (defBody s_law_grown) (defScope s_law_grown) .none kV26 dc26 pm26 an26 cd26 ct26), sl26⟩) (c26 : PySem.W.codeIn K cd26 "_law_grown" = true) (k26 : PySem.W.keepIn K (.ref f26) = true)
    (a27 : PySem.W.nsIn K mainGlobals "_law_calls" = some (some (.ref f27))) (l27 : K.lookup f27 = some ⟨oc27, od27, .func (PySem.W.fnOf "_law_calls" "_law_calls" (defArgs s_law_calls) (defBody s_law_calls) (defScope s_law_calls) .none kV27 dc27 pm27 an27 cd27 ct27), sl27⟩) (c27 : PySem.W.codeIn K cd27 "_law_calls" = true) (k27 : PySem.W.keepIn K (.ref f27) = true)
    (a28 : PySem.W.nsIn K mainGlobals "_law_due" = some (some (.ref f28))) (l28 : K.lookup f28 = some ⟨oc28, od28, .func (PySem.W.fnOf "_law_due" "_law_due" (defArgs s_law_due) (defBody s_law_due) (defScope s_law_due) .none kV28 dc28 pm28 an28 cd28 ct28), sl28⟩) (c28 : PySem.W.codeIn K cd28 "_law_due" = true) (k28 : PySem.W.keepIn K (.ref f28) = true)
    (a29 : PySem.W.nsIn K mainGlobals "_law_told" = some (some (.ref f29))) (l29 : K.lookup f29 = some ⟨oc29, od29, .func (PySem.W.fnOf "_law_told" "_law_told" (defArgs s_law_told) (defBody s_law_told) (defScope s_law_told) .none kV29 dc29 pm29 an29 cd29 ct29), sl29⟩) (c29 : PySem.W.codeIn K cd29 "_law_told" = true) (k29 : PySem.W.keepIn K (.ref f29) = true)
    (a30 : PySem.W.nsIn K mainGlobals "_law_nested" = some (some (.ref f30))) (l30 : K.lookup f30 = some ⟨oc30, od30, .func (PySem.W.fnOf "_law_nested" "_law_nested" (defArgs s_law_nested) (defBody s_law_nested) (defScope s_law_nested) .none kV30 dc30 pm30 an30 cd30 ct30), sl30⟩) (c30 : PySem.W.codeIn K cd30 "_law_nested" = true) (k30 : PySem.W.keepIn K (.ref f30) = true)
    (a31 : PySem.W.nsIn K mainGlobals "_law_odd_term" = some (some (.ref f31))) (l31 : K.lookup f31 = some ⟨oc31, od31, .func (PySem.W.fnOf "_law_odd_term" "_law_odd_term" (defArgs s_law_odd_term) (defBody s_law_odd_term) (defScope s_law_odd_term) .none kV31 dc31 pm31 an31 cd31 ct31), sl31⟩) (c31 : PySem.W.codeIn K cd31 "_law_odd_term" = true) (k31 : PySem.W.keepIn K (.ref f31) = true)
    (a32 : PySem.W.nsIn K mainGlobals "_law_bent" = some (some (.ref f32))) (l32 : K.lookup f32 = some ⟨oc32, od32, .func (PySem.W.fnOf "_law_bent" "_law_bent" (defArgs s_law_bent) (defBody s_law_bent) (defScope s_law_bent) .none kV32 dc32 pm32 an32 cd32 ct32), sl32⟩) (c32 : PySem.W.codeIn K cd32 "_law_bent" = true) (k32 : PySem.W.keepIn K (.ref f32) = true)
    (a33 : PySem.W.nsIn K mainGlobals "law" = some (some (.ref f33))) (l33 : K.lookup f33 = some ⟨oc33, od33, .func (PySem.W.fnOf "law" "law" (defArgs s_law) (defBody s_law) (defScope s_law) .none kV33 dc33 pm33 an33 cd33 ct33), sl33⟩) (c33 : PySem.W.codeIn K cd33 "law" = true) (k33 : PySem.W.keepIn K (.ref f33) = true)
    (m1 : PySem.W.nsIn K mainGlobals "LAST_ROOM" = some (some (.int 99 g1)))
    (m2 : PySem.W.nsIn K mainGlobals "LONGEST_NAME" = some (some (.int 6 g2)))
    (m3 : PySem.W.nsIn K mainGlobals "MOST_TUPLES" = some (some (.int 8 g3)))
    (m4 : PySem.W.nsIn K mainGlobals "DEEPEST" = some (some (.int 6 g4)))
    (m5 : PySem.W.nsIn K mainGlobals "MOST_ROUNDS" = some (some (.int 12 g5)))
    (eg1 : PySem.W.nsIn K mainGlobals "NoProgram" = some (some (.ref C1)))
    (ek1 : PySem.W.keepIn K (.ref C1) = true)
    (ex1 : PySem.W.subIn K (.ref C1) (.type "BaseException") = some true)
    (et1 : PySem.W.typeIn K (.ref C1) = some (.type "type"))
    (ec1 : PySem.W.clsIn K C1 = some cdC1)
    (ga1 : PySem.W.findIn K (.ref C1) "__getattribute__" = some (some (.builtin "BaseException.__getattribute__")))
    (gg1 : PySem.W.findIn K (.ref C1) "__getattr__" = some none)
    (gc1 : PySem.W.findIn K (.ref C1) "__class__" = some (some (.builtin "object.__class__")))
    (mo1 : PySem.W.mroIn K C1 (.type "object") = some true)
    (ed1 : PySem.W.hasDictIn K C1 = true)
    (ei1 : PySem.W.excInitIn K C1 [.type "ValueError", .type "Exception", .type "BaseException", .type "object"] "ValueError.__new__" = true)
    (eo1 : PySem.W.excOver K C1 [.type "ValueError", .type "Exception", .type "BaseException", .type "object"] = true)
    (es1 : PySem.W.findIn K (.ref C1) "__setattr__" = some (some (.builtin "object.__setattr__")))
    (en1 : PySem.W.findIn K (.ref C1) "number" = some none)
    (ef1 : PySem.W.findIn K (.ref C1) "__init__" = some (some (.ref fI1)))
    (eh1 : PySem.W.isFn K (.ref fI1) = true)
    (ev1 : PySem.W.subIn K (.ref C1) (.type "ValueError") = some true)
    (eu1 : PySem.W.ks_superIn K C1 C1 "__init__" = some (some (.builtin "ValueError.__init__")))
    (em1 : PySem.W.mroIn K C1 (.ref C1) = some true)
    (el1 : K.lookup fI1 = some ⟨oc_1, od_1, .func (PySem.W.ksFn "__init__" q_1 (XC.inA "number" p1_1 p2_1) (XC.inB "number" t_1 r1_1 r2_1 r3_1 r4_1 r5_1 r6_1 q1_1 q2_1 q3_1 q4_1) (XC.inS "number") .none .none doc_1 pm_1 an_1 (.ref cda1) ct_1 cc1), osl1⟩)
    (eq1 : PySem.W.codeIn K (.ref cda1) q_1 = true)
    (ew1 : K.lookup cda1 = some ⟨ccl1, cdd1, .fields vs1, ccs1⟩)
    (ey1 : vs1[2]? = some (.str file1 tf1))
    (ez1 : ((l.prog.main.file : Str) == file1) = true)
    (ea1 : (r3_1.endLine == r5_1.line) = true)
    (eb1 : K.lookup cc1 = some ⟨cl_1, cld1, .cell (some (.ref C1)), csl1⟩)
    (eg3 : PySem.W.nsIn K mainGlobals "HandError" = some (some (.ref C3)))
    (spG : PySem.W.specialIn K (.builtin "object.__class__") "__get__" = some (some (.builtin "getset_descriptor.__get__")))
    (tkG : PySem.W.takesIn K (.builtin "object.__class__") = some true)
    (nsG : PySem.W.nsIn K mainGlobals "super" = some none)
    (opG : PySem.W.nsIn K cStatics "thirdparty.any" = some none)
    (ntG : (l.prog.main.scope.names.lookup ("super" : Str)).isSome = false)
    (eg4 : PySem.W.nsIn K mainGlobals "NoRun" = some (some (.ref C4)))
    (eg5 : PySem.W.nsIn K mainGlobals "NoText" = some (some (.ref C5)))
    (eg6 : PySem.W.nsIn K mainGlobals "NoWeb" = some (some (.ref C6)))
    (veN : PySem.W.nsIn K mainGlobals "ValueError" = some none)
    (xw : PySem.W.exmOne K (.ref C1) (.ref C3) = some true)
    (iww : PySem.W.kitOne K (.ref C1) (.ref C1) = some true)
    (iwv : PySem.W.kitOne K (.ref C1) (.type "ValueError") = some true)
    (iwo : PySem.W.kitAny K (.ref C1) [.ref C4, .ref C5] = some false)
    (iw6 : PySem.W.kitOne K (.ref C1) (.ref C6) = some false)
    (mS : PySem.W.nsIn K mainGlobals "SMALL_LETTERS" = some (some (.str lett tS)))
    (z1 : PySem.W.nsIn K mainGlobals "len" = some none) (z2 : PySem.W.nsIn K mainGlobals "sum" = some none) (z3 : PySem.W.nsIn K mainGlobals "abs" = some none) (z4 : PySem.W.nsIn K mainGlobals "int" = some none) (z5 : PySem.W.nsIn K mainGlobals "min" = some none) (z6 : PySem.W.nsIn K mainGlobals "max" = some none) (z7 : PySem.W.nsIn K mainGlobals "range" = some none) (z8 : PySem.W.nsIn K mainGlobals "sorted" = some none) (z9 : PySem.W.nsIn K mainGlobals "list" = some none) (z10 : PySem.W.nsIn K mainGlobals "tuple" = some none) (z11 : PySem.W.nsIn K mainGlobals "repr" = some none) (z12 : PySem.W.nsIn K mainGlobals "set" = some none) (z13 : PySem.W.nsIn K mainGlobals "all" = some none) (z14 : PySem.W.nsIn K mainGlobals "isinstance" = some none) (z15 : PySem.W.nsIn K mainGlobals "str" = some none) (z16 : PySem.W.nsIn K mainGlobals "bool" = some none) (z17 : PySem.W.nsIn K mainGlobals "reversed" = some none) (z18 : PySem.W.nsIn K mainGlobals "enumerate" = some none) (z19 : PySem.W.nsIn K mainGlobals "zip" = some none) (z20 : PySem.W.nsIn K mainGlobals "any" = some none) (z21 : PySem.W.nsIn K mainGlobals "dict" = some none) :
    ∃ fd : FuncData, (∀ (s : Shared) (v : Value), BindsTo s fd ⟨[v], []⟩ [("_law_script", v)]) ∧ ∀ base : Heap, K.In base → base.Ns mainGlobals mg → FnG l.prog w K mg base CX0 21 fa fd ["_law_script"] (spLaw K) := by
  have e := hfa.symm.trans (PySem.W.mg_of X G a33)
  cases e
  have B : Bt mg := ⟨PySem.W.mg_none_of X G z1, PySem.W.mg_none_of X G z2, PySem.W.mg_none_of X G z3, PySem.W.mg_none_of X G z4, PySem.W.mg_none_of X G z5, PySem.W.mg_none_of X G z6, PySem.W.mg_none_of X G z7, PySem.W.mg_none_of X G z8, PySem.W.mg_none_of X G z9, PySem.W.mg_none_of X G z10, PySem.W.mg_none_of X G z11, PySem.W.mg_none_of X G z12, PySem.W.mg_none_of X G z13, PySem.W.mg_none_of X G z14, PySem.W.mg_none_of X G z15, PySem.W.mg_none_of X G z16, PySem.W.mg_none_of X G z17, PySem.W.mg_none_of X G z18, PySem.W.mg_none_of X G z19, PySem.W.mg_none_of X G z20, PySem.W.mg_none_of X G z21⟩
  have F1 := fun_mk (st := s_is_whole) l1 c1 k1
  have b1 := F1.binds (ps := ["thing"]) fun _ _ _ _ _ _ us hl => match us, hl with | [_], _ => rfl
  have T1 := at_mk X G a1 F1 b1
  have F2 := fun_mk (st := s_is_room) l2 c2 k2
  have b2 := F2.binds (ps := ["thing"]) fun _ _ _ _ _ _ us hl => match us, hl with | [_], _ => rfl
  have T2 := at_mk X G a2 F2 b2
  have F3 := fun_mk (st := s_are_rising) l3 c3 k3
  have b3 := F3.binds (ps := ["numbers"]) fun _ _ _ _ _ _ us hl => match us, hl with | [_], _ => rfl
  have T3 := at_mk X G a3 F3 b3
  have F4 := fun_mk (st := s_are_rooms) l4 c4 k4
  have b4 := F4.binds (ps := ["thing", "least", "most"]) fun _ _ _ _ _ _ us hl => match us, hl with | [_, _, _], _ => rfl
  have T4 := at_mk X G a4 F4 b4
  have F5 := fun_mk (st := s_are_letters) l5 c5 k5
  have b5 := F5.binds (ps := ["thing", "most"]) fun _ _ _ _ _ _ us hl => match us, hl with | [_, _], _ => rfl
  have T5 := at_mk X G a5 F5 b5
  have F6 := fun_mk (st := s_is_name) l6 c6 k6
  have b6 := F6.binds (ps := ["thing"]) fun _ _ _ _ _ _ us hl => match us, hl with | [_], _ => rfl
  have T6 := at_mk X G a6 F6 b6
  have F7 := fun_mk (st := s_are_times) l7 c7 k7
  have b7 := F7.binds (ps := ["least", "most"]) fun _ _ _ _ _ _ us hl => match us, hl with | [_, _], _ => rfl
  have T7 := at_mk X G a7 F7 b7
  have F8 := fun_mk (st := s_are_terms) l8 c8 k8
  have b8 := F8.binds (ps := ["thing", "least", "most", "deep"]) fun _ _ _ _ _ _ us hl => match us, hl with | [_, _, _, _], _ => rfl
  have T8 := at_mk X G a8 F8 b8
  have F9 := fun_mk (st := s_is_term) l9 c9 k9
  have b9 := F9.binds (ps := ["thing", "deep"]) fun _ _ _ _ _ _ us hl => match us, hl with | [_, _], _ => rfl
  have T9 := at_mk X G a9 F9 b9
  have F10 := fun_mk (st := s_is_named_term) l10 c10 k10
  have b10 := F10.binds (ps := ["thing"]) fun _ _ _ _ _ _ us hl => match us, hl with | [_], _ => rfl
  have T10 := at_mk X G a10 F10 b10
  have F11 := fun_mk (st := s_terms_within) l11 c11 k11
  have b11 := F11.binds (ps := ["term"]) fun _ _ _ _ _ _ us hl => match us, hl with | [_], _ => rfl
  have T11 := at_mk X G a11 F11 b11
  have F12 := fun_mk (st := s_calls_only) l12 c12 k12
  have b12 := F12.binds (ps := ["term", "names"]) fun _ _ _ _ _ _ us hl => match us, hl with | [_, _], _ => rfl
  have T12 := at_mk X G a12 F12 b12
  have F13 := fun_mk (st := s_names_behind) l13 c13 k13
  have b13 := F13.binds (ps := ["things", "number"]) fun _ _ _ _ _ _ us hl => match us, hl with | [_, _], _ => rfl
  have T13 := at_mk X G a13 F13 b13
  have F14 := fun_mk (st := s_look_at_program) l14 c14 k14
  have b14 := F14.binds (ps := ["thing"]) fun _ _ _ _ _ _ us hl => match us, hl with | [_], _ => rfl
  have T14 := at_mk X G a14 F14 b14
  have F15 := fun_mk (st := s_law_pool) l15 c15 k15
  have b15 := F15.binds (ps := ["_law_script", "_law_k"]) fun _ _ _ _ _ _ us hl => match us, hl with | [_, _], _ => rfl
  have T15 := at_mk X G a15 F15 b15
  have F16 := fun_mk (st := s_law_take) l16 c16 k16
  have b16 := F16.binds (ps := ["_law_pool_here", "_law_many"]) fun _ _ _ _ _ _ us hl => match us, hl with | [_, _], _ => rfl
  have T16 := at_mk X G a16 F16 b16
  have F17 := fun_mk (st := s_law_picked) l17 c17 k17
  have b17 := F17.binds (ps := ["_law_pool_here", "_law_some", "_law_many"]) fun _ _ _ _ _ _ us hl => match us, hl with | [_, _, _], _ => rfl
  have T17 := at_mk X G a17 F17 b17
  have F18 := fun_mk (st := s_law_names) l18 c18 k18
  have b18 := F18.binds (ps := ["_law_pool_here", "_law_many"]) fun _ _ _ _ _ _ us hl => match us, hl with | [_, _], _ => rfl
  have T18 := at_mk X G a18 F18 b18
  have F19 := fun_mk (st := s_law_term) l19 c19 k19
  have b19 := F19.binds (ps := ["_law_pool_here", "_law_deep", "_law_names_here", "_law_some"]) fun _ _ _ _ _ _ us hl => match us, hl with | [_, _, _, _], _ => rfl
  have T19 := at_mk X G a19 F19 b19
  have F20 := fun_mk (st := s_law_program) l20 c20 k20
  have b20 := F20.binds (ps := ["_law_pool_here", "_law_most", "_law_deep", "_law_some"]) fun _ _ _ _ _ _ us hl => match us, hl with | [_, _, _, _], _ => rfl
  have T20 := at_mk X G a20 F20 b20
  have F21 := fun_mk (st := s_law_is_name) l21 c21 k21
  have b21 := F21.binds (ps := ["_law_thing"]) fun _ _ _ _ _ _ us hl => match us, hl with | [_], _ => rfl
  have T21 := at_mk X G a21 F21 b21
  have F22 := fun_mk (st := s_law_whole) l22 c22 k22
  have b22 := F22.binds (ps := ["_law_thing"]) fun _ _ _ _ _ _ us hl => match us, hl with | [_], _ => rfl
  have T22 := at_mk X G a22 F22 b22
  have F23 := fun_mk (st := s_law_are_rooms) l23 c23 k23
  have b23 := F23.binds (ps := ["_law_thing", "_law_least"]) fun _ _ _ _ _ _ us hl => match us, hl with | [_, _], _ => rfl
  have T23 := at_mk X G a23 F23 b23
  have F24 := fun_mk (st := s_law_inner) l24 c24 k24
  have b24 := F24.binds (ps := ["_law_thing"]) fun _ _ _ _ _ _ us hl => match us, hl with | [_], _ => rfl
  have T24 := at_mk X G a24 F24 b24
  have F25 := fun_mk (st := s_law_is_term) l25 c25 k25
  have b25 := F25.binds (ps := ["_law_thing"]) fun _ _ _ _ _ _ us hl => match us, hl with | [_], _ => rfl
  have T25 := at_mk X G a25 F25 b25
  have F26 := fun_mk (st := s_law_grown) l26 c26 k26
  have b26 := F26.binds (ps := ["_law_some"]) fun _ _ _ _ _ _ us hl => match us, hl with | [_], _ => rfl
  have T26 := at_mk X G a26 F26 b26
  have F27 := fun_mk (st := s_law_calls) l27 c27 k27
  have b27 := F27.binds (ps := ["_law_term_here"]) fun _ _ _ _ _ _ us hl => match us, hl with | [_], _ => rfl
  have T27 := at_mk X G a27 F27 b27
  have F28 := fun_mk (st := s_law_due) l28 c28 k28
  have b28 := F28.binds (ps := ["_law_thing"]) fun _ _ _ _ _ _ us hl => match us, hl with | [_], _ => rfl
  have T28 := at_mk X G a28 F28 b28
  have F29 := fun_mk (st := s_law_told) l29 c29 k29
  have b29 := F29.binds (ps := ["_law_thing"]) fun _ _ _ _ _ _ us hl => match us, hl with | [_], _ => rfl
  have T29 := at_mk X G a29 F29 b29
  have F30 := fun_mk (st := s_law_nested) l30 c30 k30
  have b30 := F30.binds (ps := ["_law_word", "_law_many"]) fun _ _ _ _ _ _ us hl => match us, hl with | [_, _], _ => rfl
  have T30 := at_mk X G a30 F30 b30
  have F31 := fun_mk (st := s_law_odd_term) l31 c31 k31
  have b31 := F31.binds (ps := ["_law_pool_here", "_law_own"]) fun _ _ _ _ _ _ us hl => match us, hl with | [_, _], _ => rfl
  have T31 := at_mk X G a31 F31 b31
  have F32 := fun_mk (st := s_law_bent) l32 c32 k32
  have b32 := F32.binds (ps := ["_law_pool_here", "_law_program_here"]) fun _ _ _ _ _ _ us hl => match us, hl with | [_, _], _ => rfl
  have T32 := at_mk X G a32 F32 b32
  have F33 := fun_mk (st := s_law) l33 c33 k33
  refine ⟨PySem.W.fnOf "law" "law" (defArgs s_law) (defBody s_law) (defScope s_law) .none kV33 dc33 pm33 an33 cd33 ct33, fun s v => .of_eq rfl, fun base _ _ => ?_⟩
  have O1 : XC.Own l.prog K mg "NoProgram" "number" C1 fI1 "ValueError" "ValueError.__new__" "ValueError.__init__" [.type "ValueError", .type "Exception", .type "BaseException", .type "object"] := ⟨XC.fld_number, PySem.W.mg_of X G eg1, ei1, eo1, PySem.F.excBase_ValueError, PySem.F.store_ValueError, PySem.W.kxs_ValueError, es1, en1, ef1, eh1, ek1, ex1, et1, ed1, ev1, eu1, em1, PySem.W.mg_none_of X G nsG, opG, ntG, _, _, _, _, _, _, _, _, _, _, _, _, _, _, _, _, _, _, _, _, _, _, _, _, _, _, _, _, _, _, _, _, el1, eq1, ew1, ey1, ez1, ea1, eb1⟩
  have ET : ErrP K mg C1 C3 C4 C5 C6 := ⟨PySem.W.mg_of X G eg3, xw, PySem.W.mg_of X G eg1, PySem.W.mg_of X G eg4, PySem.W.mg_of X G eg5, PySem.W.mg_of X G eg6, PySem.W.mg_none_of X G veN, ⟨by rw [ec1]; rfl, ga1, gg1, ex1, gc1, spG, tkG, mo1, ed1⟩, en1, iww, iwv, iwo, iw6⟩
  have D : GbP mg := ⟨⟨_, PySem.W.mg_of X G mS⟩, ⟨_, PySem.W.mg_of X G m2⟩, ⟨_, PySem.W.mg_of X G m3⟩, ⟨_, PySem.W.mg_of X G m4⟩, ⟨_, PySem.W.mg_of X G m5⟩⟩
  have v1 := ok_whole (P := l.prog) (w := w) (base := base) T1 B
  have v2 := ok_room (P := l.prog) (w := w) (base := base) T2 ⟨_, PySem.W.mg_of X G m1⟩ v1
  have v3 := ok_rising (P := l.prog) (w := w) (base := base) T3 B
  have v4 := ok_rooms (P := l.prog) (w := w) (base := base) T4 B v2 v3
  have v5 := ok_name (P := l.prog) (w := w) (base := base) T6 D (ok_letters T5 B D)
  have v6 := ok_times (P := l.prog) (w := w) (base := base) T7 D v1
  have v7 := ok_is_term (P := l.prog) (w := w) (base := base) T9 T8 B v6 v5 v4 6
  have v8 := ok_named (P := l.prog) (w := w) (base := base) T10 B D v5 v7
  have v9 := ok_calls (P := l.prog) (w := w) (base := base) T12 B (ok_withinG T11) 6
  have va := ok_lookP (P := l.prog) (w := w) (base := base) O1 T14 B D v8 v9 (ok_behind T13 B v5)
  have t1 := ok_take (P := l.prog) (w := w) (base := base) T16
  have t2 := ok_picked (P := l.prog) (w := w) (base := base) T17 B t1
  have u1 := ok_lwhole (P := l.prog) (w := w) (base := base) T22 B
  have u2 := ok_lname (P := l.prog) (w := w) (base := base) T21 B
  have u3 := ok_lrooms (P := l.prog) (w := w) (base := base) T23 B u1
  have u4 := ok_linner (P := l.prog) (w := w) (base := base) T24 B u1 u2 u3
  have u5 := ok_lgrown (P := l.prog) (w := w) (base := base) T26 B u4
  have u6 := ok_lterm (P := l.prog) (w := w) (base := base) T25 B u5 u4
  have u7 := ok_lcalls (P := l.prog) (w := w) (base := base) T27 B u5
  have u8 := ok_program (P := l.prog) (w := w) (base := base) T20 B t1 (ok_names T18 B t1) (ok_term T19 B t1 t2)
  exact ok_law F33 B ⟨t1, t2, ok_pool T15 B, u8, ok_bent T32 B t1 (ok_oddterm T31 B t1 (ok_nested T30 B)), ok_ldue T28 B u2 u6 u7, ok_told ET T29 B va⟩
end Su
open PySem PySem.W PyProof.Rows
set_option maxRecDepth 100000 in
set_option maxHeartbeats 0 in
theorem PySem.Challenge.cw_surehand_k08_programs_looked_at_holds : PySem.Challenge.rw_surehand_k08_programs_looked_at.Holds := by
  w_on; o_law; k_head; (case hw => w_witness2)
  k_fill
  refine Su.walk_ofG (l := PySem.Challenge.rw_surehand_k08_programs_looked_at) (n := 63) (k := 21) (x := "_law_script") (CX := L2.CX0) (sp := Su.spLaw) rfl (by decide) rfl ⟨rfl, by decide, by decide⟩ (fun w h Y => PySem.W.kIn_of Y) ?F (fun _ _ a ns hl hS => ⟨a, ns, rfl, hS, hl, fun _ => rfl⟩) (fun _ _ _ _ h => h)
  case F =>
    intro w mg fa h KX G hmg
    refine' Su.all_mk KX G hmg ?a1 ?l1 ?c1 ?k1 ?a2 ?l2 ?c2 ?k2 ?a3 ?l3 ?c3 ?k3 ?a4 ?l4 ?c4 ?k4 ?a5 ?l5 ?c5 ?k5 ?a6 ?l6 ?c6 ?k6 ?a7 ?l7 ?c7 ?k7 ?a8 ?l8 ?c8 ?k8 ?a9 ?l9 ?c9 ?k9 ?a10 ?l10 ?c10 ?k10 ?a11 ?l11 ?c11 ?k11 ?a12 ?l12 ?c12 ?k12 ?a13 ?l13 ?c13 ?k13 ?a14 ?l14 ?c14 ?k14 ?a15 ?l15 ?c15 ?k15 ?a16 ?l16 ?c16 ?k16 ?a17 ?l17 ?c17 ?k17 ?a18 ?l18 ?c18 ?k18 ?a19 ?l19 ?c19 ?k19 ?a20 ?l20 ?c20 ?k20 ?a21 ?l21 ?c21 ?k21 ?a22 ?l22 ?c22 ?k22 ?a23 ?l23 ?c23 ?k23 ?a24 ?l24 ?c24 ?k24 ?a25 ?l25 ?c25 ?k25 ?a26 ?l26 ?c26 ?k26 ?a27 ?l27 ?c27 ?k27 ?a28 ?l28 ?c28 ?k28 ?a29 ?l29 ?c29 ?k29 ?a30 ?l30 ?c30 ?k30 ?a31 ?l31 ?c31 ?k31 ?a32 ?l32 ?c32 ?k32 ?a33 ?l33 ?c33 ?k33 ?m1 ?m2 ?m3 ?m4 ?m5 ?eg1 ?ek1 ?ex1 ?et1 ?ec1 ?ga1 ?gg1 ?gc1 ?mo1 ?ed1 ?ei1 ?eo1 ?es1 ?en1 ?ef1 ?eh1 ?ev1 ?eu1 ?em1 ?el1 ?eq1 ?ew1 ?ey1 ?ez1 ?ea1 ?eb1 ?eg3 ?spG ?tkG ?nsG ?opG ?ntG ?eg4 ?eg5 ?eg6 ?veN ?xw ?iww ?iwv ?iwo ?iw6 ?mS ?z1 ?z2 ?z3 ?z4 ?z5 ?z6 ?z7 ?z8 ?z9 ?z10 ?z11 ?z12 ?z13 ?z14 ?z15 ?z16 ?z17 ?z18 ?z19 ?z20 ?z21
    (case a1 => k_is); (case l1 => k_is); (case c1 => k_is); (case k1 => k_is); (case a2 => k_is); (case l2 => k_is)
    (case c2 => k_is); (case k2 => k_is); (case a3 => k_is); (case l3 => k_is); (case c3 => k_is); (case k3 => k_is)
    (case a4 => k_is); (case l4 => k_is); (case c4 => k_is); (case k4 => k_is); (case a5 => k_is); (case l5 => k_is)
    (case c5 => k_is); (case k5 => k_is); (case a6 => k_is); (case l6 => k_is); (case c6 => k_is); (case k6 => k_is)
    (case a7 => k_is); (case l7 => k_is); (case c7 => k_is); (case k7 => k_is); (case a8 => k_is); (case l8 => k_is)
    (case c8 => k_is); (case k8 => k_is); (case a9 => k_is); (case l9 => k_is); (case c9 => k_is); (case k9 => k_is)
    (case a10 => k_is); (case l10 => k_is); (case c10 => k_is); (case k10 => k_is); (case a11 => k_is); (case l11 => k_is)
    (case c11 => k_is); (case k11 => k_is); (case a12 => k_is); (case l12 => k_is); (case c12 => k_is); (case k12 => k_is)
    (case a13 => k_is); (case l13 => k_is); (case c13 => k_is); (case k13 => k_is); (case a14 => k_is); (case l14 => k_is)
    (case c14 => k_is); (case k14 => k_is); (case a15 => k_is); (case l15 => k_is); (case c15 => k_is); (case k15 => k_is)
    (case a16 => k_is); (case l16 => k_is); (case c16 => k_is); (case k16 => k_is); (case a17 => k_is); (case l17 => k_is)
    (case c17 => k_is); (case k17 => k_is); (case a18 => k_is); (case l18 => k_is); (case c18 => k_is); (case k18 => k_is)
    (case a19 => k_is); (case l19 => k_is); (case c19 => k_is); (case k19 => k_is); (case a20 => k_is); (case l20 => k_is)
    (case c20 => k_is); (case k20 => k_is); (case a21 => k_is); (case l21 => k_is); (case c21 => k_is); (case k21 => k_is)
    (case a22 => k_is); (case l22 => k_is); (case c22 => k_is); (case k22 => k_is); (case a23 => k_is); (case l23 => k_is)
    (case c23 => k_is); (case k23 => k_is); (case a24 => k_is); (case l24 => k_is); (case c24 => k_is); (case k24 => k_is)
    (case a25 => k_is); (case l25 => k_is); (case c25 => k_is); (case k25 => k_is); (case a26 => k_is); (case l26 => k_is)
    (case c26 => k_is); (case k26 => k_is); (case a27 => k_is); (case l27 => k_is); (case c27 => k_is); (case k27 => k_is)
    (case a28 => k_is); (case l28 => k_is); (case c28 => k_is); (case k28 => k_is); (case a29 => k_is); (case l29 => k_is)
    (case c29 => k_is); (case k29 => k_is); (case a30 => k_is); (case l30 => k_is); (case c30 => k_is); (case k30 => k_is)
    (case a31 => k_is); (case l31 => k_is); (case c31 => k_is); (case k31 => k_is); (case a32 => k_is); (case l32 => k_is)
    (case c32 => k_is); (case k32 => k_is); (case a33 => k_is); (case l33 => k_is); (case c33 => k_is); (case k33 => k_is)
    (case m1 => k_is); (case m2 => k_is); (case m3 => k_is); (case m4 => k_is); (case m5 => k_is); (case eg1 => k_is)
    (case ek1 => k_is); (case ex1 => k_is); (case et1 => k_is); (case ec1 => k_is); (case ga1 => k_is); (case gg1 => k_is)
    (case gc1 => k_is); (case mo1 => k_is); (case ed1 => k_is); (case ei1 => kx_is); (case eo1 => kx_is); (case es1 => k_is)
    (case en1 => k_is); (case ef1 => k_is); (case eh1 => k_is); (case ev1 => k_is); (case eu1 => ks_is); (case em1 => k_is)
    (case el1 => k_is); (case eq1 => k_is); (case ew1 => k_is); (case ey1 => rfl); (case ez1 => first | rfl | decide +kernel); (case ea1 => first | rfl | decide +kernel)
    (case eb1 => k_is); (case eg3 => k_is); (case spG => k_is); (case tkG => k_is); (case nsG => k_is); (case opG => k_is)
    (case ntG => first | rfl | decide +kernel); (case eg4 => k_is); (case eg5 => k_is); (case eg6 => k_is); (case veN => k_is); (case xw => kts_exm)
    (case iww => kit_is); (case iwv => kit_is); (case iwo => kit_is); (case iw6 => kit_is); (case mS => k_is); (case z1 => k_is)
    (case z2 => k_is); (case z3 => k_is); (case z4 => k_is); (case z5 => k_is); (case z6 => k_is); (case z7 => k_is)
    (case z8 => k_is); (case z9 => k_is); (case z10 => k_is); (case z11 => k_is); (case z12 => k_is); (case z13 => k_is)
    (case z14 => k_is); (case z15 => k_is); (case z16 => k_is); (case z17 => k_is); (case z18 => k_is); (case z19 => k_is)
    (case z20 => k_is); (case z21 => k_is)

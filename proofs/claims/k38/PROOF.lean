import PyProof.Rows.All
import Wide.All
import OpenK.AllK
import Wide.FinOn
import HandS.ForMost
import HandS.SortInts
import HandS.TupAny
import HandS.Conv
import KE.KIndexOf
import PyProof.ReprRoads
import PyProof.ReprLen
import HandS.IsInst
import HandS.Strs
import HandS.Rev
import HandS.Style
import HandS.TupLe
import HandS.Zip
import HandS.Comp
import HandS.SetBool
import HandS.SetFor
import HandS.TupMul
import HandS.More
import HandS.ForExc
import HandS.ExcInit
import HandS.ExcValue
import KE.KExcSuper
import KE.KExcIs
import KE.KIsAll
import HandS.Exc
import KE.KExcInit
import KE.KSuper
import HandS.WordsExc
import HandS.ExcOwn
import PyProof.CallFns
import PyProof.WalksMore
import HandS.Defaults
import HandS.Lambda
import PyProof.BootLay
import KE.SortData
import HandS.SortKw
import KE.SortKeyed
import HandS.TryOnly
import KE.KDictZip
import PyProof.ListNew
import HandS.DictComp
import HandS.Iter
import HandS.OwnEq
import KE.KCallOwn
import PyProof.Conv_bool
import PyProof.FactsAll.object
import PyProof.EqKinds
import PyProof.InstEq
import PyProof.InstNe
import HandS.Dict
import PyProof.FactsAll.NoneType
import PyProof.FactsAll.int
import PyProof.FactsAll.bool
import PyProof.FactsAll.str
import PyProof.FactsAll.list
import PyProof.FactsAll.tuple
import PyProof.FactsAll.dict
import KE.KRevSl
import HandS.Text
import PyProof.StrOps2
import KE.DataMinMax
import KE.DataFind
import HandS.TupSets
import KE.KeyNested
import PyProof.DictRoadsH
import PyProof.Rows.TupTab
import PyProof.SetRoads
import HandS.Walk
import HandS.SetKeys
import HandS.TupLen
import KE.KDictCopyH
import KE.KDictWalk
import KE.KDictSum
import KE.KDictPairs
import HandS.EndTab
import HandS.Deep
import HandS.Codes
import HandS.FStr
import HandS.WideBits
import PyProof.ListIndex
import KE.GoesMore
import KE.GoesEnum
import HandS.Flow
import KE.KExcLine
import KE.RegKTryMore
import PyProof.ExcBaseAll.LookupError
import PyProof.ExcBaseAll.ValueError
import PyProof.InstStoreFacts
import PySem.Challenge.RW_surehand_k38_whole_ages_hold
set_option Elab.async false
set_option linter.all false
set_option maxRecDepth 100000
set_option maxHeartbeats 4000000
/-! ### B0: what every law's text uses: a def by its name, calls, the end where nothing is being written out -/
namespace Su
open PySem PySem.Spec PyProof.Rows L2
/-- a def of the text stands under its name -/
structure At (K : PySem.W.Frag) (mg : Str → Option Value) (x : Str) (st : Stmt) (ps : List Str) : Prop where
  ex : ∃ (f : Addr) (fd : FuncData), Fun K x x st f fd ∧ mg x = some (.ref f) ∧ Binds K fd ps []
/-- a def that keeps a promise may be called by its name -/
structure Cal (P : Program) (w : World) (K : PySem.W.Frag) (mg : Str → Option Value) (base : Heap) (k : Nat) (x : Str) (ps : List Str) (sp : Sp) : Prop where
  ex : ∃ (f : Addr) (fd : FuncData), FnOk P w K mg base CX0 k f fd ps sp ∧ mg x = some (.ref f) ∧ PySem.W.keepIn K (.ref f) = true ∧ Binds K fd ps [] ∧ ∃ o : Obj, K.lookup f = some o ∧ o.data = .func fd
section
variable {P : Program} {w : World} {K : PySem.W.Frag} {mg : Str → Option Value} {base : Heap}
theorem cal_of {x : Str} {st : Stmt} {N ps : List Str} {k : Nat} {sp : Sp} (T : At K mg x st ps) (S : FnScope N ps (defScope st)) (len : ∀ vs H Q E, sp vs H Q E → vs.length = ps.length)
    (hb : ∀ (f : Addr) (cdv : Value) (A : Around) (outer : List Env) (s : Shared) (H : Hp) (vs : List V) (Q : VK) (E : XK), Room k (A.deeper (envOfC x (defScope st) s.heap.objs.size f cdv)) → sp vs H Q E →
      ∃ t, PSs (cxOf CX0 P w K mg base N x (defScope st) f cdv A outer s H E).nox (defBody st) t ∧ t { nx := fun _ H' => Q .non H', rt := Q } (start N vs) H) : Cal P w K mg base (k + 1) x ps sp := by
  obtain ⟨f, fd, F, hm, b⟩ := T.ex
  have z : ∃ o : Obj, K.lookup f = some o ∧ o.data = .func fd := by
    obtain ⟨oc, od, kV, doc, pm, an, cdv, ct, osl, _, lk, _⟩ := F.ex
    exact ⟨_, lk, rfl⟩
  exact ⟨f, fd, F.ok S len (fun cdv A outer s H vs Q E => hb f cdv A outer s H vs Q E), hm, F.kp, b, z⟩
end
section
variable {X : Cx} {k j : Nat} {x : Str} {ps : List Str} {sp : Sp} {p pos : Pos} {e : Expr} {es : List Expr} {t : TA}
theorem pe_own (C : Cal X.prog X.w X.K X.mg X.base k x ps sp) (hr : Room j X.A) (hk : k ≤ j) (hg : Gl X x) (ha : PA X (e :: es) t)
    (hdb : (x == ("__debug__" : Str)) = false := by decide) (he : starEach (e :: es) X.env = (false, eval e X.env) :: starEach es X.env := by rfl) (hpl : (backTo pos (starEach es X.env)).any (·.1) = false := by rfl) :
    PE X (.Call (.Name x p) (e :: es) [] pos) (tCall sp [] E0 t) := by
  obtain ⟨f, fd, F, hm, kp, b, _⟩ := C.ex
  exact pe_call F (hr.mono hk) hg hm kp b .nil (fun _ _ _ _ _ _ _ h => h.elim) ha hdb he hpl
end
/-- the same promise, asked only where no object is being written out -/
structure FnG (P : Program) (w : World) (K : PySem.W.Frag) (mg : Str → Option Value) (base : Heap) (CX : CXT) (k : Nat) (f : Addr) (fd : FuncData) (ps : List Str) (sp : Sp) : Prop where
  len : ∀ vs H Q E, sp vs H Q E → vs.length = ps.length
  run : ∀ (A : Around) (outer : List Env) (s : Shared) (H : Hp) (args : Args) (us : List Value) (vs : List V) (Q : VK) (E : XK), A.guards = some [] → Room k A → Env0 P w K mg base A outer s H →
    BindsTo s fd args (ps.zip us) → Vals vs us → sp vs H Q E → codeAny (model P w) A (.call (.ref f) args) (CR CX outer P w H s Q E) s
theorem deeper_guards {A : Around} {e : Env} (h : A.guards = some []) : (A.deeper e).guards = some [] := by
  first
    | exact h
    | simpa [Around.deeper, Around.under, pushGuards, Code.guards, Code.isGuard] using h
theorem fnG_of {CX : CXT} {P : Program} {w : World} {K : PySem.W.Frag} {mg : Str → Option Value} {base : Heap} {k : Nat} {f : Addr} {nm ql : Str} {pr : Arguments} {bd : List Stmt} {sc : Scope} {dv kv dc pm cd ct oc : Value} {an od : Option Addr}
    {sl : Array (Option Value)} {N ps : List Str} {sp : Sp}
    (lk : K.lookup f = some ⟨oc, od, .func (PySem.W.fnOf nm ql pr bd sc dv kv dc pm an cd ct), sl⟩)
    (hcd : PySem.W.codeIn K cd ql = true) (S : FnScope N ps sc) (len : ∀ vs H Q E, sp vs H Q E → vs.length = ps.length)
    (hb : ∀ (A : Around) (outer : List Env) (s : Shared) (H : Hp) (vs : List V) (Q : VK) (E : XK), (A.deeper (envOfC ql sc s.heap.objs.size f cd)).guards = some [] → Room k (A.deeper (envOfC ql sc s.heap.objs.size f cd)) → sp vs H Q E →
      ∃ t, PSs (cxOf CX P w K mg base N ql sc f cd A outer s H E) bd t ∧ t { nx := fun _ H' => Q .non H', rt := Q } (start N vs) H) :
    FnG P w K mg base CX (k + 1) f (PySem.W.fnOf nm ql pr bd sc dv kv dc pm an cd ct) ps sp := by
  refine ⟨len, fun A outer s H args us vs Q E hgd hr e0 hbi rv hs => ?_⟩
  obtain ⟨t, ht, hq⟩ := hb A outer s H vs Q E (deeper_guards hgd) (hr.deeper _) hs
  -- the very same body, as a promise that asks for this surrounding alone
  have kin : K.In s.heap := e0.mod.kin.keeps fun b o z => (e0.bs b o z).1
  have nol : s.heap.NoLimit := e0.mod.nolimit.keeps fun b o z => (e0.bs b o z).1
  refine codeAny_call_function hr.depth (kin _ _ lk) rfl S.co S.gen rfl (PySem.W.codeRec_of kin hcd) (hbi _ _ _ _ ?_)
  refine wpAny_newFunctionEnv_cells S.kind (fun y hy => ?_) fun env he s1 x => ?_
  · rcases S.par y.1 (List.of_mem_zip (show (y.1, y.2) ∈ ps.zip us from hy)).1 with z | z
    · exact Or.inl z
    · exact Or.inr ⟨z, PySem.W.cellsFrom_some _ _ _ (Or.inl z)⟩
  · subst he
    refine ⟨nol.keeps x.toInCall.keep, codeAny_func (wpAny_mono (ht.run [] s1 (start N vs) H _ (inv_start S hr.hd e0 (len _ _ _ _ hs) rv x) hq) (fun fl s' z => ?_) fun _ _ z => z)⟩
    cases fl with
    | ret u =>
      obtain ⟨v, σ', H', J, r', q'⟩ := z
      exact ⟨v, H', J.os, J.bare, J.base, J.hok, r', q'⟩
    | next =>
      obtain ⟨σ', H', J, q'⟩ := z
      exact ⟨V.non, H', J.os, J.bare, J.base, J.hok, rfl, q'⟩
    | brk => exact (z.elim fun _ z => z.elim fun _ z => False.elim z.2)
    | cont => exact (z.elim fun _ z => z.elim fun _ z => False.elim z.2)
theorem hid_ns {h : Heap} {H : Hp} {b : Addr} {m : Str → Option Value} (no : ∀ (o : Obj) (es : Array DictEntry) (ep : Nat), h.get? b = some o → o.data = .dict es ep → H b = none) (n : h.Ns b m) : (hidT h H).Ns b m := by
  obtain ⟨o, es, ep, e, d, r⟩ := n
  exact ⟨o, es, ep, hidT_get e (no o es ep e d), d, r⟩
end Su
/-! ### B1: repr of data, t.index(n), a call by keywords alone, data that is small enough -/
namespace Su
open PySem PySem.Spec PyProof.Rows L2
/-- data of small numbers, of depth n at most, of weight m at most -/
structure Fine (d : PyData) (n m : Nat) : Prop where
  sh : d.showable = true
  nd : d.hasDict = false
  dp : d.depth ≤ n
  lv : d.leavesShort 13 = true
  wt : d.weight ≤ m
  cl : d.canLay0 = true
structure FineL (ds : List PyData) (n m : Nat) : Prop where
  sh : PyData.showableAll ds = true
  nd : PyData.hasDictAll ds = false
  dp : PyData.depthAll ds ≤ n
  lv : PyData.leavesShortAll 13 ds = true
  wt : PyData.weightAll ds ≤ m
  cl : PyData.canLayAll0 ds = true
theorem Fine.int {i : Int} (h1 : -1000000 ≤ i) (h2 : i ≤ 1000000) : Fine (.int i) 0 40 := by
  have hb : i.natAbs < 10 ^ 12 := by omega
  have e : i.natAbs < 2 ^ 20 := by omega
  have hl : i.natAbs.log2 < 39 := by
    by_cases z : i.natAbs = 0
    · rw [z]
      decide
    · exact (Nat.log2_lt z).mpr (by omega)
  refine ⟨?_, by simp [PyData.hasDict], by simp [PyData.depth], ?_, ?_, by first | rfl | simp [PyData.canLay0]⟩
  · simp only [PyData.showable, decide_eq_true_eq]
    omega
  · simp only [PyData.leavesShort, decide_eq_true_eq]
    exact PyData.shown_int_le hb
  · simp only [PyData.weight]
    split <;> omega
theorem Fine.bool (b : Bool) : Fine (.bool b) 0 0 := ⟨by simp [PyData.showable], by simp [PyData.hasDict], by simp [PyData.depth], by simp [PyData.leavesShort], by simp [PyData.weight], by first | rfl | simp [PyData.canLay0]⟩
theorem Fine.none : Fine .none 0 0 := ⟨by simp [PyData.showable], by simp [PyData.hasDict], by simp [PyData.depth], by simp [PyData.leavesShort], by simp [PyData.weight], by first | rfl | simp [PyData.canLay0]⟩
theorem FineL.nil {n : Nat} : FineL [] n 0 := ⟨by simp [PyData.showableAll], by simp [PyData.hasDictAll], by simp [PyData.depthAll], by simp [PyData.leavesShortAll], by simp [PyData.weightAll], by first | rfl | simp [PyData.canLayAll0]⟩
theorem FineL.cons {d : PyData} {ds : List PyData} {n m k : Nat} (h : Fine d n m) (t : FineL ds n k) : FineL (d :: ds) n (m + 1 + k) := by
  refine ⟨?_, ?_, ?_, ?_, ?_, ?_⟩
  · simp only [PyData.showableAll, h.sh, t.sh, Bool.and_self]
  · simp only [PyData.hasDictAll, h.nd, t.nd, Bool.or_self]
  · simp only [PyData.depthAll]
    have := h.dp
    have := t.dp
    omega
  · simp only [PyData.leavesShortAll, h.lv, t.lv, Bool.and_self]
  · simp only [PyData.weightAll]
    have := h.wt
    have := t.wt
    omega
  · simp only [PyData.canLayAll0, h.cl, t.cl, Bool.and_self]
theorem Fine.tuple {ds : List PyData} {n m : Nat} (t : FineL ds n m) : Fine (.tuple ds) (n + 1) m :=
  ⟨by simpa only [PyData.showable] using t.sh, by simpa only [PyData.hasDict] using t.nd, by simp only [PyData.depth]; have := t.dp; omega, by simpa only [PyData.leavesShort] using t.lv, by simpa only [PyData.weight] using t.wt, by simpa only [PyData.canLay0] using t.cl⟩
theorem Fine.list {ds : List PyData} {n m : Nat} (t : FineL ds n m) : Fine (.list ds) (n + 1) m :=
  ⟨by simpa only [PyData.showable] using t.sh, by simpa only [PyData.hasDict] using t.nd, by simp only [PyData.depth]; have := t.dp; omega, by simpa only [PyData.leavesShort] using t.lv, by simpa only [PyData.weight] using t.wt, by simpa only [PyData.canLay0] using t.cl⟩
theorem Fine.up {d : PyData} {n m n' m' : Nat} (h : Fine d n m) (a : n ≤ n') (b : m ≤ m') : Fine d n' m' := ⟨h.sh, h.nd, Nat.le_trans h.dp a, h.lv, Nat.le_trans h.wt b, h.cl⟩
theorem FineL.ints : ∀ ns : List Int, (∀ z ∈ ns, -1000000 ≤ z ∧ z ≤ 1000000) → FineL (ns.map PyData.int) 0 (41 * ns.length)
  | [], _ => FineL.nil
  | z :: ns, h => by
    have a := FineL.cons (Fine.int (h z List.mem_cons_self).1 (h z List.mem_cons_self).2) (FineL.ints ns fun y hy => h y (List.mem_cons_of_mem _ hy))
    have e : 40 + 1 + 41 * ns.length = 41 * (z :: ns).length := by
      rw [List.length_cons]
      omega
    rw [e] at a
    exact a
theorem Fine.len {d : PyData} {n m : Nat} (h : Fine d n m) (hm : m ≤ 1000000) : d.shown.length ≤ sizeLine := PyData.shown_fits (B := 13) (by decide) (by decide) h.lv (by have := h.wt; omega)
theorem Fine.shaped {d : PyData} {n m : Nat} (h : Fine d n m) (hn : n ≤ 64) : SeqAt.shaped d = true := by
  unfold SeqAt.shaped
  rw [h.cl, Bool.true_and, decide_eq_true_eq]
  exact Nat.le_trans h.dp hn
theorem Fine.eqv {d : PyData} {n m : Nat} (h : Fine d n m) : PyData.eqv d d = true := SeqAt.eqv_refl d h.cl
section
variable {X : Cx}
theorem ints_of : ∀ {ns : List Int} {vs : List Value}, Vals (ns.map V.int) vs → IntsAre vs ns
  | [], _, r => by
    cases r
    exact .nil
  | n :: ns, _, r => by
    cases r with
    | cons r1 r2 =>
      obtain ⟨t, rfl⟩ := r1
      exact .cons _ _ (ints_of r2)
end
section
variable {X : Cx} {k j : Nat} {x : Str} {ps ks : List Str} {sp : Sp} {p pos : Pos} {kws : List Keyword} {tk : TA}
/-- a def that keeps a promise, called by keywords alone -/
structure KCal (P : Program) (w : World) (K : PySem.W.Frag) (mg : Str → Option Value) (base : Heap) (k : Nat) (x : Str) (ks : List Str) (gV : List V → List V → List V) (sp : Sp) : Prop where
  ex : ∃ (f : Addr) (fd : FuncData) (ps : List Str) (g : List Value → List Value → List Value), FnOk P w K mg base CX0 k f fd ps sp ∧ mg x = some (.ref f) ∧ PySem.W.keepIn K (.ref f) = true ∧ KBinds K fd ps ks g gV
variable {gV : List V → List V → List V}
end
end Su
/-! ### B2: tuples whose object is known to have no dict: their methods may be called -/
namespace Su
open PySem PySem.Spec PyProof.Rows L2
def PTup (H : Hp) (a : Addr) (xs : List V) : Prop := ∃ o : Obj, H a = some (.frz o (.tup xs)) ∧ o.dict = none
theorem PTup.sq {K : PySem.W.Frag} {H : Hp} {a : Addr} {xs : List V} (h : PTup H a xs) : SqT K H a xs := by
  obtain ⟨o, e, _⟩ := h
  exact .inl (.inr ⟨o, e⟩)
theorem PTup.same {H H' : Hp} {a : Addr} {xs : List V} (h : PTup H a xs) (s : Same H H') : PTup H' a xs := by
  obtain ⟨o, e, d⟩ := h
  exact ⟨o, s _ _ e, d⟩
theorem same_upd {H : Hp} {p : Addr} {o : HO} (h : H p = none) : Same H (upd H p o) := fun b x e => by
  rw [upd_ne (ne_of_none e h)]
  exact e
section
variable {X : Cx} {pins : List (Addr × Obj)} {σ : L2.St} {H : Hp} {s : Shared}
/-- a new tuple's object -/
abbrev tupO (its : List Value) : Obj := { cls := .type "tuple", data := .seq its.toArray }
theorem laidF {xs : List V} {its : List Value} (I : Inv X pins σ H s) (r : Vals xs its) (hz : xs.length ≤ sizeLine) (t' : Tok) :
    Inv X pins σ (upd H s.heap.objs.size (.frz (tupO its) (.tup xs))) { s with heap := s.heap.push (tupO its), toks := t' } := by
  refine I.laid (t' := t') (o := .frz (tupO its) (.tup xs)) (fun b ob q => Heap.get?_push_of_some _ q) (Nat.le_refl _) ?_
  exact ⟨Heap.get?_push_size _ rfl, hz, its, r, IsTup.new _ _⟩
theorem newF {xs : List V} {its : List Value} {Q : VK} (I : Inv X pins σ H s) (r : Vals xs its) (hz : xs.length ≤ sizeLine) (q : ∀ v H', Same H H' → H v = none → PTup H' v xs → Q (.ref v) H') (t' : Tok) :
    EP X pins σ Q (.ref s.heap.objs.size) { s with heap := s.heap.push (tupO its), toks := t' } :=
  have hf : H s.heap.objs.size = none := I.hok.fresh (Nat.le_refl _)
  ⟨.ref s.heap.objs.size, _, laidF I r hz t', rfl, q _ _ (same_upd hf) hf ⟨_, upd_same, rfl⟩⟩
end
section
variable {X : Cx} {es : List Expr} {t : TA} {pos : Pos}
def tTupF (t : TA) : TE := fun σ H Q => t σ H fun xs H1 => xs.length ≤ sizeLine ∧ ∀ v H', Same H1 H' → H1 v = none → PTup H' v xs → Q (.ref v) H'
theorem pe_tupF {x1} (h : PA X es t) : PE X (.Tuple es x1 pos) (tTupF t) := by
  refine ⟨fun pins s σ H Q I hq => ?_⟩
  refine wpAny_Tuple_spliced (thn (h.run pos pins s σ H _ I hq) fun us s1 ⟨xs, H1, I1, r, z, q⟩ => ⟨by rw [← r.length]; exact z, ?_⟩)
  exact newF I1 r z q s1.toks
def rTupL (K : PySem.W.Frag) : List V → Hp → VK → Prop := fun xs H Q => ∃ p ys, xs = [.ref p] ∧ SqL K H p ys ∧ ∀ v H', Same H H' → H v = none → PTup H' v ys → Q (.ref v) H'
theorem call_tupleF : CallR X (.type "tuple") (rTupL X.K) := by
  intro pins s σ H xs us Q I r h
  obtain ⟨p, ys, rfl, hq, q⟩ := h
  obtain ⟨u, rfl, rx⟩ := vals1 r
  cases rx
  obtain ⟨its, r', pl, hz⟩ := I.list hq
  have hlen := r'.length
  refine call_tuple_list pl.isList (fun h' kp => ?_) (by simp only [List.size_toArray] <;> omega)
  exact newF (s := { s with heap := h' }) (I.kept (t' := s.toks) kp) r' hz q s.toks
variable {o e : Expr} {to : TE} {name : Str} {apos cpos : Pos} {id : String} {r : V → List V → Hp → VK → Prop}
end
end Su
/-! ### PL: the pool from which a law draws -/
namespace Su
open PySem PySem.Spec PyProof.Rows L2
/-- the built-in names that the text does not bind -/
structure Bt (mg : Str → Option Value) : Prop where
  len : mg "len" = none
  sum : mg "sum" = none
  abs : mg "abs" = none
  int : mg "int" = none
  min : mg "min" = none
  max : mg "max" = none
  range : mg "range" = none
  sorted : mg "sorted" = none
  list : mg "list" = none
  tuple : mg "tuple" = none
  repr : mg "repr" = none
  set : mg "set" = none
  all : mg "all" = none
  isinstance : mg "isinstance" = none
  str : mg "str" = none
  bool : mg "bool" = none
  reversed : mg "reversed" = none
  enumerate : mg "enumerate" = none
  zip : mg "zip" = none
  any : mg "any" = none
  dict : mg "dict" = none
theorem cutV_ints (ns : List Int) (lo hi : Option Int) : ∃ ms : List Int, cutV (ns.map V.int) lo hi = ms.map V.int := by
  unfold cutV
  exact ⟨_, by rw [← List.map_drop, ← List.map_take]⟩
theorem atI_int {α : Type} {xs : List α} {i : Int} {v : α} (h0 : 0 ≤ i) (h : xs[i.toNat]? = some v) : atI xs i = some v := by
  have e := atI_nat h
  rw [Int.toNat_of_nonneg h0] at e
  exact e
theorem b01 (b : Bool) : -(2 ^ 64) < (if b = true then (1 : Int) else 0) ∧ (if b = true then (1 : Int) else 0) < 2 ^ 64 := by
  cases b <;> exact ⟨by decide, by decide⟩
/-! the pool -/
def PoolO (o : HO) : Prop := ∃ g m : Int, o = .lst [.int g, .int m] ∧ 0 ≤ g ∧ 0 ≤ m ∧ m < 2147483647
def PoolAt (H : Hp) (p : Addr) : Prop := ∃ o, H p = some o ∧ PoolO o
def spTake : Sp := fun vs H Q _ => ∃ (p : Addr) (many : Int), vs = [.ref p, .int many] ∧ PoolAt H p ∧ 1 ≤ many ∧ many < 1000000 ∧
  ∀ (r : Int) (o : HO), 0 ≤ r → r < many → PoolO o → Q (.int r) (upd H p o)
def spPool (K : PySem.W.Frag) : Sp := fun vs H Q _ => ∃ (a : Addr) (ns : List Int) (k : Int), vs = [.ref a, .int k] ∧ SqL K H a (ns.map V.int) ∧ 0 ≤ k ∧ k < 1000 ∧
  ∀ (p : Addr) (H' : Hp), Same H H' → H p = none → PoolAt H' p → Q (.ref p) H'
/-- all but what stands at p is as it was -/
def Kept (p : Addr) (H H' : Hp) : Prop := ∀ b o, H b = some o → b ≠ p → H' b = some o
theorem Kept.refl (p : Addr) (H : Hp) : Kept p H H := fun _ _ h _ => h
theorem Kept.trans {p : Addr} {H H1 H2 : Hp} (a : Kept p H H1) (b : Kept p H1 H2) : Kept p H H2 := fun c o h n => b c o (a c o h n) n
theorem Kept.same {p : Addr} {H H1 : Hp} (a : Same H H1) : Kept p H H1 := fun c o h _ => a c o h
theorem Kept.upd (p : Addr) (H : Hp) (o : HO) : Kept p H (upd H p o) := fun b x e n => by
  rw [upd_ne n]
  exact e
theorem Kept.set {p b : Addr} {H H1 : Hp} {o : HO} (a : Kept p H H1) (hb : H b = none) : Kept p H (L2.upd H1 b o) := fun c x e n => by
  rw [upd_ne (ne_of_none e hb)]
  exact a c x e n
theorem Kept.free {p b : Addr} {H H' : Hp} (a : Kept p H H') (n : b ≠ p) (h : H' b = none) : H b = none := by
  cases z : H b with
  | none => rfl
  | some o =>
    rw [a b o z n] at h
    cases h
theorem pool_ne {H : Hp} {p b : Addr} (h : PoolAt H p) (n : H b = none) : b ≠ p := by
  obtain ⟨o, e, _⟩ := h
  exact (ne_of_none e n).symm
theorem PoolAt.upd {H : Hp} {p b : Addr} {o : HO} (h : PoolAt H p) (n : p ≠ b) : PoolAt (upd H b o) p := by
  obtain ⟨x, e, z⟩ := h
  exact ⟨x, by rw [upd_ne n]; exact e, z⟩
theorem PoolAt.same {H H' : Hp} {p : Addr} (h : PoolAt H p) (s : Same H H') : PoolAt H' p := by
  obtain ⟨o, e, z⟩ := h
  exact ⟨o, s _ _ e, z⟩
theorem PTup.kept {p a : Addr} {H H' : Hp} {xs : List V} (h : PTup H a xs) (k : Kept p H H') (hp : PoolAt H p) : PTup H' a xs := by
  obtain ⟨o, e, d⟩ := h
  obtain ⟨x, e2, g, m, rfl, _⟩ := hp
  refine ⟨o, k _ _ e (fun z => ?_), d⟩
  subst z
  rw [e] at e2
  cases e2
theorem tyes {σ : L2.St} {H : Hp} {A B : Hp → Prop} (h : A H) : tYes σ H (fun b H3 => if b = true then A H3 else B H3) := (iteT h : if true = true then A H else B H)
theorem erase_map (f : Int → V) : ∀ (l : List Int) (j : Nat), (l.map f).eraseIdx j = (l.eraseIdx j).map f
  | [], _ => rfl
  | _ :: _, 0 => rfl
  | x :: l, j + 1 => by
    show f x :: (l.map f).eraseIdx j = f x :: (l.eraseIdx j).map f
    rw [erase_map f l j]
theorem free_upd {H : Hp} {a b : Addr} {o : HO} (h : upd H a o b = none) : b ≠ a ∧ H b = none := by
  by_cases e : b = a
  · subst e
    rw [upd_same] at h
    cases h
  · rw [upd_ne e] at h
    exact ⟨e, h⟩
theorem seqIx {i : Int} {n : Nat} (h0 : 0 ≤ i) (h : i < n) : seqIndex? i n = some i.toNat :=
  (ixN_seq (n := n) (i := i) (j := i.toNat) (by unfold ixN; rw [if_pos h0, if_pos h])).1
theorem erase_perm : ∀ (l : List Int) (j : Nat) (y : Int), l[j]? = some y → (y :: l.eraseIdx j).Perm l
  | [], j, y, h => by simp at h
  | x :: l, 0, y, h => by
    have e : x = y := by simpa using h
    rw [e]
    exact List.Perm.refl _
  | x :: l, j + 1, y, h => by
    have e : l[j]? = some y := by simpa using h
    exact (List.Perm.swap x y (l.eraseIdx j)).trans ((erase_perm l j y e).cons x)
abbrev rLenK (K : PySem.W.Frag) : List V → Hp → VK → Prop := fun xs H Q => ∃ p ys, xs = [.ref p] ∧ (SqL K H p ys ∨ SqT K H p ys) ∧ Q (.int ys.length) H
def spPicked (K : PySem.W.Frag) : Sp := fun vs H Q _ => ∃ (p b : Addr) (ns : List Int) (many : Int), vs = [.ref p, .ref b, .int many] ∧ PoolAt H p ∧ SqL K H b (ns.map V.int) ∧ b ≠ p ∧ ns.Nodup ∧ ns.length ≤ 1000 ∧ 0 ≤ many ∧
  ∀ (q : Addr) (H' : Hp) (ms : List Int), H q = none → Kept p H H' → PoolAt H' p → H' q = some (.lst (ms.map V.int)) → ms.Nodup → (∀ x ∈ ms, x ∈ ns) → ms.length = min many.toNat ns.length → ms.Pairwise (· ≤ ·) → Q (.ref q) H'
def hundred : List Int := (List.range 100).map fun i => ((i : Nat) : Int)
theorem hundred_rg : rgV 0 100 = hundred.map V.int := by
  unfold rgV hundred
  rw [List.map_map]
  rfl
theorem hundred_nd : hundred.Nodup := by decide +kernel
theorem hundred_len : hundred.length = 100 := rfl
theorem hundred_mem {x : Int} (h : x ∈ hundred) : 0 ≤ x ∧ x < 100 := by
  unfold hundred at h
  obtain ⟨i, hi, rfl⟩ := List.mem_map.mp h
  have := List.mem_range.mp hi
  omega
theorem cons_nil_fin {α : Type} {xs : List α} {r : Int} (n : Nat) (h : xs.length = n) (r0 : 0 ≤ r) (r1 : r < n) : ∃ v ∈ xs, atI xs r = some v := by
  have hr : r.toNat < xs.length := by omega
  exact ⟨xs[r.toNat], List.getElem_mem hr, atI_int r0 (List.getElem?_eq_getElem hr)⟩
theorem iteB {c : Bool} {A B : Prop} (h1 : c = true → A) (h2 : c = false → B) : if c = true then A else B := by
  cases c
  · exact iteF (h2 rfl)
  · exact iteT (h1 rfl)
theorem nodup_few {S : List Int} : ∀ {ms : List Int}, ms.Nodup → (∀ k ∈ ms, k ∈ S) → ms.length ≤ S.length := by
  induction S with
  | nil =>
    intro ms _ h
    cases ms with
    | nil => exact Nat.le_refl _
    | cons x l => exact (List.not_mem_nil (h x List.mem_cons_self)).elim
  | cons y S ih =>
    intro ms nd h
    have z := ih (ms := ms.erase y) (nd.erase y) fun k hk => by
      have h1 := (nd.mem_erase_iff.mp hk)
      rcases List.mem_cons.mp (h k h1.2) with e | e
      · exact absurd e h1.1
      · exact e
    rw [List.length_cons]
    by_cases hy : y ∈ ms
    · rw [List.length_erase_of_mem hy] at z
      omega
    · rw [List.erase_of_not_mem hy] at z
      omega
theorem fnG_fun {P : Program} {w : World} {K : PySem.W.Frag} {mg : Str → Option Value} {base : Heap} {x ql : Str} {st : Stmt} {f : Addr} {fd : FuncData} {N ps : List Str} {k : Nat} {sp : Sp} (F : Fun K x ql st f fd) (S : FnScope N ps (defScope st)) (len : ∀ vs H Q E, sp vs H Q E → vs.length = ps.length)
    (hb : ∀ (cdv : Value) (A : Around) (outer : List Env) (s : Shared) (H : Hp) (vs : List V) (Q : VK) (E : XK), (A.deeper (envOfC ql (defScope st) s.heap.objs.size f cdv)).guards = some [] → Room k (A.deeper (envOfC ql (defScope st) s.heap.objs.size f cdv)) → sp vs H Q E →
      ∃ t, PSs (cxOf CX0 P w K mg base N ql (defScope st) f cdv A outer s H E).nox (defBody st) t ∧ t { nx := fun _ H' => Q .non H', rt := Q } (start N vs) H) : FnG P w K mg base CX0 (k + 1) f fd ps sp := by
  obtain ⟨oc, od, kV, doc, pm, an, cdv, ct, osl, rfl, lk, hcd⟩ := F.ex
  refine fnG_of lk hcd S len fun A outer s H vs Q E hg hr hsp => ?_
  obtain ⟨t, h, q⟩ := hb cdv A outer s H vs Q E hg hr hsp
  exact ⟨t, h.nox, q⟩
section
variable {X : Cx} {e : Expr}
/-- a test that is never asked, an expression that is never reckoned -/
def tNo : TT := fun _ _ _ => False
theorem pt_never : PT X e tNo := ⟨fun _ _ _ _ _ _ h => h.elim⟩
end
end Su
/-! ### SC: a set of ints by a comprehension with two clauses -/
namespace Su
open PySem PySem.Spec PyProof.Rows L2
abbrev sc2 (e a b c d : Expr) (sp : Scope) (po : Pos) : Expr := .SetComp e [⟨a, b, [], 0⟩, ⟨c, d, [], 0⟩] sp po
section
variable {prog : Program} {w : World} {A : Around} {R : Result → Shared → Prop} {s : Shared} {e a b c d : Expr} {sp : Scope} {po : Pos} {it acc : Value} {env : Env}
theorem sc2_out : compTurn (sc2 e a b c d sp po) 0 it acc env = (do
      standAt b.pos
      match ← pyNext it with
      | none => pure (.done .next)
      | some v =>
        letOwnedTupleGo a it v
        assign a env v
        let x ← eval d env
        standAt d.pos
        let y ← foldedSetIterable d env x
        let _ ← runOwn (.compStart (sc2 e a b c d sp po) 1 (← holding [y] (pyIter y)) acc env) env
        again (.compLoop (sc2 e a b c d sp po) 0 it acc env)) := by rfl
theorem sc2_in : compTurn (sc2 e a b c d sp po) 1 it acc env = (do
      standAt d.pos
      match ← pyNext it with
      | none => pure (.done .next)
      | some v =>
        letOwnedTupleGo c it v
        assign c env v
        (do let x ← eval e env; standAt e.pos; let _ ← call (.builtin "set.add") [acc, x])
        again (.compLoop (sc2 e a b c d sp po) 1 it acc env)) := by rfl
/-- the tail of a turn that raises: the frame is noted -/
abbrev nb (prog : Program) (w : World) (A : Around) (env : Env) (R : Result → Shared → Prop) : Value → Shared → Prop := notedBy (model prog w) A env fun x u => R (.error x) u
theorem sc2_loop0 (hf : ∀ x, foldedSetIterable d env x = pure x) (J : Nat → Shared → Prop)
    (one : ∀ n u, J n u → wpAny (model prog w) A (pyNext it) (fun r u1 => match r with
      | none => R (.ok .next) u1
      | some v => wpAny (model prog w) A (letOwnedTupleGo a it v) (fun _ u2 => wpAny (model prog w) A (assign a env v) (fun _ u3 =>
          wpAny (model prog w) A (eval d env) (fun x u4 => wpAny (model prog w) A (pyIter x) (fun jt u5 =>
            codeAny (model prog w) A (.compStart (sc2 e a b c d sp po) 1 jt acc env) (fun r u6 => match r with
              | .ok _ => ∃ m, m < n ∧ J m u6
              | .error _ => False) u5) (nb prog w A env R) u4) (nb prog w A env R) u3) (nb prog w A env R) u2) (nb prog w A env R) u1) (nb prog w A env R) u)
    (n : Nat) (h : J n s) : codeAny (model prog w) A (.compLoop (sc2 e a b c d sp po) 0 it acc env) R s := by
  refine codeAny_loop rfl J (fun n u hJ => ?_) n h
  show wpAny _ A ((compTurn (sc2 e a b c d sp po) 0 it acc env).onRaise (fun x => do noteFrame x env; theTreesLotGoes x)) _ _ u
  refine wpAny_noted ?_
  rw [sc2_out]
  refine wpAny_bind (wpAny_standAt (wpAny_bind (wpAny_mono (one n u hJ) (fun r u1 h1 => ?_) fun _ _ k => k)))
  cases r with
  | none => exact wpAny_pure h1
  | some v =>
    refine wpAny_bind (wpAny_mono h1 (fun _ u2 h2 => wpAny_bind (wpAny_mono h2 (fun _ u3 h3 => ?_) fun _ _ k => k)) fun _ _ k => k)
    refine wpAny_bind (wpAny_mono h3 (fun x u4 h4 => ?_) fun _ _ k => k)
    refine wpAny_bind (wpAny_standAt (wpAny_bind (wpAny_of_eq (hf x) (wpAny_bind (wpAny_holding (wpAny_mono h4 (fun jt u5 h5 => ?_) fun _ _ k => k))))))
    refine wpAny_bind (wpAny_runOwn ?_)
    rw [Around.mark_none]
    refine codeAny_mono h5 fun r u6 hr => ?_
    cases r with
    | error x => exact hr.elim
    | ok f =>
      first
        | exact wpAny_pure ⟨rfl, hr⟩
        | exact wpAny_bind (wpAny_pure (wpAny_pure ⟨rfl, hr⟩))
theorem sc2_loop1 (J : Nat → Shared → Prop)
    (one : ∀ n u, J n u → wpAny (model prog w) A (pyNext it) (fun r u1 => match r with
      | none => R (.ok .next) u1
      | some v => wpAny (model prog w) A (letOwnedTupleGo c it v) (fun _ u2 => wpAny (model prog w) A (assign c env v) (fun _ u3 =>
          wpAny (model prog w) A (eval e env) (fun x u4 => wpAny (model prog w) A (call (.builtin "set.add") [acc, x]) (fun _ u5 => ∃ m, m < n ∧ J m u5) (nb prog w A env R) u4) (nb prog w A env R) u3)
            (nb prog w A env R) u2) (nb prog w A env R) u1) (nb prog w A env R) u)
    (n : Nat) (h : J n s) : codeAny (model prog w) A (.compLoop (sc2 e a b c d sp po) 1 it acc env) R s := by
  refine codeAny_loop rfl J (fun n u hJ => ?_) n h
  show wpAny _ A ((compTurn (sc2 e a b c d sp po) 1 it acc env).onRaise (fun x => do noteFrame x env; theTreesLotGoes x)) _ _ u
  refine wpAny_noted ?_
  rw [sc2_in]
  refine wpAny_bind (wpAny_standAt (wpAny_bind (wpAny_mono (one n u hJ) (fun r u1 h1 => ?_) fun _ _ k => k)))
  cases r with
  | none => exact wpAny_pure h1
  | some v =>
    refine wpAny_bind (wpAny_mono h1 (fun _ u2 h2 => wpAny_bind (wpAny_mono h2 (fun _ u3 h3 => ?_) fun _ _ k => k)) fun _ _ k => k)
    refine wpAny_bind (wpAny_bind (wpAny_mono h3 (fun x u4 h4 => wpAny_bind (wpAny_standAt (wpAny_bind (wpAny_mono h4 (fun _ u5 h5 => ?_) fun _ _ k => k)))) fun _ _ k => k))
    first
      | exact wpAny_pure (wpAny_pure ⟨rfl, h5⟩)
      | exact wpAny_pure ⟨rfl, h5⟩
theorem sc2_begin (h0 : codeAny (model prog w) A (.compLoop (sc2 e a b c d sp po) 1 it acc env) R s)
    (h : wpAny (model prog w) A (pyIter it) (fun jt u => codeAny (model prog w) A (.compLoop (sc2 e a b c d sp po) 1 jt acc env) R u) (nb prog w A env R) s) :
    codeAny (model prog w) A (.compStart (sc2 e a b c d sp po) 1 it acc env) R s := by
  refine codeAny_of_tree ?_
  show wpAny _ _ ((compStart (sc2 e a b c d sp po) 1 it acc env).onRaise (fun x => do noteFrame x env; standAt theWindowsPlace)) _ _ s
  refine wpAny_notedAt ?_
  unfold compStart
  show wpAny _ _ (ask >>= _) _ _ s
  refine wpAny_bind (wpAny_askSetting (wpAny_ite ?_))
  split
  · first
      | exact wpAny_pure ⟨rfl, h0⟩
      | exact wpAny_bind (wpAny_pure (wpAny_pure ⟨rfl, h0⟩))
  · refine wpAny_bind (wpAny_rule ?_)
    show wpAny _ _ (standAt d.pos >>= _) _ _ s
    exact wpAny_bind (wpAny_standAt (wpAny_bind (wpAny_mono h (fun jt u k => wpAny_pure ⟨rfl, k⟩) fun _ _ k => k)))
end
end Su
namespace Su
open PySem PySem.Spec PyProof.Rows L2
section
variable {X : Cx}
/-- what the comprehension asks: the outer walk, in each of its turns the inner one, and each int put into the set -/
def tSC (w : World) (wo : TI) (go : TG) (wn : TI) (gn : TG) (te : TE) (vs vs1 : List Nat) : TE := fun σ H Q => wo σ H fun J H1 => ∀ D, H1 D = none →
  ∃ W : Nat → Nat → Hp → Prop, (∃ m, W 0 m (upd H1 D (SetO w D (fun _ => false) 0))) ∧ ∀ i m H, W i m H →
    (J.stop i H ∧ Q (.ref D) H) ∨
    (J.go i H ∧ ∃ Nx : Hp → Prop, (∀ H', Nx H' → ∃ m', m' < m ∧ W (i + 1) m' H') ∧ ∀ x H', J.yld i H x H' → go x (wipe σ vs) H' fun σ2 H2 => wipe σ2 vs = wipe σ vs ∧
      wn σ2 H2 fun L H3 => ∃ U : Nat → Nat → Hp → Prop, (∃ m, U 0 m H3) ∧ ∀ j k H, U j k H →
        (L.stop j H ∧ Nx H) ∨
        (L.go j H ∧ ∃ Ny : Hp → Prop, (∀ H', Ny H' → ∃ k', k' < k ∧ U (j + 1) k' H') ∧ ∀ y H', L.yld j H y H' → gn y (wipe σ2 vs1) H' fun σ3 H4 => wipe σ3 vs1 = wipe σ2 vs1 ∧
          te σ3 H4 fun z H5 => ∃ (c : Int) (S : Int → Bool) (n : Nat), z = .int c ∧ H5 D = some (SetO w D S n) ∧ n + 1 < scanBound ∧
            Ny (upd H5 D (SetO w D (fun j => S j || decide (j = c)) (if S c = true then n else n + 1)))))
abbrev setE (w : World) : Obj := { cls := .type "set", dict := none, data := .set #[] 0 (.fresh 0 0 (!w.params.followText "set-order")) }
theorem put_int {pins : List (Addr × Obj)} {σ : L2.St} {H : Hp} {s : Shared} {E : Value → Shared → Prop} {D : Addr} {S : Int → Bool} {n : Nat} {k : Int} {v : Value} {Q : Value → Shared → Prop}
    (I : Inv X pins σ H s) (hD : H D = some (SetO X.w D S n)) (few : n + 1 < scanBound) (r : RelV (.int k) v)
    (h : ∀ t, Inv X pins σ (upd H D (SetO X.w D (fun j => S j || decide (j = k)) (if S k = true then n else n + 1))) t → Q .none t) :
    wpAny (model X.prog X.w) X.A (call (.builtin "set.add") [.ref D, v]) Q E s := by
  obtain ⟨tk, rfl⟩ := r
  refine setR_add (setO_get I hD) few fun g sb new => ?_
  have there : ∃ u, g.get? D = some u := by
    have ⟨o, _, _, _, ho, _⟩ := new
    exact ⟨o, ho⟩
  refine h _ (I.write (e := D) (t' := s.toks + 1) (by rw [hD]; trivial) (.inl rfl) (fun b u hb hu => ?_) there (setO_new new))
  exact (sb.2 b hb).trans hu
theorem pe_sc2 {e a b c d : Expr} {sp : Scope} {own : List (Str × Nat)} {vs1 : List Nat} {pos : Pos} {wo wn : TI} {go gn : TG} {te : TE} (hc : X.calm = true) (hN : X.N.Nodup) (pio : PI X a b wo)
    (ok : BlkOk X.N X.env.scope sp own) (hv : ∀ i ∈ vs1, i ∈ own.map (·.2))
    (pgo : ∀ (s : Shared) (H : Hp) (C : Addr) (cl : List (Str × Addr)) (fp : List Addr), PG (X.blk s H sp (compEnvC sp cl C X.env) fp) a go)
    (pin : ∀ (s : Shared) (H : Hp) (C : Addr) (cl : List (Str × Addr)) (fp : List Addr), PI (X.blk s H sp (compEnvC sp cl C X.env) fp) c d wn)
    (pgn : ∀ (s : Shared) (H : Hp) (C : Addr) (cl : List (Str × Addr)) (fp : List Addr), PG (X.blk s H sp (compEnvC sp cl C X.env) fp) c gn)
    (pe : ∀ (s : Shared) (H : Hp) (C : Addr) (cl : List (Str × Addr)) (fp : List Addr), PE (X.blk s H sp (compEnvC sp cl C X.env) fp) e te)
    (fo : ∀ x, foldedSetIterable b X.env x = pure x := by intro _; rfl) (fn : ∀ env x, foldedSetIterable d env x = pure x := by intro _ _; rfl) :
    PE X (sc2 e a b c d sp pos) (tSC X.w wo go wn gn te (own.map (·.2)) vs1) := by
  refine ⟨fun pins s σ H Q I hq => ?_⟩
  rw [PpSet.eval_SetComp]
  have cl0 : ∀ y ∈ sp.names, y.2 = .free → ∃ k, X.env.cells.lookup y.1 = some k := by
    intro y hy z
    rcases ok.free y hy z with k | k
    · exact I.ok.has _ (.inl k)
    · exact I.ok.has _ (.inr k)
  refine wpAny_comprehension_free (use := none) rfl fo (closure_ok cl0) ok.kind (fun y hy z => by rw [ok.uniq y hy, z]) ?_
  refine thn (pio.run pins s σ H _ I hq) fun xv s1 hx => thn hx fun iv s2 h2 => ?_
  obtain ⟨it, fa, tn, J, Hb, rfl, Ib, T, stb, fb, q⟩ := h2
  refine PpSet.newSet_ok (newEnv_comp ?_)
  generalize eD : s2.heap.objs.size = D
  obtain ⟨W, ⟨m0, w0⟩, turn⟩ := q D (Ib.hok.fresh (Nat.le_of_eq eD))
  generalize e3 : ({ s2 with heap := s2.heap.push (setE X.w) } : Shared) = s3
  have hp3 : s3.heap = s2.heap.push (setE X.w) := by rw [← e3]
  have Ic : Inv X pins σ (upd Hb D (SetO X.w D (fun _ => false) 0)) s3 := by
    rw [← e3]
    refine Ib.laid (t' := s2.toks) (fun _ _ z => Heap.get?_push_of_some _ z) (Nat.le_of_eq eD) ?_
    rw [← eD]
    exact setO_new (setR_fresh X.w)
  have small : ∀ x ∈ fa, x < s2.heap.objs.size := by
    intro x hx
    obtain ⟨o, z, _⟩ := T.obj _ _ stb x hx
    exact Heap.lt_size z
  have fc : ∀ x ∈ fa, FpOk X pins (upd Hb D (SetO X.w D (fun _ => false) 0)) x ∧ x < s3.heap.objs.size := by
    intro x hx
    have lt := small x hx
    constructor
    · refine ⟨?_, (fb x hx).2⟩
      rw [upd_ne (by rw [← eD]; exact Nat.ne_of_lt lt)]
      exact (fb x hx).1
    · rw [hp3, Heap.size_push]
      exact Nat.lt_succ_of_lt lt
  have stc : tn 0 s3.heap := T.keep _ _ _ stb fun _ _ _ z => by
    rw [hp3]
    exact Heap.get?_push_of_some _ z
  have Id := block_start Ic ok hN fc
  have qgo := pgo s3 (upd Hb D (SetO X.w D (fun _ => false) 0)) s3.heap.objs.size (cellsFrom (s3.heap.objs.size + 1) sp.names (cloFrom X.env.cells sp.names [])) fa
  have qin := pin s3 (upd Hb D (SetO X.w D (fun _ => false) 0)) s3.heap.objs.size (cellsFrom (s3.heap.objs.size + 1) sp.names (cloFrom X.env.cells sp.names [])) fa
  have qgn := pgn s3 (upd Hb D (SetO X.w D (fun _ => false) 0)) s3.heap.objs.size (cellsFrom (s3.heap.objs.size + 1) sp.names (cloFrom X.env.cells sp.names [])) fa
  have qe := pe s3 (upd Hb D (SetO X.w D (fun _ => false) 0)) s3.heap.objs.size (cellsFrom (s3.heap.objs.size + 1) sp.names (cloFrom X.env.cells sp.names [])) fa
  have nofa : ∀ x ∈ fa, (upd Hb D (SetO X.w D (fun _ => false) 0)) x = none := fun x hx => (fc x hx).1.1
  show codeAny _ _ (.compStart (sc2 e a b c d sp pos) 0 (.ref it) (.ref D) (compEnvC sp (cellsFrom (s3.heap.objs.size + 1) sp.names (cloFrom X.env.cells sp.names [])) s3.heap.objs.size X.env)) _ { s3 with heap := pushCells (s3.heap.push { cls := .type "dict", data := .dict #[] }) sp.names }
  generalize eE : compEnvC sp (cellsFrom (s3.heap.objs.size + 1) sp.names (cloFrom X.env.cells sp.names [])) s3.heap.objs.size X.env = en at Id qgo qin qgn qe ⊢
  have locE : en.locals = s3.heap.objs.size := by
    subst eE
    rfl
  generalize eH : upd Hb D (SetO X.w D (fun _ => false) 0) = Hc at Ic Id qgo qin qgn qe w0 nofa fc
  generalize e4 : ({ s3 with heap := pushCells (s3.heap.push { cls := .type "dict", data := .dict #[] }) sp.names } : Shared) = s4 at Id ⊢
  have std : tn 0 s4.heap := T.keep _ _ _ stc fun _ _ _ z => by
    rw [← e4]
    exact pushCells_keeps _ _ _ _ (Heap.get?_push_of_some _ z)
  have foot : ∀ {τ : L2.St} {G : Hp} {t : Shared}, Inv (X.blk s3 Hc sp en fa) [] τ G t → (∀ x ∈ fa, G x = none) → ∀ x ∈ fa, FpOk (X.blk s3 Hc sp en fa) [] G x := by
    intro τ G t It hn x hx
    refine ⟨hn x hx, (It.ok.exf x hx).1, It.ok.exfs x hx, .inl hx, fun y k z => (It.ok.exf x hx).2 y k z, fun p hp => ?_⟩
    exact absurd (show p ∈ ([] : List (Addr × Obj)) ++ [] from hp) (by simp)
  have main : codeAny (model X.prog X.w) X.A (.compLoop (sc2 e a b c d sp pos) 0 (.ref it) (.ref D) en) (compPost (model X.prog X.w) X.A X.xe none (fun u t => EP X pins σ Q u t) (.ref D) s3.heap.objs.size) s4 := by
    refine sc2_loop0 (fn en) (fun n t => ∃ i G, Inv (X.blk s3 Hc sp en fa) [] (wipe σ (own.map (·.2))) G t ∧ tn i t.heap ∧ (∀ x ∈ fa, G x = none) ∧ W i n G) ?_ m0 ⟨0, Hc, Id, std, nofa, w0⟩
    rintro n s5 ⟨i, H5, I5, st5, n5, w5⟩
    rcases turn i n H5 w5 with ⟨stop, qq⟩ | ⟨hgo, Nx, hNx, step⟩
    · refine thnF (T.done (X.blk s3 Hc sp en fa) rfl rfl rfl hc i [] s5 _ H5 (fun _ _ => False) I5 (foot I5 n5) st5 stop) fun r s6 ⟨hr, I6⟩ => ?_
      subst hr
      have I7 : Inv X pins σ H5 s6 := by
        refine Ic.call' (ch := fa) I6.os I6.base I6.hok I6.bare fun x hx => ?_
        have z := (fc x hx).1.2
        exact ⟨z.2.2.1, z.1, z.2.2.2.1, z.2.2.2.2⟩
      have nl : H5 s3.heap.objs.size = none := by
        have z : H5 en.locals = none := I6.free
        rwa [locE] at z
      obtain ⟨m, hn, _⟩ := I6.loc
      have hn2 : s6.heap.Ns en.locals m := hn
      rw [locE] at hn2
      obtain ⟨f0, f1, f2, f3, f4, f5⟩ := Ic.fpOk (Nat.le_refl _) nl
      refine ⟨m, hn2, fun g sb => ?_⟩
      exact ⟨.ref D, H5, I7.turned (t' := s6.toks) (fun y o hy z => (sb.2 y hy).trans z) f0 f1 f3 f4 f5, rfl, qq⟩
    · refine thnF (T.item (X.blk s3 Hc sp en fa) rfl rfl rfl hc i [] s5 _ H5 (fun _ _ => False) I5 (foot I5 n5) st5 hgo) fun r s6 ⟨u, hr, h6⟩ => ?_
      subst hr
      refine thnF h6 fun _ s7 ⟨x, H7, I7, r7, y7, st7, n7⟩ => ?_
      refine thnF (qgo.run _ s7 _ H7 x u _ (I7.pinned (foot I7 n7) (T.obj _ _ st7)) r7 (step x H7 y7)) fun _ s8 ⟨σ8, H8, I8, hw8, q8⟩ => ?_
      have shut : ∀ {τ : L2.St} {t : Shared} {G : Hp}, Inv (X.blk s3 Hc sp en fa) ([] ++ pinsAt fa s7.heap) τ G t → (wipe σ (own.map (·.2))).length = τ.length →
          (∀ (j : Nat) v, (wipe σ (own.map (·.2)))[j]? = some (some v) → τ[j]? = some (some v)) → Nx G →
          ∃ m, m < n ∧ ∃ i G, Inv (X.blk s3 Hc sp en fa) [] (wipe σ (own.map (·.2))) G t ∧ tn i t.heap ∧ (∀ x ∈ fa, G x = none) ∧ W i m G := by
        intro τ t G It hl hk nx
        obtain ⟨m', lt, w'⟩ := hNx G nx
        have held : ∀ y ∈ fa, ∀ o, s7.heap.get? y = some o → t.heap.get? y = some o ∧ G y = none := by
          intro y hy o z
          have k := It.pin (y, o) (List.mem_append_right _ (List.mem_append_right _ (mem_pinsAt hy z)))
          exact ⟨k.1, k.2.1⟩
        refine ⟨m', lt, i + 1, G, (It.unpinned (pins := [])).weak hl hk, T.keep _ _ _ st7 fun y hy o z => (held y hy o z).1, fun y hy => ?_, w'⟩
        obtain ⟨o, z, _⟩ := T.obj _ _ st7 y hy
        exact (held y hy o z).2
      have len8 : (wipe σ (own.map (·.2))).length = σ8.length := by
        rw [← hw8, wipe_length]
      have keep8 : ∀ (j : Nat) v, (wipe σ (own.map (·.2)))[j]? = some (some v) → (wipe σ8 vs1)[j]? = some (some v) := by
        intro j v z
        rw [← hw8] at z
        obtain ⟨z1, z2⟩ := wipe_some z
        rw [wipe_out fun k => z2 (hv j k)]
        exact z1
      refine thnF (qin.run _ s8 σ8 H8 _ I8 q8) fun xv s9 hx => thnF hx fun iw s10 h10 => ?_
      obtain ⟨jt, fi, tm, L, H10, rfl, I10, T1, st10, f10, U, ⟨m1, u1⟩, turn1⟩ := h10
      have foot1 : ∀ {G : Hp}, (∀ y ∈ fi, G y = none) → ∀ y ∈ fi, FpOk (X.blk s3 Hc sp en fa) ([] ++ pinsAt fa s7.heap) G y := fun hn y hy => ⟨hn y hy, (f10 y hy).2⟩
      have inner : codeAny (model X.prog X.w) X.A (.compLoop (sc2 e a b c d sp pos) 1 (.ref jt) (.ref D) en)
          (fun r t => match r with
            | .ok _ => ∃ m, m < n ∧ ∃ i G, Inv (X.blk s3 Hc sp en fa) [] (wipe σ (own.map (·.2))) G t ∧ tn i t.heap ∧ (∀ x ∈ fa, G x = none) ∧ W i m G
            | .error _ => False) s10 := by
        refine sc2_loop1 (fun k t => ∃ j G, Inv (X.blk s3 Hc sp en fa) ([] ++ pinsAt fa s7.heap) (wipe σ8 vs1) G t ∧ tm j t.heap ∧ (∀ y ∈ fi, G y = none) ∧ U j k G) ?_ m1
          ⟨0, H10, I10.weak (wipe_length _ _) (fun j v z => (wipe_some z).1), st10, fun y hy => (f10 y hy).1, u1⟩
        rintro k s11 ⟨j, H11, I11, st11, n11, w11⟩
        rcases turn1 j k H11 w11 with ⟨stop1, nx1⟩ | ⟨go1, Ny, hNy, step1⟩
        · refine thnF (T1.done (X.blk s3 Hc sp en fa) rfl rfl rfl hc j _ s11 (wipe σ8 vs1) H11 (fun _ _ => False) I11 (foot1 n11) st11 stop1) fun r s12 ⟨hr, I12⟩ => ?_
          subst hr
          exact shut I12 (len8.trans (wipe_length σ8 vs1).symm) keep8 nx1
        · refine thnF (T1.item (X.blk s3 Hc sp en fa) rfl rfl rfl hc j _ s11 (wipe σ8 vs1) H11 (fun _ _ => False) I11 (foot1 n11) st11 go1) fun r s12 ⟨v1, hr, h12⟩ => ?_
          subst hr
          refine thnF h12 fun _ s13 ⟨x1, H13, I13, r13, y13, st13, n13⟩ => ?_
          refine thnF (qgn.run _ s13 (wipe σ8 vs1) H13 x1 v1 _ (I13.pinned (foot1 n13) (T1.obj _ _ st13)) r13 (step1 x1 H13 y13)) fun _ s14 ⟨σ14, H14, I14, hw14, q14⟩ => ?_
          refine thnF (qe.run _ s14 σ14 H14 _ I14 q14) fun z s15 ⟨yv, H15, I15, r15, cc, S, nn, ey, hD15, few, nx⟩ => ?_
          subst ey
          refine put_int (X := X.blk s3 Hc sp en fa) I15 hD15 few r15 fun s16 I16 => ?_
          obtain ⟨m', lt, w'⟩ := hNy _ nx
          have held : ∀ y ∈ fi, ∀ o, s13.heap.get? y = some o → s16.heap.get? y = some o ∧ (upd H15 D (SetO X.w D (fun j => S j || decide (j = cc)) (if S cc = true then nn else nn + 1))) y = none := by
            intro y hy o z
            have k := I16.pin (y, o) (List.mem_append_right _ (List.mem_append_right _ (mem_pinsAt hy z)))
            exact ⟨k.1, k.2.1⟩
          refine ⟨m', lt, j + 1, _, I16.unpinned.weak (by rw [← hw14, wipe_length]) (fun j v z => by rw [← hw14] at z; exact (wipe_some z).1), T1.keep _ _ _ st13 fun y hy o z => (held y hy o z).1, fun y hy => ?_, w'⟩
          obtain ⟨o, z, _⟩ := T1.obj _ _ st13 y hy
          exact (held y hy o z).2
      exact sc2_begin inner (T1.self X.A 0 _ _ _ st10 inner)
  exact PpSet.codeAny_compStart_set main (T.self X.A 0 _ _ _ std main)
end
end Su
/-! ### SE: sets of ints: set(l), sorted(s) of any size -/
namespace Su
open PySem PySem.Spec PyProof.Rows L2
section
variable {P : Program} {w : World} {A : Around} {E : Value → Shared → Prop} {s : Shared}
end
/-- a set of ints whose members are those of l -/
def SetIs (w : World) (H : Hp) (D : Addr) (l : List Int) : Prop := ∃ (S : Int → Bool) (n : Nat) (d : List Int), H D = some (SetO w D S n) ∧ d.Nodup ∧ d.length = n ∧ (∀ k, S k = true ↔ k ∈ d) ∧ ∀ k, k ∈ d ↔ k ∈ l
theorem SetIs.add {w : World} {H : Hp} {D : Addr} {l : List Int} (h : SetIs w H D l) {A : List Int} (hA : A.length < 1000) (hl : ∀ k ∈ l, k ∈ A) (c : Int) :
    ∃ (S : Int → Bool) (n : Nat), H D = some (SetO w D S n) ∧ n + 1 < scanBound ∧ ∀ (H' : Hp), H' D = some (SetO w D (fun j => S j || decide (j = c)) (if S c = true then n else n + 1)) → SetIs w H' D (l ++ [c]) := by
  obtain ⟨S, n, d, e, nd, hn, hS, hd⟩ := h
  have z := nodup_few (S := A) nd fun k hk => hl k ((hd k).mp hk)
  refine ⟨S, n, e, by unfold scanBound; omega, fun H' e' => ?_⟩
  by_cases hc : S c = true
  · rw [if_pos hc] at e'
    refine ⟨_, n, d, e', nd, hn, fun k => ?_, fun k => ?_⟩
    · rw [Bool.or_eq_true, decide_eq_true_eq, hS k]
      constructor
      · rintro (h | rfl)
        · exact h
        · exact (hS k).mp hc
      · exact .inl
    · rw [List.mem_append, List.mem_singleton, hd k]
      constructor
      · exact .inl
      · rintro (h | rfl)
        · exact h
        · exact (hd k).mp ((hS k).mp hc)
  · rw [if_neg hc] at e'
    refine ⟨_, n + 1, c :: d, e', List.nodup_cons.mpr ⟨fun h => hc ((hS c).mpr h), nd⟩, by rw [List.length_cons, hn], fun k => ?_, fun k => ?_⟩
    · rw [Bool.or_eq_true, decide_eq_true_eq, hS k, List.mem_cons]
      exact Or.comm
    · rw [List.mem_append, List.mem_singleton, List.mem_cons, hd k]
      exact Or.comm
theorem SetIs.of {w : World} {h : Heap} {H : Hp} {D : Addr} {S : Int → Bool} {c : Nat} {l : List Int} (R : SetR w h D S c) (e : H D = some (SetO w D S c)) (hl : ∀ k, S k = true ↔ k ∈ l) : SetIs w H D l := by
  obtain ⟨o, es, ep, t, ho, hex, hd, g, nd, hm, hb, hf, hn, _⟩ := R
  exact ⟨S, c, es.toList.map keyOf, e, nd, by rw [List.length_map, Array.length_toList]; exact hn, hm, fun k => (hm k).symm.trans (hl k)⟩
section
variable {X : Cx}
/-- sorted(s), s a set of ints -/
theorem sorted_setA {P : Program} {w : World} {A : Around} {E : Value → Shared → Prop} {s : Shared} {a : Addr} {S : Int → Bool} {n : Nat} {Q : Value → Shared → Prop} (R : SetR w s.heap a S n) (hh : A.handled = none)
    (q : ∀ (t : Shared) (p : Addr) (out : Array Value) (c : Nat) (ns : List Int), (∀ b o, s.heap.get? b = some o → t.heap.get? b = some o) → t.gens = s.gens → t.os = s.os → s.heap.objs.size ≤ p →
      t.heap.get? p = some (seqObj "list" out c) → IntsAre out.toList ns → ns.Pairwise (· < ·) → (∀ k, k ∈ ns ↔ S k = true) → ns.length < 4096 → Q (.ref p) t) :
    wpAny (model P w) A (call (.builtin "sorted") [.ref a]) Q E s := by
  obtain ⟨o, es, ep, t, ho, hex, hd, g, nd, hm, hb, hf, hn, hr, hl⟩ := R
  refine Calls.call_function_entry kind_sorted plain_sorted entry_sorted (args_sorted1 _) ?_
  unfold Builtin.«sorted»
  refine wpAny_bind (m := checkCount "sorted" 1 1 _) (wpAny_pure (wpAny_bind (collect_set (A := A.in1) hh ⟨o, ho, hex.1, hd⟩ hf hb hr hl fun s1 vs k1 hz g1 o1 pm => ?_)))
  have len : vs.length = es.size := by
    rw [pm.length_eq, List.length_map, Array.length_toList]
  have hI : IntsAre vs (vs.map Builtin.Re.reRawOf) := L2.ints_of vs fun v hv => by
    obtain ⟨x, hx, z⟩ := List.mem_map.mp (pm.mem_iff.mp hv)
    obtain ⟨k, tk, h1, _⟩ := g x hx
    exact ⟨k, tk, z ▸ h1⟩
  have pk : (vs.map Builtin.Re.reRawOf).Perm (es.toList.map keyOf) := by
    have z := pm.map Builtin.Re.reRawOf
    rwa [List.map_map] at z
  have small : vs.length ≤ sizeLine := by
    have : es.size < 4096 := hb
    rw [len, sizeLine_eq]
    omega
  refine wpAny_bind (wpAny_newList ?_ small)
  have at1 : (s1.heap.push (seqObj "list" vs.toArray 0)).get? s1.heap.objs.size = some (seqObj "list" vs.toArray 0) := Heap.get?_push_size _ rfl
  refine wpAny_bind (wpAny_holding (wpAny_call_entry slot_list_sort ⟨_, at1, rfl⟩ entry_list_sort (SrtO.list_sort_ord SrtO.swo_int at1 small (fun h2 => SrtO.ints_sortable hI h2) fun out h1 h2 => ⟨_, rfl, ?_⟩) (args_list_sort _)))
  obtain ⟨k3, k4, k5⟩ := SrtO.ints_out hI h1 h2
  obtain ⟨c, hc⟩ := sortedHeap_at (vs := vs) (out := out.toArray) at1
  have pn := k4.trans pk
  refine wpAny_pure ⟨_, rfl, q _ s1.heap.objs.size out.toArray c (out.map SrtO.iv) (fun b u z => ?_) g1 o1 hz hc k3 (lt_of_le_nodup _ k5 (pn.nodup_iff.mpr nd)) (fun k => by rw [pn.mem_iff, ← hm k]) ?_⟩
  · have y := k1 b u z
    have lt := Heap.lt_size y
    show (sortedHeap (s1.heap.push (seqObj "list" vs.toArray 0)) s1.heap.objs.size vs out.toArray).get? b = some u
    rw [sortedHeap_old (Nat.ne_of_lt lt) (by rw [size_push']; exact Nat.lt_succ_of_lt lt)]
    exact Heap.get?_push_of_some _ y
  · rw [pn.length_eq, List.length_map, Array.length_toList]
    exact hb
def rSortedS (w : World) : List V → Hp → VK → Prop := fun vs H Q => ∃ (a : Addr) (l : List Int), vs = [.ref a] ∧ SetIs w H a l ∧ ∀ (ns : List Int) (p : Addr), ns.Pairwise (· < ·) → (∀ k : Int, k ∈ ns ↔ k ∈ l) → H p = none → Q (.ref p) (upd H p (.lst (ns.map V.int)))
theorem cr_sortedS (hc : X.calm = true) : CallR X (.builtin "sorted") (rSortedS X.w) := by
  intro pins s σ H vs us Q I r h
  obtain ⟨a, l, rfl, ⟨S, n, d, ha, nd, hn, hS, hd⟩, q⟩ := h
  rw [Vals.ref1 r]
  refine sorted_setA (setO_get I ha) (I.ok.hd hc) fun t p out c ns k g o hp hg hi hs hm hl => ?_
  have len : (ns.map V.int).length ≤ sizeLine := by
    rw [List.length_map, sizeLine_eq]
    omega
  have new : H p = none := I.hok.fresh hp
  have J : Inv X pins σ (upd H p (.lst (ns.map V.int))) { s with heap := t.heap, gens := t.gens, drawn := t.drawn, toks := t.toks } :=
    I.call (ch := []) (Un.laid k hp new) (I.hok.laid k hp ⟨len, out.toList, c, vals_of_ints hi, hg⟩) (by rw [g]; exact I.bare) (fun _ z => nomatch z)
  have et : t = { s with heap := t.heap, gens := t.gens, drawn := t.drawn, toks := t.toks } := by
    cases t
    cases s
    cases o
    rfl
  rw [et]
  exact ⟨.ref p, _, J, rfl, q ns p hs (fun k => (hm k).trans ((hS k).trans (hd k))) new⟩
end
end Su
/-! ### WA: webs in the heap -/
namespace Su
open PySem PySem.Spec PyProof.Rows L2
/-- a tuple, by whatever it was made -/
def T2 (H : Hp) (a : Addr) (xs : List V) : Prop := PTup H a xs ∨ H a = some (.tup xs)
theorem T2.sq {K : PySem.W.Frag} {H : Hp} {a : Addr} {xs : List V} (h : T2 H a xs) : SqT K H a xs := by
  rcases h with h | h
  · exact h.sq
  · exact .inl (.inl h)
theorem T2.same {H H' : Hp} {a : Addr} {xs : List V} (h : T2 H a xs) (s : Same H H') : T2 H' a xs := by
  rcases h with h | h
  · exact .inl (h.same s)
  · exact .inr (s _ _ h)
theorem T2.ty {K : PySem.W.Frag} {H : Hp} {a : Addr} {xs : List V} (h : T2 H a xs) : TyX K H (.ref a) (.type "tuple") := by
  rcases h with ⟨o, h, _⟩ | h
  · exact .fTuple h
  · exact .base (.tup h)
/-- all tuples stay -/
def K2 (H H' : Hp) : Prop := ∀ a xs, T2 H a xs → T2 H' a xs
theorem K2.same {H H' : Hp} (s : Same H H') : K2 H H' := fun _ _ h => h.same s
theorem K2.trans {H H1 H2 : Hp} (a : K2 H H1) (b : K2 H1 H2) : K2 H H2 := fun x xs h => b x xs (a x xs h)
/-- what is no tuple may be changed -/
theorem K2.upd {H : Hp} {a : Addr} {o u : HO} (e : H a = some o) (n : ∀ xs, o ≠ .tup xs) (n2 : ∀ b xs, o ≠ .frz b (.tup xs)) : K2 H (upd H a u) := by
  rintro b xs (⟨ob, h, d⟩ | h)
  · refine .inl ⟨ob, ?_, d⟩
    rw [upd_ne]
    · exact h
    · rintro rfl
      rw [e] at h
      cases h
      exact n2 _ _ rfl
  · refine .inr ?_
    rw [upd_ne]
    · exact h
    · rintro rfl
      rw [e] at h
      cases h
      exact n _ rfl
theorem K2.lst {H : Hp} {a : Addr} {xs : List V} {u : HO} (e : H a = some (.lst xs)) : K2 H (L2.upd H a u) := K2.upd e (fun _ z => nomatch z) (fun _ _ z => nomatch z)
abbrev Rw := List Int × List Int
def RowAt (H : Hp) (v : V) (r : Rw) : Prop := ∃ a b c, v = .ref a ∧ T2 H a [.ref b, .ref c] ∧ T2 H b (r.1.map V.int) ∧ T2 H c (r.2.map V.int)
theorem RowAt.keep {H H' : Hp} {v : V} {r : Rw} (k : K2 H H') (h : RowAt H v r) : RowAt H' v r := by
  obtain ⟨a, b, c, e, h1, h2, h3⟩ := h
  exact ⟨a, b, c, e, k _ _ h1, k _ _ h2, k _ _ h3⟩
def RowsAt (H : Hp) : List V → List Rw → Prop
  | [], [] => True
  | v :: vs, r :: rs => RowAt H v r ∧ RowsAt H vs rs
  | _, _ => False
theorem RowsAt.keep {H H' : Hp} (k : K2 H H') : ∀ {vs : List V} {rs : List Rw}, RowsAt H vs rs → RowsAt H' vs rs
  | [], [], _ => trivial
  | _ :: _, _ :: _, h => ⟨h.1.keep k, RowsAt.keep k h.2⟩
  | [], _ :: _, h => h.elim
  | _ :: _, [], h => h.elim
theorem RowsAt.len {H : Hp} : ∀ {vs : List V} {rs : List Rw}, RowsAt H vs rs → vs.length = rs.length
  | [], [], _ => rfl
  | _ :: _, _ :: _, h => by rw [List.length_cons, List.length_cons, RowsAt.len h.2]
  | [], _ :: _, h => h.elim
  | _ :: _, [], h => h.elim
theorem RowsAt.get {H : Hp} : ∀ {vs : List V} {rs : List Rw}, RowsAt H vs rs → ∀ {i : Nat} {v : V}, vs[i]? = some v → ∃ r, rs[i]? = some r ∧ RowAt H v r
  | [], [], _, i, v, e => by simp at e
  | _ :: _, _ :: _, h, 0, v, e => by
    obtain rfl := (by simpa using e : _ = v)
    exact ⟨_, rfl, h.1⟩
  | _ :: _, _ :: _, h, i + 1, v, e => RowsAt.get h.2 (i := i) (by simpa using e)
  | [], _ :: _, h, _, _, _ => h.elim
  | _ :: _, [], h, _, _, _ => h.elim
theorem RowsAt.app {H : Hp} : ∀ {vs ws : List V} {rs qs : List Rw}, RowsAt H vs rs → RowsAt H ws qs → RowsAt H (vs ++ ws) (rs ++ qs)
  | [], _, [], _, _, h => h
  | _ :: _, _, _ :: _, _, g, h => ⟨g.1, RowsAt.app g.2 h⟩
  | [], _, _ :: _, _, g, _ => g.elim
  | _ :: _, _, [], _, g, _ => g.elim
theorem RowsAt.snoc {H : Hp} {vs : List V} {rs : List Rw} {v : V} {r : Rw} (g : RowsAt H vs rs) (h : RowAt H v r) : RowsAt H (vs ++ [v]) (rs ++ [r]) := g.app ⟨h, trivial⟩
theorem RowsAt.of {H : Hp} : ∀ {vs : List V} {rs : List Rw}, vs.length = rs.length → (∀ (i : Nat) (v : V) (r : Rw), vs[i]? = some v → rs[i]? = some r → RowAt H v r) → RowsAt H vs rs
  | [], [], _, _ => trivial
  | v :: vs, r :: rs, e, h => ⟨h 0 v r rfl rfl, RowsAt.of (by simpa using e) fun i x y h1 h2 => h (i + 1) x y h1 h2⟩
  | [], _ :: _, e, _ => by simp at e
  | _ :: _, [], e, _ => by simp at e
/-- a web in the heap -/
def WebAt (H : Hp) (p : Addr) (rs : List Rw) : Prop := ∃ ws, H p = some (.lst ws) ∧ RowsAt H ws rs
theorem WebAt.same {H H' : Hp} {p : Addr} {rs : List Rw} (h : WebAt H p rs) (s : Same H H') : WebAt H' p rs := by
  obtain ⟨ws, e, r⟩ := h
  exact ⟨ws, s _ _ e, r.keep (K2.same s)⟩
/-- rising numbers within a bound -/
structure Ris (lo hi : Int) (ns : List Int) : Prop where
  pw : ns.Pairwise (· < ·)
  lo : ∀ k ∈ ns, lo ≤ k
  hi : ∀ k ∈ ns, k ≤ hi
structure RowOk (n : Nat) (r : Rw) : Prop where
  rooms : Ris 0 99 r.1
  few : r.1.length ≤ 6
  tos : Ris 0 ((n : Int) - 1) r.2
def allRooms (rs : List Rw) : List Int := (rs.map Prod.fst).flatten
structure WebOk (rs : List Rw) : Prop where
  pos : 1 ≤ rs.length
  few : rs.length ≤ 80
  row : ∀ r ∈ rs, RowOk rs.length r
  all : ∃ S : List Int, S.length ≤ 12 ∧ ∀ k ∈ allRooms rs, k ∈ S
theorem ris_len {ns : List Int} {n : Nat} : Ris 0 ((n : Int) - 1) ns → ns.length ≤ n := by
  induction n generalizing ns with
  | zero =>
    intro h
    cases ns with
    | nil => exact Nat.le_refl _
    | cons a l =>
      have h1 := h.lo a List.mem_cons_self
      have h2 := h.hi a List.mem_cons_self
      omega
  | succ n ih =>
    intro h
    rcases List.eq_nil_or_concat ns with e | ⟨l, a, e⟩
    · rw [e]
      exact Nat.zero_le _
    · rw [List.concat_eq_append] at e
      subst e
      have pw := List.pairwise_append.mp h.pw
      have ha := h.hi a (List.mem_append_right _ List.mem_cons_self)
      have z := ih (ns := l) ⟨pw.1, fun k hk => h.lo k (List.mem_append_left _ hk), fun k hk => by
        have := pw.2.2 k hk a List.mem_cons_self
        omega⟩
      rw [List.length_append]
      show l.length + 1 ≤ n + 1
      omega
section
variable {X : Cx}
/-- a slice of a tuple, whatever it is -/
def rSl2 : V → Option Int → Option Int → Hp → VK → Prop := fun x lo hi H Q => ∃ a xs, x = .ref a ∧ T2 H a xs ∧ ∀ v H', Same H H' → T2 H' v (cutV xs lo hi) → Q (.ref v) H'
theorem sl_tup2 : SlR X rSl2 := by
  intro pins s σ H x v vl vu lo hi sl Q I rx hs pl pu h
  obtain ⟨a, xs, rfl, hx, q⟩ := h
  refine sl_tupA pins s σ H _ v vl vu lo hi sl Q I rx hs pl pu ⟨a, xs, rfl, hx.sq, fun hw => q a H (Same.refl H) ?_, fun _ p np => q p _ (same_upd np) (.inr upd_same)⟩
  have z : cutV xs lo hi = xs := by
    unfold cutV
    rw [hw.1, hw.2, Nat.sub_zero, List.drop_zero, List.take_length]
  rw [z]
  exact hx
end
theorem cut_tail (xs : List V) : cutV xs (some 1) none = xs.drop 1 := by
  cases xs with
  | nil => rfl
  | cons x l =>
    have e1 : HT.sIx (x :: l).length 0 (some 1) = 1 := by
      have z := HT.sIx_nat (x :: l).length 0 1
      have z2 : HT.sIx (x :: l).length 0 (some (1 : Int)) = min 1 (x :: l).length := z
      rw [z2, List.length_cons]
      omega
    unfold cutV
    rw [e1, HT.sIx_none, List.take_of_length_le]
    rw [List.length_drop]
    exact Nat.le_refl _
theorem rep_all (n : Nat) : (List.replicate n true).all id = true := by
  rw [List.all_eq_true]
  intro x hx
  rw [List.eq_of_mem_replicate hx]
  rfl
theorem rep_snoc (n : Nat) : (List.replicate n (V.bl true)) ++ [V.bl true] = List.replicate (n + 1) (V.bl true) := by
  rw [← List.replicate_succ']
theorem rep_map (n : Nat) : (List.replicate n true).map V.bl = List.replicate n (V.bl true) := List.map_replicate
/-! a comprehension over zip of two tuples -/
open RZ in
theorem lc_zipT {K : PySem.W.Frag} {a b : Addr} {xs ys : List V} {g : TG} {tt : TT} {te : TE} {vs : List Nat} {σ : L2.St} {H1 : Hp} {D : Addr} {Qd : Hp → Prop} (hl : ys.length ≤ xs.length) (Pv : Nat → Hp → Prop) (h0 : Pv 0 (upd H1 D (.lst [])))
    (hq : ∀ i H, i ≤ ys.length → Pv i H → SqT K H a xs ∧ SqT K H b ys)
    (hs : ∀ (i : Nat) (x y : V) (T : Addr) (H : Hp), xs[i]? = some x → ys[i]? = some y → Pv i H → H T = none → g (.ref T) (wipe σ vs) (upd H T (.tup [x, y])) fun σ2 H2 => wipe σ2 vs = wipe σ vs ∧ tt σ2 H2 fun b H3 =>
      if b = true then te σ2 H3 fun y H4 => ∃ acc, H4 D = some (.lst acc) ∧ acc.length < sizeLine ∧ Pv (i + 1) (upd H4 D (.lst (acc ++ [y]))) else Pv (i + 1) H3) (hd : ∀ H, Pv ys.length H → Qd H) :
    ∃ W : Nat → Nat → Hp → Prop, (∃ m, W 0 m (upd H1 D (.lst []))) ∧ ∀ i m H, W i m H →
      ((ItzT K a b).stop i H ∧ Qd H) ∨ ((ItzT K a b).go i H ∧ ∃ Nx : Hp → Prop, (∀ H', Nx H' → ∃ m', m' < m ∧ W (i + 1) m' H') ∧ ∀ x H', (ItzT K a b).yld i H x H' → g x (wipe σ vs) H' fun σ2 H2 => wipe σ2 vs = wipe σ vs ∧ tt σ2 H2 fun b H3 =>
        if b = true then te σ2 H3 fun y H4 => ∃ acc, H4 D = some (.lst acc) ∧ acc.length < sizeLine ∧ Nx (upd H4 D (.lst (acc ++ [y]))) else Nx H3) := by
  refine ⟨fun i m H => m = ys.length - i ∧ i ≤ ys.length ∧ Pv i H, ⟨ys.length, (Nat.sub_zero _).symm, Nat.zero_le _, h0⟩, ?_⟩
  rintro i m H ⟨rfl, hi, p⟩
  obtain ⟨qx, qy⟩ := hq i H hi p
  by_cases hlt : i < ys.length
  · have hy : ys[i]? = some ys[i] := List.getElem?_eq_getElem hlt
    have hx : xs[i]? = some xs[i] := List.getElem?_eq_getElem (by omega)
    refine .inr ⟨⟨xs, ys, _, _, qx, qy, hx, hy⟩, Pv (i + 1), fun H' p' => ⟨ys.length - (i + 1), by omega, rfl, hlt, p'⟩, fun v H' y => ?_⟩
    obtain ⟨T, x', y', rfl, nT, rfl, f1, f2⟩ := y
    exact hs i x' y' T H (f1 xs qx) (f2 ys qy) p nT
  · have e : i = ys.length := by omega
    subst e
    exact .inl ⟨⟨xs, ys, qx, qy, .inr (Nat.le_refl _)⟩, hd H p⟩
section
variable {K : PySem.W.Frag} {a : Addr} {xs : List V}
theorem for_enumS {g : TG} {tb : TS} {D : Ends} {σ : L2.St} {H : Hp} (Pv : Nat → L2.St → Hp → Prop) (h0 : Pv 0 σ H) (hl : ∀ i σ H, i ≤ xs.length → Pv i σ H → SqL K H a xs)
    (hs : ∀ i x σ H T, xs[i]? = some x → Pv i σ H → H T = none → g (.ref T) σ (upd H T (.tup [.int (i : Nat), x])) fun σ2 H2 => tb { D with nx := Pv (i + 1), ct := Pv (i + 1), bk := D.nx } σ2 H2) (hd : ∀ σ H, Pv xs.length σ H → D.nx σ H) :
    ∃ W : Nat → Nat → L2.St → Hp → Prop, (∃ m, W 0 m σ H) ∧ ∀ i m σ H, W i m σ H →
      ((Ite K a).stop i H ∧ D.nx σ H) ∨ ((Ite K a).go i H ∧ ∃ N : L2.St → Hp → Prop, (∀ σ' H', N σ' H' → ∃ m', m' < m ∧ W (i + 1) m' σ' H') ∧ ∀ v H', (Ite K a).yld i H v H' → g v σ H' fun σ2 H2 => tb { D with nx := N, ct := N, bk := D.nx } σ2 H2) := by
  refine ⟨fun i m σ H => m = xs.length - i ∧ i ≤ xs.length ∧ Pv i σ H, ⟨xs.length, (Nat.sub_zero _).symm, Nat.zero_le _, h0⟩, ?_⟩
  rintro i m σ H ⟨rfl, hi, p⟩
  have q := hl i σ H hi p
  by_cases hlt : i < xs.length
  · refine .inr ⟨⟨xs, xs[i], q, List.getElem?_eq_getElem hlt⟩, Pv (i + 1), fun σ' H' p' => ⟨xs.length - (i + 1), by omega, rfl, hlt, p'⟩, fun v H' y => ?_⟩
    obtain ⟨T, x, rfl, nT, rfl, y⟩ := y
    exact hs i x σ H T (y xs q) p nT
  · have e : i = xs.length := by omega
    subst e
    exact .inl ⟨⟨xs, q, Nat.le_refl _⟩, hd σ H p⟩
end
theorem K2.of {p : Addr} {H H' : Hp} (k : Kept p H H') (hp : PoolAt H p) : K2 H H' := by
  rintro a xs (h | h)
  · exact .inl (h.kept k hp)
  · refine .inr (k _ _ h fun z => ?_)
    subst z
    obtain ⟨o, e, g, m, rfl, _⟩ := hp
    rw [e] at h
    cases h
theorem cut_to (xs : List V) (k : Nat) : cutV xs none (some (k : Int)) = xs.take k := by
  have e1 : HT.sIx xs.length xs.length (some (k : Int)) = min k xs.length := HT.sIx_nat xs.length xs.length k
  unfold cutV
  rw [e1, HT.sIx_none, Nat.sub_zero, List.drop_zero]
  by_cases h : k ≤ xs.length
  · rw [Nat.min_eq_left h]
  · rw [Nat.min_eq_right (by omega), List.take_length, List.take_of_length_le (by omega)]
theorem pw_lt {ms : List Int} (h : ms.Pairwise (· ≤ ·)) (nd : ms.Nodup) : ms.Pairwise (· < ·) := by
  have z := h.and nd
  exact z.imp fun ⟨a, b⟩ => by omega
/-! a web as data, for repr -/
theorem dp_intsS {K : PySem.W.Frag} {H : Hp} : ∀ ns : List Int, DpAll K H (ns.map V.int) (ns.map PyData.int)
  | [] => .nil
  | n :: ns => .cons (.int n) (dp_intsS ns)
def rowD (r : Rw) : PyData := .tuple [.tuple (r.1.map PyData.int), .tuple (r.2.map PyData.int)]
def webD (rs : List Rw) : PyData := .list (rs.map rowD)
theorem rows_dp {K : PySem.W.Frag} {H : Hp} : ∀ {ws : List V} {rs : List Rw}, RowsAt H ws rs → DpAll K H ws (rs.map rowD)
  | [], [], _ => .nil
  | w :: ws, r :: rs, h => by
    obtain ⟨⟨a, b, c, rfl, h1, h2, h3⟩, t⟩ := h
    exact .cons (.tup h1.sq (.cons (.tup h2.sq (dp_intsS _)) (.cons (.tup h3.sq (dp_intsS _)) .nil))) (rows_dp t)
  | [], _ :: _, h => h.elim
  | _ :: _, [], h => h.elim
theorem WebAt.dp {K : PySem.W.Frag} {H : Hp} {p : Addr} {rs : List Rw} (h : WebAt H p rs) : Dp K H (.ref p) (webD rs) := by
  obtain ⟨ws, e, r⟩ := h
  exact .lst (SqL.of e) (rows_dp r)
theorem FineL.up {ds : List PyData} {n m n' m' : Nat} (h : FineL ds n m) (a : n ≤ n') (b : m ≤ m') : FineL ds n' m' := ⟨h.sh, h.nd, Nat.le_trans h.dp a, h.lv, Nat.le_trans h.wt b, h.cl⟩
end Su
/-! ### SF: a tuple times 0 or 1, the sorted keys of a dict -/
namespace Su
open PySem PySem.Spec PyProof.Rows L2
section
variable {X : Cx}
/-- the keys of a dict, all ints -/
def KeysI (kvs : List (Key × V)) (ks : List Int) : Prop := kvs.map (·.1) = ks.map Sum.inl
theorem KeysI.len {kvs : List (Key × V)} {ks : List Int} (h : KeysI kvs ks) : kvs.length = ks.length := by
  have z := congrArg List.length h
  rwa [List.length_map, List.length_map] at z
theorem KeysI.put {kvs : List (Key × V)} {ks : List Int} (h : KeysI kvs ks) (nd : ks.Nodup) (k : Int) (v : V) : ∃ ks', KeysI (putK kvs (Sum.inl k) v) ks' ∧ ks'.Nodup ∧ ∀ j, j ∈ ks' ↔ j ∈ ks ∨ j = k := by
  unfold putK
  by_cases hk : (kvs.any fun kv => decide (kv.1 = Sum.inl k)) = true
  · rw [if_pos hk]
    refine ⟨ks, ?_, nd, fun j => ⟨.inl, ?_⟩⟩
    · unfold KeysI at h ⊢
      rw [← h, List.map_map]
      refine List.map_congr_left fun q _ => ?_
      show (if q.1 = Sum.inl k then (q.1, v) else q).1 = q.1
      split <;> rfl
    · rintro (z | rfl)
      · exact z
      · obtain ⟨q, hq, e⟩ := List.any_eq_true.mp hk
        have z : (Sum.inl j : Key) ∈ kvs.map (·.1) := by
          rw [← of_decide_eq_true e]
          exact List.mem_map_of_mem hq
        rw [h] at z
        obtain ⟨i, hi, e2⟩ := List.mem_map.mp z
        rw [← Sum.inl.inj e2]
        exact hi
  · rw [if_neg hk]
    have nk : k ∉ ks := fun hm => hk (by
      have z : (Sum.inl k : Key) ∈ kvs.map (·.1) := by
        rw [h]
        exact List.mem_map_of_mem hm
      obtain ⟨q, hq, e⟩ := List.mem_map.mp z
      exact List.any_eq_true.mpr ⟨q, hq, decide_eq_true e⟩)
    refine ⟨ks ++ [k], ?_, ?_, fun j => by rw [List.mem_append, List.mem_singleton]⟩
    · unfold KeysI at h ⊢
      rw [List.map_append, List.map_append, h]
      rfl
    · rw [List.nodup_append]
      refine ⟨nd, by simp, fun a ha b hb => ?_⟩
      rw [List.mem_singleton.mp hb]
      rintro rfl
      exact nk ha
/-- sorted(d), all keys ints -/
def rSortedDI : List V → Hp → VK → Prop := fun xs H Q => ∃ (a : Addr) (kvs : List (Key × V)) (ks : List Int), xs = [.ref a] ∧ H a = some (.dK kvs) ∧ KeysI kvs ks ∧ ks.length ≤ 4000 ∧
  ∀ (ys : List Int) (p : Addr), ys.Perm ks → ys.Pairwise (· ≤ ·) → H p = none → Q (.ref p) (upd H p (.lst (ys.map V.int)))
theorem cr_sortedDI (hc : X.calm = true) : CallR X (.builtin "sorted") rSortedDI := by
  intro pins s σ H xs us Q I r h
  obtain ⟨a, kvs, ks, rfl, hd, hks, few, q⟩ := h
  rw [Vals.ref1 r]
  obtain ⟨z, lo, vs, rel, dd⟩ := dk_rd I.hok (.inl hd)
  obtain ⟨ep, hat⟩ := dd.dictAt
  have keys : vs.map (·.1) = ks.map Sum.inl := rel.keys.symm.trans hks
  have len : vs.length = ks.length := by
    have y := congrArg List.length keys
    rwa [List.length_map, List.length_map] at y
  have small : vs.length ≤ sizeLine := by
    rw [len, sizeLine_eq]
    omega
  refine Calls.call_function_entry kind_sorted plain_sorted entry_sorted (args_sorted1 _) ?_
  unfold Builtin.«sorted»
  refine wpAny_bind (m := checkCount "sorted" 1 1 _) (wpAny_pure (wpAny_bind (PySem.W.kdu_collect (A := X.A.in1) (PySem.W.kdl_dict (knd := mixKind X.prog X.w) (kvs := vs) (ep := ep) lo) (I.ok.hd hc) hat small fun h' tk acc hk hacc => ?_)))
  have rv : Vals (vs.map fun p => kV p.1) acc.toList := keys_at (by rw [Array.length_toList, hacc.1]) fun j v e => hacc.2 j v (by rw [← Array.getElem?_toList]; exact e)
  have rv2 : Vals (ks.map V.int) acc.toList := by
    have y : (vs.map fun p => kV p.1) = ks.map V.int := by
      have y1 : (vs.map fun p => kV p.1) = (vs.map (·.1)).map kV := by rw [List.map_map]; rfl
      rw [y1, keys, List.map_map]
      rfl
    rwa [y] at rv
  have hI := rv2.ints
  have alen : acc.toList.length ≤ sizeLine := by
    rw [Array.length_toList, hacc.1]
    exact small
  have I1 : Inv X pins σ H { s with heap := h', toks := tk } := I.kept hk
  refine wpAny_bind (wpAny_newList ?_ alen)
  have at1 : (h'.push (seqObj "list" acc.toList.toArray 0)).get? h'.objs.size = some (seqObj "list" acc.toList.toArray 0) := Heap.get?_push_size _ rfl
  show wpAny _ _ _ _ _ { s with heap := h'.push (seqObj "list" acc.toList.toArray 0), toks := tk }
  refine wpAny_bind (wpAny_holding (wpAny_call_entry slot_list_sort ⟨_, at1, rfl⟩ entry_list_sort (SrtO.list_sort_ord SrtO.swo_int (s := { s with heap := h'.push (seqObj "list" acc.toList.toArray 0), toks := tk }) at1 alen (fun h2 => SrtO.ints_sortable hI h2) fun out h1 h2 => ⟨_, rfl, ?_⟩) (args_list_sort _)))
  obtain ⟨k3, k4, k5⟩ := SrtO.ints_out hI h1 h2
  obtain ⟨c, hcc⟩ := sortedHeap_at (vs := acc.toList) (out := out.toArray) at1
  have olen : ((out.map SrtO.iv).map V.int).length ≤ sizeLine := by
    rw [List.length_map, k4.length_eq, sizeLine_eq]
    omega
  refine wpAny_pure ⟨_, rfl, .ref h'.objs.size, upd H h'.objs.size (.lst ((out.map SrtO.iv).map V.int)), I1.laid (t' := tk) (fun b u e => ?_) (Nat.le_refl _) (show ObjOk X.prog X.w _ _ _ (.lst _) from ⟨olen, out, c, vals_of_ints k3, hcc⟩), rfl, q _ _ k4 k5 (I1.hok.fresh (Nat.le_refl _))⟩
  have lt : b < h'.objs.size := Heap.lt_size e
  rw [sortedHeap_old (Nat.ne_of_lt lt) (by rw [size_push']; exact Nat.lt_succ_of_lt lt)]
  exact Heap.get?_push_of_some _ e
end
end Su
/-! ### SG: l.extend(t), t a tuple; rows that are written -/
namespace Su
open PySem PySem.Spec PyProof.Rows L2
section
variable {X : Cx}
end
/-! written rows -/
end Su
/-! ### SI: a comprehension within another one -/
namespace Su
open PySem PySem.Spec PyProof.Rows L2
end Su
/-! ### XA: an exception that is caught and kept -/
namespace Su
open PySem PySem.Spec PyProof.Rows L2
/-- at a: an exception of the class cls, its dict at d -/
def exK (a : Addr) (cls : Value) (d : Option Addr) : HO := .ext fun h => ∃ (oe : Obj) (vs : Array Value), h.get? a = some oe ∧ Zc cls d oe ∧ oe.data = .fields vs
theorem exK_ok {P : Program} {w : World} {H : Hp} {h : Heap} {a : Addr} {cls : Value} {d : Option Addr} {oe : Obj} {vs : Array Value} (e : h.get? a = some oe) (z : Zc cls d oe) (hd : oe.data = .fields vs) : ObjOk P w H h a (exK a cls d) := by
  refine ⟨⟨oe, vs, e, z, hd⟩, ⟨oe, e⟩, fun h1 h2 p k => ?_⟩
  obtain ⟨o, v, e1, z1, d1⟩ := p
  exact ⟨o, v, k _ e1, z1, d1⟩
section
variable {X : Cx} {pins : List (Addr × Obj)} {σ : L2.St} {H : Hp} {s : Shared}
/-- what is new since the entry may be tracked from now on -/
theorem track {a : Addr} {o : HO} (I : Inv X pins σ H s) (ha : H a = none) (h0 : X.s_0.heap.get? a = none) (nl : a ≠ X.env.locals) (nc : ∀ x c, X.env.cells.lookup x = some c → c ≠ a) (np : ∀ p ∈ X.pn ++ pins, p.1 ≠ a)
    (new : ObjOk X.prog X.w (upd H a o) s.heap a o) : Inv X pins σ (upd H a o) s where
  ok := I.ok
  os := I.os
  bare := I.bare
  base := {
    keep := I.base.keep
    slot := I.base.slot
    free := fun b u q n x => by
      rw [upd_ne fun z => by rw [z, h0] at q; cases q]
      exact I.base.free b u q n x
    there := I.base.there
    tups := fun b xs q => by
      have z := I.base.tups b xs q
      rw [upd_ne (ne_of_none z ha)]
      exact z
    frzs := fun b u v q => by
      have z := I.base.frzs b u v q
      rw [upd_ne (ne_of_none z ha)]
      exact z
    tbls := fun b ps q => by
      obtain ⟨more, z⟩ := I.base.tbls b ps q
      exact ⟨more, by rw [upd_ne (ne_of_none z ha)]; exact z⟩ }
  loc := I.loc
  cell := I.cell
  free := by
    rw [upd_ne nl.symm]
    exact I.free
  freeC := fun x c e => by
    rw [upd_ne (nc x c e)]
    exact I.freeC x c e
  pin := fun p hp => by
    obtain ⟨p1, p2, p3⟩ := I.pin p hp
    exact ⟨p1, by rw [upd_ne (np p hp)]; exact p2, p3⟩
  hok := HOk.laidN I.hok (fun _ _ q => q) ha new
  len := I.len
end
section
variable {X : Cx} {x n : Str} {c : Value} {i : Nat} {body suite : List Stmt} {b0 : Stmt} {np pos pos' : Pos} {tb : WX → TS} {ts : Addr → TS} {Wo : WX}
end
end Su
/-! ### XB: what is asked of a kept exception: isinstance, a field -/
namespace Su
open PySem PySem.Spec PyProof.Rows L2
/-- what the written part says of an own exception class -/
structure ExcT (K : PySem.W.Frag) (C : Addr) : Prop where
  cl : (PySem.W.clsIn K C).isSome = true
  ga : PySem.W.findIn K (.ref C) "__getattribute__" = some (some (.builtin "BaseException.__getattribute__"))
  gg : PySem.W.findIn K (.ref C) "__getattr__" = some none
  sub : PySem.W.subIn K (.ref C) (.type "BaseException") = some true
  cc : PySem.W.findIn K (.ref C) "__class__" = some (some (.builtin "object.__class__"))
  sp : PySem.W.specialIn K (.builtin "object.__class__") "__get__" = some (some (.builtin "getset_descriptor.__get__"))
  tk : PySem.W.takesIn K (.builtin "object.__class__") = some true
  mr : PySem.W.mroIn K C (.type "object") = some true
  hd : PySem.W.hasDictIn K C = true
/-- its dict, if it has one, is told -/
def XdAt (H : Hp) (d : Option Addr) : Prop := ∀ dd, d = some dd → ∃ fs, H dd = some (.xd fs)
section
variable {X : Cx} {pins : List (Addr × Obj)} {σ : L2.St} {H : Hp} {s : Shared}
theorem exK_inst {a C : Addr} {d : Option Addr} (I : Inv X pins σ H s) (e : H a = some (exK a (.ref C) d)) (hd : XdAt H d) : ∃ (ox : Obj) (od : Option Obj), PySem.W.InstAt s.heap a ox C od := by
  obtain ⟨oe, vs, e1, z, dt⟩ := (I.hok a _ e).1
  have no : PySem.W.notCls oe = true := by
    unfold PySem.W.notCls
    rw [dt]
  cases d with
  | none => exact ⟨oe, none, e1, z.1, no, by rw [z.2]; trivial⟩
  | some dd =>
    obtain ⟨fs, hx⟩ := hd dd rfl
    obtain ⟨mA, hns, _⟩ := (show ObjOk X.prog X.w H s.heap dd (.xd fs) from I.hok dd _ hx)
    obtain ⟨od, ho, _⟩ := lookIn_ns hns
    exact ⟨oe, some od, e1, z.1, no, by rw [z.2]; exact ho⟩
theorem exK_kit {a C : Addr} {d : Option Addr} (T : ExcT X.K C) (I : Inv X pins σ H s) (e : H a = some (exK a (.ref C) d)) (hd : XdAt H d) : ∃ P : Heap → Prop, PySem.W.KitX X.K (.ref a) (.ref C) P ∧ P s.heap := by
  obtain ⟨ox, od, J⟩ := exK_inst I e hd
  exact ⟨_, PySem.W.kitx_exc T.cl T.ga T.gg T.sub T.cc T.sp T.tk T.mr, J⟩
/-- isinstance(e, c) -/
def rIsiE (K : PySem.W.Frag) : List V → Hp → VK → Prop := fun xs H Q => ∃ (a C : Addr) (d : Option Addr) (c : V) (u : Value) (b : Bool), xs = [.ref a, c] ∧ ClsV c u ∧ ExcT K C ∧ H a = some (exK a (.ref C) d) ∧ XdAt H d ∧ PySem.W.kitOne K (.ref C) u = some b ∧ Q (.bl b) H
theorem call_isiE : CallR X (.builtin "isinstance") (rIsiE X.K) := by
  intro pins s σ H xs us Q I r h
  obtain ⟨a, C, d, c, u, b, rfl, k, T, e, hd, ek, q⟩ := h
  obtain ⟨u1, u2, rfl, r1, r2⟩ := vals2 r
  cases r1
  have e2 := k.eq r2
  subst e2
  obtain ⟨P, Z, p⟩ := exK_kit T I e hd
  exact PySem.W.kia_one Z I.kIn p ek (fun z => nomatch z) fun tk => ⟨.bl b, H, I.tok tk, rfl, q⟩
/-- e.f -/
def tXfld (K : PySem.W.Frag) (f : Str) (te : TE) : TE := fun σ H Q => te σ H fun x H1 => ∃ (a C dd : Addr) (fs : List (Str × V)) (v : V), x = .ref a ∧ ExcT K C ∧ PySem.W.findIn K (.ref C) f = some none ∧ H1 a = some (exK a (.ref C) (some dd)) ∧ H1 dd = some (.xd fs) ∧ fs.lookup f = some v ∧ Q v H1
theorem pe_xfld {e : Expr} {f : Str} {te : TE} {pos : Pos} (he : PE X e te) (hb : attributeBase e f X.env (eval e X.env) = eval e X.env := by rfl) : PE X (.Attribute e f pos) (tXfld X.K f te) := by
  refine ⟨fun pins s σ H Q I h => ?_⟩
  refine attr_of hb (thn (he.run pins s σ H _ I h) fun u s1 ⟨x, H1, I1, rx, a, C, dd, fs, v, ex, T, no, ea, ed, ef, q⟩ => ?_)
  subst ex
  cases rx
  obtain ⟨oe, vs, e1, z, dt⟩ := (I1.hok a _ ea).1
  obtain ⟨mA, hns, hr⟩ := (show ObjOk X.prog X.w H1 s1.heap dd (.xd fs) from I1.hok dd _ ed)
  obtain ⟨od, ho, hl⟩ := lookIn_ns hns
  obtain ⟨u, hu, ru⟩ := RelO.some_of (v := v) (o := mA f) (by rw [← ef]; exact hr f)
  have J : PySem.W.InstAt s1.heap a oe C (some od) := ⟨e1, z.1, by unfold PySem.W.notCls; rw [dt], by rw [z.2]; exact ho⟩
  exact HandSPX.exc_get I1.kIn J T.ga T.gg T.sub (PySem.W.findObj_own T.hd no rfl (by rw [hl, hu])) (handed_of ru) ⟨v, H1, I1.tok _, ru, q⟩
end
end Su
/-! ### XC: an own exception class, over another one, whose __init__ calls that of the built-in above and keeps a field -/
namespace Su
namespace XC
open PySem PySem.W PySem.Calls PyProof.Rows PySem.HandSPX Builtin Builtin.ObjectAttr
def inA (f : Str) (p1 p2 : Pos) : Arguments :=
  { posonlyargs := [], args := [{ arg := "self", annotation := none, pos := p1 }, { arg := f, annotation := none, pos := p2 }], vararg := none, kwonlyargs := [], kw_defaults := [], kwarg := none, defaults := [] }
def inB (f t : Str) (r1 r2 r3 r4 r5 r6 q1 q2 q3 q4 : Pos) : List Stmt :=
  [.Expr (.Call (.Attribute (.Call (.Name "super" r1) [] [] r2) "__init__" r3) [.Constant (.str t) 0 r4] [] r5) r6, .Assign [.Attribute (.Name "self" q1) f q2] (.Name f q3) q4]
def inS (f : Str) : Scope :=
  { kind := .function, names := [(PySem.Str.ofString "self", .local), (f, .local), (PySem.Str.ofString "__class__", .free), (PySem.Str.ofString "super", .globalImplicit)], isGenerator := false, isCoroutine := false, more := [] }
/-- a field's name -/
structure Fld (f : Str) : Prop where
  self : f ≠ "self"
  cl : f ≠ "__class__"
  su : f ≠ "super"
  db : (f == ("__debug__" : Str)) = false
  bnd : ∀ (q : Str) (p1 p2 : Pos) (bd : List Stmt) (doc pm : Value) (an : Option Addr) (cd ct : Value) (cc : Addr) (a b : Value), bindArgs (ksFn "__init__" q (inA f p1 p2) bd (inS f) .none .none doc pm an cd ct cc) ⟨[a, b], []⟩ = pure ([("self", a), (f, b)] : List (Str × Value))
  sw : ∀ (q : Str) (L a : Addr) (cd : Value) (cc : Addr) (t : Str) (r1 r2 r3 r4 r5 : Pos) (k : Nat), swapsWith (.Call (.Attribute (.Call (.Name "super" r1) [] [] r2) "__init__" r3) [.Constant (.str t) 0 r4] [] r5) none k (ksEnv q (inS f) L a cd cc) = pure false
  sx : ∀ (q : Str) (L a : Addr) (cd : Value) (cc : Addr) (q1 q2 q3 : Pos) (k : Nat), swapsWith (.Name f q3) (some (.Attribute (.Name "self" q1) f q2)) k (ksEnv q (inS f) L a cd cc) = pure false
theorem fld_row : Fld "row" := ⟨by decide, by decide, by decide, by decide, fun _ _ _ _ _ _ _ _ _ _ _ _ => by first | rfl | with_unfolding_all rfl, fun _ _ _ _ _ _ _ _ _ _ _ _ => by first | rfl | with_unfolding_all rfl, fun _ _ _ _ _ _ _ _ _ => by first | rfl | with_unfolding_all rfl⟩
theorem fld_part : Fld "part" := ⟨by decide, by decide, by decide, by decide, fun _ _ _ _ _ _ _ _ _ _ _ _ => by first | rfl | with_unfolding_all rfl, fun _ _ _ _ _ _ _ _ _ _ _ _ => by first | rfl | with_unfolding_all rfl, fun _ _ _ _ _ _ _ _ _ => by first | rfl | with_unfolding_all rfl⟩
/-- what the written part says of the class n at C, over the built-in B, with the field f, its __init__ at fI -/
structure Own (P : Program) (K : Frag) (mg : Str → Option Value) (n f : Str) (C fI : Addr) (B newId initId : String) (bmB : List Value) : Prop where
  fld : Fld f
  gC : mg n = some (.ref C)
  ini : excInitIn K C bmB newId = true
  ovr : excOver K C bmB = true
  base : ExcBaseFacts B newId initId bmB
  stor : StoreFacts B bmB "object.__setattr__" "object"
  kx : KxsFacts B initId
  sa : findIn K (.ref C) "__setattr__" = some (some (.builtin "object.__setattr__"))
  noN : findIn K (.ref C) f = some none
  iC : findIn K (.ref C) "__init__" = some (some (.ref fI))
  fC : isFn K (.ref fI) = true
  kC : keepIn K (.ref C) = true
  exC : subIn K (.ref C) (.type "BaseException") = some true
  tyC : typeIn K (.ref C) = some (.type "type")
  hdC : hasDictIn K C = true
  isB : subIn K (.ref C) (.type B) = some true
  sup : ks_superIn K C C "__init__" = some (some (.builtin initId))
  own : mroIn K C (.ref C) = some true
  nos : mg "super" = none
  opq : nsIn K cStatics "thirdparty.any" = some none
  ntop : (P.main.scope.names.lookup ("super" : Str)).isSome = false
  fn : ∃ (oc : Value) (od : Option Addr) (q : Str) (doc pm : Value) (an : Option Addr) (cda cc : Addr) (ct : Value) (osl : Array (Option Value)) (t : Str) (p1 p2 r1 r2 r3 r4 r5 r6 q1 q2 q3 q4 : Pos)
      (ccl : Value) (cdd : Option Addr) (vs : Array Value) (ccs : Array (Option Value)) (file : Str) (tf : Tok) (cl : Value) (cld : Option Addr) (csl : Array (Option Value)),
    K.lookup fI = some ⟨oc, od, .func (ksFn "__init__" q (inA f p1 p2) (inB f t r1 r2 r3 r4 r5 r6 q1 q2 q3 q4) (inS f) .none .none doc pm an (.ref cda) ct cc), osl⟩ ∧ codeIn K (.ref cda) q = true ∧
    K.lookup cda = some ⟨ccl, cdd, .fields vs, ccs⟩ ∧ vs[2]? = some (.str file tf) ∧ ((P.main.file : Str) == file) = true ∧ (r3.endLine == r5.line) = true ∧ K.lookup cc = some ⟨cl, cld, .cell (some (.ref C)), csl⟩
/-- what __init__ leaves of a fresh exception at x -/
structure Left (h h' : Heap) (x C dx t1 : Addr) (f : Str) (v : Value) : Prop where
  keep : ∀ b o, b ≠ x → h.get? b = some o → h'.get? b = some o
  obj : h'.get? x = some { cls := .ref C, dict := some dx, data := .fields #[.ref t1, .none, .none, .none, .bool false, .none] }
  dbig : h.objs.size ≤ dx
  dne : dx ≠ x
  ns : h'.Ns1 dx (fun y => if y = f then some v else none)
section
variable {P : Program} {w : World} {A : Around} {E : Value → Shared → Prop} {R : Result → Shared → Prop} {s : Shared} {K : Frag} {mg : Str → Option Value} {n f : Str} {C fI : Addr} {B newId initId : String} {bmB : List Value}
theorem ev_init {env : Env} {o : Expr} {m : Str} {t : Str} {r3 r4 r5 : Pos} (hl : (r3.endLine == r5.line) = true) : ∃ pl, eval (.Call (.Attribute o m r3) [.Constant (.str t) 0 r4] [] r5) env = (do
    let ov ← attributeBase o m env (eval o env); standAt r3.atName
    let (g, first) ← holding [ov] (getMethod ov m pl); callWith r5 g first (backTo r5 (starEach [.Constant (.str t) 0 r4] env)) []) := by
  have e1 : methodCallForm 1 (backTo r5 (starEach [.Constant (.str t) 0 r4] env)) (backToKw r5 (keywordEach [] env)) = true := rfl
  have e2 : methodCallPos true o env r3 r5 = pure r5 := by
    unfold methodCallPos
    rw [hl]
    rfl
  refine ⟨do return (← importBound o env).getD true, ?_⟩
  rw [arm_eval_Call]
  show (do let ov ← attributeBase o m env (eval o env); standAt r3.atName; methodCall o m r3 r5 env ov 1 (backTo r5 (starEach [.Constant (.str t) 0 r4] env)) (backToKw r5 (keywordEach [] env))) = _
  unfold methodCall
  rw [e1, e2]
  simp only [calleeOf, if_true, pure_bind]
  rfl
theorem put_new {x t1 : Addr} {v : Value} {tk : Tok} (T : Own P K mg n f C fI B newId initId bmB) (X : K.In s.heap) (hx : s.heap.get? x = some (excO C t1))
    (hq : ∀ h' tk' dx, (∀ b o, b ≠ x → s.heap.get? b = some o → h'.get? b = some o) → s.heap.objs.size ≤ dx → dx ≠ x → h'.get? x = some { cls := .ref C, dict := some dx, data := .fields #[.ref t1, .none, .none, .none, .bool false, .none] } →
      h'.Ns1 dx (fun y => if y = f then some v else none) → R (.ok (.ret .none)) { s with heap := h', toks := tk' }) :
    codeAny (model P w) A (.call (.builtin "object.__setattr__") ⟨[.ref x, .str f tk, v], []⟩) R s := by
  obtain ⟨cd, hc, hd⟩ := any_some T.hdC
  have hxs : x ≠ s.heap.objs.size := Nat.ne_of_lt (Heap.lt_size hx)
  refine osa_openX (od := none) (r := none) T.stor X ⟨hx, rfl, rfl, trivial⟩ T.ovr (by unfold takerIn; rw [T.noN]; rfl) fun b => ?_
  obtain ⟨hp, g, d, t, os⟩ := s
  refine wpAny_bind (wpAny_pure (wpAny_bind (instanceDict_exc hx (looks_clsIn X hc) hd ?_)))
  show wpAny _ _ (storeInDict hp.objs.size (.str f tk) f v) _ _ _
  refine store_in_new ?_ fun h' tk' hn' hs => ?_
  · exact ⟨_, #[], _, (Heap.get?_update_ne _ _ _ _ hxs.symm).trans (Heap.get?_push_at rfl rfl), rfl, fun e he => absurd he (by simp), fun _ => rfl⟩
  · have e1 : (hp.push (dictOf [] 0)).get? x = some (excO C t1) := Heap.get?_push_of_some _ hx
    exact hq h' tk' hp.objs.size (fun b o hb ho => (hs.2 b (Nat.ne_of_lt (Heap.lt_size ho))).trans ((Heap.get?_update_ne _ _ _ _ hb).trans (Heap.get?_push_of_some _ ho))) (Nat.le_refl _) hxs.symm ((hs.2 x hxs).trans (Heap.get?_update_self _ e1 rfl)) hn'
theorem kind_f (F : Fld f) : (inS f).names.lookup f = some .local := by
  show List.lookup f ((PySem.Str.ofString "self", NameKind.local) :: (f, NameKind.local) :: _) = _
  rw [List.lookup_cons, show (f == PySem.Str.ofString "self") = false from by simpa using F.self, List.lookup_cons, beq_self_eq_true]
theorem kind_c (F : Fld f) : (inS f).names.lookup ("__class__" : Str) = some .free := by
  show List.lookup ("__class__" : Str) ((PySem.Str.ofString "self", NameKind.local) :: (f, NameKind.local) :: (PySem.Str.ofString "__class__", NameKind.free) :: _) = _
  rw [List.lookup_cons, show (("__class__" : Str) == PySem.Str.ofString "self") = false from by decide, List.lookup_cons, show (("__class__" : Str) == f) = false from by simpa using Ne.symm F.cl, List.lookup_cons, show (("__class__" : Str) == PySem.Str.ofString "__class__") = true from by decide]
theorem kind_s (F : Fld f) : (inS f).names.lookup ("super" : Str) = some .globalImplicit := by
  show List.lookup ("super" : Str) ((PySem.Str.ofString "self", NameKind.local) :: (f, NameKind.local) :: (PySem.Str.ofString "__class__", NameKind.free) :: (PySem.Str.ofString "super", NameKind.globalImplicit) :: _) = _
  rw [List.lookup_cons, show (("super" : Str) == PySem.Str.ofString "self") = false from by decide, List.lookup_cons, show (("super" : Str) == f) = false from by simpa using Ne.symm F.su, List.lookup_cons, show (("super" : Str) == PySem.Str.ofString "__class__") = false from by decide, List.lookup_cons, show (("super" : Str) == PySem.Str.ofString "super") = true from by decide]
/-- the built-in's __init__, bound to x, called: its args are laid anew -/
theorem call_mw {u x t0 : Addr} {a : Value} {Q : Value → Shared → Prop} (T : Own P K mg n f C fI B newId initId bmB) (X : K.In s.heap) (hx : s.heap.get? x = some (excO C t0)) (hu : s.heap.get? u = some (kxs_mw initId x))
    (hq : ∀ h' t1, (∀ b o, b ≠ x → s.heap.get? b = some o → h'.get? b = some o) → h'.get? x = some (excO C t1) → Q .none { s with heap := h' }) : wpAny (model P w) A (call (.ref u) [a]) Q E s := by
  obtain ⟨nm, N', qn, bs, bm, hdct, sn, sub, ab, col, dd, k0, k1, k2, k3, k5, hC, hT⟩ := excInit_of X T.ini
  obtain ⟨hp, g, d, tk, os⟩ := s
  have z1 : (Value.type "method-wrapper" == Value.type "method" || Value.type "method-wrapper" == Value.type "builtin_function_or_method" || Value.type "method-wrapper" == Value.type "method-wrapper") = true := by decide
  refine wpAny_call (codeAny_of_tree (show wpAny _ A.in1 (callAny (.ref u) ⟨[a], []⟩) _ _ _ from ?_))
  simp only [callAny]
  refine wpAny_bind (wpAny_load hu (by simp only [kxs_mw, z1, if_true]; refine KFB.if_so (by decide) (wpAny_bind (check_bound_init T.base.toExcCallFacts hC hx rfl (wpAny_bind (wpAny_pure (wpAny_pure ?_))))); exact ⟨plainId_quiet T.base.init.plain _, codeAny_builtin T.base.initEntry (exc_init_tree (cls := .ref C) (t0 := t0) (dv := none) (c2 := .none) (c3 := .none) (b4 := .bool false) hx (by rw [sizeLine_eq]; exact (by decide : 1 ≤ 16777216)) fun h' k e _ => hq h' _ k e)⟩))
theorem x_init (T : Own P K mg n f C fI B newId initId bmB) {x t0 : Addr} {v : Value} (X : K.In s.heap) (hG : s.heap.Ns mainGlobals mg) (hB : ∃ mb, s.heap.Ns builtinsNs mb ∧ ∀ y : Str, y ≠ "__name__" → mb y = bootBuiltins y) (hlim : s.heap.NoLimit)
    (hx : s.heap.get? x = some (excO C t0)) (hnx : K.lookup x = none) (hroom : A.depth < recursionLimit) (hq : ∀ h' tk dx t1, Left s.heap h' x C dx t1 f v → R (.ok (.ret .none)) { s with heap := h', toks := tk }) :
    codeAny (model P w) A (.call (.ref fI) ⟨[.ref x, v], []⟩) R s := by
  obtain ⟨oc, od, q, doc, pm, an, cda, cc, ct, osl, t, p1, p2, r1, r2, r3, r4, r5, r6, q1, q2, q3, q4, ccl, cdd, vs, ccs, file, tf, cl, cld, csl, ho, hcd, hcode, hvs, hfile, hln, hcell⟩ := T.fn
  obtain ⟨hp, g, d, tk0, os⟩ := s
  refine ks_codeAny_call_defAt (fd := ksFn "__init__" q (inA f p1 p2) (inB f t r1 r2 r3 r4 r5 r6 q1 q2 q3 q4) (inS f) .none .none doc pm an (.ref cda) ct cc) (body := inB f t r1 r2 r3 r4 r5 r6 q1 q2 q3 q4) (binds := [("self", .ref x), (f, v)]) hroom (X _ _ ho) rfl hlim (codeRec_of X hcd) rfl
    (BindsTo.of_eq ?b) ?c ?l (fun h₁ hns k₁ => ?_) rfl rfl rfl
  case b => exact T.fld.bnd _ _ _ _ _ _ _ _ _ _ _ _
  case c =>
    intro y hy e
    rcases List.mem_cons.mp hy with rfl | hy
    · cases e
    rcases List.mem_cons.mp hy with rfl | hy
    · cases e
    rcases List.mem_cons.mp hy with rfl | hy
    · cases e
    rcases List.mem_cons.mp hy with rfl | hy
    · cases e
    cases hy
  case l =>
    intro y hy
    rcases List.mem_cons.mp hy with rfl | hy
    · rfl
    rcases List.mem_cons.mp hy with rfl | hy
    · exact kind_f T.fld
    cases hy
  have X1 : K.In h₁ := X.keeps k₁
  have hx1 := k₁ _ _ hx
  obtain ⟨mb, hb1, hb2⟩ := hB
  obtain ⟨cd, hc, hd⟩ := any_some T.hdC
  have lself : (fun y => List.lookup y ([("self", .ref x), (f, v)] : List (Str × Value)).reverse) "self" = some (.ref x) := by
    show List.lookup ("self" : Str) [(f, v), ("self", .ref x)] = _
    rw [List.lookup_cons, show (("self" : Str) == f) = false from by simpa using Ne.symm T.fld.self, List.lookup_cons, beq_self_eq_true]
  have lf : (fun y => List.lookup y ([("self", .ref x), (f, v)] : List (Str × Value)).reverse) f = some v := by
    show List.lookup f [(f, v), ("self", .ref x)] = _
    rw [List.lookup_cons, beq_self_eq_true]
  obtain ⟨oD, hD1, hD2⟩ : ∃ oD, h₁.get? C = some oD ∧ oD.data = .cls cd := by
    unfold clsIn at hc
    split at hc
    · rename_i c d cd' sl ho
      cases hc
      exact ⟨_, X1 _ _ ho, rfl⟩
    · cases hc
  show _root_.PySem.wpAt _ _ (.func _ (ksEnv q (inS f) hp.objs.size fI (.ref cda) cc)) (execs _ (ksEnv q (inS f) hp.objs.size fI (.ref cda) cc)) _ _ _
  obtain ⟨pl, ev⟩ := ev_init (env := ksEnv q (inS f) hp.objs.size fI (.ref cda) cc) (o := .Call (.Name "super" r1) [] [] r2) (m := "__init__") (t := t) (r4 := r4) hln
  refine ks_wpAt_execs_cons (ks_wpAt_Expr_any (ks_wpAt_MethodCall (pl := pl) ?_ ev) rfl (T.fld.sw _ _ _ _ _ _ _ _ _ _ _ _))
  refine ks_wpAt_super_base (env := ksEnv q (inS f) hp.objs.size fI (.ref cda) cc) (kind_s T.fld) (kind_c T.fld) (by decide) rfl (X1 _ _ ho) rfl rfl rfl (X1 _ _ hcode) rfl hvs hfile T.ntop ?_
  refine ks_loadName_global rfl (kind_s T.fld) (loadGlobal_builtin (env := ksEnv q (inS f) hp.objs.size fI (.ref cda) cc) (hG.keeps k₁) T.nos (hb1.keeps k₁) ((hb2 _ (by decide)).trans (show bootBuiltins "super" = some (.type "super") from by first | rfl | decide +kernel)) ⟨rfl, ?_⟩)
  refine wpAny_loadName_free rfl (kind_c T.fld) rfl ⟨_, X1 _ _ hcell, rfl⟩ (wpAny_loadName_local rfl rfl hns lself (ks_wpAny_isType_cls hD1 hD2 ⟨rfl, ?_⟩))
  refine ks_wpAny_call_super hD1 hD2 hx1 rfl (fun c e => by cases e) (looks_mroIn X1 T.own) (fun h2 e2 k2 => ?_)
  have X2 : K.In h2 := X1.keeps k2
  have hx2 := k2 _ _ hx1
  have Ix : InstAt h2 x (excO C t0) C none := ⟨hx2, rfl, rfl, trivial⟩
  have hm := T.sup
  unfold ks_superIn at hm
  rw [hc] at hm
  refine kxs_getMethod T.kx e2 (looks_opaque X2 T.opq) (l₀ := cd.mro) (fun A Q E s k q => wpAny_bind ((looks_clsIn X2 hc) A _ E s k (wpAny_pure q))) rfl X2 hm (Ix.type.andThen (looks_subIn X2 T.isB)) (ks_ne X2 Ix hc) (by decide) ?_
  have k3 : ∀ b o, h2.get? b = some o → (h2.push (kxs_mw initId x)).get? b = some o := fun b o e => Heap.get?_push_of_some _ e
  refine kxs_callWith (i := initId) (x := x) rfl (evalArgs_plain (spliced_more (wpAny_Constant_str (spliced_none ⟨Heap.get?_push_at rfl rfl, ?_⟩))))
  refine call_mw T (X2.keeps k3) (k3 _ _ hx2) (Heap.get?_push_at rfl rfl) fun h4 t1 k4 hx4 => ?_
  have kk : ∀ b o, h₁.get? b = some o → (h2.push (kxs_mw initId x)).get? b = some o := fun b o e => k3 _ _ (k2 _ _ e)
  have hxL : hp.objs.size ≠ x := Nat.ne_of_gt (Heap.lt_size hx)
  have n4 : h4.Ns hp.objs.size (fun y => List.lookup y ([("self", .ref x), (f, v)] : List (Str × Value)).reverse) := by
    obtain ⟨oL, es, ep, hL, r⟩ := hns.keeps kk
    exact ⟨oL, es, ep, k4 _ _ hxL hL, r⟩
  have X4 : K.In h4 := fun b o e => k4 b o (fun z => by rw [z, hnx] at e; cases e) (X2.keeps k3 b o e)
  have lt : hp.objs.size < h4.objs.size := n4.lt
  show _root_.PySem.wpAt _ _ _ (execs _ (ksEnv q (inS f) hp.objs.size fI (.ref cda) cc)) _ _ _
  refine ks_wpAt_execs_cons (ks_wpAt_Assign_Attr (wpAt_of_wpAny ?_) (T.fld.sx _ _ _ _ _ _ _ _ _))
  refine wpAny_Name (wpAny_loadName_local rfl (kind_f T.fld) n4 lf (wpAny_Name (wpAny_loadName_local rfl rfl n4 lself ?_) (by decide))) T.fld.db
  refine set_plain X4 (ox := excO C t1) (od := none) ⟨hx4, rfl, rfl, trivial⟩ T.sa (put_new T X4 hx4 fun h5 tk5 dx k5 dn dne hx5 hn5 => ?_)
  show _root_.PySem.wpAt _ _ _ (execs [] _) _ _ _
  refine wpAt_of_wpAny (wpAny_execs_nil (hq h5 tk5 dx t1 ⟨fun b o hb e => k5 b o hb (k4 b o hb (kk _ _ (k₁ _ _ e))), hx5, Nat.le_trans (Nat.le_of_lt lt) dn, dne, hn5⟩))
/-- n(v), made: its own dict at d holds the field -/
structure Made (h h' : Heap) (e C d : Addr) (f : Str) (v : Value) : Prop where
  keep : ∀ b o, h.get? b = some o → h'.get? b = some o
  new : h.objs.size ≤ e
  obj : ∃ oe us, h'.get? e = some oe ∧ oe.cls = .ref C ∧ oe.dict = some d ∧ oe.data = .fields us ∧ us[1]? = some .none
  dbig : h.objs.size ≤ d
  dne : d ≠ e
  ns : h'.Ns1 d (fun y => if y = f then some v else none)
theorem x_made (T : Own P K mg n f C fI B newId initId bmB) {v : Value} (X : K.In s.heap) (hG : s.heap.Ns mainGlobals mg) (hB : ∃ mb, s.heap.Ns builtinsNs mb ∧ ∀ y : Str, y ≠ "__name__" → mb y = bootBuiltins y) (hlim : s.heap.NoLimit) (hroom : A.depth + 1 < recursionLimit)
    (hq : ∀ h' tk e d, Made s.heap h' e C d f v → R (.ok (.ret (.ref e))) { s with heap := h', toks := tk }) : codeAny (model P w) A (.call (.ref C) ⟨[v], []⟩) R s := by
  obtain ⟨nm, N', qn, bs, bm, hdct, sn, sub, ab, col, dd, k0, k1, k2, k3, k5, hC, hT⟩ := excInit_of X T.ini
  obtain ⟨oI, hoI, hcI⟩ : ∃ oI, s.heap.get? fI = some oI ∧ oI.cls = .type "function" := by
    obtain ⟨o, ho, hc⟩ := Option.map_eq_some_iff.mp (show (K.lookup fI).map (fun z => z.cls) = some (.type "function") from beq_iff_eq.mp T.fC)
    exact ⟨o, X _ _ ho, hc⟩
  obtain ⟨hp, g, dr, tk, os⟩ := s
  have k : ∀ b o, hp.get? b = some o → ((hp.push (kdv_tup [v])).push (excO C hp.objs.size)).get? b = some o := fun b o e => Heap.get?_push_of_some _ (Heap.get?_push_of_some _ e)
  have hnx : K.lookup (hp.objs.size + 1) = none := by
    cases e : K.lookup (hp.objs.size + 1) with
    | none => rfl
    | some o => exact absurd (Nat.lt_of_succ_lt (Heap.lt_size (show hp.get? (hp.objs.size + 1) = some o from X _ _ e))) (Nat.lt_irrefl _)
  refine call_own T.base hT hC (looks_findIn X T.iC) (fun self => exc_bind hoI hcI self) (by rw [sizeLine_eq]; exact (by decide : 1 ≤ 16777216)) ?_
  obtain ⟨mb, hb1, hb2⟩ := hB
  refine x_init (s := ⟨(hp.push (kdv_tup [v])).push (excO C hp.objs.size), g, dr, tk, os⟩) T (X.keeps k) (hG.keeps k) ⟨mb, hb1.keeps k, hb2⟩ (hlim.keeps k) (by heap_get) hnx (show A.depth + 1 < recursionLimit from hroom) fun h' tk' dx t1 L => ?_
  have z : hp.objs.size + 1 + 1 ≤ dx := by
    have q := L.dbig
    first
      | (simpa only [Heap.size_push] using q)
      | exact q
      | (rw [Heap.size_push, Heap.size_push] at q; exact q)
  refine ⟨rfl, hq h' tk' (hp.objs.size + 1) dx ⟨fun b o e => L.keep b o (Nat.ne_of_lt (Nat.lt_succ_of_lt (Heap.lt_size e))) (k b o e), Nat.le_succ _, ⟨_, _, L.obj, rfl, rfl, rfl, rfl⟩, Nat.le_trans (Nat.le_trans (Nat.le_succ _) (Nat.le_succ _)) z, L.dne, L.ns⟩⟩
end
end XC
open PySem PySem.Spec PyProof.Rows L2
theorem relO_fld {f : Str} {v : V} {u : Value} (r : RelV v u) (y : Str) : RelO (List.lookup y [(f, v)]) (if y = f then some u else none) := by
  by_cases e : y = f
  · subst e
    rw [if_pos rfl, List.lookup_cons, beq_self_eq_true]
    exact r
  · rw [if_neg e, List.lookup_cons, show (y == f) = false from by simpa using e]
    trivial
section
variable {X : Cx} {n f : Str} {C fI : Addr} {B newId initId : String} {bmB : List Value}
/-- n(e): a new exception, its dict at d -/
def tMkX (C : Addr) (f : Str) (ta : TA) : L2.St → Hp → XK → Prop := fun σ H Q => ta σ H fun vs H1 => ∃ v, vs = [v] ∧ ∀ d, H1 d = none → Q (.ref C) (some d) (upd H1 d (.xd [(f, v)]))
theorem pmk_x {a : Expr} {ta : TA} {p pos : Pos} {k : Nat} (T : XC.Own X.prog X.K X.mg n f C fI B newId initId bmB) (hr : Room k X.A) (ha : PA X [a] ta) (hg : Gl X n := by rfl)
    (he : starEach (a :: []) X.env = (false, eval a X.env) :: starEach [] X.env := by rfl) (hpl : (backTo pos (starEach [] X.env)).any (·.1) = false := by rfl) (hdb : (n == ("__debug__" : Str)) = false := by decide) : PMk X (.Call (.Name n p) [a] [] pos) (tMkX C f ta) := by
  intro pins s σ H Q I h
  refine wpAny_Call_Name_kw (ld_glob I hg T.gC (PySem.W.callWith_K (h₀ := X.base) I.ok.mod.kin T.kC (thn (ha.run pos pins s σ H _ I h) fun us s1 ⟨vs, H1, I1, r1, v, ev, q1⟩ => ?_) he hpl) hdb)
  subst ev
  refine ⟨I1.kIn, ?_⟩
  obtain ⟨u1, rfl, rv⟩ := vals1 r1
  show wpAny _ _ (call (.ref C) [u1]) _ _ _
  have hlim := I1.nolimit
  obtain ⟨mb, hb1, hb2⟩ := I1.mod.blt
  have hG := I1.mod.glob.keeps I1.bk
  have hb := hb1.keeps I1.bk
  obtain ⟨hp, g, dr, tk, os⟩ := s1
  refine wpAny_call (XC.x_made T I1.kIn hG ⟨mb, hb, hb2⟩ hlim (by have := hr.dp; omega) fun h' tk' e d M => ?_)
  show MkP X pins σ Q (.ref e) ⟨h', g, dr, tk', os⟩
  obtain ⟨oe, fv, hoe, hc, hd, hdat, h1⟩ := M.obj
  obtain ⟨G', g1, g2⟩ := restrict h' fun b => decide (b ≠ e)
  have gk : ∀ b, b ≠ e → G'.get? b = h'.get? b := fun b hb => g1 b (decide_eq_true hb)
  have ge : G'.get? e = none := g2 e (by simp)
  have ob : ObjOk X.prog X.w (upd H1 d (.xd [(f, v)])) G' d (.xd [(f, v)]) := ⟨_, M.ns.at (fun o q => (gk d M.dne).trans q), fun y => relO_fld rv y⟩
  have J : Inv X pins σ (upd H1 d (.xd [(f, v)])) ⟨G', g, dr, tk', os⟩ := I1.laid (t' := tk') (fun b o q => (gk b (Nat.ne_of_lt (Nat.lt_of_lt_of_le (Heap.lt_size q) M.new))).trans (M.keep b o q)) M.dbig ob
  refine ⟨e, oe, fv, ⟨G', g, dr, tk', os⟩, _, .ref C, some d, rfl, J, fun b o q => ?_, ge, hoe, ⟨hc, hd⟩, hdat, h1, by rw [upd_ne (Ne.symm M.dne)]; exact I1.hok.fresh M.new, rfl, I1.bare, raises_own T.exC T.tyC, q1 d (I1.hok.fresh M.dbig)⟩
  by_cases hb : b = e
  · rw [hb] at q
    cases ge.symm.trans (show G'.get? e = some o from q)
  · exact (gk b hb).symm.trans q
/-- raise n(e) -/
def tRaiseX (C : Addr) (f : Str) (W : WX) (ta : TA) : TS := fun _ σ H => tMkX C f ta σ H fun cls d H' => W cls d σ H'
theorem ps_raiseX {a : Expr} {ta : TA} {W : WX} {p pos pos2 : Pos} {k : Nat} (hc : X.calm = true) (T : XC.Own X.prog X.K X.mg n f C fI B newId initId bmB) (hr : Room k X.A) (tk : Takes X W) (ha : PA X [a] ta) (hg : Gl X n := by rfl)
    (he : starEach (a :: []) X.env = (false, eval a X.env) :: starEach [] X.env := by rfl) (hpl : (backTo pos (starEach [] X.env)).any (·.1) = false := by rfl) (hdb : (n == ("__debug__" : Str)) = false := by decide) :
    PS X (.Raise (some (.Call (.Name n p) [a] [] pos)) none pos2) (tRaiseX C f W ta) := ps_raise hc tk (pmk_x T hr ha hg he hpl hdb)
end
end Su
/-! ### XD: defs that may let an exception out -/
namespace Su
open PySem PySem.Spec PyProof.Rows L2
structure CalX (P : Program) (w : World) (K : PySem.W.Frag) (mg : Str → Option Value) (base : Heap) (k : Nat) (x : Str) (ps : List Str) (sp : Sp) : Prop where
  ex : ∃ (f : Addr) (fd : FuncData), FnOk P w K mg base (L2.CX P w) k f fd ps sp ∧ mg x = some (.ref f) ∧ PySem.W.keepIn K (.ref f) = true ∧ Binds K fd ps [] ∧ ∃ o : Obj, K.lookup f = some o ∧ o.data = .func fd
section
variable {P : Program} {w : World} {K : PySem.W.Frag} {mg : Str → Option Value} {base : Heap}
theorem cal_ofX {x : Str} {st : Stmt} {N ps : List Str} {k : Nat} {sp : Sp} (T : At K mg x st ps) (S : FnScope N ps (defScope st)) (len : ∀ vs H Q E, sp vs H Q E → vs.length = ps.length)
    (hb : ∀ (f : Addr) (cdv : Value) (A : Around) (outer : List Env) (s : Shared) (H : Hp) (vs : List V) (Q : VK) (E : XK), Room k (A.deeper (envOfC x (defScope st) s.heap.objs.size f cdv)) → sp vs H Q E →
      ∃ t, PSs (cxOf (L2.CX P w) P w K mg base N x (defScope st) f cdv A outer s H E) (defBody st) t ∧ t { nx := fun _ H' => Q .non H', rt := Q } (start N vs) H) : CalX P w K mg base (k + 1) x ps sp := by
  obtain ⟨f, fd, F, hm, b⟩ := T.ex
  have z : ∃ o : Obj, K.lookup f = some o ∧ o.data = .func fd := by
    obtain ⟨oc, od, kV, doc, pm, an, cdv, ct, osl, _, lk, _⟩ := F.ex
    exact ⟨_, lk, rfl⟩
  exact ⟨f, fd, F.okX S len (fun cdv A outer s H vs Q E => hb f cdv A outer s H vs Q E), hm, F.kp, b, z⟩
end
section
variable {X : Cx} {x : Str} {ps : List Str} {sp : Sp} {k j : Nat} {e : Expr} {es : List Expr} {t : TA} {p pos : Pos} {W : WX}
theorem pe_ownX (tk : Takes X W) (C : CalX X.prog X.w X.K X.mg X.base k x ps sp) (hr : Room j X.A) (hk : k ≤ j) (hg : Gl X x) (ha : PA X (e :: es) t)
    (hdb : (x == ("__debug__" : Str)) = false := by decide) (he : starEach (e :: es) X.env = (false, eval e X.env) :: starEach es X.env := by rfl) (hpl : (backTo pos (starEach es X.env)).any (·.1) = false := by rfl) :
    PE X (.Call (.Name x p) (e :: es) [] pos) (tCallS sp (WE W) t) := by
  obtain ⟨f, fd, F, hm, kp, b, _⟩ := C.ex
  exact pe_callS F (hr.mono hk) hg hm kp b (fun σ => passAt tk σ) ha hdb he hpl
end
end Su
/-! ### XE: raise X('..'), X an own exception class without own __init__ -/
namespace Su
open PySem PySem.Spec PyProof.Rows L2
/-- what the written part says of the class n at C, over the built-in B -/
structure Own0 (K : PySem.W.Frag) (mg : Str → Option Value) (n : Str) (C : Addr) (B newId initId : String) (bmB : List Value) : Prop where
  base : ExcBaseFacts B newId initId bmB
  ini : PySem.W.excIn K C bmB newId = true
  gC : mg n = some (.ref C)
  kC : PySem.W.keepIn K (.ref C) = true
  exC : PySem.W.subIn K (.ref C) (.type "BaseException") = some true
  tyC : PySem.W.typeIn K (.ref C) = some (.type "type")
end Su
/-! ### GA: things of any kind -/
namespace Su
open PySem PySem.Spec PyProof.Rows L2
inductive G where
  | non
  | bl (b : Bool)
  | int (i : Int)
  | str (s : Str)
  | lst (l : List G)
  | tup (l : List G)
  | dct
mutual
/-- the value is such a thing; its lists stand apart from p -/
inductive Tg (p : Addr) (H : Hp) : V → G → Prop
  | non : Tg p H .non .non
  | bl (b : Bool) : Tg p H (.bl b) (.bl b)
  | int (i : Int) : Tg p H (.int i) (.int i)
  | str (s : Str) : Tg p H (.str s) (.str s)
  | lst {a : Addr} {vs : List V} {ds : List G} (n : a ≠ p) (e : H a = some (.lst vs)) (t : TgL p H vs ds) : Tg p H (.ref a) (.lst ds)
  | tup {a : Addr} {vs : List V} {ds : List G} (e : T2 H a vs) (t : TgL p H vs ds) : Tg p H (.ref a) (.tup ds)
  | dct {a : Addr} (e : H a = some (.dK [])) : Tg p H (.ref a) .dct
inductive TgL (p : Addr) (H : Hp) : List V → List G → Prop
  | nil : TgL p H [] []
  | cons {v : V} {vs : List V} {d : G} {ds : List G} (h : Tg p H v d) (t : TgL p H vs ds) : TgL p H (v :: vs) (d :: ds)
end
/-- what keeps such things -/
structure Keeps (p : Addr) (H H' : Hp) : Prop where
  ls : ∀ a vs, a ≠ p → H a = some (.lst vs) → H' a = some (.lst vs)
  tw : ∀ a vs, T2 H a vs → T2 H' a vs
  dk : ∀ a kvs, H a = some (.dK kvs) → H' a = some (.dK kvs)
theorem Keeps.of {p : Addr} {H H' : Hp} (k : Kept p H H') (hp : PoolAt H p) : Keeps p H H' := by
  refine ⟨fun a vs n z => k _ _ z n, fun a vs h => K2.of k hp _ _ h, fun a kvs z => ?_⟩
  obtain ⟨o, e, g, m, rfl, _⟩ := hp
  exact k _ _ z (ne_of z e (by intro y; cases y))
theorem Keeps.same {p : Addr} {H H' : Hp} (s : Same H H') : Keeps p H H' := ⟨fun a vs n z => s _ _ z, fun a vs h => h.same s, fun a kvs z => s _ _ z⟩
mutual
theorem Tg.keep {p : Addr} {H H' : Hp} (k : Keeps p H H') : ∀ {v : V} {g : G}, Tg p H v g → Tg p H' v g
  | _, _, .non => .non
  | _, _, .bl b => .bl b
  | _, _, .int i => .int i
  | _, _, .str s => .str s
  | _, _, .lst n e t => .lst n (k.ls _ _ n e) (TgL.keep k t)
  | _, _, .tup e t => .tup (k.tw _ _ e) (TgL.keep k t)
  | _, _, .dct e => .dct (k.dk _ _ e)
theorem TgL.keep {p : Addr} {H H' : Hp} (k : Keeps p H H') : ∀ {vs : List V} {gs : List G}, TgL p H vs gs → TgL p H' vs gs
  | _, _, .nil => .nil
  | _, _, .cons h t => .cons (Tg.keep k h) (TgL.keep k t)
end
theorem TgL.len {p : Addr} {H : Hp} : ∀ {vs : List V} {gs : List G}, TgL p H vs gs → vs.length = gs.length
  | _, _, .nil => rfl
  | _, _, .cons _ t => by
    rw [List.length_cons, List.length_cons, TgL.len t]
theorem TgL.get {p : Addr} {H : Hp} : ∀ {vs : List V} {gs : List G}, TgL p H vs gs → ∀ {i : Nat} {v : V}, vs[i]? = some v → ∃ g, gs[i]? = some g ∧ Tg p H v g
  | _, _, .nil, i, v, e => by simp at e
  | _, _, .cons h t, 0, v, e => by
    obtain rfl := (by simpa using e : _ = v)
    exact ⟨_, rfl, h⟩
  | _, _, .cons h t, i + 1, v, e => TgL.get t (i := i) (by simpa using e)
theorem TgL.ints {p : Addr} {H : Hp} : ∀ ns : List Int, TgL p H (ns.map V.int) (ns.map G.int)
  | [] => .nil
  | n :: ns => .cons (.int n) (TgL.ints ns)
theorem TgL.app {p : Addr} {H : Hp} : ∀ {vs ws : List V} {gs hs : List G}, TgL p H vs gs → TgL p H ws hs → TgL p H (vs ++ ws) (gs ++ hs)
  | _, _, _, _, .nil, h => h
  | _, _, _, _, .cons x t, h => .cons x (TgL.app t h)
/-! kinds -/
def tyG : G → String
  | .non => "NoneType"
  | .bl _ => "bool"
  | .int _ => "int"
  | .str _ => "str"
  | .lst _ => "list"
  | .tup _ => "tuple"
  | .dct => "dict"
theorem Tg.ty {K : PySem.W.Frag} {p : Addr} {H : Hp} {v : V} {g : G} (h : Tg p H v g) : TyX K H v (.type (tyG g)) := by
  cases h with
  | non => exact .base .non
  | bl b => exact .base (.bl b)
  | int i => exact .base (.int i)
  | str s => exact .base (.str s)
  | lst n e t => exact .base (.lst e)
  | tup e t => exact e.ty
  | dct e => exact .base (.dK e)
def isInt : G → Bool
  | .non => false
  | .bl _ => true
  | .int _ => true
  | .str _ => false
  | .lst _ => false
  | .tup _ => false
  | .dct => false
theorem kit_int {K : PySem.W.Frag} (g : G) : PySem.W.kitOne K (.type (tyG g)) (.type "int") = some (isInt g) := by
  refine kit_ty ?_
  cases g
  · exact (by decide +kernel : kitB "NoneType" "int" = some false)
  · exact (by decide +kernel : kitB "bool" "int" = some true)
  · exact (by decide +kernel : kitB "int" "int" = some true)
  · exact (by decide +kernel : kitB "str" "int" = some false)
  · exact (by decide +kernel : kitB "list" "int" = some false)
  · exact (by decide +kernel : kitB "tuple" "int" = some false)
  · exact (by decide +kernel : kitB "dict" "int" = some false)
def isBool : G → Bool
  | .non => false
  | .bl _ => true
  | .int _ => false
  | .str _ => false
  | .lst _ => false
  | .tup _ => false
  | .dct => false
theorem kit_bool {K : PySem.W.Frag} (g : G) : PySem.W.kitOne K (.type (tyG g)) (.type "bool") = some (isBool g) := by
  refine kit_ty ?_
  cases g
  · exact (by decide +kernel : kitB "NoneType" "bool" = some false)
  · exact (by decide +kernel : kitB "bool" "bool" = some true)
  · exact (by decide +kernel : kitB "int" "bool" = some false)
  · exact (by decide +kernel : kitB "str" "bool" = some false)
  · exact (by decide +kernel : kitB "list" "bool" = some false)
  · exact (by decide +kernel : kitB "tuple" "bool" = some false)
  · exact (by decide +kernel : kitB "dict" "bool" = some false)
def isStr : G → Bool
  | .non => false
  | .bl _ => false
  | .int _ => false
  | .str _ => true
  | .lst _ => false
  | .tup _ => false
  | .dct => false
theorem kit_str {K : PySem.W.Frag} (g : G) : PySem.W.kitOne K (.type (tyG g)) (.type "str") = some (isStr g) := by
  refine kit_ty ?_
  cases g
  · exact (by decide +kernel : kitB "NoneType" "str" = some false)
  · exact (by decide +kernel : kitB "bool" "str" = some false)
  · exact (by decide +kernel : kitB "int" "str" = some false)
  · exact (by decide +kernel : kitB "str" "str" = some true)
  · exact (by decide +kernel : kitB "list" "str" = some false)
  · exact (by decide +kernel : kitB "tuple" "str" = some false)
  · exact (by decide +kernel : kitB "dict" "str" = some false)
def isTuple : G → Bool
  | .non => false
  | .bl _ => false
  | .int _ => false
  | .str _ => false
  | .lst _ => false
  | .tup _ => true
  | .dct => false
theorem kit_tuple {K : PySem.W.Frag} (g : G) : PySem.W.kitOne K (.type (tyG g)) (.type "tuple") = some (isTuple g) := by
  refine kit_ty ?_
  cases g
  · exact (by decide +kernel : kitB "NoneType" "tuple" = some false)
  · exact (by decide +kernel : kitB "bool" "tuple" = some false)
  · exact (by decide +kernel : kitB "int" "tuple" = some false)
  · exact (by decide +kernel : kitB "str" "tuple" = some false)
  · exact (by decide +kernel : kitB "list" "tuple" = some false)
  · exact (by decide +kernel : kitB "tuple" "tuple" = some true)
  · exact (by decide +kernel : kitB "dict" "tuple" = some false)
def isList : G → Bool
  | .non => false
  | .bl _ => false
  | .int _ => false
  | .str _ => false
  | .lst _ => true
  | .tup _ => false
  | .dct => false
theorem kit_list {K : PySem.W.Frag} (g : G) : PySem.W.kitOne K (.type (tyG g)) (.type "list") = some (isList g) := by
  refine kit_ty ?_
  cases g
  · exact (by decide +kernel : kitB "NoneType" "list" = some false)
  · exact (by decide +kernel : kitB "bool" "list" = some false)
  · exact (by decide +kernel : kitB "int" "list" = some false)
  · exact (by decide +kernel : kitB "str" "list" = some false)
  · exact (by decide +kernel : kitB "list" "list" = some true)
  · exact (by decide +kernel : kitB "tuple" "list" = some false)
  · exact (by decide +kernel : kitB "dict" "list" = some false)
end Su
/-! ### GB: such things as data -/
namespace Su
open PySem PySem.Spec PyProof.Rows L2
mutual
def toD : G → PyData
  | .non => .none
  | .bl b => .bool b
  | .int i => .int i
  | .str s => .str s
  | .lst l => .list (toDs l)
  | .tup l => .tuple (toDs l)
  | .dct => .dict []
def toDs : List G → List PyData
  | [] => []
  | g :: gs => toD g :: toDs gs
end
mutual
def okD : G → Bool
  | .dct => false
  | .lst l => okDs l
  | .tup l => okDs l
  | _ => true
def okDs : List G → Bool
  | [] => true
  | g :: gs => okD g && okDs gs
end
mutual
theorem Tg.dp {K : PySem.W.Frag} {p : Addr} {H : Hp} : ∀ {v : V} {g : G}, Tg p H v g → okD g = true → Dp K H v (toD g)
  | _, _, .non, _ => .non
  | _, _, .bl b, _ => .bl b
  | _, _, .int i, _ => .int i
  | _, _, .str s, _ => .str s
  | _, _, .lst n e t, h => .lst (SqL.of e) (TgL.dp t (by simpa only [okD] using h))
  | _, _, .tup e t, h => .tup e.sq (TgL.dp t (by simpa only [okD] using h))
  | _, _, .dct _, h => by simp [okD] at h
theorem TgL.dp {K : PySem.W.Frag} {p : Addr} {H : Hp} : ∀ {vs : List V} {gs : List G}, TgL p H vs gs → okDs gs = true → DpAll K H vs (toDs gs)
  | _, _, .nil, _ => .nil
  | _, _, .cons x t, h => by
    simp only [okDs, Bool.and_eq_true] at h
    exact .cons (Tg.dp x h.1) (TgL.dp t h.2)
end
theorem okDs_all : ∀ gs : List G, okDs gs = gs.all okD
  | [] => rfl
  | g :: gs => by
    show (okD g && okDs gs) = (okD g && gs.all okD)
    rw [okDs_all gs]
/-- a thing that may stand in a tuple -/
structure OkE (g : G) : Prop where
  ok : okD g = true
  cl : (toD g).canLay0 = true
  dp : (toD g).depth ≤ 4
theorem lay_all : ∀ {gs : List G}, (∀ g ∈ gs, OkE g) → PyData.canLayAll0 (toDs gs) = true ∧ PyData.depthAll (toDs gs) ≤ 4
  | [], _ => ⟨by simp [toDs, PyData.canLayAll0], by simp [toDs, PyData.depthAll]⟩
  | g :: gs, h => by
    obtain ⟨a, b⟩ := lay_all fun x hx => h x (List.mem_cons_of_mem _ hx)
    have c := h g List.mem_cons_self
    refine ⟨?_, ?_⟩
    · simp only [toDs, PyData.canLayAll0, c.cl, a, Bool.and_self]
    · simp only [toDs, PyData.depthAll]
      have := c.dp
      omega
/-- a list of such things beside [] -/
theorem OkE.list {gs : List G} (h : ∀ g ∈ gs, OkE g) : okDs gs = true ∧ SeqAt.shaped (.list (toDs gs)) = true := by
  obtain ⟨a, b⟩ := lay_all h
  refine ⟨?_, ?_⟩
  · rw [okDs_all, List.all_eq_true]
    exact fun g hg => (h g hg).ok
  · unfold SeqAt.shaped
    rw [Bool.and_eq_true, decide_eq_true_eq]
    refine ⟨by simp only [PyData.canLay0, a], ?_⟩
    simp only [PyData.depth]
    omega
end Su
/-! ### GC: repr of such things -/
namespace Su
open PySem PySem.Spec PyProof.Rows L2
structure Fz (g : G) (n m : Nat) : Prop where
  sh : (toD g).showable = true
  dp : (toD g).depth ≤ n
  lv : (toD g).leavesShort 30 = true
  wt : (toD g).weight ≤ m
structure FzL (gs : List G) (n m : Nat) : Prop where
  sh : PyData.showableAll (toDs gs) = true
  dp : PyData.depthAll (toDs gs) ≤ n
  lv : PyData.leavesShortAll 30 (toDs gs) = true
  wt : PyData.weightAll (toDs gs) ≤ m
theorem Fz.up {g : G} {n m n' m' : Nat} (h : Fz g n m) (a : n ≤ n') (b : m ≤ m') : Fz g n' m' := ⟨h.sh, Nat.le_trans h.dp a, h.lv, Nat.le_trans h.wt b⟩
theorem FzL.up {g : List G} {n m n' m' : Nat} (h : FzL g n m) (a : n ≤ n') (b : m ≤ m') : FzL g n' m' := ⟨h.sh, Nat.le_trans h.dp a, h.lv, Nat.le_trans h.wt b⟩
theorem Fz.int {i : Int} (h1 : -1000000 ≤ i) (h2 : i ≤ 1000000) : Fz (.int i) 0 40 := by
  have hb : i.natAbs < 10 ^ 12 := by omega
  have hl : i.natAbs.log2 < 39 := by
    by_cases z : i.natAbs = 0
    · rw [z]
      decide
    · exact (Nat.log2_lt z).mpr (by omega)
  refine ⟨?_, by simp [toD, PyData.depth], ?_, ?_⟩
  · simp only [toD, PyData.showable, decide_eq_true_eq]
    omega
  · simp only [toD, PyData.leavesShort, decide_eq_true_eq]
    exact Nat.le_trans (PyData.shown_int_le hb) (by decide)
  · simp only [toD, PyData.weight]
    split <;> omega
theorem Fz.none : Fz .non 0 0 := ⟨by simp [toD, PyData.showable], by simp [toD, PyData.depth], by simp [toD, PyData.leavesShort], by simp [toD, PyData.weight]⟩
theorem Fz.bool (b : Bool) : Fz (.bl b) 0 0 := ⟨by simp [toD, PyData.showable], by simp [toD, PyData.depth], by simp [toD, PyData.leavesShort], by simp [toD, PyData.weight]⟩
theorem Fz.dct : Fz .dct 1 0 := ⟨by simp [toD, PyData.showable, PyData.showableKv], by simp [toD, PyData.depth, PyData.depthKv], by simp [toD, PyData.leavesShort, PyData.leavesShortKv], by simp [toD, PyData.weight, PyData.weightKv]⟩
theorem FzL.nil {n : Nat} : FzL [] n 0 := ⟨by simp [toDs, PyData.showableAll], by simp [toDs, PyData.depthAll], by simp [toDs, PyData.leavesShortAll], by simp [toDs, PyData.weightAll]⟩
theorem FzL.cons {g : G} {gs : List G} {n m k : Nat} (h : Fz g n m) (t : FzL gs n k) : FzL (g :: gs) n (m + 1 + k) := by
  refine ⟨?_, ?_, ?_, ?_⟩
  · simp only [toDs, PyData.showableAll, h.sh, t.sh, Bool.and_self]
  · simp only [toDs, PyData.depthAll]
    have := h.dp
    have := t.dp
    omega
  · simp only [toDs, PyData.leavesShortAll, h.lv, t.lv, Bool.and_self]
  · simp only [toDs, PyData.weightAll]
    have := h.wt
    have := t.wt
    omega
theorem Fz.tup {gs : List G} {n m : Nat} (t : FzL gs n m) : Fz (.tup gs) (n + 1) m :=
  ⟨by simpa only [toD, PyData.showable] using t.sh, by simp only [toD, PyData.depth]; have := t.dp; omega, by simpa only [toD, PyData.leavesShort] using t.lv, by simpa only [toD, PyData.weight] using t.wt⟩
theorem Fz.lst {gs : List G} {n m : Nat} (t : FzL gs n m) : Fz (.lst gs) (n + 1) m :=
  ⟨by simpa only [toD, PyData.showable] using t.sh, by simp only [toD, PyData.depth]; have := t.dp; omega, by simpa only [toD, PyData.leavesShort] using t.lv, by simpa only [toD, PyData.weight] using t.wt⟩
theorem FzL.all {n m : Nat} : ∀ {gs : List G}, (∀ g ∈ gs, Fz g n m) → FzL gs n ((m + 1) * gs.length)
  | [], _ => FzL.nil
  | g :: gs, h => by
    have a := FzL.cons (h g List.mem_cons_self) (FzL.all fun y hy => h y (List.mem_cons_of_mem _ hy))
    have e : m + 1 + (m + 1) * gs.length = (m + 1) * (g :: gs).length := by
      rw [List.length_cons, Nat.mul_add, Nat.mul_one, Nat.add_comm]
    rw [e] at a
    exact a
theorem Fz.len {g : G} {n m : Nat} (h : Fz g n m) (hm : m ≤ 500000) : (toD g).shown.length ≤ sizeLine := by
  have a := PyData.shown_le 30 (by decide) (toD g) h.lv
  have b := h.wt
  rw [sizeLine_eq]
  omega
/-- a thing without a dict, or an empty dict -/
def Flat (g : G) : Prop := okD g = true ∨ g = .dct
section
variable {X : Cx} {pins : List (Addr × Obj)} {σ : L2.St} {H : Hp} {s : Shared} {p : Addr}
end
/-- what may be shown: flat, or a list of flat things -/
structure Shw (g : G) : Prop where
  fz : Fz g 40 500000
  fl : Flat g ∨ ∃ gs, g = .lst gs ∧ ∀ x ∈ gs, Flat x
section
variable {X : Cx}
end
end Su
/-! ### SH: set(t), t a tuple of ints -/
namespace Su
open PySem PySem.Spec PyProof.Rows L2
section
variable {P : Program} {w : World} {A : Around} {E : Value → Shared → Prop} {s : Shared}
end
section
variable {X : Cx}
end
end Su
/-! ### DF: defs with defaults -/
namespace Su
open PySem PySem.Spec PyProof.Rows L2
structure AtD (K : PySem.W.Frag) (mg : Str → Option Value) (x : Str) (st : Stmt) (ps : List Str) (dvs : List V) : Prop where
  ex : ∃ (f : Addr) (fd : FuncData), FunD K x x (defArgs st) (defBody st) (defScope st) dvs [] f fd ∧ mg x = some (.ref f) ∧ ∀ j, j ≤ dvs.length → ∃ ds, Vals (dvs.drop j) ds ∧ Binds K fd ps ds
structure CalD (P : Program) (w : World) (K : PySem.W.Frag) (mg : Str → Option Value) (base : Heap) (k : Nat) (x : Str) (ps : List Str) (dvs : List V) (sp : Sp) : Prop where
  ex : ∃ (f : Addr) (fd : FuncData), FnOk P w K mg base CX0 k f fd ps sp ∧ mg x = some (.ref f) ∧ PySem.W.keepIn K (.ref f) = true ∧ ∀ j, j ≤ dvs.length → ∃ ds, Vals (dvs.drop j) ds ∧ Binds K fd ps ds
section
variable {P : Program} {w : World} {K : PySem.W.Frag} {mg : Str → Option Value} {base : Heap}
end
section
variable {X : Cx} {k j : Nat} {x : Str} {ps : List Str} {sp : Sp} {p pos : Pos} {e : Expr} {es : List Expr} {t : TA} {dvs : List V}
end
end Su
/-! ### LM: lambdas with parameters that are handed to a def, functions called by a variable -/
namespace Su
open PySem PySem.Spec PyProof.Rows L2 LamX
/-- what a def may know of a function that was handed to it -/
structure Act (P : Program) (w : World) (K : PySem.W.Frag) (mg : Str → Option Value) (base : Heap) (outer : List Env) (s : Shared) (H : Hp) (k : Nat) (f : Addr) (kf : Hp → Prop) (beh : List V → Hp → VK → Prop) : Prop where
  fn : ∀ (s' : Shared) (H' : Hp), Un (frs outer) [] H H' s.heap s'.heap → PySem.W.FnAt f s'.heap
  run : ∀ (A' : Around) (out' : List Env) (s' : Shared) (H' : Hp) (us : List Value) (vs : List V) (Q : VK), Room k A' → Env0 P w K mg base A' out' s' H' → Un (frs outer) [] H H' s.heap s'.heap → kf H' → Vals vs us → beh vs H' Q →
    codeAny (model P w) A' (.call (.ref f) ⟨us, []⟩) (CR CX0 out' P w H' s' Q E0) s'
/-- the same within a context -/
def ActX (X : Cx) (f : Addr) (kf : Hp → Prop) (beh : List V → Hp → VK → Prop) : Prop := ∀ (pins : List (Addr × Obj)) (σ : L2.St) (H' : Hp) (s' : Shared), Inv X pins σ H' s' → PySem.W.FnAt f s'.heap ∧
  ∀ (us : List Value) (vs : List V) (Q : VK), kf H' → Vals vs us → beh vs H' Q → codeAny (model X.prog X.w) X.A (.call (.ref f) ⟨us, []⟩) (CR CX0 X.stack X.prog X.w H' s' Q E0) s'
/-- y(..), y a variable that holds the function -/
def tAct (i : Nat) (f : Addr) (kf : Hp → Prop) (beh : List V → Hp → VK → Prop) (t : TA) : TE := fun σ H Q => σ[i]? = some (some (.ref f)) ∧ t σ H fun vs H2 => kf H2 ∧ beh vs H2 Q
section
variable {X : Cx} {f : Addr} {kf : Hp → Prop} {beh : List V → Hp → VK → Prop} {i : Nat} {y : Str} {e : Expr} {es : List Expr} {t : TA} {p pos : Pos}
theorem pe_act (a : ActX X f kf beh) (hN : X.N[i]? = some y) (hv : Vis X.env.scope y) (ha : PA X (e :: es) t) (hd : (y == ("__debug__" : Str)) = false := by decide) (hcd : (y == ("__classdict__" : Str)) = false := by decide)
    (he : starEach (e :: es) X.env = (false, eval e X.env) :: starEach es X.env := by rfl) (hpl : (backTo pos (starEach es X.env)).any (·.1) = false := by rfl) :
    PE X (.Call (.Name y p) (e :: es) [] pos) (tAct i f kf beh t) := by
  refine ⟨fun pins s σ H Q I h => ?_⟩
  obtain ⟨hs, ht⟩ := h
  refine wpAny_Call_Name_kw (thn ((pe_var (pos := p) hN hv hd hcd).run pins s σ H (fun v H1 => v = .ref f ∧ H1 = H) I ⟨.ref f, hs, rfl, rfl⟩) fun u s1 ⟨v, H1, I1, r1, ev, eH⟩ => ?_)
  subst ev
  subst eH
  obtain rfl : u = Value.ref f := r1
  refine PySem.W.callWith_F (first := []) (a _ _ _ _ I1).1 (thn (ha.run pos pins s1 σ H1 _ I1 ht) fun us s2 ⟨vs, H2, I2, r, hk, q⟩ => ⟨(a _ _ _ _ I2).1, ?_⟩) he hpl
  show wpAny _ _ (call (.ref f) us) _ _ _
  refine wpAny_call (codeAny_mono ((a _ _ _ _ I2).2 us vs Q hk r q) fun r s' hq => ?_)
  cases r with
  | error e => exact False.elim hq
  | ok fl =>
    cases fl with
    | ret u => exact I2.after hq
    | next => exact False.elim hq
    | brk => exact False.elim hq
    | cont => exact False.elim hq
end
/-! a def that is handed a function -/
abbrev SpA := Addr → (Hp → Prop) → (List V → Hp → VK → Prop) → List V → Hp → VK → Prop
structure CalA (P : Program) (w : World) (K : PySem.W.Frag) (mg : Str → Option Value) (base : Heap) (k j : Nat) (x : Str) (ps : List Str) (dvs : List V) (sp : SpA) : Prop where
  ex : ∃ g : Addr, mg x = some (.ref g) ∧ PySem.W.keepIn K (.ref g) = true ∧ ∀ i, i ≤ dvs.length → ∀ (A : Around) (outer : List Env) (s : Shared) (H : Hp) (us : List Value) (vs : List V) (Q : VK) (f : Addr) (kf : Hp → Prop) (beh : List V → Hp → VK → Prop),
    Room k A → Env0 P w K mg base A outer s H → Act P w K mg base outer s H j f kf beh → Vals vs us → sp f kf beh (vs ++ dvs.drop i) H Q → codeAny (model P w) A (.call (.ref g) ⟨us, []⟩) (CR CX0 outer P w H s Q E0) s
section
variable {P : Program} {w : World} {K : PySem.W.Frag} {mg : Str → Option Value} {base : Heap}
end
/-! the lambda -/
/-- its names: parameters, and captured ones with their slots in the maker -/
structure LamP (sc scope : Scope) (N ps : List Str) (cs : List (Str × Nat)) : Prop where
  kind : scope.kind = .function
  co : scope.isCoroutine = false
  gen : scope.isGenerator = false
  nc : ∀ y ∈ scope.names, y.2 ≠ .cell
  par : ∀ x ∈ ps, scope.names.lookup x = some .local
  free : ∀ y ∈ scope.names, y.2 = .free → sc.names.lookup y.1 = some .cell ∨ sc.names.lookup y.1 = some .free
  cap : ∀ p ∈ cs, N[p.2]? = some p.1 ∧ scope.names.lookup p.1 = some .free
  one : (ps ++ cs.map (·.1)).Nodup
def lamPB (sc scope : Scope) (N ps : List Str) (cs : List (Str × Nat)) : Bool :=
  decide (scope.kind = .function) && !scope.isCoroutine && !scope.isGenerator && scope.names.all (fun y => !decide (y.2 = .cell) && (!decide (y.2 = .free) || decide (sc.names.lookup y.1 = some .cell) || decide (sc.names.lookup y.1 = some .free))) &&
    ps.all (fun x => decide (scope.names.lookup x = some .local)) && cs.all (fun p => decide (N[p.2]? = some p.1) && decide (scope.names.lookup p.1 = some .free)) && decide ((ps ++ cs.map (·.1)).Nodup)
theorem lamP_by {sc scope : Scope} {N ps : List Str} {cs : List (Str × Nat)} (h : lamPB sc scope N ps cs = true) : LamP sc scope N ps cs := by
  unfold lamPB at h
  simp only [Bool.and_eq_true, Bool.or_eq_true, Bool.not_eq_true', decide_eq_true_eq, decide_eq_false_iff_not, List.all_eq_true] at h
  obtain ⟨⟨⟨⟨⟨⟨h1, h2⟩, h3⟩, h4⟩, h5⟩, h6⟩, h7⟩ := h
  refine ⟨h1, h2, h3, fun y hy => (h4 y hy).1, h5, fun y hy e => ?_, h6, h7⟩
  rcases (h4 y hy).2 with (z | z) | z
  · exact absurd e z
  · exact .inl z
  · exact .inr z
theorem LamP.has {X : Cx} {scope : Scope} {N ps : List Str} {cs : List (Str × Nat)} (L : LamP X.env.scope scope N ps cs) (ok : X.Ok) : ∀ y ∈ scope.names, y.2 = .free → ∃ c, X.env.cells.lookup y.1 = some c := fun y hy e => by
  rcases L.free y hy e with z | z
  · exact ok.has _ (.inl z)
  · exact ok.has _ (.inr z)
/-- what the lambda sees of the maker's slots -/
def caps (cs : List (Str × Nat)) (σ : L2.St) : List (Option V) := cs.map fun p => (σ[p.2]?).join
/-- the context of its body -/
def lamC (X : Cx) (A : Around) (outer : List Env) (s : Shared) (H : Hp) (scope : Scope) (f c' : Addr) (N : List Str) : Cx where
  prog := X.prog
  w := X.w
  K := X.K
  mg := X.mg
  base := X.base
  A := A.deeper (lamEnv X scope s.heap.objs.size f c')
  N := N
  s_0 := s
  H_0 := H
  env := lamEnv X scope s.heap.objs.size f c'
  outer := outer
  stack := lamEnv X scope s.heap.objs.size f c' :: outer
  ex := []
  fn := fun _ => false
  calm := true
  pn := []
  xe := fun _ _ => False
theorem zip_look {us : List Value} : ∀ {ps : List Str} {i : Nat} {x : Str}, ps.Nodup → us.length = ps.length → ps[i]? = some x → (ps.zip us).reverse.lookup x = us[i]? := by
  intro ps i x nd hl hx
  have nk : ((ps.zip us).map (·.1)).Nodup := by
    rw [List.map_fst_zip (by omega)]
    exact nd
  rw [lookup_reverse_of_nodup _ nk]
  clear nk
  induction ps generalizing us i with
  | nil => simp at hx
  | cons p ps ih =>
    cases us with
    | nil => simp at hl
    | cons u us =>
      rw [List.zip_cons_cons, List.lookup_cons]
      obtain ⟨h1, h2⟩ := List.nodup_cons.mp nd
      cases i with
      | zero =>
        cases hx
        simp
      | succ i =>
        rw [List.getElem?_cons_succ] at hx
        have ne : (x == p) = false := beq_eq_false_iff_ne.mpr fun e => h1 (e ▸ List.mem_of_getElem? hx)
        rw [ne, List.getElem?_cons_succ]
        exact ih h2 (by simpa using hl) hx
section
variable {X : Cx} {pins : List (Addr × Obj)} {σ : L2.St} {H HZ : Hp} {s s1 : Shared}
/-- the body's first state -/
theorem lam_in {A : Around} {outer : List Env} {scope : Scope} {ps : List Str} {cs : List (Str × Nat)} {f c' : Addr} {h1 : Heap} {tk : Nat} {us : List Value} {vs : List V} (I : Inv X pins σ H s) (L : LamP X.env.scope scope X.N ps cs)
    (e0 : Env0 X.prog X.w X.K X.mg X.base A outer s1 HZ) (hd : A.handled = none) (un : Un (frs X.stack) [] H HZ s.heap s1.heap) (rv : Vals vs us) (hl : us.length = ps.length) (hns : h1.Ns s1.heap.objs.size fun y => (ps.zip us).reverse.lookup y)
    (kp : ∀ b o, s1.heap.get? b = some o → h1.get? b = some o) : Inv (lamC X A outer s1 HZ scope f c' (ps ++ cs.map (·.1))) [] (vs.map some ++ caps cs σ) HZ { s1 with heap := h1, toks := tk } := by
  have hfree := L.has I.ok
  have back : ∀ {y c}, (cloFrom X.env.cells scope.names []).lookup y = some c → X.env.cells.lookup y = some c := fun {y c} e => by
    rcases cloFrom_mem (PySem.mem_of_lookup e) with hm | ⟨h1, h2⟩
    · cases hm
    · obtain ⟨c1, hc⟩ := hfree _ h1 rfl
      have hc : X.env.cells.lookup y = some c1 := hc
      rw [hc] at h2
      rw [hc, h2]
      rfl
  have there : ∀ {y}, scope.names.lookup y = some .free → ∃ c, (cloFrom X.env.cells scope.names []).lookup y = some c := fun {y} hy =>
    mem_lookup (cloFrom_has (cells := X.env.cells) (acc := []) (PySem.mem_of_lookup hy))
  have cellK : ∀ {c : Addr} {v : Option Value}, H c = none → s.heap.IsCell c v → h1.IsCell c v := fun {c v} n ⟨o, ho, hd⟩ => by
    obtain ⟨sl, q⟩ := un.any ho n (by simp)
    exact ⟨_, kp _ _ q, hd⟩
  have no : ∀ b : Addr, b ∉ (lamC X A outer s1 HZ scope f c' (ps ++ cs.map (·.1))).ex := fun b z => nomatch (show b ∈ ([] : List Addr) from z)
  have okX : (lamC X A outer s1 HZ scope f c' (ps ++ cs.map (·.1))).Ok := by
    constructor
    case mod => exact e0.mod
    case kind => exact L.kind
    case glob => rfl
    case blt => rfl
    case above => exact Nat.le_refl _
    case inj => exact fun y z c e1 e2 => I.ok.inj y z c (back e1) (back e2)
    case has =>
      intro y hy
      rcases (show scope.names.lookup y = some .cell ∨ scope.names.lookup y = some .free from hy) with z | z
      · exact absurd rfl (L.nc _ (PySem.mem_of_lookup z))
      · exact there z
    case cab => exact fun y c z _ => nomatch (show false = true from z)
    case hd => exact fun _ => hd
    case frames => exact Around.frames_deeper e0.frames
    case stk => exact .inr ⟨rfl, rfl⟩
    case exf => exact fun b z => absurd z (no b)
    case bs => exact e0.bs
    case bsz => exact e0.bsz
    case noex => exact fun b _ _ => no b
    case exfs => exact fun b z => absurd z (no b)
    case funs => exact e0.funs
    case frf => exact e0.frf
  constructor
  case ok => exact okX
  case os => rfl
  case bare => exact e0.bare
  case base => exact Un.kept kp
  case cell =>
    intro y c e
    obtain ⟨v, z⟩ := I.cell y c (back e)
    exact ⟨v, cellK (I.freeC y c (back e)) z⟩
  case free => exact e0.hok.fresh (Nat.le_refl _)
  case freeC =>
    intro y c e
    obtain ⟨v, o, ho, hd⟩ := I.cell y c (back e)
    exact un.free c o ho (I.freeC y c (back e)) (by simp)
  case pin => exact fun q hq => nomatch (show q ∈ ([] : List (Addr × Obj)) ++ [] from hq)
  case hok => exact e0.hok.kept kp
  case len =>
    show (vs.map some ++ caps cs σ).length = (ps ++ cs.map (·.1)).length
    rw [List.length_append, List.length_append, List.length_map, rv.length, hl]
    simp [caps]
  case loc =>
    refine ⟨_, hns, fun i y v e1 e2 e3 => ?_⟩
    have e1 : (ps ++ cs.map (·.1))[i]? = some y := e1
    have nd := L.one
    by_cases c : i < ps.length
    · rw [List.getElem?_append_left c] at e1
      rw [List.getElem?_append_left (by rw [List.length_map, rv.length, hl]; exact c), List.getElem?_map] at e2
      obtain ⟨v', ev, e2⟩ := Option.map_eq_some_iff.mp e2
      cases e2
      obtain ⟨u, hu, ru⟩ := rv.get ev
      refine ⟨u, ru, .inl ⟨L.par y (List.mem_of_getElem? e1), ?_⟩⟩
      show (ps.zip us).reverse.lookup y = some u
      rw [zip_look (List.nodup_append.mp nd).1 hl e1]
      exact hu
    · rw [List.getElem?_append_right (by omega), List.getElem?_map] at e1
      obtain ⟨p, ep, rfl⟩ := Option.map_eq_some_iff.mp e1
      have lv : (vs.map some).length = ps.length := by rw [List.length_map, rv.length, hl]
      rw [List.getElem?_append_right (by omega), lv] at e2
      unfold caps at e2
      rw [List.getElem?_map, ep] at e2
      have e2 : (σ[p.2]?).join = some v := Option.some.inj e2
      obtain ⟨o, eo, e2⟩ := Option.join_eq_some_iff.mp e2 |> fun z => (⟨_, z, rfl⟩ : ∃ o, σ[p.2]? = some o ∧ o = some v)
      subst e2
      obtain ⟨n1, n2⟩ := L.cap p (List.mem_of_getElem? ep)
      obtain ⟨m, hn, hl2⟩ := I.loc
      have vis : Vis X.env.scope p.1 := (L.free _ (PySem.mem_of_lookup n2) rfl).elim (fun z => .inr (.inl z)) fun z => .inr (.inr z)
      obtain ⟨u, r, q⟩ := hl2 p.2 p.1 v n1 eo vis
      obtain ⟨c2, h2⟩ := there n2
      have c1 := back h2
      refine ⟨u, r, .inr ⟨.inr n2, c2, h2, ?_⟩⟩
      rcases q with ⟨k', _⟩ | ⟨_, c3, e', z⟩
      · have k' : X.env.scope.names.lookup p.1 = some .local := k'
        rcases L.free _ (PySem.mem_of_lookup n2) rfl with k2 | k2
        · rw [k'] at k2
          cases k2
        · rw [k'] at k2
          cases k2
      · rw [c1] at e'
        cases e'
        exact cellK (I.freeC _ _ c1) z
/-- what the lambda does -/
theorem act_lam {k : Nat} {f c' : Addr} {pm ctv : Value} {params : Arguments} {body : Expr} {scope : Scope} {ps : List Str} {cs : List (Str × Nat)} {tb : TE} (I : Inv X pins σ H s) (L : LamP X.env.scope scope X.N ps cs)
    (hf : s.heap.get? f = some (PySem.W.kla_obj "<lambda>" (X.env.qual ++ "<lambda>") params body scope (cloFrom X.env.cells scope.names []) pm c' ctv)) (hfn : H f = none) (hfr : f ∉ frs X.stack)
    (hbind : ∀ us : List Value, us.length = ps.length → bindArgs (PySem.W.kla_fn "<lambda>" (X.env.qual ++ "<lambda>") params body scope (cloFrom X.env.cells scope.names []) pm (.ref c') ctv) ⟨us, []⟩ = pure (ps.zip us))
    (hbody : ∀ (A : Around) (outer : List Env) (s : Shared) (H : Hp), Room k (A.deeper (lamEnv X scope s.heap.objs.size f c')) → PE (lamC X A outer s H scope f c' (ps ++ cs.map (·.1))) body tb) :
    Act X.prog X.w X.K X.mg X.base X.stack s H (k + 1) f (fun H' => H' c' = some (CodeO c' (X.env.qual ++ "<lambda>"))) (fun vs H' Q => vs.length = ps.length ∧ tb (vs.map some ++ caps cs σ) H' Q) := by
  have at_ : ∀ (s' : Shared) (H' : Hp), Un (frs X.stack) [] H H' s.heap s'.heap → s'.heap.get? f = some (PySem.W.kla_obj "<lambda>" (X.env.qual ++ "<lambda>") params body scope (cloFrom X.env.cells scope.names []) pm c' ctv) :=
    fun s' H' un => un.keep f _ hf hfn hfr (fun z => nomatch (show f ∈ ([] : List Addr) from z))
  refine ⟨fun s' H' un => ⟨_, _, _, _, at_ s' H' un⟩, fun A' out' s' H' us vs Q hr e0 un kf rv hb => ?_⟩
  obtain ⟨hl, hb⟩ := hb
  have hl : us.length = ps.length := by rw [← rv.length]; exact hl
  obtain ⟨⟨oc, vs0, t, hoc, hdc, hvc⟩, _, _⟩ := e0.hok c' _ kf
  refine PySem.W.kla_callFunE hr.depth (at_ s' H' un) rfl L.co L.gen rfl ⟨c', oc, vs0, t, rfl, hoc, hdc, hvc⟩ ?_
  rw [hbind us hl]
  have loc : ∀ y ∈ ps.zip us, scope.names.lookup y.1 = some .local := fun y hy => L.par y.1 (List.of_mem_zip (show (y.1, y.2) ∈ ps.zip us from hy)).1
  refine wpAny_pure (wpAny_newFunctionEnv L.nc loc (fun h1 hns hsb => ⟨(e0.mod.nolimit.keeps fun b o z => (e0.bs b o z).1).fresh _ hsb, ?_⟩) L.kind)
  show codeAny _ _ (.expr body (lamEnv X scope s'.heap.objs.size f c')) _ _
  have kp : ∀ b o, s'.heap.get? b = some o → h1.get? b = some o := fun b o z => hsb.extBut b o (Nat.ne_of_lt (Heap.lt_size z)) (Heap.get?_push_of_some _ z)
  have J := lam_in (tk := s'.toks + (ps.zip us).length) (c' := c') (f := f) I L e0 hr.hd un rv hl hns kp
  refine PySem.W.kla_codeExpr (wpAny_mono ((hbody A' out' s' H' (hr.deeper _)).run [] _ _ H' Q J hb) (fun v s2 hq => ?_) fun e s2 hq => False.elim hq)
  obtain ⟨w', H2, J2, r2, q⟩ := hq
  exact ⟨w', H2, J2.os, J2.bare, J2.base, J2.hok, r2, q⟩
end
section
variable {X : Cx}
end
end Su
/-! ### SO: sorted of a list of data of any depth -/
namespace Su
open PySem PySem.Spec PyProof.Rows L2
abbrev srtD (zs : List (V × PyData)) : List (V × PyData) := zs.mergeSort (PySem.W.dataLe false (fun z : V × PyData => z.2))
section
variable {X : Cx} {pins : List (Addr × Obj)} {σ : L2.St} {H : Hp} {s : Shared}
end
end Su
/-! ### SK: sorted(xs, key=f), f a function that is known by what it does -/
namespace Su
open PySem PySem.Spec PyProof.Rows L2 LamX
mutual
theorem dp_same {K : PySem.W.Frag} {H H' : Hp} (s : Same H H') : ∀ {v : V} {d : PyData}, Dp K H v d → Dp K H' v d
  | _, _, .non => .non
  | _, _, .bl b => .bl b
  | _, _, .int i => .int i
  | _, _, .str x => .str x
  | _, _, .lst hs hd => .lst (hs.elim (fun z => .inl (z.elim (fun z => .inl (s _ _ z)) fun ⟨o, z⟩ => .inr ⟨o, s _ _ z⟩)) .inr) (dpAll_same s hd)
  | _, _, .tup hs hd => .tup (hs.elim (fun z => .inl (z.elim (fun z => .inl (s _ _ z)) fun ⟨o, z⟩ => .inr ⟨o, s _ _ z⟩)) .inr) (dpAll_same s hd)
theorem dpAll_same {K : PySem.W.Frag} {H H' : Hp} (s : Same H H') : ∀ {vs : List V} {ds : List PyData}, DpAll K H vs ds → DpAll K H' vs ds
  | _, _, .nil => .nil
  | _, _, .cons h t => .cons (dp_same s h) (dpAll_same s t)
end
abbrev srtK {β : Type} (k : β → PyData) (zs : List (V × β)) : List (V × β) := zs.mergeSort (PySem.W.dataLe false (fun z : V × β => k z.2))
/-- all but one object that is not of the first heap -/
theorem un_besides {fs ex : List Addr} {H H' : Hp} {h h1 h2 : Heap} {c : Addr} (u : Un fs ex H H' h h1) (nc : ∀ o, h.get? c ≠ some o) (k : ∀ b o, b ≠ c → h1.get? b = some o → h2.get? b = some o) : Un fs ex H H' h h2 where
  keep := fun b o e n hb hx => k b o (fun z => nc o (by rw [← z]; exact e)) (u.keep b o e n hb hx)
  slot := fun b o e n hb hx => by
    obtain ⟨sl, e1⟩ := u.slot b o e n hb hx
    exact ⟨sl, k b _ (fun z => nc o (by rw [← z]; exact e)) e1⟩
  free := u.free
  there := fun b o e hx => by
    obtain ⟨o', e1⟩ := u.there b o e hx
    exact ⟨o', k b o' (fun z => nc o (by rw [← z]; exact e)) e1⟩
  tups := u.tups
  frzs := u.frzs
  tbls := u.tbls
theorem room_inN {k : Nat} {A : Around} (r : Room (k + 1) A) : Room k A.in1.in1 :=
  ⟨r.hd, by have := r.dp; show A.depth + 3 * k + 5 < _; omega, by have := r.un; show A.units + 1 + 1 + 16 * k + 200 < _; omega⟩
theorem each_relB {β : Type} : ∀ {zs : List (V × β)} {us : List Value}, Vals (zs.map (·.1)) us → PySem.W.EachIs (fun u (z : V × β) => RelV z.1 u) us zs
  | [], _, r => by cases r; exact .nil
  | z :: zs, _, r => by
    cases r with
    | cons r1 r2 => exact .cons r1 (each_relB r2)
theorem relB_each {β : Type} : ∀ {zs : List (V × β)} {us : List Value}, PySem.W.EachIs (fun u (z : V × β) => RelV z.1 u) us zs → Vals (zs.map (·.1)) us
  | [], _, r => by cases r; exact .nil
  | z :: zs, _, r => by
    cases r with
    | cons r1 r2 => exact .cons r1 (relB_each r2)
abbrev hp0 : Heap := { objs := #[] }
/-- all of a heap's objects but three -/
def allBut (h : Heap) (L a c : Addr) : List (Addr × Obj) := (List.range h.objs.size).filterMap fun b => if b = L ∨ b = a ∨ b = c then none else (h.get? b).map fun o => (b, o)
theorem mem_allBut {h : Heap} {L a c : Addr} {p : Addr × Obj} : p ∈ allBut h L a c ↔ h.get? p.1 = some p.2 ∧ p.1 ≠ L ∧ p.1 ≠ a ∧ p.1 ≠ c := by
  unfold allBut
  rw [List.mem_filterMap]
  constructor
  · rintro ⟨b, hb, e⟩
    split at e
    · cases e
    · rename_i n
      obtain ⟨o, eo, rfl⟩ := Option.map_eq_some_iff.mp e
      exact ⟨eo, fun z => n (.inl z), fun z => n (.inr (.inl z)), fun z => n (.inr (.inr z))⟩
  · rintro ⟨e, n1, n2, n3⟩
    refine ⟨p.1, List.mem_range.mpr (Heap.lt_size e), ?_⟩
    rw [if_neg (fun z => z.elim n1 fun z => z.elim n2 n3), e]
    rfl
section
variable {X : Cx} {pins : List (Addr × Obj)} {σ : L2.St} {H : Hp} {s : Shared} {β : Type}
theorem sorted_act {l f : Addr} {n : Nat} {kf : Hp → Prop} {beh : List V → Hp → VK → Prop} {zs : List (V × β)} {k : β → PyData} {Q : VK} (I : Inv X pins σ H s) (hr : Room (n + 1) X.A) (act : Act X.prog X.w X.K X.mg X.base X.stack s H n f kf beh) (hs : SqL X.K H l (zs.map (·.1)))
    (hal : PySem.W.AllAlike (zs.map fun z => k z.2)) (hk : PySem.W.Sortable (zs.map fun z => k z.2)) (hu : ∀ z ∈ zs, (k z.2).depth ≤ 60)
    (turn : ∀ z ∈ zs, ∀ H', Same H H' → kf H' ∧ beh [z.1] H' fun v H'' => Same H' H'' ∧ Dp X.K H'' v (k z.2))
    (q : ∀ (p : Addr) (H' : Hp), Same H H' → H' p = none → Q (.ref p) (upd H' p (.lst ((srtK k zs).map (·.1))))) :
    wpAny (model X.prog X.w) X.A (call (.builtin "sorted") [.ref l] [(Str.ofString "key", .ref f)]) (EP X pins σ Q) X.xe s := by
  obtain ⟨its, rv, hl, hz⟩ := I.list hs
  rw [List.length_map] at hz
  have hlen : its.length = zs.length := by rw [← rv.length, List.length_map]
  refine PySem.W.sorted_of_sort hl.isList (by rw [hlen]; exact hz) (ksk_s1 _ _) (fun _ => by unfold argsOk; kernel_rfl) fun E' => ?_
  rw [ksk_t1]
  unfold ksk_tree
  have hca := PySem.W.copyHeap_at s.heap its
  have hsz0 : (PySem.W.copyHeap s.heap its).objs.size = s.heap.objs.size + 2 := by
    unfold PySem.W.copyHeap
    rw [size_push', Heap.size_update, size_push']
  obtain ⟨e1, ho1⟩ : ∃ e1, ((PySem.W.copyHeap s.heap its).update (s.heap.objs.size + 1) (Obj.mapSeq fun _ => (#[] : Array Value))).get? (s.heap.objs.size + 1) = some (seqObj "list" #[] e1) := ⟨_, get?_update_seq hca fun _ => #[]⟩
  have old1 : ∀ b o, s.heap.get? b = some o → ((PySem.W.copyHeap s.heap its).update (s.heap.objs.size + 1) (Obj.mapSeq fun _ => (#[] : Array Value))).get? b = some o := fun b o e => by
    rw [Heap.get?_update_ne _ _ _ _ (Nat.ne_of_lt (Nat.lt_succ_of_lt (Heap.lt_size e)))]
    exact PySem.W.copyHeap_old e
  have hsz1 : ((PySem.W.copyHeap s.heap its).update (s.heap.objs.size + 1) (Obj.mapSeq fun _ => (#[] : Array Value))).objs.size = s.heap.objs.size + 2 := by rw [Heap.size_update, hsz0]
  refine wpAny_bind (listItems_at hca rfl ?_)
  refine wpAny_bind (listUpdate_at hca rfl ?_ (by rw [List.size_toArray, hlen]; exact hz) (Nat.zero_le _))
  refine wpAny_bind (seqEpoch_at ho1 rfl ?_)
  refine wpAny_bind (wpAny_newTuple ?_ (by show its.length ≤ _; rw [hlen]; exact hz))
  refine wpAny_bind (wpAny_newList ?_ (Nat.zero_le _))
  refine wpAny_holding ?_
  show wpAny (model X.prog X.w) X.A.in1.in1 (ksk_rest (s.heap.objs.size + 1) (.ref f) false its.toArray e1 (.ref _)) _ _ { s with heap := (((PySem.W.copyHeap s.heap its).update (s.heap.objs.size + 1) (Obj.mapSeq fun _ => (#[] : Array Value))).push (seqObj "tuple" its.toArray 0)).push (seqObj "list" #[] 0) }
  generalize (PySem.W.copyHeap s.heap its).update (s.heap.objs.size + 1) (Obj.mapSeq fun _ => (#[] : Array Value)) = h1 at ho1 old1 hsz1 ⊢
  have hszk : (h1.push (seqObj "tuple" its.toArray 0)).objs.size = s.heap.objs.size + 3 := by rw [size_push', hsz1]
  have old2 : ∀ b o, h1.get? b = some o → ((h1.push (seqObj "tuple" its.toArray 0)).push (seqObj "list" #[] 0)).get? b = some o := fun b o e => Heap.get?_push_of_some _ (Heap.get?_push_of_some _ e)
  have hok3 : ((h1.push (seqObj "tuple" its.toArray 0)).push (seqObj "list" #[] 0)).get? (s.heap.objs.size + 3) = some (seqObj "list" #[] 0) := by rw [← hszk]; exact Heap.get?_push_size _ rfl
  have ho3 := old2 _ _ ho1
  have old3 : ∀ b o, s.heap.get? b = some o → ((h1.push (seqObj "tuple" its.toArray 0)).push (seqObj "list" #[] 0)).get? b = some o := fun b o e => old2 b o (old1 b o e)
  rw [hszk]
  generalize (h1.push (seqObj "tuple" its.toArray 0)).push (seqObj "list" #[] 0) = h3 at hok3 ho3 old3 ⊢
  have gk : s.heap.objs.size ≤ s.heap.objs.size + 3 := by omega
  have ga : s.heap.objs.size ≤ s.heap.objs.size + 1 := by omega
  have nka : s.heap.objs.size + 3 ≠ s.heap.objs.size + 1 := by omega
  have fk := I.fpOk (H' := H) gk (I.hok.fresh gk)
  have fa := I.fpOk (H' := H) ga (I.hok.fresh ga)
  have nsk : ∀ o, s.heap.get? (s.heap.objs.size + 3) ≠ some o := fun o z => absurd (Heap.lt_size z) (Nat.not_lt.mpr gk)
  generalize s.heap.objs.size + 3 = kS at hok3 gk fk nka nsk ⊢
  generalize s.heap.objs.size + 1 = a at ho3 ga fa nka ⊢
  have I3 : L2.Inv X (pins ++ [(kS, seqObj "list" #[] 0), (a, seqObj "list" #[] e1)]) σ H { s with heap := h3 } := (I.kept (t' := s.toks) old3).pins_of fun p hp => by
    rcases List.mem_append.mp hp with hp | hp
    · obtain ⟨z1, z2⟩ := I.pin p (List.mem_append_right _ hp)
      exact ⟨old3 _ _ z1, z2⟩
    · rcases List.mem_cons.mp hp with rfl | hp
      · exact ⟨hok3, fk.1, fk.2.1, fk.2.2.1, fun v z => nomatch z⟩
      · rw [List.mem_singleton.mp hp]
        exact ⟨ho3, fa.1, fa.2.1, fa.2.2.1, fun v z => nomatch z⟩
  have un3 : Un (frs X.stack) [] H H s.heap h3 := Un.kept old3
  unfold ksk_rest
  refine wpAny_bind (wpAny_rule ?_)
  rw [List.forIn_toArray]
  refine wpAny_bind (ksk_fold (fun i s' => ∃ (H1 : Hp) (kA : Array Value) (e : Nat), L2.Inv X (pins ++ [(kS, seqObj "list" kA e), (a, seqObj "list" #[] e1)]) σ H1 s' ∧ Same H H1 ∧ Un (frs X.stack) [] H H1 s.heap s'.heap ∧
      PySem.W.EachIs (fun v (z : V × β) => ∃ y, RelV y v ∧ Dp X.K H1 y (k z.2)) kA.toList (zs.take i)) its 0 _ ⟨H, #[], 0, I3, Same.refl H, un3, by rw [List.take_zero]; exact .nil⟩ ?step ?done)
  case step =>
    rintro j x s' hx ⟨H1, kA, e, I1, sm, un, ke⟩
    simp only [Nat.zero_add] at ke ⊢
    have hj : j < zs.length := by rw [← hlen]; exact (List.getElem?_eq_some_iff.mp hx).1
    obtain ⟨z, hzj⟩ : ∃ z, zs[j]? = some z := ⟨_, List.getElem?_eq_getElem hj⟩
    have hzm := List.mem_of_getElem? hzj
    obtain ⟨x', hx', rx⟩ := rv.get (i := j) (x := z.1) (by rw [List.getElem?_map, hzj]; rfl)
    rw [hx] at hx'
    cases hx'
    have kl : kA.size = j := by
      have h1 := ke.length
      rw [Array.length_toList, List.length_take] at h1
      omega
    have tz := turn z hzm H1 sm
    have hrun := act.run X.A.in1.in1 X.stack s' H1 [x] [z.1] _ (room_inN hr) I1.env0.in1.in1 un tz.1 (.cons rx .nil) tz.2
    refine wpAny_bind (wpAny_attempt (wpAny_call (codeAny_mono hrun fun r s'' hq => ?_)))
    cases r with
    | error er => exact False.elim hq
    | ok fl =>
      cases fl with
      | next => exact False.elim hq
      | brk => exact False.elim hq
      | cont => exact False.elim hq
      | ret u =>
        obtain ⟨y, H2, os, bare, un2, hok2, ry, sm2, dy⟩ := hq
        have I2 := I1.call' os un2 hok2 bare (fun b z => nomatch z)
        obtain ⟨k1, k2, k3, k4, k5⟩ := I2.pin (kS, seqObj "list" kA e) (List.mem_append_right _ (List.mem_append_right _ List.mem_cons_self))
        have pA := I2.pin (a, seqObj "list" #[] e1) (List.mem_append_right _ (List.mem_append_right _ (List.mem_cons_of_mem _ List.mem_cons_self)))
        have sb := Heap.SameBut.update s''.heap kS (Obj.mapSeq (·.push u))
        obtain ⟨c2, hc2⟩ : ∃ c2, (s''.heap.update kS (Obj.mapSeq (·.push u))).get? kS = some (seqObj "list" (kA.push u) c2) := ⟨_, get?_update_seq k1 (·.push u)⟩
        have kk : ∀ b o, b ≠ kS → s''.heap.get? b = some o → (s''.heap.update kS (Obj.mapSeq (·.push u))).get? b = some o := fun b o hb e => (sb.2 b hb).trans e
        have Ia : L2.Inv X (pins ++ [(a, seqObj "list" #[] e1)]) σ H2 s'' := I2.pins_of fun p hp => I2.pin p (List.mem_append_right _ (by
          rcases List.mem_append.mp hp with hp | hp
          · exact List.mem_append_left _ hp
          · exact List.mem_append_right _ (List.mem_cons_of_mem _ hp)))
        have pne : ∀ p ∈ X.pn ++ (pins ++ [(a, seqObj "list" #[] e1)]), p.1 ≠ kS := fun p hp => by
          rw [← List.append_assoc] at hp
          rcases List.mem_append.mp hp with hp | hp
          · exact fk.2.2.2.2.2 p hp
          · rw [List.mem_singleton.mp hp]
            exact nka.symm
        have Ib := Ia.turned (t' := s''.toks) kk k2 k3 fk.2.2.2.1 fk.2.2.2.2.1 pne
        refine wpAny_bind (listUpdate_at k1 rfl ?_ (by omega) (by rw [Array.size_push]; omega))
        refine wpAny_pure ⟨rfl, H2, kA.push u, c2, Ib.pins_of fun p hp => ?_, sm.trans sm2, un_besides (un.trans un2) nsk kk, ?_⟩
        · rcases List.mem_append.mp hp with hp | hp
          · exact Ib.pin p (List.mem_append_right _ (List.mem_append_left _ hp))
          · rcases List.mem_cons.mp hp with rfl | hp
            · exact ⟨hc2, k2, k3, k4, fun v z => nomatch z⟩
            · exact Ib.pin p (List.mem_append_right _ (List.mem_append_right _ hp))
        · rw [Array.toList_push, List.take_add_one, hzj]
          exact PySem.W.each_snoc ⟨y, ry, dy⟩ (ke.mono fun v z ⟨y, h1, h2⟩ => ⟨y, h1, dp_same sm2 h2⟩)
  case done =>
    rintro s' ⟨H1, kA, e, I1, sm, un, ke⟩
    rw [Nat.zero_add, hlen, List.take_length] at ke
    obtain ⟨k1, k2, k3, k4, k5⟩ := I1.pin (kS, seqObj "list" kA e) (List.mem_append_right _ (List.mem_append_right _ List.mem_cons_self))
    obtain ⟨a1, a2, a3, a4, a5⟩ := I1.pin (a, seqObj "list" #[] e1) (List.mem_append_right _ (List.mem_append_right _ (List.mem_cons_of_mem _ List.mem_cons_self)))
    have kl : kA.size = its.length := by
      have h1 := ke.length
      rw [Array.length_toList] at h1
      omega
    refine wpAny_bind (listItems_at k1 rfl ?_)
    obtain ⟨m, hn, _⟩ := id I1.loc
    have kr : PySem.W.EachIs (fun v (d : PyData) => ∃ as, Reads s'.heap v d as) kA.toList (zs.map fun z => k z.2) := PySem.W.each_map _ (ke.mono fun v z ⟨y, h1, h2⟩ => Dp.reads I1 _ _ _ h2 h1)
    have N : News hp0 X.env.locals s'.heap (allBut s'.heap X.env.locals a kS ++ [(kS, seqObj "list" kA e), (a, seqObj "list" #[] e1)]) := fun p hp => by
      rcases List.mem_append.mp hp with hp | hp
      · obtain ⟨z1, z2, _⟩ := mem_allBut.mp hp
        exact ⟨z1, z2, Heap.get?_none_of_le (Nat.zero_le _)⟩
      · rcases List.mem_cons.mp hp with rfl | hp
        · exact ⟨k1, k3, Heap.get?_none_of_le (Nat.zero_le _)⟩
        · rw [List.mem_singleton.mp hp]
          exact ⟨a1, a3, Heap.get?_none_of_le (Nat.zero_le _)⟩
    have F : Fr hp0 X.env.locals s'.heap m := ⟨hn, fun b o e => absurd (Heap.lt_size e) (Nat.not_lt_zero _), Nat.zero_le _⟩
    refine PySem.W.key_end (κ := PySem.W.dataKind s'.heap (zs.map fun z => k z.2)) (vs := its) F N nka (fun p hp => (mem_allBut.mp hp).2.2.2) (fun p hp => (mem_allBut.mp hp).2.2.1) (PySem.W.SortsAt.data kr hal hk fun d hd => ?_) kl (by rw [hlen]; exact hz) fun h' tk c F' N' => ⟨rfl, ?_⟩
    · obtain ⟨z, hz1, rfl⟩ := List.mem_map.mp hd
      have := hu z hz1
      have := hr.un
      show X.A.units + 1 + 1 + _ < _
      omega
    have eo := PySem.W.keyedOut_each (rev := false) (R := fun v (z : V × β) => RelV z.1 v) (fun z : V × β => k z.2) ⟨s'.heap, kA.toList, hal, rfl, kr⟩ (each_relB rv)
    have hv := relB_each eo
    have hol : ((srtK k zs).map (·.1)).length ≤ sizeLine := by
      rw [List.length_map, List.length_mergeSort]
      exact hz
    generalize PySem.W.sortVals _ false kA.toList its = out at N' eo hv
    have nA := N' _ List.mem_cons_self
    have kept : ∀ b o, b ≠ X.env.locals → b ∉ [kS, a] → s'.heap.get? b = some o → h'.get? b = some o := fun b o h1 h2 e => (N' (b, o) (List.mem_cons_of_mem _ (mem_allBut.mpr ⟨e, h1, fun z => h2 (List.mem_cons_of_mem _ (List.mem_singleton.mpr z)), fun z => h2 (by rw [show b = kS from z]; exact List.mem_cons_self)⟩))).1
    have nsE : ∀ m', s'.heap.Ns X.env.locals m' → h'.Ns X.env.locals m' := fun m' ⟨o1, es1, ep1, g1, g2, g3, g4⟩ => by
      obtain ⟨o2, es2, ep2, g5, g6, g7, g8⟩ := id hn
      rw [g1] at g5
      cases g5
      rw [g2] at g6
      cases g6
      have : m' = m := funext fun y => (g4 y).symm.trans (g8 y)
      rw [this]
      exact F'.ns
    have I4 : L2.Inv X pins σ H1 s' := I1.unpinned
    have k2 : H1 kS = none := k2
    have a2 : H1 a = none := a2
    have tr : ∀ b u, H1 b = some u → b ≠ X.env.locals ∧ b ∉ [kS, a] := by
      intro b u e
      refine ⟨?_, ?_⟩
      · intro z
        rw [z, I1.free] at e
        cases e
      · intro z
        rcases List.mem_cons.mp z with z | z
        · rw [z, k2] at e
          cases e
        · rw [List.mem_singleton.mp z, a2] at e
          cases e
    refine ⟨.ref a, upd H1 a (.lst ((srtK k zs).map (·.1))), I4.step (g' := s'.gens) (d' := s'.drawn) (ch := [kS, a]) (fun b hb => ?_) (fun b o h1 _ h2 e _ => kept b o h1 h2 e) (fun b o h1 _ h2 e _ => ⟨o.slots, kept b o h1 h2 e⟩) (fun b o h1 _ e => ?_) (fun b o h1 e => ?_)
      (fun b xs e => ?_) (fun b o u e => ?_) (fun b ps e => ⟨#[], ?_⟩) nsE (fun b u e => ?_) I4.bare, rfl, q a H1 sm a2⟩
    · rcases List.mem_cons.mp hb with rfl | hb
      · exact ⟨fk.2.2.2.1, fk.2.1, fk.2.2.2.2.1, fk.2.2.2.2.2⟩
      · rw [List.mem_singleton.mp hb]
        exact ⟨fa.2.2.2.1, fa.2.1, fa.2.2.2.2.1, fa.2.2.2.2.2⟩
    · rw [upd_ne (fun z => h1 (List.mem_cons_of_mem _ (List.mem_singleton.mpr z)))]
      exact e
    · by_cases hb : b = X.env.locals
      · obtain ⟨o2, _, _, g, _⟩ := F'.ns
        exact ⟨o2, by rw [hb]; exact g⟩
      · exact ⟨o, kept b o hb h1 e⟩
    · rw [upd_ne (ne_of_none e a2)]
      exact e
    · rw [upd_ne (ne_of_none e a2)]
      exact e
    · rw [upd_ne (ne_of_none e a2), e]
      simp
    · by_cases hb : b = a
      · subst hb
        rw [upd_same] at e
        cases e
        exact ⟨hol, out, c, hv, nA.1⟩
      · rw [upd_ne hb] at e
        refine (I4.hok b u e).stay (fun d v hc r => ?_) (fun d r => by rw [upd_ne (ne_of_none r a2)]; exact r) fun d xs r => by rw [upd_ne (ne_of_none r a2)]; exact r
        rcases hc with rfl | hc
        · exact kept d v (tr d u e).1 (tr d u e).2 r
        · exact kept d v (tr d _ hc).1 (tr d _ hc).2 r
end
/-- sorted(xs, key=lambda ..) -/
def tSortK (K : PySem.W.Frag) (T : List (Addr × Str)) (q : Str) (np : Nat) (cs : List (Str × Nat)) (t : TA) (tb : TE) : TE := fun σ H Q => t σ H fun vs H1 => Tabs T H1 ∧ ∃ (l : Addr) (zs : List (V × PyData)), vs = [.ref l] ∧ SqL K H1 l (zs.map (·.1)) ∧
  PySem.W.AllAlike (zs.map (·.2)) ∧ PySem.W.Sortable (zs.map (·.2)) ∧ (∀ z ∈ zs, z.2.depth ≤ 60) ∧ ∀ (c' : Addr) (H2 : Hp), ExtN H1 H2 → Tabs T H2 → H2 c' = some (CodeO c' q) →
    (∀ z ∈ zs, ∀ H', Same H2 H' → np = 1 ∧ tb ([some z.1] ++ caps cs σ) H' fun v H'' => Same H' H'' ∧ Dp K H'' v z.2) ∧ ∀ (p : Addr) (H' : Hp), Same H2 H' → H' p = none → Q (.ref p) (upd H' p (.lst ((srtD zs).map (·.1))))
theorem sqL_ext {K : PySem.W.Frag} {H H' : Hp} {a : Addr} {xs : List V} (e : ExtN H H') (h : SqL K H a xs) : SqL K H' a xs := by
  rcases h with h | h
  · rcases h with h | ⟨o, h⟩
    · exact .inl (.inl (e _ _ h fun ps z => by cases z))
    · exact .inl (.inr ⟨o, e _ _ h fun ps z => by cases z⟩)
  · exact .inr h
section
variable {X : Cx}
theorem pe_sortKL {T : List (Addr × Str)} {c P : Addr} {m : Nat} {x : Str} {ps : List Str} {cs : List (Str × Nat)} {params : Arguments} {e1 body : Expr} {scope : Scope} {t : TA} {tb : TE} {p lpos kpos pos : Pos}
    (hg : Gl X x) (hm : X.mg x = none) (hv : bootBuiltins x = some (.builtin "sorted")) (hr : Room (m + 2) X.A) (ha : PA X [e1] t)
    (TB : TabB X.base X.mg c P) (hcode : X.env.code = .ref c) (hmT : (P, X.env.qual ++ "<lambda>") ∈ T) (hu : ∀ p ∈ T, p.1 = P → p.2 = X.env.qual ++ "<lambda>") (L : LamP X.env.scope scope X.N ps cs) (hdef : defaultsOf params X.env = ([], []))
    (hbind : ∀ (cl : List (Str × Addr)) (pm cv ctv : Value) (us : List Value), us.length = ps.length → bindArgs (PySem.W.kla_fn "<lambda>" (X.env.qual ++ "<lambda>") params body scope cl pm cv ctv) ⟨us, []⟩ = pure (ps.zip us))
    (hbody : ∀ (A : Around) (outer : List Env) (s : Shared) (H : Hp) (f c' : Addr), Room m (A.deeper (lamEnv X scope s.heap.objs.size f c')) → PE (lamC X A outer s H scope f c' (ps ++ cs.map (·.1))) body tb)
    (hn : x ≠ "__name__" := by decide) (hdb : (x == ("__debug__" : Str)) = false := by decide)
    (he : backTo pos (starEach [e1] X.env) = (false, eval e1 X.env) :: backTo pos (starEach [] X.env) := by rfl) (hpl : (backTo pos (starEach [e1] X.env)).any (·.1) = false := by rfl)
    (hall : (backToKw pos (keywordEach [⟨some (Str.ofString "key"), .Lambda params body scope lpos, kpos⟩] X.env)).all (·.1.isSome) = true := by rfl) (hnone : (backToKw pos (keywordEach [⟨some (Str.ofString "key"), .Lambda params body scope lpos, kpos⟩] X.env)).any (·.1.isNone) = false := by rfl)
    (hks : (backToKw pos (keywordEach [⟨some (Str.ofString "key"), .Lambda params body scope lpos, kpos⟩] X.env)).filterMap (·.1) = [Str.ofString "key"] := by rfl) :
    PE X (.Call (.Name x p) [e1] [⟨some (Str.ofString "key"), .Lambda params body scope lpos, kpos⟩] pos) (tSortK X.K T (X.env.qual ++ "<lambda>") ps.length cs t tb) := by
  refine ⟨fun pins s σ H Q I h => ?_⟩
  refine wpAny_Call_Name_kw (ld_blt I hg hm hv ?_ hn hdb)
  refine PyProof.Rows.callWith_kw (thn (ha.run pos pins s σ H _ I h) fun us s1 ⟨vs, H1, I1, r1, hT, l, zs, ev, hs, hal, hk, hu1, q⟩ => ?_) he hpl hall hnone
  subst ev
  obtain rfl := Vals.ref1 r1
  rw [hks]
  show wpAny _ _ (evalAll ((do let v ← eval (.Lambda params body scope lpos) X.env; standAt pos; pure v) :: (backToKw pos (keywordEach [] X.env)).map (·.2))) _ _ s1
  refine wpAny_evalAll_cons (wpAny_bind (lam_make2 I1 TB hcode hmT hu hT hdef (L.has I.ok) fun f c' pm' ctv H3 s3 I3 eN T3 hf hfn hfr hco => wpAny_bind (wpAny_standAt (wpAny_pure ?_))))
  refine wpAny_evalAll_nil ?_
  have act := act_lam I3 L hf hfn hfr (hbind _ _ _ _) (k := m) (tb := tb) fun A outer s H hr2 => hbody A outer s H f c' hr2
  obtain ⟨q1, q2⟩ := q c' H3 eN T3 hco
  exact sorted_act (k := fun d => d) I3 hr act (sqL_ext eN hs) hal hk hu1 (fun z hz H' s' => ⟨s' _ _ hco, (q1 z hz H' s').1.symm, (q1 z hz H' s').2⟩) q2
end
end Su
/-! ### SL: a tuple so many times, its methods may be called -/
namespace Su
open PySem PySem.Spec PyProof.Rows L2
section
variable {X : Cx}
end
end Su
/-! ### TX: what is shown of data is a text of code points -/
namespace Su
open PySem PySem.Spec PyProof.Rows L2
end Su
/-! ### TX2: repr of a text, and texts joined, are texts of code points -/
namespace Su
open PySem PySem.Spec PyProof.Rows L2
theorem Fine.str {x : Str} {m : Nat} (h : PyData.strOk x = true) (hl : x.length ≤ m) : Fine (.str x) 0 m := by
  refine ⟨by simp [PyData.showable], by simp [PyData.hasDict], by simp [PyData.depth], ?_, ?_, ?_⟩
  · simp only [PyData.leavesShort]
    have h2 : x.cps.all (· < 0x110000) = true := h
    rw [← Array.all_toList, List.all_eq_true] at h2
    rw [List.all_eq_true]
    intro c hc
    have := of_decide_eq_true (h2 c hc)
    exact decide_eq_true (Nat.lt_of_lt_of_le this (by decide))
  · simp only [PyData.weight]
    exact hl
  · simp only [PyData.canLay0]
    exact h
theorem eqv_ints : ∀ xs ys : List Int, PyData.eqvAll (xs.map PyData.int) (ys.map PyData.int) = decide (xs = ys)
  | [], [] => by simp [PyData.eqvAll]
  | [], y :: ys => by simp [PyData.eqvAll]
  | x :: xs, [] => by simp [PyData.eqvAll]
  | x :: xs, y :: ys => by
    rw [List.map_cons, List.map_cons, PyData.eqvAll, eqv_ints xs ys, PyData.eqv]
    by_cases e : x = y
    · subst e
      simp
    · rw [show (x == y) = false from beq_eq_false_iff_ne.mpr e, Bool.false_and]
      exact (decide_eq_false fun z => e (List.cons.inj z).1).symm
end Su
/-! ### XF: an exception that is caught, seen from the begin of its suite on -/
namespace Su
open PySem PySem.Spec PyProof.Rows L2
def wIn (K : PySem.W.Frag) (c : Value) (i : Nat) (ts : Addr → List (Addr × Obj) → TS) (Wo : WX) (D : Ends) : WX := fun cls d σ H =>
  ∃ b, PySem.W.exmOne K cls c = some b ∧
    (b = true → ∀ a pn, H a = none → ts a pn { nx := fun σ' H' => D.nx (σ'.set i none) H', rt := D.rt, bk := fun σ' H' => D.bk (σ'.set i none) H', ct := fun σ' H' => D.ct (σ'.set i none) H' } (σ.set i (some (.ref a))) (upd H a (exK a cls d))) ∧
    (b = false → Wo cls d σ H)
section
variable {X : Cx} {x n : Str} {c : Value} {i : Nat} {body suite : List Stmt} {b0 : Stmt} {np pos pos' : Pos} {tb : WX → TS} {ts : Addr → List (Addr × Obj) → TS} {Wo : WX}
end
section
variable {X : Cx}
end
end Su
/-! ### XG: a try with any number of clauses `except X as n`, the exception tracked in its suite -/
namespace Su
open PySem PySem.Spec PyProof.Rows L2
inductive HdsIn (X : Cx) : List ExceptHandler → (Ends → WX → WX) → Prop
  | nil : HdsIn X [] (fun _ Wo => Wo)
  | cons {x n : Str} {c : Value} {i : Nat} {suite : List Stmt} {b0 : Stmt} {np pos' : Pos} {ts : Addr → List (Addr × Obj) → TS} {hds : List ExceptHandler} {g : Ends → WX → WX} (hN : X.N.Nodup) (hi : X.N[i]? = some n) (hln : X.env.kindOf n = some .local) (hc : Names X x c)
      (hsu : ∀ (a : Addr) (pn : List (Addr × Obj)), PSs (X.suite a pn) (b0 :: suite) (ts a pn)) (rest : HdsIn X hds g) : HdsIn X (.ExceptHandler (some (.Name x np)) (some n) (b0 :: suite) pos' :: hds) (fun D Wo => wIn X.K c i ts (g D Wo) D)
def tTryIns (g : Ends → WX → WX) (Wo : WX) (tb : WX → TS) : TS := fun D σ H => tb (g D Wo) D σ H
section
variable {X : Cx} {body : List Stmt} {pos : Pos} {tb : WX → TS} {Wo : WX} {h0 : ExceptHandler} {hds : List ExceptHandler} {g : Ends → WX → WX}
theorem ps_try_ins (hex : X.ex = []) (hs : X.stack = X.env :: X.outer) (hf : X.env.frame = some X.env.locals) (tk : Takes X Wo)
    (hb : ∀ (W : WX) (pn : List (Addr × Obj)) (xe : Value → Shared → Prop), Takes (X.tr pn xe) W → PassesOwn (model X.prog X.w) X.A X.env xe → PSs (X.tr pn xe) body (tb W))
    (hh : HdsIn X (h0 :: hds) g) :
    PS X (.Try body (h0 :: hds) [] [] pos) (tTryIns g Wo tb) := by
  refine ⟨fun pins s σ H D I h => ?_⟩
  have ok := I.ok
  have frm : X.A.frames = some (X.env :: X.outer) := by
    rw [ok.frames, hs]
  refine wpAny_Try_except ?_
  refine wpAny_mono ((hb (g D Wo) (X.pn ++ pins) (fun u t => wpAny (model X.prog X.w) X.A (noteFrame u X.env) (fun _ t2 => wpAny (model X.prog X.w) X.A (setFlight u none) (fun _ t3 =>
    wpAny (model X.prog X.w) X.A (handleBy u X.env (h0 :: hds)) (SP X pins D) X.xe t3) X.xe t2) X.xe t) (fun u t xx => ?_) PassesOwn.looking).run [] s σ H D (I.toTry _) h) (fun fl t hsp => ?_) (fun _ _ z => z)
  · obtain ⟨a, B, sI, pins2, τ, G, cls, d, rfl, Jt, nb, up, sky, na, os, ag, hw⟩ := xx
    have J : Inv X pins τ G sI := Jt.ofTry ok
    have sky2 : Sky B (X.env :: X.outer) a (Zc cls d) X.env.locals t.heap := by
      rw [← hs]
      exact sky
    show wpAny (model X.prog X.w) X.A (noteFrame (.ref a) X.env) _ _ _
    refine Sky.land Zc.steady frm hf sky2 fun g3 fl3 up3 => ?_
    have J3 : Inv X pins τ G { t with heap := g3 } := J.landed nb fl3.1 (up.trans up3) os ag
    obtain ⟨oe3, vs3, at3, zc3, dt3⟩ := fl3.there
    have nofr : a ∉ frs (X.env :: X.outer) := by
      intro hm
      obtain ⟨_, o', e', hnf⟩ := fl3.2.2.1.mem hm
      rw [at3] at e'
      cases e'
      exact hnf _ dt3
    have nL : a ≠ X.env.locals := fun z => nofr (List.mem_filterMap.mpr ⟨X.env, List.mem_cons_self, by rw [hf, z]⟩)
    have nF : a ∉ X.fs := by
      intro hm
      obtain ⟨e, he, q⟩ := List.mem_filterMap.mp hm
      exact nofr (List.mem_filterMap.mpr ⟨e, List.mem_cons_of_mem _ he, q⟩)
    -- it wasn't there ahead
    have gone : sI.heap.get? a = none := by
      cases z : sI.heap.get? a with
      | none => rfl
      | some o =>
        have y := nb a o z (by rw [hs]; exact nofr)
        rw [fl3.2.1] at y
        cases y
    have gone0 : X.s_0.heap.get? a = none := by
      cases z : X.s_0.heap.get? a with
      | none => rfl
      | some o =>
        obtain ⟨o', y⟩ := J.base.there a o z (by rw [hex]; simp)
        rw [gone] at y
        cases y
    have noc : ∀ y k, X.env.cells.lookup y = some k → k ≠ a := by
      rintro y k e rfl
      obtain ⟨v, o, e1, _⟩ := J.cell y k e
      rw [gone] at e1
      cases e1
    have nop : ∀ q ∈ X.pn ++ pins, q.1 ≠ a := by
      intro q hq e
      have y := (J.pin q hq).1
      rw [e, gone] at y
      cases y
    have S3 := J3.suite at3 dt3 na nL nF
    have LT : PySem.W.Looks (model X.prog X.w) g3 (typeOf (.ref a)) cls := fun A Q E s k q => wpAny_typeOf_ref (k _ _ at3) (by rw [zc3.1]; exact q)
    have key : ∀ (hl : List ExceptHandler) (g : Ends → WX → WX), HdsIn X hl g → g D Wo cls d τ G → wpAny (model X.prog X.w) X.A (handleBy (.ref a) X.env hl) (SP X pins D) X.xe { t with heap := g3 } := by
      intro hl g hh
      induction hh with
      | nil =>
        intro hno
        refine wpAny_handleBy_nil ?_
        obtain ⟨k1, k2, k3, oe, vs, T, oT, ts', he, hz, hd, h1, hr⟩ := id fl3
        unfold PySem.passOn
        refine wpAny_bind (wpAny_field he hd h1 ?_)
        rw [if_neg (show ¬ ((Value.ref T == Value.none) = true) from by simp)]
        have away : wpAny (model X.prog X.w) X.A (setFlight (.ref a) X.env.frame) (fun _ t4 => wpAny (model X.prog X.w) X.A (throw (.ref a) : Sem Flow) (SP X pins D) X.xe t4) X.xe { t with heap := g3 } := by
          rw [hf]
          refine HandSPX.setFlight_upZ fl3 fun g4 hh4 up4 => wpAny_throw (tk _ _ ?_)
          exact ⟨a, B, sI, pins, τ, G, cls, d, rfl, J, nb, (up.trans up3).trans up4, .inr (.inr (by rw [hs]; exact hh4)), na, os, ag, hno⟩
        first
          | exact wpAny_bind (wpAny_pure (wpAny_bind away))
          | exact wpAny_bind away
      | cons hN hi hln hc hsu rest ih =>
        rename_i x n c i suite b0 np pos' ts hds g
        intro hw
        obtain ⟨b, hb1, hyes, hno⟩ := hw
        refine wpAny_handleBy_cons (codeAny_handlers_test ?_) (by intro q; cases q)
        have LM := PySem.W.exm_one (M := model X.prog X.w) (J3.kIn) LT hb1
        have asked : ∀ {Q : Value → Shared → Prop} {E : Value → Shared → Prop}, Q c { t with heap := g3 } → wpAny (model X.prog X.w) (X.A.mark (some (.ref a))) (eval (.Name x np) X.env) Q E { t with heap := g3 } := by
          intro Q E q
          obtain ⟨hg, hdbg, hm | ⟨hm, hv, hnn⟩⟩ := hc
          · exact ld_glob (X := X.suite a ((a, oe3) :: (X.pn ++ pins))) S3 hg hm q hdbg
          · exact ld_blt (X := X.suite a ((a, oe3) :: (X.pn ++ pins))) S3 hg hm hv q hnn hdbg
        refine asked (LM.here ?_)
        cases b with
        | true =>
          refine codeAny_handlers_suite_as (HandSPX.lands_againZ fl3 fun g4 fl4 up4 => ?_)
          have J4 : Inv X pins τ G { t with heap := g4 } := J.landed nb fl4.1 ((up.trans up3).trans up4) os ag
          obtain ⟨oe4, vs4, at4, zc4, dt4⟩ := fl4.there
          have J5 : Inv X pins τ (upd G a (exK a cls d)) { t with heap := g4 } := track J4 na gone0 nL noc nop (exK_ok at4 zc4 dt4)
          have S4 : Inv (X.suite a (X.pn ++ pins)) [] τ (upd G a (exK a cls d)) { t with heap := g4 } := ⟨J5.ok.suite _ _, J5.os, J5.bare, J5.base, J5.loc, J5.cell, J5.free, J5.freeC, fun p hp => J5.pin p (by rw [List.append_nil] at hp; exact hp), J5.hok, J5.len⟩
          refine store_ok (X := X.suite a (X.pn ++ pins)) (v := .ref a) S4 hN hi (.inl hln) rfl (fun t5 S5 => ?_) (.inr hln)
          refine wpAny_mono ((hsu a (X.pn ++ pins)).run [] t5 _ _ _ S5 (hyes rfl a _ na)) (fun fl t6 hsp => ?_) (fun _ _ z => False.elim z)
          have end_ : ∀ {σ6 : L2.St} {H6 : Hp} {Q : Shared → Prop}, Inv (X.suite a (X.pn ++ pins)) [] σ6 H6 t6 → (∀ t7, Inv X pins (σ6.set i none) H6 t7 → Q t7) →
              wpAny (model X.prog X.w) X.A (do bindName X.env n .none; unbindBehindTheSuite X.env n pos') (fun _ t7 => Q t7) X.xe t6 := fun {σ6 H6 Q} S6 hq => by
            have J6 : Inv X pins σ6 H6 t6 := ⟨ok, S6.os, S6.bare, S6.base, S6.loc, S6.cell, S6.free, S6.freeC, fun p hp => S6.pin p (List.mem_append_left _ hp), S6.hok, S6.len⟩
            exact gone_ok J6 hN hi hln hq
          cases fl with
          | next =>
            obtain ⟨σ6, H6, S6, q6⟩ := hsp
            exact end_ S6 fun t7 J7 => ⟨_, _, J7, q6⟩
          | brk =>
            obtain ⟨σ6, H6, S6, q6⟩ := hsp
            exact end_ S6 fun t7 J7 => ⟨_, _, J7, q6⟩
          | cont =>
            obtain ⟨σ6, H6, S6, q6⟩ := hsp
            exact end_ S6 fun t7 J7 => ⟨_, _, J7, q6⟩
          | ret u =>
            obtain ⟨v6, σ6, H6, S6, r6, q6⟩ := hsp
            exact end_ S6 fun t7 J7 => ⟨_, _, _, J7, r6, q6⟩
        | false =>
          exact ih (hno rfl)
    exact key _ _ hh hw
  · cases fl with
    | next =>
      obtain ⟨τ, G, J, q⟩ := hsp
      exact wpAny_execs_nil ⟨τ, G, J.ofTry ok, q⟩
    | brk =>
      obtain ⟨τ, G, J, q⟩ := hsp
      exact ⟨τ, G, J.ofTry ok, q⟩
    | cont =>
      obtain ⟨τ, G, J, q⟩ := hsp
      exact ⟨τ, G, J.ofTry ok, q⟩
    | ret u =>
      obtain ⟨v, τ, G, J, r, q⟩ := hsp
      exact ⟨v, τ, G, J.ofTry ok, r, q⟩
end
end Su
/-! ### ZL: list(zip(a, b)) of two lists -/
namespace Su
open PySem PySem.Spec PyProof.Rows L2
/-- the iterator of a zip, i pairs told; S is the list that is being made -/
structure ZSt (z TI TO i1 i2 a b S : Addr) (i : Nat) (h : Heap) : Prop where
  ti : IsPair h TI (.ref i1) (.ref i2)
  h1 : h.IsListIter i1 a i
  h2 : h.IsListIter i2 b i
  hz : (IsZip h z TI TO .none ∧ ∃ x y, IsPair h TO x y) ∨ ∃ T f oT, IsZipHeld h z TI TO T f ∧ h.get? T = some oT ∧ T ≠ z ∧ T ≠ i1 ∧ T ≠ i2 ∧ T ≠ S
section
variable {prog : Program} {w : World} {A : Around} {E : Value → Shared → Prop} {s : Shared} {z TI TO i1 i2 a b S : Addr} {i : Nat}
end
end Su
/-! ### SO1: a set of ints by a comprehension with one clause -/
namespace Su
open PySem PySem.Spec PyProof.Rows L2
section
variable {prog : Program} {w : World} {A : Around} {R : Result → Shared → Prop} {s : Shared} {e a b : Expr} {sp : Scope} {po : Pos} {it acc : Value} {env : Env}
end
section
variable {X : Cx}
end
end Su
/-! ### DCW: dict comprehensions over a list, over enumerate of a list -/
namespace Su
open PySem PySem.Spec PyProof.Rows L2
theorem dc_enum {K : PySem.W.Frag} {a : Addr} {xs : List V} {g : TG} {tk tv : TE} {vs : List Nat} {σ : L2.St} {H1 : Hp} {D : Addr} {Qd : Hp → Prop} (Pv : Nat → Hp → Prop) (h0 : Pv 0 (upd H1 D (.dK []))) (hl : ∀ i H, i ≤ xs.length → Pv i H → SqL K H a xs)
    (hs : ∀ i x T H, xs[i]? = some x → Pv i H → H T = none → g (.ref T) (wipe σ vs) (upd H T (.tup [.int (i : Nat), x])) fun σ2 H2 => wipe σ2 vs = wipe σ vs ∧ tYes σ2 H2 fun b H3 =>
      if b = true then tk σ2 H3 fun y H4 => tv σ2 H4 fun z H5 => ∃ kvs k, y = kV k ∧ H5 D = some (.dK kvs) ∧ kvs.length < sizeLine ∧ Pv (i + 1) (upd H5 D (.dK (putK kvs k z))) else Pv (i + 1) H3)
    (hd : ∀ H, Pv xs.length H → Qd H) :
    ∃ W : Nat → Nat → Hp → Prop, (∃ m, W 0 m (upd H1 D (.dK []))) ∧ ∀ i m H, W i m H →
      ((Ite K a).stop i H ∧ Qd H) ∨ ((Ite K a).go i H ∧ ∃ Nx : Hp → Prop, (∀ H', Nx H' → ∃ m', m' < m ∧ W (i + 1) m' H') ∧ ∀ x H', (Ite K a).yld i H x H' → g x (wipe σ vs) H' fun σ2 H2 => wipe σ2 vs = wipe σ vs ∧ tYes σ2 H2 fun b H3 =>
        if b = true then tk σ2 H3 fun y H4 => tv σ2 H4 fun z H5 => ∃ kvs k, y = kV k ∧ H5 D = some (.dK kvs) ∧ kvs.length < sizeLine ∧ Nx (upd H5 D (.dK (putK kvs k z))) else Nx H3) := by
  refine ⟨fun i m H => m = xs.length - i ∧ i ≤ xs.length ∧ Pv i H, ⟨xs.length, rfl, Nat.zero_le _, h0⟩, ?_⟩
  rintro i m H ⟨rfl, hi, p⟩
  have q := hl i H hi p
  by_cases c : i < xs.length
  · refine .inr ⟨⟨xs, xs[i], q, List.getElem?_eq_getElem c⟩, Pv (i + 1), fun H' p' => ⟨xs.length - (i + 1), by omega, rfl, c, p'⟩, fun x H' y => ?_⟩
    obtain ⟨T, x', rfl, nT, rfl, y⟩ := y
    exact hs i x' T H (y xs q) p nT
  · obtain rfl : i = xs.length := by omega
    exact .inl ⟨⟨xs, q, Nat.le_refl _⟩, hd H p⟩
end Su
/-! ### DU: len, str and repr of an instance, by its own methods -/
namespace Su
open PySem PySem.Spec PyProof.Rows L2
/-- a special method of the class at C -/
structure MetD (P : Program) (w : World) (K : PySem.W.Frag) (mg : Str → Option Value) (base : Heap) (k : Nat) (C : Addr) (m : Str) (sp : Sp) : Prop where
  ex : ∃ (f : Addr) (fd : FuncData), PySem.W.findIn K (.ref C) m = some (some (.ref f)) ∧ PySem.W.isFn K (.ref f) = true ∧ FnG P w K mg base CX0 k f fd ["self"] sp ∧ Binds K fd ["self"] []
section
variable {X : Cx} {k j : Nat} {f C : Addr} {fd : FuncData} {ps : List Str} {sp : Sp}
theorem run_fnG {A : Around} {pins : List (Addr × Obj)} {σ : L2.St} {H : Hp} {s : Shared} {Q : VK} {us : List Value} {vs : List V} (sb : Sub X k A) (hg : A.guards = some []) (F : FnG X.prog X.w X.K X.mg X.base CX0 k f fd ps sp) (hb : Binds X.K fd ps [])
    (I : Inv X pins σ H s) (r : Vals vs us) (h : sp vs H Q E0) : wpAny (model X.prog X.w) A (call (.ref f) us) (EP X pins σ Q) X.xe s := by
  have e0 : Env0 X.prog X.w X.K X.mg X.base A X.stack s H := by
    have e := I.env0
    exact ⟨by rw [sb.fr]; exact e.frames, e.mod, e.bs, e.bsz, e.funs, e.frf, e.hok, e.bare⟩
  have hl : us.length = ps.length := by rw [← r.length]; exact F.len _ _ _ _ h
  refine wpAny_call (codeAny_mono (F.run A X.stack s H ⟨us, []⟩ us vs Q E0 hg sb.room e0 (by
    have := hb s us I.kIn (by simpa using hl)
    simpa using this) r h) fun r s' hq => ?_)
  cases r with
  | error e => exact False.elim hq
  | ok fl =>
    cases fl with
    | ret u => exact I.after hq
    | next => exact False.elim hq
    | brk => exact False.elim hq
    | cont => exact False.elim hq
end
section
open Builtin
variable {prog : Program} {w : World} {A : Around} {E : Value → Shared → Prop} {s : Shared} {K : PySem.W.Frag} {x C f : Addr} {ox : Obj} {od : Option Obj}
end
end Su
/-! ### DB: bool of an instance with a length -/
namespace Su
open PySem PySem.Spec PyProof.Rows L2 Builtin
section
variable {prog : Program} {w : World} {A : Around} {E : Value → Shared → Prop} {s : Shared} {K : PySem.W.Frag} {x C f : Addr} {ox : Obj} {od : Option Obj}
end
section
variable {X : Cx} {k j : Nat} {C : Addr} {sp : Sp}
end
end Su
/-! ### EQ: == and != by an own __eq__, whatever it answers, and what it is compared with -/
namespace Su
open PySem PySem.Spec PyProof.Rows L2
/-- an own == of the class at C -/
structure MetE (P : Program) (w : World) (K : PySem.W.Frag) (mg : Str → Option Value) (base : Heap) (k : Nat) (C : Addr) (sp : Sp) : Prop where
  ex : ∃ (f : Addr) (fd : FuncData), PySem.W.findIn K (.ref C) "__eq__" = some (some (.ref f)) ∧ PySem.W.isFn K (.ref f) = true ∧ FnOk P w K mg base CX0 k f fd ["self", "other"] sp ∧ Binds K fd ["self", "other"] []
  ne : PySem.W.findIn K (.ref C) "__ne__" = some (some (.builtin "object.__ne__"))
  ob : PySem.W.subIn K (.ref C) (.type "object") = some true
  no : PySem.W.subIn K (.type "NoneType") (.ref C) = some false ∧ PySem.W.subIn K (.type "int") (.ref C) = some false ∧ PySem.W.subIn K (.type "bool") (.ref C) = some false ∧ PySem.W.subIn K (.type "str") (.ref C) = some false ∧ PySem.W.subIn K (.type "tuple") (.ref C) = some false ∧ PySem.W.subIn K (.type "list") (.ref C) = some false ∧ PySem.W.subIn K (.type "dict") (.ref C) = some false
  nb : PySem.W.subIn K (.ref C) (.type "NoneType") = some false ∧ PySem.W.subIn K (.ref C) (.type "int") = some false ∧ PySem.W.subIn K (.ref C) (.type "bool") = some false ∧ PySem.W.subIn K (.ref C) (.type "str") = some false ∧ PySem.W.subIn K (.ref C) (.type "tuple") = some false ∧ PySem.W.subIn K (.ref C) (.type "list") = some false ∧ PySem.W.subIn K (.ref C) (.type "dict") = some false
def isT (T : String) : Prop := T = "NoneType" ∨ T = "int" ∨ T = "bool" ∨ T = "str" ∨ T = "tuple" ∨ T = "list" ∨ T = "dict"
section
variable {X : Cx} {k j : Nat} {f C : Addr} {fd : FuncData} {ps : List Str} {sp : Sp}
theorem MetE.sub {P : Program} {w : World} {K : PySem.W.Frag} {mg : Str → Option Value} {base : Heap} (M : MetE P w K mg base k C sp) {T : String} (h : isT T) : PySem.W.subIn K (.type T) (.ref C) = some false := by
  obtain ⟨n1, n2, n3, n4, n5, n6, n7⟩ := M.no
  rcases h with rfl | rfl | rfl | rfl | rfl | rfl | rfl <;> assumption
end
end Su
/-! ### EQ2: other things compared with an instance: they decline, and its own == is asked -/
namespace Su
open PySem PySem.Spec PyProof.Rows L2
section
variable {K : PySem.W.Frag}
end
/-- what isn't an instance -/
def OddT (H : Hp) (y : V) : Prop := y = .non ∨ (∃ b, y = .bl b) ∨ (∃ i, y = .int i) ∨ (∃ t, y = .str t) ∨ (∃ c xs, y = .ref c ∧ H c = some (.lst xs)) ∨ (∃ c xs, y = .ref c ∧ PTup H c xs) ∨ ∃ c kvs, y = .ref c ∧ H c = some (.dK kvs)
theorem OddT.ty {K : PySem.W.Frag} {H : Hp} {y : V} (h : OddT H y) : ∃ T, isT T ∧ TyX K H y (.type T) := by
  rcases h with rfl | ⟨b, rfl⟩ | ⟨i, rfl⟩ | ⟨t, rfl⟩ | ⟨c, xs, rfl, e⟩ | ⟨c, xs, rfl, ob, e, _⟩ | ⟨c, kvs, rfl, e⟩
  · exact ⟨_, .inl rfl, .base .non⟩
  · exact ⟨_, .inr (.inr (.inl rfl)), .base (.bl b)⟩
  · exact ⟨_, .inr (.inl rfl), .base (.int i)⟩
  · exact ⟨_, .inr (.inr (.inr (.inl rfl))), .base (.str t)⟩
  · exact ⟨_, .inr (.inr (.inr (.inr (.inr (.inl rfl))))), .base (.lst e)⟩
  · exact ⟨_, .inr (.inr (.inr (.inr (.inl rfl)))), .fTuple e⟩
  · exact ⟨_, .inr (.inr (.inr (.inr (.inr (.inr rfl))))), .base (.dK e)⟩
end Su
/-! ### EQ3: [x] == [y], by an own == of x -/
namespace Su
open PySem PySem.Spec PyProof.Rows L2
section
open PySem.SeqAt MeetsSeq MeetsSeq2 MeetsSeq3 SeqRoads2
variable {prog : Program} {w : World} {A : Around} {R : Result → Shared → Prop}
end
end Su
/-! ### EO: written things, piece by piece: what an expression gives, as a thing -/
namespace Su
open PySem PySem.Spec PyProof.Rows L2
/-- whatever else was made since H0, te gives the thing g -/
def EOk (p : Addr) (H0 : Hp) (σ : L2.St) (te : TE) (g : G) : Prop := ∀ (H : Hp) (Q : VK), PoolAt H p → Same H0 H → (∀ v H', PoolAt H' p → Same H H' → Tg p H' v g → Q v H') → te σ H Q
def EsOk (p : Addr) (H0 : Hp) (σ : L2.St) (ta : TA) (gs : List G) : Prop := ∀ (H : Hp) (Q : List V → Hp → Prop), PoolAt H p → Same H0 H → (∀ vs H', PoolAt H' p → Same H H' → TgL p H' vs gs → Q vs H') → ta σ H Q
theorem TgL.drop {p : Addr} {H : Hp} : ∀ (n : Nat) {vs : List V} {gs : List G}, TgL p H vs gs → TgL p H (vs.drop n) (gs.drop n)
  | 0, _, _, h => h
  | _ + 1, _, _, .nil => .nil
  | n + 1, _, _, .cons _ t => t.drop n
theorem TgL.take {p : Addr} {H : Hp} : ∀ (n : Nat) {vs : List V} {gs : List G}, TgL p H vs gs → TgL p H (vs.take n) (gs.take n)
  | 0, _, _, _ => .nil
  | _ + 1, _, _, .nil => .nil
  | n + 1, _, _, .cons h t => .cons h (t.take n)
theorem TgL.rev {p : Addr} {H : Hp} : ∀ {vs : List V} {gs : List G}, TgL p H vs gs → TgL p H vs.reverse gs.reverse
  | _, _, .nil => .nil
  | _, _, .cons h t => by
    rw [List.reverse_cons, List.reverse_cons]
    exact t.rev.app (.cons h .nil)
theorem TgL.at {p : Addr} {H : Hp} : ∀ {vs : List V} {gs : List G}, TgL p H vs gs → ∀ {i : Nat} {g : G}, gs[i]? = some g → ∃ v, vs[i]? = some v ∧ Tg p H v g
  | _, _, .nil, i, g, e => by simp at e
  | _, _, .cons h t, 0, g, e => by
    obtain rfl := (by simpa using e : _ = g)
    exact ⟨_, rfl, h⟩
  | _, _, .cons h t, i + 1, g, e => t.at (i := i) (by simpa using e)
theorem cut_toN {xs : List V} (k : Nat) : cutV xs none (some (k : Int)) = xs.take k := by
  have e0 : HT.sIx xs.length 0 (none : Option Int) = 0 := rfl
  have e1 : HT.sIx xs.length xs.length (some (k : Int)) = min k xs.length := HT.sIx_nat xs.length xs.length k
  unfold cutV
  rw [e0, e1, List.drop_zero, Nat.sub_zero]
  rcases Nat.le_total k xs.length with h | h
  · rw [Nat.min_eq_left h]
  · rw [Nat.min_eq_right h, List.take_of_length_le (Nat.le_refl _), List.take_of_length_le h]
section
variable {p : Addr} {H0 : Hp} {σ : L2.St} {K : PySem.W.Frag}
theorem EsOk.nil : EsOk p H0 σ tNil [] := fun H Q hp s q => q [] H hp (Same.refl H) .nil
theorem EsOk.cons {te : TE} {ta : TA} {g : G} {gs : List G} (h : EOk p H0 σ te g) (t : EsOk p H0 σ ta gs) : EsOk p H0 σ (tCons te ta) (g :: gs) :=
  fun H Q hp s q => h H _ hp s fun v H1 hp1 s1 tg => t H1 _ hp1 (s.trans s1) fun vs H2 hp2 s2 tgs => q (v :: vs) H2 hp2 (s1.trans s2) (.cons (tg.keep (Keeps.same s2)) tgs)
theorem EOk.const {v : V} {g : G} (h : ∀ H, Tg p H v g) : EOk p H0 σ (tC v) g := fun H Q hp s q => q v H hp (Same.refl H) (h H)
theorem EOk.int (i : Int) : EOk p H0 σ (tC (.int i)) (.int i) := EOk.const fun _ => .int i
theorem EOk.bl (b : Bool) : EOk p H0 σ (tC (.bl b)) (.bl b) := EOk.const fun _ => .bl b
theorem EOk.str (x : Str) : EOk p H0 σ (tC (.str x)) (.str x) := EOk.const fun _ => .str x
theorem EOk.non : EOk p H0 σ (tC .non) .non := EOk.const fun _ => .non
theorem EOk.neg (i : Int) : EOk p H0 σ (tUn (rU fun i => .int (-i)) (tC (.int i))) (.int (-i)) := fun H Q hp s q => ⟨i, rfl, q _ H hp (Same.refl H) (.int _)⟩
theorem EOk.tup {ta : TA} {gs : List G} (h : EsOk p H0 σ ta gs) (l : gs.length ≤ 1000) : EOk p H0 σ (tTupF ta) (.tup gs) :=
  fun H Q hp s q => h H _ hp s fun vs H1 hp1 s1 t => ⟨by rw [t.len]; exact Nat.le_trans l (by decide), fun v H2 s2 nv pv => q _ H2 (hp1.same s2) (s1.trans s2) (.tup (.inl pv) (t.keep (Keeps.same s2)))⟩
theorem EOk.lst {ta : TA} {gs : List G} (h : EsOk p H0 σ ta gs) (l : gs.length ≤ 1000) : EOk p H0 σ (tLst ta) (.lst gs) :=
  fun H Q hp s q => h H _ hp s fun vs H1 hp1 s1 t => ⟨by rw [t.len]; exact Nat.le_trans l (by decide), fun a na => q _ _ (hp1.same (same_upd na)) (s1.trans (same_upd na)) (.lst (pool_ne hp1 na) upd_same (t.keep (Keeps.same (same_upd na))))⟩
theorem EOk.dct : EOk p H0 σ tDNewK .dct := fun H Q hp s q a na => q _ _ (hp.same (same_upd na)) (same_upd na) (.dct upd_same)
theorem lst_at {H : Hp} {v : V} {gs : List G} (h : Tg p H v (.lst gs)) : ∃ a vs, v = .ref a ∧ a ≠ p ∧ H a = some (.lst vs) ∧ TgL p H vs gs := by
  cases h with
  | lst n e t => exact ⟨_, _, rfl, n, e, t⟩
theorem EOk.to1 {te : TE} {gs : List G} (h : EOk p H0 σ te (.lst gs)) : EOk p H0 σ (tSl (rSlL K) te tNoPart (tPart (tC (.int 1)))) (.lst (gs.take 1)) :=
  fun H Q hp s q => h H _ hp s fun v H1 hp1 s1 t1 => by
    obtain ⟨a, vs, rfl, na, ea, ta⟩ := lst_at t1
    refine ⟨1, rfl, a, vs, rfl, SqL.of ea, fun c nc => ?_⟩
    rw [show cutV vs none (some (1 : Int)) = vs.take 1 from cut_toN 1]
    exact q _ _ (hp1.same (same_upd nc)) (s1.trans (same_upd nc)) (.lst (pool_ne hp1 nc) upd_same ((ta.take 1).keep (Keeps.same (same_upd nc))))
theorem EOk.rev {te : TE} {gs : List G} (h : EOk p H0 σ te (.lst gs)) : EOk p H0 σ (tRevL K te) (.lst gs.reverse) :=
  fun H Q hp s q => h H _ hp s fun v H1 hp1 s1 t1 => by
    obtain ⟨a, vs, rfl, na, ea, ta⟩ := lst_at t1
    exact ⟨a, vs, rfl, SqL.of ea, fun c nc => q _ _ (hp1.same (same_upd nc)) (s1.trans (same_upd nc)) (.lst (pool_ne hp1 nc) upd_same (ta.rev.keep (Keeps.same (same_upd nc))))⟩
end
end Su
/-! ### TR: t[::-1], t a tuple -/
namespace Su
open PySem PySem.Spec PyProof.Rows L2
section
variable {prog : Program} {w : World} {A : Around} {E : Value → Shared → Prop} {s : Shared}
end
section
variable {X : Cx}
end
end Su
/-! ### PM: terms of programs -/
namespace Su
open PySem PySem.Spec PyProof.Rows L2
inductive Tm where
  | ask (rs : List Int)
  | rest
  | thn (ts : List Tm)
  | frk (ts : List Tm)
  | rnd (least : Int) (most : Option Int) (t : Tm)
  | call (nm : Str)
def mostV : Option Int → V
  | none => .non
  | some k => .int k
mutual
inductive TmAt (H : Hp) : V → Tm → Prop
  | ask {a b : Addr} {rs : List Int} (e : PTup H a [.str "ask", .ref b]) (r : PTup H b (rs.map V.int)) : TmAt H (.ref a) (.ask rs)
  | rest {a : Addr} (e : PTup H a [.str "rest"]) : TmAt H (.ref a) .rest
  | thn {a b : Addr} {vs : List V} {ts : List Tm} (e : PTup H a [.str "then", .ref b]) (r : PTup H b vs) (t : TmL H vs ts) : TmAt H (.ref a) (.thn ts)
  | frk {a b : Addr} {vs : List V} {ts : List Tm} (e : PTup H a [.str "fork", .ref b]) (r : PTup H b vs) (t : TmL H vs ts) : TmAt H (.ref a) (.frk ts)
  | rnd {a : Addr} {v : V} {l : Int} {m : Option Int} {t : Tm} (e : PTup H a [.str "round", .int l, mostV m, v]) (r : TmAt H v t) : TmAt H (.ref a) (.rnd l m t)
  | call {a : Addr} {nm : Str} (e : PTup H a [.str "call", .str nm]) : TmAt H (.ref a) (.call nm)
inductive TmL (H : Hp) : List V → List Tm → Prop
  | nil : TmL H [] []
  | cons {v : V} {vs : List V} {t : Tm} {ts : List Tm} (h : TmAt H v t) (r : TmL H vs ts) : TmL H (v :: vs) (t :: ts)
end
/-- tuples are kept -/
def KT (H H' : Hp) : Prop := ∀ a vs, PTup H a vs → PTup H' a vs
theorem KT.same {H H' : Hp} (s : Same H H') : KT H H' := fun _ _ h => h.same s
theorem KT.of {p : Addr} {H H' : Hp} (k : Kept p H H') (hp : PoolAt H p) : KT H H' := fun _ _ h => h.kept k hp
theorem KT.trans {H H1 H2 : Hp} (a : KT H H1) (b : KT H1 H2) : KT H H2 := fun x vs h => b x vs (a x vs h)
mutual
theorem TmAt.keep {H H' : Hp} (k : KT H H') : ∀ {v : V} {t : Tm}, TmAt H v t → TmAt H' v t
  | _, _, .ask e r => .ask (k _ _ e) (k _ _ r)
  | _, _, .rest e => .rest (k _ _ e)
  | _, _, .thn e r t => .thn (k _ _ e) (k _ _ r) (TmL.keep k t)
  | _, _, .frk e r t => .frk (k _ _ e) (k _ _ r) (TmL.keep k t)
  | _, _, .rnd e r => .rnd (k _ _ e) (TmAt.keep k r)
  | _, _, .call e => .call (k _ _ e)
theorem TmL.keep {H H' : Hp} (k : KT H H') : ∀ {vs : List V} {ts : List Tm}, TmL H vs ts → TmL H' vs ts
  | _, _, .nil => .nil
  | _, _, .cons h t => .cons (TmAt.keep k h) (TmL.keep k t)
end
theorem TmL.len {H : Hp} : ∀ {vs : List V} {ts : List Tm}, TmL H vs ts → vs.length = ts.length
  | _, _, .nil => rfl
  | _, _, .cons _ t => by
    rw [List.length_cons, List.length_cons, TmL.len t]
theorem TmL.get {H : Hp} : ∀ {vs : List V} {ts : List Tm}, TmL H vs ts → ∀ {i : Nat} {v : V}, vs[i]? = some v → ∃ t, ts[i]? = some t ∧ TmAt H v t
  | _, _, .nil, i, v, e => by simp at e
  | _, _, .cons h t, 0, v, e => by
    obtain rfl := (by simpa using e : _ = v)
    exact ⟨_, rfl, h⟩
  | _, _, .cons h t, i + 1, v, e => TmL.get t (i := i) (by simpa using e)
theorem TmL.app {H : Hp} : ∀ {vs ws : List V} {ts us : List Tm}, TmL H vs ts → TmL H ws us → TmL H (vs ++ ws) (ts ++ us)
  | _, _, _, _, .nil, h => h
  | _, _, _, _, .cons x t, h => .cons x (TmL.app t h)
/-- at most so deep; what holds of every call, of every ask -/
def Lv (C : Str → Prop) (R : List Int → Prop) : Nat → Tm → Prop
  | 0, _ => False
  | _ + 1, .ask rs => R rs
  | _ + 1, .rest => True
  | d + 1, .thn ts => ts.length ≤ 3 ∧ ∀ t ∈ ts, Lv C R d t
  | d + 1, .frk ts => ts.length ≤ 3 ∧ ∀ t ∈ ts, Lv C R d t
  | d + 1, .rnd l m t => (0 ≤ l ∧ l ≤ 100 ∧ ∀ k, m = some k → 0 ≤ k ∧ k ≤ 100) ∧ Lv C R d t
  | _ + 1, .call nm => C nm
theorem Lv.imp {C C' : Str → Prop} {R R' : List Int → Prop} (hc : ∀ n, C n → C' n) (hR : ∀ r, R r → R' r) : ∀ {d : Nat} {t : Tm}, Lv C R d t → Lv C' R' d t
  | 0, _, h => h.elim
  | d + 1, .ask rs, h => hR rs h
  | d + 1, .rest, _ => trivial
  | d + 1, .thn ts, h => ⟨h.1, fun t ht => Lv.imp hc hR (h.2 t ht)⟩
  | d + 1, .frk ts, h => ⟨h.1, fun t ht => Lv.imp hc hR (h.2 t ht)⟩
  | d + 1, .rnd l m t, h => ⟨h.1, Lv.imp hc hR h.2⟩
  | d + 1, .call nm, h => hc nm h
theorem Lv.up {C : Str → Prop} {R : List Int → Prop} : ∀ {d : Nat} {t : Tm}, Lv C R d t → Lv C R (d + 1) t
  | 0, _, h => h.elim
  | d + 1, .ask rs, h => h
  | d + 1, .rest, _ => trivial
  | d + 1, .thn ts, h => ⟨h.1, fun t ht => Lv.up (h.2 t ht)⟩
  | d + 1, .frk ts, h => ⟨h.1, fun t ht => Lv.up (h.2 t ht)⟩
  | d + 1, .rnd l m t, h => ⟨h.1, Lv.up h.2⟩
  | d + 1, .call nm, h => h
/-! the reach and the rooms, in numbers -/
end Su
/-! ### PS: a list comprehension over a text; one sign in a text; a text times a number -/
namespace Su
open PySem PySem.Spec PyProof.Rows L2
theorem fold_size (xs : Array Nat) : ∀ (n : Nat) (acc : Array Nat), ((List.replicate n xs).foldl (· ++ ·) acc).size = acc.size + n * xs.size
  | 0, acc => by simp
  | n + 1, acc => by
    rw [List.replicate_succ, List.foldl_cons, fold_size xs n, Array.size_append, Nat.succ_mul]
    omega
/-- a short text some times -/
def rMulS : R2 := fun x y H Q => ∃ (a : Str) (n : Nat), x = .str a ∧ y = .int (n : Int) ∧ 1 ≤ n ∧ n ≤ 1000 ∧ 1 ≤ a.length ∧ a.length ≤ 1000 ∧ Q (.str ⟨(List.replicate n a.cps).foldl (· ++ ·) #[]⟩) H
theorem op_mulS {X : Cx} : OpR X (binaryOp .Mult) rMulS := by
  intro pins s σ H x y v u Q I rx ry h
  obtain ⟨a, n, rfl, rfl, h1, h2, h3, h4, q⟩ := h
  obtain ⟨t, rfl⟩ := rx
  obtain ⟨t', rfl⟩ := ry
  refine PySem.P.mul_str ?_ ?_ ?_ ?_
  · rw [decide_eq_false (by omega), decide_eq_false (by omega)]
    rfl
  · intro _ _ z
    have z2 : (a.length : Int) * n ≤ 1000 * 1000 := by
      have : a.length * n ≤ 1000 * 1000 := Nat.mul_le_mul h4 h2
      omega
    have z3 : (1000 * 1000 : Int) ≤ 2 ^ 63 - 1 := by decide
    have z4 : (a.length : Int) ≤ (2 ^ 63 - 1) / (n : Int) := Int.le_ediv_of_mul_le (by omega) (Int.le_trans z2 z3)
    omega
  · intro _ _
    have z2 : a.length * n ≤ 1000 * 1000 := Nat.mul_le_mul h4 h2
    unfold Builtin.Str.tooLong
    rw [Int.toNat_natCast]
    have hb : sizeLine = 16777216 := rfl
    exact decide_eq_false (by omega)
  · rw [if_neg (by omega)]
    by_cases e : n = 1
    · subst e
      rw [if_pos (by simp)]
      have e2 : (⟨(List.replicate 1 a.cps).foldl (· ++ ·) #[]⟩ : Str) = a := by
        show (⟨#[] ++ a.cps⟩ : Str) = a
        rw [Array.empty_append]
      rw [e2] at q
      exact ⟨.str a, _, I, ⟨t, rfl⟩, q⟩
    · rw [if_neg (by simp; omega)]
      rw [Int.toNat_natCast]
      refine ⟨?_, .str _, _, I.tok _, ⟨_, rfl⟩, q⟩
      have z2 : n * a.length ≤ 1000 * 1000 := Nat.mul_le_mul h2 h4
      have hb : sizeLine = 16777216 := rfl
      show ((List.replicate n a.cps).foldl (· ++ ·) #[]).size ≤ sizeLine
      rw [fold_size]
      have z3 : a.length = a.cps.size := rfl
      rw [← z3, Array.size_empty]
      omega
end Su
/-! ### MT: max and min of a pair of numbers -/
namespace Su
open PySem PySem.Spec PyProof.Rows L2 PySem.W
abbrev rMax2 : List V → Hp → VK → Prop := fun xs H Q => ∃ i j, xs = [.int i, .int j] ∧ Q (.int (if j > i then j else i)) H
abbrev rMin2 : List V → Hp → VK → Prop := fun xs H Q => ∃ i j, xs = [.int i, .int j] ∧ Q (.int (if j < i then j else i)) H
section
variable {X : Cx}
end
end Su
/-! ### TF: things of any kind whose tuples' methods may be called -/
namespace Su
open PySem PySem.Spec PyProof.Rows L2
mutual
inductive Tf (p : Addr) (H : Hp) : V → G → Prop
  | non : Tf p H .non .non
  | bl (b : Bool) : Tf p H (.bl b) (.bl b)
  | int (i : Int) : Tf p H (.int i) (.int i)
  | str (s : Str) : Tf p H (.str s) (.str s)
  | lst {a : Addr} {vs : List V} {ds : List G} (n : a ≠ p) (e : H a = some (.lst vs)) (t : TfL p H vs ds) : Tf p H (.ref a) (.lst ds)
  | tup {a : Addr} {vs : List V} {ds : List G} (e : PTup H a vs) (t : TfL p H vs ds) : Tf p H (.ref a) (.tup ds)
  | dct {a : Addr} (e : H a = some (.dK [])) : Tf p H (.ref a) .dct
inductive TfL (p : Addr) (H : Hp) : List V → List G → Prop
  | nil : TfL p H [] []
  | cons {v : V} {vs : List V} {d : G} {ds : List G} (h : Tf p H v d) (t : TfL p H vs ds) : TfL p H (v :: vs) (d :: ds)
end
structure KeepF (p : Addr) (H H' : Hp) : Prop where
  ls : ∀ a vs, a ≠ p → H a = some (.lst vs) → H' a = some (.lst vs)
  pt : ∀ a vs, PTup H a vs → PTup H' a vs
  dk : ∀ a kvs, H a = some (.dK kvs) → H' a = some (.dK kvs)
theorem KeepF.same {p : Addr} {H H' : Hp} (s : Same H H') : KeepF p H H' := ⟨fun a vs n z => s _ _ z, fun a vs h => h.same s, fun a kvs z => s _ _ z⟩
theorem KeepF.of {p : Addr} {H H' : Hp} (k : Kept p H H') (hp : PoolAt H p) : KeepF p H H' := by
  refine ⟨fun a vs n z => k _ _ z n, fun a vs h => h.kept k hp, fun a kvs z => ?_⟩
  obtain ⟨o, e, g, m, rfl, _⟩ := hp
  exact k _ _ z (ne_of z e (by intro y; cases y))
mutual
theorem Tf.tg {p : Addr} {H : Hp} : ∀ {v : V} {g : G}, Tf p H v g → Tg p H v g
  | _, _, .non => .non
  | _, _, .bl b => .bl b
  | _, _, .int i => .int i
  | _, _, .str s => .str s
  | _, _, .lst n e t => .lst n e (TfL.tg t)
  | _, _, .tup e t => .tup (.inl e) (TfL.tg t)
  | _, _, .dct e => .dct e
theorem TfL.tg {p : Addr} {H : Hp} : ∀ {vs : List V} {gs : List G}, TfL p H vs gs → TgL p H vs gs
  | _, _, .nil => .nil
  | _, _, .cons h t => .cons (Tf.tg h) (TfL.tg t)
end
mutual
theorem Tf.keep {p : Addr} {H H' : Hp} (k : KeepF p H H') : ∀ {v : V} {g : G}, Tf p H v g → Tf p H' v g
  | _, _, .non => .non
  | _, _, .bl b => .bl b
  | _, _, .int i => .int i
  | _, _, .str s => .str s
  | _, _, .lst n e t => .lst n (k.ls _ _ n e) (TfL.keep k t)
  | _, _, .tup e t => .tup (k.pt _ _ e) (TfL.keep k t)
  | _, _, .dct e => .dct (k.dk _ _ e)
theorem TfL.keep {p : Addr} {H H' : Hp} (k : KeepF p H H') : ∀ {vs : List V} {gs : List G}, TfL p H vs gs → TfL p H' vs gs
  | _, _, .nil => .nil
  | _, _, .cons h t => .cons (Tf.keep k h) (TfL.keep k t)
end
theorem Tf.same {p : Addr} {H H' : Hp} {v : V} {g : G} (h : Tf p H v g) (s : Same H H') : Tf p H' v g := h.keep (KeepF.same s)
theorem TfL.same {p : Addr} {H H' : Hp} {v : List V} {g : List G} (h : TfL p H v g) (s : Same H H') : TfL p H' v g := h.keep (KeepF.same s)
theorem TfL.len {p : Addr} {H : Hp} {vs : List V} {gs : List G} (h : TfL p H vs gs) : vs.length = gs.length := h.tg.len
theorem TfL.get {p : Addr} {H : Hp} : ∀ {vs : List V} {gs : List G}, TfL p H vs gs → ∀ {i : Nat} {v : V}, vs[i]? = some v → ∃ g, gs[i]? = some g ∧ Tf p H v g
  | _, _, .nil, i, v, e => by simp at e
  | _, _, .cons h t, 0, v, e => by
    obtain rfl := (by simpa using e : _ = v)
    exact ⟨_, rfl, h⟩
  | _, _, .cons h t, i + 1, v, e => TfL.get t (i := i) (by simpa using e)
theorem TfL.at {p : Addr} {H : Hp} : ∀ {vs : List V} {gs : List G}, TfL p H vs gs → ∀ {i : Nat} {g : G}, gs[i]? = some g → ∃ v, vs[i]? = some v ∧ Tf p H v g
  | _, _, .nil, i, v, e => by simp at e
  | _, _, .cons h t, 0, g, e => by
    obtain rfl := (by simpa using e : _ = g)
    exact ⟨_, rfl, h⟩
  | _, _, .cons h t, i + 1, g, e => TfL.at t (i := i) (by simpa using e)
theorem TfL.ints {p : Addr} {H : Hp} : ∀ ns : List Int, TfL p H (ns.map V.int) (ns.map G.int)
  | [] => .nil
  | n :: ns => .cons (.int n) (TfL.ints ns)
theorem TfL.app {p : Addr} {H : Hp} : ∀ {vs ws : List V} {gs hs : List G}, TfL p H vs gs → TfL p H ws hs → TfL p H (vs ++ ws) (gs ++ hs)
  | _, _, _, _, .nil, h => h
  | _, _, _, _, .cons x t, h => .cons x (TfL.app t h)
theorem TfL.drop {p : Addr} {H : Hp} : ∀ (n : Nat) {vs : List V} {gs : List G}, TfL p H vs gs → TfL p H (vs.drop n) (gs.drop n)
  | 0, _, _, h => h
  | _ + 1, _, _, .nil => .nil
  | n + 1, _, _, .cons _ t => TfL.drop n t
theorem TfL.take {p : Addr} {H : Hp} : ∀ (n : Nat) {vs : List V} {gs : List G}, TfL p H vs gs → TfL p H (vs.take n) (gs.take n)
  | 0, _, _, _ => .nil
  | _ + 1, _, _, .nil => .nil
  | n + 1, _, _, .cons h t => .cons h (TfL.take n t)
theorem TfL.rev {p : Addr} {H : Hp} : ∀ {vs : List V} {gs : List G}, TfL p H vs gs → TfL p H vs.reverse gs.reverse
  | _, _, .nil => .nil
  | _, _, .cons h t => by
    rw [List.reverse_cons, List.reverse_cons]
    exact TfL.app (TfL.rev t) (.cons h .nil)
theorem flst_at {p : Addr} {H : Hp} {v : V} {gs : List G} (h : Tf p H v (.lst gs)) : ∃ a vs, v = .ref a ∧ a ≠ p ∧ H a = some (.lst vs) ∧ TfL p H vs gs := by
  cases h with
  | lst n e t => exact ⟨_, _, rfl, n, e, t⟩
/-- whatever else was made since H0, the reading gives the thing -/
def FOk (p : Addr) (H0 : Hp) (σ : L2.St) (te : TE) (g : G) : Prop := ∀ (H : Hp) (Q : VK), PoolAt H p → Same H0 H → (∀ v H', PoolAt H' p → Same H H' → Tf p H' v g → Q v H') → te σ H Q
def FsOk (p : Addr) (H0 : Hp) (σ : L2.St) (ta : TA) (gs : List G) : Prop := ∀ (H : Hp) (Q : List V → Hp → Prop), PoolAt H p → Same H0 H → (∀ vs H', PoolAt H' p → Same H H' → TfL p H' vs gs → Q vs H') → ta σ H Q
section
variable {p : Addr} {H0 : Hp} {σ : L2.St} {K : PySem.W.Frag}
theorem FsOk.nil : FsOk p H0 σ tNil [] := fun H Q hp s q => q [] H hp (Same.refl H) .nil
theorem FsOk.cons {te : TE} {ta : TA} {g : G} {gs : List G} (h : FOk p H0 σ te g) (t : FsOk p H0 σ ta gs) : FsOk p H0 σ (tCons te ta) (g :: gs) :=
  fun H Q hp s q => h H _ hp s fun v H1 hp1 s1 tg => t H1 _ hp1 (s.trans s1) fun vs H2 hp2 s2 tgs => q (v :: vs) H2 hp2 (s1.trans s2) (.cons (tg.same s2) tgs)
theorem FOk.const {v : V} {g : G} (h : ∀ H, Tf p H v g) : FOk p H0 σ (tC v) g := fun H Q hp s q => q v H hp (Same.refl H) (h H)
theorem FOk.int (i : Int) : FOk p H0 σ (tC (.int i)) (.int i) := FOk.const fun _ => .int i
theorem FOk.bl (b : Bool) : FOk p H0 σ (tC (.bl b)) (.bl b) := FOk.const fun _ => .bl b
theorem FOk.str (x : Str) : FOk p H0 σ (tC (.str x)) (.str x) := FOk.const fun _ => .str x
theorem FOk.non : FOk p H0 σ (tC .non) .non := FOk.const fun _ => .non
theorem FOk.neg (i : Int) : FOk p H0 σ (tUn (rU fun i => .int (-i)) (tC (.int i))) (.int (-i)) := fun H Q hp s q => ⟨i, rfl, q _ H hp (Same.refl H) (.int _)⟩
theorem FOk.tup {ta : TA} {gs : List G} (h : FsOk p H0 σ ta gs) (l : gs.length ≤ 1000) : FOk p H0 σ (tTupF ta) (.tup gs) :=
  fun H Q hp s q => h H _ hp s fun vs H1 hp1 s1 t => ⟨by rw [t.len]; exact Nat.le_trans l (by decide), fun v H2 s2 nv pv => q _ H2 (hp1.same s2) (s1.trans s2) (.tup pv (t.same s2))⟩
theorem FOk.lst {ta : TA} {gs : List G} (h : FsOk p H0 σ ta gs) (l : gs.length ≤ 1000) : FOk p H0 σ (tLst ta) (.lst gs) :=
  fun H Q hp s q => h H _ hp s fun vs H1 hp1 s1 t => ⟨by rw [t.len]; exact Nat.le_trans l (by decide), fun a na => q _ _ (hp1.same (same_upd na)) (s1.trans (same_upd na)) (.lst (pool_ne hp1 na) upd_same (t.same (same_upd na)))⟩
theorem FOk.dct : FOk p H0 σ tDNewK .dct := fun H Q hp s q a na => q _ _ (hp.same (same_upd na)) (same_upd na) (.dct upd_same)
theorem FOk.rev {te : TE} {gs : List G} (h : FOk p H0 σ te (.lst gs)) : FOk p H0 σ (tRevL K te) (.lst gs.reverse) :=
  fun H Q hp s q => h H _ hp s fun v H1 hp1 s1 t1 => by
    obtain ⟨a, vs, rfl, na, ea, ta⟩ := flst_at t1
    exact ⟨a, vs, rfl, SqL.of ea, fun c nc => q _ _ (hp1.same (same_upd nc)) (s1.trans (same_upd nc)) (.lst (pool_ne hp1 nc) upd_same (ta.rev.same (same_upd nc)))⟩
theorem FOk.len {te : TE} {gs : List G} (h : FOk p H0 σ te (.lst gs)) : FOk p H0 σ (tCB (rLenK K) (tCons te tNil)) (.int (gs.length : Nat)) :=
  fun H Q hp s q => h H _ hp s fun v H1 hp1 s1 t1 => by
    obtain ⟨a, vs, rfl, na, ea, ta⟩ := flst_at t1
    refine ⟨a, vs, rfl, .inl (SqL.of ea), ?_⟩
    rw [ta.len]
    exact q _ H1 hp1 s1 (.int _)
end
end Su
/-! ### TW: such things whose lists are apart from two places -/
namespace Su
open PySem PySem.Spec PyProof.Rows L2
def PoolW (H : Hp) (p : Addr × Addr) : Prop := PoolAt H p.1 ∧ ∃ o, H p.2 = some o
theorem PoolW.same {H H' : Hp} {p : Addr × Addr} (h : PoolW H p) (s : Same H H') : PoolW H' p := ⟨h.1.same s, let ⟨o, e⟩ := h.2; ⟨o, s _ _ e⟩⟩
theorem poolw_ne {H : Hp} {p : Addr × Addr} {a : Addr} (h : PoolW H p) (n : H a = none) : a ≠ p.1 ∧ a ≠ p.2 := ⟨pool_ne h.1 n, fun z => by
  obtain ⟨o, e⟩ := h.2
  rw [z, e] at n
  cases n⟩
theorem PoolW.upd {H : Hp} {p : Addr × Addr} {o : HO} (h : PoolW H p) (po : PoolO o) : PoolW (upd H p.1 o) p := ⟨⟨o, upd_same, po⟩, by
  by_cases z : p.2 = p.1
  · rw [z]
    exact ⟨o, upd_same⟩
  · rw [upd_ne z]
    exact h.2⟩
mutual
inductive Tw (p : Addr × Addr) (H : Hp) : V → G → Prop
  | non : Tw p H .non .non
  | bl (b : Bool) : Tw p H (.bl b) (.bl b)
  | int (i : Int) : Tw p H (.int i) (.int i)
  | str (s : Str) : Tw p H (.str s) (.str s)
  | lst {a : Addr} {vs : List V} {ds : List G} (n : a ≠ p.1 ∧ a ≠ p.2) (e : H a = some (.lst vs)) (t : TwL p H vs ds) : Tw p H (.ref a) (.lst ds)
  | tup {a : Addr} {vs : List V} {ds : List G} (e : PTup H a vs) (t : TwL p H vs ds) : Tw p H (.ref a) (.tup ds)
  | dct {a : Addr} (e : H a = some (.dK [])) : Tw p H (.ref a) .dct
inductive TwL (p : Addr × Addr) (H : Hp) : List V → List G → Prop
  | nil : TwL p H [] []
  | cons {v : V} {vs : List V} {d : G} {ds : List G} (h : Tw p H v d) (t : TwL p H vs ds) : TwL p H (v :: vs) (d :: ds)
end
structure KeepW (p : Addr × Addr) (H H' : Hp) : Prop where
  ls : ∀ a vs, (a ≠ p.1 ∧ a ≠ p.2) → H a = some (.lst vs) → H' a = some (.lst vs)
  pt : ∀ a vs, PTup H a vs → PTup H' a vs
  dk : ∀ a kvs, H a = some (.dK kvs) → H' a = some (.dK kvs)
theorem KeepW.same {p : Addr × Addr} {H H' : Hp} (s : Same H H') : KeepW p H H' := ⟨fun a vs n z => s _ _ z, fun a vs h => h.same s, fun a kvs z => s _ _ z⟩
theorem KeepW.of {p : Addr × Addr} {H H' : Hp} (k : Kept p.1 H H') (hp : PoolW H p) : KeepW p H H' := by
  refine ⟨fun a vs n z => k _ _ z n.1, fun a vs h => h.kept k hp.1, fun a kvs z => ?_⟩
  obtain ⟨o, e, g, m, rfl, _⟩ := hp.1
  exact k _ _ z (ne_of z e (by intro y; cases y))
mutual
theorem Tw.tg {p : Addr × Addr} {H : Hp} : ∀ {v : V} {g : G}, Tw p H v g → Tg p.1 H v g
  | _, _, .non => .non
  | _, _, .bl b => .bl b
  | _, _, .int i => .int i
  | _, _, .str s => .str s
  | _, _, .lst n e t => .lst n.1 e (TwL.tg t)
  | _, _, .tup e t => .tup (.inl e) (TwL.tg t)
  | _, _, .dct e => .dct e
theorem TwL.tg {p : Addr × Addr} {H : Hp} : ∀ {vs : List V} {gs : List G}, TwL p H vs gs → TgL p.1 H vs gs
  | _, _, .nil => .nil
  | _, _, .cons h t => .cons (Tw.tg h) (TwL.tg t)
end
mutual
theorem Tw.keep {p : Addr × Addr} {H H' : Hp} (k : KeepW p H H') : ∀ {v : V} {g : G}, Tw p H v g → Tw p H' v g
  | _, _, .non => .non
  | _, _, .bl b => .bl b
  | _, _, .int i => .int i
  | _, _, .str s => .str s
  | _, _, .lst n e t => .lst n (k.ls _ _ n e) (TwL.keep k t)
  | _, _, .tup e t => .tup (k.pt _ _ e) (TwL.keep k t)
  | _, _, .dct e => .dct (k.dk _ _ e)
theorem TwL.keep {p : Addr × Addr} {H H' : Hp} (k : KeepW p H H') : ∀ {vs : List V} {gs : List G}, TwL p H vs gs → TwL p H' vs gs
  | _, _, .nil => .nil
  | _, _, .cons h t => .cons (Tw.keep k h) (TwL.keep k t)
end
theorem Tw.same {p : Addr × Addr} {H H' : Hp} {v : V} {g : G} (h : Tw p H v g) (s : Same H H') : Tw p H' v g := h.keep (KeepW.same s)
theorem TwL.same {p : Addr × Addr} {H H' : Hp} {v : List V} {g : List G} (h : TwL p H v g) (s : Same H H') : TwL p H' v g := h.keep (KeepW.same s)
theorem TwL.len {p : Addr × Addr} {H : Hp} {vs : List V} {gs : List G} (h : TwL p H vs gs) : vs.length = gs.length := h.tg.len
theorem TwL.get {p : Addr × Addr} {H : Hp} : ∀ {vs : List V} {gs : List G}, TwL p H vs gs → ∀ {i : Nat} {v : V}, vs[i]? = some v → ∃ g, gs[i]? = some g ∧ Tw p H v g
  | _, _, .nil, i, v, e => by simp at e
  | _, _, .cons h t, 0, v, e => by
    obtain rfl := (by simpa using e : _ = v)
    exact ⟨_, rfl, h⟩
  | _, _, .cons h t, i + 1, v, e => TwL.get t (i := i) (by simpa using e)
theorem TwL.at {p : Addr × Addr} {H : Hp} : ∀ {vs : List V} {gs : List G}, TwL p H vs gs → ∀ {i : Nat} {g : G}, gs[i]? = some g → ∃ v, vs[i]? = some v ∧ Tw p H v g
  | _, _, .nil, i, v, e => by simp at e
  | _, _, .cons h t, 0, g, e => by
    obtain rfl := (by simpa using e : _ = g)
    exact ⟨_, rfl, h⟩
  | _, _, .cons h t, i + 1, g, e => TwL.at t (i := i) (by simpa using e)
theorem TwL.ints {p : Addr × Addr} {H : Hp} : ∀ ns : List Int, TwL p H (ns.map V.int) (ns.map G.int)
  | [] => .nil
  | n :: ns => .cons (.int n) (TwL.ints ns)
theorem TwL.app {p : Addr × Addr} {H : Hp} : ∀ {vs ws : List V} {gs hs : List G}, TwL p H vs gs → TwL p H ws hs → TwL p H (vs ++ ws) (gs ++ hs)
  | _, _, _, _, .nil, h => h
  | _, _, _, _, .cons x t, h => .cons x (TwL.app t h)
theorem TwL.drop {p : Addr × Addr} {H : Hp} : ∀ (n : Nat) {vs : List V} {gs : List G}, TwL p H vs gs → TwL p H (vs.drop n) (gs.drop n)
  | 0, _, _, h => h
  | _ + 1, _, _, .nil => .nil
  | n + 1, _, _, .cons _ t => TwL.drop n t
theorem TwL.take {p : Addr × Addr} {H : Hp} : ∀ (n : Nat) {vs : List V} {gs : List G}, TwL p H vs gs → TwL p H (vs.take n) (gs.take n)
  | 0, _, _, _ => .nil
  | _ + 1, _, _, .nil => .nil
  | n + 1, _, _, .cons h t => .cons h (TwL.take n t)
theorem TwL.rev {p : Addr × Addr} {H : Hp} : ∀ {vs : List V} {gs : List G}, TwL p H vs gs → TwL p H vs.reverse gs.reverse
  | _, _, .nil => .nil
  | _, _, .cons h t => by
    rw [List.reverse_cons, List.reverse_cons]
    exact TwL.app (TwL.rev t) (.cons h .nil)
theorem wlst_at {p : Addr × Addr} {H : Hp} {v : V} {gs : List G} (h : Tw p H v (.lst gs)) : ∃ a vs, v = .ref a ∧ (a ≠ p.1 ∧ a ≠ p.2) ∧ H a = some (.lst vs) ∧ TwL p H vs gs := by
  cases h with
  | lst n e t => exact ⟨_, _, rfl, n, e, t⟩
/-- whatever else was made since H0, the reading gives the thing -/
def WOk (p : Addr × Addr) (H0 : Hp) (σ : L2.St) (te : TE) (g : G) : Prop := ∀ (H : Hp) (Q : VK), PoolW H p → Same H0 H → (∀ v H', PoolW H' p → Same H H' → Tw p H' v g → Q v H') → te σ H Q
def WsOk (p : Addr × Addr) (H0 : Hp) (σ : L2.St) (ta : TA) (gs : List G) : Prop := ∀ (H : Hp) (Q : List V → Hp → Prop), PoolW H p → Same H0 H → (∀ vs H', PoolW H' p → Same H H' → TwL p H' vs gs → Q vs H') → ta σ H Q
section
variable {p : Addr × Addr} {H0 : Hp} {σ : L2.St} {K : PySem.W.Frag}
theorem WsOk.nil : WsOk p H0 σ tNil [] := fun H Q hp s q => q [] H hp (Same.refl H) .nil
theorem WsOk.cons {te : TE} {ta : TA} {g : G} {gs : List G} (h : WOk p H0 σ te g) (t : WsOk p H0 σ ta gs) : WsOk p H0 σ (tCons te ta) (g :: gs) :=
  fun H Q hp s q => h H _ hp s fun v H1 hp1 s1 tg => t H1 _ hp1 (s.trans s1) fun vs H2 hp2 s2 tgs => q (v :: vs) H2 hp2 (s1.trans s2) (.cons (tg.same s2) tgs)
theorem WOk.const {v : V} {g : G} (h : ∀ H, Tw p H v g) : WOk p H0 σ (tC v) g := fun H Q hp s q => q v H hp (Same.refl H) (h H)
theorem WOk.int (i : Int) : WOk p H0 σ (tC (.int i)) (.int i) := WOk.const fun _ => .int i
theorem WOk.bl (b : Bool) : WOk p H0 σ (tC (.bl b)) (.bl b) := WOk.const fun _ => .bl b
theorem WOk.str (x : Str) : WOk p H0 σ (tC (.str x)) (.str x) := WOk.const fun _ => .str x
theorem WOk.non : WOk p H0 σ (tC .non) .non := WOk.const fun _ => .non
theorem WOk.neg (i : Int) : WOk p H0 σ (tUn (rU fun i => .int (-i)) (tC (.int i))) (.int (-i)) := fun H Q hp s q => ⟨i, rfl, q _ H hp (Same.refl H) (.int _)⟩
theorem WOk.tup {ta : TA} {gs : List G} (h : WsOk p H0 σ ta gs) (l : gs.length ≤ 1000) : WOk p H0 σ (tTupF ta) (.tup gs) :=
  fun H Q hp s q => h H _ hp s fun vs H1 hp1 s1 t => ⟨by rw [t.len]; exact Nat.le_trans l (by decide), fun v H2 s2 nv pv => q _ H2 (hp1.same s2) (s1.trans s2) (.tup pv (t.same s2))⟩
theorem WOk.lst {ta : TA} {gs : List G} (h : WsOk p H0 σ ta gs) (l : gs.length ≤ 1000) : WOk p H0 σ (tLst ta) (.lst gs) :=
  fun H Q hp s q => h H _ hp s fun vs H1 hp1 s1 t => ⟨by rw [t.len]; exact Nat.le_trans l (by decide), fun a na => q _ _ (hp1.same (same_upd na)) (s1.trans (same_upd na)) (.lst (poolw_ne hp1 na) upd_same (t.same (same_upd na)))⟩
theorem WOk.dct : WOk p H0 σ tDNewK .dct := fun H Q hp s q a na => q _ _ (hp.same (same_upd na)) (same_upd na) (.dct upd_same)
theorem WOk.rev {te : TE} {gs : List G} (h : WOk p H0 σ te (.lst gs)) : WOk p H0 σ (tRevL K te) (.lst gs.reverse) :=
  fun H Q hp s q => h H _ hp s fun v H1 hp1 s1 t1 => by
    obtain ⟨a, vs, rfl, na, ea, ta⟩ := wlst_at t1
    exact ⟨a, vs, rfl, SqL.of ea, fun c nc => q _ _ (hp1.same (same_upd nc)) (s1.trans (same_upd nc)) (.lst (poolw_ne hp1 nc) upd_same (ta.rev.same (same_upd nc)))⟩
theorem WOk.len {te : TE} {gs : List G} (h : WOk p H0 σ te (.lst gs)) : WOk p H0 σ (tCB (rLenK K) (tCons te tNil)) (.int (gs.length : Nat)) :=
  fun H Q hp s q => h H _ hp s fun v H1 hp1 s1 t1 => by
    obtain ⟨a, vs, rfl, na, ea, ta⟩ := wlst_at t1
    refine ⟨a, vs, rfl, .inl (SqL.of ea), ?_⟩
    rw [ta.len]
    exact q _ H1 hp1 s1 (.int _)
end
mutual
theorem Tw.tf {p : Addr × Addr} {H : Hp} : ∀ {v : V} {g : G}, Tw p H v g → Tf p.1 H v g
  | _, _, .non => .non
  | _, _, .bl b => .bl b
  | _, _, .int i => .int i
  | _, _, .str s => .str s
  | _, _, .lst n e t => .lst n.1 e (TwL.tf t)
  | _, _, .tup e t => .tup e (TwL.tf t)
  | _, _, .dct e => .dct e
theorem TwL.tf {p : Addr × Addr} {H : Hp} : ∀ {vs : List V} {gs : List G}, TwL p H vs gs → TfL p.1 H vs gs
  | _, _, .nil => .nil
  | _, _, .cons h t => .cons (Tw.tf h) (TwL.tf t)
end
mutual
theorem Tf.tw {p q : Addr} {H : Hp} (nq : H q = none) : ∀ {v : V} {g : G}, Tf p H v g → Tw (p, q) H v g
  | _, _, .non => .non
  | _, _, .bl b => .bl b
  | _, _, .int i => .int i
  | _, _, .str s => .str s
  | _, _, .lst n e t => .lst ⟨n, fun z => by rw [z, nq] at e; cases e⟩ e (TfL.tw nq t)
  | _, _, .tup e t => .tup e (TfL.tw nq t)
  | _, _, .dct e => .dct e
theorem TfL.tw {p q : Addr} {H : Hp} (nq : H q = none) : ∀ {vs : List V} {gs : List G}, TfL p H vs gs → TwL (p, q) H vs gs
  | _, _, .nil => .nil
  | _, _, .cons h t => .cons (Tf.tw nq h) (TfL.tw nq t)
end
theorem KeepW.put {p q : Addr} {H : Hp} {us ws : List V} (e : H q = some (.lst us)) : KeepW (p, q) H (upd H q (.lst ws)) := by
  refine ⟨fun a vs n z => ?_, fun a vs h => ?_, fun a kvs z => ?_⟩
  · rw [upd_ne n.2]
    exact z
  · obtain ⟨o, eo, d⟩ := h
    refine ⟨o, ?_, d⟩
    rw [upd_ne fun y => by rw [y, e] at eo; cases eo]
    exact eo
  · rw [upd_ne fun y => by rw [y, e] at z; cases z]
    exact z
end Su
/-! ### LE: len(set(l)), l a list of ints, some twice -/
namespace Su
open PySem PySem.Spec PyProof.Rows L2
section
variable {X : Cx}
/-- len(set(l)), l a list of ints -/
def dd (ns : List Int) : List Int := PyProof.Rows.firstMet (fun i => ns.getD i 0) ns.length
end
end Su
/-! ### ST: the table of a set, of any size -/
namespace Su
open PySem L2
/-- a mask: all ones -/
def PM (m : Nat) : Prop := ∃ j, 3 ≤ j ∧ m + 1 = 2 ^ j
/-- 1 + 5 + .. + 5 ^ (d - 1) -/
def gs : Nat → Nat
  | 0 => 0
  | d + 1 => 5 * gs d + 1
theorem way_in {m : Nat} {h : Int} {k : Nat} : way m h k ≤ m := by
  have hi : SetTable.bits h % (m + 1) ≤ m := Nat.lt_succ_iff.mp (Nat.mod_lt _ (Nat.succ_pos m))
  have r := runEnd_bd hi
  have q : (nth m (runAt m (SetTable.bits h % (m + 1)) (SetTable.bits h)) k).j + (nth m (runAt m (SetTable.bits h % (m + 1)) (SetTable.bits h)) k).more ≤ m := nth_in k _ (by
    show _ % (m + 1) + (_ - _ % (m + 1)) ≤ m
    omega)
  show (nth m (runAt m (SetTable.bits h % (m + 1)) (SetTable.bits h)) k).j ≤ m
  omega
/-- a table without gaps on the ways of its hashes -/
structure TabN (t : SetTable) (hs : List Int) : Prop where
  rs : L2.Ris t.place.toList
  dn : t.dummies = #[]
  ln : t.place.size = hs.length
  pm : PM t.mask
  le : ∀ x ∈ t.place.toList, x ≤ t.mask
  on : ∀ (i : Nat) (h : Int) (j : Nat), hs[i]? = some h → t.place.toList[i]? = some j → ∃ k, way t.mask h k = j ∧ ∀ k', k' < k → way t.mask h k' ∈ t.place.toList
theorem TabN.ahead {t : SetTable} {hs : List Int} (T : TabN t hs) {h : Int} {K i j : Nat} (hK : way t.mask h K ∉ t.place.toList) (hi : hs[i]? = some h) (hj : t.place.toList[i]? = some j) : ∃ k, k < K ∧ way t.mask h k = j := by
  obtain ⟨k, e, hb⟩ := T.on i h j hi hj
  refine ⟨k, Nat.lt_of_not_le fun z => ?_, e⟩
  rcases Nat.lt_or_eq_of_le z with z | z
  · exact hK (hb K z)
  · rw [z, e] at hK
    exact hK (List.mem_of_getElem? hj)
theorem TabN.put {t : SetTable} {hs : List Int} (T : TabN t hs) {h : Int} {K j p : Nat} (ej : way t.mask h K = j) (ep : SetTable.below t.place j = p) (hK : j ∉ t.place.toList) (hb : ∀ k, k < K → way t.mask h k ∈ t.place.toList) :
    (t.put j).2 = p ∧ p ≤ hs.length ∧ TabN (t.put j).1 (hs.take p ++ h :: hs.drop p) ∧ (t.put j).1.mask = t.mask ∧ (t.put j).1.led = t.led ∧ (t.put j).1.fill = hs.length + 1 := by
  have c1 := (below_cut T.rs j).1
  rw [ep] at c1
  have l0 : t.place.toList.length = hs.length := by rw [Array.length_toList]; exact T.ln
  have p1 : p ≤ t.place.toList.length := by rw [Array.length_toList]; exact c1
  have p2 : p ≤ hs.length := by omega
  have pl : (t.put j).1.place.toList = t.place.toList.take p ++ j :: t.place.toList.drop p := by rw [← ep]; exact put_place t j
  have dm : (t.put j).1.dummies = #[] := put_dm T.dn j
  have sz : (t.put j).1.place.size = hs.length + 1 := by rw [← Array.length_toList, pl, len_ins _ p1, l0]
  have np : t.place[SetTable.below t.place j]? ≠ some j := fun e => hK (List.mem_of_getElem? (by rw [Array.getElem?_toList]; exact e))
  have more : ∀ {x : Nat}, x ∈ t.place.toList → x ∈ (t.put j).1.place.toList := fun hx => by
    rw [pl]
    exact mem_ins.2 (.inr hx)
  refine ⟨ep, p2, ⟨ris_insert T.rs np, dm, by rw [len_ins _ p2]; exact sz, T.pm, fun x hx => ?_, fun i h' j' h1 h2 => ?_⟩, rfl, rfl, ?_⟩
  · rw [pl] at hx
    rcases mem_ins.1 hx with rfl | z
    · rw [← ej]
      exact way_in
    · exact T.le x z
  · rw [tins_get hs p2] at h1
    rw [pl, tins_get _ p1] at h2
    have old : ∀ i0, hs[i0]? = some h' → t.place.toList[i0]? = some j' → ∃ k, way t.mask h' k = j' ∧ ∀ k', k' < k → way t.mask h' k' ∈ (t.put j).1.place.toList := fun i0 a1 a2 => by
      obtain ⟨k, e, z⟩ := T.on i0 h' j' a1 a2
      exact ⟨k, e, fun k' hk' => more (z k' hk')⟩
    split at h1
    · rename_i c
      rw [if_pos c] at h2
      exact old i h1 h2
    · rename_i c
      rw [if_neg c] at h2
      split at h1
      · rename_i d
        rw [if_pos d] at h2
        cases h1
        cases h2
        exact ⟨K, ej, fun k' hk' => more (hb k' hk')⟩
      · rename_i d
        rw [if_neg d] at h2
        exact old (i - 1) h1 h2
  · show (t.put j).1.place.size + (t.put j).1.dummies.size = _
    rw [sz, dm]
    rfl
/-! laid anew -/
end Su
/-! ### SV: how soon a search among at most 20000 finds a free slot -/
namespace Su
open PySem L2
def f5 (p : Nat) : Nat := 5 ^ p % 32768
theorem pm15 : PM 32767 := ⟨15, by decide, by decide⟩
end Su
/-! ### ND: dicts whose keys are tuples of any depth -/
namespace Su
open PySem PySem.Spec PyProof.Rows L2
mutual
/-- the value is such a key -/
inductive KeyV (H : Hp) : NestedKey → V → Prop
  | non : KeyV H .none .non
  | bl (b : Bool) : KeyV H (.num (if b = true then 1 else 0)) (.bl b)
  | int (i : Int) : KeyV H (.num i) (.int i)
  | str (x : Str) : KeyV H (.text x) (.str x)
  | tup {a : Addr} {xs : List V} {ks : List NestedKey} (e : T2 H a xs) (t : KeyVs H ks xs) : KeyV H (.tup ks) (.ref a)
inductive KeyVs (H : Hp) : List NestedKey → List V → Prop
  | nil : KeyVs H [] []
  | cons {k : NestedKey} {v : V} {ks : List NestedKey} {vs : List V} (h : KeyV H k v) (t : KeyVs H ks vs) : KeyVs H (k :: ks) (v :: vs)
end
mutual
theorem KeyV.keep {H H' : Hp} (k2 : K2 H H') : ∀ {k : NestedKey} {v : V}, KeyV H k v → KeyV H' k v
  | _, _, .non => .non
  | _, _, .bl b => .bl b
  | _, _, .int i => .int i
  | _, _, .str x => .str x
  | _, _, .tup e t => .tup (k2 _ _ e) (KeyVs.keep k2 t)
theorem KeyVs.keep {H H' : Hp} (k2 : K2 H H') : ∀ {ks : List NestedKey} {vs : List V}, KeyVs H ks vs → KeyVs H' ks vs
  | _, _, .nil => .nil
  | _, _, .cons h t => .cons (KeyV.keep k2 h) (KeyVs.keep k2 t)
end
theorem KeyVs.ints {H : Hp} : ∀ ns : List Int, KeyVs H (ns.map NestedKey.num) (ns.map V.int)
  | [] => .nil
  | n :: ns => .cons (.int n) (KeyVs.ints ns)
/-- what a tuple is in the heap -/
theorem t2_obj {P : Program} {w : World} {H : Hp} {h : Heap} {a : Addr} {xs : List V} (ok : HOk P w H h) (e : T2 H a xs) : ∃ (o : Obj) (its : List Value) (n : Nat), Vals xs its ∧ h.get? a = some o ∧ o.cls = .type "tuple" ∧ o.data = .seq its.toArray n := by
  rcases e with ⟨ob, e, _⟩ | e
  · obtain ⟨_, z⟩ := (show ObjOk P w H h a (.frz ob (.tup xs)) from ok a _ e)
    obtain ⟨_, its, r, o, h1, h2, n, h3⟩ := (show ObjOk P w H h a (.tup xs) from z)
    exact ⟨o, its, n, r, h1, h2, h3⟩
  · obtain ⟨_, its, r, o, h1, h2, n, h3⟩ := (show ObjOk P w H h a (.tup xs) from ok a _ e)
    exact ⟨o, its, n, r, h1, h2, h3⟩
mutual
theorem KeyV.is {P : Program} {w : World} {H : Hp} {h : Heap} (ok : HOk P w H h) : ∀ {k : NestedKey} {v : V} {u : Value}, KeyV H k v → RelV v u → NestedIs h k u
  | _, _, _, .non, r => by cases r; exact .none
  | _, _, _, .bl b, r => by cases r; exact .bool rfl
  | _, _, _, .int i, r => by obtain ⟨t, rfl⟩ := r; exact .int i t
  | _, _, _, .str x, r => by obtain ⟨t, rfl⟩ := r; exact .text x t
  | _, _, u, .tup (a := a) e t, r => by
    obtain rfl : u = Value.ref a := r
    obtain ⟨o, its, n, rr, h1, h2, h3⟩ := t2_obj ok e
    exact .tup h1 h2 h3 (by simpa using KeyVs.is ok t rr)
theorem KeyVs.is {P : Program} {w : World} {H : Hp} {h : Heap} (ok : HOk P w H h) : ∀ {ks : List NestedKey} {vs : List V} {us : List Value}, KeyVs H ks vs → Vals vs us → NestedAll h ks us
  | _, _, _, .nil, r => by cases r; exact .nil
  | _, _, _, .cons hk t, r => by
    cases r with
    | cons r1 r2 => exact .cons (KeyV.is ok hk r1) (KeyVs.is ok t r2)
end
/-- an entry: the key, the tuple that it is, the value -/
abbrev NEnt := NestedKey × Addr × V
abbrev NRel : List NEnt → List (NestedKey × Addr × Value) → Prop := Paired fun p q => p.1 = q.1 ∧ p.2.1 = q.2.1 ∧ RelV p.2.2 q.2.2
def ndO (w : World) (a : Addr) (kvs : List NEnt) : HO := .ext fun h => ∃ (xs : List (NestedKey × Addr × Value)) (o : Obj) (es : Array DictEntry) (ep : Nat), NRel kvs xs ∧ h.get? a = some o ∧ o.ExactDict ∧ o.data = .dict es ep ∧ es.toList = xs.map (fun x => (⟨x.1.hash w, .ref x.2.1, x.2.2⟩ : DictEntry))
/-- a dict with such keys, none twice -/
structure ND (w : World) (H : Hp) (a : Addr) (kvs : List NEnt) : Prop where
  at_ : H a = some (ndO w a kvs) ∨ (kvs = [] ∧ H a = some (.dK []))
  low : (a == sysModules) = false
  few : kvs.length ≤ sizeLine
  keys : ∀ e ∈ kvs, KeyV H e.1 (.ref e.2.1) ∧ e.1.depth ≤ 8
  one : (kvs.map (·.1)).Nodup
/-- the value at a key -/
def nGet (kvs : List NEnt) (k : NestedKey) : Option V := (kvs.find? fun e => decide (e.1 = k)).map (·.2.2)
def nPut (kvs : List NEnt) (k : NestedKey) (b : Addr) (v : V) : List NEnt := if (nGet kvs k).isSome = true then kvs.map (fun e => if e.1 = k then (e.1, e.2.1, v) else e) else kvs ++ [(k, b, v)]
theorem NRel.get {kvs : List NEnt} {xs : List (NestedKey × Addr × Value)} (r : NRel kvs xs) (k : NestedKey) : RelO (nGet kvs k) ((atKey xs k).map (·.2)) := by
  induction r with
  | nil => exact True.intro
  | @cons p q ps qs h t ih =>
    obtain ⟨h1, _, h3⟩ := h
    by_cases e : p.1 = k
    · have e' : q.1 = k := h1.symm.trans e
      have a1 : nGet (p :: ps) k = some p.2.2 := by simp [nGet, List.find?_cons, e]
      have a2 : atKey (q :: qs) k = some q.2 := by simp [atKey, List.find?_cons, e']
      rw [a1, a2]
      exact h3
    · have e' : ¬ q.1 = k := fun z => e (h1.trans z)
      have a1 : nGet (p :: ps) k = nGet ps k := by simp [nGet, List.find?_cons, e]
      have a2 : atKey (q :: qs) k = atKey qs k := by simp [atKey, List.find?_cons, e']
      rw [a1, a2]
      exact ih
theorem NRel.repl {kvs : List NEnt} {xs : List (NestedKey × Addr × Value)} (r : NRel kvs xs) (k : NestedKey) {v : V} {u : Value} (rv : RelV v u) : NRel (kvs.map fun e => if e.1 = k then (e.1, e.2.1, v) else e) (xs.map (putAt k u)) := by
  induction r with
  | nil => exact .nil
  | @cons p q ps qs h t ih =>
    rw [List.map_cons, List.map_cons]
    refine .cons ?_ ih
    obtain ⟨h1, h2, h3⟩ := h
    unfold putAt
    by_cases e : p.1 = k
    · rw [if_pos e, if_pos (h1.symm.trans e)]
      exact ⟨h1, h2, rv⟩
    · rw [if_neg e, if_neg (fun z => e (h1.trans z))]
      exact ⟨h1, h2, h3⟩
theorem NRel.put {kvs : List NEnt} {xs : List (NestedKey × Addr × Value)} (r : NRel kvs xs) (k : NestedKey) (b : Addr) {v : V} {u : Value} (rv : RelV v u) : NRel (nPut kvs k b v) (storedH xs k b u) := by
  have e : (nGet kvs k).isSome = (atKey xs k).isSome := by
    rw [(r.get k).isSome_eq, Option.isSome_map]
  unfold nPut storedH
  rw [e]
  by_cases q : (atKey xs k).isSome = true
  · rw [if_pos q, if_pos q]
    exact r.repl k rv
  · rw [if_neg q, if_neg q]
    exact Paired.snoc r ⟨rfl, rfl, rv⟩
theorem nPut_len (kvs : List NEnt) (k : NestedKey) (b : Addr) (v : V) : (nPut kvs k b v).length ≤ kvs.length + 1 := by
  unfold nPut
  split
  · rw [List.length_map]
    omega
  · rw [List.length_append]
    exact Nat.le_refl _
theorem nGet_none {kvs : List NEnt} {k : NestedKey} (h : nGet kvs k = none) : k ∉ kvs.map (·.1) := by
  intro hm
  obtain ⟨e, he, rfl⟩ := List.mem_map.mp hm
  unfold nGet at h
  rw [Option.map_eq_none_iff, List.find?_eq_none] at h
  exact h e he (by simp)
theorem nPut_keys (kvs : List NEnt) (k : NestedKey) (b : Addr) (v : V) : (nPut kvs k b v).map (·.1) = if (nGet kvs k).isSome = true then kvs.map (·.1) else kvs.map (·.1) ++ [k] := by
  unfold nPut
  split
  · rw [List.map_map]
    refine List.map_congr_left fun e _ => ?_
    show (if e.1 = k then (e.1, e.2.1, v) else e).1 = e.1
    split <;> rfl
  · rw [List.map_append]
    rfl
theorem nPut_mem {kvs : List NEnt} {k : NestedKey} {b : Addr} {v : V} {e : NEnt} (h : e ∈ nPut kvs k b v) : (∃ e' ∈ kvs, e.1 = e'.1 ∧ e.2.1 = e'.2.1) ∨ (e.1 = k ∧ e.2.1 = b) := by
  unfold nPut at h
  split at h
  · obtain ⟨e', he, rfl⟩ := List.mem_map.mp h
    refine .inl ⟨e', he, ?_⟩
    split <;> exact ⟨rfl, rfl⟩
  · rcases List.mem_append.mp h with h | h
    · exact .inl ⟨e, h, rfl, rfl⟩
    · rw [List.mem_singleton.mp h]
      exact .inr ⟨rfl, rfl⟩
/-! in the heap of the machine -/
section
variable {P : Program} {w : World} {H : Hp} {h : Heap} {a : Addr} {kvs : List NEnt}
theorem ND.of (ok : HOk P w H h) (d : ND w H a kvs) : ∃ xs, NRel kvs xs ∧ h.DictOfH (nestedKind P w) a xs := by
  have keys : ∀ {l : List NEnt} {m : List (NestedKey × Addr × Value)}, NRel l m → (∀ e ∈ l, KeyV H e.1 (.ref e.2.1) ∧ e.1.depth ≤ 8) → (∀ x ∈ m, (nestedKind P w).is h x.1 x.2.1) ∧ m.map (·.1) = l.map (·.1) := by
    intro l m q
    induction q with
    | nil => exact fun _ => ⟨(fun x hx => nomatch hx), rfl⟩
    | @cons p q ps qs hq t ih =>
      intro hk
      obtain ⟨i1, i2⟩ := ih fun e he => hk e (List.mem_cons_of_mem _ he)
      obtain ⟨h1, h2, h3⟩ := hq
      refine ⟨fun x hx => ?_, by rw [List.map_cons, List.map_cons, i2, h1]⟩
      rcases List.mem_cons.mp hx with e | hx
      · subst e
        have z := hk p List.mem_cons_self
        rw [h1, h2] at z
        exact ⟨z.1.is ok rfl, z.2⟩
      · exact i1 x hx
  rcases d.at_ with e | ⟨rfl, e⟩
  · obtain ⟨⟨xs, o, es, ep, r, h1, h2, h3, h4⟩, _⟩ := (show ObjOk P w H h a (ndO w a kvs) from ok a _ e)
    obtain ⟨k1, k2⟩ := keys r d.keys
    exact ⟨xs, r, o, es, ep, h1, h2, h3, h4, k1, by rw [k2]; exact d.one⟩
  · obtain ⟨_, _, vs, rel, o, es, ep, h1, h2, h3, h4⟩ := (show ObjOk P w H h a (.dK []) from ok a _ e)
    cases rel
    have z : es.toList = [] := by
      have := h4.2.1
      cases hh : es.toList with
      | nil => rfl
      | cons x l =>
        rw [hh] at this
        cases this
    exact ⟨[], .nil, o, es, ep, h1, h2, h3, z, (fun x hx => nomatch hx), List.nodup_nil⟩
end
theorem ND.k2 {w : World} {H : Hp} {a : Addr} {kvs : List NEnt} (d : ND w H a kvs) (u : HO) : K2 H (L2.upd H a u) := by
  rcases d.at_ with e | ⟨_, e⟩
  · exact K2.upd e (fun _ z => nomatch z) (fun _ _ z => nomatch z)
  · exact K2.upd e (fun _ z => nomatch z) (fun _ _ z => nomatch z)
theorem ND.put {w : World} {H : Hp} {a b : Addr} {kvs : List NEnt} {k : NestedKey} {v : V} (d : ND w H a kvs) (hk : KeyV H k (.ref b)) (hd : k.depth ≤ 8) (hl : kvs.length < sizeLine) : ND w (L2.upd H a (ndO w a (nPut kvs k b v))) a (nPut kvs k b v) := by
  have k2 := d.k2 (ndO w a (nPut kvs k b v))
  refine ⟨.inl upd_same, d.low, Nat.le_trans (nPut_len kvs k b v) hl, fun e he => ?_, ?_⟩
  · rcases nPut_mem he with ⟨e', he', e1, e2⟩ | ⟨e1, e2⟩
    · obtain ⟨z1, z2⟩ := d.keys e' he'
      rw [e1, e2]
      exact ⟨z1.keep k2, z2⟩
    · rw [e1, e2]
      exact ⟨hk.keep k2, hd⟩
  · rw [nPut_keys]
    split
    · exact d.one
    · rename_i hn
      have hn2 : nGet kvs k = none := by
        cases z : nGet kvs k with
        | none => rfl
        | some x =>
          rw [z] at hn
          exact absurd rfl hn
      rw [List.nodup_append]
      refine ⟨d.one, (List.nodup_cons.mpr ⟨List.not_mem_nil, List.nodup_nil⟩), fun x hx y hy => ?_⟩
      rw [List.mem_singleton.mp hy]
      exact fun z => nGet_none hn2 (z ▸ hx)
theorem ND.keep {w : World} {H H' : Hp} {a : Addr} {kvs : List NEnt} (d : ND w H a kvs) (k2 : K2 H H') (e : H' a = H a) : ND w H' a kvs :=
  ⟨by rw [e]; exact d.at_, d.low, d.few, fun x hx => ⟨(d.keys x hx).1.keep k2, (d.keys x hx).2⟩, d.one⟩
theorem ND.same {w : World} {H H' : Hp} {a : Addr} {kvs : List NEnt} (d : ND w H a kvs) (s : Same H H') : ND w H' a kvs := by
  refine d.keep (K2.same s) ?_
  rcases d.at_ with e | ⟨_, e⟩
  · rw [e, s _ _ e]
  · rw [e, s _ _ e]
theorem ND.new {w : World} {H : Hp} {a : Addr} (e : H a = some (.dK [])) (low : (a == sysModules) = false) : ND w H a [] := ⟨.inr ⟨rfl, e⟩, low, Nat.zero_le _, (fun e he => nomatch he), List.nodup_nil⟩
/-! the rules -/
section
variable {X : Cx} {pins : List (Addr × Obj)} {σ : L2.St} {H : Hp} {s : Shared} {a b : Addr} {kvs : List NEnt} {k : NestedKey} {A : Around} {E : Value → Shared → Prop}
end
end Su
/-! ### SN: sets of tuples of any depth, in the heap -/
namespace Su
open PySem PySem.Spec PyProof.Rows L2
/-- the tuple at b is this key -/
abbrev IsN (h : Heap) (k : NestedKey) (b : Addr) : Prop := NestedIs h k (.ref b) ∧ k.depth ≤ 8
section
variable {P : Program} {w : World}
def NoCls (P : Program) (w : World) (n : Nat) (s : Shared) (v : Value) : Prop := ∀ (A : Around) (E : Value → Shared → Prop) (Q : Bool → Shared → Prop), Q false s → wpAny (model P w) A (ofAClassStatement n v) Q E s
def ByVal (P : Program) (w : World) (n : Nat) (s : Shared) (v : Value) : Prop := ∀ (A : Around) (E : Value → Shared → Prop) (Q : Bool → Shared → Prop), (∀ b, Q b s) → wpAny (model P w) A (hashByValue n v) Q E s
theorem NoCls.plain {n : Nat} {s : Shared} {v : Value} (h : ofAClassStatement n v = pure false) : NoCls P w n s v := fun A E Q q => by
  rw [h]
  exact wpAny_pure q
theorem ByVal.plain {n : Nat} {s : Shared} {v : Value} {b : Bool} (h : hashByValue n v = pure b) : ByVal P w n s v := fun A E Q q => by
  rw [h]
  exact wpAny_pure (q b)
theorem NoCls.tup {n : Nat} {s : Shared} {a : Addr} {o : Obj} {vs : Array Value} {m : Nat} (ho : s.heap.get? a = some o) (hc : o.cls = .type "tuple") (hd : o.data = .seq vs m) (hq : ∀ v ∈ vs.toList, NoCls P w n s v) : NoCls P w (n + 1) s (.ref a) := fun A E Q h => by
  have tT : s.TypeIs (.ref a) "tuple" := ⟨o, ho, hc⟩
  unfold ofAClassStatement
  refine wpAny_bind (wpAny_typeOf tT ?_)
  dsimp only
  have te : (("tuple" : String) == "tuple") = true := by decide
  simp only [te, if_true, Bool.not_true, Bool.false_eq_true, if_false]
  try refine wpAny_bind (wpAny_pure ?_)
  try simp only [Bool.not_true, Bool.false_eq_true, if_false]
  show wpAny _ _ (seqItems? (.ref a) >>= _) _ _ s
  refine wpAny_bind (wpAny_seqItems ho hd ?_)
  dsimp only
  refine wpAny_bind ?_
  show wpAny _ _ (forIn vs _ _) _ _ s
  rw [← Array.forIn_toList]
  refine wpAny_forIn_list _ (fun rest r s' => r.1 = none ∧ s' = s ∧ ∀ v ∈ rest, NoCls P w n s v) _ ?_ ?_ _ _ ⟨rfl, rfl, hq⟩
  · rintro v rest r s' ⟨hr, rfl, hall⟩
    refine wpAny_bind (hall v List.mem_cons_self _ _ _ ?_)
    simp only [Bool.false_eq_true, if_false]
    exact wpAny_pure ⟨rfl, rfl, fun u z => hall u (List.mem_cons_of_mem _ z)⟩
  · rintro ⟨r1, r2⟩ s' ⟨hr, rfl, _⟩
    simp only at hr
    subst hr
    exact wpAny_pure h
theorem ByVal.tup {n : Nat} {s : Shared} {a : Addr} {o : Obj} {vs : Array Value} {m : Nat} (ho : s.heap.get? a = some o) (hc : o.cls = .type "tuple") (hd : o.data = .seq vs m) (hq : ∀ v ∈ vs.toList, ByVal P w n s v) : ByVal P w (n + 1) s (.ref a) := fun A E Q h => by
  have tT : s.TypeIs (.ref a) "tuple" := ⟨o, ho, hc⟩
  unfold hashByValue
  refine wpAny_bind (wpAny_specialOf tT F.slot_tuple_hash.lookup ?_)
  show wpAny _ _ (seqItems? (.ref a) >>= _) _ _ s
  refine wpAny_bind (wpAny_seqItems ho hd ?_)
  refine wpAny_bind ?_
  show wpAny _ _ (forIn vs _ _) _ _ s
  rw [← Array.forIn_toList]
  refine wpAny_forIn_list _ (fun rest r s' => r.1 = none ∧ s' = s ∧ ∀ v ∈ rest, ByVal P w n s v) _ ?_ ?_ _ _ ⟨rfl, rfl, hq⟩
  · rintro v rest r s' ⟨hr, rfl, hall⟩
    refine wpAny_bind (hall v List.mem_cons_self _ _ _ fun b => ?_)
    cases b
    · simp only [Bool.not_false, if_true]
      exact wpAny_pure (wpAny_pure (h _))
    · simp only [Bool.not_true, Bool.false_eq_true, if_false]
      exact wpAny_pure ⟨rfl, rfl, fun u z => hall u (List.mem_cons_of_mem _ z)⟩
  · rintro ⟨r1, r2⟩ s' ⟨hr, rfl, _⟩
    simp only at hr
    subst hr
    exact wpAny_pure (h _)
end
/-- the set's rows: keys and the tuples that they are -/
abbrev SRow := NestedKey × Addr
def srows (w : World) (L : List SRow) : List (Int × Value) := L.map fun p => (p.1.hash w, Value.ref p.2)
structure SR (w : World) (h : Heap) (a : Addr) (L : List SRow) (es : Array (Int × Value)) (ep : Nat) (t : SetTable) : Prop where
  ob : ∃ o, h.get? a = some o ∧ o.ExactSet ∧ o.data = .set es ep t
  rows : es.toList = srows w L
  tab : TabN t (L.map fun p => p.1.hash w)
  one : (L.map (·.1)).Nodup
  is : ∀ p ∈ L, IsN h p.1 p.2
  led : w.params.followText "set-order" = true ∨ t.led = true
  room : L.length * 5 < t.mask * 3
  few : L.length ≤ 20000
section
variable {P : Program} {w : World} {A : Around} {E : Value → Shared → Prop} {s : Shared} {a : Addr} {L : List SRow} {es : Array (Int × Value)} {ep : Nat} {t : SetTable}
theorem srows_len {L : List SRow} {es : Array (Int × Value)} (h : es.toList = srows w L) : es.size = L.length := by
  rw [← Array.length_toList, h]
  exact List.length_map _
theorem SR.size {h : Heap} (R : SR w h a L es ep t) : es.size = L.length := srows_len R.rows
theorem SR.fits {h : Heap} (R : SR w h a L es ep t) : t.fits es.size = true := by
  have h1 := R.tab.ln
  rw [List.length_map, ← R.size] at h1
  have h3 := R.room
  rw [← R.size] at h3
  unfold SetTable.fits SetTable.fill
  rw [R.tab.dn, Bool.and_eq_true, beq_iff_eq, decide_eq_true_eq]
  refine ⟨h1, ?_⟩
  show t.place.size + 0 ≤ t.mask
  omega
end
end Su
/-! ### ND2: rules over dicts whose keys are tuples of any depth: get, in, store, walks -/
namespace Su
open PySem PySem.Spec PyProof.Rows L2
section
variable {X : Cx} {o i e value : Expr} {pos pos' tpos : Pos} {td ty tv : TE}
end
/-! walks over a dict that is locked -/
section
variable {P : Program} {w : World} {K : PySem.W.Frag} {tg : Expr} {d : Addr} {o : Obj} {es : Array DictEntry} {ep : Nat}
end
end Su
/-! ### SN2: sets of tuples of any depth: set(), s.add(x), x in s, x not in s, len(s) -/
namespace Su
open PySem PySem.Spec PyProof.Rows L2
/-- all of a set but its tuples -/
def SRO (w : World) (h : Heap) (a : Addr) (L : List SRow) : Prop := ∃ (es : Array (Int × Value)) (ep : Nat) (t : SetTable), (∃ o, h.get? a = some o ∧ o.ExactSet ∧ o.data = .set es ep t) ∧ es.toList = srows w L ∧ TabN t (L.map fun p => p.1.hash w) ∧
  (w.params.followText "set-order" = true ∨ t.led = true) ∧ L.length * 5 < t.mask * 3
def nsO (w : World) (a : Addr) (L : List SRow) : HO := .ext fun h => ∃ L', L'.Perm L ∧ SRO w h a L'
/-- a set of such keys -/
structure NS (w : World) (H : Hp) (a : Addr) (L : List SRow) : Prop where
  at_ : H a = some (nsO w a L)
  few : L.length ≤ 20000
  keys : ∀ e ∈ L, KeyV H e.1 (.ref e.2) ∧ e.1.depth ≤ 8
  one : (L.map (·.1)).Nodup
def nsHas (L : List SRow) (k : NestedKey) : Bool := (L.map (·.1)).contains k
def nsPut (L : List SRow) (k : NestedKey) (b : Addr) : List SRow := if nsHas L k = true then L else L ++ [(k, b)]
theorem nsHas_iff {L : List SRow} {k : NestedKey} : nsHas L k = true ↔ k ∈ L.map (·.1) := List.contains_iff_mem
section
variable {P : Program} {w : World} {H : Hp} {h : Heap} {a : Addr} {L : List SRow}
end
theorem NS.k2 {w : World} {H : Hp} {a : Addr} {L : List SRow} (d : NS w H a L) (u : HO) : K2 H (L2.upd H a u) := K2.upd d.at_ (fun _ z => nomatch z) (fun _ _ z => nomatch z)
theorem NS.keep {w : World} {H H' : Hp} {a : Addr} {L : List SRow} (d : NS w H a L) (k2 : K2 H H') (e : H' a = H a) : NS w H' a L :=
  ⟨by rw [e]; exact d.at_, d.few, fun x hx => ⟨(d.keys x hx).1.keep k2, (d.keys x hx).2⟩, d.one⟩
theorem NS.same {w : World} {H H' : Hp} {a : Addr} {L : List SRow} (d : NS w H a L) (s : Same H H') : NS w H' a L := d.keep (K2.same s) (by rw [d.at_, s _ _ d.at_])
theorem nsPut_len (L : List SRow) (k : NestedKey) (b : Addr) : (nsPut L k b).length ≤ L.length + 1 := by
  unfold nsPut
  split
  · omega
  · simp
theorem NS.put {w : World} {H : Hp} {a b : Addr} {L : List SRow} {k : NestedKey} (d : NS w H a L) (hk : KeyV H k (.ref b)) (hd : k.depth ≤ 8) (hl : L.length < 20000) : NS w (L2.upd H a (nsO w a (nsPut L k b))) a (nsPut L k b) := by
  have k2 := d.k2 (nsO w a (nsPut L k b))
  refine ⟨upd_same, Nat.le_trans (nsPut_len L k b) hl, fun e he => ?_, ?_⟩
  · have old : ∀ e ∈ L, KeyV (L2.upd H a (nsO w a (nsPut L k b))) e.1 (.ref e.2) ∧ e.1.depth ≤ 8 := fun e z => ⟨(d.keys e z).1.keep k2, (d.keys e z).2⟩
    generalize L2.upd H a (nsO w a (nsPut L k b)) = H' at k2 old
    unfold nsPut at he
    split at he
    · exact old e he
    · rcases List.mem_append.mp he with he | he
      · exact old e he
      · rw [List.mem_singleton.mp he]
        exact ⟨hk.keep k2, hd⟩
  · unfold nsPut
    split
    · exact d.one
    · rename_i c
      rw [List.map_append, List.nodup_append]
      refine ⟨d.one, List.nodup_cons.mpr ⟨List.not_mem_nil, List.nodup_nil⟩, fun x hx y hy => ?_⟩
      rw [List.mem_singleton.mp hy]
      rintro rfl
      exact c (nsHas_iff.mpr hx)
/-! the rules -/
section
variable {X : Cx} {pins : List (Addr × Obj)} {σ : L2.St} {H : Hp} {s : Shared} {a b : Addr} {L : List SRow} {k : NestedKey} {A : Around} {E : Value → Shared → Prop}
end
section
variable {X : Cx}
variable {o e : Expr} {es : List Expr} {to : TE} {t : TA} {apos cpos : Pos}
end
end Su
/-! ### SNL: set(l), l a list of tuples of any depth -/
namespace Su
open PySem PySem.Spec PyProof.Rows L2
/-- the set holds what the first i of the list are -/
structure GotN (ks : List SRow) (i : Nat) (L : List SRow) : Prop where
  sub : ∀ p ∈ L, p ∈ ks
  all : ∀ p ∈ ks.take i, p.1 ∈ L.map (·.1)
  len : L.length ≤ i
theorem GotN.next {ks : List SRow} {i : Nat} {L L' : List SRow} {p : SRow} (g : GotN ks i L) (e : ks[i]? = some p) (c1 : p.1 ∈ L.map (·.1) → L' = L) (c2 : p.1 ∉ L.map (·.1) → L'.Perm (p :: L)) : GotN ks (i + 1) L' := by
  have et : ks.take (i + 1) = ks.take i ++ [p] := by
    rw [List.take_add_one, e]
    rfl
  rcases Classical.em (p.1 ∈ L.map (·.1)) with c | c
  · rw [c1 c]
    refine ⟨g.sub, fun q hq => ?_, Nat.le_succ_of_le g.len⟩
    rw [et] at hq
    rcases List.mem_append.mp hq with h | h
    · exact g.all q h
    · rw [List.mem_singleton.mp h]
      exact c
  · have pm := c2 c
    refine ⟨fun q hq => ?_, fun q hq => ?_, ?_⟩
    · rcases List.mem_cons.mp (pm.mem_iff.mp hq) with rfl | h
      · exact List.mem_of_getElem? e
      · exact g.sub q h
    · rw [et] at hq
      refine ((pm.map (·.1)).mem_iff).mpr ?_
      rcases List.mem_append.mp hq with h | h
      · exact List.mem_cons_of_mem _ (g.all q h)
      · rw [List.mem_singleton.mp h]
        exact List.mem_cons_self
    · rw [pm.length_eq]
      exact Nat.succ_le_succ g.len
section
variable {P : Program} {w : World} {A : Around} {E : Value → Shared → Prop}
theorem IsN.sub {h h' : Heap} {k : NestedKey} {b : Addr} (x : IsN h k b) (hk : ∀ c o, h.get? c = some o → h'.get? c = some o) : IsN h' k b :=
  ⟨NestedIs.at (fun c ob vs n hc _ => hk c _ hc) k _ x.1, x.2⟩
theorem SR.sub {h h' : Heap} {a : Addr} {L : List SRow} {es : Array (Int × Value)} {ep : Nat} {t : SetTable} (R : SR w h a L es ep t) (ha : ∀ o, h.get? a = some o → h'.get? a = some o) (ht : ∀ p ∈ L, IsN h' p.1 p.2) : SR w h' a L es ep t := by
  obtain ⟨o, ho, r⟩ := R.ob
  exact ⟨⟨o, ha o ho, r⟩, R.rows, R.tab, R.one, ht, R.led, R.room, R.few⟩
end
end Su
/-! ### SNM: set(l), l a list of tuples of any depth: the rule -/
namespace Su
open PySem PySem.Spec PyProof.Rows L2
section
variable {X : Cx}
end
end Su
/-! ### SNv: sets of tuples of any depth and None, in the heap -/
namespace Su.NV
open PySem PySem.Spec PyProof.Rows L2 Su
def vo : Option Addr → Value
  | none => .none
  | some b => .ref b
/-- the value is this key -/
abbrev IsN (h : Heap) (k : NestedKey) (b : Option Addr) : Prop := NestedIs h k (vo b) ∧ k.depth ≤ 8
/-- the set's rows: keys and the tuples that they are -/
abbrev SRow := NestedKey × Option Addr
def srows (w : World) (L : List SRow) : List (Int × Value) := L.map fun p => (p.1.hash w, vo p.2)
structure SR (w : World) (h : Heap) (a : Addr) (L : List SRow) (es : Array (Int × Value)) (ep : Nat) (t : SetTable) : Prop where
  ob : ∃ o, h.get? a = some o ∧ o.ExactSet ∧ o.data = .set es ep t
  rows : es.toList = srows w L
  tab : TabN t (L.map fun p => p.1.hash w)
  one : (L.map (·.1)).Nodup
  is : ∀ p ∈ L, IsN h p.1 p.2
  led : w.params.followText "set-order" = true ∨ t.led = true
  room : L.length * 5 < t.mask * 3
  few : L.length ≤ 20000
section
variable {P : Program} {w : World} {A : Around} {E : Value → Shared → Prop} {s : Shared} {a : Addr} {L : List SRow} {es : Array (Int × Value)} {ep : Nat} {t : SetTable}
theorem srows_len {L : List SRow} {es : Array (Int × Value)} (h : es.toList = srows w L) : es.size = L.length := by
  rw [← Array.length_toList, h]
  exact List.length_map _
theorem SR.size {h : Heap} (R : SR w h a L es ep t) : es.size = L.length := srows_len R.rows
theorem SR.fits {h : Heap} (R : SR w h a L es ep t) : t.fits es.size = true := by
  have h1 := R.tab.ln
  rw [List.length_map, ← R.size] at h1
  have h3 := R.room
  rw [← R.size] at h3
  unfold SetTable.fits SetTable.fill
  rw [R.tab.dn, Bool.and_eq_true, beq_iff_eq, decide_eq_true_eq]
  refine ⟨h1, ?_⟩
  show t.place.size + 0 ≤ t.mask
  omega
end
end Su.NV
/-! ### SNw: set(l), l a list of tuples of any depth and None; len of it -/
namespace Su.NV
open PySem PySem.Spec PyProof.Rows L2 Su
def vv : Option Addr → V
  | none => .non
  | some b => .ref b
/-- all of a set but its tuples -/
def SRO (w : World) (h : Heap) (a : Addr) (L : List SRow) : Prop := ∃ (es : Array (Int × Value)) (ep : Nat) (t : SetTable), (∃ o, h.get? a = some o ∧ o.ExactSet ∧ o.data = .set es ep t) ∧ es.toList = srows w L ∧ TabN t (L.map fun p => p.1.hash w) ∧
  (w.params.followText "set-order" = true ∨ t.led = true) ∧ L.length * 5 < t.mask * 3
def nsO (w : World) (a : Addr) (L : List SRow) : HO := .ext fun h => ∃ L', L'.Perm L ∧ SRO w h a L'
/-- a set of such keys -/
structure NS (w : World) (H : Hp) (a : Addr) (L : List SRow) : Prop where
  at_ : H a = some (nsO w a L)
  few : L.length ≤ 20000
  keys : ∀ e ∈ L, KeyV H e.1 (vv e.2) ∧ e.1.depth ≤ 8
  one : (L.map (·.1)).Nodup
section
variable {P : Program} {w : World} {H : Hp} {h : Heap} {a : Addr} {L : List SRow}
end
theorem NS.k2 {w : World} {H : Hp} {a : Addr} {L : List SRow} (d : NS w H a L) (u : HO) : K2 H (L2.upd H a u) := K2.upd d.at_ (fun _ z => nomatch z) (fun _ _ z => nomatch z)
theorem NS.keep {w : World} {H H' : Hp} {a : Addr} {L : List SRow} (d : NS w H a L) (k2 : K2 H H') (e : H' a = H a) : NS w H' a L :=
  ⟨by rw [e]; exact d.at_, d.few, fun x hx => ⟨(d.keys x hx).1.keep k2, (d.keys x hx).2⟩, d.one⟩
theorem NS.same {w : World} {H H' : Hp} {a : Addr} {L : List SRow} (d : NS w H a L) (s : Same H H') : NS w H' a L := d.keep (K2.same s) (by rw [d.at_, s _ _ d.at_])
section
variable {X : Cx}
end
/-- the set holds what the first i of the list are -/
structure GotN (ks : List SRow) (i : Nat) (L : List SRow) : Prop where
  sub : ∀ p ∈ L, p ∈ ks
  all : ∀ p ∈ ks.take i, p.1 ∈ L.map (·.1)
  len : L.length ≤ i
theorem GotN.next {ks : List SRow} {i : Nat} {L L' : List SRow} {p : SRow} (g : GotN ks i L) (e : ks[i]? = some p) (c1 : p.1 ∈ L.map (·.1) → L' = L) (c2 : p.1 ∉ L.map (·.1) → L'.Perm (p :: L)) : GotN ks (i + 1) L' := by
  have et : ks.take (i + 1) = ks.take i ++ [p] := by
    rw [List.take_add_one, e]
    rfl
  rcases Classical.em (p.1 ∈ L.map (·.1)) with c | c
  · rw [c1 c]
    refine ⟨g.sub, fun q hq => ?_, Nat.le_succ_of_le g.len⟩
    rw [et] at hq
    rcases List.mem_append.mp hq with h | h
    · exact g.all q h
    · rw [List.mem_singleton.mp h]
      exact c
  · have pm := c2 c
    refine ⟨fun q hq => ?_, fun q hq => ?_, ?_⟩
    · rcases List.mem_cons.mp (pm.mem_iff.mp hq) with rfl | h
      · exact List.mem_of_getElem? e
      · exact g.sub q h
    · rw [et] at hq
      refine ((pm.map (·.1)).mem_iff).mpr ?_
      rcases List.mem_append.mp hq with h | h
      · exact List.mem_cons_of_mem _ (g.all q h)
      · rw [List.mem_singleton.mp h]
        exact List.mem_cons_self
    · rw [pm.length_eq]
      exact Nat.succ_le_succ g.len
section
variable {P : Program} {w : World} {A : Around} {E : Value → Shared → Prop}
theorem IsN.sub {h h' : Heap} {k : NestedKey} {b : Option Addr} (x : IsN h k b) (hk : ∀ c o, h.get? c = some o → h'.get? c = some o) : IsN h' k b :=
  ⟨NestedIs.at (fun c ob vs n hc _ => hk c _ hc) k _ x.1, x.2⟩
theorem SR.sub {h h' : Heap} {a : Addr} {L : List SRow} {es : Array (Int × Value)} {ep : Nat} {t : SetTable} (R : SR w h a L es ep t) (ha : ∀ o, h.get? a = some o → h'.get? a = some o) (ht : ∀ p ∈ L, IsN h' p.1 p.2) : SR w h' a L es ep t := by
  obtain ⟨o, ho, r⟩ := R.ob
  exact ⟨⟨o, ha o ho, r⟩, R.rows, R.tab, R.one, ht, R.led, R.room, R.few⟩
end
section
variable {X : Cx}
end
end Su.NV
/-! ### ND3: len(d), list(d) of a dict whose keys are tuples of any depth -/
namespace Su
open PySem PySem.Spec PyProof.Rows L2
section
variable {X : Cx}
end
end Su
/-! ### ND4: a walk over a dict that is locked as the walk begins (and stays so) -/
namespace Su
open PySem PySem.Spec PyProof.Rows L2
end Su
/-! ### ND7: d.items() of a dict with nested keys (locked, or locked as the walk begins) -/
namespace Su
open PySem PySem.Spec PyProof.Rows L2
section
variable {P : Program} {w : World} {K : PySem.W.Frag} {tg : Expr} {d : Addr} {o : Obj} {es : Array DictEntry} {ep : Nat}
end
section
variable {X : Cx} {e : Expr} {td : TE} {apos cpos : Pos}
end
/-- a dict is locked for good behind an expression -/
def tLockR (t : TE) : TE := fun σ H Q => t σ H fun v H1 => ∃ d u, H1 d = some u ∧ Mut (some u) ∧ ∀ od, Q v (L2.upd H1 d (.frz od u))
theorem pe_lockR {X : Cx} {e : Expr} {t : TE} (h : PE X e t) : PE X e (tLockR t) := by
  refine ⟨fun pins s σ H Q I hw => ?_⟩
  refine thn (h.run pins s σ H _ I hw) fun u s1 ⟨x, H1, I1, rx, d, o, hd, mu, q⟩ => ?_
  obtain ⟨od, I2⟩ := I1.lock hd mu
  exact ⟨x, _, I2, rx, q od⟩
end Su
/-! ### ND5: sorted(d) of a dict whose keys are tuples of any depth -/
namespace Su
open PySem PySem.Spec PyProof.Rows L2
section
variable {X : Cx}
end
end Su
/-! ### ND6: dict(l), l a list of pairs whose first is a tuple of any depth -/
namespace Su
open PySem PySem.Spec PyProof.Rows L2
section
variable {P : Program} {w : World} {H : Hp} {h : Heap}
end
section
variable {X : Cx}
end
end Su
/-! ### ND8: dict(l), l a list of pairs whose first is a tuple of any depth, some perhaps twice -/
namespace Su
open PySem PySem.Spec PyProof.Rows L2
theorem nGet_has {kvs : List NEnt} {k : NestedKey} (h : (nGet kvs k).isSome = true) : k ∈ kvs.map (·.1) := by
  unfold nGet at h
  rw [Option.isSome_map] at h
  obtain ⟨e, he⟩ := Option.isSome_iff_exists.mp h
  exact List.mem_map.mpr ⟨e, List.mem_of_find?_eq_some he, of_decide_eq_true (List.find?_some (p := fun e : NEnt => decide (e.1 = k)) he)⟩
section
variable {X : Cx}
end
end Su
/-! ### DCN: dict comprehensions whose keys are tuples of any depth; a dict of such keys as a list -/
namespace Su
open PySem PySem.Spec PyProof.Rows L2
abbrev dc1 (k v a b : Expr) (sp : Scope) (po : Pos) : Expr := .DictComp k v [⟨a, b, [], 0⟩] sp po
section
variable {X : Cx}
end
end Su
/-! ### LC2: list comprehensions with two clauses: the form for a list, then a list or a tuple -/
namespace Su
open PySem PySem.Spec PyProof.Rows L2
section
variable {K : PySem.W.Frag} {a : Addr} {xs : List V} {g g1 : TG} {tt tt1 : TT} {te : TE} {wi1 : TI} {vs vs1 : List Nat} {σ σ2 : L2.St} {H1 H4 : Hp} {D : Addr}
end
end Su
/-! ### DC2: dict comprehensions with two clauses, keys tuples of any depth -/
namespace Su
open PySem PySem.Spec PyProof.Rows L2
section
variable {prog : Program} {w : World} {A : Around} {R : Result → Shared → Prop} {s : Shared} {k v a b c d : Expr} {sp : Scope} {po : Pos} {it acc : Value} {D : Addr} {env : Env}
end
section
variable {X : Cx}
end
section
variable {w : World} {K : PySem.W.Frag} {a : Addr} {xs : List V} {g g1 gn : TG} {tt1 : TT} {te tk tv : TE} {wn : TI} {vs vs1 : List Nat} {σ σ2 : L2.St} {H1 H3 H4 : Hp} {D : Addr}
end
end Su
/-! ### TB: the end of a law in which lambdas are made -/
namespace Su
open PySem PySem.Spec PyProof.Rows L2 LamX
/-- an empty table of code objects -/
abbrev tab0 : Obj := { cls := .none, data := .fields #[] }
structure TabK (h : Heap) (K : PySem.W.Frag) (cs : List (Addr × Addr)) : Prop where
  at_ : ∀ p ∈ cs, h.get? p.2 = some tab0
  out : ∀ p ∈ cs, K.lookup p.2 = none
  hd : ∀ p ∈ cs, PySem.W.CodeHd h p.1 p.2
theorem TabK.nil {h : Heap} {K : PySem.W.Frag} : TabK h K [] := ⟨(fun p hp => nomatch hp), (fun p hp => nomatch hp), fun p hp => nomatch hp⟩
theorem TabK.cons {h : Heap} {K : PySem.W.Frag} {c P : Addr} {cs : List (Addr × Addr)} (a : PySem.W.CodeHd h c P ∧ h.get? P = some tab0) (b : K.lookup P = none) (t : TabK h K cs) : TabK h K ((c, P) :: cs) := by
  refine ⟨fun p hp => ?_, fun p hp => ?_, fun p hp => ?_⟩
  · rcases List.mem_cons.mp hp with rfl | hp
    · exact a.2
    · exact t.at_ p hp
  · rcases List.mem_cons.mp hp with rfl | hp
    · exact b
    · exact t.out p hp
  · rcases List.mem_cons.mp hp with rfl | hp
    · exact a.1
    · exact t.hd p hp
theorem law_callT {P : Program} {w : World} {K : PySem.W.Frag} {mg mb : Str → Option Value} {k : Nat} {fa a : Addr} {fd : FuncData} {x : Str} {sp : Sp} {t : Shared} {vs : List Value} {ns : List Int} {cs : List (Addr × Addr)}
    (KX : K.In t.heap) (g1 : t.heap.Ns mainGlobals mg) (g2 : t.heap.Ns builtinsNs mb) (g3 : ∀ y : Str, y ≠ "__name__" → mb y = bootBuiltins y) (g4 : t.heap.NoLimit) (g5 : t.gens = #[])
    (g6 : ∃ (bm : Addr) (ob : Obj), mg "__builtins__" = some (.ref bm) ∧ bm ≠ builtinsNs ∧ t.heap.get? bm = some ob ∧ ob.cls = .type "module" ∧ ob.dict = some builtinsNs ∧ ob.data = .plain) (tk : TabK t.heap K cs)
    (ha : t.heap.get? a = some { cls := .type "list", data := .seq vs.toArray }) (hi : IntsAre vs ns) (hl : ns.length ≤ sizeLine) (hr : Room k callerA)
    (F : ∀ bs : Heap, K.In bs → bs.Ns mainGlobals mg → (∀ p ∈ cs, TabB bs mg p.1 p.2) → FnG P w K mg bs CX0 k fa fd [x] sp) (hbi : ∀ (s : Shared) (u : Value), BindsTo s fd ⟨[u], []⟩ [(x, u)])
    (hsp : ∀ H : Hp, (∀ p ∈ cs, H p.2 = some (.tbl #[])) → SqL K H a (ns.map V.int) → sp [.ref a] H (fun v _ => v = .bl true) fun _ _ _ => False) :
    codeAny (model P w) callerA (.call (.ref fa) ⟨[.ref a], []⟩) (fun r s' => r = .ok (.ret (.bool true)) ∧ OldK t.heap s'.heap ∧ s'.os = t.os ∧ AllBare s'.gens) t := by
  have rv := vals_ints hi
  have ist : ∀ b : Addr, b ∈ cs.map (·.2) → t.heap.get? b = some tab0 := fun b hb => by
    obtain ⟨p, hp, rfl⟩ := List.mem_map.mp hb
    exact tk.at_ p hp
  have anot : a ∉ cs.map (·.2) := fun z => by
    have q := ist a z
    rw [ha] at q
    injection q with q
    injection q with q1 q2 q3
    cases q3
  have main : ∀ H : Hp, (∀ p ∈ cs, H p.2 = some (.tbl #[])) → (∀ b, H b = none ∨ b ∈ cs.map (·.2) ∨ ∃ ob xs, H b = some (.frz ob (.lst xs))) → SqL K H a (ns.map V.int) → HOk P w H t.heap → (∀ b, H b ≠ none → b = a ∨ b ∈ cs.map (·.2)) → (H a ≠ none → K.lookup a = none) →
      codeAny (model P w) callerA (.call (.ref fa) ⟨[.ref a], []⟩) (fun r s' => r = .ok (.ret (.bool true)) ∧ OldK t.heap s'.heap ∧ s'.os = t.os ∧ AllBare s'.gens) t := by
    intro H hT only hS hok one out
    have no : ∀ (b : Addr) (o : Obj), t.heap.get? b = some o → (∀ xs n, o.data ≠ .seq xs n) → o.data ≠ .fields #[] → H b = none := by
      intro b o e d1 d2
      cases z : H b with
      | none => rfl
      | some u =>
        rcases one b (by rw [z]; simp) with rfl | q
        · rw [ha] at e
          cases e
          exact absurd rfl (d1 _ _)
        · rw [ist b q] at e
          cases e
          exact absurd rfl d2
    have nod : ∀ (b : Addr) (o : Obj) (es : Array DictEntry) (ep : Nat), t.heap.get? b = some o → o.data = .dict es ep → H b = none := fun b o es ep e d =>
      no b o e (fun xs n z => by rw [d] at z; cases z) fun z => by rw [d] at z; cases z
    have kb : K.In (hidT t.heap H) := by
      intro b o e
      refine hidT_get (KX b o e) ?_
      cases z : H b with
      | none => rfl
      | some u =>
        rcases one b (by rw [z]; simp) with rfl | q
        · rw [out (by rw [z]; simp)] at e
          cases e
        · obtain ⟨p, hp, rfl⟩ := List.mem_map.mp q
          rw [tk.out p hp] at e
          cases e
    have ng : (hidT t.heap H).Ns mainGlobals mg := hid_ns (nod _) g1
    have md : Mod K mg (hidT t.heap H) := ⟨kb, ng, ⟨mb, hid_ns (nod _) g2, g3⟩, g4.elim fun mc h => ⟨mc, hid_ns (nod _) h.1, h.2⟩⟩
    have tb : ∀ p ∈ cs, TabB (hidT t.heap H) mg p.1 p.2 := fun p hp => by
      have atP := tk.at_ p hp
      refine ⟨?_, ?_, fun z => ?_⟩
      · obtain ⟨o, us, file, tf, flags, tg, inF, text, tt, e1, r⟩ := tk.hd p hp
        refine ⟨o, us, file, tf, flags, tg, inF, text, tt, hidT_get e1 (no _ o e1 (fun xs n z => ?_) fun z => ?_), r⟩
        · rw [r.2.1] at z
          cases z
        · have r3 := r.2.2.1
          rw [r.2.1] at z
          cases z
          simp at r3
      · obtain ⟨bm, ob, b1, b2, b3, b4, b5, b6⟩ := g6
        refine ⟨bm, ob, b1, b2, fun q => ?_, fun q => ?_, hidT_get b3 (no _ ob b3 (fun xs n z => ?_) fun z => ?_), b4, b5, b6⟩
        · obtain ⟨o, es, ep, e, d, _⟩ := g1
          rw [q, e] at b3
          cases b3
          rw [d] at b6
          cases b6
        · rw [q, atP] at b3
          cases b3
          cases b6
        · rw [b6] at z
          cases z
        · rw [b6] at z
          cases z
      · obtain ⟨o, es, ep, e, d, _⟩ := g1
        rw [z, atP] at e
        cases e
        cases d
    have ev : Env0 P w K mg (hidT t.heap H) callerA [] t H :=
      ⟨rfl, md, fun b o e => of_hidT e, Nat.le_of_eq (hidT_size _ _), trivial, fun b z => (List.not_mem_nil z).elim, hok, .of_eq g5⟩
    refine codeAny_mono ((F _ kb ng tb).run callerA [] t H ⟨[.ref a], []⟩ [.ref a] [.ref a] _ _ rfl hr ev (hbi t (.ref a)) (.cons rfl .nil) (hsp H hT hS)) fun r s' h => ?_
    match r, h with
    | .error e, h => exact False.elim h
    | .ok .next, h => exact False.elim h
    | .ok .brk, h => exact False.elim h
    | .ok .cont, h => exact False.elim h
    | .ok (.ret u), h =>
      obtain ⟨v, H', os, bare, un, hok2, r2, q⟩ := h
      obtain rfl : v = .bl true := q
      obtain rfl : u = Value.bool true := r2
      have grown : ∀ p ∈ cs, ∃ more : Array Value, s'.heap.get? p.2 = some { cls := .none, data := .fields more } := fun p hp => by
        obtain ⟨more, z⟩ := un.tbls p.2 #[] (hT p hp)
        exact ⟨_, hok2 p.2 _ z⟩
      have same : ∀ b o, b ∉ cs.map (·.2) → t.heap.get? b = some o → s'.heap.get? b = some o := fun b o nb e => by
        rcases only b with z | z | ⟨ob, xs, z⟩
        · exact un.keep b o e z (fun y => (List.not_mem_nil y).elim) (by simp)
        · exact absurd z nb
        · have y1 := (hok b _ z).1
          have y2 := (hok2 b _ (un.frzs b ob _ z)).1
          rw [e] at y1
          cases y1
          exact y2
      refine ⟨rfl, ⟨fun b o e => ?_, fun b o e => ?_⟩, os, bare⟩
      · by_cases hb : b ∈ cs.map (·.2)
        · obtain ⟨p, hp, rfl⟩ := List.mem_map.mp hb
          obtain ⟨more, hm⟩ := grown p hp
          rw [tk.at_ p hp] at e
          cases e
          exact .inr (.inl ⟨((tk.hd p hp).tab (tk.at_ p hp)).isCodeTable, rfl, #[], more, rfl, by rw [Array.empty_append]; exact hm⟩)
        · exact .inl (same b o hb e)
      · by_cases hb : b ∈ cs.map (·.2)
        · obtain ⟨p, hp, rfl⟩ := List.mem_map.mp hb
          obtain ⟨more, hm⟩ := grown p hp
          exact ⟨_, hm⟩
        · exact ⟨o, same b o hb e⟩
  cases hk : K.lookup a with
  | some o =>
    have e := KX a o hk
    rw [ha] at e
    cases e
    have atT : ∀ b, (if b ∈ cs.map (·.2) then some (HO.tbl #[]) else none : Option HO) ≠ none → b ∈ cs.map (·.2) := fun b z => Classical.byContradiction fun q => z (if_neg q)
    refine main (fun b => if b ∈ cs.map (·.2) then some (.tbl #[]) else none) (fun p hp => if_pos (List.mem_map.mpr ⟨p, hp, rfl⟩)) (fun b => ?_) (.inr ⟨_, vs.toArray, _, hk, rfl, rfl, rfl, ?_, ?_⟩) (fun b u z => ?_) (fun b z => .inr (atT b z)) fun z => absurd (atT a z) anot
    · by_cases q : b ∈ cs.map (·.2)
      · exact .inr (.inl q)
      · exact .inl (if_neg q)
    · rw [List.size_toArray, hi.length]
      exact hl
    · simpa using rv
    · have q := atT b (fun n => nomatch (n.symm.trans z : (none : Option HO) = some u))
      have z2 := (if_pos q).symm.trans z
      cases z2
      exact ist b q
  | none =>
    let H : Hp := fun b => if b = a then some (.frz { cls := .type "list", data := .seq vs.toArray } (.lst (ns.map V.int))) else if b ∈ cs.map (·.2) then some (.tbl #[]) else none
    have h1 : H a = some (.frz { cls := .type "list", data := .seq vs.toArray } (.lst (ns.map V.int))) := if_pos rfl
    have h2 : ∀ b, b ∈ cs.map (·.2) → H b = some (.tbl #[]) := fun b q => (if_neg fun z : b = a => anot (by rw [← z]; exact q)).trans (if_pos q)
    have h3 : ∀ b, b ≠ a → b ∉ cs.map (·.2) → H b = none := fun b z q => (if_neg z).trans (if_neg q)
    refine main H (fun p hp => h2 _ (List.mem_map.mpr ⟨p, hp, rfl⟩)) (fun b => ?_) (.inl (.inr ⟨_, h1⟩)) (fun b u z => ?_) (fun b z => ?_) fun _ => hk
    · by_cases e : b = a
      · exact .inr (.inr ⟨_, _, by rw [e]; exact h1⟩)
      · by_cases q : b ∈ cs.map (·.2)
        · exact .inr (.inl q)
        · exact .inl (h3 b e q)
    · by_cases e : b = a
      · rw [e] at z ⊢
        rw [h1] at z
        cases z
        exact ⟨ha, by rw [List.length_map]; exact hl, vs, _, rv, ha⟩
      · by_cases q : b ∈ cs.map (·.2)
        · rw [h2 b q] at z
          cases z
          exact ist b q
        · rw [h3 b e q] at z
          cases z
    · by_cases e : b = a
      · exact .inl e
      · by_cases q : b ∈ cs.map (·.2)
        · exact .inr q
        · exact absurd (h3 b e q) z
/-- what is known of the law's promise at the head's heap -/
def LawT (P : Program) (w : World) (K : PySem.W.Frag) (k n : Nat) (x : Str) (mg : Str → Option Value) (fa : Addr) (h : Heap) : Prop :=
  ∃ (fd : FuncData) (cs : List (Addr × Addr)) (sp : Sp), TabK h K cs ∧ (∀ (s : Shared) (u : Value), BindsTo s fd ⟨[u], []⟩ [(x, u)]) ∧
    (∀ (H : Hp) (a : Addr) (ns : List Int), ns.length ≤ n → (∀ p ∈ cs, H p.2 = some (.tbl #[])) → SqL K H a (ns.map V.int) → sp [.ref a] H (fun v _ => v = .bl true) fun _ _ _ => False) ∧
    ∀ bs : Heap, K.In bs → bs.Ns mainGlobals mg → (∀ p ∈ cs, TabB bs mg p.1 p.2) → FnG P w K mg bs CX0 k fa fd [x] sp
theorem walk_ofT {l : PySem.W.OpenLaw} {n k : Nat} {q : Program} {loose : List Str} {XP : (Str → Option Value) → Heap → Prop} {YP : World → Heap → Prop} {d : DefRec} {K : Params → PySem.W.Frag} {x : Str}
    (hn : l.most = some n) (hn2 : n ≤ sizeLine) (hdf : d.params.defaults = []) (hr : Room k callerA) (hY : ∀ (w : World) (h : Heap), YP w h → (K w.params).In h)
    (F : ∀ (w : World) (mg : Str → Option Value) (fa : Addr) (h : Heap), (K w.params).In h → h.Ns mainGlobals mg → mg d.name = some (.ref fa) →
      (∀ (y : Str) (dr : DefRec) (c P : Addr), (recsOf q).find? (fun e => e.name == y) = some dr → PySem.W.tabIn (K w.params) y = some (c, P) → PySem.W.CodeHd h c P ∧ h.get? P = some tab0) → LawT l.prog w (K w.params) k n x mg fa h) :
    PySem.W.WalkO q loose XP YP l.row.toRowW d [] (fun f vs => PySem.call f vs) := by
  refine Att.attach_call hn hdf fun w s₀ t mg mb fa o pm cd doc a vs ns G Y ho hd hcd hmg hobj hints hlen hg => ?_
  have KX := hY w _ Y
  obtain ⟨fd, cs, sp, tk, hb, hsp, hF⟩ := F w mg fa _ KX G.T.g hmg fun y dr c P e1 e2 => PySem.W.tab_of G.T KX e1 e2
  exact law_callT KX G.T.g G.T.b G.T.builtins G.T.nolimit hg G.T.bmain tk hobj hints (Nat.le_trans hlen hn2) hr hF hb fun H hT hS => hsp H a ns hlen hT hS
end Su
/-! ### XH: a def with defaults that may let an exception out, called with all its arguments -/
namespace Su
open PySem PySem.Spec PyProof.Rows L2
theorem cal_ofXD {P : Program} {w : World} {K : PySem.W.Frag} {mg : Str → Option Value} {base : Heap} {x : Str} {st : Stmt} {N ps : List Str} {dvs : List V} {k : Nat} {sp : Sp} (T : AtD K mg x st ps dvs) (S : FnScope N ps (defScope st)) (len : ∀ vs H Q E, sp vs H Q E → vs.length = ps.length)
    (hb : ∀ (f : Addr) (cdv : Value) (A : Around) (outer : List Env) (s : Shared) (H : Hp) (vs : List V) (Q : VK) (E : XK), Room k (A.deeper (envOfC x (defScope st) s.heap.objs.size f cdv)) → sp vs H Q E →
      ∃ t, PSs (cxOf (L2.CX P w) P w K mg base N x (defScope st) f cdv A outer s H E) (defBody st) t ∧ t { nx := fun _ H' => Q .non H', rt := Q } (start N vs) H) : CalX P w K mg base (k + 1) x ps sp := by
  obtain ⟨f, fd, F, hm, b⟩ := T.ex
  obtain ⟨ds, hv, hbd⟩ := b dvs.length (Nat.le_refl _)
  rw [List.drop_length] at hv
  cases hv
  have z : ∃ o : Obj, K.lookup f = some o ∧ o.data = .func fd := by
    obtain ⟨_, _, _, _, _, _, _, _, _, _, _, lk, _⟩ := F.ex
    exact ⟨_, lk, rfl⟩
  exact ⟨f, fd, F.ok S len (fun cdv A outer s H vs Q E => hb f cdv A outer s H vs Q E), hm, F.kp, hbd, z⟩
end Su
/-! ### WP: slots of a comprehension's own names, forgotten -/
namespace Su
open PySem PySem.Spec PyProof.Rows L2
end Su
/-! ### CT: l.count(x), truths -/
namespace Su
open PySem PySem.Spec PyProof.Rows L2
section
variable {X : Cx}
end
end Su
/-! ### CG: defs that write things out (without k04's MX) -/
namespace Su
open PySem PySem.Spec PyProof.Rows L2
structure CalG (P : Program) (w : World) (K : PySem.W.Frag) (mg : Str → Option Value) (base : Heap) (k : Nat) (x : Str) (ps : List Str) (sp : Sp) : Prop where
  ex : ∃ (f : Addr) (fd : FuncData), FnG P w K mg base CX0 k f fd ps sp ∧ mg x = some (.ref f) ∧ PySem.W.keepIn K (.ref f) = true ∧ Binds K fd ps []
section
variable {X : Cx} {k j : Nat} {x : Str} {ps : List Str} {sp : Sp} {e : Expr} {es : List Expr} {t : TA} {pos p : Pos}
theorem pe_ownG (C : CalG X.prog X.w X.K X.mg X.base k x ps sp) (hgd : X.A.guards = some []) (hr : Room j X.A) (hk : k ≤ j) (hg : Gl X x) (ha : PA X (e :: es) t)
    (hdb : (x == ("__debug__" : Str)) = false := by decide) (he : starEach (e :: es) X.env = (false, eval e X.env) :: starEach es X.env := by rfl) (hpl : (backTo pos (starEach es X.env)).any (·.1) = false := by rfl) :
    PE X (.Call (.Name x p) (e :: es) [] pos) (tCall sp [] E0 t) := by
  obtain ⟨f, fd, F, hm, kp, b⟩ := C.ex
  refine ⟨fun pins s σ H Q I h => ?_⟩
  refine wpAny_Call_Name_kw (ld_glob I hg hm ?_ hdb)
  refine PySem.W.callWith_K (h₀ := X.base) I.ok.mod.kin kp (thn (ha.run pos pins s σ H _ I h) fun us s1 ⟨vs, H1, I1, r, q⟩ => ⟨I1.kIn, ?_⟩) he hpl
  have q2 : sp (vs ++ []) H1 Q E0 := q
  rw [List.append_nil] at q2
  exact run_fnG ⟨hr.mono hk, rfl⟩ hgd F b I1 r q2
end
section
variable {P : Program} {w : World} {K : PySem.W.Frag} {mg : Str → Option Value} {base : Heap}
theorem cal_ofG {x : Str} {st : Stmt} {N ps : List Str} {k : Nat} {sp : Sp} (T : At K mg x st ps) (S : FnScope N ps (defScope st)) (len : ∀ vs H Q E, sp vs H Q E → vs.length = ps.length)
    (hb : ∀ (f : Addr) (cdv : Value) (A : Around) (outer : List Env) (s : Shared) (H : Hp) (vs : List V) (Q : VK) (E : XK), (A.deeper (envOfC x (defScope st) s.heap.objs.size f cdv)).guards = some [] → Room k (A.deeper (envOfC x (defScope st) s.heap.objs.size f cdv)) → sp vs H Q E →
      ∃ t, PSs (cxOf CX0 P w K mg base N x (defScope st) f cdv A outer s H E).nox (defBody st) t ∧ t { nx := fun _ H' => Q .non H', rt := Q } (start N vs) H) : CalG P w K mg base (k + 1) x ps sp := by
  obtain ⟨f, fd, F, hm, b⟩ := T.ex
  exact ⟨f, fd, fnG_fun F S len (fun cdv A outer s H vs Q E hg hr h => hb f cdv A outer s H vs Q E hg hr h), hm, F.kp, b⟩
end
end Su
/-! ### CG0: a def without arguments, called where nothing is being written out -/
namespace Su
open PySem PySem.Spec PyProof.Rows L2
section
variable {X : Cx} {k j : Nat} {C : Addr} {x : Str} {ps : List Str} {sp : Sp} {p pos : Pos} {dvs : List V}
end
end Su
/-! ### MT2: max and min of a list of numbers -/
namespace Su
open PySem PySem.Spec PyProof.Rows L2 PySem.W
section
variable {X : Cx}
end
end Su
namespace Su
open PySem PySem.Spec PyProof.Rows L2
def topS (i : Nat) : Stmt := PySem.Challenge.pw_surehand_k38_whole_ages_hold.main.body.getD i (.Pass ⟨0, 0, 0, 0⟩)
abbrev s_is_whole : Stmt := topS 11
abbrev s_is_room : Stmt := topS 12
abbrev s_are_rising : Stmt := topS 13
abbrev s_are_rooms : Stmt := topS 14
abbrev s_is_way : Stmt := topS 15
abbrev s_is_size : Stmt := topS 16
abbrev s_wrong_part : Stmt := topS 23
abbrev s_look_at_room : Stmt := topS 24
abbrev s_look_at_kind : Stmt := topS 25
abbrev s_are_tos : Stmt := topS 29
abbrev s_is_row : Stmt := topS 30
abbrev s_rooms_in : Stmt := topS 31
abbrev s_look_at_web : Stmt := topS 32
abbrev s_is_row_number : Stmt := topS 33
abbrev s_look_at_ask : Stmt := topS 34
abbrev s_ages : Stmt := topS 36
abbrev s_first_ages : Stmt := topS 37
abbrev s_joined_ages : Stmt := topS 38
abbrev s_behind_ask : Stmt := topS 39
abbrev s_behind_row : Stmt := topS 40
abbrev s_lets_ages : Stmt := topS 41
abbrev s_are_ages : Stmt := topS 42
abbrev s_is_list_of_ages : Stmt := topS 43
abbrev s_allows : Stmt := topS 44
abbrev s_places_of : Stmt := topS 48
abbrev s_all_lacks : Stmt := topS 49
abbrev s_rooms_of_set : Stmt := topS 50
abbrev s_numbers_in : Stmt := topS 51
abbrev s_family_of : Stmt := topS 52
abbrev s_sorted_sets : Stmt := topS 53
abbrev s_with_room : Stmt := topS 54
abbrev s_upward : Stmt := topS 55
abbrev s_downward : Stmt := topS 56
abbrev s_leasts_of : Stmt := topS 57
abbrev s_greatests_of : Stmt := topS 58
abbrev s_behind : Stmt := topS 59
abbrev s_spread : Stmt := topS 60
abbrev s_is_within : Stmt := topS 61
abbrev s_new_number : Stmt := topS 63
abbrev s_greatest_sets : Stmt := topS 64
abbrev s_told_row : Stmt := topS 65
abbrev s_least_sets : Stmt := topS 67
abbrev s_numbers : Stmt := topS 69
abbrev s_law_pool : Stmt := topS 71
abbrev s_law_take : Stmt := topS 72
abbrev s_law_picked : Stmt := topS 73
abbrev s_law_tos : Stmt := topS 74
abbrev s_law_web : Stmt := topS 75
abbrev s_law_web_rooms : Stmt := topS 76
abbrev s_law_lies_so : Stmt := topS 77
abbrev s_law_walk_so : Stmt := topS 78
abbrev s_law_bent : Stmt := topS 79
abbrev s_law_numbers_so : Stmt := topS 80
abbrev s_law_kind : Stmt := topS 81
abbrev s_law : Stmt := topS 82
end Su
/-! ### W1: how a row of a web is looked at, of a row that is one -/
namespace Su
open PySem PySem.Spec PyProof.Rows L2
structure GbW (mg : Str → Option Value) : Prop where
  last : ∃ t, mg "LAST_ROOM" = some (.int 99 t)
  rows : ∃ t, mg "MOST_ROWS" = some (.int 80 t)
  rooms : ∃ t, mg "MOST_ROOMS" = some (.int 12 t)
def spWholeI : Sp := fun vs H Q _ => ∃ (i : Int), vs = [.int i] ∧ Q (.bl true) H
def spRoomI : Sp := fun vs H Q _ => ∃ (i : Int), vs = [.int i] ∧ 0 ≤ i ∧ i ≤ 99 ∧ Q (.bl true) H
def spRising (K : PySem.W.Frag) : Sp := fun vs H Q _ => ∃ (a : Addr) (ns : List Int), vs = [.ref a] ∧ T2 H a (ns.map V.int) ∧ ns.Pairwise (· < ·) ∧ ns.length ≤ 1000 ∧ ∀ H', Same H H' → Q (.bl true) H'
def spRooms (K : PySem.W.Frag) : Sp := fun vs H Q _ => ∃ (a : Addr) (ns : List Int) (lo hi : Int), vs = [.ref a, .int lo, .int hi] ∧ T2 H a (ns.map V.int) ∧ Ris 0 99 ns ∧ lo ≤ ns.length ∧ ns.length ≤ hi ∧ ns.length ≤ 1000 ∧ ∀ H', Same H H' → Q (.bl true) H'
def spTos (K : PySem.W.Frag) : Sp := fun vs H Q _ => ∃ (a : Addr) (ns : List Int) (n : Nat), vs = [.ref a, .int n] ∧ T2 H a (ns.map V.int) ∧ Ris 0 ((n : Int) - 1) ns ∧ n ≤ 80 ∧ ∀ H', Same H H' → Q (.bl true) H'
def spRow (K : PySem.W.Frag) : Sp := fun vs H Q _ => ∃ (v : V) (r : Rw) (n : Nat), vs = [v, .int n] ∧ RowAt H v r ∧ RowOk n r ∧ n ≤ 80 ∧ ∀ H', Same H H' → Q (.bl true) H'
theorem sc_is_whole : FnScope ["thing"] ["thing"] (defScope s_is_whole) := ⟨rfl, rfl, rfl, by decide +kernel, rfl, by decide +kernel, by decide +kernel⟩
theorem sc_is_room : FnScope ["thing"] ["thing"] (defScope s_is_room) := ⟨rfl, rfl, rfl, by decide +kernel, rfl, by decide +kernel, by decide +kernel⟩
theorem sc_are_rising : FnScope ["numbers", "one", "other"] ["numbers"] (defScope s_are_rising) := ⟨rfl, rfl, rfl, by decide +kernel, rfl, by decide +kernel, by decide +kernel⟩
theorem sc_are_rooms : FnScope ["thing", "least", "most", "room"] ["thing", "least", "most"] (defScope s_are_rooms) := ⟨rfl, rfl, rfl, by decide +kernel, rfl, by decide +kernel, by decide +kernel⟩
theorem sc_are_tos : FnScope ["thing", "rows", "to"] ["thing", "rows"] (defScope s_are_tos) := ⟨rfl, rfl, rfl, by decide +kernel, rfl, by decide +kernel, by decide +kernel⟩
theorem sc_is_row : FnScope ["thing", "rows"] ["thing", "rows"] (defScope s_is_row) := ⟨rfl, rfl, rfl, by decide +kernel, rfl, by decide +kernel, by decide +kernel⟩
section
variable {P : Program} {w : World} {K : PySem.W.Frag} {mg : Str → Option Value} {base : Heap}
theorem ok_whole (T : At K mg "is_whole" s_is_whole ["thing"]) (B : Bt mg) : Cal P w K mg base 1 "is_whole" ["thing"] spWholeI := by
  refine cal_of T sc_is_whole (fun vs H Q E h => ?_) (fun f cdv A outer s H vs Q E hr h => ?_)
  · obtain ⟨i, rfl, _⟩ := h
    rfl
  · obtain ⟨i, rfl, q⟩ := h
    refine ⟨_, (pss_one (ps_ret (pe_and (pe_callB call_isi (by rfl) B.isinstance (by decide +kernel) (pa_cons (pv 0) (pa_cons (pe_bltn (v := .ty "int") (u := .type "int") (by rfl) B.int (by decide +kernel) rfl) pa_nil))) (pe_one (pe_not (pe_callB call_isi (by rfl) B.isinstance (by decide +kernel) (pa_cons (pv 0) (pa_cons (pe_bltn (v := .ty "bool") (u := .type "bool") (by rfl) B.bool (by decide +kernel) rfl) pa_nil)))))))), ?_⟩
    refine ⟨_, rfl, .int i, .ty "int", .type "int", .type "int", true, rfl, .ty "int", .base (.int i), kit_ty (by decide +kernel), _, rfl, iteT ?_⟩
    exact ⟨_, rfl, .int i, .ty "bool", .type "int", .type "bool", false, rfl, .ty "bool", .base (.int i), kit_ty (by decide +kernel), _, rfl, q⟩
theorem ok_room (T : At K mg "is_room" s_is_room ["thing"]) (D : GbW mg) (c_is_whole : Cal P w K mg base 1 "is_whole" ["thing"] spWholeI) : Cal P w K mg base 2 "is_room" ["thing"] spRoomI := by
  obtain ⟨tl, mLast⟩ := D.last
  refine cal_of T sc_is_room (fun vs H Q E h => ?_) (fun f cdv A outer s H vs Q E hr h => ?_)
  · obtain ⟨i, rfl, _⟩ := h
    rfl
  · obtain ⟨i, rfl, i0, i1, q⟩ := h
    refine ⟨_, (pss_one (ps_ret (pe_and (pe_own c_is_whole hr (by decide) (by rfl) (pa_cons (pv 0) pa_nil)) (pe_one (pe_chain op_le op_le pe_int (pv 0) (pe_glob (v := .int 99) rfl mLast ⟨_, rfl⟩)))))), ?_⟩
    refine ⟨_, rfl, i, rfl, _, rfl, iteT ?_⟩
    refine ⟨_, rfl, _, _, rfl, rfl, _, rfl, iteB (fun _ => ?_) (fun z => absurd (of_decide_eq_false z) (by omega))⟩
    refine ⟨_, _, rfl, rfl, ?_⟩
    have z : (V.bl (decide (i ≤ 99))) = .bl true := congrArg V.bl (decide_eq_true i1)
    exact (congrArg (fun v => Q v H) z).mpr q
theorem ok_rising (T : At K mg "are_rising" s_are_rising ["numbers"]) (B : Bt mg) : Cal P w K mg base 1 "are_rising" ["numbers"] (spRising K) := by
  refine cal_of T sc_are_rising (fun vs H Q E h => ?_) (fun f cdv A outer s H vs Q E hr h => ?_)
  · obtain ⟨a, ns, rfl, _⟩ := h
    rfl
  · obtain ⟨a, ns, rfl, ha, pw, hl, q⟩ := h
    refine ⟨_, (pss_one (ps_ret (pe_callB (cr_all rfl) (by rfl) B.all (by decide +kernel) (pa_cons (pe_lc (own := [("one", 1), ("other", 2)]) (g := (gTup K 2 (gCons (gName 1) (gCons (gName 2) gNil)))) (tt := tYes) (te := (tOp (rI0 fun i j => .bl (decide (i < j))) (tVar 1) (tVar 2))) (by rfl) sc_are_rising.nd (RZ.pi_zipA (by rfl) B.zip (pa_cons (pv 0) (pa_cons (pe_slice sl_tup2 (pv 0) (po_some pe_int) po_none) pa_nil))) (blkOk_by (own := [("one", 1), ("other", 2)]) (N := ["numbers", "one", "other"]) (sc := defScope s_are_rising) (by decide +kernel)) (fun _ _ _ _ _ => (pg_tup (by rfl) (pgs_cons (pg_name (i := 1) sc_are_rising.nd rfl (Or.inl rfl)) (pgs_cons (pg_name (i := 2) sc_are_rising.nd rfl (Or.inl rfl)) pgs_nil)))) (fun _ _ _ _ _ => pts_nil) (fun _ _ _ _ _ => (pe_cmpR op_lt (pv 1) (pv 2) (nomark _)))) pa_nil)))), ?_⟩
    refine ⟨_, rfl, _, rfl, 1, rfl, a, _, rfl, ha, fun b H1 s1 hb => ?_⟩
    rw [cut_tail, ← List.map_drop] at hb
    refine ⟨a, b, _, _, rfl, .inr ⟨(ha.same s1).sq, hb.sq, fun D nD => ?_⟩⟩
    refine lc_zipT (K := K) (a := a) (b := b) (xs := ns.map V.int) (ys := (ns.drop 1).map V.int) (by rw [List.length_map, List.length_map, List.length_drop]; omega) (fun i H2 => Same H H2 ∧ T2 H2 a (ns.map V.int) ∧ T2 H2 b ((ns.drop 1).map V.int) ∧ H2 D = some (.lst (List.replicate i (V.bl true)))) ?_ ?_ ?_ ?_
    · have sD : Same H1 (upd H1 D (.lst [])) := same_upd nD
      exact ⟨s1.trans sD, (ha.same s1).same sD, hb.same sD, upd_same⟩
    · rintro i H2 _ ⟨_, h1, h2, _⟩
      exact ⟨h1.sq, h2.sq⟩
    · rintro i x y T H2 hx hy ⟨s2, h1, h2, hD⟩ nT
      have sT : Same H2 (upd H2 T (.tup [x, y])) := same_upd nT
      rw [List.getElem?_map] at hx hy
      rw [List.getElem?_drop] at hy
      obtain ⟨n1, e1, rfl⟩ := Option.map_eq_some_iff.mp hx
      obtain ⟨n2, e2, rfl⟩ := Option.map_eq_some_iff.mp hy
      have lt : n1 < n2 := by
        obtain ⟨l1, rfl⟩ := List.getElem?_eq_some_iff.mp e1
        obtain ⟨l2, rfl⟩ := List.getElem?_eq_some_iff.mp e2
        exact List.pairwise_iff_getElem.mp pw i (1 + i) l1 l2 (by omega)
      have hi : i < ns.length := (List.getElem?_eq_some_iff.mp e1).1
      refine ⟨T, _, rfl, SqT.of upd_same, rfl, _, _, rfl, _, _, rfl, rfl, rfl, tyes ?_⟩
      refine ⟨_, rfl, _, rfl, _, _, rfl, rfl, List.replicate i (V.bl true), sT _ _ hD, ?_, ?_⟩
      · rw [List.length_replicate]
        exact small1000 (by omega)
      · have z : (V.bl (decide (n1 < n2))) = .bl true := congrArg V.bl (decide_eq_true lt)
        have h3 := sT _ _ hD
        have k3 := (K2.same sT).trans (K2.lst (u := .lst (List.replicate (i + 1) (V.bl true))) h3)
        show _ ∧ _ ∧ _ ∧ _
        rw [show (fun i j => V.bl (decide (i < j))) n1 n2 = V.bl true from z, rep_snoc]
        refine ⟨fun c o ec => ?_, k3 _ _ h1, k3 _ _ h2, upd_same⟩
        rw [upd_ne (ne_of_none (s1 _ _ ec) nD)]
        exact sT _ _ (s2 _ _ ec)
    · rintro H2 ⟨s2, h1, h2, hD⟩
      refine ⟨D, List.replicate ((ns.drop 1).map V.int).length true, rfl, ?_, ?_⟩
      · rw [rep_map]
        exact SqL.of hD
      · rw [rep_all]
        exact q H2 s2
theorem ok_rooms (T : At K mg "are_rooms" s_are_rooms ["thing", "least", "most"]) (B : Bt mg) (c_is_room : Cal P w K mg base 2 "is_room" ["thing"] spRoomI) (c_are_rising : Cal P w K mg base 1 "are_rising" ["numbers"] (spRising K)) :
    Cal P w K mg base 3 "are_rooms" ["thing", "least", "most"] (spRooms K) := by
  refine cal_of T sc_are_rooms (fun vs H Q E h => ?_) (fun f cdv A outer s H vs Q E hr h => ?_)
  · obtain ⟨a, ns, lo, hi, rfl, _⟩ := h
    rfl
  · obtain ⟨a, ns, lo, hi, rfl, ha, ris, h1, h2, hl, q⟩ := h
    refine ⟨_, (pss_cons (ps_if (PW.pt (pw_or (pt_not (pt_val (pe_callB call_isi (by rfl) B.isinstance (by decide +kernel) (pa_cons (pv 0) (pa_cons (pe_bltn (v := .ty "tuple") (u := .type "tuple") (by rfl) B.tuple (by decide +kernel) rfl) pa_nil))))) (pw_or1 (pt_not (pt_chain op_le op_le (pv 1) (pe_callB call_len_seq (by rfl) B.len PySem.boot_len (pa_cons (pv 0) pa_nil)) (pv 2)))))) (pss_one (ps_ret pe_bl)) pss_nil)
      (pss_one (ps_ret (pe_and (pe_callB (cr_all rfl) (by rfl) B.all (by decide +kernel) (pa_cons (pe_lc (own := [("room", 3)]) (g := (gName 3)) (tt := tYes) (te := (tCall spRoomI [] E0 (tCons (tVar 3) tNil))) (by rfl) sc_are_rooms.nd (pi_tup (pv 0)) (blkOk_by (own := [("room", 3)]) (N := ["thing", "least", "most", "room"]) (sc := defScope s_are_rooms) (by decide +kernel)) (fun _ _ _ _ _ => (pg_name (i := 3) sc_are_rooms.nd rfl (Or.inl rfl))) (fun _ _ _ _ _ => pts_nil) (fun _ _ _ _ _ => (pe_own c_is_room hr (by decide) (by rfl) (pa_cons (pv 3) pa_nil)))) pa_nil)) (pe_one (pe_own c_are_rising hr (by decide) (by rfl) (pa_cons (pv 0) pa_nil))))))), ?_⟩
    refine ⟨_, rfl, .ref a, .ty "tuple", .type "tuple", .type "tuple", true, rfl, .ty "tuple", ha.ty, kit_ty (by decide +kernel), _, rfl, iteF ?_⟩
    refine ⟨_, rfl, _, rfl, a, _, rfl, .inr ha.sq, _, _, rfl, rfl, _, rfl, iteB (fun _ => ?_) (fun z => absurd (of_decide_eq_false z) (by rw [List.length_map]; omega))⟩
    refine ⟨_, rfl, _, _, rfl, rfl, _, rfl, ?_⟩
    rw [show decide (((ns.map V.int).length : Int) ≤ hi) = true from decide_eq_true (by rw [List.length_map]; omega)]
    refine iteF ?_
    refine ⟨_, rfl, a, rfl, ⟨_, ha.sq⟩, fun D nD => ?_⟩
    refine lc_tup (K := K) (a := a) (xs := ns.map V.int) (fun i H2 => Same H H2 ∧ T2 H2 a (ns.map V.int) ∧ H2 D = some (.lst (List.replicate i (V.bl true)))) ?_ ?_ ?_ ?_
    · have sD : Same H (upd H D (.lst [])) := same_upd nD
      exact ⟨sD, ha.same sD, upd_same⟩
    · rintro i H2 _ ⟨_, h3, _⟩
      exact h3.sq
    · rintro i x H2 hx ⟨s2, h3, hD⟩
      rw [List.getElem?_map] at hx
      obtain ⟨n1, e1, rfl⟩ := Option.map_eq_some_iff.mp hx
      have hi : i < ns.length := (List.getElem?_eq_some_iff.mp e1).1
      have hm := List.mem_of_getElem? e1
      refine ⟨rfl, tyes ?_⟩
      refine ⟨_, rfl, n1, rfl, ris.lo n1 hm, ris.hi n1 hm, List.replicate i (V.bl true), hD, (by rw [List.length_replicate]; exact small1000 (by omega)), ?_⟩
      rw [rep_snoc]
      refine ⟨fun c o ec => ?_, K2.lst hD _ _ h3, upd_same⟩
      rw [upd_ne (ne_of_none ec nD)]
      exact s2 _ _ ec
    · rintro H2 ⟨s2, h3, hD⟩
      refine ⟨D, List.replicate (ns.map V.int).length true, rfl, (by rw [rep_map]; exact SqL.of hD), ?_⟩
      rw [rep_all]
      refine ⟨_, rfl, iteT ?_⟩
      exact ⟨_, rfl, a, ns, rfl, h3, ris.pw, hl, fun H3 s3 => q H3 (s2.trans s3)⟩
theorem ok_tos (T : At K mg "are_tos" s_are_tos ["thing", "rows"]) (B : Bt mg) (c_is_whole : Cal P w K mg base 1 "is_whole" ["thing"] spWholeI) (c_are_rising : Cal P w K mg base 1 "are_rising" ["numbers"] (spRising K)) :
    Cal P w K mg base 2 "are_tos" ["thing", "rows"] (spTos K) := by
  refine cal_of T sc_are_tos (fun vs H Q E h => ?_) (fun f cdv A outer s H vs Q E hr h => ?_)
  · obtain ⟨a, ns, n, rfl, _⟩ := h
    rfl
  · obtain ⟨a, ns, n, rfl, ha, ris, n8, q⟩ := h
    have hl := ris_len ris
    refine ⟨_, (pss_cons (ps_if (PW.pt (pw_or (pt_not (pt_val (pe_callB call_isi (by rfl) B.isinstance (by decide +kernel) (pa_cons (pv 0) (pa_cons (pe_bltn (v := .ty "tuple") (u := .type "tuple") (by rfl) B.tuple (by decide +kernel) rfl) pa_nil))))) (pw_or1 (pt_cmpR op_gt (pe_callB call_len_seq (by rfl) B.len PySem.boot_len (pa_cons (pv 0) pa_nil)) (pv 1) (nomark _))))) (pss_one (ps_ret pe_bl)) pss_nil)
      (pss_one (ps_ret (pe_and (pe_callB (cr_all rfl) (by rfl) B.all (by decide +kernel) (pa_cons (pe_lc (own := [("to", 2)]) (g := (gName 2)) (tt := tYes) (te := (tAndV (tCall spWholeI [] E0 (tCons (tVar 2) tNil)) (tChain (rI0 fun i j => .bl (decide (i ≤ j))) (rI0 fun i j => .bl (decide (i < j))) (tC (.int 0)) (tVar 2) (tVar 1)))) (by rfl) sc_are_tos.nd (pi_tup (pv 0)) (blkOk_by (own := [("to", 2)]) (N := ["thing", "rows", "to"]) (sc := defScope s_are_tos) (by decide +kernel)) (fun _ _ _ _ _ => (pg_name (i := 2) sc_are_tos.nd rfl (Or.inl rfl))) (fun _ _ _ _ _ => pts_nil) (fun _ _ _ _ _ => (pe_and (pe_own c_is_whole hr (by decide) (by rfl) (pa_cons (pv 2) pa_nil)) (pe_one (pe_chain op_le op_lt pe_int (pv 2) (pv 1)))))) pa_nil)) (pe_one (pe_own c_are_rising hr (by decide) (by rfl) (pa_cons (pv 0) pa_nil))))))), ?_⟩
    refine ⟨_, rfl, .ref a, .ty "tuple", .type "tuple", .type "tuple", true, rfl, .ty "tuple", ha.ty, kit_ty (by decide +kernel), _, rfl, iteF ?_⟩
    refine ⟨_, rfl, a, _, rfl, .inr ha.sq, _, rfl, _, _, rfl, rfl, _, rfl, iteB (fun z => absurd (of_decide_eq_true z) (by rw [List.length_map]; omega)) (fun _ => ?_)⟩
    refine ⟨_, rfl, a, rfl, ⟨_, ha.sq⟩, fun D nD => ?_⟩
    refine lc_tup (K := K) (a := a) (xs := ns.map V.int) (fun i H2 => Same H H2 ∧ T2 H2 a (ns.map V.int) ∧ H2 D = some (.lst (List.replicate i (V.bl true)))) ?_ ?_ ?_ ?_
    · have sD : Same H (upd H D (.lst [])) := same_upd nD
      exact ⟨sD, ha.same sD, upd_same⟩
    · rintro i H2 _ ⟨_, h3, _⟩
      exact h3.sq
    · rintro i x H2 hx ⟨s2, h3, hD⟩
      rw [List.getElem?_map] at hx
      obtain ⟨n1, e1, rfl⟩ := Option.map_eq_some_iff.mp hx
      have hi : i < ns.length := (List.getElem?_eq_some_iff.mp e1).1
      have hm := List.mem_of_getElem? e1
      have g0 := ris.lo n1 hm
      have g1 := ris.hi n1 hm
      refine ⟨rfl, tyes ?_⟩
      refine ⟨_, rfl, n1, rfl, _, rfl, iteT ?_⟩
      refine ⟨_, rfl, _, _, rfl, rfl, _, rfl, iteB (fun _ => ?_) (fun z => absurd (of_decide_eq_false z) (by omega))⟩
      refine ⟨_, rfl, _, _, rfl, rfl, List.replicate i (V.bl true), hD, (by rw [List.length_replicate]; exact small1000 (by omega)), ?_⟩
      have z : (V.bl (decide (n1 < (n : Int)))) = .bl true := congrArg V.bl (decide_eq_true (by omega))
      show _ ∧ _ ∧ _
      rw [show (fun i j => V.bl (decide (i < j))) n1 (n : Int) = V.bl true from z, rep_snoc]
      refine ⟨fun c o ec => ?_, K2.lst hD _ _ h3, upd_same⟩
      rw [upd_ne (ne_of_none ec nD)]
      exact s2 _ _ ec
    · rintro H2 ⟨s2, h3, hD⟩
      refine ⟨D, List.replicate (ns.map V.int).length true, rfl, (by rw [rep_map]; exact SqL.of hD), ?_⟩
      rw [rep_all]
      refine ⟨_, rfl, iteT ?_⟩
      exact ⟨_, rfl, a, ns, rfl, h3, ris.pw, by omega, fun H3 s3 => q H3 (s2.trans s3)⟩
theorem ok_row (T : At K mg "is_row" s_is_row ["thing", "rows"]) (B : Bt mg) (c_are_rooms : Cal P w K mg base 3 "are_rooms" ["thing", "least", "most"] (spRooms K)) (c_are_tos : Cal P w K mg base 2 "are_tos" ["thing", "rows"] (spTos K)) :
    Cal P w K mg base 4 "is_row" ["thing", "rows"] (spRow K) := by
  refine cal_of T sc_is_row (fun vs H Q E h => ?_) (fun f cdv A outer s H vs Q E hr h => ?_)
  · obtain ⟨v, r, n, rfl, _⟩ := h
    rfl
  · obtain ⟨v, r, n, rfl, ⟨a, b, c, rfl, ha, hb, hc⟩, ok, n8, q⟩ := h
    refine ⟨_, (pss_cons (ps_if (PW.pt (pw_or (pt_not (pt_val (pe_callB call_isi (by rfl) B.isinstance (by decide +kernel) (pa_cons (pv 0) (pa_cons (pe_bltn (v := .ty "tuple") (u := .type "tuple") (by rfl) B.tuple (by decide +kernel) rfl) pa_nil))))) (pw_or1 (pt_cmpR op_ne (pe_callB call_len_seq (by rfl) B.len PySem.boot_len (pa_cons (pv 0) pa_nil)) pe_int (nomark _))))) (pss_one (ps_ret pe_bl)) pss_nil)
      (pss_one (ps_ret (pe_and (pe_own c_are_rooms hr (by decide) (by rfl) (pa_cons (pe_ix ix_tup (pv 0) pe_int (fun _ _ => rfl)) (pa_cons pe_int (pa_cons pe_int pa_nil)))) (pe_one (pe_own c_are_tos hr (by decide) (by rfl) (pa_cons (pe_ix ix_tup (pv 0) pe_int (fun _ _ => rfl)) (pa_cons (pv 1) pa_nil)))))))), ?_⟩
    refine ⟨_, rfl, .ref a, .ty "tuple", .type "tuple", .type "tuple", true, rfl, .ty "tuple", ha.ty, kit_ty (by decide +kernel), _, rfl, iteF ?_⟩
    refine ⟨_, rfl, a, _, rfl, .inr ha.sq, rfl, _, rfl, iteNS rfl ?_⟩
    refine ⟨_, rfl, _, _, _, _, rfl, rfl, ha.sq, atI_nat (j := 0) rfl, b, r.1, 0, 6, rfl, hb, ok.rooms, by omega, by have := ok.few; omega, by have := ok.few; omega, fun H1 s1 => ?_⟩
    refine ⟨_, rfl, iteT ?_⟩
    refine ⟨_, rfl, _, _, _, _, rfl, rfl, (ha.same s1).sq, atI_nat (j := 1) rfl, _, rfl, c, r.2, n, rfl, hc.same s1, ok.tos, n8, fun H2 s2 => q H2 (s1.trans s2)⟩
end
end Su
/-! ### W2: the rooms of a web; how a web is looked at, of one that is one -/
namespace Su
open PySem PySem.Spec PyProof.Rows L2
def spRoomsIn (w : World) : Sp := fun vs H Q _ => ∃ (p : Addr) (rs : List Rw) (A : List Int), vs = [.ref p] ∧ WebAt H p rs ∧ A.length < 64 ∧ (∀ k ∈ allRooms rs, k ∈ A) ∧
  ∀ (ms : List Int) (u : Addr) (H' : Hp), ms.Pairwise (· < ·) → (∀ k : Int, k ∈ ms ↔ k ∈ allRooms rs) → Same H H' → H u = none → H' u = some (.lst (ms.map V.int)) → Q (.ref u) H'
def spLook : Sp := fun vs H Q _ => ∃ (p : Addr) (rs : List Rw), vs = [.ref p] ∧ WebAt H p rs ∧ WebOk rs ∧ ∀ H', Same H H' → Q .non H'
theorem allRooms_app (a b : List Rw) : allRooms (a ++ b) = allRooms a ++ allRooms b := by
  unfold allRooms
  rw [List.map_append, List.flatten_append]
theorem allRooms_take {rs : List Rw} {i : Nat} {r : Rw} (h : rs[i]? = some r) : allRooms (rs.take (i + 1)) = allRooms (rs.take i) ++ r.1 := by
  rw [List.take_add_one, h, allRooms_app]
  show _ ++ (r.1 ++ []) = _
  rw [List.append_nil]
theorem allRooms_sub {rs : List Rw} {i : Nat} {k : Int} (h : k ∈ allRooms (rs.take i)) : k ∈ allRooms rs := by
  rw [← List.take_append_drop i rs, allRooms_app]
  exact List.mem_append_left _ h
theorem sc_rooms_in : FnScope ["rows", "rooms", "tos", "room"] ["rows"] (defScope s_rooms_in) := ⟨rfl, rfl, rfl, by decide +kernel, rfl, by decide +kernel, by decide +kernel⟩
theorem sc_look_at_web : FnScope ["thing", "number", "row"] ["thing"] (defScope s_look_at_web) := ⟨rfl, rfl, rfl, by decide +kernel, rfl, by decide +kernel, by decide +kernel⟩
section
variable {P : Program} {w : World} {K : PySem.W.Frag} {mg : Str → Option Value} {base : Heap}
theorem ok_rooms_in (T : At K mg "rooms_in" s_rooms_in ["rows"]) (B : Bt mg) : Cal P w K mg base 1 "rooms_in" ["rows"] (spRoomsIn w) := by
  refine cal_of T sc_rooms_in (fun vs H Q E h => ?_) (fun f cdv A outer s H vs Q E hr h => ?_)
  · obtain ⟨p, rs, A, rfl, _⟩ := h
    rfl
  · obtain ⟨p, rs, A, rfl, ⟨ws, hp, hrs⟩, hA, hin, q⟩ := h
    refine ⟨_, (pss_one (ps_ret (pe_callB (cr_sortedSet rfl) (by rfl) B.sorted (by decide +kernel) (pa_cons (pe_sc2 (own := [("rooms", 1), ("tos", 2), ("room", 3)]) (vs1 := [3]) (go := (gTup K 2 (gCons (gName 1) (gCons (gName 2) gNil)))) (wn := iTup K (tVar 1)) (gn := (gName 3)) (te := (tVar 3)) (by rfl) sc_rooms_in.nd (pi_list (pv 0)) (blkOk_by (own := [("rooms", 1), ("tos", 2), ("room", 3)]) (N := ["rows", "rooms", "tos", "room"]) (sc := defScope s_rooms_in) (by decide +kernel)) (by decide) (fun _ _ _ _ _ => (pg_tup (by rfl) (pgs_cons (pg_name (i := 1) sc_rooms_in.nd rfl (Or.inl rfl)) (pgs_cons (pg_name (i := 2) sc_rooms_in.nd rfl (Or.inl rfl)) pgs_nil)))) (fun _ _ _ _ _ => (pi_tup (pv 1))) (fun _ _ _ _ _ => (pg_name (i := 3) sc_rooms_in.nd rfl (Or.inl rfl))) (fun _ _ _ _ _ => (pv 3))) pa_nil)))), ?_⟩
    have hwl := hrs.len
    refine ⟨_, rfl, p, rfl, ⟨_, SqL.of hp⟩, fun D nD => ?_⟩
    refine ⟨fun i m H2 => m = ws.length - i ∧ i ≤ ws.length ∧ Same H H2 ∧ SetIs w H2 D (allRooms (rs.take i)), ⟨ws.length, (Nat.sub_zero _).symm, Nat.zero_le _, same_upd nD, ⟨_, 0, [], upd_same, List.nodup_nil, rfl, fun k => by simp, fun k => by simp [allRooms]⟩⟩, ?_⟩
    rintro i m H2 ⟨rfl, hi, s2, set2⟩
    by_cases hlt : i < ws.length
    · have hx : ws[i]? = some ws[i] := List.getElem?_eq_getElem hlt
      obtain ⟨r, er, a, b, c, ea, ha, hb, hc⟩ := hrs.get hx
      refine .inr ⟨⟨ws, ws[i], SqL.of (s2 _ _ hp), hx⟩, fun H3 => Same H H3 ∧ SetIs w H3 D (allRooms (rs.take (i + 1))), fun H' h => ⟨ws.length - (i + 1), by omega, rfl, hlt, h⟩, fun x H' y => ?_⟩
      obtain ⟨e1, y⟩ := y
      have ex : x = .ref a := by
        have z := y ws (SqL.of (s2 _ _ hp))
        rw [hx] at z
        injection z with z
        rw [← z, ea]
      rw [e1]
      clear e1 y
      subst ex
      refine ⟨a, _, rfl, (ha.same s2).sq, rfl, _, _, rfl, _, _, rfl, rfl, rfl, ?_⟩
      refine ⟨_, rfl, b, rfl, ⟨_, (hb.same s2).sq⟩, ?_⟩
      refine ⟨fun j k H3 => k = r.1.length - j ∧ j ≤ r.1.length ∧ Same H H3 ∧ SetIs w H3 D (allRooms (rs.take i) ++ r.1.take j), ⟨r.1.length, (Nat.sub_zero _).symm, Nat.zero_le _, s2, by rw [List.take_zero, List.append_nil]; exact set2⟩, ?_⟩
      rintro j k H3 ⟨rfl, hj, s3, set3⟩
      by_cases hjt : j < r.1.length
      · have hy : (r.1.map V.int)[j]? = some (V.int r.1[j]) := by
          rw [List.getElem?_map, List.getElem?_eq_getElem hjt]
          rfl
        refine .inr ⟨⟨_, _, (hb.same s3).sq, hy⟩, fun H4 => Same H H4 ∧ SetIs w H4 D (allRooms (rs.take i) ++ r.1.take (j + 1)), fun H' h => ⟨r.1.length - (j + 1), by omega, rfl, hjt, h⟩, fun y H' yl => ?_⟩
        obtain ⟨e2, yl⟩ := yl
        have ey : y = .int r.1[j] := by
          have z := yl _ (hb.same s3).sq
          rw [hy] at z
          injection z with z
          exact z.symm
        rw [e2]
        clear e2 yl
        subst ey
        refine ⟨rfl, _, rfl, ?_⟩
        have sub3 : ∀ k ∈ allRooms (rs.take i) ++ r.1.take j, k ∈ A := by
          intro k hk
          rcases List.mem_append.mp hk with z | z
          · exact hin k (allRooms_sub z)
          · refine hin k (allRooms_sub (i := i + 1) ?_)
            rw [allRooms_take er]
            exact List.mem_append_right _ (List.mem_of_mem_take z)
        obtain ⟨S, n, eD, few, nx⟩ := set3.add (A := A) (by omega) sub3 r.1[j]
        refine ⟨_, S, n, rfl, eD, few, fun c o ec => ?_, ?_⟩
        · rw [upd_ne (ne_of_none ec nD)]
          exact s3 _ _ ec
        · rw [List.take_add_one, List.getElem?_eq_getElem hjt, ← List.append_assoc]
          exact nx _ upd_same
      · have e : j = r.1.length := by omega
        subst e
        rw [List.take_length] at set3
        refine .inl ⟨⟨_, (hb.same s3).sq, by rw [List.length_map]; exact Nat.le_refl _⟩, s3, ?_⟩
        rw [allRooms_take er]
        exact set3
    · have e : i = ws.length := by omega
      subst e
      rw [hwl, List.take_length] at set2
      refine .inl ⟨⟨ws, SqL.of (s2 _ _ hp), Nat.le_refl _⟩, ?_⟩
      obtain ⟨S, n, d, eD, nd, hn, hS, hd⟩ := set2
      have z := nodup_few (S := A) nd fun k hk => hin k ((hd k).mp hk)
      refine ⟨D, S, n, rfl, eD, by omega, fun ms u pw mem _ nu => ?_⟩
      refine q ms u _ pw (fun k => (mem k).trans ((hS k).trans (hd k))) (s2.trans (same_upd nu)) ?_ upd_same
      exact s2.free nu
theorem ok_look (T : At K mg "look_at_web" s_look_at_web ["thing"]) (B : Bt mg) (D : GbW mg) (c_is_row : Cal P w K mg base 4 "is_row" ["thing", "rows"] (spRow K)) (c_rooms_in : Cal P w K mg base 1 "rooms_in" ["rows"] (spRoomsIn w)) : Cal P w K mg base 5 "look_at_web" ["thing"] spLook := by
  obtain ⟨tr, mRows⟩ := D.rows
  obtain ⟨tm, mRooms⟩ := D.rooms
  refine cal_of T sc_look_at_web (fun vs H Q E h => ?_) (fun f cdv A outer s H vs Q E hr h => ?_)
  · obtain ⟨p, rs, rfl, _⟩ := h
    rfl
  · obtain ⟨p, rs, rfl, ⟨ws, hp, hrs⟩, ok, q⟩ := h
    have hwl := hrs.len
    have hpos := ok.pos
    have hfew := ok.few
    refine ⟨_, (pss_cons (ps_if (PW.pt (pw_or (pt_not (pt_val (pe_callB call_isi (by rfl) B.isinstance (by decide +kernel) (pa_cons (pv 0) (pa_cons (pe_bltn (v := .ty "list") (u := .type "list") (by rfl) B.list (by decide +kernel) rfl) pa_nil))))) (pw_or1 (pt_not (pt_chain op_le op_le pe_int (pe_callB call_len_seq (by rfl) B.len PySem.boot_len (pa_cons (pv 0) pa_nil)) (pe_glob (v := .int 80) rfl mRows ⟨_, rfl⟩)))))) (pss_one ps_never) pss_nil)
      (pss_cons (ps_for PassesOwn.never rfl (pi_enum (by rfl) B.enumerate (pa_cons (pv 0) pa_nil)) (pg_tup (by rfl) (pgs_cons (pg_name (i := 1) sc_look_at_web.nd rfl (Or.inl rfl)) (pgs_cons (pg_name (i := 2) sc_look_at_web.nd rfl (Or.inl rfl)) pgs_nil))) (pss_one (ps_if (pt_not (pt_val (pe_own c_is_row hr (by decide) (by rfl) (pa_cons (pv 2) (pa_cons (pe_callB call_len_seq (by rfl) B.len PySem.boot_len (pa_cons (pv 0) pa_nil)) pa_nil))))) (pss_one ps_never) pss_nil)))
      (pss_one (ps_if (pt_cmpR op_gt (pe_callB call_len_seq (by rfl) B.len PySem.boot_len (pa_cons (pe_own c_rooms_in hr (by decide) (by rfl) (pa_cons (pv 0) pa_nil)) pa_nil)) (pe_glob (v := .int 12) rfl mRooms ⟨_, rfl⟩) (nomark _)) (pss_one ps_never) pss_nil)))), ?_⟩
    refine ⟨_, rfl, .ref p, .ty "list", .type "list", .type "list", true, rfl, .ty "list", .base (.lst hp), kit_ty (by decide +kernel), _, rfl, iteF ?_⟩
    refine ⟨_, rfl, p, _, rfl, .inl (SqL.of hp), _, _, rfl, rfl, _, rfl, iteB (fun _ => ?_) (fun z => absurd (of_decide_eq_false z) (by omega))⟩
    refine ⟨_, _, rfl, rfl, _, rfl, ?_⟩
    rw [show decide ((ws.length : Int) ≤ 80) = true from decide_eq_true (by omega)]
    refine iteF ?_
    refine ⟨_, rfl, p, _, rfl, SqL.of hp, ?_⟩
    refine for_enumS (K := K) (a := p) (xs := ws) (fun i σ H2 => ∃ y1 y2 : Option V, σ = [some (.ref p), y1, y2] ∧ Same H H2) ?_ ?_ ?_ ?_
    · exact ⟨none, none, rfl, Same.refl H⟩
    · rintro i σ H2 _ ⟨_, _, _, s2⟩
      exact SqL.of (s2 _ _ hp)
    · rintro i x σ H2 T hx ⟨y1, y2, rfl, s2⟩ nT
      obtain ⟨r, er, hrow⟩ := hrs.get hx
      have sT : Same H2 (upd H2 T (.tup [.int (i : Nat), x])) := same_upd nT
      refine ⟨T, _, rfl, SqT.of upd_same, rfl, _, _, rfl, _, _, rfl, rfl, ?_⟩
      refine ⟨_, rfl, _, rfl, p, _, rfl, .inl (SqL.of (sT _ _ (s2 _ _ hp))), x, r, ws.length, rfl, hrow.keep (K2.same (s2.trans sT)), (by rw [hwl]; exact ok.row r (List.mem_of_getElem? er)), by omega, fun H3 s3 => ?_⟩
      refine ⟨_, rfl, iteF ?_⟩
      exact ⟨_, _, rfl, (s2.trans sT).trans s3⟩
    · rintro σ H2 ⟨y1, y2, rfl, s2⟩
      obtain ⟨A, hA, hin⟩ := ok.all
      refine ⟨_, rfl, p, rs, A, rfl, ⟨ws, s2 _ _ hp, hrs.keep (K2.same s2)⟩, by omega, hin, fun ms u H3 pw mem s3 nu hu => ?_⟩
      have few := nodup_few (S := A) (ms := ms) (pw.imp fun h => Int.ne_of_lt h) fun k hk => hin k ((mem k).mp hk)
      refine ⟨u, _, rfl, .inl (SqL.of hu), _, _, rfl, rfl, _, rfl, iteB (fun z => absurd (of_decide_eq_true z) (by rw [List.length_map]; omega)) (fun _ => ?_)⟩
      exact q H3 (s2.trans s3)
end
end Su
/-! ### W1G: how a row of a web is looked at, of a thing of any kind -/
namespace Su.GW
open PySem PySem.Spec PyProof.Rows L2
structure GbW (mg : Str → Option Value) : Prop where
  last : ∃ t, mg "LAST_ROOM" = some (.int 99 t)
  rows : ∃ t, mg "MOST_ROWS" = some (.int 80 t)
  rooms : ∃ t, mg "MOST_ROOMS" = some (.int 12 t)
def wholeG : G → Bool
  | .int _ => true
  | _ => false
/-- a whole number from 0, below n -/
def inG (n : Int) : G → Bool
  | .int i => decide (0 ≤ i) && decide (i < n)
  | _ => false
def valI : G → Int
  | .int i => i
  | _ => 0
def ups (ns : List Int) : List Bool := (ns.zip (ns.drop 1)).map fun p => decide (p.1 < p.2)
def risG (n : Int) (gs : List G) : Bool := (gs.map (inG n)).all id && (ups (gs.map valI)).all id
def roomsG (lo hi : Int) : G → Bool
  | .tup gs => (decide (lo ≤ (gs.length : Int)) && decide ((gs.length : Int) ≤ hi)) && risG 100 gs
  | _ => false
def tosG (n : Int) : G → Bool
  | .tup gs => decide ((gs.length : Int) ≤ n) && risG n gs
  | _ => false
def rowG (n : Int) : G → Bool
  | .tup [x, y] => roomsG 0 6 x && tosG n y
  | _ => false
theorem ups_get {ns : List Int} {i : Nat} {a b : Int} (e1 : ns[i]? = some a) (e2 : ns[1 + i]? = some b) : (ups ns)[i]? = some (decide (a < b)) := by
  unfold ups
  have z : (ns.zip (ns.drop 1))[i]? = some (a, b) := List.getElem?_zip_eq_some.mpr ⟨e1, by rw [List.getElem?_drop]; exact e2⟩
  rw [List.getElem?_map, z]
  rfl
theorem take_one {α : Type} {l : List α} {i : Nat} {x : α} (e : l[i]? = some x) : l.take (i + 1) = l.take i ++ [x] := by
  rw [List.take_add_one, e]
  rfl
theorem ints_of_all {p : Addr} {H : Hp} {n : Int} : ∀ {vs : List V} {gs : List G}, TgL p H vs gs → (gs.map (inG n)).all id = true → vs = (gs.map valI).map V.int
  | _, _, .nil, _ => rfl
  | _, _, .cons (d := d) h t, e => by
    rw [List.map_cons, List.all_cons, Bool.and_eq_true] at e
    rw [List.map_cons, List.map_cons, ← ints_of_all t e.2]
    cases h with
    | int i => rfl
    | _ => cases e.1
def spWhole : Sp := fun vs H Q _ => ∃ (p : Addr) (v : V) (g : G), vs = [v] ∧ Tg p H v g ∧ Q (.bl (wholeG g)) H
def spRoom : Sp := fun vs H Q _ => ∃ (p : Addr) (v : V) (g : G), vs = [v] ∧ Tg p H v g ∧ Q (.bl (inG 100 g)) H
def spRising : Sp := fun vs H Q _ => ∃ (a : Addr) (ns : List Int), vs = [.ref a] ∧ T2 H a (ns.map V.int) ∧ ns.length ≤ 1000 ∧ ∀ H', Same H H' → Q (.bl ((ups ns).all id)) H'
def spRooms : Sp := fun vs H Q _ => ∃ (p : Addr) (v : V) (g : G) (lo hi : Int), vs = [v, .int lo, .int hi] ∧ Tg p H v g ∧ hi ≤ 1000 ∧ ∀ H', Same H H' → Q (.bl (roomsG lo hi g)) H'
def spTos : Sp := fun vs H Q _ => ∃ (p : Addr) (v : V) (g : G) (n : Int), vs = [v, .int n] ∧ Tg p H v g ∧ n ≤ 1000 ∧ ∀ H', Same H H' → Q (.bl (tosG n g)) H'
def spRow : Sp := fun vs H Q _ => ∃ (p : Addr) (v : V) (g : G) (n : Int), vs = [v, .int n] ∧ Tg p H v g ∧ n ≤ 1000 ∧ ∀ H', Same H H' → Q (.bl (rowG n g)) H'
theorem sc_is_whole : FnScope ["thing"] ["thing"] (defScope s_is_whole) := ⟨rfl, rfl, rfl, by decide +kernel, rfl, by decide +kernel, by decide +kernel⟩
theorem sc_is_room : FnScope ["thing"] ["thing"] (defScope s_is_room) := ⟨rfl, rfl, rfl, by decide +kernel, rfl, by decide +kernel, by decide +kernel⟩
theorem sc_are_rising : FnScope ["numbers", "one", "other"] ["numbers"] (defScope s_are_rising) := ⟨rfl, rfl, rfl, by decide +kernel, rfl, by decide +kernel, by decide +kernel⟩
theorem sc_are_rooms : FnScope ["thing", "least", "most", "room"] ["thing", "least", "most"] (defScope s_are_rooms) := ⟨rfl, rfl, rfl, by decide +kernel, rfl, by decide +kernel, by decide +kernel⟩
theorem sc_are_tos : FnScope ["thing", "rows", "to"] ["thing", "rows"] (defScope s_are_tos) := ⟨rfl, rfl, rfl, by decide +kernel, rfl, by decide +kernel, by decide +kernel⟩
theorem sc_is_row : FnScope ["thing", "rows"] ["thing", "rows"] (defScope s_is_row) := ⟨rfl, rfl, rfl, by decide +kernel, rfl, by decide +kernel, by decide +kernel⟩
section
variable {P : Program} {w : World} {K : PySem.W.Frag} {mg : Str → Option Value} {base : Heap}
theorem whole_int {p : Addr} {H : Hp} {v : V} {g : G} (h : Tg p H v g) (e : wholeG g = true) : ∃ i, v = .int i ∧ g = .int i := by
  cases h with
  | int i => exact ⟨i, rfl, rfl⟩
  | _ => cases e
theorem ok_whole (T : At K mg "is_whole" s_is_whole ["thing"]) (B : Bt mg) : Cal P w K mg base 1 "is_whole" ["thing"] spWhole := by
  refine cal_of T sc_is_whole (fun vs H Q E h => ?_) (fun f cdv A outer s H vs Q E hr h => ?_)
  · obtain ⟨p, v, g, rfl, _⟩ := h
    rfl
  · obtain ⟨p, v, g, rfl, hv, q⟩ := h
    refine ⟨_, (pss_one (ps_ret (pe_and (pe_callB call_isi (by rfl) B.isinstance (by decide +kernel) (pa_cons (pv 0) (pa_cons (pe_bltn (v := .ty "int") (u := .type "int") (by rfl) B.int (by decide +kernel) rfl) pa_nil))) (pe_one (pe_not (pe_callB call_isi (by rfl) B.isinstance (by decide +kernel) (pa_cons (pv 0) (pa_cons (pe_bltn (v := .ty "bool") (u := .type "bool") (by rfl) B.bool (by decide +kernel) rfl) pa_nil)))))))), ?_⟩
    refine ⟨_, rfl, v, .ty "int", _, _, _, rfl, .ty "int", hv.ty, kit_int g, _, rfl, iteB (fun e => ?_) (fun e => ?_)⟩
    · refine ⟨_, rfl, v, .ty "bool", _, _, _, rfl, .ty "bool", hv.ty, kit_bool g, _, rfl, ?_⟩
      rw [show (!isBool g) = wholeG g from by cases g <;> first | rfl | cases e]
      exact q
    · rw [show false = wholeG g from by cases g <;> first | rfl | cases e]
      exact q
theorem ok_room (T : At K mg "is_room" s_is_room ["thing"]) (D : GbW mg) (c_is_whole : Cal P w K mg base 1 "is_whole" ["thing"] spWhole) : Cal P w K mg base 2 "is_room" ["thing"] spRoom := by
  obtain ⟨tl, mLast⟩ := D.last
  refine cal_of T sc_is_room (fun vs H Q E h => ?_) (fun f cdv A outer s H vs Q E hr h => ?_)
  · obtain ⟨p, v, g, rfl, _⟩ := h
    rfl
  · obtain ⟨p, v, g, rfl, hv, q⟩ := h
    refine ⟨_, (pss_one (ps_ret (pe_and (pe_own c_is_whole hr (by decide) (by rfl) (pa_cons (pv 0) pa_nil)) (pe_one (pe_chain op_le op_le pe_int (pv 0) (pe_glob (v := .int 99) rfl mLast ⟨_, rfl⟩)))))), ?_⟩
    refine ⟨_, rfl, p, v, g, rfl, hv, _, rfl, iteB (fun e => ?_) (fun e => ?_)⟩
    · obtain ⟨i, rfl, rfl⟩ := whole_int hv e
      refine ⟨_, rfl, _, _, rfl, rfl, _, rfl, iteB (fun e1 => ?_) (fun e1 => ?_)⟩
      · refine ⟨_, _, rfl, rfl, ?_⟩
        have z : decide (i ≤ 99) = inG 100 (.int i) := by
          show decide (i ≤ 99) = (decide (0 ≤ i) && decide (i < 100))
          rw [e1, Bool.true_and]
          exact decide_eq_decide.mpr (by omega)
        rw [← z] at q
        exact q
      · rw [show false = inG 100 (.int i) from by show false = (decide (0 ≤ i) && decide (i < 100)); rw [e1, Bool.false_and]]
        exact q
    · rw [show false = inG 100 g from by cases g <;> first | rfl | cases e]
      exact q
theorem ok_rising (T : At K mg "are_rising" s_are_rising ["numbers"]) (B : Bt mg) : Cal P w K mg base 1 "are_rising" ["numbers"] spRising := by
  refine cal_of T sc_are_rising (fun vs H Q E h => ?_) (fun f cdv A outer s H vs Q E hr h => ?_)
  · obtain ⟨a, ns, rfl, _⟩ := h
    rfl
  · obtain ⟨a, ns, rfl, ha, hl, q⟩ := h
    refine ⟨_, (pss_one (ps_ret (pe_callB (cr_all rfl) (by rfl) B.all (by decide +kernel) (pa_cons (pe_lc (own := [("one", 1), ("other", 2)]) (g := (gTup K 2 (gCons (gName 1) (gCons (gName 2) gNil)))) (tt := tYes) (te := (tOp (rI0 fun i j => .bl (decide (i < j))) (tVar 1) (tVar 2))) (by rfl) sc_are_rising.nd (RZ.pi_zipA (by rfl) B.zip (pa_cons (pv 0) (pa_cons (pe_slice sl_tup2 (pv 0) (po_some pe_int) po_none) pa_nil))) (blkOk_by (own := [("one", 1), ("other", 2)]) (N := ["numbers", "one", "other"]) (sc := defScope s_are_rising) (by decide +kernel)) (fun _ _ _ _ _ => (pg_tup (by rfl) (pgs_cons (pg_name (i := 1) sc_are_rising.nd rfl (Or.inl rfl)) (pgs_cons (pg_name (i := 2) sc_are_rising.nd rfl (Or.inl rfl)) pgs_nil)))) (fun _ _ _ _ _ => pts_nil) (fun _ _ _ _ _ => (pe_cmpR op_lt (pv 1) (pv 2) (nomark _)))) pa_nil)))), ?_⟩
    refine ⟨_, rfl, _, rfl, 1, rfl, a, _, rfl, ha, fun b H1 s1 hb => ?_⟩
    rw [cut_tail, ← List.map_drop] at hb
    refine ⟨a, b, _, _, rfl, .inr ⟨(ha.same s1).sq, hb.sq, fun D nD => ?_⟩⟩
    refine lc_zipT (K := K) (a := a) (b := b) (xs := ns.map V.int) (ys := (ns.drop 1).map V.int) (by rw [List.length_map, List.length_map, List.length_drop]; omega) (fun i H2 => Same H H2 ∧ T2 H2 a (ns.map V.int) ∧ T2 H2 b ((ns.drop 1).map V.int) ∧ H2 D = some (.lst (((ups ns).take i).map V.bl))) ?_ ?_ ?_ ?_
    · have sD : Same H1 (upd H1 D (.lst [])) := same_upd nD
      exact ⟨s1.trans sD, (ha.same s1).same sD, hb.same sD, upd_same⟩
    · rintro i H2 _ ⟨_, h1, h2, _⟩
      exact ⟨h1.sq, h2.sq⟩
    · rintro i x y T H2 hx hy ⟨s2, h1, h2, hD⟩ nT
      have sT : Same H2 (upd H2 T (.tup [x, y])) := same_upd nT
      rw [List.getElem?_map] at hx hy
      rw [List.getElem?_drop] at hy
      obtain ⟨n1, e1, rfl⟩ := Option.map_eq_some_iff.mp hx
      obtain ⟨n2, e2, rfl⟩ := Option.map_eq_some_iff.mp hy
      have hi : i < ns.length := (List.getElem?_eq_some_iff.mp e1).1
      refine ⟨T, _, rfl, SqT.of upd_same, rfl, _, _, rfl, _, _, rfl, rfl, rfl, tyes ?_⟩
      refine ⟨_, rfl, _, rfl, _, _, rfl, rfl, ((ups ns).take i).map V.bl, sT _ _ hD, ?_, ?_⟩
      · rw [List.length_map, List.length_take]
        exact small1000 (by omega)
      · have h3 := sT _ _ hD
        have k3 := (K2.same sT).trans (K2.lst (u := .lst (((ups ns).take (i + 1)).map V.bl)) h3)
        show _ ∧ _ ∧ _ ∧ _
        rw [take_one (ups_get e1 e2), List.map_append] at k3 ⊢
        refine ⟨fun c o ec => ?_, k3 _ _ h1, k3 _ _ h2, upd_same⟩
        rw [upd_ne (ne_of_none (s1 _ _ ec) nD)]
        exact sT _ _ (s2 _ _ ec)
    · rintro H2 ⟨s2, h1, h2, hD⟩
      refine ⟨D, ups ns, rfl, ?_, ?_⟩
      · rw [List.take_of_length_le (by unfold ups; rw [List.length_map, List.length_zip, List.length_map]; omega)] at hD
        exact SqL.of hD
      · exact q H2 s2
theorem ok_rooms (T : At K mg "are_rooms" s_are_rooms ["thing", "least", "most"]) (B : Bt mg) (c_is_room : Cal P w K mg base 2 "is_room" ["thing"] spRoom) (c_are_rising : Cal P w K mg base 1 "are_rising" ["numbers"] spRising) :
    Cal P w K mg base 3 "are_rooms" ["thing", "least", "most"] spRooms := by
  refine cal_of T sc_are_rooms (fun vs H Q E h => ?_) (fun f cdv A outer s H vs Q E hr h => ?_)
  · obtain ⟨p, v, g, lo, hi, rfl, _⟩ := h
    rfl
  · obtain ⟨p, v, g, lo, hi, rfl, hv, hm, q⟩ := h
    refine ⟨_, (pss_cons (ps_if (PW.pt (pw_or (pt_not (pt_val (pe_callB call_isi (by rfl) B.isinstance (by decide +kernel) (pa_cons (pv 0) (pa_cons (pe_bltn (v := .ty "tuple") (u := .type "tuple") (by rfl) B.tuple (by decide +kernel) rfl) pa_nil))))) (pw_or1 (pt_not (pt_chain op_le op_le (pv 1) (pe_callB call_len_seq (by rfl) B.len PySem.boot_len (pa_cons (pv 0) pa_nil)) (pv 2)))))) (pss_one (ps_ret pe_bl)) pss_nil)
      (pss_one (ps_ret (pe_and (pe_callB (cr_all rfl) (by rfl) B.all (by decide +kernel) (pa_cons (pe_lc (own := [("room", 3)]) (g := (gName 3)) (tt := tYes) (te := (tCall spRoom [] E0 (tCons (tVar 3) tNil))) (by rfl) sc_are_rooms.nd (pi_tup (pv 0)) (blkOk_by (own := [("room", 3)]) (N := ["thing", "least", "most", "room"]) (sc := defScope s_are_rooms) (by decide +kernel)) (fun _ _ _ _ _ => (pg_name (i := 3) sc_are_rooms.nd rfl (Or.inl rfl))) (fun _ _ _ _ _ => pts_nil) (fun _ _ _ _ _ => (pe_own c_is_room hr (by decide) (by rfl) (pa_cons (pv 3) pa_nil)))) pa_nil)) (pe_one (pe_own c_are_rising hr (by decide) (by rfl) (pa_cons (pv 0) pa_nil))))))), ?_⟩
    refine ⟨_, rfl, v, .ty "tuple", _, _, _, rfl, .ty "tuple", hv.ty, kit_tuple g, _, rfl, iteB (fun e => ?_) (fun e => ?_)⟩
    · refine iteT ?_
      rw [show false = roomsG lo hi g from by cases g <;> first | rfl | cases e]
      exact q H (Same.refl H)
    cases hv with
    | @tup a vs gs ha t =>
      have hlen : vs.length = gs.length := t.len
      refine ⟨_, rfl, _, rfl, a, _, rfl, .inr ha.sq, _, _, rfl, rfl, _, rfl, iteB (fun e1 => ?_) (fun e1 => ?_)⟩
      · refine ⟨_, rfl, _, _, rfl, rfl, _, rfl, ?_⟩
        rw [hlen] at e1 ⊢
        refine iteB (fun e2 => ?_) (fun e2 => ?_)
        · have e3 : decide ((gs.length : Int) ≤ hi) = false := by simpa using e2
          have z : false = roomsG lo hi (.tup gs) := by
            show false = ((decide (lo ≤ (gs.length : Int)) && decide ((gs.length : Int) ≤ hi)) && risG 100 gs)
            rw [e3, Bool.and_false, Bool.false_and]
          rw [z]
          exact q H (Same.refl H)
        · have e3 : decide ((gs.length : Int) ≤ hi) = true := by simpa using e2
          have small : gs.length ≤ 1000 := by
            have := of_decide_eq_true e3
            omega
          have z : roomsG lo hi (.tup gs) = risG 100 gs := by
            show ((decide (lo ≤ (gs.length : Int)) && decide ((gs.length : Int) ≤ hi)) && risG 100 gs) = _
            rw [e1, e3, Bool.true_and, Bool.true_and]
          refine ⟨_, rfl, a, rfl, ⟨_, ha.sq⟩, fun D nD => ?_⟩
          refine lc_tup (K := K) (a := a) (xs := vs) (fun i H2 => Same H H2 ∧ T2 H2 a vs ∧ H2 D = some (.lst (((gs.map (inG 100)).take i).map V.bl))) ?_ ?_ ?_ ?_
          · have sD : Same H (upd H D (.lst [])) := same_upd nD
            exact ⟨sD, ha.same sD, upd_same⟩
          · rintro i H2 _ ⟨_, h3, _⟩
            exact h3.sq
          · rintro i x H2 hx ⟨s2, h3, hD⟩
            obtain ⟨g1, e4, tg⟩ := t.get hx
            have hi : i < gs.length := (List.getElem?_eq_some_iff.mp e4).1
            refine ⟨rfl, tyes ?_⟩
            refine ⟨_, rfl, p, x, g1, rfl, tg.keep (Keeps.same s2), ((gs.map (inG 100)).take i).map V.bl, hD, (by rw [List.length_map, List.length_take, List.length_map]; exact small1000 (by omega)), ?_⟩
            rw [take_one (x := inG 100 g1) (by rw [List.getElem?_map, e4]; rfl), List.map_append]
            refine ⟨fun c o ec => ?_, K2.lst hD _ _ h3, upd_same⟩
            rw [upd_ne (ne_of_none ec nD)]
            exact s2 _ _ ec
          · rintro H2 ⟨s2, h3, hD⟩
            rw [List.take_of_length_le (by rw [List.length_map]; omega)] at hD
            refine ⟨D, gs.map (inG 100), rfl, SqL.of hD, _, rfl, iteB (fun e5 => ?_) (fun e5 => ?_)⟩
            · rw [ints_of_all t e5] at h3
              refine ⟨_, rfl, a, _, rfl, h3, (by rw [List.length_map]; exact small), fun H3 s3 => ?_⟩
              have q3 := q H3 (s2.trans s3)
              rw [z] at q3
              unfold risG at q3
              rw [e5, Bool.true_and] at q3
              exact q3
            · have q3 := q H2 s2
              rw [z] at q3
              unfold risG at q3
              rw [e5, Bool.false_and] at q3
              exact q3
      · refine ⟨_, rfl, iteT ?_⟩
        rw [hlen] at e1
        have z : false = roomsG lo hi (.tup gs) := by
          show false = ((decide (lo ≤ (gs.length : Int)) && decide ((gs.length : Int) ≤ hi)) && risG 100 gs)
          rw [e1, Bool.false_and, Bool.false_and]
        rw [z]
        exact q H (Same.refl H)
    | _ => cases e
theorem ok_tos (T : At K mg "are_tos" s_are_tos ["thing", "rows"]) (B : Bt mg) (c_is_whole : Cal P w K mg base 1 "is_whole" ["thing"] spWhole) (c_are_rising : Cal P w K mg base 1 "are_rising" ["numbers"] spRising) :
    Cal P w K mg base 2 "are_tos" ["thing", "rows"] spTos := by
  refine cal_of T sc_are_tos (fun vs H Q E h => ?_) (fun f cdv A outer s H vs Q E hr h => ?_)
  · obtain ⟨p, v, g, n, rfl, _⟩ := h
    rfl
  · obtain ⟨p, v, g, n, rfl, hv, hm, q⟩ := h
    refine ⟨_, (pss_cons (ps_if (PW.pt (pw_or (pt_not (pt_val (pe_callB call_isi (by rfl) B.isinstance (by decide +kernel) (pa_cons (pv 0) (pa_cons (pe_bltn (v := .ty "tuple") (u := .type "tuple") (by rfl) B.tuple (by decide +kernel) rfl) pa_nil))))) (pw_or1 (pt_cmpR op_gt (pe_callB call_len_seq (by rfl) B.len PySem.boot_len (pa_cons (pv 0) pa_nil)) (pv 1) (nomark _))))) (pss_one (ps_ret pe_bl)) pss_nil)
      (pss_one (ps_ret (pe_and (pe_callB (cr_all rfl) (by rfl) B.all (by decide +kernel) (pa_cons (pe_lc (own := [("to", 2)]) (g := (gName 2)) (tt := tYes) (te := (tAndV (tCall spWhole [] E0 (tCons (tVar 2) tNil)) (tChain (rI0 fun i j => .bl (decide (i ≤ j))) (rI0 fun i j => .bl (decide (i < j))) (tC (.int 0)) (tVar 2) (tVar 1)))) (by rfl) sc_are_tos.nd (pi_tup (pv 0)) (blkOk_by (own := [("to", 2)]) (N := ["thing", "rows", "to"]) (sc := defScope s_are_tos) (by decide +kernel)) (fun _ _ _ _ _ => (pg_name (i := 2) sc_are_tos.nd rfl (Or.inl rfl))) (fun _ _ _ _ _ => pts_nil) (fun _ _ _ _ _ => (pe_and (pe_own c_is_whole hr (by decide) (by rfl) (pa_cons (pv 2) pa_nil)) (pe_one (pe_chain op_le op_lt pe_int (pv 2) (pv 1)))))) pa_nil)) (pe_one (pe_own c_are_rising hr (by decide) (by rfl) (pa_cons (pv 0) pa_nil))))))), ?_⟩
    refine ⟨_, rfl, v, .ty "tuple", _, _, _, rfl, .ty "tuple", hv.ty, kit_tuple g, _, rfl, iteB (fun e => ?_) (fun e => ?_)⟩
    · refine iteT ?_
      rw [show false = tosG n g from by cases g <;> first | rfl | cases e]
      exact q H (Same.refl H)
    cases hv with
    | @tup a vs gs ha t =>
      have hlen : vs.length = gs.length := t.len
      refine ⟨_, rfl, a, _, rfl, .inr ha.sq, _, rfl, _, _, rfl, rfl, _, rfl, ?_⟩
      rw [hlen]
      refine iteB (fun e1 => ?_) (fun e1 => ?_)
      · have e3 : decide ((gs.length : Int) ≤ n) = false := decide_eq_false (by have := of_decide_eq_true e1; omega)
        have z : false = tosG n (.tup gs) := by
          show false = (decide ((gs.length : Int) ≤ n) && risG n gs)
          rw [e3, Bool.false_and]
        rw [z]
        exact q H (Same.refl H)
      · have e3 : decide ((gs.length : Int) ≤ n) = true := decide_eq_true (by have := of_decide_eq_false e1; omega)
        have small : gs.length ≤ 1000 := by
          have := of_decide_eq_true e3
          omega
        have z : tosG n (.tup gs) = risG n gs := by
          show (decide ((gs.length : Int) ≤ n) && risG n gs) = _
          rw [e3, Bool.true_and]
        refine ⟨_, rfl, a, rfl, ⟨_, ha.sq⟩, fun D nD => ?_⟩
        refine lc_tup (K := K) (a := a) (xs := vs) (fun i H2 => Same H H2 ∧ T2 H2 a vs ∧ H2 D = some (.lst (((gs.map (inG n)).take i).map V.bl))) ?_ ?_ ?_ ?_
        · have sD : Same H (upd H D (.lst [])) := same_upd nD
          exact ⟨sD, ha.same sD, upd_same⟩
        · rintro i H2 _ ⟨_, h3, _⟩
          exact h3.sq
        · rintro i x H2 hx ⟨s2, h3, hD⟩
          obtain ⟨g1, e4, tg⟩ := t.get hx
          have hi : i < gs.length := (List.getElem?_eq_some_iff.mp e4).1
          have fin : ∀ b : Bool, b = inG n g1 → ∃ acc, H2 D = some (.lst acc) ∧ acc.length < sizeLine ∧ (Same H (upd H2 D (.lst (acc ++ [V.bl b]))) ∧ T2 (upd H2 D (.lst (acc ++ [V.bl b]))) a vs ∧ (upd H2 D (.lst (acc ++ [V.bl b]))) D = some (.lst (((gs.map (inG n)).take (i + 1)).map V.bl))) := by
            rintro b rfl
            refine ⟨((gs.map (inG n)).take i).map V.bl, hD, (by rw [List.length_map, List.length_take, List.length_map]; exact small1000 (by omega)), ?_⟩
            rw [take_one (x := inG n g1) (by rw [List.getElem?_map, e4]; rfl), List.map_append]
            refine ⟨fun c o ec => ?_, K2.lst hD _ _ h3, upd_same⟩
            rw [upd_ne (ne_of_none ec nD)]
            exact s2 _ _ ec
          refine ⟨rfl, tyes ?_⟩
          refine ⟨_, rfl, p, x, g1, rfl, tg.keep (Keeps.same s2), _, rfl, iteB (fun e5 => ?_) (fun e5 => ?_)⟩
          · obtain ⟨j, rfl, rfl⟩ := whole_int tg e5
            refine ⟨_, rfl, _, _, rfl, rfl, _, rfl, iteB (fun e6 => ?_) (fun e6 => ?_)⟩
            · refine ⟨_, rfl, _, _, rfl, rfl, fin _ ?_⟩
              show decide (j < n) = (decide (0 ≤ j) && decide (j < n))
              rw [e6, Bool.true_and]
            · refine fin _ ?_
              show false = (decide (0 ≤ j) && decide (j < n))
              rw [e6, Bool.false_and]
          · refine fin _ ?_
            cases g1 <;> first | rfl | cases e5
        · rintro H2 ⟨s2, h3, hD⟩
          rw [List.take_of_length_le (by rw [List.length_map]; omega)] at hD
          refine ⟨D, gs.map (inG n), rfl, SqL.of hD, _, rfl, iteB (fun e5 => ?_) (fun e5 => ?_)⟩
          · rw [ints_of_all t e5] at h3
            refine ⟨_, rfl, a, _, rfl, h3, (by rw [List.length_map]; exact small), fun H3 s3 => ?_⟩
            have q3 := q H3 (s2.trans s3)
            rw [z] at q3
            unfold risG at q3
            rw [e5, Bool.true_and] at q3
            exact q3
          · have q3 := q H2 s2
            rw [z] at q3
            unfold risG at q3
            rw [e5, Bool.false_and] at q3
            exact q3
    | _ => cases e
theorem ok_row (T : At K mg "is_row" s_is_row ["thing", "rows"]) (B : Bt mg) (c_are_rooms : Cal P w K mg base 3 "are_rooms" ["thing", "least", "most"] spRooms) (c_are_tos : Cal P w K mg base 2 "are_tos" ["thing", "rows"] spTos) :
    Cal P w K mg base 4 "is_row" ["thing", "rows"] spRow := by
  refine cal_of T sc_is_row (fun vs H Q E h => ?_) (fun f cdv A outer s H vs Q E hr h => ?_)
  · obtain ⟨p, v, g, n, rfl, _⟩ := h
    rfl
  · obtain ⟨p, v, g, n, rfl, hv, hm, q⟩ := h
    refine ⟨_, (pss_cons (ps_if (PW.pt (pw_or (pt_not (pt_val (pe_callB call_isi (by rfl) B.isinstance (by decide +kernel) (pa_cons (pv 0) (pa_cons (pe_bltn (v := .ty "tuple") (u := .type "tuple") (by rfl) B.tuple (by decide +kernel) rfl) pa_nil))))) (pw_or1 (pt_cmpR op_ne (pe_callB call_len_seq (by rfl) B.len PySem.boot_len (pa_cons (pv 0) pa_nil)) pe_int (nomark _))))) (pss_one (ps_ret pe_bl)) pss_nil)
      (pss_one (ps_ret (pe_and (pe_own c_are_rooms hr (by decide) (by rfl) (pa_cons (pe_ix ix_tup (pv 0) pe_int (fun _ _ => rfl)) (pa_cons pe_int (pa_cons pe_int pa_nil)))) (pe_one (pe_own c_are_tos hr (by decide) (by rfl) (pa_cons (pe_ix ix_tup (pv 0) pe_int (fun _ _ => rfl)) (pa_cons (pv 1) pa_nil)))))))), ?_⟩
    refine ⟨_, rfl, v, .ty "tuple", _, _, _, rfl, .ty "tuple", hv.ty, kit_tuple g, _, rfl, iteB (fun e => ?_) (fun e => ?_)⟩
    · refine iteT ?_
      rw [show false = rowG n g from by cases g <;> first | rfl | cases e]
      exact q H (Same.refl H)
    cases hv with
    | @tup a vs gs ha t =>
      have hlen : vs.length = gs.length := t.len
      refine ⟨_, rfl, a, _, rfl, .inr ha.sq, rfl, _, rfl, ?_⟩
      match gs, vs, t, hlen, ha, q with
      | [], [], _, _, _, q => exact iteT (q H (Same.refl H))
      | [_], [_], _, _, _, q => exact iteT (q H (Same.refl H))
      | _ :: _ :: _ :: _, _ :: _ :: _ :: _, _, _, _, q =>
        refine iteB (fun _ => q H (Same.refl H)) (fun z => ?_)
        simp at z
        omega
      | [x, y], [v1, v2], .cons tx (.cons ty _), _, ha, q =>
        refine iteNS rfl ?_
        refine ⟨_, rfl, _, _, _, _, rfl, rfl, ha.sq, atI_nat (j := 0) rfl, p, v1, x, 0, 6, rfl, tx, by decide, fun H1 s1 => ?_⟩
        refine ⟨_, rfl, iteB (fun e5 => ?_) (fun e5 => ?_)⟩
        · refine ⟨_, rfl, _, _, _, _, rfl, rfl, (ha.same s1).sq, atI_nat (j := 1) rfl, _, rfl, p, v2, y, n, rfl, ty.keep (Keeps.same s1), hm, fun H2 s2 => ?_⟩
          have q3 := q H2 (s1.trans s2)
          rw [show rowG n (.tup [x, y]) = (roomsG 0 6 x && tosG n y) from rfl, e5, Bool.true_and] at q3
          exact q3
        · have q3 := q H1 s1
          rw [show rowG n (.tup [x, y]) = (roomsG 0 6 x && tosG n y) from rfl, e5, Bool.false_and] at q3
          exact q3
    | _ => cases e
end
end Su.GW
/-! ### W2G: the rooms of a web; how a thing of any kind is looked at as a web -/
namespace Su.GW
open PySem PySem.Spec PyProof.Rows L2
def spRoomsIn (w : World) : Sp := fun vs H Q _ => ∃ (p : Addr) (rs : List Rw) (A : List Int), vs = [.ref p] ∧ WebAt H p rs ∧ A.length < 1000 ∧ (∀ k ∈ allRooms rs, k ∈ A) ∧
  ∀ (ms : List Int) (u : Addr) (H' : Hp), ms.Pairwise (· < ·) → (∀ k : Int, k ∈ ms ↔ k ∈ allRooms rs) → Same H H' → H u = none → H' u = some (.lst (ms.map V.int)) → Q (.ref u) H'
def rwOf : G → Rw
  | .tup [.tup rs, .tup ts] => (rs.map valI, ts.map valI)
  | _ => ([], [])
/-- the first that is not so -/
def badAt (f : G → Bool) : List G → Option Nat
  | [] => none
  | g :: gs => if f g = true then (badAt f gs).map (· + 1) else some 0
/-- the rooms, each once -/
def oneEach : List Int → List Int
  | [] => []
  | a :: l => if a ∈ oneEach l then oneEach l else a :: oneEach l
theorem oneEach_mem (k : Int) : ∀ l : List Int, k ∈ oneEach l ↔ k ∈ l
  | [] => Iff.rfl
  | a :: l => by
    unfold oneEach
    by_cases h : a ∈ oneEach l
    · rw [if_pos h, oneEach_mem k l, List.mem_cons]
      constructor
      · exact .inr
      · rintro (rfl | z)
        · exact (oneEach_mem k l).mp h
        · exact z
    · rw [if_neg h, List.mem_cons, List.mem_cons, oneEach_mem k l]
theorem oneEach_nodup : ∀ l : List Int, (oneEach l).Nodup
  | [] => List.nodup_nil
  | a :: l => by
    unfold oneEach
    by_cases h : a ∈ oneEach l
    · rw [if_pos h]
      exact oneEach_nodup l
    · rw [if_neg h]
      exact List.nodup_cons.mpr ⟨h, oneEach_nodup l⟩
theorem len_same {a b : List Int} (na : a.Nodup) (nb : b.Nodup) (h : ∀ k, k ∈ a ↔ k ∈ b) : a.length = b.length :=
  Nat.le_antisymm (nodup_few na fun k hk => (h k).mp hk) (nodup_few nb fun k hk => (h k).mpr hk)
theorem badAt_none {f : G → Bool} : ∀ {gs : List G}, (∀ g ∈ gs, f g = true) → badAt f gs = none
  | [], _ => rfl
  | g :: gs, h => by
    unfold badAt
    rw [if_pos (h g List.mem_cons_self), badAt_none fun x hx => h x (List.mem_cons_of_mem _ hx)]
    rfl
theorem badAt_some {f : G → Bool} : ∀ {gs : List G} {i : Nat} {g : G}, (∀ (j : Nat) (x : G), j < i → gs[j]? = some x → f x = true) → gs[i]? = some g → f g = false → badAt f gs = some i
  | [], _, _, _, e, _ => by simp at e
  | x :: gs, 0, g, _, e, b => by
    obtain rfl := (by simpa using e : x = g)
    unfold badAt
    rw [if_neg (by rw [b]; exact Bool.false_ne_true)]
  | x :: gs, i + 1, g, h, e, b => by
    unfold badAt
    rw [if_pos (h 0 x (Nat.succ_pos _) rfl), badAt_some (gs := gs) (i := i) (fun j y hj ey => h (j + 1) y (Nat.succ_lt_succ hj) (by simpa using ey)) (by simpa using e) b]
    rfl
theorem inG_val {n : Int} {g : G} (h : inG n g = true) : 0 ≤ valI g ∧ valI g < n := by
  cases g with
  | int i =>
    have z : (decide (0 ≤ i) && decide (i < n)) = true := h
    rw [Bool.and_eq_true, decide_eq_true_eq, decide_eq_true_eq] at z
    exact z
  | _ => cases h
theorem rowG_shape {n : Int} {g : G} (e : rowG n g = true) : ∃ x y, g = .tup [x, y] ∧ roomsG 0 6 x = true ∧ tosG n y = true := by
  unfold rowG at e
  split at e
  · rw [Bool.and_eq_true] at e
    exact ⟨_, _, rfl, e.1, e.2⟩
  · cases e
theorem roomsG_shape {lo hi : Int} {g : G} (e : roomsG lo hi g = true) : ∃ rs, g = .tup rs ∧ risG 100 rs = true := by
  unfold roomsG at e
  split at e
  · rw [Bool.and_eq_true] at e
    exact ⟨_, rfl, e.2⟩
  · cases e
theorem tosG_shape {n : Int} {g : G} (e : tosG n g = true) : ∃ rs, g = .tup rs ∧ risG n rs = true := by
  unfold tosG at e
  split at e
  · rw [Bool.and_eq_true] at e
    exact ⟨_, rfl, e.2⟩
  · cases e
theorem tup_at {p : Addr} {H : Hp} {v : V} {gs : List G} {n : Int} (h : Tg p H v (.tup gs)) (e : risG n gs = true) : ∃ a, v = .ref a ∧ T2 H a ((gs.map valI).map V.int) ∧ ∀ k ∈ gs.map valI, 0 ≤ k ∧ k < n := by
  unfold risG at e
  rw [Bool.and_eq_true] at e
  cases h with
  | @tup a vs _ ha t =>
    rw [ints_of_all t e.1] at ha
    refine ⟨a, rfl, ha, fun k hk => ?_⟩
    obtain ⟨gk, hg, rfl⟩ := List.mem_map.mp hk
    exact inG_val ((List.all_eq_true.mp e.1) _ (List.mem_map.mpr ⟨gk, hg, rfl⟩))
theorem rowG_at {p : Addr} {H : Hp} {v : V} {g : G} {n : Int} (h : Tg p H v g) (e : rowG n g = true) : RowAt H v (rwOf g) ∧ ∀ k ∈ (rwOf g).1, 0 ≤ k ∧ k < 100 := by
  obtain ⟨x, y, rfl, ex, ey⟩ := rowG_shape e
  obtain ⟨rs, rfl, e1⟩ := roomsG_shape ex
  obtain ⟨ts, rfl, e2⟩ := tosG_shape ey
  cases h with
  | @tup a vs _ ha t =>
    cases t with
    | cons tx t1 =>
      cases t1 with
      | cons ty t2 =>
        cases t2
        obtain ⟨b, rfl, hb, kb⟩ := tup_at tx e1
        obtain ⟨c, rfl, hc, _⟩ := tup_at ty e2
        exact ⟨⟨a, b, c, rfl, ha, hb, hc⟩, kb⟩
theorem rows_at {p : Addr} {H : Hp} {n : Int} : ∀ {vs : List V} {gs : List G}, TgL p H vs gs → (∀ g ∈ gs, rowG n g = true) → RowsAt H vs (gs.map rwOf) ∧ ∀ k ∈ allRooms (gs.map rwOf), 0 ≤ k ∧ k < 100
  | _, _, .nil, _ => ⟨trivial, fun k hk => by cases hk⟩
  | _, _, .cons (d := d) (ds := ds) h t, e => by
    obtain ⟨a1, a2⟩ := rowG_at h (e d List.mem_cons_self)
    obtain ⟨b1, b2⟩ := rows_at t fun g hg => e g (List.mem_cons_of_mem _ hg)
    refine ⟨⟨a1, b1⟩, fun k hk => ?_⟩
    rcases List.mem_append.mp (show k ∈ (rwOf d).1 ++ allRooms (ds.map rwOf) from hk) with z | z
    · exact a2 k z
    · exact b2 k z
/-- none: a web; some r: it is refused, its row r -/
def lookG : G → Option (Option Nat)
  | .lst gs => if 1 ≤ gs.length ∧ gs.length ≤ 80 then (match badAt (rowG gs.length) gs with
    | some i => some (some i)
    | none => if 12 < (oneEach (allRooms (gs.map rwOf))).length then some none else none) else some none
  | _ => some none
def rowV : Option Nat → V
  | none => .non
  | some i => .int i
def spLook (C : Addr) : Sp := fun vs H Q E => ∃ (p : Addr) (v : V) (g : G), vs = [v] ∧ Tg p H v g ∧ (lookG g = none → ∀ H', Same H H' → Q .non H') ∧
  ∀ r, lookG g = some r → ∀ (H' : Hp) (d : Addr), Same H H' → H d = none → H' d = some (.xd [("row", rowV r)]) → E (.ref C) (some d) H'
theorem allRooms_app (a b : List Rw) : allRooms (a ++ b) = allRooms a ++ allRooms b := by
  unfold allRooms
  rw [List.map_append, List.flatten_append]
theorem allRooms_take {rs : List Rw} {i : Nat} {r : Rw} (h : rs[i]? = some r) : allRooms (rs.take (i + 1)) = allRooms (rs.take i) ++ r.1 := by
  rw [List.take_add_one, h, allRooms_app]
  show _ ++ (r.1 ++ []) = _
  rw [List.append_nil]
theorem allRooms_sub {rs : List Rw} {i : Nat} {k : Int} (h : k ∈ allRooms (rs.take i)) : k ∈ allRooms rs := by
  rw [← List.take_append_drop i rs, allRooms_app]
  exact List.mem_append_left _ h
theorem sc_rooms_in : FnScope ["rows", "rooms", "tos", "room"] ["rows"] (defScope s_rooms_in) := ⟨rfl, rfl, rfl, by decide +kernel, rfl, by decide +kernel, by decide +kernel⟩
theorem sc_look_at_web : FnScope ["thing", "number", "row"] ["thing"] (defScope s_look_at_web) := ⟨rfl, rfl, rfl, by decide +kernel, rfl, by decide +kernel, by decide +kernel⟩
section
variable {P : Program} {w : World} {K : PySem.W.Frag} {mg : Str → Option Value} {base : Heap}
theorem ok_rooms_in (T : At K mg "rooms_in" s_rooms_in ["rows"]) (B : Bt mg) : Cal P w K mg base 1 "rooms_in" ["rows"] (spRoomsIn w) := by
  refine cal_of T sc_rooms_in (fun vs H Q E h => ?_) (fun f cdv A outer s H vs Q E hr h => ?_)
  · obtain ⟨p, rs, A, rfl, _⟩ := h
    rfl
  · obtain ⟨p, rs, A, rfl, ⟨ws, hp, hrs⟩, hA, hin, q⟩ := h
    refine ⟨_, (pss_one (ps_ret (pe_callB (cr_sortedS rfl) (by rfl) B.sorted (by decide +kernel) (pa_cons (pe_sc2 (own := [("rooms", 1), ("tos", 2), ("room", 3)]) (vs1 := [3]) (go := (gTup K 2 (gCons (gName 1) (gCons (gName 2) gNil)))) (wn := iTup K (tVar 1)) (gn := (gName 3)) (te := (tVar 3)) (by rfl) sc_rooms_in.nd (pi_list (pv 0)) (blkOk_by (own := [("rooms", 1), ("tos", 2), ("room", 3)]) (N := ["rows", "rooms", "tos", "room"]) (sc := defScope s_rooms_in) (by decide +kernel)) (by decide) (fun _ _ _ _ _ => (pg_tup (by rfl) (pgs_cons (pg_name (i := 1) sc_rooms_in.nd rfl (Or.inl rfl)) (pgs_cons (pg_name (i := 2) sc_rooms_in.nd rfl (Or.inl rfl)) pgs_nil)))) (fun _ _ _ _ _ => (pi_tup (pv 1))) (fun _ _ _ _ _ => (pg_name (i := 3) sc_rooms_in.nd rfl (Or.inl rfl))) (fun _ _ _ _ _ => (pv 3))) pa_nil)))), ?_⟩
    have hwl := hrs.len
    refine ⟨_, rfl, p, rfl, ⟨_, SqL.of hp⟩, fun D nD => ?_⟩
    refine ⟨fun i m H2 => m = ws.length - i ∧ i ≤ ws.length ∧ Same H H2 ∧ SetIs w H2 D (allRooms (rs.take i)), ⟨ws.length, (Nat.sub_zero _).symm, Nat.zero_le _, same_upd nD, ⟨_, 0, [], upd_same, List.nodup_nil, rfl, fun k => by simp, fun k => by simp [allRooms]⟩⟩, ?_⟩
    rintro i m H2 ⟨rfl, hi, s2, set2⟩
    by_cases hlt : i < ws.length
    · have hx : ws[i]? = some ws[i] := List.getElem?_eq_getElem hlt
      obtain ⟨r, er, a, b, c, ea, ha, hb, hc⟩ := hrs.get hx
      refine .inr ⟨⟨ws, ws[i], SqL.of (s2 _ _ hp), hx⟩, fun H3 => Same H H3 ∧ SetIs w H3 D (allRooms (rs.take (i + 1))), fun H' h => ⟨ws.length - (i + 1), by omega, rfl, hlt, h⟩, fun x H' y => ?_⟩
      obtain ⟨e1, y⟩ := y
      have ex : x = .ref a := by
        have z := y ws (SqL.of (s2 _ _ hp))
        rw [hx] at z
        injection z with z
        rw [← z, ea]
      rw [e1]
      clear e1 y
      subst ex
      refine ⟨a, _, rfl, (ha.same s2).sq, rfl, _, _, rfl, _, _, rfl, rfl, rfl, ?_⟩
      refine ⟨_, rfl, b, rfl, ⟨_, (hb.same s2).sq⟩, ?_⟩
      refine ⟨fun j k H3 => k = r.1.length - j ∧ j ≤ r.1.length ∧ Same H H3 ∧ SetIs w H3 D (allRooms (rs.take i) ++ r.1.take j), ⟨r.1.length, (Nat.sub_zero _).symm, Nat.zero_le _, s2, by rw [List.take_zero, List.append_nil]; exact set2⟩, ?_⟩
      rintro j k H3 ⟨rfl, hj, s3, set3⟩
      by_cases hjt : j < r.1.length
      · have hy : (r.1.map V.int)[j]? = some (V.int r.1[j]) := by
          rw [List.getElem?_map, List.getElem?_eq_getElem hjt]
          rfl
        refine .inr ⟨⟨_, _, (hb.same s3).sq, hy⟩, fun H4 => Same H H4 ∧ SetIs w H4 D (allRooms (rs.take i) ++ r.1.take (j + 1)), fun H' h => ⟨r.1.length - (j + 1), by omega, rfl, hjt, h⟩, fun y H' yl => ?_⟩
        obtain ⟨e2, yl⟩ := yl
        have ey : y = .int r.1[j] := by
          have z := yl _ (hb.same s3).sq
          rw [hy] at z
          injection z with z
          exact z.symm
        rw [e2]
        clear e2 yl
        subst ey
        refine ⟨rfl, _, rfl, ?_⟩
        have sub3 : ∀ k ∈ allRooms (rs.take i) ++ r.1.take j, k ∈ A := by
          intro k hk
          rcases List.mem_append.mp hk with z | z
          · exact hin k (allRooms_sub z)
          · refine hin k (allRooms_sub (i := i + 1) ?_)
            rw [allRooms_take er]
            exact List.mem_append_right _ (List.mem_of_mem_take z)
        obtain ⟨S, n, eD, few, nx⟩ := set3.add (A := A) (by omega) sub3 r.1[j]
        refine ⟨_, S, n, rfl, eD, few, fun c o ec => ?_, ?_⟩
        · rw [upd_ne (ne_of_none ec nD)]
          exact s3 _ _ ec
        · rw [List.take_add_one, List.getElem?_eq_getElem hjt, ← List.append_assoc]
          exact nx _ upd_same
      · have e : j = r.1.length := by omega
        subst e
        rw [List.take_length] at set3
        refine .inl ⟨⟨_, (hb.same s3).sq, by rw [List.length_map]; exact Nat.le_refl _⟩, s3, ?_⟩
        rw [allRooms_take er]
        exact set3
    · have e : i = ws.length := by omega
      subst e
      rw [hwl, List.take_length] at set2
      refine .inl ⟨⟨ws, SqL.of (s2 _ _ hp), Nat.le_refl _⟩, ?_⟩
      refine ⟨D, _, rfl, set2, fun ms u pw mem nu => ?_⟩
      exact q ms u _ pw mem (s2.trans (same_upd nu)) (s2.free nu) upd_same
theorem ok_look {C fI : Addr} {newId initId : String} {bmB : List Value} (OW : XC.Own P K mg "NoWeb" "row" C fI "ValueError" newId initId bmB) (T : At K mg "look_at_web" s_look_at_web ["thing"]) (B : Bt mg) (D : GbW mg) (c_is_row : Cal P w K mg base 4 "is_row" ["thing", "rows"] spRow) (c_rooms_in : Cal P w K mg base 1 "rooms_in" ["rows"] (spRoomsIn w)) :
    CalX P w K mg base 5 "look_at_web" ["thing"] (spLook C) := by
  obtain ⟨tr, mRows⟩ := D.rows
  obtain ⟨tm, mRooms⟩ := D.rooms
  refine cal_ofX T sc_look_at_web (fun vs H Q E h => ?_) (fun f cdv A outer s H vs Q E hr h => ?_)
  · obtain ⟨p, v, g, rfl, _⟩ := h
    rfl
  · obtain ⟨p, v, g, rfl, hv, qy, qn⟩ := h
    refine ⟨_, (pss_cons (ps_if (PW.pt (pw_or (pt_not (pt_val (pe_callB call_isi (by rfl) B.isinstance (by decide +kernel) (pa_cons (pv 0) (pa_cons (pe_bltn (v := .ty "list") (u := .type "list") (by rfl) B.list (by decide +kernel) rfl) pa_nil))))) (pw_or1 (pt_not (pt_chain op_le op_le pe_int (pe_callB call_len_seq (by rfl) B.len PySem.boot_len (pa_cons (pv 0) pa_nil)) (pe_glob (v := .int 80) rfl mRows ⟨_, rfl⟩)))))) (pss_one (ps_raiseX rfl OW hr (takes_of rfl rfl rfl rfl) (pa_cons pe_non pa_nil))) pss_nil)
      (pss_cons (ps_for (passes_of rfl) rfl (pi_enum (by rfl) B.enumerate (pa_cons (pv 0) pa_nil)) (pg_tup (by rfl) (pgs_cons (pg_name (i := 1) sc_look_at_web.nd rfl (Or.inl rfl)) (pgs_cons (pg_name (i := 2) sc_look_at_web.nd rfl (Or.inl rfl)) pgs_nil))) (pss_one (ps_if (pt_not (pt_val (pe_own c_is_row hr (by decide) (by rfl) (pa_cons (pv 2) (pa_cons (pe_callB call_len_seq (by rfl) B.len PySem.boot_len (pa_cons (pv 0) pa_nil)) pa_nil))))) (pss_one (ps_raiseX rfl OW hr (takes_of rfl rfl rfl rfl) (pa_cons (pv 1) pa_nil))) pss_nil)))
      (pss_one (ps_if (pt_cmpR op_gt (pe_callB call_len_seq (by rfl) B.len PySem.boot_len (pa_cons (pe_own c_rooms_in hr (by decide) (by rfl) (pa_cons (pv 0) pa_nil)) pa_nil)) (pe_glob (v := .int 12) rfl mRooms ⟨_, rfl⟩) (nomark _)) (pss_one (ps_raiseX rfl OW hr (takes_of rfl rfl rfl rfl) (pa_cons pe_non pa_nil))) pss_nil)))), ?_⟩
    refine ⟨_, rfl, v, .ty "list", _, _, _, rfl, .ty "list", hv.ty, kit_list g, _, rfl, iteB (fun e => ?_) (fun e => ?_)⟩
    · refine iteT ?_
      have z : lookG g = some none := by
        cases g <;> first | rfl | cases e
      exact ⟨_, rfl, fun d hd => qn none z _ d (same_upd hd) hd upd_same⟩
    cases hv with
    | @lst a vs gs na ha t =>
      have hlen : vs.length = gs.length := t.len
      have lk : lookG (.lst gs) = if 1 ≤ gs.length ∧ gs.length ≤ 80 then (match badAt (rowG gs.length) gs with
        | some i => some (some i)
        | none => if 12 < (oneEach (allRooms (gs.map rwOf))).length then some none else none) else some none := rfl
      refine ⟨_, rfl, a, _, rfl, .inl (SqL.of ha), _, _, rfl, rfl, _, rfl, iteB (fun e1 => ?_) (fun e1 => ?_)⟩
      · refine ⟨_, _, rfl, rfl, _, rfl, ?_⟩
        have l1 := of_decide_eq_true e1
        refine iteB (fun e2 => ?_) (fun e2 => ?_)
        · have l2 : ¬ (vs.length : Int) ≤ 80 := by simpa using e2
          have z : lookG (.lst gs) = some none := by
            rw [lk, if_neg (by omega)]
          exact ⟨_, rfl, fun d hd => qn none z _ d (same_upd hd) hd upd_same⟩
        have l2 : (vs.length : Int) ≤ 80 := by simpa using e2
        rw [if_pos (by omega)] at lk
        refine ⟨_, rfl, a, _, rfl, SqL.of ha, ?_⟩
        refine for_enumS (K := K) (a := a) (xs := vs) (fun i σ H2 => ∃ y1 y2 : Option V, σ = [some (.ref a), y1, y2] ∧ Same H H2 ∧ ∀ (j : Nat) (x : G), j < i → gs[j]? = some x → rowG gs.length x = true) ?_ ?_ ?_ ?_
        · exact ⟨none, none, rfl, Same.refl H, fun j x hj => absurd hj (Nat.not_lt_zero _)⟩
        · rintro i σ H2 _ ⟨_, _, _, s2, _⟩
          exact SqL.of (s2 _ _ ha)
        · rintro i x σ H2 T hx ⟨y1, y2, rfl, s2, good⟩ nT
          obtain ⟨g1, e4, tg⟩ := t.get hx
          have sT : Same H2 (upd H2 T (.tup [.int (i : Nat), x])) := same_upd nT
          refine ⟨T, _, rfl, SqT.of upd_same, rfl, _, _, rfl, _, _, rfl, rfl, ?_⟩
          refine ⟨_, rfl, _, rfl, a, _, rfl, .inl (SqL.of (sT _ _ (s2 _ _ ha))), p, x, g1, vs.length, rfl, tg.keep (Keeps.same (s2.trans sT)), by omega, fun H3 s3 => ?_⟩
          have s03 := (s2.trans sT).trans s3
          refine ⟨_, rfl, ?_⟩
          rw [hlen]
          refine iteB (fun e5 => ?_) (fun e5 => ?_)
          · have b : rowG gs.length g1 = false := by simpa using e5
            have z : lookG (.lst gs) = some (some i) := by
              rw [lk, badAt_some good e4 b]
            exact ⟨_, rfl, _, rfl, fun d hd => qn (some i) z _ d (s03.trans (same_upd hd)) (s03.free hd) upd_same⟩
          · have b : rowG gs.length g1 = true := by simpa using e5
            refine ⟨_, _, rfl, s03, fun j y hj ey => ?_⟩
            rcases Nat.lt_succ_iff_lt_or_eq.mp hj with h | rfl
            · exact good j y h ey
            · rw [e4] at ey
              cases ey
              exact b
        · rintro σ H2 ⟨y1, y2, rfl, s2, good⟩
          rw [hlen] at good
          have all : ∀ g ∈ gs, rowG gs.length g = true := fun g hg => by
            obtain ⟨j, hj, ej⟩ := List.getElem_of_mem hg
            exact good j g hj (by rw [List.getElem?_eq_getElem hj, ej])
          obtain ⟨ra, rb⟩ := rows_at t all
          rw [badAt_none all] at lk
          refine ⟨_, rfl, a, gs.map rwOf, (List.range 100).map fun i => ((i : Nat) : Int), rfl, ⟨vs, s2 _ _ ha, ra.keep (K2.same s2)⟩, by rw [List.length_map, List.length_range]; decide, fun k hk => ?_, fun ms u H3 pw mem s3 nu hu => ?_⟩
          · have := rb k hk
            exact List.mem_map.mpr ⟨k.toNat, List.mem_range.mpr (by omega), by omega⟩
          · have lm : ms.length = (oneEach (allRooms (gs.map rwOf))).length := len_same (pw.imp fun h => Int.ne_of_lt h) (oneEach_nodup _) fun k => (mem k).trans (oneEach_mem k _).symm
            refine ⟨u, _, rfl, .inl (SqL.of hu), _, _, rfl, rfl, _, rfl, iteB (fun z => ?_) (fun z => ?_)⟩
            · have l3 := of_decide_eq_true z
              rw [List.length_map] at l3
              have zz : lookG (.lst gs) = some none := by
                rw [lk]
                exact if_pos (by omega)
              exact ⟨_, rfl, fun d hd => qn none zz _ d ((s2.trans s3).trans (same_upd hd)) ((s2.trans s3).free hd) upd_same⟩
            · have l3 := of_decide_eq_false z
              rw [List.length_map] at l3
              have zz : lookG (.lst gs) = none := by
                rw [lk]
                exact if_neg (by omega)
              exact qy zz H3 (s2.trans s3)
      · refine ⟨_, rfl, iteT ?_⟩
        have l1 := of_decide_eq_false e1
        have z : lookG (.lst gs) = some none := by
          rw [lk, if_neg (by omega)]
        exact ⟨_, rfl, fun d hd => qn none z _ d (same_upd hd) hd upd_same⟩
    | _ => cases e
end
end Su.GW
/-! ### LNr: the rooms of a web, sorted -/
namespace Su
open PySem PySem.Spec PyProof.Rows L2
theorem pw_same {a b : List Int} (ha : a.Pairwise (· < ·)) (hb : b.Pairwise (· < ·)) (h : ∀ k, k ∈ a ↔ k ∈ b) : a = b := by
  have pm : a.Perm b := (List.perm_ext_iff_of_nodup (ha.imp fun h => Int.ne_of_lt h) (hb.imp fun h => Int.ne_of_lt h)).mpr h
  exact pm.eq_of_pairwise (fun x y _ _ h1 h2 => by omega) ha hb
def srt (l : List Int) : List Int := l.mergeSort fun a b => decide (a ≤ b)
theorem srt_perm (l : List Int) : (srt l).Perm l := List.mergeSort_perm l _
theorem srt_le (l : List Int) : (srt l).Pairwise (· ≤ ·) := by
  have h := List.pairwise_mergeSort (le := fun a b : Int => decide (a ≤ b)) (fun a b c h1 h2 => decide_eq_true (Int.le_trans (of_decide_eq_true h1) (of_decide_eq_true h2))) (fun a b => by
    rcases Int.le_total a b with h | h
    · rw [decide_eq_true h, Bool.true_or]
    · rw [decide_eq_true h, Bool.or_true]) l
  exact h.imp fun h => of_decide_eq_true h
/-- the rooms of a web, sorted -/
def roomsR (rs : List Rw) : List Int := srt (GW.oneEach (allRooms rs))
theorem rooms_mem {rs : List Rw} {k : Int} : k ∈ roomsR rs ↔ k ∈ allRooms rs := (srt_perm _).mem_iff.trans (GW.oneEach_mem k _)
theorem rooms_pw (rs : List Rw) : (roomsR rs).Pairwise (· < ·) := by
  have h1 := srt_le (GW.oneEach (allRooms rs))
  have h2 : (roomsR rs).Nodup := (srt_perm _).nodup_iff.mpr (GW.oneEach_nodup _)
  exact (h1.and h2).imp fun h => by omega
theorem rooms_is {rs : List Rw} {ms : List Int} (pw : ms.Pairwise (· < ·)) (h : ∀ k, k ∈ ms ↔ k ∈ allRooms rs) : ms = roomsR rs := pw_same pw (rooms_pw rs) fun k => (h k).trans rooms_mem.symm
end Su
/-! ### FH: a def of the row, called by a variable that holds it -/
namespace Su
open PySem PySem.Spec PyProof.Rows L2
theorem actX_of {X : Cx} {k j : Nat} {x : Str} {ps : List Str} {sp : Sp} (C : Cal X.prog X.w X.K X.mg X.base k x ps sp) (hr : Room j X.A) (hk : k ≤ j) {f : Addr} (hf : X.mg x = some (.ref f)) : ActX X f (fun _ => True) (fun vs H Q => sp vs H Q E0) := by
  obtain ⟨f', fd, F, hm, kp, b, o, lo, od⟩ := C.ex
  rw [hf] at hm
  cases hm
  intro pins σ H' s' I
  refine ⟨?_, fun us vs Q _ rv hb => ?_⟩
  · obtain ⟨oc, odd, dat, sl⟩ := o
    cases od
    exact ⟨oc, odd, fd, sl, I.kIn _ _ lo⟩
  · have hl := F.len vs H' Q E0 hb
    have hu : us.length = ps.length := by rw [← rv.length]; exact hl
    have bb := b s' us I.kIn (by rw [List.append_nil]; exact hu)
    rw [List.append_nil] at bb
    exact F.run X.A X.stack s' H' ⟨us, []⟩ us vs Q E0 (hr.mono hk) I.env0 bb rv hb
/-- l[i] op= v -/
def rGetN (K : PySem.W.Frag) : V → V → Hp → VK → Prop := fun o i H Q => ∃ (p : Addr) (xs : List V) (k : Nat) (z : V), o = .ref p ∧ i = .int k ∧ SqL K H p xs ∧ xs[k]? = some z ∧ Q z H
theorem pget_list {X : Cx} : PGet X (rGetN X.K) := by
  intro pins s σ H o i ov iv Q I ro ri h
  obtain ⟨p, xs, k, z, rfl, rfl, hq, he, q⟩ := h
  cases ro
  obtain ⟨t, rfl⟩ := ri
  obtain ⟨its, r, pl, hz⟩ := I.list hq
  obtain ⟨w, ew, rw'⟩ := r.get he
  have lt := (List.getElem?_eq_some_iff.mp he).1
  have hn := line63
  have hl := r.length
  refine wpAny_getItem_list pl.isList (Int.natCast_nonneg k) (by omega) ?_ ⟨z, H, I, rw', q⟩
  rw [Int.toNat_natCast]
  simpa using ew
theorem ip_or {X : Cx} : PIp X .BitOr (ipI fun i j => Builtin.bitOr i j) := fun pins s σ H x y v u Q I r1 r2 h => iop_or pins s σ H x y v u Q I r1 r2 h
end Su
/-! ### FM: families of sets as numbers -/
namespace Su.Fm
/-- what is in one and not in the other -/
theorem testBit_add_disj : ∀ (k a b : Nat), (∀ i, (a.testBit i && b.testBit i) = false) → (a + b).testBit k = (a.testBit k || b.testBit k) := by
  have main : ∀ (n a b : Nat), a + b ≤ n → (∀ i, (a.testBit i && b.testBit i) = false) → a + b = a ||| b := by
    intro n
    induction n with
    | zero =>
      intro a b h _
      have h1 : a = 0 := by omega
      have h2 : b = 0 := by omega
      subst h1 h2
      rfl
    | succ n ih =>
      intro a b h d
      by_cases z : a + b = 0
      · have h1 : a = 0 := by omega
        have h2 : b = 0 := by omega
        subst h1 h2
        rfl
      have d0 := d 0
      rw [Nat.testBit_zero, Nat.testBit_zero] at d0
      have ih' := ih (a / 2) (b / 2) (by omega) fun i => by
        have := d (i + 1)
        rw [Nat.testBit_succ, Nat.testBit_succ] at this
        exact this
      refine Nat.eq_of_testBit_eq fun i => ?_
      cases i with
      | zero =>
        rw [Nat.testBit_or, Nat.testBit_zero, Nat.testBit_zero, Nat.testBit_zero]
        simp at d0
        rcases Nat.mod_two_eq_zero_or_one a with ha | ha <;> rcases Nat.mod_two_eq_zero_or_one b with hb | hb
        · rw [Nat.add_mod, ha, hb]; rfl
        · rw [Nat.add_mod, ha, hb]; rfl
        · rw [Nat.add_mod, ha, hb]; rfl
        · exact absurd hb (by have := d0 ha; omega)
      | succ i =>
        rw [Nat.testBit_or, Nat.testBit_succ, Nat.testBit_succ, Nat.testBit_succ, ← Nat.testBit_or, ← ih']
        have e : (a + b) / 2 = a / 2 + b / 2 := by
          simp at d0
          rcases Nat.mod_two_eq_zero_or_one a with ha | ha <;> rcases Nat.mod_two_eq_zero_or_one b with hb | hb <;> first | omega | (have := d0 ha; omega)
        rw [e]
  intro k a b d
  rw [main (a + b) a b (Nat.le_refl _) d, Nat.testBit_or]
theorem sub_and (a b : Nat) (k : Nat) : (a - (a &&& b)).testBit k = (a.testBit k && !b.testBit k) := by
  have h : a = (a &&& b) + (a ^^^ (a &&& b)) := by
    refine Nat.eq_of_testBit_eq fun i => ?_
    rw [testBit_add_disj _ _ _ fun i => ?_]
    · rw [Nat.testBit_xor, Nat.testBit_and]
      cases a.testBit i <;> cases b.testBit i <;> rfl
    · rw [Nat.testBit_xor, Nat.testBit_and]
      cases a.testBit i <;> cases b.testBit i <;> rfl
  have e : a - (a &&& b) = a ^^^ (a &&& b) := by omega
  rw [e, Nat.testBit_xor, Nat.testBit_and]
  cases a.testBit k <;> cases b.testBit k <;> rfl
theorem bit_high {p a T : Nat} (h : p < a) : (2 ^ a + T).testBit p = T.testBit p := Nat.testBit_two_pow_add_gt h T
/-- all sets of the first places that lack one -/
def lackTo (p : Nat) : Nat → Nat
  | 0 => 2 ^ 2 ^ p - 1
  | k + 1 => lackTo p k ||| (lackTo p k <<< 2 ^ (p + 1 + k))
theorem lackTo_bit (p : Nat) : ∀ (k S : Nat), (lackTo p k).testBit S = (decide (S < 2 ^ (p + 1 + k)) && !S.testBit p)
  | 0, S => by
    show (2 ^ 2 ^ p - 1).testBit S = _
    rw [Nat.testBit_two_pow_sub_one]
    by_cases h : S < 2 ^ p
    · have h2 : S < 2 ^ (p + 1 + 0) := Nat.lt_of_lt_of_le h (Nat.pow_le_pow_right (by decide) (by omega))
      rw [decide_eq_true h, decide_eq_true h2, Nat.testBit_lt_two_pow h]
      rfl
    · rw [decide_eq_false h]
      by_cases h2 : S < 2 ^ (p + 1 + 0)
      · rw [decide_eq_true h2]
        have e : S = 2 ^ p + (S - 2 ^ p) := by omega
        rw [e, Nat.testBit_two_pow_add_eq, Nat.testBit_lt_two_pow (by rw [Nat.add_zero, Nat.pow_succ] at h2; omega)]
        rfl
      · rw [decide_eq_false h2]
        rfl
  | k + 1, S => by
    show (lackTo p k ||| (lackTo p k <<< 2 ^ (p + 1 + k))).testBit S = _
    rw [Nat.testBit_or, Nat.testBit_shiftLeft, lackTo_bit p k S, lackTo_bit p k (S - 2 ^ (p + 1 + k))]
    have e2 : 2 ^ (p + 1 + (k + 1)) = 2 ^ (p + 1 + k) + 2 ^ (p + 1 + k) := by
      rw [← Nat.add_assoc, Nat.pow_succ]
      omega
    by_cases h : S < 2 ^ (p + 1 + k)
    · rw [decide_eq_true h, decide_eq_true (show S < 2 ^ (p + 1 + (k + 1)) by omega), decide_eq_false (show ¬ S ≥ 2 ^ (p + 1 + k) by omega)]
      simp
    · rw [decide_eq_false h, decide_eq_true (show S ≥ 2 ^ (p + 1 + k) by omega)]
      have e : S = 2 ^ (p + 1 + k) + (S - 2 ^ (p + 1 + k)) := by omega
      have eb : S.testBit p = (S - 2 ^ (p + 1 + k)).testBit p := by
        conv => lhs; rw [e]
        exact bit_high (by omega)
      rw [eb]
      by_cases h2 : S < 2 ^ (p + 1 + (k + 1))
      · rw [decide_eq_true h2, decide_eq_true (show S - 2 ^ (p + 1 + k) < 2 ^ (p + 1 + k) by omega)]
        simp
      · rw [decide_eq_false h2, decide_eq_false (show ¬ S - 2 ^ (p + 1 + k) < 2 ^ (p + 1 + k) by omega)]
        simp
/-- of m places, the sets that lack place p -/
def lackN (m p : Nat) : Nat := lackTo p (m - (p + 1))
theorem lackN_bit {m p : Nat} (h : p < m) (S : Nat) : (lackN m p).testBit S = (decide (S < 2 ^ m) && !S.testBit p) := by
  unfold lackN
  rw [lackTo_bit, show p + 1 + (m - (p + 1)) = m by omega]
/-- a family of sets of m places -/
def Fits (m F : Nat) : Prop := ∀ S, F.testBit S = true → S < 2 ^ m
theorem fits_lt {m F : Nat} : Fits m F ↔ F < 2 ^ 2 ^ m := by
  constructor
  · intro h
    refine Nat.lt_of_not_le fun z => ?_
    obtain ⟨i, hi, hb⟩ := Nat.exists_ge_and_testBit_of_ge_two_pow z
    exact absurd (h i hb) (by omega)
  · intro h S hb
    refine Nat.lt_of_not_le fun z => ?_
    rw [Nat.testBit_lt_two_pow (Nat.lt_of_lt_of_le h (Nat.pow_le_pow_right (by decide) z))] at hb
    cases hb
/-- the set without a place that it has -/
theorem bit_less {S p : Nat} (h : S.testBit p = true) (i : Nat) : (S - 2 ^ p).testBit i = (S.testBit i && !decide (i = p)) := by
  have e : S &&& 2 ^ p = 2 ^ p := by
    refine Nat.eq_of_testBit_eq fun i => ?_
    rw [Nat.testBit_and, Nat.testBit_two_pow]
    by_cases c : p = i
    · rw [← c, h]
      simp
    · simp [c]
  have z := sub_and S (2 ^ p) i
  rw [e, Nat.testBit_two_pow] at z
  rw [z]
  congr 2
  exact decide_eq_decide.mpr ⟨Eq.symm, Eq.symm⟩
theorem bit_le {S p : Nat} (h : S.testBit p = true) : 2 ^ p ≤ S := Nat.ge_two_pow_of_testBit h
/-- every set of the family with this place put in -/
def withN (m F p : Nat) : Nat := (F - (F &&& lackN m p)) ||| ((F &&& lackN m p) <<< 2 ^ p)
theorem withN_bit {m F p : Nat} (hp : p < m) (hf : Fits m F) (S : Nat) : (withN m F p).testBit S = (S.testBit p && (F.testBit S || F.testBit (S - 2 ^ p))) := by
  unfold withN
  rw [Nat.testBit_or, sub_and, Nat.testBit_shiftLeft, Nat.testBit_and, lackN_bit hp, lackN_bit hp]
  by_cases hS : S.testBit p = true
  · have hle := bit_le hS
    have z := bit_less hS p
    rw [decide_eq_true rfl] at z
    simp at z
    rw [hS, decide_eq_true (show S ≥ 2 ^ p from hle), z]
    cases a : F.testBit S <;> cases b : F.testBit (S - 2 ^ p)
    · simp
    · have := hf _ b
      simp [this]
    · simp
    · simp
  · have hS' : S.testBit p = false := by simpa using hS
    rw [hS']
    by_cases hle : S ≥ 2 ^ p
    · rw [decide_eq_true hle]
      -- the set S - 2^p has the place
      cases b : F.testBit (S - 2 ^ p)
      · cases a : F.testBit S
        · simp
        · have := hf _ a
          simp [this]
      · have lt := hf _ b
        have z : (S - 2 ^ p).testBit p = true := by
          have e : S = 2 ^ p + (S - 2 ^ p) := by omega
          have y : S.testBit p = !(S - 2 ^ p).testBit p := by
            conv => lhs; rw [e]
            exact Nat.testBit_two_pow_add_eq _ _
          rw [hS'] at y
          cases w : (S - 2 ^ p).testBit p
          · rw [w] at y
            cases y
          · rfl
        rw [z]
        cases a : F.testBit S
        · simp
        · have := hf _ a
          simp [this]
    · rw [decide_eq_false hle]
      cases a : F.testBit S
      · simp
      · have := hf _ a
        simp [this]
theorem Fits.or {m F G : Nat} (h : Fits m F) (g : Fits m G) : Fits m (F ||| G) := fun S hb => by
  rw [Nat.testBit_or, Bool.or_eq_true] at hb
  exact hb.elim (h S) (g S)
theorem Fits.with {m F p : Nat} (hp : p < m) (hf : Fits m F) : Fits m (withN m F p) := fun S hb => by
  rw [withN_bit hp hf, Bool.and_eq_true, Bool.or_eq_true] at hb
  rcases hb.2 with h | h
  · exact hf S h
  · have lt := hf _ h
    refine Nat.lt_pow_two_of_testBit S fun i hi => ?_
    have z := bit_less hb.1 i
    rw [Nat.testBit_lt_two_pow (Nat.lt_of_lt_of_le lt (Nat.pow_le_pow_right (by decide) hi)), decide_eq_false (show ¬ i = p by omega)] at z
    simpa using z.symm
/-- one set lies within another -/
def Sub (S T : Nat) : Prop := ∀ i, S.testBit i = true → T.testBit i = true
theorem Sub.refl (S : Nat) : Sub S S := fun _ h => h
theorem Sub.trans {S T U : Nat} (h : Sub S T) (g : Sub T U) : Sub S U := fun i hi => g i (h i hi)
theorem Sub.antisymm {S T : Nat} (h : Sub S T) (g : Sub T S) : S = T := Nat.eq_of_testBit_eq fun i => by
  rw [Bool.eq_iff_iff]
  exact ⟨h i, g i⟩
/-- the places before p have been put in -/
def upT (m F : Nat) : Nat → Nat
  | 0 => F
  | p + 1 => upT m F p ||| withN m (upT m F p) p
theorem upT_fits {m F : Nat} (hf : Fits m F) : ∀ {p : Nat}, p ≤ m → Fits m (upT m F p)
  | 0, _ => hf
  | p + 1, h => (upT_fits hf (by omega)).or ((upT_fits hf (by omega)).with (by omega))
theorem upT_bit {m F : Nat} (hf : Fits m F) : ∀ {p : Nat}, p ≤ m → ∀ (S : Nat), (upT m F p).testBit S = true ↔ ∃ T, F.testBit T = true ∧ Sub T S ∧ ∀ i, S.testBit i = true → T.testBit i = false → i < p
  | 0, _, S => by
    constructor
    · intro h
      exact ⟨S, h, Sub.refl S, fun i h1 h2 => by rw [h1] at h2; cases h2⟩
    · rintro ⟨T, h1, h2, h3⟩
      have e : T = S := h2.antisymm fun i hi => by
        cases c : T.testBit i
        · exact absurd (h3 i hi c) (by omega)
        · rfl
      exact e ▸ h1
  | p + 1, hp, S => by
    show (upT m F p ||| withN m (upT m F p) p).testBit S = true ↔ _
    rw [Nat.testBit_or, withN_bit (by omega) (upT_fits hf (by omega)), Bool.or_eq_true, Bool.and_eq_true, Bool.or_eq_true, upT_bit hf (by omega) S]
    constructor
    · rintro (⟨T, h1, h2, h3⟩ | ⟨hS, ⟨T, h1, h2, h3⟩ | h⟩)
      · exact ⟨T, h1, h2, fun i a b => by have := h3 i a b; omega⟩
      · exact ⟨T, h1, h2, fun i a b => by have := h3 i a b; omega⟩
      · obtain ⟨T, h1, h2, h3⟩ := (upT_bit hf (by omega) (S - 2 ^ p)).mp h
        refine ⟨T, h1, fun i hi => ?_, fun i a b => ?_⟩
        · have := h2 i hi
          rw [bit_less hS, Bool.and_eq_true] at this
          exact this.1
        · by_cases c : i = p
          · omega
          · have := h3 i (by rw [bit_less hS, a, decide_eq_false c]; rfl) b
            omega
    · rintro ⟨T, h1, h2, h3⟩
      by_cases hS : S.testBit p = true
      · by_cases hT : T.testBit p = true
        · exact .inl ⟨T, h1, h2, fun i a b => by
            have := h3 i a b
            by_cases c : i = p
            · rw [c, hT] at b
              cases b
            · omega⟩
        · refine .inr ⟨hS, .inr ((upT_bit hf (by omega) (S - 2 ^ p)).mpr ⟨T, h1, fun i hi => ?_, fun i a b => ?_⟩)⟩
          · rw [bit_less hS, h2 i hi, decide_eq_false (show ¬ i = p from fun c => hT (c ▸ hi))]
            rfl
          · rw [bit_less hS, Bool.and_eq_true] at a
            have := h3 i a.1 b
            have hne : i ≠ p := by simpa using a.2
            omega
      · refine .inl ⟨T, h1, h2, fun i a b => ?_⟩
        have := h3 i a b
        by_cases c : i = p
        · exact absurd (c ▸ a) hS
        · omega
/-- what lies above: closed -/
def upN (m F : Nat) : Nat := upT m F m
theorem upN_fits {m F : Nat} (hf : Fits m F) : Fits m (upN m F) := upT_fits hf (Nat.le_refl m)
theorem sub_lt {m S i : Nat} (h : S < 2 ^ m) (hi : S.testBit i = true) : i < m := by
  refine Nat.lt_of_not_le fun z => ?_
  rw [Nat.testBit_lt_two_pow (Nat.lt_of_lt_of_le h (Nat.pow_le_pow_right (by decide) z))] at hi
  cases hi
theorem upN_bit {m F : Nat} (hf : Fits m F) (S : Nat) : (upN m F).testBit S = true ↔ S < 2 ^ m ∧ ∃ T, F.testBit T = true ∧ Sub T S := by
  constructor
  · intro h
    obtain ⟨T, h1, h2, _⟩ := (upT_bit hf (Nat.le_refl m) S).mp h
    exact ⟨upN_fits hf S h, T, h1, h2⟩
  · rintro ⟨h0, T, h1, h2⟩
    exact (upT_bit hf (Nat.le_refl m) S).mpr ⟨T, h1, h2, fun i a _ => sub_lt h0 a⟩
/-- closed upward -/
def Up (m F : Nat) : Prop := ∀ S T, F.testBit S = true → Sub S T → T < 2 ^ m → F.testBit T = true
theorem upN_up {m F : Nat} (hf : Fits m F) : Up m (upN m F) := fun S T h s l => by
  obtain ⟨_, U, h1, h2⟩ := (upN_bit hf S).mp h
  exact (upN_bit hf T).mpr ⟨l, U, h1, h2.trans s⟩
/-- the sets that lie above one by one place -/
def abTo (m F : Nat) : Nat → Nat
  | 0 => 0
  | p + 1 => abTo m F p ||| ((F &&& lackN m p) <<< 2 ^ p)
theorem abTo_bit {m F : Nat} (hf : Fits m F) : ∀ {p : Nat}, p ≤ m → ∀ (S : Nat), (abTo m F p).testBit S = true ↔ ∃ i, i < p ∧ S.testBit i = true ∧ F.testBit (S - 2 ^ i) = true
  | 0, _, S => by
    constructor
    · intro h
      rw [show abTo m F 0 = 0 from rfl, Nat.zero_testBit] at h
      cases h
    · rintro ⟨i, h, _⟩
      omega
  | p + 1, hp, S => by
    show (abTo m F p ||| ((F &&& lackN m p) <<< 2 ^ p)).testBit S = true ↔ _
    rw [Nat.testBit_or, Bool.or_eq_true, abTo_bit hf (by omega) S, Nat.testBit_shiftLeft, Nat.testBit_and, lackN_bit (by omega)]
    constructor
    · rintro (⟨i, h1, h2⟩ | h)
      · exact ⟨i, by omega, h2⟩
      · simp at h
        obtain ⟨h1, h2, h3, h4⟩ := h
        refine ⟨p, by omega, ?_, h2⟩
        have e : S = 2 ^ p + (S - 2 ^ p) := by omega
        rw [e, Nat.testBit_two_pow_add_eq, h4]
        rfl
    · rintro ⟨i, h1, h2, h3⟩
      by_cases c : i = p
      · subst c
        right
        have z := bit_less h2 i
        rw [decide_eq_true rfl] at z
        simp at z
        simp [bit_le h2, h3, z, hf _ h3]
      · exact .inl ⟨i, by omega, h2, h3⟩
theorem abTo_fits {m F p : Nat} (hf : Fits m F) (hp : p ≤ m) : Fits m (abTo m F p) := fun S h => by
  obtain ⟨i, hi, a, b⟩ := (abTo_bit hf hp S).mp h
  exact (Fits.with (p := i) (show i < m by omega) hf) S (by rw [withN_bit (show i < m by omega) hf, a, b, Bool.or_true]; rfl)
def leastN (m F : Nat) : Nat := F - (F &&& abTo m F m)
theorem sub_less {S p : Nat} (h : S.testBit p = true) : Sub (S - 2 ^ p) S := fun i hi => by
  rw [bit_less h, Bool.and_eq_true] at hi
  exact hi.1
theorem least_bit {m F : Nat} (hf : Fits m F) (up : Up m F) (S : Nat) : (leastN m F).testBit S = true ↔ F.testBit S = true ∧ ∀ T, F.testBit T = true → Sub T S → T = S := by
  unfold leastN
  rw [sub_and, Bool.and_eq_true]
  constructor
  · rintro ⟨h1, h2⟩
    refine ⟨h1, fun T hT sT => Classical.byContradiction fun ne => ?_⟩
    obtain ⟨i, hi⟩ : ∃ i, S.testBit i = true ∧ T.testBit i = false := Classical.byContradiction fun z => ne (sT.antisymm fun i hi => by
      cases c : T.testBit i
      · exact absurd ⟨i, hi, c⟩ z
      · rfl)
    have lS := hf S h1
    have hb := up T (S - 2 ^ i) hT (fun j hj => by
      rw [bit_less hi.1, sT j hj, decide_eq_false (show ¬ j = i from fun c => by rw [c, hi.2] at hj; cases hj)]
      rfl) (Nat.lt_of_le_of_lt (Nat.sub_le _ _) lS)
    rw [show (abTo m F m).testBit S = true from (abTo_bit hf (Nat.le_refl m) S).mpr ⟨i, sub_lt lS hi.1, hi.1, hb⟩] at h2
    cases h2
  · rintro ⟨h1, h2⟩
    refine ⟨h1, ?_⟩
    cases c : (abTo m F m).testBit S
    · rfl
    · obtain ⟨i, _, a, b⟩ := (abTo_bit hf (Nat.le_refl m) S).mp c
      have := h2 _ b (sub_less a)
      have := bit_le a
      have := Nat.two_pow_pos i
      omega
end Su.Fm
/-! ### F1: families of sets, told -/
namespace Su
open PySem PySem.Spec PyProof.Rows L2
open LamX hiding takes0
open Fm
theorem band_nat (a b : Nat) : Builtin.bitAnd (a : Int) (b : Int) = ((a &&& b : Nat) : Int) := by
  unfold Builtin.bitAnd
  rw [decide_eq_true (Int.natCast_nonneg a), decide_eq_true (Int.natCast_nonneg b)]
  show (((a : Int).toNat &&& (b : Int).toNat : Nat) : Int) = _
  rw [Int.toNat_natCast, Int.toNat_natCast]
theorem bnot_not (x : Int) : Builtin.bitNot (Builtin.bitNot x) = x := by
  unfold Builtin.bitNot
  omega
theorem bor_nat (a b : Nat) : Builtin.bitOr (a : Int) (b : Int) = ((a ||| b : Nat) : Int) := by
  unfold Builtin.bitOr Builtin.bitAnd
  have h : ∀ x : Nat, ¬ (0 ≤ Builtin.bitNot (x : Int)) := fun x => by
    unfold Builtin.bitNot
    omega
  rw [decide_eq_false (h a), decide_eq_false (h b)]
  show Builtin.bitNot (Builtin.bitNot (((Builtin.bitNot (Builtin.bitNot (a : Int))).toNat ||| (Builtin.bitNot (Builtin.bitNot (b : Int))).toNat : Nat) : Int)) = _
  rw [bnot_not, bnot_not, bnot_not, Int.toNat_natCast, Int.toNat_natCast]
theorem fits_abs {m F : Nat} (hm : m ≤ 13) (hf : Fits m F) : ((F : Nat) : Int).natAbs < 2 ^ 8192 := by
  rw [Int.natAbs_natCast]
  exact Nat.lt_of_lt_of_le (fits_lt.mp hf) (Nat.pow_le_pow_right (by decide) (Nat.le_trans (Nat.pow_le_pow_right (by decide) hm) (by decide)))
theorem one_abs : (1 : Int).natAbs < 2 ^ 4096 := by decide +kernel
theorem pow_small {p m : Nat} (hm : m ≤ 13) (hp : p < m) : 2 ^ p ≤ 4096 := Nat.le_trans (Nat.pow_le_pow_right (by decide) (show p ≤ 12 by omega)) (by decide)
theorem shl_nat {x k : Nat} : ((x : Int) * 2 ^ k) = ((x <<< k : Nat) : Int) := by
  rw [Nat.shiftLeft_eq]
  push_cast
  rfl
theorem shl_one {k : Nat} : ((1 : Int) * 2 ^ k) = ((2 ^ k : Nat) : Int) := by
  rw [Int.one_mul]
  push_cast
  rfl
/-- the lacks of m places -/
def lacksV (m : Nat) : List V := (List.range m).map fun p => V.int (lackN m p)
def LkAt (H : Hp) (a : Addr) (m : Nat) : Prop := H a = some (.lst (lacksV m))
def spLacks : Sp := fun vs H Q _ => ∃ m : Nat, vs = [.int m] ∧ m ≤ 13 ∧ ∀ (a : Addr) (H' : Hp), Same H H' → H a = none → LkAt H' a m → Q (.ref a) H'
def spWithR : Sp := fun vs H Q _ => ∃ (F p m : Nat) (a : Addr), vs = [.int F, .int p, .ref a] ∧ LkAt H a m ∧ m ≤ 13 ∧ p < m ∧ Fits m F ∧ Q (.int (withN m F p)) H
def spWithin : Sp := fun vs H Q _ => ∃ F G : Nat, vs = [.int F, .int G] ∧ Q (.bl (decide (F ||| G = G))) H
theorem sc_all_lacks : FnScope ["many", "lacks", "place", "family", "above"] ["many"] (defScope s_all_lacks) := ⟨rfl, rfl, rfl, by decide +kernel, rfl, by decide +kernel, by decide +kernel⟩
theorem sc_with_room : FnScope ["family", "place", "lacks", "without"] ["family", "place", "lacks"] (defScope s_with_room) := ⟨rfl, rfl, rfl, by decide +kernel, rfl, by decide +kernel, by decide +kernel⟩
theorem sc_is_within : FnScope ["family", "other"] ["family", "other"] (defScope s_is_within) := ⟨rfl, rfl, rfl, by decide +kernel, rfl, by decide +kernel, by decide +kernel⟩
section
variable {P : Program} {w : World} {K : PySem.W.Frag} {mg : Str → Option Value} {base : Heap}
theorem ok_within (T : At K mg "is_within" s_is_within ["family", "other"]) : Cal P w K mg base 1 "is_within" ["family", "other"] spWithin := by
  refine cal_of T sc_is_within (fun vs H Q E h => ?_) (fun f cdv A outer s H vs Q E hr h => ?_)
  · obtain ⟨F, G, rfl, _⟩ := h
    rfl
  · obtain ⟨F, G, rfl, q⟩ := h
    refine ⟨_, (pss_one (ps_ret (pe_cmpR op_eq (pe_op op_or (pv 0) (pv 1)) (pv 1) (nomark _)))), ?_⟩
    refine ⟨_, rfl, _, rfl, F, G, rfl, rfl, _, rfl, rfl, ?_⟩
    show Q (.bl (decide (V.int (Builtin.bitOr (F : Int) (G : Int)) = V.int (G : Nat)))) H
    rw [bor_nat]
    have e : decide (V.int ((F ||| G : Nat) : Int) = V.int (G : Nat)) = decide (F ||| G = G) := decide_eq_decide.mpr ⟨fun h => by have := V.int.inj h; omega, fun h => by rw [h]⟩
    rw [e]
    exact q
theorem ok_with_room (T : At K mg "with_room" s_with_room ["family", "place", "lacks"]) : Cal P w K mg base 1 "with_room" ["family", "place", "lacks"] spWithR := by
  refine cal_of T sc_with_room (fun vs H Q E h => ?_) (fun f cdv A outer s H vs Q E hr h => ?_)
  · obtain ⟨F, p, m, a, rfl, _⟩ := h
    rfl
  · obtain ⟨F, p, m, a, rfl, hl, m12, hp, hf, q⟩ := h
    refine ⟨_, (pss_cons (ps_set (i := 3) sc_with_room.nd rfl (Or.inl rfl) (pe_op op_and (pv 0) (pe_ix ix_list (pv 2) (pv 1) (fun _ _ => rfl))))
      (pss_one (ps_ret (pe_op op_or (pe_op op_sub (pv 0) (pv 3)) (pe_op op_shlN (pv 3) (pe_op op_shlN pe_int (pv 1))))))), ?_⟩
    have el : (lacksV m)[p]? = some (.int (lackN m p)) := by
      unfold lacksV
      rw [List.getElem?_map, List.getElem?_range hp]
      rfl
    refine ⟨_, rfl, _, rfl, _, rfl, a, _, p, .int (lackN m p), rfl, rfl, SqL.of hl, atI_nat el, F, (lackN m p : Nat), rfl, rfl, ?_⟩
    have fw : Fits m (F &&& lackN m p) := fun S h => by
      rw [Nat.testBit_and, Bool.and_eq_true] at h
      exact hf S h.1
    have hle : F &&& lackN m p ≤ F := Nat.and_le_left
    refine ⟨_, rfl, _, rfl, F, ((F &&& lackN m p : Nat) : Int), rfl, ?_, _, rfl, _, rfl, 1, p, rfl, rfl, shl_ok one_abs (by omega), ((F &&& lackN m p : Nat) : Int), 2 ^ p, ?_, ?_, shl_ok (fits_abs m12 fw) (by have := pow_small m12 hp; omega), ?_⟩
    · show V.int (Builtin.bitAnd (F : Int) (lackN m p : Nat)) = _
      rw [band_nat]
    · show V.int (Builtin.bitAnd (F : Int) (lackN m p : Nat)) = _
      rw [band_nat]
    · rw [shl_one]
    refine ⟨((F - (F &&& lackN m p) : Nat) : Int), (((F &&& lackN m p) <<< 2 ^ p : Nat) : Int), ?_, ?_, ?_⟩
    · rw [Int.ofNat_sub hle]
    · rw [shl_nat]
    show Q (V.int (Builtin.bitOr ((F - (F &&& lackN m p) : Nat) : Int) (((F &&& lackN m p) <<< 2 ^ p : Nat) : Int))) H
    rw [bor_nat]
    exact q
theorem ok_all_lacks (T : At K mg "all_lacks" s_all_lacks ["many"]) (B : Bt mg) : Cal P w K mg base 1 "all_lacks" ["many"] spLacks := by
  refine cal_of T sc_all_lacks (fun vs H Q E h => ?_) (fun f cdv A outer s H vs Q E hr h => ?_)
  · obtain ⟨m, rfl, _⟩ := h
    rfl
  · obtain ⟨m, rfl, m12, q⟩ := h
    refine ⟨_, (pss_cons (ps_set (i := 1) sc_all_lacks.nd rfl (Or.inl rfl) (pe_lst pa_nil))
      (pss_cons (ps_for PassesOwn.never rfl (pi_range1 (by rfl) B.range (pa_cons (pv 0) pa_nil)) (pg_name (i := 2) sc_all_lacks.nd rfl (Or.inl rfl)) (pss_cons (ps_set (i := 3) sc_all_lacks.nd rfl (Or.inl rfl) (pe_op op_sub (pe_op op_shlN pe_int (pe_op op_shlN pe_int (pv 2))) pe_int))
      (pss_cons (ps_for PassesOwn.never rfl (pi_range2 (by rfl) B.range (pa_cons (pe_op op_add (pv 2) pe_int) (pa_cons (pv 0) pa_nil))) (pg_name (i := 4) sc_all_lacks.nd rfl (Or.inl rfl)) (pss_one (ps_aug (i := 3) sc_all_lacks.nd rfl (Or.inl rfl) (pe_op op_shlN (pv 3) (pe_op op_shlN pe_int (pv 4))) ip_or)))
      (pss_one (ps_expr (pe_bm PySem.F.plainAttrs_list PySem.F.slot_list_append PySem.F.type_list_append mt_append (pv 1) (pa_cons (pv 3) pa_nil)))))))
      (pss_one (ps_ret (pv 1))))), ?_⟩
    have lkF : ∀ i k, i + 1 + k ≤ m → Fits (i + 1 + k) (lackTo i k) := fun i k h S hb => by
      rw [lackTo_bit, Bool.and_eq_true, decide_eq_true_eq] at hb
      exact hb.1
    refine ⟨(by show 0 ≤ sizeLine; decide), fun L nL => ?_⟩
    have sL : Same H (upd H L (.lst [])) := same_upd nL
    have hL : (upd H L (.lst [])) L = some (.lst []) := upd_same
    generalize upd H L (.lst []) = H1 at sL hL ⊢
    refine ⟨_, rfl, (m : Int), rfl, by omega, by omega, ?_⟩
    rw [Int.toNat_natCast]
    refine for_range (lo := 0) (n := m) (fun i σ H2 => ∃ y2 y3 y4 : Option V, σ = [some (.int (m : Nat)), some (.ref L), y2, y3, y4] ∧ Same H H2 ∧ H2 L = some (.lst ((List.range i).map fun p => V.int (lackN m p)))) ?_ ?_ ?_
    · exact ⟨none, none, none, rfl, sL, hL⟩
    · rintro i σ H2 hi ⟨y2, y3, y4, rfl, s2, hL2⟩
      rw [Int.zero_add]
      have p1 := pow_small m12 hi
      refine ⟨_, rfl, 1, i, rfl, rfl, shl_ok one_abs (by omega), 1, 2 ^ i, rfl, (by rw [shl_one]), shl_ok one_abs (by omega), _, _, rfl, rfl, ?_⟩
      have e0 : (1 : Int) * 2 ^ 2 ^ i - 1 = ((lackTo i 0 : Nat) : Int) := by
        show _ = (((2 ^ 2 ^ i - 1 : Nat)) : Int)
        rw [Int.ofNat_sub Nat.one_le_two_pow, shl_one]
        rfl
      try dsimp only [gName, tSeq, tAsg]
      rw [e0]
      refine ⟨_, rfl, _, _, rfl, rfl, _, rfl, (i : Int) + 1, (m : Int), rfl, ⟨by omega, by omega, by omega, by omega⟩, ?_⟩
      rw [show ((m : Int) - ((i : Int) + 1)).toNat = m - (i + 1) by omega]
      refine for_range (lo := (i : Int) + 1) (n := m - (i + 1)) (fun k σ H3 => H3 = H2 ∧ ∃ y4 : Option V, σ = [some (.int (m : Nat)), some (.ref L), some (.int (i : Nat)), some (.int (lackTo i k : Nat)), y4]) ?_ ?_ ?_
      · exact ⟨rfl, y4, rfl⟩
      · rintro k σ H3 hk ⟨rfl, y4, rfl⟩
        have pk := pow_small (p := i + 1 + k) m12 (by omega)
        have fk := lkF i k (by omega)
        have ek : (i : Int) + 1 + (k : Int) = ((i + 1 + k : Nat) : Int) := by push_cast; rfl
        rw [ek]
        refine ⟨_, rfl, _, rfl, _, rfl, 1, i + 1 + k, rfl, rfl, shl_ok one_abs (by omega), ((lackTo i k : Nat) : Int), 2 ^ (i + 1 + k), rfl, (by rw [shl_one]), shl_ok (fits_abs (m := i + 1 + k) (by omega) fk) (by omega), ?_⟩
        refine ⟨_, _, rfl, (show V.int _ = V.int (((lackTo i k) <<< 2 ^ (i + 1 + k) : Nat) : Int) from by rw [shl_nat]), rfl, some (.int (i + 1 + k : Nat)), ?_⟩
        show [some (V.int (m : Nat)), some (.ref L), some (.int (i : Nat)), some (V.int (Builtin.bitOr ((lackTo i k : Nat) : Int) ((lackTo i k <<< 2 ^ (i + 1 + k) : Nat) : Int))), some (.int ((i + 1 + k : Nat) : Int))] = _
        rw [bor_nat]
        rfl
      · rintro σ H3 ⟨rfl, y4, rfl⟩
        refine ⟨_, rfl, .inl ⟨rfl, _, SqL.of hL2⟩, ?_⟩
        refine ⟨_, rfl, L, _, _, rfl, rfl, hL2, ?_, ?_⟩
        · rw [List.length_map, List.length_range]
          exact small1000 (by omega)
        refine ⟨_, _, _, rfl, fun c o ec => ?_, ?_⟩
        · rw [upd_ne (ne_of_none ec nL)]
          exact s2 _ _ ec
        · rw [upd_same, List.range_succ, List.map_append]
          rfl
    · rintro σ H2 ⟨y2, y3, y4, rfl, s2, hL2⟩
      exact ⟨_, rfl, q L H2 s2 nL hL2⟩
end
end Su
/-! ### F2: places, and what is behind a row -/
namespace Su
open PySem PySem.Spec PyProof.Rows L2
open LamX hiding takes0
open Fm
/-- the rooms with a place: all but one -/
def othR (rs : List Rw) (k : Int) : List Int := (roomsR rs).filter fun x => !decide (x = k)
def plK (ms : List Int) : List (Key × V) := (List.range ms.length).map fun j => (Sum.inl (ms.getD j 0), V.int (j : Nat))
def plT (ms : List Int) (i : Nat) : List (Key × V) := (List.range i).map fun j => (Sum.inl (ms.getD j 0), V.int (j : Nat))
theorem plT_succ (ms : List Int) (i : Nat) : plT ms (i + 1) = plT ms i ++ [(Sum.inl (ms.getD i 0), V.int (i : Nat))] := by
  unfold plT
  rw [List.range_succ, List.map_append]
  rfl
theorem map_geti {α β : Type} {f : α → β} {l : List α} {i : Nat} {y : β} (h : (l.map f)[i]? = some y) : ∃ x, l[i]? = some x ∧ f x = y := by
  rw [List.getElem?_map] at h
  exact Option.map_eq_some_iff.mp h
theorem idx_at {ms : List Int} (nd : ms.Nodup) {i : Nat} {k : Int} (e : ms[i]? = some k) : ms.idxOf k = i := by
  obtain ⟨hi, rfl⟩ := List.getElem?_eq_some_iff.mp e
  exact nd.idxOf_getElem i hi
theorem pl_val {ms : List Int} (nd : ms.Nodup) : ∀ (i : Nat), i ≤ ms.length → ∀ k : Int, valV (plT ms i) (Sum.inl k) = if ms.idxOf k < i then some (V.int (ms.idxOf k : Nat)) else none
  | 0, _, k => by
    rw [if_neg (Nat.not_lt_zero _)]
    rfl
  | i + 1, h, k => by
    have hg : ms[i]? = some (ms.getD i 0) := by
      rw [List.getD_eq_getElem?_getD, List.getElem?_eq_getElem (by omega)]
      rfl
    have hi := idx_at nd hg
    rw [plT_succ, valV_snoc _ _ _ _ (by rw [pl_val nd i (by omega), hi, if_neg (Nat.lt_irrefl _)]), pl_val nd i (by omega)]
    by_cases c : k = ms.getD i 0
    · rw [if_pos (by rw [c]), c, hi, if_pos (Nat.lt_succ_self _)]
    · rw [if_neg (fun z => c (Sum.inl.inj z))]
      by_cases d : ms.idxOf k < i
      · rw [if_pos d, if_pos (by omega)]
      · rw [if_neg d, if_neg]
        intro z
        have e : ms.idxOf k = i := by omega
        refine c ?_
        have lt : ms.idxOf k < ms.length := by omega
        have := List.getElem_idxOf lt
        rw [List.getD_eq_getElem?_getD, ← e, List.getElem?_eq_getElem lt]
        exact this.symm
/-- places, locked -/
def PlAt (H : Hp) (a : Addr) (ms : List Int) : Prop := ∃ od, H a = some (.frz od (.dK (plK ms)))
def spPlaces : Sp := fun vs H Q _ => ∃ (W : Addr) (rs : List Rw) (k : Int), vs = [.ref W, .int k] ∧ WebAt H W rs ∧ WebOk rs ∧ ∀ (a : Addr) (H' : Hp), Same H H' → H a = none → PlAt H' a (othR rs k) → Q (.ref a) H'
theorem sc_places_of : FnScope ["web", "room", "others", "one", "place"] ["web", "room"] (defScope s_places_of) := ⟨rfl, rfl, rfl, by decide +kernel, rfl, by decide +kernel, by decide +kernel⟩
section
variable {P : Program} {w : World} {K : PySem.W.Frag} {mg : Str → Option Value} {base : Heap}
theorem ok_places (T : At K mg "places_of" s_places_of ["web", "room"]) (B : Bt mg) (c_rooms_in : Cal P w K mg base 1 "rooms_in" ["rows"] (spRoomsIn w)) : Cal P w K mg base 2 "places_of" ["web", "room"] spPlaces := by
  refine cal_of T sc_places_of (fun vs H Q E h => ?_) (fun f cdv A outer s H vs Q E hr h => ?_)
  · obtain ⟨W, rs, k, rfl, _⟩ := h
    rfl
  · obtain ⟨W, rs, k, rfl, hW, ok, q⟩ := h
    refine ⟨_, (pss_cons (ps_setLc (i := 2) (own := [("one", 3)]) (g := (gName 3)) (tt := (tTest (tOp rNe (tVar 3) (tVar 1)))) (te := (tVar 3)) (by rfl) sc_places_of.nd rfl rfl (sw_true rfl rfl rfl (by decide +kernel)) (pi_list (pe_own c_rooms_in hr (by decide) (by rfl) (pa_cons (pv 0) pa_nil))) (blkOk_by (own := [("one", 3)]) (N := ["web", "room", "others", "one", "place"]) (sc := defScope s_places_of) (by decide +kernel)) (fun _ _ _ _ _ => (pg_name (i := 3) sc_places_of.nd rfl (Or.inl rfl))) (fun _ _ _ _ _ => pts_one (pt_cmpR op_ne (pv 3) (pv 1) (nomark _))) (fun _ _ _ _ _ => (pv 3)))
      (pss_one (ps_ret (pe_lockR (pe_dc (own := [("place", 4), ("one", 3)]) (g := (gTup K 2 (gCons (gName 4) (gCons (gName 3) gNil)))) (tt := tYes) (tk := (tVar 3)) (tv := (tVar 4)) (by rfl) sc_places_of.nd (pi_enum (by rfl) B.enumerate (pa_cons (pv 2) pa_nil)) (blkOk_by (own := [("place", 4), ("one", 3)]) (N := ["web", "room", "others", "one", "place"]) (sc := defScope s_places_of) (by decide +kernel)) (fun _ _ _ _ _ => (pg_tup (by rfl) (pgs_cons (pg_name (i := 4) sc_places_of.nd rfl (Or.inl rfl)) (pgs_cons (pg_name (i := 3) sc_places_of.nd rfl (Or.inl rfl)) pgs_nil)))) (fun _ _ _ _ _ => pts_nil) (fun _ _ _ _ _ => (pv 3)) (fun _ _ _ _ _ => (pv 4))))))), ?_⟩
    obtain ⟨S, hS, hin⟩ := id ok.all
    refine ⟨_, rfl, W, rs, S, rfl, hW, by omega, hin, fun ms rm H1 pw mem s1 nu hrm => ?_⟩
    obtain rfl := rooms_is pw mem
    have e12 : (roomsR rs).length ≤ 12 := Nat.le_trans (nodup_few ((rooms_pw rs).imp fun h => Int.ne_of_lt h) fun k hk => hin k (rooms_mem.mp hk)) hS
    refine ⟨rm, rfl, ⟨_, SqL.of hrm⟩, fun D nD => ?_⟩
    refine lc_list (K := K) (a := rm) (xs := (roomsR rs).map V.int) (fun i H2 => Same H1 H2 ∧ H2 D = some (.lst ((((roomsR rs).take i).filter fun x => !decide (x = k)).map V.int))) ?_ ?_ ?_ ?_
    · exact ⟨same_upd nD, upd_same⟩
    · rintro i H2 _ ⟨s2, _⟩
      exact SqL.of (s2 _ _ hrm)
    · rintro i v H2 hv ⟨s2, hD⟩
      obtain ⟨j, ej, rfl⟩ := map_geti hv
      have et : (roomsR rs).take (i + 1) = (roomsR rs).take i ++ [j] := by rw [List.take_add_one, ej]; rfl
      refine ⟨rfl, _, rfl, _, rfl, rfl, _, rfl, iteB (fun z => ?_) (fun z => ?_)⟩
      · have z2 : ¬ j = k := fun y => by
          rw [y] at z
          simp at z
        refine ⟨_, rfl, _, hD, ?_, fun c o ec => ?_, ?_⟩
        · rw [List.length_map]
          refine Nat.lt_of_le_of_lt (List.length_filter_le _ _) ?_
          rw [List.length_take, sizeLine_eq]
          omega
        · rw [upd_ne (ne_of_none ec nD)]
          exact s2 _ _ ec
        · rw [upd_same, et, List.filter_append, List.map_append, List.filter_cons_of_pos (by rw [decide_eq_false z2]; rfl)]
          rfl
      · have z2 : j = k := by
          have z3 : decide (V.int j = V.int k) = true := by simpa using z
          exact V.int.inj (of_decide_eq_true z3)
        refine ⟨s2, ?_⟩
        rw [et, List.filter_append, List.filter_cons_of_neg (by rw [z2]; simp), List.filter_nil, List.append_nil]
        exact hD
    rintro H2 ⟨s2, hD⟩
    rw [List.length_map, List.take_length] at hD
    have nd : (othR rs k).Nodup := ((rooms_pw rs).imp fun h => Int.ne_of_lt h).filter _
    have l12 : (othR rs k).length ≤ 12 := Nat.le_trans (List.length_filter_le _ _) e12
    have hD : H2 D = some (.lst ((othR rs k).map V.int)) := hD
    refine ⟨_, rfl, D, _, rfl, SqL.of hD, fun D2 nD2 => ?_⟩
    refine dc_enum (K := K) (a := D) (xs := (othR rs k).map V.int) (fun i H3 => Same H2 H3 ∧ H3 D2 = some (.dK (plT (othR rs k) i))) ?_ ?_ ?_ ?_
    · exact ⟨same_upd nD2, upd_same⟩
    · rintro i H3 _ ⟨s3, _⟩
      exact SqL.of (s3 _ _ hD)
    · rintro i v t H3 hv ⟨s3, hD2⟩ nt
      obtain ⟨j, ej, rfl⟩ := map_geti hv
      have st : Same H3 (upd H3 t (.tup [.int (i : Nat), .int j])) := same_upd nt
      have ntD : t ≠ D2 := fun z => by rw [z, hD2] at nt; cases nt
      have lt := (List.getElem?_eq_some_iff.mp ej).1
      refine ⟨t, _, rfl, SqT.of upd_same, rfl, _, _, rfl, _, _, rfl, rfl, rfl, tyes ?_⟩
      refine ⟨_, rfl, _, rfl, _, Sum.inl j, rfl, st _ _ hD2, by unfold plT; rw [List.length_map, List.length_range, sizeLine_eq]; omega, fun c o ec => ?_, ?_⟩
      · rw [upd_ne (ne_of_none ec nD2)]
        exact st _ _ (s3 _ _ ec)
      · rw [upd_same, putK_new _ (by rw [pl_val nd i (by omega), idx_at nd ej, if_neg (Nat.lt_irrefl _)]), plT_succ, List.getD_eq_getElem?_getD, ej]
        rfl
    rintro H3 ⟨s3, hD2⟩
    rw [List.length_map] at hD2
    refine ⟨D2, _, hD2, trivial, fun od => ?_⟩
    have n0 : H D2 = none := (s1.trans s2).free nD2
    refine q D2 _ (fun c o ec => ?_) n0 ⟨od, upd_same⟩
    rw [upd_ne (ne_of_none ec n0)]
    exact s3 _ _ (s2 _ _ (s1 _ _ ec))
end
end Su
/-! ### F3: what is behind a row -/
namespace Su
open PySem PySem.Spec PyProof.Rows L2
open LamX hiding takes0
open Fm
/-- one ask of it -/
def askN (m : Nat) (ms : List Int) (F : Nat) (k : Int) : Nat := if k ∈ ms then withN m F (ms.idxOf k) else 1
def asksN (m : Nat) (ms : List Int) (F : Nat) : List Int → Nat
  | [] => 0
  | k :: ks => askN m ms F k ||| asksN m ms F ks
def behN (m : Nat) (ms : List Int) (F : Nat) (ks : List Int) : Nat := if F = 0 ∨ ks = [] then F else asksN m ms F ks
theorem asksN_snoc (m : Nat) (ms : List Int) (F : Nat) : ∀ (ks : List Int) (k : Int), asksN m ms F (ks ++ [k]) = asksN m ms F ks ||| askN m ms F k
  | [], k => by simp [asksN]
  | j :: ks, k => by
    show askN m ms F j ||| asksN m ms F (ks ++ [k]) = (askN m ms F j ||| asksN m ms F ks) ||| askN m ms F k
    rw [asksN_snoc m ms F ks k, Nat.or_assoc]
def spBeh : Sp := fun vs H Q _ => ∃ (F m : Nat) (rb pl a : Addr) (ks ms : List Int), vs = [.int F, .ref rb, .ref pl, .ref a] ∧ T2 H rb (ks.map V.int) ∧ PlAt H pl ms ∧ ms.Nodup ∧ ms.length ≤ m ∧ LkAt H a m ∧ m ≤ 13 ∧ Fits m F ∧ Q (.int (behN m ms F ks)) H
theorem sc_behind : FnScope ["family", "rooms", "places", "lacks", "come", "room"] ["family", "rooms", "places", "lacks"] (defScope s_behind) := ⟨rfl, rfl, rfl, by decide +kernel, rfl, by decide +kernel, by decide +kernel⟩
section
variable {P : Program} {w : World} {K : PySem.W.Frag} {mg : Str → Option Value} {base : Heap}
theorem ok_behindN (T : At K mg "behind" s_behind ["family", "rooms", "places", "lacks"]) (B : Bt mg) (mNo : ∃ t, mg "NO_FAMILY" = some (.int 0 t)) (mEm : ∃ t, mg "EMPTY_ALONE" = some (.int 1 t)) (c_with_room : Cal P w K mg base 1 "with_room" ["family", "place", "lacks"] spWithR) : Cal P w K mg base 2 "behind" ["family", "rooms", "places", "lacks"] spBeh := by
  obtain ⟨tn, mNo⟩ := mNo
  obtain ⟨te, mEm⟩ := mEm
  refine cal_of T sc_behind (fun vs H Q E h => ?_) (fun f cdv A outer s H vs Q E hr h => ?_)
  · obtain ⟨F, m, rb, pl, a, ks, ms, rfl, _⟩ := h
    rfl
  · obtain ⟨F, m, rb, pl, a, ks, ms, rfl, hrb, hpl, nd, lm, hl, m12, hf, q⟩ := h
    refine ⟨_, (pss_cons (ps_if (PW.pt (pw_or (pt_cmpR op_eq (pv 0) (pe_glob (v := .int 0) rfl mNo ⟨_, rfl⟩) (nomark _)) (pw_or1 (pt_cmpR op_eq (pe_callB call_len_seq (by rfl) B.len PySem.boot_len (pa_cons (pv 1) pa_nil)) pe_int (nomark _))))) (pss_one (ps_ret (pv 0))) pss_nil)
      (pss_cons (ps_set (i := 4) sc_behind.nd rfl (Or.inl rfl) (pe_glob (v := .int 0) rfl mNo ⟨_, rfl⟩))
      (pss_cons (ps_for PassesOwn.never rfl (pi_tup (pv 1)) (pg_name (i := 5) sc_behind.nd rfl (Or.inl rfl)) (pss_one (ps_aug (i := 4) sc_behind.nd rfl (Or.inl rfl) (pe_ifExp (pt_cmp (pc_din (hu_of hr) (pv 5) (pv 2))) (pe_own c_with_room hr (by decide) (by rfl) (pa_cons (pv 0) (pa_cons (pe_dget (hu_of hr) (pv 2) (pv 5) (fun _ _ => rfl)) (pa_cons (pv 3) pa_nil)))) (pe_glob (v := .int 1) rfl mEm ⟨_, rfl⟩)) ip_or)))
      (pss_one (ps_ret (pv 4)))))), ?_⟩
    obtain ⟨od, hpl⟩ := hpl
    have dget : ∀ k : Int, DGet H pl (.int k) (if k ∈ ms then some (V.int (ms.idxOf k : Nat)) else none) := fun k => by
      refine .inl ⟨plK ms, Sum.inl k, .inr ⟨od, hpl⟩, rfl, ?_⟩
      have z := pl_val nd ms.length (Nat.le_refl _) k
      rw [show plT ms ms.length = plK ms from rfl] at z
      rw [z]
      by_cases c : k ∈ ms
      · rw [if_pos c, if_pos (List.idxOf_lt_length_iff.mpr c)]
      · rw [if_neg c, if_neg (fun y => c (List.idxOf_lt_length_iff.mp y))]
    have done : F = 0 ∨ ks = [] → Q (.int F) H := fun c => by
      unfold behN at q
      rw [if_pos c] at q
      exact q
    refine ⟨_, rfl, rfl, _, rfl, iteB (fun z => ?_) (fun z => ?_)⟩
    · have y := V.int.inj (of_decide_eq_true z)
      exact iteT ⟨_, rfl, done (.inl (by omega))⟩
    have nF : ¬ F = 0 := fun e => by
      rw [e] at z
      simp at z
    refine ⟨_, rfl, rb, _, rfl, .inr hrb.sq, rfl, _, rfl, iteB (fun z2 => ?_) (fun z2 => ?_)⟩
    · have y := V.int.inj (of_decide_eq_true z2)
      rw [List.length_map] at y
      exact ⟨_, rfl, done (.inr (List.eq_nil_of_length_eq_zero (by omega)))⟩
    have nk : ¬ ks = [] := fun e => by
      rw [e] at z2
      simp at z2
    refine ⟨_, rfl, rb, rfl, ⟨_, hrb.sq⟩, ?_⟩
    refine for_tup (K := K) (a := rb) (xs := ks.map V.int) (fun i σ H2 => H2 = H ∧ ∃ y5 : Option V, σ = [some (.int F), some (.ref rb), some (.ref pl), some (.ref a), some (.int (asksN m ms F (ks.take i) : Nat)), y5]) ?_ ?_ ?_ ?_
    · exact ⟨rfl, none, rfl⟩
    · rintro i σ H2 _ ⟨rfl, _⟩
      exact hrb.sq
    · rintro i v σ H2 hv ⟨rfl, y5, rfl⟩
      obtain ⟨k, ek, rfl⟩ := map_geti hv
      have et : ks.take (i + 1) = ks.take i ++ [k] := by rw [List.take_add_one, ek]; rfl
      refine ⟨_, rfl, _, rfl, _, rfl, pl, _, rfl, dget k, _, rfl, ?_⟩
      by_cases c : k ∈ ms
      · rw [if_pos c]
        have lt := List.idxOf_lt_length_iff.mpr c
        refine iteT ⟨_, rfl, _, rfl, _, rfl, pl, _, rfl, (by have z := dget k; rw [if_pos c] at z; exact z), _, rfl, F, ms.idxOf k, m, a, rfl, hl, m12, by omega, hf, ?_⟩
        refine ⟨_, _, rfl, rfl, rfl, some (.int k), ?_⟩
        show [some (V.int (F : Nat)), some (.ref rb), some (.ref pl), some (.ref a), some (V.int (Builtin.bitOr ((asksN m ms F (ks.take i) : Nat) : Int) ((withN m F (ms.idxOf k) : Nat) : Int))), some (.int k)] = _
        rw [bor_nat, et, asksN_snoc]
        unfold askN
        rw [if_pos c]
      · rw [if_neg c]
        refine iteF ⟨_, _, rfl, rfl, rfl, some (.int k), ?_⟩
        show [some (V.int (F : Nat)), some (.ref rb), some (.ref pl), some (.ref a), some (V.int (Builtin.bitOr ((asksN m ms F (ks.take i) : Nat) : Int) ((1 : Nat) : Int))), some (.int k)] = _
        rw [bor_nat, et, asksN_snoc]
        unfold askN
        rw [if_neg c]
    · rintro σ H2 ⟨rfl, y5, rfl⟩
      rw [List.length_map, List.take_length]
      unfold behN at q
      rw [if_neg (fun z => z.elim nF nk)] at q
      exact ⟨_, rfl, q⟩
end
end Su
/-! ### FS: the least families that are closed, by a line of rows -/
namespace Su
open PySem PySem.Spec PyProof.Rows L2
open LamX hiding takes0
open Fm
/-- the one lies within the other -/
abbrev Inn (F G : Nat) : Prop := F ||| G = G
theorem inn_iff {F G : Nat} : Inn F G ↔ ∀ S, F.testBit S = true → G.testBit S = true := by
  constructor
  · intro h S hS
    rw [← h, Nat.testBit_or, hS]
    rfl
  · intro h
    refine Nat.eq_of_testBit_eq fun S => ?_
    rw [Nat.testBit_or]
    cases c : F.testBit S
    · rfl
    · rw [h S c]
      rfl
theorem Inn.trans {F G E : Nat} (h : Inn F G) (g : Inn G E) : Inn F E := inn_iff.mpr fun S hS => inn_iff.mp g S (inn_iff.mp h S hS)
theorem inn_or (F G : Nat) : Inn G (G ||| F) := inn_iff.mpr fun S hS => by rw [Nat.testBit_or, hS]; rfl
theorem inn_or' (F G : Nat) : Inn F (G ||| F) := inn_iff.mpr fun S hS => by rw [Nat.testBit_or, hS, Bool.or_true]
theorem or_grow {F G : Nat} (h : ¬ Inn F G) : G < G ||| F := by
  have h1 : G ≤ G ||| F := Nat.left_le_or
  refine Nat.lt_of_le_of_ne h1 fun e => h ?_
  rw [Inn, Nat.or_comm]
  exact e.symm
/-- what a step asks of the families -/
structure Stp1 (rs : List Rw) (ms : List Int) (m : Nat) (CL : Nat → Nat) (I : Nat → Nat → Prop) : Prop where
  st : ∀ (r : Nat) (row : Rw) (F : Nat), rs[r]? = some row → Fits m F → (∀ S, F.testBit S = true → I r S) → ∀ t ∈ row.2, ∀ S, (CL (behN m ms F row.1)).testBit S = true → I t.toNat S
structure FamOk (rs : List Rw) (ms : List Int) (m : Nat) (CL : Nat → Nat) (first : Nat) (Fs : List Nat) : Prop where
  len : Fs.length = rs.length
  fits : ∀ F ∈ Fs, Fits m F
  init : ∀ F, Fs[0]? = some F → Inn (CL first) F
  snd : ∀ I : Nat → Nat → Prop, (∀ S, (CL first).testBit S = true → I 0 S) → Stp1 rs ms m CL I → ∀ (r F S : Nat), Fs[r]? = some F → F.testBit S = true → I r S
/-- row r is done -/
def Done (rs : List Rw) (ms : List Int) (m : Nat) (CL : Nat → Nat) (Fs : List Nat) (r : Nat) : Prop := ∀ (row : Rw) (F : Nat), rs[r]? = some row → Fs[r]? = some F → ∀ t ∈ row.2, ∃ G, Fs[t.toNat]? = some G ∧ Inn (CL (behN m ms F row.1)) G
def miss (m : Nat) (Fs : List Nat) : Nat := (Fs.map fun F => 2 ^ 2 ^ m - F).sum
structure LineOk (rs : List Rw) (ms : List Int) (m : Nat) (CL : Nat → Nat) (first : Nat) (Fs wt : List Nat) : Prop where
  fam : FamOk rs ms m CL first Fs
  rg : ∀ r ∈ wt, r < rs.length
  nd : wt.Nodup
  dn : ∀ r, r < rs.length → r ∉ wt → Done rs ms m CL Fs r
/-- within the walk over a row's tos: row r has been taken off the line, the family F0 was its own -/
structure MidOk (rs : List Rw) (ms : List Int) (m : Nat) (CL : Nat → Nat) (first : Nat) (r : Nat) (F0 : Nat) (done : List Int) (Fs wt : List Nat) : Prop where
  fam : FamOk rs ms m CL first Fs
  rg : ∀ q ∈ wt, q < rs.length
  nd : wt.Nodup
  dn : ∀ q, q < rs.length → q ∉ wt → q ≠ r → Done rs ms m CL Fs q
  own : r ∈ wt ∨ Fs[r]? = some F0
  to : ∀ (row : Rw), rs[r]? = some row → ∀ t ∈ done, ∃ G, Fs[t.toNat]? = some G ∧ Inn (CL (behN m ms F0 row.1)) G
theorem miss_set {m : Nat} {Fs : List Nat} {i F G : Nat} (e : Fs[i]? = some F) (h : F < G) (hG : G < 2 ^ 2 ^ m) : miss m (Fs.set i G) + 1 ≤ miss m Fs := by
  unfold miss
  induction Fs generalizing i with
  | nil => simp at e
  | cons a Fs ih =>
    cases i with
    | zero =>
      cases e
      rw [List.set_cons_zero, List.map_cons, List.map_cons, List.sum_cons, List.sum_cons]
      omega
    | succ i =>
      rw [List.set_cons_succ, List.map_cons, List.map_cons, List.sum_cons, List.sum_cons]
      have := ih (i := i) (by simpa using e)
      omega
theorem MidOk.start {rs : List Rw} {ms : List Int} {m : Nat} {CL : Nat → Nat} {first r F0 : Nat} {Fs wt : List Nat} (h : LineOk rs ms m CL first Fs (r :: wt)) (e : Fs[r]? = some F0) : MidOk rs ms m CL first r F0 [] Fs wt :=
  ⟨h.fam, fun q hq => h.rg q (List.mem_cons_of_mem _ hq), (List.nodup_cons.mp h.nd).2, fun q hq nq ne => h.dn q hq fun z => (List.mem_cons.mp z).elim ne nq, .inr e, fun _ _ t ht => nomatch ht⟩
theorem MidOk.fin {rs : List Rw} {ms : List Int} {m : Nat} {CL : Nat → Nat} {first r F0 : Nat} {Fs wt : List Nat} {row : Rw} (er : rs[r]? = some row) (h : MidOk rs ms m CL first r F0 row.2 Fs wt) : LineOk rs ms m CL first Fs wt := by
  refine ⟨h.fam, h.rg, h.nd, fun q hq nq => ?_⟩
  by_cases c : q = r
  · subst c
    intro row' F er' eF t ht
    rw [er] at er'
    cases er'
    rcases h.own with z | z
    · exact absurd z nq
    · rw [z] at eF
      cases eF
      exact h.to row er t ht
  · exact h.dn q hq nq c
/-- nothing new at t -/
theorem MidOk.skip {rs : List Rw} {ms : List Int} {m : Nat} {CL : Nat → Nat} {first r F0 G : Nat} {Fs wt : List Nat} {done : List Int} {row : Rw} {t : Int} (h : MidOk rs ms m CL first r F0 done Fs wt) (er : rs[r]? = some row) (eG : Fs[t.toNat]? = some G) (hi : Inn (CL (behN m ms F0 row.1)) G) : MidOk rs ms m CL first r F0 (done ++ [t]) Fs wt := by
  refine ⟨h.fam, h.rg, h.nd, h.dn, h.own, fun row' er' t' ht => ?_⟩
  rw [er] at er'
  cases er'
  rcases List.mem_append.mp ht with z | z
  · exact h.to row er t' z
  · rw [List.mem_singleton.mp z]
    exact ⟨G, eG, hi⟩
theorem get_set {Fs : List Nat} {i j G F : Nat} (e : (Fs.set i G)[j]? = some F) : (j = i ∧ F = G) ∨ (j ≠ i ∧ Fs[j]? = some F) := by
  rw [List.getElem?_set] at e
  by_cases c : i = j
  · rw [if_pos c] at e
    split at e
    · cases e
      exact .inl ⟨c.symm, rfl⟩
    · cases e
  · rw [if_neg c] at e
    exact .inr ⟨fun z => c z.symm, e⟩
/-- the family at t grows, t stands in the line -/
theorem MidOk.grow {rs : List Rw} {ms : List Int} {m : Nat} {CL : Nat → Nat} {first r F0 G : Nat} {Fs wt wt' : List Nat} {done : List Int} {row : Rw} {t : Int} (h : MidOk rs ms m CL first r F0 done Fs wt) (er : rs[r]? = some row) (ht : t ∈ row.2) (t0 : 0 ≤ t) (eG : Fs[t.toNat]? = some G)
    (hf : Fits m F0) (hc : Fits m (CL (behN m ms F0 row.1))) (s0 : ∀ I : Nat → Nat → Prop, (∀ S, (CL first).testBit S = true → I 0 S) → Stp1 rs ms m CL I → ∀ S, F0.testBit S = true → I r S)
    (nd : wt'.Nodup) (mw : ∀ q, q ∈ wt' ↔ q ∈ wt ∨ q = t.toNat) : MidOk rs ms m CL first r F0 (done ++ [t]) (Fs.set t.toNat (G ||| CL (behN m ms F0 row.1))) wt' := by
  have lt := (List.getElem?_eq_some_iff.mp eG).1
  have ltr : t.toNat < rs.length := by rw [← h.fam.len]; exact lt
  have up : ∀ {j F : Nat}, Fs[j]? = some F → ∃ F', (Fs.set t.toNat (G ||| CL (behN m ms F0 row.1)))[j]? = some F' ∧ Inn F F' := fun {j F} e => by
    by_cases c : j = t.toNat
    · subst c
      rw [eG] at e
      cases e
      exact ⟨_, by rw [List.getElem?_set, if_pos rfl, if_pos lt], inn_or _ _⟩
    · exact ⟨F, by rw [List.getElem?_set, if_neg (fun z => c z.symm)]; exact e, by rw [Inn, Nat.or_self]⟩
  have fG : Fits m G := h.fam.fits G (List.mem_of_getElem? eG)
  refine ⟨⟨by rw [List.length_set]; exact h.fam.len, fun F hF => ?_, fun F e => ?_, fun I h1 h2 q F S e hS => ?_⟩, fun q hq => ?_, nd, fun q hq nq ne row' F er' eF t' ht' => ?_, ?_, fun row' er' t' ht' => ?_⟩
  · obtain ⟨j, hj⟩ := List.mem_iff_getElem?.mp hF
    rcases get_set hj with ⟨_, rfl⟩ | ⟨_, e⟩
    · exact fG.or hc
    · exact h.fam.fits F (List.mem_of_getElem? e)
  · rcases get_set e with ⟨z, rfl⟩ | ⟨_, e'⟩
    · rw [← z] at eG
      exact (h.fam.init G eG).trans (inn_or _ _)
    · exact h.fam.init F e'
  · rcases get_set e with ⟨rfl, rfl⟩ | ⟨_, e'⟩
    · rw [Nat.testBit_or, Bool.or_eq_true] at hS
      rcases hS with y | y
      · exact h.fam.snd I h1 h2 _ G S eG y
      · exact h2.st r row F0 er hf (s0 I h1 h2) t ht S y
    · exact h.fam.snd I h1 h2 q F S e' hS
  · rcases (mw q).mp hq with y | rfl
    · exact h.rg q y
    · exact ltr
  · have nq' : q ∉ wt := fun z => nq ((mw q).mpr (.inl z))
    have nt : q ≠ t.toNat := fun z => nq ((mw q).mpr (.inr z))
    rcases get_set eF with ⟨z, _⟩ | ⟨_, e'⟩
    · exact absurd z nt
    · obtain ⟨G', e1, e2⟩ := h.dn q hq nq' ne row' F er' e' t' ht'
      obtain ⟨G'', e3, e4⟩ := up e1
      exact ⟨G'', e3, e2.trans e4⟩
  · rcases h.own with z | z
    · exact .inl ((mw r).mpr (.inl z))
    · by_cases c : r = t.toNat
      · exact .inl ((mw r).mpr (.inr c))
      · exact .inr (by rw [List.getElem?_set, if_neg (fun z => c z.symm)]; exact z)
  · rw [er] at er'
    cases er'
    rcases List.mem_append.mp ht' with z | z
    · obtain ⟨G', e1, e2⟩ := h.to row er t' z
      obtain ⟨G'', e3, e4⟩ := up e1
      exact ⟨G'', e3, e2.trans e4⟩
    · rw [List.mem_singleton.mp z]
      exact ⟨_, by rw [List.getElem?_set, if_pos rfl, if_pos lt], inn_or' _ _⟩
end Su
/-! ### AP0: the states that come to rows: what the program's dict, list and set hold -/
namespace Su
open PySem PySem.Spec PyProof.Rows L2
abbrev PK := Nat × NestedKey
/-- what came: a row and a state, and the step ahead of it -/
structure CE where
  row : Nat
  st : NestedKey
  frm : Option (Nat × NestedKey × Option Int)
abbrev CE.key (e : CE) : PK := (e.row, e.st)
def ckey (p : PK) : NestedKey := .tup [.num p.1, p.2]
theorem ckey_inj {p q : PK} (h : ckey p = ckey q) : p = q := by
  unfold ckey at h
  injection h with h
  injection h with h1 h2
  injection h1 with h1
  injection h2 with h2
  exact Prod.ext (by omega) h2
def asksL (r : Rw) : List (Option Int) := if r.1 = [] then [none] else r.1.map some
def nextS (bh : NestedKey → Int → NestedKey) (s : NestedKey) : Option Int → NestedKey
  | none => s
  | some k => bh s k
def aV : Option Int → V
  | none => .non
  | some k => .int k
/-- a web's rows, what an ask does to a state, the first states, the states that may be -/
structure Sys where
  rs : List Rw
  bh : NestedKey → Int → NestedKey
  ss : List NestedKey
  ok : NestedKey → Prop
/-- a step leads from the entry to the other one -/
def Sys.frmOk (Y : Sys) (cs : List CE) (i : Nat) (e : CE) : Prop := match e.frm with
  | none => e.row = 0 ∧ e.st ∈ Y.ss
  | some (r0, s0, a) => ∃ j e0 r, j < i ∧ cs[j]? = some e0 ∧ e0.key = (r0, s0) ∧ Y.rs[r0]? = some r ∧ a ∈ asksL r ∧ (e.row : Int) ∈ r.2 ∧ e.st = nextS Y.bh s0 a
/-- all that comes, and nothing else -/
structure Came (Y : Sys) (cs : List CE) : Prop where
  nd : (cs.map CE.key).Nodup
  st : ∀ s ∈ Y.ss, ((0, s) : PK) ∈ cs.map CE.key
  cl : ∀ e ∈ cs, ∀ r, Y.rs[e.row]? = some r → ∀ a ∈ asksL r, ∀ t ∈ r.2, ((t.toNat, nextS Y.bh e.st a) : PK) ∈ cs.map CE.key
  bk : ∀ i e, cs[i]? = some e → Y.frmOk cs i e
  ok : ∀ e ∈ cs, e.row < Y.rs.length ∧ Y.ok e.st
/-- what stands behind a row's ask -/
def Sys.then_ (Y : Sys) (p : PK) : Prop := ∃ s r a, Y.ok s ∧ Y.rs[p.1]? = some r ∧ a ∈ asksL r ∧ p.2 = nextS Y.bh s a
structure PInv (Y : Sys) (cs : List CE) (lf : List PK) : Prop where
  nd : (cs.map CE.key).Nodup
  st : ∀ s ∈ Y.ss, ((0, s) : PK) ∈ cs.map CE.key
  bk : ∀ i e, cs[i]? = some e → Y.frmOk cs i e
  ok : ∀ e ∈ cs, e.row < Y.rs.length ∧ Y.ok e.st
  lnd : lf.Nodup
  lth : ∀ p ∈ lf, Y.then_ p
  lcl : ∀ p ∈ lf, ∀ r, Y.rs[p.1]? = some r → ∀ t ∈ r.2, ((t.toNat, p.2) : PK) ∈ cs.map CE.key
/-- the entries below a number are gone through -/
def Gone (Y : Sys) (cs : List CE) (lf : List PK) (n : Nat) : Prop := ∀ i e, i < n → cs[i]? = some e → ∀ r, Y.rs[e.row]? = some r → ∀ a ∈ asksL r, ((e.row, nextS Y.bh e.st a) : PK) ∈ lf
theorem PInv.came {Y : Sys} {cs : List CE} {lf : List PK} (h : PInv Y cs lf) (g : Gone Y cs lf cs.length) : Came Y cs := by
  refine ⟨h.nd, h.st, fun e he r er a ha t ht => ?_, h.bk, h.ok⟩
  obtain ⟨i, hi⟩ := List.mem_iff_getElem?.mp he
  have z := g i e (List.getElem?_eq_some_iff.mp hi).1 hi r er a ha
  exact h.lcl _ z r er t ht
theorem frmOk_snoc {Y : Sys} {cs : List CE} {i : Nat} {e x : CE} (h : Y.frmOk cs i e) : Y.frmOk (cs ++ [x]) i e := by
  unfold Sys.frmOk at h ⊢
  split
  · rename_i z
    rw [z] at h
    exact h
  · rename_i r0 s0 a z
    rw [z] at h
    obtain ⟨j, e0, r, h1, h2, h3⟩ := h
    exact ⟨j, e0, r, h1, by rw [List.getElem?_append_left (List.getElem?_eq_some_iff.mp h2).1]; exact h2, h3⟩
theorem PInv.more {Y : Sys} {cs : List CE} {lf : List PK} (h : PInv Y cs lf) {x : CE} (new : x.key ∉ cs.map CE.key) (fr : Y.frmOk (cs ++ [x]) cs.length x) (ok : x.row < Y.rs.length ∧ Y.ok x.st) : PInv Y (cs ++ [x]) lf := by
  have up : ∀ {p : PK}, p ∈ cs.map CE.key → p ∈ (cs ++ [x]).map CE.key := fun z => by
    rw [List.map_append]
    exact List.mem_append_left _ z
  refine ⟨?_, fun s hs => up (h.st s hs), fun i e hi => ?_, fun e he => ?_, h.lnd, h.lth, fun p hp r er t ht => up (h.lcl p hp r er t ht)⟩
  · rw [List.map_append, List.nodup_append]
    refine ⟨h.nd, List.nodup_cons.mpr ⟨List.not_mem_nil, List.nodup_nil⟩, fun a ha b hb => ?_⟩
    rw [List.mem_singleton.mp hb]
    rintro rfl
    exact new ha
  · by_cases c : i < cs.length
    · rw [List.getElem?_append_left c] at hi
      exact frmOk_snoc (h.bk i e hi)
    · have lt := (List.getElem?_eq_some_iff.mp hi).1
      rw [List.length_append, List.length_singleton] at lt
      have ei : i = cs.length := by omega
      subst ei
      rw [List.getElem?_append_right (Nat.le_refl _), Nat.sub_self] at hi
      cases hi
      exact fr
  · rcases List.mem_append.mp he with he | he
    · exact h.ok e he
    · rw [List.mem_singleton.mp he]
      exact ok
theorem PInv.left {Y : Sys} {cs : List CE} {lf : List PK} (h : PInv Y cs lf) {p : PK} (new : p ∉ lf) (th : Y.then_ p) (cl : ∀ r, Y.rs[p.1]? = some r → ∀ t ∈ r.2, ((t.toNat, p.2) : PK) ∈ cs.map CE.key) : PInv Y cs (lf ++ [p]) := by
  refine ⟨h.nd, h.st, h.bk, h.ok, ?_, fun q hq => ?_, fun q hq => ?_⟩
  · rw [List.nodup_append]
    refine ⟨h.lnd, List.nodup_cons.mpr ⟨List.not_mem_nil, List.nodup_nil⟩, fun a ha b hb => ?_⟩
    rw [List.mem_singleton.mp hb]
    rintro rfl
    exact new ha
  · rcases List.mem_append.mp hq with hq | hq
    · exact h.lth q hq
    · rw [List.mem_singleton.mp hq]
      exact th
  · rcases List.mem_append.mp hq with hq | hq
    · exact h.lcl q hq
    · rw [List.mem_singleton.mp hq]
      exact cl
theorem Gone.mono {Y : Sys} {cs : List CE} {lf : List PK} {n : Nat} (g : Gone Y cs lf n) {x : List CE} {l2 : List PK} (hn : n ≤ cs.length) : Gone Y (cs ++ x) (lf ++ l2) n := fun i e hi he r er a ha => by
  rw [List.getElem?_append_left (by omega)] at he
  exact List.mem_append_left _ (g i e hi he r er a ha)
/-- all tuples stay, and what is known of their objects -/
structure KP (H H' : Hp) : Prop where
  p : ∀ a xs, PTup H a xs → PTup H' a xs
  k : K2 H H'
theorem KP.same {H H' : Hp} (s : Same H H') : KP H H' := ⟨fun _ _ h => h.same s, K2.same s⟩
theorem KP.refl (H : Hp) : KP H H := ⟨fun _ _ h => h, fun _ _ h => h⟩
theorem KP.trans {H H1 H2 : Hp} (a : KP H H1) (b : KP H1 H2) : KP H H2 := ⟨fun x xs h => b.p x xs (a.p x xs h), a.k.trans b.k⟩
theorem KP.upd {H : Hp} {a : Addr} {o u : HO} (e : H a = some o) (n : ∀ xs, o ≠ .tup xs) (n2 : ∀ b xs, o ≠ .frz b (.tup xs)) : KP H (L2.upd H a u) := by
  refine ⟨fun b xs ⟨ob, h, d⟩ => ⟨ob, ?_, d⟩, K2.upd e n n2⟩
  rw [upd_ne]
  · exact h
  · rintro rfl
    rw [e] at h
    cases h
    exact n2 _ _ rfl
theorem KP.lst {H : Hp} {a : Addr} {xs : List V} {u : HO} (e : H a = some (.lst xs)) : KP H (L2.upd H a u) := KP.upd e (fun _ z => nomatch z) (fun _ _ z => nomatch z)
theorem ND.kp {w : World} {H : Hp} {a : Addr} {kvs : List NEnt} (d : ND w H a kvs) (u : HO) : KP H (L2.upd H a u) := by
  rcases d.at_ with e | ⟨_, e⟩
  · exact KP.upd e (fun _ z => nomatch z) (fun _ _ z => nomatch z)
  · exact KP.upd e (fun _ z => nomatch z) (fun _ _ z => nomatch z)
theorem NS.kp {w : World} {H : Hp} {a : Addr} {L : List SRow} (d : NS w H a L) (u : HO) : KP H (L2.upd H a u) := KP.upd d.at_ (fun _ z => nomatch z) (fun _ _ z => nomatch z)
/-- what a state is as a value -/
structure SV where
  at_ : Hp → NestedKey → V → Prop
  key : ∀ {H : Hp} {s : NestedKey} {v : V}, at_ H s v → KeyV H s v
  keep : ∀ {H H' : Hp} {s : NestedKey} {v : V}, KP H H' → at_ H s v → at_ H' s v
/-! in the heap -/
/-- an entry with its places: the key in the dict, the value there, the tuple in the list -/
structure XE where
  e : CE
  T : Addr
  w : V
  A : Addr
def TupK (z : SV) (H : Hp) (T : Addr) (p : PK) : Prop := ∃ v, T2 H T [.int (p.1 : Nat), v] ∧ z.at_ H p.2 v
theorem TupK.keep {z : SV} {H H' : Hp} {T : Addr} {p : PK} (k : KP H H') (h : TupK z H T p) : TupK z H' T p := by
  obtain ⟨v, h1, h2⟩ := h
  exact ⟨v, k.k _ _ h1, z.keep k h2⟩
theorem TupK.key {z : SV} {H : Hp} {T : Addr} {p : PK} (h : TupK z H T p) : KeyV H (ckey p) (.ref T) := by
  obtain ⟨v, h1, h2⟩ := h
  exact .tup h1 (.cons (.int _) (.cons (z.key h2) .nil))
def FrmAt (z : SV) (H : Hp) (w : V) : Option (Nat × NestedKey × Option Int) → Prop
  | none => w = .non
  | some (r0, s0, a) => ∃ U v0, w = .ref U ∧ T2 H U [.int (r0 : Nat), v0, aV a] ∧ z.at_ H s0 v0
theorem FrmAt.keep {z : SV} {H H' : Hp} {w : V} (k : KP H H') : ∀ {o : Option (Nat × NestedKey × Option Int)}, FrmAt z H w o → FrmAt z H' w o
  | none, h => h
  | some (_, _, _), ⟨U, v0, h1, h2, h3⟩ => ⟨U, v0, h1, k.k _ _ h2, z.keep k h3⟩
structure XAt (z : SV) (H : Hp) (x : XE) : Prop where
  k : TupK z H x.T x.e.key
  a : TupK z H x.A x.e.key
  f : FrmAt z H x.w x.e.frm
  dp : x.e.st.depth ≤ 6
theorem XAt.keep {z : SV} {H H' : Hp} {x : XE} (k : KP H H') (h : XAt z H x) : XAt z H' x := ⟨h.k.keep k, h.a.keep k, h.f.keep k, h.dp⟩
def kvsX (xs : List XE) : List NEnt := xs.map fun x => (ckey x.e.key, x.T, x.w)
def rowsL (lf : List (PK × Addr)) : List SRow := lf.map fun p => (ckey p.1, p.2)
theorem ckey_depth {p : PK} {n : Nat} (h : p.2.depth ≤ n) : (ckey p).depth ≤ n + 1 := by
  show max (NestedKey.depth (.num _)) (max p.2.depth 0) + 1 ≤ _
  simp only [NestedKey.depth]
  omega
theorem kvsX_get {xs : List XE} {p : PK} : (nGet (kvsX xs) (ckey p)).isSome = decide (p ∈ xs.map fun x => x.e.key) := by
  cases z : nGet (kvsX xs) (ckey p) with
  | none =>
    have n := nGet_none z
    refine (decide_eq_false fun m => n ?_).symm
    obtain ⟨x, hx, rfl⟩ := List.mem_map.mp m
    unfold kvsX
    rw [List.map_map]
    exact List.mem_map.mpr ⟨x, hx, rfl⟩
  | some v =>
    refine (decide_eq_true ?_).symm
    unfold nGet kvsX at z
    obtain ⟨e, he, _⟩ := Option.map_eq_some_iff.mp z
    have h1 := List.mem_of_find?_eq_some he
    have h2 := List.find?_some he
    obtain ⟨x, hx, rfl⟩ := List.mem_map.mp h1
    exact List.mem_map.mpr ⟨x, hx, ckey_inj (of_decide_eq_true h2)⟩
theorem rowsL_has {lf : List (PK × Addr)} {p : PK} : nsHas (rowsL lf) (ckey p) = decide (p ∈ lf.map (·.1)) := by
  have e : nsHas (rowsL lf) (ckey p) = true ↔ p ∈ lf.map (·.1) := by
    rw [nsHas_iff]
    unfold rowsL
    rw [List.map_map]
    constructor
    · intro h
      obtain ⟨x, hx, ex⟩ := List.mem_map.mp h
      exact List.mem_map.mpr ⟨x, hx, ckey_inj ex⟩
    · intro h
      obtain ⟨x, hx, rfl⟩ := List.mem_map.mp h
      exact List.mem_map.mpr ⟨x, hx, rfl⟩
  rcases Classical.em (p ∈ lf.map (·.1)) with h | h
  · rw [decide_eq_true h, e.mpr h]
  · rw [decide_eq_false h]
    cases z : nsHas (rowsL lf) (ckey p) with
    | false => rfl
    | true => exact absurd (e.mp z) h
/-- the program's dict, list and set -/
structure ASt (w : World) (z : SV) (H0 H : Hp) (C L S : Addr) (xs : List XE) (lf : List (PK × Addr)) : Prop where
  sm : Same H0 H
  nc : H0 C = none
  nl : H0 L = none
  ns : H0 S = none
  cl : C ≠ L
  cs : C ≠ S
  ls : L ≠ S
  c : ND w H C (kvsX xs)
  l : H L = some (.lst (xs.map fun x => V.ref x.A))
  s : NS w H S (rowsL lf)
  es : ∀ x ∈ xs, XAt z H x
section
variable {w : World} {z : SV} {H0 H H' : Hp} {C L S : Addr} {xs : List XE} {lf : List (PK × Addr)}
theorem ASt.same (a : ASt w z H0 H C L S xs lf) (t : Same H H') : ASt w z H0 H' C L S xs lf :=
  ⟨a.sm.trans t, a.nc, a.nl, a.ns, a.cl, a.cs, a.ls, a.c.same t, t _ _ a.l, a.s.same t, fun x hx => (a.es x hx).keep (KP.same t)⟩
/-- put into the set -/
theorem ASt.left (a : ASt w z H0 H C L S xs lf) {p : PK} {b : Addr} (new : p ∉ lf.map (·.1)) (hk : TupK z H b p) (hd : p.2.depth ≤ 6) (few : lf.length < 20000) :
    ASt w z H0 (L2.upd H S (nsO w S (nsPut (rowsL lf) (ckey p) b))) C L S xs (lf ++ [(p, b)]) := by
  have k2 := a.s.kp (nsO w S (nsPut (rowsL lf) (ckey p) b))
  have put := a.s.put hk.key (by have := ckey_depth hd; omega) (by unfold rowsL; rw [List.length_map]; exact few)
  have e : nsPut (rowsL lf) (ckey p) b = rowsL (lf ++ [(p, b)]) := by
    unfold nsPut
    rw [rowsL_has, decide_eq_false new, if_neg (by simp)]
    unfold rowsL
    rw [List.map_append]
    rfl
  rw [e] at put k2 ⊢
  refine ⟨fun c o ec => ?_, a.nc, a.nl, a.ns, a.cl, a.cs, a.ls, a.c.keep k2.k (upd_ne a.cs), (upd_ne a.ls).trans a.l, put, fun x hx => (a.es x hx).keep k2⟩
  rw [upd_ne (ne_of_none ec a.ns)]
  exact a.sm _ _ ec
theorem kvsX_put {xs : List XE} {p : PK} (new : p ∉ xs.map fun x => x.e.key) (T : Addr) (w : V) : nPut (kvsX xs) (ckey p) T w = kvsX xs ++ [(ckey p, T, w)] := by
  unfold nPut
  rw [kvsX_get, decide_eq_false new, if_neg (by simp)]
/-- put into the dict, then behind the list -/
theorem ASt.more (a : ASt w z H0 H C L S xs lf) {p : PK} {T A : Addr} {v : V} {frm : Option (Nat × NestedKey × Option Int)} (new : p ∉ xs.map fun x => x.e.key) (hk : TupK z H T p) (hf : FrmAt z H v frm) (hd : p.2.depth ≤ 6) (few : xs.length < sizeLine) {H2 : Hp}
    (t : Same (L2.upd H C (ndO w C (nPut (kvsX xs) (ckey p) T v))) H2) (hA : TupK z H2 A p) :
    H2 L = some (.lst (xs.map fun x => V.ref x.A)) ∧ ASt w z H0 (L2.upd H2 L (.lst ((xs.map fun x => V.ref x.A) ++ [.ref A]))) C L S (xs ++ [⟨⟨p.1, p.2, frm⟩, T, v, A⟩]) lf := by
  have k1 := a.c.kp (ndO w C (nPut (kvsX xs) (ckey p) T v))
  have put := a.c.put (v := v) hk.key (by have := ckey_depth hd; omega) (by unfold kvsX; rw [List.length_map]; exact few)
  have hL1 : (L2.upd H C (ndO w C (nPut (kvsX xs) (ckey p) T v))) L = some (.lst (xs.map fun x => V.ref x.A)) := (upd_ne a.cl.symm).trans a.l
  have hL2 := t _ _ hL1
  have k2 : KP H H2 := k1.trans (KP.same t)
  have k3 : KP H2 (L2.upd H2 L (.lst ((xs.map fun x => V.ref x.A) ++ [.ref A]))) := KP.lst hL2
  have put2 := (put.same t).keep k3.k (upd_ne a.cl)
  have hS1 : NS w H2 S (rowsL lf) := (a.s.keep k1.k (upd_ne a.cs.symm)).same t
  refine ⟨hL2, ?_, a.nc, a.nl, a.ns, a.cl, a.cs, a.ls, ?_, ?_, hS1.keep k3.k (upd_ne a.ls.symm), fun x hx => ?_⟩
  · intro c o ec
    rw [upd_ne (ne_of_none ec a.nl)]
    refine t _ _ ?_
    rw [upd_ne (ne_of_none ec a.nc)]
    exact a.sm _ _ ec
  · have e : kvsX (xs ++ [⟨⟨p.1, p.2, frm⟩, T, v, A⟩]) = nPut (kvsX xs) (ckey p) T v := by
      rw [kvsX_put new]
      unfold kvsX
      rw [List.map_append]
      rfl
    rw [e]
    exact put2
  · rw [upd_same, List.map_append]
    rfl
  · rcases List.mem_append.mp hx with hx | hx
    · exact (a.es x hx).keep (k2.trans k3)
    · rw [List.mem_singleton.mp hx]
      exact ⟨hk.keep (k2.trans k3), hA.keep k3, hf.keep (k2.trans k3), hd⟩
end
theorem while_n {c : TT} {tb : TS} {D : Ends} {σ : L2.St} {H : Hp} (W : Nat → L2.St → Hp → Prop) (m0 : Nat) (h0 : W m0 σ H)
    (hs : ∀ m σ H, W m σ H → c σ H fun b H1 => if b = true then tb { D with nx := fun σ' H' => ∃ m', m' < m ∧ W m' σ' H', ct := fun σ' H' => ∃ m', m' < m ∧ W m' σ' H', bk := D.nx } σ H1 else D.nx σ H1)
    (mono : ∀ σ H Q Q', (∀ b H1, Q b H1 → Q' b H1) → c σ H Q → c σ H Q') : tWhile c tb D σ H := by
  refine ⟨W, ⟨m0, h0⟩, fun m σ H w => mono σ H _ _ (fun b H1 q => ?_) (hs m σ H w)⟩
  cases b with
  | true => exact ⟨_, fun _ _ z => z, q⟩
  | false => exact q
end Su
/-! ### F4a -/
namespace Su
open PySem PySem.Spec PyProof.Rows L2
open LamX hiding takes0
open Fm
theorem one_fits {m : Nat} : Fits m 1 := fun S h => by
  cases S with
  | zero => exact Nat.two_pow_pos m
  | succ S => rw [Nat.testBit_succ, show 1 / 2 = 0 from rfl, Nat.zero_testBit] at h; cases h
theorem zero_fits {m : Nat} : Fits m 0 := fun S h => by
  rw [Nat.zero_testBit] at h
  cases h
theorem askN_fits {m : Nat} {ms : List Int} {F : Nat} (lm : ms.length ≤ m) (hf : Fits m F) (k : Int) : Fits m (askN m ms F k) := by
  unfold askN
  by_cases c : k ∈ ms
  · rw [if_pos c]
    exact hf.with (by have := List.idxOf_lt_length_iff.mpr c; omega)
  · rw [if_neg c]
    exact one_fits
theorem asksN_fits {m : Nat} {ms : List Int} {F : Nat} (lm : ms.length ≤ m) (hf : Fits m F) : ∀ ks, Fits m (asksN m ms F ks)
  | [] => zero_fits
  | k :: ks => (askN_fits lm hf k).or (asksN_fits lm hf ks)
theorem behN_fits {m : Nat} {ms : List Int} {F : Nat} (lm : ms.length ≤ m) (hf : Fits m F) (ks : List Int) : Fits m (behN m ms F ks) := by
  unfold behN
  split
  · exact hf
  · exact asksN_fits lm hf ks
theorem line_start {rs : List Rw} {ms : List Int} {m first : Nat} {CL : Nat → Nat} (ok : WebOk rs) (hc : Fits m (CL first)) (h0 : CL 0 = 0) : LineOk rs ms m CL first ((List.replicate rs.length 0).set 0 (CL first)) [0] := by
  have pos := ok.pos
  have at_ : ∀ {r F : Nat}, ((List.replicate rs.length 0).set 0 (CL first))[r]? = some F → (r = 0 ∧ F = CL first) ∨ (r ≠ 0 ∧ F = 0) := fun {r F} e => by
    rcases get_set e with z | ⟨h1, h2⟩
    · exact .inl z
    · exact .inr ⟨h1, List.eq_of_mem_replicate (List.mem_of_getElem? h2)⟩
  refine ⟨⟨by rw [List.length_set, List.length_replicate], fun F hF => ?_, fun F e => ?_, fun I h1 _ r F S e hS => ?_⟩, fun r hr => ?_, by simp, fun r hr nr row F er eF t ht => ?_⟩
  · obtain ⟨j, hj⟩ := List.mem_iff_getElem?.mp hF
    rcases at_ hj with ⟨_, rfl⟩ | ⟨_, rfl⟩
    · exact hc
    · exact zero_fits
  · rcases at_ e with ⟨_, rfl⟩ | ⟨z, _⟩
    · exact Nat.or_self _
    · exact absurd rfl z
  · rcases at_ e with ⟨rfl, rfl⟩ | ⟨_, rfl⟩
    · exact h1 S hS
    · rw [Nat.zero_testBit] at hS
      cases hS
  · rw [List.mem_singleton.mp hr]
    exact pos
  · rcases at_ eF with ⟨rfl, _⟩ | ⟨_, rfl⟩
    · exact absurd (List.mem_singleton.mpr rfl) nr
    · have rok := ok.row row (List.mem_of_getElem? er)
      have t0 := rok.tos.lo t ht
      have t1 := rok.tos.hi t ht
      have lt : t.toNat < ((List.replicate rs.length 0).set 0 (CL first)).length := by
        rw [List.length_set, List.length_replicate]
        omega
      refine ⟨_, List.getElem?_eq_getElem lt, ?_⟩
      rw [show behN m ms 0 row.1 = 0 from if_pos (.inl rfl), h0]
      exact Nat.zero_or _
theorem inV_ints (x : Int) : ∀ xs : List Int, inV (.int x) (xs.map V.int) = decide (x ∈ xs)
  | [] => rfl
  | y :: xs => by
    have ih := inV_ints x xs
    unfold inV at ih ⊢
    rw [List.map_cons, List.any_cons, ih, show eqV (V.int y) (V.int x) = decide (y = x) from rfl]
    rcases Decidable.em (y = x) with h | h
    · subst h
      simp
    · have h' : ¬ x = y := fun z => h z.symm
      simp [h, h']
theorem all_flat (ns : List Int) : (ns.map V.int).all flatV = true := by
  rw [List.all_map]
  exact List.all_eq_true.mpr fun _ _ => rfl
theorem T2.updL {H : Hp} {a L : Addr} {xs ys : List V} {o : HO} (h : T2 H a xs) (hL : H L = some (.lst ys)) : T2 (upd H L o) a xs := by
  rcases h with h | h
  · obtain ⟨b, e, z⟩ := h
    refine .inl ⟨b, ?_, z⟩
    rw [upd_ne (fun z => by rw [z, hL] at e; cases e)]
    exact e
  · refine .inr ?_
    rw [upd_ne (fun z => by rw [z, hL] at h; cases h)]
    exact h
theorem nat_few {wt : List Nat} {n : Nat} (nd : wt.Nodup) (h : ∀ r ∈ wt, r < n) : wt.length ≤ n := by
  have := nodup_few (S := (List.range n).map fun r => ((r : Nat) : Int)) (ms := wt.map fun r => ((r : Nat) : Int)) (List.pairwise_map.mpr (nd.imp fun z e => z (by omega))) fun k hk => by
    obtain ⟨r, hr, rfl⟩ := List.mem_map.mp hk
    exact List.mem_map.mpr ⟨r, List.mem_range.mpr (h r hr), rfl⟩
  simpa using this
end Su
/-! ### AC: defs in which lambdas are made; what stays when tables of code objects grow -/
namespace Su
open PySem PySem.Spec PyProof.Rows L2 LamX
/-- a def in which lambdas are made, and its code object -/
structure AtC (K : PySem.W.Frag) (mg : Str → Option Value) (x : Str) (st : Stmt) (ps : List Str) (c : Addr) : Prop where
  ex : ∃ (f : Addr) (oc kV doc pm ct : Value) (od an : Option Addr) (osl : Array (Option Value)), K.lookup f = some ⟨oc, od, .func (PySem.W.fnOf x x (defArgs st) (defBody st) (defScope st) .none kV doc pm an (.ref c) ct), osl⟩ ∧ PySem.W.codeIn K (.ref c) x = true ∧ PySem.W.keepIn K (.ref f) = true ∧
    mg x = some (.ref f) ∧ Binds K (PySem.W.fnOf x x (defArgs st) (defBody st) (defScope st) .none kV doc pm an (.ref c) ct) ps []
section
variable {P : Program} {w : World} {K : PySem.W.Frag} {mg : Str → Option Value} {base : Heap}
theorem cal_ofC {x : Str} {st : Stmt} {N ps : List Str} {c : Addr} {k : Nat} {sp : Sp} (T : AtC K mg x st ps c) (S : FnScope N ps (defScope st)) (len : ∀ vs H Q E, sp vs H Q E → vs.length = ps.length)
    (hb : ∀ (f : Addr) (A : Around) (outer : List Env) (s : Shared) (H : Hp) (vs : List V) (Q : VK) (E : XK), Room k (A.deeper (envOfC x (defScope st) s.heap.objs.size f (.ref c))) → sp vs H Q E →
      ∃ t, PSs (cxOf CX0 P w K mg base N x (defScope st) f (.ref c) A outer s H E).nox (defBody st) t ∧ t { nx := fun _ H' => Q .non H', rt := Q } (start N vs) H) : Cal P w K mg base (k + 1) x ps sp := by
  obtain ⟨f, oc, kV, doc, pm, ct, od, an, osl, lk, hcd, kp, hm, b⟩ := T.ex
  refine ⟨f, _, ⟨len, fun A outer s H args us vs Q E hr e0 hbi rv hs => ?_⟩, hm, kp, b, _, lk, rfl⟩
  refine run_ofS (N := N) lk hcd S hr e0 hbi rv (len _ _ _ _ hs) fun hr' => ?_
  obtain ⟨t, ht, hq⟩ := hb f A outer s H vs Q E hr' hs
  exact ⟨t, ht.nox, hq⟩
end
/-- the tables of code objects, one for each def in which lambdas are made -/
structure TabT (base : Heap) (mg : Str → Option Value) (T : List (Addr × Str)) (c P : Addr) (q : Str) : Prop where
  tb : TabB base mg c P
  mem : (P, q) ∈ T
  uni : ∀ p ∈ T, p.1 = P → p.2 = q
def qLam (x : Str) : Str := x ++ ".<locals>." ++ "<lambda>"
/-- new, but for tables of code objects -/
def NewN (H : Hp) (C : Addr) : Prop := ∀ o, H C = some o → ∃ ps, o = .tbl ps
theorem NewN.ne {H : Hp} {C a : Addr} {o : HO} (h : NewN H C) (e : H a = some o) (n : ∀ ps, o ≠ .tbl ps) : a ≠ C := fun z => by
  subst z
  obtain ⟨ps, r⟩ := h o e
  exact n ps r
theorem NewN.of {H : Hp} {C : Addr} (h : H C = none) : NewN H C := fun o e => by
  rw [h] at e
  cases e
theorem KP.ext {H H' : Hp} (e : ExtN H H') : KP H H' := by
  refine ⟨fun a xs ⟨ob, h, d⟩ => ⟨ob, e _ _ h (fun _ z => nomatch z), d⟩, fun a xs h => ?_⟩
  rcases h with ⟨ob, h, d⟩ | h
  · exact .inl ⟨ob, e _ _ h (fun _ z => nomatch z), d⟩
  · exact .inr (e _ _ h (fun _ z => nomatch z))
theorem WebAt.ext {H H' : Hp} {p : Addr} {rs : List Rw} (h : WebAt H p rs) (e : ExtN H H') : WebAt H' p rs := by
  obtain ⟨ws, h1, h2⟩ := h
  exact ⟨ws, e _ _ h1 (fun _ z => nomatch z), h2.keep (KP.ext e).k⟩
end Su
/-! ### F5a -/
namespace Su
open PySem PySem.Spec PyProof.Rows L2
open LamX hiding takes0
open Fm
def spNums : Sp := fun vs H Q _ => ∃ (F m : Nat), vs = [.int F] ∧ m ≤ 13 ∧ Fits m F ∧ ∀ (L : Addr) (H' : Hp) (ns : List Nat), Same H H' → H L = none → H' L = some (.lst (ns.map fun n => V.int (n : Nat))) → ns.Nodup → (∀ S, S ∈ ns ↔ F.testBit S = true) → Q (.ref L) H'
def roomsS (ms : List Int) (n : Nat) : List Int := ms.filter fun k => n.testBit (ms.idxOf k)
def spRoomsOf : Sp := fun vs H Q _ => ∃ (n : Nat) (pl : Addr) (ms : List Int), vs = [.int n, .ref pl] ∧ PlAt H pl ms ∧ ms.Nodup ∧ ms.length ≤ 12 ∧ ∀ (t : Addr) (H' : Hp), Same H H' → T2 H' t ((roomsS ms n).map V.int) → Q (.ref t) H'
end Su
/-! ### FO: sets sorted by how many rooms they have, then by these -/
namespace Su
open PySem PySem.Spec PyProof.Rows L2
open LamX hiding takes0
open Fm
theorem fo_alike : ∀ xs ys : List Int, PySem.W.alikeAll (xs.map PyData.int) (ys.map PyData.int) = true
  | [], _ => by simp [PySem.W.alikeAll]
  | _ :: _, [] => by simp [PySem.W.alikeAll]
  | x :: xs, y :: ys => by simp [PySem.W.alikeAll, PySem.W.alike, fo_alike xs ys]
theorem fo_depth (l : List Int) : PyData.depthAll (l.map PyData.int) = 0 := by
  induction l with
  | nil => simp [PyData.depthAll]
  | cons x l ih => simp [PyData.depthAll, PyData.depth, ih]
theorem fo_eqv : ∀ xs ys : List Int, PyData.eqvAll (xs.map PyData.int) (ys.map PyData.int) = decide (xs = ys)
  | [], [] => by simp [PyData.eqvAll]
  | [], _ :: _ => by simp [PyData.eqvAll]
  | _ :: _, [] => by simp [PyData.eqvAll]
  | x :: xs, y :: ys => by
    have ih := fo_eqv xs ys
    by_cases h : x = y
    · simp [PyData.eqvAll, PyData.eqv, ih, h]
    · simp [PyData.eqvAll, PyData.eqv, h]
def insD (ks : List Int) : PyData := .tuple (ks.map .int)
def setD (ks : List Int) : PyData := .tuple [.int ks.length, insD ks]
theorem set_lt (p q : List Int) : PySem.W.dataLt (setD p) (setD q) = decide (p.length < q.length ∨ (p.length = q.length ∧ p < q)) := by
  have e1 : PyData.eqv (.int (p.length : Int)) (.int (q.length : Int)) = decide (p.length = q.length) := by
    by_cases c : p.length = q.length
    · simp [PyData.eqv, c]
    · have c' : ¬ (p.length : Int) = q.length := by omega
      simp [PyData.eqv, c, c']
  have e2 : PyData.eqv (insD p) (insD q) = decide (p = q) := by
    unfold insD
    rw [← fo_eqv]
    simp [PyData.eqv]
  have e3 : PySem.W.dataLt (insD p) (insD q) = decide (p < q) := by
    unfold insD
    rw [PySem.W.dataLt_tuple]
    exact PySem.W.dataLt_ints p q
  unfold setD
  rw [PySem.W.dataLt_pair (by simp [PySem.W.alike]) (by simp [insD, PySem.W.alike, fo_alike]), e1, e2, e3, PySem.W.dataLt_int]
  by_cases h1 : p.length = q.length
  · have h0 : ¬ q.length < q.length := by omega
    by_cases h2 : p = q
    · have h3 : ¬ q < q := List.lt_irrefl _
      simp [h2, h3]
    · simp [h1, h2]
  · have h2 : ((p.length : Int) < q.length) ↔ p.length < q.length := by omega
    simp [h1, h2]
theorem set_le (p q : List Int) : PySem.W.dataLe false setD p q = decide (p.length < q.length ∨ (p.length = q.length ∧ p ≤ q)) := by
  show (!PySem.W.dataLt (setD q) (setD p)) = _
  rw [set_lt]
  by_cases h : p.length < q.length ∨ (p.length = q.length ∧ p ≤ q)
  · have h' : ¬ (q.length < p.length ∨ (q.length = p.length ∧ q < p)) := by
      rintro (z | ⟨z1, z2⟩)
      · omega
      · rcases h with h | ⟨_, h⟩
        · omega
        · exact List.not_lt.mpr h z2
    rw [decide_eq_true h, decide_eq_false h']
    rfl
  · have h' : q.length < p.length ∨ (q.length = p.length ∧ q < p) := by
      by_cases e : p.length = q.length
      · exact .inr ⟨e.symm, Classical.byContradiction fun z => h (.inr ⟨e, List.not_lt.mp z⟩)⟩
      · exact .inl (by omega)
    rw [decide_eq_false h, decide_eq_true h']
    rfl
def ordS (ps : List (List Int)) : List (List Int) := ps.mergeSort (PySem.W.dataLe false setD)
theorem ordS_pw (ps : List (List Int)) : (ordS ps).Pairwise fun p q => p.length < q.length ∨ (p.length = q.length ∧ p ≤ q) := by
  have h := List.pairwise_mergeSort (le := PySem.W.dataLe false setD) (fun a b c h1 h2 => by
    rw [set_le, decide_eq_true_eq] at h1 h2 ⊢
    rcases h1 with h1 | ⟨e1, h1⟩
    · rcases h2 with h2 | ⟨e2, h2⟩
      · exact .inl (by omega)
      · exact .inl (by omega)
    · rcases h2 with h2 | ⟨e2, h2⟩
      · exact .inl (by omega)
      · exact .inr ⟨e1.trans e2, List.le_trans h1 h2⟩) (fun a b => by
    rw [set_le, set_le, Bool.or_eq_true, decide_eq_true_eq, decide_eq_true_eq]
    by_cases e : a.length = b.length
    · rcases List.le_total a b with h | h
      · exact .inl (.inr ⟨e, h⟩)
      · exact .inr (.inr ⟨e.symm, h⟩)
    · by_cases l : a.length < b.length
      · exact .inl (.inl l)
      · exact .inr (.inl (by omega))) ps
  exact h.imp fun {a b} h => by
    rw [set_le] at h
    exact of_decide_eq_true h
theorem ordS_mem {ps : List (List Int)} {k : List Int} : k ∈ ordS ps ↔ k ∈ ps := (List.mergeSort_perm ps _).mem_iff
/-! things that stand for sets, sorted -/
def ssort (ts : List (V × List Int)) : List (V × List Int) := ts.mergeSort (PySem.W.dataLe false fun t : V × List Int => setD t.2)
def sdat (ts : List (V × List Int)) : List (V × PyData) := ts.map fun t => (t.1, setD t.2)
theorem sdat_alike (ts : List (V × List Int)) : PySem.W.AllAlike ((sdat ts).map (·.2)) := by
  intro d hd d' hd'
  obtain ⟨z, hz, rfl⟩ := List.mem_map.mp hd
  obtain ⟨t, ht, rfl⟩ := List.mem_map.mp hz
  obtain ⟨z', hz', rfl⟩ := List.mem_map.mp hd'
  obtain ⟨t', ht', rfl⟩ := List.mem_map.mp hz'
  simp [setD, insD, PySem.W.alike, PySem.W.alikeAll, fo_alike]
theorem sdat_sortable (ts : List (V × List Int)) : PySem.W.Sortable ((sdat ts).map (·.2)) := by
  refine .inl fun d hd => ?_
  obtain ⟨z, hz, rfl⟩ := List.mem_map.mp hd
  obtain ⟨t, ht, rfl⟩ := List.mem_map.mp hz
  exact ⟨_, _, rfl⟩
theorem sdat_deep (ts : List (V × List Int)) : ∀ z ∈ sdat ts, z.2.depth ≤ 60 := by
  intro z hz
  obtain ⟨t, ht, rfl⟩ := List.mem_map.mp hz
  simp [setD, insD, PyData.depth, PyData.depthAll, fo_depth]
theorem sdat_srt (ts : List (V × List Int)) : (srtD (sdat ts)).map (·.1) = (ssort ts).map (·.1) := by
  have es : srtD (sdat ts) = (ssort ts).map fun t => (t.1, setD t.2) := (List.map_mergeSort (r := PySem.W.dataLe false fun t : V × List Int => setD t.2) (s := PySem.W.dataLe false (fun z : V × PyData => z.2)) (f := fun t : V × List Int => ((t.1, setD t.2) : V × PyData)) (l := ts) fun x _ y _ => rfl).symm
  rw [es, List.map_map]
  rfl
theorem ssort_snd (ts : List (V × List Int)) : (ssort ts).map (·.2) = ordS (ts.map (·.2)) := List.map_mergeSort (r := PySem.W.dataLe false fun t : V × List Int => setD t.2) (s := PySem.W.dataLe false setD) (f := fun t : V × List Int => t.2) (l := ts) fun x _ y _ => rfl
theorem ssort_mem {ts : List (V × List Int)} {t : V × List Int} : t ∈ ssort ts ↔ t ∈ ts := (List.mergeSort_perm ts _).mem_iff
theorem sdat_fst (ts : List (V × List Int)) : (sdat ts).map (·.1) = ts.map (·.1) := by
  unfold sdat
  rw [List.map_map]
  rfl
end Su
/-! ### F6a -/
namespace Su
open PySem PySem.Spec PyProof.Rows L2
open LamX hiding takes0
open Fm
/-- things that are sets, as tuples -/
inductive SetsAt (H : Hp) : List V → List (List Int) → Prop
  | nil : SetsAt H [] []
  | cons {a : Addr} {ks : List Int} {vs : List V} {kss : List (List Int)} : T2 H a (ks.map V.int) → SetsAt H vs kss → SetsAt H (.ref a :: vs) (ks :: kss)
theorem SetsAt.len {H : Hp} : ∀ {vs : List V} {kss : List (List Int)}, SetsAt H vs kss → vs.length = kss.length
  | _, _, .nil => rfl
  | _, _, .cons _ t => by rw [List.length_cons, List.length_cons, t.len]
theorem SetsAt.kp {H H' : Hp} (k : KP H H') : ∀ {vs : List V} {kss : List (List Int)}, SetsAt H vs kss → SetsAt H' vs kss
  | _, _, .nil => .nil
  | _, _, .cons h t => .cons (k.k _ _ h) (t.kp k)
theorem SetsAt.snoc {H : Hp} {a : Addr} {ks : List Int} (h : T2 H a (ks.map V.int)) : ∀ {vs : List V} {kss : List (List Int)}, SetsAt H vs kss → SetsAt H (vs ++ [.ref a]) (kss ++ [ks])
  | _, _, .nil => .cons h .nil
  | _, _, .cons h' t => .cons h' (t.snoc h)
theorem SetsAt.of {H : Hp} : ∀ {ts : List (V × List Int)}, (∀ t ∈ ts, ∃ a, t.1 = .ref a ∧ T2 H a (t.2.map V.int)) → SetsAt H (ts.map (·.1)) (ts.map (·.2))
  | [], _ => .nil
  | t :: ts, h => by
    obtain ⟨a, e, h1⟩ := h t List.mem_cons_self
    rw [List.map_cons, List.map_cons, e]
    exact .cons h1 (SetsAt.of fun x hx => h x (List.mem_cons_of_mem _ hx))
theorem SetsAt.pairs {H : Hp} : ∀ {vs : List V} {kss : List (List Int)}, SetsAt H vs kss → ∃ ts : List (V × List Int), ts.map (·.1) = vs ∧ ts.map (·.2) = kss ∧ ∀ t ∈ ts, ∃ a, t.1 = .ref a ∧ T2 H a (t.2.map V.int)
  | _, _, .nil => ⟨[], rfl, rfl, fun _ h => nomatch h⟩
  | _, _, .cons (a := a) (ks := ks) h t => by
    obtain ⟨ts, e1, e2, h2⟩ := t.pairs
    refine ⟨(.ref a, ks) :: ts, by rw [List.map_cons, e1], by rw [List.map_cons, e2], fun x hx => ?_⟩
    rcases List.mem_cons.mp hx with rfl | hx
    · exact ⟨a, rfl, h⟩
    · exact h2 x hx
def spSorted (T : List (Addr × Str)) : Sp := fun vs H Q _ => ∃ (L pl : Addr) (ns : List Nat) (ms : List Int), vs = [.ref L, .ref pl] ∧ H L = some (.lst (ns.map fun n => V.int (n : Nat))) ∧ ns.length ≤ 8192 ∧ PlAt H pl ms ∧ ms.Nodup ∧ ms.length ≤ 12 ∧ Tabs T H ∧
  ∀ (p : Addr) (H' : Hp) (us : List V), ExtN H H' → (∀ u, Tabs T (upd H' p u)) → NewN H p → H' p = some (.lst us) → SetsAt H' us (ordS (ns.map (roomsS ms))) → Q (.ref p) H'
theorem SetsAt.updL {H : Hp} {D : Addr} {xs : List V} {o : HO} (hD : H D = some (.lst xs)) : ∀ {vs : List V} {kss : List (List Int)}, SetsAt H vs kss → SetsAt (upd H D o) vs kss
  | _, _, .nil => .nil
  | _, _, .cons h t => .cons (h.updL hD) (t.updL hD)
theorem T2.updN {H : Hp} {a p : Addr} {xs : List V} {o : HO} (h : T2 H a xs) (np : H p = none) : T2 (upd H p o) a xs := h.same (same_upd np)
end Su
/-! ### F7a -/
namespace Su
open PySem PySem.Spec PyProof.Rows L2
open LamX hiding takes0
open Fm
def spLookRoom : Sp := fun vs H Q _ => ∃ i : Int, vs = [.int i] ∧ 0 ≤ i ∧ i ≤ 99 ∧ Q .non H
theorem plK_len (ms : List Int) : (plK ms).length = ms.length := by
  unfold plK
  rw [List.length_map, List.length_range]
theorem newN_back {H H' : Hp} {a : Addr} (e : ExtN H H') (n : NewN H' a) : NewN H a := fun o ho => Classical.byContradiction fun z => by
  obtain ⟨ps, hp⟩ := n o (e a o ho fun ps y => z ⟨ps, y⟩)
  exact z ⟨ps, hp⟩
theorem tabs_lst {T : List (Addr × Str)} {H : Hp} {D : Addr} {xs : List V} {u : HO} (t : Tabs T H) (hD : H D = some (.lst xs)) : Tabs T (upd H D u) := fun p hp => by
  obtain ⟨ps, h1, h2, h3⟩ := t p hp
  refine ⟨ps, ?_, h2, fun pos cv hc => ?_⟩
  · rw [upd_ne (fun z => by rw [z, hD] at h1; cases h1)]
    exact h1
  · obtain ⟨c, e1, e2⟩ := h3 pos cv hc
    refine ⟨c, e1, ?_⟩
    rw [upd_ne (fun z => by rw [z, hD] at e2; cases e2)]
    exact e2
def rLenF : List V → Hp → VK → Prop := fun xs H Q => ∃ (p : Addr) (kvs : List (Key × V)), xs = [.ref p] ∧ Rd H p (.dK kvs) ∧ Q (.int ((kvs.length : Nat) : Int)) H
theorem cr_lenF {X : Cx} : CallR X (.builtin "len") rLenF := by
  intro pins s σ H xs us Q I r h
  obtain ⟨p, kvs, rfl, hp, q⟩ := h
  obtain ⟨u, rfl, rx⟩ := vals1 r
  obtain rfl : u = .ref p := rx
  obtain ⟨z, hd, ys, rel, dd⟩ := hp.ok I.hok
  refine call_len_dict hd dd (by rw [← rel.length]; rw [sizeLine_eq] at z; omega) ?_
  rw [← rel.length]
  exact ⟨.int ((kvs.length : Nat) : Int), H, I.tok _, ⟨_, rfl⟩, q⟩
end Su
/-! ### LF: what stays beside some lists; lists of lists; a row's states -/
namespace Su
open PySem PySem.Spec PyProof.Rows L2
open LamX hiding takes0
/-- all but what stands at these stays -/
def FrL (ins : List Addr) (H1 H2 : Hp) : Prop := ∀ c o, H1 c = some o → c ∉ ins → H2 c = some o
theorem FrL.refl (ins : List Addr) (H : Hp) : FrL ins H H := fun _ _ e _ => e
theorem FrL.same {ins : List Addr} {H1 H2 H3 : Hp} (h : FrL ins H1 H2) (s : Same H2 H3) : FrL ins H1 H3 := fun c o e n => s _ _ (h c o e n)
theorem FrL.upd {ins : List Addr} {H1 H2 : Hp} (h : FrL ins H1 H2) {a : Addr} (ha : a ∈ ins) (o : HO) : FrL ins H1 (L2.upd H2 a o) := fun c u e n => by
  rw [upd_ne (fun z : c = a => n (by rw [z]; exact ha))]
  exact h c u e n
theorem FrL.kp {ins : List Addr} {H1 H2 : Hp} (h : FrL ins H1 H2) (l : ∀ a ∈ ins, ∃ ws, H1 a = some (.lst ws)) : KP H1 H2 := by
  have no : ∀ {a : Addr} {o : HO}, H1 a = some o → (∀ ws, o ≠ .lst ws) → a ∉ ins := fun e n z => by
    obtain ⟨ws, e2⟩ := l _ z
    rw [e] at e2
    cases e2
    exact n _ rfl
  refine ⟨fun a xs ⟨ob, e, d⟩ => ⟨ob, h _ _ e (no e fun _ z => nomatch z), d⟩, fun a xs e => ?_⟩
  rcases e with ⟨ob, e, d⟩ | e
  · exact .inl ⟨ob, h _ _ e (no e fun _ z => nomatch z), d⟩
  · exact .inr (h _ _ e (no e fun _ z => nomatch z))
/-- a list of lists, none of them twice -/
structure LLs (H : Hp) (B : Addr) (ins : List Addr) : Prop where
  b : H B = some (.lst (ins.map V.ref))
  nd : ins.Nodup
  nb : B ∉ ins
theorem FrL.tabs {ins : List Addr} {H1 H2 : Hp} (h : FrL ins H1 H2) (l : ∀ a ∈ ins, ∃ ws, H1 a = some (.lst ws)) {T : List (Addr × Str)} (t : Tabs T H1) : Tabs T H2 := by
  have no : ∀ {a : Addr} {o : HO}, H1 a = some o → (∀ ws, o ≠ .lst ws) → a ∉ ins := fun e n z => by
    obtain ⟨ws, e2⟩ := l _ z
    rw [e] at e2
    cases e2
    exact n _ rfl
  intro p hp
  obtain ⟨ps, h1, h2, h3⟩ := t p hp
  refine ⟨ps, h _ _ h1 (no h1 fun _ z => nomatch z), h2, fun pos cv hc => ?_⟩
  obtain ⟨c, e1, e2⟩ := h3 pos cv hc
  exact ⟨c, e1, h _ _ e2 (no e2 fun _ z => nomatch z)⟩
theorem LLs.keep {H H' : Hp} {B : Addr} {ins : List Addr} (h : LLs H B ins) (e : H' B = H B) : LLs H' B ins := ⟨e.trans h.b, h.nd, h.nb⟩
end Su
/-! ### FR0: the sets that come, as lists and as numbers -/
namespace Su
open PySem PySem.Spec PyProof.Rows L2
open LamX hiding takes0
open Fm
/-- the number of a set -/
def numL : List Int → List Int → Nat
  | [], _ => 0
  | x :: ms, l => 2 * numL ms l + (if x ∈ l then 1 else 0)
theorem numL_bit : ∀ (ms l : List Int) (j : Nat), (numL ms l).testBit j = true ↔ ∃ x, ms[j]? = some x ∧ x ∈ l
  | [], l, j => by simp [numL]
  | x :: ms, l, 0 => by
    unfold numL
    rw [Nat.testBit_zero]
    by_cases c : x ∈ l
    · rw [if_pos c]
      simp [c]
    · rw [if_neg c]
      simp [c]
  | x :: ms, l, j + 1 => by
    have ih := numL_bit ms l j
    unfold numL
    rw [Nat.testBit_succ, show (2 * numL ms l + if x ∈ l then 1 else 0) / 2 = numL ms l by split <;> omega, ih]
    simp
theorem numL_lt : ∀ (ms l : List Int), numL ms l < 2 ^ ms.length
  | [], _ => by simp [numL]
  | x :: ms, l => by
    have ih := numL_lt ms l
    unfold numL
    rw [List.length_cons, Nat.pow_succ]
    split <;> omega
theorem get_idx {ms : List Int} {x : Int} (h : x ∈ ms) : ms[ms.idxOf x]? = some x := by
  rw [List.getElem?_eq_getElem (List.idxOf_lt_length_iff.mpr h), List.getElem_idxOf]
theorem numL_idx {ms l : List Int} {x : Int} (h : x ∈ ms) : (numL ms l).testBit (ms.idxOf x) = true ↔ x ∈ l := by
  rw [numL_bit]
  constructor
  · rintro ⟨y, e, hy⟩
    rw [get_idx h] at e
    cases e
    exact hy
  · exact fun hx => ⟨x, get_idx h, hx⟩
theorem numL_sub {ms a b : List Int} : Sub (numL ms a) (numL ms b) ↔ ∀ x ∈ ms, x ∈ a → x ∈ b := by
  constructor
  · intro h x hx ha
    exact (numL_idx hx).mp (h _ ((numL_idx hx).mpr ha))
  · intro h i hi
    obtain ⟨x, e, hx⟩ := (numL_bit _ _ _).mp hi
    exact (numL_bit _ _ _).mpr ⟨x, e, h x (List.mem_of_getElem? e) hx⟩
theorem mem_rooms {ms : List Int} {n : Nat} {x : Int} : x ∈ roomsS ms n ↔ x ∈ ms ∧ n.testBit (ms.idxOf x) = true := by
  unfold roomsS
  rw [List.mem_filter]
theorem rooms_num {ms l : List Int} (pm : ms.Pairwise (· < ·)) (pl : l.Pairwise (· < ·)) (h : ∀ x ∈ l, x ∈ ms) : roomsS ms (numL ms l) = l := by
  refine pw_same (pm.filter _) pl fun x => ?_
  refine Iff.trans (show x ∈ ms.filter _ ↔ _ from mem_rooms (n := numL ms l)) ?_
  exact ⟨fun z => (numL_idx z.1).mp z.2, fun z => ⟨h x z, (numL_idx (h x z)).mpr z⟩⟩
theorem num_rooms {ms : List Int} {n : Nat} (nd : ms.Nodup) (hn : n < 2 ^ ms.length) : numL ms (roomsS ms n) = n := by
  refine Nat.eq_of_testBit_eq fun j => ?_
  rw [Bool.eq_iff_iff, numL_bit]
  constructor
  · rintro ⟨x, e, hx⟩
    have := (mem_rooms.mp hx).2
    rw [idx_at nd e] at this
    exact this
  · intro h
    have lt := sub_lt hn h
    refine ⟨ms[j], List.getElem?_eq_getElem lt, mem_rooms.mpr ⟨List.getElem_mem lt, ?_⟩⟩
    rw [idx_at nd (List.getElem?_eq_getElem lt)]
    exact h
/-! states -/
def fk (l : List Int) (b : Bool) : NestedKey := .tup [.tup (l.map NestedKey.num), .num (if b = true then 1 else 0)]
def fkNums (ks : List NestedKey) : List Int := ks.map fun k => match k with | .num i => i | _ => 0
def unfk : NestedKey → List Int × Bool
  | .tup [.tup a, .num i] => (fkNums a, decide (i = 1))
  | _ => ([], false)
theorem unfk_fk (l : List Int) (b : Bool) : unfk (fk l b) = (l, b) := by
  show (fkNums (l.map NestedKey.num), decide ((if b = true then (1 : Int) else 0) = 1)) = _
  have e : fkNums (l.map NestedKey.num) = l := by
    unfold fkNums
    rw [List.map_map]
    exact List.map_id'' (fun _ => rfl) l
  rw [e]
  cases b <;> rfl
theorem fk_inj {l l' : List Int} {b b' : Bool} (h : fk l b = fk l' b') : l = l' ∧ b = b' := by
  have e := congrArg unfk h
  rw [unfk_fk, unfk_fk] at e
  exact Prod.mk.inj e
def laterF (k : Int) (l : List Int) (b : Bool) (x : Int) : List Int × Bool := if x = k then ([], false) else (srt (l.filter (fun y => !decide (y = x)) ++ [x]), b)
def famSys (rs : List Rw) (k : Int) : Sys where
  rs := rs
  bh := fun s x => fk (laterF k (unfk s).1 (unfk s).2 x).1 (laterF k (unfk s).1 (unfk s).2 x).2
  ss := [fk [] true]
  ok := fun s => ∃ l b, s = fk l b ∧ l.Pairwise (· < ·) ∧ ∀ x ∈ l, x ∈ othR rs k
theorem mem_oth {rs : List Rw} {k x : Int} : x ∈ othR rs k ↔ x ∈ allRooms rs ∧ x ≠ k := by
  unfold othR
  rw [List.mem_filter, rooms_mem]
  simp
theorem oth_pw (rs : List Rw) (k : Int) : (othR rs k).Pairwise (· < ·) := (rooms_pw rs).filter _
theorem later_mem {k x y : Int} {l : List Int} {b : Bool} (n : x ≠ k) : y ∈ (laterF k l b x).1 ↔ y ∈ l ∨ y = x := by
  unfold laterF
  rw [if_neg n, (srt_perm _).mem_iff, List.mem_append, List.mem_filter, List.mem_singleton]
  by_cases c : y = x
  · simp [c]
  · simp [c]
theorem later_pw {k x : Int} {l : List Int} {b : Bool} (h : l.Pairwise (· < ·)) : (laterF k l b x).1.Pairwise (· < ·) := by
  unfold laterF
  split
  · exact List.Pairwise.nil
  · have nd : (l.filter (fun y => !decide (y = x)) ++ [x]).Nodup := by
      rw [List.nodup_append]
      refine ⟨(h.imp fun h => Int.ne_of_lt h).filter _, by simp, fun a ha b hb => ?_⟩
      rw [List.mem_singleton.mp hb]
      rintro rfl
      have := (List.mem_filter.mp ha).2
      simp at this
    have h1 := srt_le (l.filter (fun y => !decide (y = x)) ++ [x])
    have h2 : (srt (l.filter (fun y => !decide (y = x)) ++ [x])).Nodup := (srt_perm _).nodup_iff.mpr nd
    exact (h1.and h2).imp fun h => by omega
theorem fam_ok {rs : List Rw} {k x : Int} {s : NestedKey} (h : (famSys rs k).ok s) (hx : x ∈ allRooms rs) : (famSys rs k).ok ((famSys rs k).bh s x) := by
  obtain ⟨l, b, rfl, pw, sub⟩ := h
  show (famSys rs k).ok (fk (laterF k (unfk (fk l b)).1 (unfk (fk l b)).2 x).1 (laterF k (unfk (fk l b)).1 (unfk (fk l b)).2 x).2)
  rw [unfk_fk]
  refine ⟨_, _, rfl, later_pw pw, fun y hy => ?_⟩
  by_cases c : x = k
  · unfold laterF at hy
    rw [if_pos c] at hy
    cases hy
  · rcases (later_mem c).mp hy with h | h
    · exact sub y h
    · rw [h]
      exact mem_oth.mpr ⟨hx, c⟩
/-- a set comes to a row -/
def Comes (cs : List CE) (r : Nat) (l : List Int) : Prop := ∃ b, ((r, fk l b) : PK) ∈ cs.map CE.key
theorem asks_of_ne {row : Rw} (h : row.1 ≠ []) {x : Int} (hx : x ∈ row.1) : some x ∈ asksL row := by
  unfold asksL
  rw [if_neg h]
  exact List.mem_map.mpr ⟨x, hx, rfl⟩
theorem came_step {rs : List Rw} {k : Int} {cs : List CE} (c : Came (famSys rs k) cs) {r : Nat} {row : Rw} {l : List Int} {b : Bool} (h : ((r, fk l b) : PK) ∈ cs.map CE.key) (er : rs[r]? = some row) {a : Option Int} (ha : a ∈ asksL row) {t : Int} (ht : t ∈ row.2) : ((t.toNat, nextS (famSys rs k).bh (fk l b) a) : PK) ∈ cs.map CE.key := by
  obtain ⟨e, he, ek⟩ := List.mem_map.mp h
  have e1 : e.row = r := congrArg Prod.fst ek
  have e2 : e.st = fk l b := congrArg Prod.snd ek
  have := c.cl e he row (by rw [e1]; exact er) a ha t ht
  rwa [e2] at this
theorem fam_next (rs : List Rw) (k : Int) (l : List Int) (b : Bool) (x : Int) : nextS (famSys rs k).bh (fk l b) (some x) = fk (laterF k l b x).1 (laterF k l b x).2 := by
  show fk (laterF k (unfk (fk l b)).1 (unfk (fk l b)).2 x).1 (laterF k (unfk (fk l b)).1 (unfk (fk l b)).2 x).2 = _
  rw [unfk_fk]
theorem asks_bit {m : Nat} {ms : List Int} {F T : Nat} : ∀ {ks : List Int}, (asksN m ms F ks).testBit T = true ↔ ∃ x ∈ ks, (askN m ms F x).testBit T = true
  | [] => by simp [asksN]
  | k :: ks => by
    have ih := asks_bit (m := m) (ms := ms) (F := F) (T := T) (ks := ks)
    unfold asksN
    rw [Nat.testBit_or, Bool.or_eq_true, ih]
    simp
theorem beh_mono {m : Nat} {ms : List Int} {F' F : Nat} {ks : List Int} (em : ms.length ≤ m) (f' : Fits m F') (f : Fits m F) (h : ∀ S, F'.testBit S = true → F.testBit S = true) {T : Nat} (hT : (behN m ms F' ks).testBit T = true) : (behN m ms F ks).testBit T = true := by
  unfold behN at hT ⊢
  by_cases z : ks = []
  · rw [if_pos (.inr z)] at hT ⊢
    exact h T hT
  by_cases z' : F' = 0
  · rw [if_pos (.inl z'), z', Nat.zero_testBit] at hT
    cases hT
  have zF : F ≠ 0 := fun y => by
    have := h _ (Nat.testBit_log2 z')
    rw [y, Nat.zero_testBit] at this
    cases this
  rw [if_neg (fun y => y.elim z' z)] at hT
  rw [if_neg (fun y => y.elim zF z)]
  obtain ⟨x, hx, hb⟩ := asks_bit.mp hT
  refine asks_bit.mpr ⟨x, hx, ?_⟩
  unfold askN at hb ⊢
  by_cases c : x ∈ ms
  · have hp : ms.idxOf x < m := by have := List.idxOf_lt_length_iff.mpr c; omega
    rw [if_pos c, withN_bit hp f', Bool.and_eq_true, Bool.or_eq_true] at hb
    rw [if_pos c, withN_bit hp f, Bool.and_eq_true, Bool.or_eq_true]
    exact ⟨hb.1, hb.2.imp (h _) (h _)⟩
  · rw [if_neg c] at hb ⊢
    exact hb
end Su
/-! ### L1a: what a set is after an ask, the law's -/
namespace Su
open PySem PySem.Spec PyProof.Rows L2
open LamX hiding takes0
end Su
/-! ### L2a: sets as data -/
namespace Su
open PySem PySem.Spec PyProof.Rows L2
open LamX hiding takes0
theorem SetsAt.get {H : Hp} : ∀ {vs : List V} {kss : List (List Int)}, SetsAt H vs kss → ∀ {i : Nat} {v : V}, vs[i]? = some v → ∃ a ks, v = .ref a ∧ kss[i]? = some ks ∧ T2 H a (ks.map V.int)
  | _, _, .nil, i, v, e => by simp at e
  | _, _, .cons h t, 0, v, e => by cases e; exact ⟨_, _, rfl, rfl, h⟩
  | _, _, .cons h t, i + 1, v, e => SetsAt.get t (i := i) (by simpa using e)
/-- pairs of a number and a set -/
def PrsAt (H : Hp) (ts : List (V × List Int)) : Prop := ∀ t ∈ ts, ∃ p a, t.1 = .ref p ∧ T2 H p [.int (t.2.length : Nat), .ref a] ∧ T2 H a (t.2.map V.int)
theorem PrsAt.kp {H H' : Hp} {ts : List (V × List Int)} (k : KP H H') (h : PrsAt H ts) : PrsAt H' ts := fun t ht => by
  obtain ⟨p, a, e, h1, h2⟩ := h t ht
  exact ⟨p, a, e, k.k _ _ h1, k.k _ _ h2⟩
end Su
/-! ### L3a: pairs for a dict of sets, the law's -/
namespace Su
open PySem PySem.Spec PyProof.Rows L2
open LamX hiding takes0
def mk (l : List Int) : NestedKey := .tup (l.map NestedKey.num)
/-- pairs of a set and True, for a dict -/
def MPr (H : Hp) (ts : List Addr) (es : List NEnt) (ls : List (List Int)) : Prop := Paired (fun t e => T2 H t [V.ref e.2.1, e.2.2]) ts es ∧ es.map (·.1) = ls.map mk ∧ ∀ e ∈ es, ∃ l, e.1 = mk l ∧ T2 H e.2.1 (l.map V.int)
theorem MPr.kp {H H' : Hp} {ts : List Addr} {es : List NEnt} {ls : List (List Int)} (k : K2 H H') (h : MPr H ts es ls) : MPr H' ts es ls :=
  ⟨L2.Paired.mapP h.1 fun _ _ z => k _ _ z, h.2.1, fun e he => by
    obtain ⟨l, e1, e2⟩ := h.2.2 e he
    exact ⟨l, e1, k _ _ e2⟩⟩
theorem paired_snoc {α β : Type} {F : α → β → Prop} {a : α} {b : β} (h : F a b) : ∀ {l₁ : List α} {l₂ : List β}, Paired F l₁ l₂ → Paired F (l₁ ++ [a]) (l₂ ++ [b])
  | _, _, .nil => .cons h .nil
  | _, _, .cons r t => .cons r (paired_snoc h t)
theorem MPr.snoc {H : Hp} {ts : List Addr} {es : List NEnt} {ls : List (List Int)} {t a : Addr} {l : List Int} (h : MPr H ts es ls) (ht : T2 H t [.ref a, .bl true]) (ha : T2 H a (l.map V.int)) : MPr H (ts ++ [t]) (es ++ [(mk l, a, .bl true)]) (ls ++ [l]) :=
  ⟨paired_snoc (F := fun (t : Addr) (e : NEnt) => T2 H t [V.ref e.2.1, e.2.2]) (a := t) (b := (mk l, a, V.bl true)) ht h.1, by rw [List.map_append, List.map_append, h.2.1]; rfl, fun e he => by
    rcases List.mem_append.mp he with he | he
    · exact h.2.2 e he
    · rw [List.mem_singleton.mp he]
      exact ⟨l, rfl, ha⟩⟩
end Su
/-! ### FLa: a search along a web with a dict for each row and a line: its dicts and its line -/
namespace Su
open PySem PySem.Spec PyProof.Rows L2
open LamX hiding takes0
/-- an entry: its tuple in the dict, its tuple in the line, the line's pair -/
structure SG where
  e : CE
  T : Addr
  U : Addr
  A : Addr
def kvsG (xs : List SG) (i : Nat) : List NEnt := (xs.filter fun x => decide (x.e.row = i)).map fun x => (x.e.st, x.T, V.bl true)
theorem kvsG_snoc (xs : List SG) (x : SG) (i : Nat) : kvsG (xs ++ [x]) i = if x.e.row = i then kvsG xs i ++ [(x.e.st, x.T, V.bl true)] else kvsG xs i := by
  unfold kvsG
  rw [List.filter_append, List.map_append]
  by_cases c : x.e.row = i
  · rw [if_pos c, List.filter_cons, if_pos (decide_eq_true c)]
    rfl
  · rw [if_neg c, List.filter_cons, if_neg (by rw [decide_eq_false c]; exact Bool.false_ne_true)]
    simp
theorem kvsG_keys {xs : List SG} {i : Nat} {s : NestedKey} : s ∈ (kvsG xs i).map (·.1) ↔ ((i, s) : PK) ∈ xs.map fun x => x.e.key := by
  unfold kvsG
  rw [List.map_map]
  constructor
  · intro h
    obtain ⟨x, hx, rfl⟩ := List.mem_map.mp h
    obtain ⟨h1, h2⟩ := List.mem_filter.mp hx
    exact List.mem_map.mpr ⟨x, h1, Prod.ext (of_decide_eq_true h2) rfl⟩
  · intro h
    obtain ⟨x, hx, ex⟩ := List.mem_map.mp h
    have e1 : x.e.row = i := congrArg Prod.fst ex
    have e2 : x.e.st = s := congrArg Prod.snd ex
    exact List.mem_map.mpr ⟨x, List.mem_filter.mpr ⟨hx, decide_eq_true e1⟩, e2⟩
theorem kvsG_get {xs : List SG} {i : Nat} {s : NestedKey} : (nGet (kvsG xs i) s).isSome = decide (((i, s) : PK) ∈ xs.map fun x => x.e.key) := by
  cases z : nGet (kvsG xs i) s with
  | none =>
    have n := nGet_none z
    exact (decide_eq_false fun m => n (kvsG_keys.mpr m)).symm
  | some v =>
    exact (decide_eq_true (kvsG_keys.mp (nGet_has (by rw [z]; rfl)))).symm
theorem kvsG_put {xs : List SG} {x : SG} (new : x.e.key ∉ xs.map fun x => x.e.key) : nPut (kvsG xs x.e.row) x.e.st x.T (.bl true) = kvsG (xs ++ [x]) x.e.row := by
  rw [kvsG_snoc, if_pos rfl]
  unfold nPut
  rw [if_neg (by rw [kvsG_get, decide_eq_false new]; exact Bool.false_ne_true)]
theorem kvsG_len (xs : List SG) (i : Nat) : (kvsG xs i).length ≤ xs.length := by
  unfold kvsG
  rw [List.length_map]
  exact List.length_filter_le _ _
structure GSt (w : World) (z : SV) (H0 H : Hp) (B L : Addr) (ins : List Addr) (xs : List SG) : Prop where
  sm : Same H0 H
  fb : H0 B = none
  fl : H0 L = none
  fi : ∀ d ∈ ins, H0 d = none
  ll : LLs H B ins
  lb : L ≠ B
  li : L ∉ ins
  l : H L = some (.lst (xs.map fun x => V.ref x.A))
  d : ∀ i d, ins[i]? = some d → ND w H d (kvsG xs i)
  es : ∀ x ∈ xs, PTup H x.A [.int (x.e.row : Nat), .ref x.U] ∧ z.at_ H x.e.st (.ref x.T) ∧ z.at_ H x.e.st (.ref x.U) ∧ x.e.st.depth ≤ 6
section
variable {w : World} {z : SV} {H0 H H' H2 : Hp} {B L d T U A : Addr} {ins : List Addr} {xs : List SG}
theorem GSt.same (h : GSt w z H0 H B L ins xs) (s : Same H H') : GSt w z H0 H' B L ins xs :=
  ⟨h.sm.trans s, h.fb, h.fl, h.fi, ⟨s _ _ h.ll.b, h.ll.nd, h.ll.nb⟩, h.lb, h.li, s _ _ h.l, fun i d e => (h.d i d e).same s, fun x hx => ⟨(h.es x hx).1.same s, z.keep (KP.same s) (h.es x hx).2.1, z.keep (KP.same s) (h.es x hx).2.2.1, (h.es x hx).2.2.2⟩⟩
theorem GSt.more {e : CE} (h : GSt w z H0 H B L ins xs) (new : e.key ∉ xs.map fun x => x.e.key) (ed : ins[e.row]? = some d) (hT : z.at_ H e.st (.ref T)) (hd : e.st.depth ≤ 6) (few : xs.length < sizeLine)
    (s : Same (L2.upd H d (ndO w d (nPut (kvsG xs e.row) e.st T (.bl true)))) H2) (hU : z.at_ H2 e.st (.ref U)) (pt : PTup H2 A [.int (e.row : Nat), .ref U]) :
    FrL (L :: ins) H (L2.upd H2 L (.lst ((xs.map fun x => V.ref x.A) ++ [.ref A]))) ∧ KP H (L2.upd H2 L (.lst ((xs.map fun x => V.ref x.A) ++ [.ref A]))) ∧ GSt w z H0 (L2.upd H2 L (.lst ((xs.map fun x => V.ref x.A) ++ [.ref A]))) B L ins (xs ++ [⟨e, T, U, A⟩]) := by
  have dm : d ∈ ins := List.mem_of_getElem? ed
  have nLd : L ≠ d := fun z => h.li (z ▸ dm)
  have nBd : B ≠ d := fun z => h.ll.nb (z ▸ dm)
  have D := h.d _ _ ed
  have put := D.put (v := .bl true) (z.key hT) (by omega) (Nat.lt_of_le_of_lt (kvsG_len xs e.row) few)
  have kd : KP H (L2.upd H d (ndO w d (nPut (kvsG xs e.row) e.st T (.bl true)))) := D.kp _
  have hL1 : (L2.upd H d (ndO w d (nPut (kvsG xs e.row) e.st T (.bl true)))) L = some (.lst (xs.map fun x => V.ref x.A)) := by
    rw [upd_ne nLd]
    exact h.l
  have hL2 := s _ _ hL1
  have kL : KP H2 (L2.upd H2 L (.lst ((xs.map fun x => V.ref x.A) ++ [.ref A]))) := KP.lst hL2
  have kk := (kd.trans (KP.same s)).trans kL
  have s2 := s
  have np : nPut (kvsG xs e.row) e.st T (.bl true) = kvsG (xs ++ [⟨e, T, U, A⟩]) e.row := kvsG_put (x := ⟨e, T, U, A⟩) new
  have old : ∀ {c : Addr} {o : HO}, H c = some o → c ≠ d → c ≠ L → (L2.upd H2 L (.lst ((xs.map fun x => V.ref x.A) ++ [.ref A]))) c = some o := fun hc n1 n2 => by
    rw [upd_ne n2]
    refine s2 _ _ ?_
    rw [upd_ne n1]
    exact hc
  refine ⟨fun c o ec n => old ec (fun z => n (List.mem_cons_of_mem _ (z ▸ dm))) (fun z => n (z ▸ List.mem_cons_self)), kk, fun c o ec => ?_, h.fb, h.fl, h.fi, ⟨?_, h.ll.nd, h.ll.nb⟩, h.lb, h.li, ?_, fun i d' ei => ?_, fun x hx => ?_⟩
  · exact old (h.sm _ _ ec) (ne_of_none ec (h.fi d dm)) (ne_of_none ec h.fl)
  · exact old h.ll.b nBd h.lb.symm
  · rw [upd_same, List.map_append]
    rfl
  · rw [kvsG_snoc]
    by_cases c : d' = d
    · subst c
      have ei2 : i = e.row := (List.getElem?_inj (List.getElem?_eq_some_iff.mp ei).1 h.ll.nd).mp (ei.trans ed.symm)
      subst ei2
      have z := (put.same s).keep kL.k (upd_ne nLd.symm)
      rw [np] at z
      rw [if_pos rfl]
      rw [kvsG_snoc, if_pos rfl] at z
      exact z
    · have ni : ¬ e.row = i := fun z => c (by
        rw [z] at ed
        rw [ed] at ei
        cases ei
        rfl)
      have nLd' : d' ≠ L := fun z => h.li (z ▸ List.mem_of_getElem? ei)
      rw [if_neg ni]
      exact (((h.d i d' ei).keep kd.k (upd_ne c)).same s).keep kL.k (upd_ne nLd')
  · rcases List.mem_append.mp hx with hx | hx
    · exact ⟨kk.p _ _ (h.es x hx).1, z.keep kk (h.es x hx).2.1, z.keep kk (h.es x hx).2.2.1, (h.es x hx).2.2.2⟩
    · rw [List.mem_singleton.mp hx]
      exact ⟨kL.p _ _ pt, z.keep kk hT, z.keep kL hU, hd⟩
end
/-! how many states there are -/
theorem fam_few {rs : List Rw} {k : Int} {l : List PK} (nd : l.Nodup) (h : ∀ p ∈ l, p.1 < rs.length ∧ (famSys rs k).ok p.2) : l.length ≤ rs.length * (2 * 2 ^ (othR rs k).length) := by
  have lt : ∀ l, numL (othR rs k) l < 2 ^ (othR rs k).length := fun l => numL_lt _ l
  have code_lt : ∀ p ∈ l, (p.1 * 2 + (if (unfk p.2).2 = true then 1 else 0)) * 2 ^ (othR rs k).length + numL (othR rs k) (unfk p.2).1 < rs.length * (2 * 2 ^ (othR rs k).length) := fun p hp => by
    have h1 := (h p hp).1
    have h2 := lt (unfk p.2).1
    have h3 : p.1 * 2 + (if (unfk p.2).2 = true then 1 else 0) + 1 ≤ rs.length * 2 := by split <;> omega
    have h4 := Nat.mul_le_mul_right (2 ^ (othR rs k).length) h3
    rw [Nat.add_mul, Nat.one_mul, Nat.mul_assoc] at h4
    omega
  have nd2 : (l.map fun p : PK => (p.1 * 2 + (if (unfk p.2).2 = true then 1 else 0)) * 2 ^ (othR rs k).length + numL (othR rs k) (unfk p.2).1).Nodup := by
    refine List.pairwise_map.mpr (List.Pairwise.imp_of_mem (fun {a b} ha hb n e => n ?_) nd)
    obtain ⟨_, la, ba, ea, pa, sa⟩ := h a ha
    obtain ⟨_, lb, bb, eb, pb, sb⟩ := h b hb
    rw [ea, eb, unfk_fk, unfk_fk] at e
    have e : (a.1 * 2 + (if ba = true then 1 else 0)) * 2 ^ (othR rs k).length + numL (othR rs k) la = (b.1 * 2 + (if bb = true then 1 else 0)) * 2 ^ (othR rs k).length + numL (othR rs k) lb := e
    have p0 := Nat.two_pow_pos (othR rs k).length
    have ma : ∀ (c : Nat) (l : List Int), (c * 2 ^ (othR rs k).length + numL (othR rs k) l) % 2 ^ (othR rs k).length = numL (othR rs k) l := fun c l => by
      rw [Nat.add_comm, Nat.add_mul_mod_self_right, Nat.mod_eq_of_lt (lt l)]
    have da : ∀ (c : Nat) (l : List Int), (c * 2 ^ (othR rs k).length + numL (othR rs k) l) / 2 ^ (othR rs k).length = c := fun c l => by
      rw [Nat.add_comm, Nat.add_mul_div_right _ _ p0, Nat.div_eq_of_lt (lt l), Nat.zero_add]
    have m1 := congrArg (· % 2 ^ (othR rs k).length) e
    have d1 := congrArg (· / 2 ^ (othR rs k).length) e
    rw [ma, ma] at m1
    rw [da, da] at d1
    have eab : a.1 = b.1 ∧ ba = bb := by
      cases ba <;> cases bb <;> simp at d1 ⊢ <;> omega
    have el : la = lb := by rw [← rooms_num (oth_pw rs k) pa sa, ← rooms_num (oth_pw rs k) pb sb, m1]
    exact Prod.ext eab.1 (by rw [ea, eb, el, eab.2])
  have z := nat_few nd2 fun r hr => by
    obtain ⟨p, hp, rfl⟩ := List.mem_map.mp hr
    exact code_lt p hp
  rw [List.length_map] at z
  exact z
end Su
/-! ### CE: all that comes can be listed -/
namespace Su
open PySem PySem.Spec PyProof.Rows L2
open LamX hiding takes0
open Fm
theorem came_more {Y : Sys} {N : Nat} (bd : ∀ l : List PK, l.Nodup → (∀ p ∈ l, p.1 < Y.rs.length ∧ Y.ok p.2) → l.length ≤ N) (okn : ∀ s, Y.ok s → ∀ r ∈ Y.rs, ∀ a ∈ asksL r, Y.ok (nextS Y.bh s a)) (tos : ∀ r ∈ Y.rs, ∀ t ∈ r.2, 0 ≤ t ∧ t < (Y.rs.length : Int)) :
    ∀ (n : Nat) (cs : List CE), PInv Y cs [] → N - cs.length ≤ n → ∃ cs, Came Y cs := by
  intro n
  induction n with
  | zero =>
    intro cs h hn
    refine ⟨cs, h.nd, h.st, fun e he r er a ha t ht => Classical.byContradiction fun new => ?_, h.bk, h.ok⟩
    have ok1 := h.ok e he
    have t1 := tos r (List.mem_of_getElem? er) t ht
    obtain ⟨j, hj⟩ := List.mem_iff_getElem?.mp he
    have h2 := h.more (x := ⟨t.toNat, nextS Y.bh e.st a, some (e.row, e.st, a)⟩) new ⟨j, e, r, (List.getElem?_eq_some_iff.mp hj).1, by rw [List.getElem?_append_left (List.getElem?_eq_some_iff.mp hj).1]; exact hj, rfl, er, ha, by rw [Int.toNat_of_nonneg t1.1]; exact ht, rfl⟩ ⟨by show t.toNat < _; omega, okn _ ok1.2 r (List.mem_of_getElem? er) a ha⟩
    have h3 := bd _ h2.nd fun p hp => by
      obtain ⟨e', he', rfl⟩ := List.mem_map.mp hp
      exact h2.ok e' he'
    rw [List.length_map, List.length_append, List.length_singleton] at h3
    omega
  | succ n ih =>
    intro cs h hn
    by_cases c : ∀ e ∈ cs, ∀ r, Y.rs[e.row]? = some r → ∀ a ∈ asksL r, ∀ t ∈ r.2, ((t.toNat, nextS Y.bh e.st a) : PK) ∈ cs.map CE.key
    · exact ⟨cs, h.nd, h.st, c, h.bk, h.ok⟩
    · simp only [Classical.not_forall] at c
      obtain ⟨e, he, r, er, a, ha, t, ht, new⟩ := c
      have ok1 := h.ok e he
      have t1 := tos r (List.mem_of_getElem? er) t ht
      obtain ⟨j, hj⟩ := List.mem_iff_getElem?.mp he
      refine ih _ (h.more (x := ⟨t.toNat, nextS Y.bh e.st a, some (e.row, e.st, a)⟩) new ⟨j, e, r, (List.getElem?_eq_some_iff.mp hj).1, by rw [List.getElem?_append_left (List.getElem?_eq_some_iff.mp hj).1]; exact hj, rfl, er, ha, by rw [Int.toNat_of_nonneg t1.1]; exact ht, rfl⟩ ⟨by show t.toNat < _; omega, okn _ ok1.2 r (List.mem_of_getElem? er) a ha⟩) ?_
      rw [List.length_append, List.length_singleton]
      omega
theorem fam_exists {rs : List Rw} (ok : WebOk rs) (k : Int) : ∃ cs, Came (famSys rs k) cs := by
  refine came_more (Y := famSys rs k) (N := rs.length * (2 * 2 ^ (othR rs k).length)) (fun l nd h => fam_few nd h) (fun s hs r hr a ha => ?_) (fun r hr t ht => ?_) _ [⟨0, fk [] true, none⟩] ⟨?_, fun s hs => ?_, fun i e he => ?_, fun e he => ?_, List.nodup_nil, (fun p h => nomatch h), (fun p h => nomatch h)⟩ (Nat.le_refl _)
  · cases a with
    | none => exact hs
    | some x =>
      refine fam_ok hs ?_
      have hx : x ∈ r.1 := by
        unfold asksL at ha
        split at ha
        · simp at ha
        · obtain ⟨y, hy, e⟩ := List.mem_map.mp ha
          cases e
          exact hy
      exact List.mem_flatten.mpr ⟨r.1, List.mem_map.mpr ⟨r, hr, rfl⟩, hx⟩
  · have rok := ok.row r hr
    have h1 := rok.tos.lo t ht
    have h2 := rok.tos.hi t ht
    exact ⟨h1, by show t < (rs.length : Int); omega⟩
  · simp
  · have : s = fk [] true := List.mem_singleton.mp hs
    rw [this]
    exact List.mem_singleton.mpr rfl
  · cases i with
    | zero =>
      cases he
      exact ⟨rfl, List.mem_singleton.mpr rfl⟩
    | succ i => simp at he
  · rw [List.mem_singleton.mp he]
    exact ⟨ok.pos, [], true, rfl, List.Pairwise.nil, fun x h => nomatch h⟩
end Su
namespace Su
open PySem PySem.Spec PyProof.Rows L2
theorem sc_law_take : FnScope ["_law_pool_here", "_law_many", "_law_found"] ["_law_pool_here", "_law_many"] (defScope s_law_take) := ⟨rfl, rfl, rfl, by decide +kernel, rfl, by decide +kernel, by decide +kernel⟩
theorem sc_law_pool : FnScope ["_law_script", "_law_k", "_law_cell", "_law_size", "_law_mixed"] ["_law_script", "_law_k"] (defScope s_law_pool) := ⟨rfl, rfl, rfl, by decide +kernel, rfl, by decide +kernel, by decide +kernel⟩
section
variable {P : Program} {w : World} {K : PySem.W.Frag} {mg : Str → Option Value} {base : Heap}
theorem ok_take (T : At K mg "_law_take" s_law_take ["_law_pool_here", "_law_many"]) : Cal P w K mg base 1 "_law_take" ["_law_pool_here", "_law_many"] spTake := by
  refine cal_of T sc_law_take (fun vs H Q E h => ?_) (fun f cdv A outer s H vs Q E hr h => ?_)
  · obtain ⟨p, many, rfl, _⟩ := h
    rfl
  · obtain ⟨p, many, rfl, ⟨o, hp, g, m, rfl, g0, m0, m1⟩, n1, n2, q⟩ := h
    refine ⟨_, (pss_cons (ps_if (pt_cmpR op_gt (pe_ix ix_list (pv 0) pe_int (fun _ _ => rfl)) pe_int (nomark _)) (pss_cons (ps_set (i := 2) sc_law_take.nd rfl (Or.inl rfl) (pe_op op_mod (pe_ix ix_list (pv 0) pe_int (fun _ _ => rfl)) (pv 1)))
      (pss_cons (ps_asg (pe_op op_fdiv (pe_ix ix_list (pv 0) pe_int (fun _ _ => rfl)) (pv 1)) (pg_sub (pv 0) pe_int set_list))
      (pss_one (ps_ret (pv 2))))) pss_nil)
      (pss_cons (ps_asg (pe_op op_mod (pe_op op_add (pe_op op_mul (pe_ix ix_list (pv 0) pe_int (fun _ _ => rfl)) pe_int) pe_int) pe_int) (pg_sub (pv 0) pe_int set_list))
      (pss_one (ps_ret (pe_op op_mod (pe_op op_fdiv (pe_op op_mod (pe_op op_mul (pe_ix ix_list (pv 0) pe_int (fun _ _ => rfl)) (pe_ix ix_list (pv 0) pe_int (fun _ _ => rfl))) pe_int) pe_int) (pv 1)))))), ?_⟩
    refine ⟨_, rfl, p, _, _, _, rfl, rfl, SqL.of hp, atI_nat (j := 0) rfl, _, _, rfl, rfl, _, rfl, ite2 (fun e => ?_) (fun e => ?_)⟩
    · refine ⟨_, rfl, p, _, _, _, rfl, rfl, SqL.of hp, atI_nat (j := 0) rfl, _, rfl, _, _, rfl, rfl, (by omega), ?_⟩
      refine ⟨_, rfl, p, _, _, _, rfl, rfl, SqL.of hp, atI_nat (j := 0) rfl, _, rfl, _, _, rfl, rfl, ⟨by omega, by omega⟩, ?_⟩
      refine ⟨_, rfl, p, _, _, 0, rfl, rfl, hp, rfl, ?_⟩
      refine ⟨_, rfl, q _ _ (Int.emod_nonneg _ (by omega)) (Int.emod_lt_of_pos _ (by omega)) ⟨_, _, rfl, Int.ediv_nonneg g0 (by omega), m0, m1⟩⟩
    · refine ⟨_, rfl, p, _, _, _, rfl, rfl, SqL.of hp, atI_nat (j := 1) rfl, _, _, rfl, rfl, .inl ⟨by omega, by omega⟩, _, _, rfl, rfl, _, _, rfl, rfl, (by show (0 : Int) < 2147483647; decide), ?_⟩
      refine ⟨_, rfl, p, _, _, 1, rfl, rfl, hp, rfl, ?_⟩
      have e0 : 0 ≤ (m * 48271 + 11) % 2147483647 := Int.emod_nonneg _ (by decide)
      have e1 : (m * 48271 + 11) % 2147483647 < 2147483647 := Int.emod_lt_of_pos _ (by decide)
      refine ⟨_, rfl, p, _, _, _, rfl, rfl, SqL.of upd_same, atI_nat (j := 1) rfl, _, rfl, p, _, _, _, rfl, rfl, SqL.of upd_same, atI_nat (j := 1) rfl, _, _, rfl, rfl, .inl ⟨by omega, by omega⟩, _, _, rfl, rfl, (by show (0 : Int) < 2147483629; decide), _, _, rfl, rfl, ⟨by decide, by decide⟩, _, rfl, _, _, rfl, rfl, (by omega), ?_⟩
      exact q _ _ (Int.emod_nonneg _ (by omega)) (Int.emod_lt_of_pos _ (by omega)) ⟨_, _, rfl, g0, e0, e1⟩
theorem ok_pool (T : At K mg "_law_pool" s_law_pool ["_law_script", "_law_k"]) (B : Bt mg) : Cal P w K mg base 1 "_law_pool" ["_law_script", "_law_k"] (spPool K) := by
  refine cal_of T sc_law_pool (fun vs H Q E h => ?_) (fun f cdv A outer s H vs Q E hr h => ?_)
  · obtain ⟨a, ns, k, rfl, _⟩ := h
    rfl
  · obtain ⟨a, ns, k, rfl, hS, k0, k1, q⟩ := h
    refine ⟨_, (pss_cons (ps_set (i := 2) sc_law_pool.nd rfl (Or.inl rfl) (pe_op op_add (pe_op op_mul pe_int (pe_callB (cr_sum rfl) (by rfl) B.sum (by decide +kernel) (pa_cons (pe_slice sl_list (pv 0) po_none (po_some pe_int)) pa_nil))) (pv 1)))
      (pss_cons (ps_if (pt_cmpR op_lt (pv 1) (pe_callB call_len_seq (by rfl) B.len PySem.boot_len (pa_cons (pv 0) pa_nil)) (nomark _)) (pss_one (ps_set (i := 2) sc_law_pool.nd rfl (Or.inl rfl) (pe_ix ix_list (pv 0) (pv 1) (fun _ _ => rfl)))) pss_nil)
      (pss_cons (ps_set (i := 3) sc_law_pool.nd rfl (Or.inl rfl) (pe_callB call_abs (by rfl) B.abs (by decide +kernel) (pa_cons (pv 2) pa_nil)))
      (pss_cons (ps_set (i := 4) sc_law_pool.nd rfl (Or.inl rfl) (pe_op op_mod (pe_op op_mul (pe_op op_add (pe_op op_add (pe_op op_add (pe_op op_mod (pv 3) pe_int) (pe_op op_mul (pe_op op_mul pe_int (pv 1)) (pv 1))) (pe_op op_mul pe_int (pv 1))) pe_int) pe_int) pe_int))
      (pss_one (ps_ret (pe_lst (pa_cons (pe_op op_mul (pv 3) (pe_callTy call_int1 (by rfl) B.int (by decide +kernel) (pa_cons (pe_cmpR op_ge (pv 3) (pe_op op_pow pe_int pe_int) (nomark _)) pa_nil))) (pa_cons (pe_op op_mod (pe_op op_mul (pv 4) (pv 4)) pe_int) pa_nil))))))))), ?_⟩
    obtain ⟨ms, ems⟩ := cutV_ints ns none (some 63)
    refine ⟨_, rfl, 63, rfl, a, _, rfl, hS, fun c nc => ?_⟩
    rw [ems]
    have s1 : Same H (upd H c (.lst (ms.map V.int))) := same_upd nc
    refine ⟨c, ms, rfl, SqL.of upd_same, _, _, rfl, rfl, .inl ⟨by decide, by decide⟩, _, rfl, _, _, rfl, rfl, ?_⟩
    refine ⟨_, rfl, _, rfl, a, _, rfl, .inl (s1.seq hS), _, _, rfl, rfl, _, rfl, ite2 (fun e => ?_) (fun e => ?_)⟩
    rw [decide_eq_true_eq, List.length_map] at e
    obtain ⟨z, g⟩ : ∃ z : Int, atI (ns.map V.int) k = some (V.int z) := by
      have hk : k.toNat < ns.length := by omega
      exact ⟨_, atI_int (v := V.int ns[k.toNat]) k0 (by rw [List.getElem?_map, List.getElem?_eq_getElem hk]; rfl)⟩
    refine ⟨_, rfl, _, rfl, a, _, k, .int z, rfl, rfl, s1.seq hS, g, ?_⟩
    all_goals
      refine ⟨_, rfl, _, rfl, ?_⟩
      refine ⟨_, rfl, _, _, rfl, rfl, (by show (0 : Int) < 2147483629; decide), _, rfl, _, _, rfl, rfl, .inl ⟨by decide, by decide⟩, _, rfl, _, _, rfl, rfl, .inr ⟨by omega, by omega⟩, _, _, rfl, rfl, _, rfl, _, _, rfl, rfl, .inl ⟨by decide, by decide⟩, _, _, rfl, rfl, _, _, rfl, rfl, _, _, rfl, rfl, .inr ⟨by decide, by decide⟩, _, _, rfl, rfl, (by show (0 : Int) < 2147483647; decide), ?_⟩
      refine ⟨_, rfl, _, rfl, _, _, rfl, rfl, ⟨by decide, by decide, by decide⟩, _, _, rfl, rfl, .inr ⟨_, rfl, _, _, rfl, rfl, .inr ?_, ?_⟩⟩
      · exact b01 _
      refine ⟨_, rfl, _, rfl, _, _, rfl, rfl, .inl ?_, _, _, rfl, rfl, (by show (0 : Int) < 2147483629; decide), (by show 2 ≤ sizeLine; decide), fun p np => ?_⟩
      · refine ⟨Int.lt_of_lt_of_le (by decide) (Int.emod_nonneg _ (by decide)), Int.lt_trans (Int.emod_lt_of_pos _ (by decide)) (by decide)⟩
      refine q p _ (s1.trans (same_upd np)) (s1.free np) ⟨_, upd_same, _, _, rfl, ?_, Int.emod_nonneg _ (by decide), Int.lt_trans (Int.emod_lt_of_pos _ (by decide)) (by decide)⟩
      refine Int.mul_nonneg ?_ ?_ <;> split <;> omega
end
theorem sc_law_picked : FnScope ["_law_pool_here", "_law_some", "_law_many", "_law_left", "_law_k"] ["_law_pool_here", "_law_some", "_law_many"] (defScope s_law_picked) := ⟨rfl, rfl, rfl, by decide +kernel, rfl, by decide +kernel, by decide +kernel⟩
section
variable {P : Program} {w : World} {K : PySem.W.Frag} {mg : Str → Option Value} {base : Heap}
theorem ok_picked (T : At K mg "_law_picked" s_law_picked ["_law_pool_here", "_law_some", "_law_many"]) (B : Bt mg) (c_take : Cal P w K mg base 1 "_law_take" ["_law_pool_here", "_law_many"] spTake) :
    Cal P w K mg base 2 "_law_picked" ["_law_pool_here", "_law_some", "_law_many"] (spPicked K) := by
  refine cal_of T sc_law_picked (fun vs H Q E h => ?_) (fun f cdv A outer s H vs Q E hr h => ?_)
  · obtain ⟨p, b, ns, many, rfl, _⟩ := h
    rfl
  · obtain ⟨p, b, ns, many, rfl, hp, hS, hbp, nd, hl, m0, q⟩ := h
    refine ⟨_, (pss_cons (ps_set (i := 3) sc_law_picked.nd rfl (Or.inr rfl) (pe_callTy call_list_of (by rfl) B.list (by decide +kernel) (pa_cons (pv 1) pa_nil)))
      (pss_one (ps_ret (pe_callB cr_sortedI (by rfl) B.sorted (by decide +kernel) (pa_cons (pe_lc (own := [("_law_k", 4)]) (g := (gName 4)) (tt := tYes) (te := (tBM K "list" rPopAt (tVar 3) (tCons (tCall spTake [] E0 (tCons (tVar 0) (tCons (tCB (rLenK K) (tCons (tVar 3) tNil)) tNil))) tNil))) (by rfl) sc_law_picked.nd (pi_range1 (by rfl) B.range (pa_cons (pe_callB (call_min2 rfl) (by rfl) B.min (by decide +kernel) (pa_cons (pv 2) (pa_cons (pe_callB call_len_seq (by rfl) B.len PySem.boot_len (pa_cons (pv 3) pa_nil)) pa_nil))) pa_nil)) (blkOk_by (own := [("_law_k", 4)]) (N := ["_law_pool_here", "_law_some", "_law_many", "_law_left", "_law_k"]) (sc := defScope s_law_picked) (by decide +kernel)) (fun _ _ _ _ _ => (pg_name (i := 4) sc_law_picked.nd rfl (Or.inl rfl))) (fun _ _ _ _ _ => pts_nil) (fun _ _ _ _ _ => (pe_bm PySem.F.plainAttrs_list PySem.F.slot_list_pop PySem.F.type_list_pop mt_popAt (pv 3) (pa_cons (pe_own c_take hr (by decide) (by rfl) (pa_cons (pv 0) (pa_cons (pe_callB call_len_seq (by rfl) B.len PySem.boot_len (pa_cons (pv 3) pa_nil)) pa_nil))) pa_nil)))) pa_nil))))), ?_⟩
    refine ⟨_, rfl, b, _, rfl, .inl hS, fun l nl => ?_⟩
    have elp : l ≠ p := pool_ne hp nl
    have hl0 : (if ((ns.map V.int).length : Int) < many then ((ns.map V.int).length : Int) else many) = ((min many.toNat ns.length : Nat) : Int) := by
      rw [List.length_map]
      split <;> omega
    refine ⟨_, rfl, _, rfl, l, _, rfl, .inl (SqL.of upd_same), _, _, rfl, _, rfl, (by omega), (by omega), fun D nD => ?_⟩
    rw [hl0]
    refine lc_range (lo := 0) (n := min many.toNat ns.length) (fun i H2 => ∃ lf acc : List Int, H2 l = some (.lst (lf.map V.int)) ∧ H2 D = some (.lst (acc.map V.int)) ∧ acc.length = i ∧ (acc ++ lf).Perm ns ∧ PoolAt H2 p ∧ Kept p H H2) ?_ ?_ ?_
    · obtain ⟨eDl, nD0⟩ := free_upd nD
      refine ⟨ns, [], (by rw [upd_ne eDl.symm, upd_same]), upd_same, rfl, List.Perm.refl _, (hp.upd elp.symm).upd (pool_ne hp nD0).symm, ((Kept.refl p H).set nl).set nD0⟩
    · rintro i H2 hi ⟨lf, acc, h1, h2, hlen, hpm, hpo, hk⟩
      obtain ⟨eDl, nD0⟩ := free_upd nD
      have eDp : D ≠ p := pool_ne hp nD0
      have hll : acc.length + lf.length = ns.length := by
        have := hpm.length_eq
        rw [List.length_append] at this
        exact this
      refine ⟨rfl, tyes ?_⟩
      refine ⟨_, rfl, .inl ⟨rfl, _, SqL.of h1⟩, _, rfl, _, rfl, l, _, rfl, .inl (SqL.of h1), p, _, rfl, hpo, ?_, ?_, fun r o r0 r1 po => ?_⟩
      · rw [List.length_map]
        omega
      · rw [List.length_map]
        omega
      · rw [List.length_map] at r1
        have hr1 : r.toNat < lf.length := by omega
        refine ⟨l, lf.map V.int, r, r.toNat, V.int lf[r.toNat], rfl, rfl, (by rw [upd_ne elp]; exact h1), by omega, by omega, seqIx r0 (by rw [List.length_map]; exact r1), (by rw [List.getElem?_map, List.getElem?_eq_getElem hr1]; rfl), ?_⟩
        have hg : lf[r.toNat]? = some lf[r.toNat] := List.getElem?_eq_getElem hr1
        generalize lf[r.toNat] = y at *
        refine ⟨acc.map V.int, (by rw [upd_ne eDl, upd_ne eDp]; exact h2), ?_, lf.eraseIdx r.toNat, acc ++ [y], ?_, ?_, ?_, ?_, ?_, ?_⟩
        · rw [List.length_map]
          exact small1000 (by omega)
        · rw [upd_ne eDl.symm, upd_same, erase_map]
        · rw [upd_same, List.map_append]
          rfl
        · rw [List.length_append, hlen]
          rfl
        · rw [List.append_assoc]
          exact ((erase_perm lf r.toNat y hg).append_left acc).trans hpm
        · refine PoolAt.upd (PoolAt.upd ⟨o, upd_same, po⟩ elp.symm) eDp.symm
        · exact (((hk.trans (Kept.upd p H2 o)).set nl).set nD0)
    · rintro H2 ⟨lf, acc, h1, h2, hlen, hpm, hpo, hk⟩
      obtain ⟨eDl, nD0⟩ := free_upd nD
      refine ⟨D, acc, rfl, SqL.of h2, fun ms c pm so nc => ?_⟩
      have ecp : c ≠ p := pool_ne hpo nc
      have hsub : ∀ x ∈ ms, x ∈ ns := fun x hx => hpm.subset (List.mem_append_left _ (pm.subset hx))
      have hnd : (acc ++ lf).Nodup := hpm.nodup_iff.mpr nd
      exact q c _ ms (hk.free ecp nc) (hk.trans (Kept.same (same_upd nc))) (hpo.upd ecp.symm) upd_same (pm.nodup_iff.mpr (List.nodup_append.mp hnd).1) hsub (by rw [pm.length_eq, hlen]) so
end
end Su
/-! ### K1: kinds of shelves, of such as are some; how many lays there are -/
namespace Su
open PySem PySem.Spec PyProof.Rows L2
abbrev wayVs : List V := [.str "last", .str "first", .str "tree"]
abbrev sizeVs : List V := [.int 1, .int 2, .int 4, .int 8]
structure GbK (K : PySem.W.Frag) (mg : Str → Option Value) : Prop where
  most : ∃ t, mg "MOST_SLOTS" = some (.int 8 t)
  ways : ∃ a, mg "WAYS" = some (.ref a) ∧ ∀ H, SqT K H a wayVs
  sizes : ∃ a, mg "TREE_SIZES" = some (.ref a) ∧ ∀ H, SqT K H a sizeVs
/-- there are shelves of this size and way -/
structure Kind (n : Int) (s : Str) : Prop where
  way : s = "last" ∨ s = "first" ∨ s = "tree"
  lo : 1 ≤ n
  hi : n ≤ 8
  tree : s = "tree" → n = 1 ∨ n = 2 ∨ n = 4 ∨ n = 8
def spWayS : Sp := fun vs H Q _ => ∃ (s : Str), vs = [.str s] ∧ (s = "last" ∨ s = "first" ∨ s = "tree") ∧ Q (.bl true) H
def spSizeS : Sp := fun vs H Q _ => ∃ (n : Int) (s : Str), vs = [.int n, .str s] ∧ Kind n s ∧ Q (.bl true) H
def spPart : Sp := fun vs H Q _ => ∃ (n : Int) (s : Str), vs = [.int n, .str s, .non, .non] ∧ Kind n s ∧ Q .non H
def spKind : Sp := fun vs H Q _ => ∃ (n : Int) (s : Str), vs = [.int n, .str s] ∧ Kind n s ∧ Q .non H
theorem sc_is_way : FnScope ["thing"] ["thing"] (defScope s_is_way) := ⟨rfl, rfl, rfl, by decide +kernel, rfl, by decide +kernel, by decide +kernel⟩
theorem sc_is_size : FnScope ["thing", "way"] ["thing", "way"] (defScope s_is_size) := ⟨rfl, rfl, rfl, by decide +kernel, rfl, by decide +kernel, by decide +kernel⟩
theorem sc_wrong_part : FnScope ["size", "way", "slots", "bits"] ["size", "way", "slots", "bits"] (defScope s_wrong_part) := ⟨rfl, rfl, rfl, by decide +kernel, rfl, by decide +kernel, by decide +kernel⟩
theorem sc_look_at_kind : FnScope ["size", "way", "part"] ["size", "way"] (defScope s_look_at_kind) := ⟨rfl, rfl, rfl, by decide +kernel, rfl, by decide +kernel, by decide +kernel⟩
section
variable {P : Program} {w : World} {K : PySem.W.Frag} {mg : Str → Option Value} {base : Heap}
theorem ok_way (T : At K mg "is_way" s_is_way ["thing"]) (B : Bt mg) (D : GbK K mg) : Cal P w K mg base 1 "is_way" ["thing"] spWayS := by
  obtain ⟨aWays, mWays, hW⟩ := D.ways
  refine cal_of T sc_is_way (fun vs H Q E h => ?_) (fun f cdv A outer s H vs Q E hr h => ?_)
  · obtain ⟨s, rfl, _⟩ := h
    rfl
  · obtain ⟨s, rfl, hs, q⟩ := h
    refine ⟨_, (pss_one (ps_ret (pe_and (pe_callB call_isi (by rfl) B.isinstance (by decide +kernel) (pa_cons (pv 0) (pa_cons (pe_bltn (v := .ty "str") (u := .type "str") (by rfl) B.str (by decide +kernel) rfl) pa_nil))) (pe_one (pe_cmpR op_in_seq (pv 0) (pe_glob (v := .ref aWays) rfl mWays rfl) (by rfl)))))), ?_⟩
    refine ⟨_, rfl, .str s, .ty "str", .type "str", .type "str", true, rfl, .ty "str", .base (.str s), kit_ty (by decide +kernel), _, rfl, iteT ?_⟩
    refine ⟨_, rfl, aWays, wayVs, rfl, .inr (hW H), rfl, rfl, ?_⟩
    rcases hs with rfl | rfl | rfl
    · exact q
    · exact q
    · exact q
theorem ok_size (T : At K mg "is_size" s_is_size ["thing", "way"]) (D : GbK K mg) (c_is_whole : Cal P w K mg base 1 "is_whole" ["thing"] spWholeI) : Cal P w K mg base 2 "is_size" ["thing", "way"] spSizeS := by
  obtain ⟨tm, mMost⟩ := D.most
  obtain ⟨aSizes, mSizes, hZ⟩ := D.sizes
  refine cal_of T sc_is_size (fun vs H Q E h => ?_) (fun f cdv A outer s H vs Q E hr h => ?_)
  · obtain ⟨n, s, rfl, _⟩ := h
    rfl
  · obtain ⟨n, s, rfl, ⟨hs, n1, n8, ht⟩, q⟩ := h
    refine ⟨_, (pss_cons (ps_if (PW.pt (pw_or (pt_not (pt_val (pe_own c_is_whole hr (by decide) (by rfl) (pa_cons (pv 0) pa_nil)))) (pw_or1 (pt_not (pt_chain op_le op_le pe_int (pv 0) (pe_glob (v := .int 8) rfl mMost ⟨_, rfl⟩)))))) (pss_one (ps_ret pe_bl)) pss_nil)
      (pss_one (ps_ret (pe_or (pe_cmpR op_ne (pv 1) pe_str (nomark _)) (pe_one (pe_cmpR op_in_seq (pv 0) (pe_glob (v := .ref aSizes) rfl mSizes rfl) (by rfl))))))), ?_⟩
    refine ⟨_, rfl, n, rfl, _, rfl, iteF ?_⟩
    refine ⟨_, rfl, _, _, rfl, rfl, _, rfl, iteB (fun _ => ?_) (fun z => absurd (of_decide_eq_false z) (by omega))⟩
    refine ⟨_, _, rfl, rfl, _, rfl, ?_⟩
    rw [show decide (n ≤ 8) = true from decide_eq_true n8]
    refine iteF ?_
    rcases hs with rfl | rfl | rfl
    · exact ⟨_, rfl, rfl, _, rfl, iteB (fun _ => q) (fun z => absurd z (by decide +kernel))⟩
    · exact ⟨_, rfl, rfl, _, rfl, iteB (fun _ => q) (fun z => absurd z (by decide +kernel))⟩
    · refine ⟨_, rfl, rfl, _, rfl, iteB (fun z => absurd z (by decide +kernel)) (fun _ => ?_)⟩
      refine ⟨_, rfl, aSizes, sizeVs, rfl, .inr (hZ H), rfl, rfl, ?_⟩
      rcases ht rfl with rfl | rfl | rfl | rfl
      · exact q
      · exact q
      · exact q
      · exact q
theorem ok_part (T : At K mg "wrong_part" s_wrong_part ["size", "way", "slots", "bits"]) (c_is_way : Cal P w K mg base 1 "is_way" ["thing"] spWayS) (c_is_size : Cal P w K mg base 2 "is_size" ["thing", "way"] spSizeS) :
    Cal P w K mg base 3 "wrong_part" ["size", "way", "slots", "bits"] spPart := by
  refine cal_of T sc_wrong_part (fun vs H Q E h => ?_) (fun f cdv A outer s H vs Q E hr h => ?_)
  · obtain ⟨n, s, rfl, _⟩ := h
    rfl
  · obtain ⟨n, s, rfl, k, q⟩ := h
    have c_are_slots : True := trivial
    refine ⟨_, pss_cons (ps_if (pt_not (pt_val (pe_own c_is_way hr (by decide) (by rfl) (pa_cons (pv 1) pa_nil)))) (pss_one (ps_ret pe_str)) pss_nil) (pss_cons (ps_if (pt_not (pt_val (pe_own c_is_size hr (by decide) (by rfl) (pa_cons (pv 0) (pa_cons (pv 1) pa_nil))))) (pss_one (ps_ret pe_str)) pss_nil)
      (pss_cons (ps_if (PW.pt (pw_and (pt_cmpR op_notN (pv 2) pe_non (nomark _)) (pw_and1 pt_never))) (pss_one (ps_ret pe_str)) pss_nil) (pss_cons (ps_if (PW.pt (pw_and (pt_cmpR op_notN (pv 3) pe_non (nomark _)) (pw_and1 pt_never))) (pss_one (ps_ret pe_str)) pss_nil) (pss_one (ps_ret pe_non))))), ?_⟩
    refine ⟨_, rfl, s, rfl, k.way, _, rfl, iteF ?_⟩
    refine ⟨_, rfl, _, rfl, n, s, rfl, k, _, rfl, iteF ?_⟩
    refine ⟨_, rfl, rfl, _, rfl, iteF (iteF ?_)⟩
    refine ⟨_, rfl, rfl, _, rfl, iteF (iteF ?_)⟩
    exact q
theorem ok_kind (T : At K mg "look_at_kind" s_look_at_kind ["size", "way"]) (c_wrong_part : Cal P w K mg base 3 "wrong_part" ["size", "way", "slots", "bits"] spPart) : Cal P w K mg base 4 "look_at_kind" ["size", "way"] spKind := by
  refine cal_of T sc_look_at_kind (fun vs H Q E h => ?_) (fun f cdv A outer s H vs Q E hr h => ?_)
  · obtain ⟨n, s, rfl, _⟩ := h
    rfl
  · obtain ⟨n, s, rfl, k, q⟩ := h
    refine ⟨_, (pss_cons (ps_set (i := 2) sc_look_at_kind.nd rfl (Or.inl rfl) (pe_own c_wrong_part hr (by decide) (by rfl) (pa_cons (pv 0) (pa_cons (pv 1) (pa_cons pe_non (pa_cons pe_non pa_nil))))))
      (pss_one (ps_if (pt_cmpR op_notN (pv 2) pe_non (nomark _)) (pss_one ps_never) pss_nil))), ?_⟩
    refine ⟨_, rfl, _, rfl, n, s, rfl, k, ?_⟩
    exact ⟨_, rfl, rfl, _, rfl, iteF q⟩
end
end Su
/-! ### AG: ages, their order, and the least table of them -/
namespace Su
open PySem PySem.Spec PyProof.Rows L2
/-- ages from above and below -/
abbrev Pr := List Int × List Int
def LeL : List Int → List Int → Prop
  | [], [] => True
  | x :: a, y :: b => x ≤ y ∧ LeL a b
  | _, _ => False
theorem LeL.refl : ∀ a : List Int, LeL a a
  | [] => True.intro
  | _ :: a => ⟨Int.le_refl _, LeL.refl a⟩
theorem LeL.trans : ∀ {a b c : List Int}, LeL a b → LeL b c → LeL a c
  | [], [], [], _, _ => True.intro
  | _ :: _, _ :: _, _ :: _, h, k => ⟨Int.le_trans h.1 k.1, LeL.trans h.2 k.2⟩
  | [], _ :: _, _, h, _ => h.elim
  | _ :: _, [], _, h, _ => h.elim
  | [], [], _ :: _, _, k => k.elim
  | _ :: _, _ :: _, [], _, k => k.elim
theorem LeL.anti : ∀ {a b : List Int}, LeL a b → LeL b a → a = b
  | [], [], _, _ => rfl
  | _ :: _, _ :: _, h, k => by rw [Int.le_antisymm h.1 k.1, LeL.anti h.2 k.2]
  | [], _ :: _, h, _ => h.elim
  | _ :: _, [], h, _ => h.elim
theorem LeL.len : ∀ {a b : List Int}, LeL a b → a.length = b.length
  | [], [], _ => rfl
  | _ :: _, _ :: _, h => by rw [List.length_cons, List.length_cons, LeL.len h.2]
  | [], _ :: _, h => h.elim
  | _ :: _, [], h => h.elim
theorem LeL.at : ∀ {a b : List Int}, LeL a b → ∀ k : Nat, a.getD k 0 ≤ b.getD k 0
  | [], [], _, k => by simp
  | x :: a, y :: b, h, 0 => h.1
  | x :: a, y :: b, h, k + 1 => by simpa using LeL.at h.2 k
  | [], _ :: _, h, _ => h.elim
  | _ :: _, [], h, _ => h.elim
theorem LeL.set : ∀ {a b : List Int}, LeL a b → ∀ k : Nat, LeL (a.set k 0) (b.set k 0)
  | [], [], _, _ => True.intro
  | x :: a, y :: b, h, 0 => ⟨Int.le_refl _, h.2⟩
  | x :: a, y :: b, h, k + 1 => ⟨h.1, LeL.set h.2 k⟩
  | [], _ :: _, h, _ => h.elim
  | _ :: _, [], h, _ => h.elim
theorem LeL.upA {u v : Int} (uv : u ≤ v) : ∀ {a b : List Int}, LeL a b → LeL (a.map fun x => if x < u then x + 1 else x) (b.map fun x => if x < v then x + 1 else x)
  | [], [], _ => True.intro
  | x :: a, y :: b, h => by
    refine ⟨?_, LeL.upA uv h.2⟩
    have := h.1
    show (if x < u then x + 1 else x) ≤ (if y < v then y + 1 else y)
    split <;> split <;> omega
  | [], _ :: _, h => h.elim
  | _ :: _, [], h => h.elim
theorem LeL.upB {s u v : Int} (uv : u ≤ v) : ∀ {a b : List Int}, LeL a b → (∀ y ∈ b, y ≤ s) → LeL (a.map fun x => if x ≤ u then min s (x + 1) else x) (b.map fun x => if x ≤ v then min s (x + 1) else x)
  | [], [], _, _ => True.intro
  | x :: a, y :: b, h, l => by
    refine ⟨?_, LeL.upB uv h.2 fun z hz => l z (List.mem_cons_of_mem _ hz)⟩
    have := h.1
    have := l y List.mem_cons_self
    show (if x ≤ u then min s (x + 1) else x) ≤ (if y ≤ v then min s (y + 1) else y)
    split <;> split <;> omega
  | [], _ :: _, h, _ => h.elim
  | _ :: _, [], h, _ => h.elim
theorem LeL.maxl : ∀ {a c : List Int}, a.length = c.length → LeL a (List.zipWith max a c)
  | [], [], _ => True.intro
  | x :: a, y :: c, h => ⟨by omega, LeL.maxl (by simpa using h)⟩
  | [], _ :: _, h => by cases h
  | _ :: _, [], h => by cases h
theorem LeL.maxr : ∀ {a c : List Int}, a.length = c.length → LeL c (List.zipWith max a c)
  | [], [], _ => True.intro
  | x :: a, y :: c, h => ⟨by omega, LeL.maxr (by simpa using h)⟩
  | [], _ :: _, h => by cases h
  | _ :: _, [], h => by cases h
theorem LeL.lub : ∀ {a c d : List Int}, LeL a d → LeL c d → LeL (List.zipWith max a c) d
  | [], [], [], _, _ => True.intro
  | x :: a, y :: c, z :: d, h, k => ⟨by have := h.1; have := k.1; omega, LeL.lub h.2 k.2⟩
  | [], _, _ :: _, h, _ => h.elim
  | _ :: _, _, [], h, _ => h.elim
  | _, _ :: _, [], _, k => k.elim
  | _, [], _ :: _, _, k => k.elim
theorem LeL.minl : ∀ {a c : List Int}, a.length = c.length → LeL (List.zipWith min a c) a
  | [], [], _ => True.intro
  | x :: a, y :: c, h => ⟨by omega, LeL.minl (by simpa using h)⟩
  | [], _ :: _, h => by cases h
  | _ :: _, [], h => by cases h
theorem LeL.minr : ∀ {a c : List Int}, a.length = c.length → LeL (List.zipWith min a c) c
  | [], [], _ => True.intro
  | x :: a, y :: c, h => ⟨by omega, LeL.minr (by simpa using h)⟩
  | [], _ :: _, h => by cases h
  | _ :: _, [], h => by cases h
theorem LeL.glb : ∀ {a c d : List Int}, LeL d a → LeL d c → LeL d (List.zipWith min a c)
  | [], [], [], _, _ => True.intro
  | x :: a, y :: c, z :: d, h, k => ⟨by have := h.1; have := k.1; omega, LeL.glb h.2 k.2⟩
  | [], _, _ :: _, h, _ => h.elim
  | _ :: _, _, [], h, _ => h.elim
  | _, _ :: _, [], _, k => k.elim
  | _, [], _ :: _, _, k => k.elim
/-- of so many rooms, each from 0 to the size -/
structure POk (n : Nat) (s : Int) (p : Pr) : Prop where
  la : p.1.length = n
  lb : p.2.length = n
  a : ∀ x ∈ p.1, 0 ≤ x ∧ x ≤ s
  b : ∀ x ∈ p.2, 0 ≤ x ∧ x ≤ s
def PLe (p q : Pr) : Prop := LeL p.1 q.1 ∧ LeL q.2 p.2
theorem PLe.refl (p : Pr) : PLe p p := ⟨LeL.refl _, LeL.refl _⟩
theorem PLe.trans {p q r : Pr} (h : PLe p q) (k : PLe q r) : PLe p r := ⟨h.1.trans k.1, k.2.trans h.2⟩
theorem PLe.anti {p q : Pr} (h : PLe p q) (k : PLe q p) : p = q := Prod.ext (h.1.anti k.1) (k.2.anti h.2)
def ageA (a : List Int) (k : Nat) : List Int := (a.map fun x => if x < a.getD k 0 then x + 1 else x).set k 0
def ageB (s : Int) (b : List Int) (k : Nat) : List Int := (b.map fun x => if x ≤ b.getD k 0 then min s (x + 1) else x).set k 0
def askP (s : Int) (p : Pr) (k : Nat) : Pr := (ageA p.1 k, ageB s p.2 k)
def joinP (p q : Pr) : Pr := (List.zipWith max p.1 q.1, List.zipWith min p.2 q.2)
def rowP (s : Int) (p : Pr) : List Nat → Pr
  | [] => p
  | k :: ks => ks.foldl (fun c j => joinP c (askP s p j)) (askP s p k)
theorem getD_mem_or (a : List Int) (k : Nat) : a.getD k 0 ∈ a ∨ a.getD k 0 = 0 := by
  by_cases h : k < a.length
  · exact .inl (by rw [List.getD_eq_getElem?_getD, List.getElem?_eq_getElem h]; exact List.getElem_mem h)
  · exact .inr (by rw [List.getD_eq_getElem?_getD, List.getElem?_eq_none (by omega)]; rfl)
theorem askP_ok {n : Nat} {s : Int} {p : Pr} (hs : 0 ≤ s) (h : POk n s p) (k : Nat) : POk n s (askP s p k) := by
  refine ⟨by simp [askP, ageA, h.la], by simp [askP, ageB, h.lb], fun x hx => ?_, fun x hx => ?_⟩
  · rcases List.mem_or_eq_of_mem_set hx with hx | rfl
    · obtain ⟨y, hy, rfl⟩ := List.mem_map.mp hx
      have b1 := h.a y hy
      have b2 : p.1.getD k 0 ≤ s := by
        rcases getD_mem_or p.1 k with z | z
        · exact (h.a _ z).2
        · omega
      show 0 ≤ (if y < p.1.getD k 0 then y + 1 else y) ∧ (if y < p.1.getD k 0 then y + 1 else y) ≤ s
      split <;> omega
    · omega
  · rcases List.mem_or_eq_of_mem_set hx with hx | rfl
    · obtain ⟨y, hy, rfl⟩ := List.mem_map.mp hx
      have b1 := h.b y hy
      show 0 ≤ (if y ≤ p.2.getD k 0 then min s (y + 1) else y) ∧ (if y ≤ p.2.getD k 0 then min s (y + 1) else y) ≤ s
      split <;> omega
    · omega
theorem zip_mem {f : Int → Int → Int} {P : Int → Prop} (hf : ∀ x y, P x → P y → P (f x y)) : ∀ {a c : List Int}, (∀ x ∈ a, P x) → (∀ x ∈ c, P x) → ∀ x ∈ List.zipWith f a c, P x
  | [], _, _, _, x, hx => by simp at hx
  | _ :: _, [], _, _, x, hx => by simp at hx
  | y :: a, z :: c, ha, hc, x, hx => by
    rw [List.zipWith_cons_cons] at hx
    rcases List.mem_cons.mp hx with rfl | hx
    · exact hf _ _ (ha _ List.mem_cons_self) (hc _ List.mem_cons_self)
    · exact zip_mem hf (fun x h => ha x (List.mem_cons_of_mem _ h)) (fun x h => hc x (List.mem_cons_of_mem _ h)) x hx
theorem joinP_ok {n : Nat} {s : Int} {p q : Pr} (h : POk n s p) (k : POk n s q) : POk n s (joinP p q) := by
  refine ⟨by simp [joinP, h.la, k.la], by simp [joinP, h.lb, k.lb], zip_mem (fun x y a b => by omega) h.a k.a, zip_mem (fun x y a b => by omega) h.b k.b⟩
theorem joinP_l {n : Nat} {s : Int} {p q : Pr} (h : POk n s p) (k : POk n s q) : PLe p (joinP p q) := ⟨LeL.maxl (by rw [h.la, k.la]), LeL.minl (by rw [h.lb, k.lb])⟩
theorem joinP_r {n : Nat} {s : Int} {p q : Pr} (h : POk n s p) (k : POk n s q) : PLe q (joinP p q) := ⟨LeL.maxr (by rw [h.la, k.la]), LeL.minr (by rw [h.lb, k.lb])⟩
theorem joinP_lub {p q r : Pr} (h : PLe p r) (k : PLe q r) : PLe (joinP p q) r := ⟨LeL.lub h.1 k.1, LeL.glb h.2 k.2⟩
theorem askP_mono {n : Nat} {s : Int} {p q : Pr} (hp : POk n s p) (h : PLe p q) (k : Nat) : PLe (askP s p k) (askP s q k) :=
  ⟨(LeL.upA (h.1.at k) h.1).set k, (LeL.upB (h.2.at k) h.2 fun y hy => (hp.b y hy).2).set k⟩
theorem foldP_ok {n : Nat} {s : Int} {p : Pr} (hs : 0 ≤ s) (hp : POk n s p) : ∀ (ks : List Nat) (c : Pr), POk n s c → POk n s (ks.foldl (fun c j => joinP c (askP s p j)) c)
  | [], _, hc => hc
  | k :: ks, c, hc => foldP_ok hs hp ks _ (joinP_ok hc (askP_ok hs hp k))
theorem rowP_ok {n : Nat} {s : Int} {p : Pr} (hs : 0 ≤ s) (hp : POk n s p) : ∀ ks : List Nat, POk n s (rowP s p ks)
  | [] => hp
  | k :: ks => foldP_ok hs hp ks _ (askP_ok hs hp k)
theorem joinP_mono {p q p' q' : Pr} {n : Nat} {s : Int} (h : PLe p p') (k : PLe q q') (a : POk n s p') (b : POk n s q') : PLe (joinP p q) (joinP p' q') :=
  joinP_lub (h.trans (joinP_l a b)) (k.trans (joinP_r a b))
theorem foldP_mono {n : Nat} {s : Int} {p q : Pr} (hs : 0 ≤ s) (hp : POk n s p) (hq : POk n s q) (h : PLe p q) : ∀ (ks : List Nat) (c d : Pr), POk n s c → POk n s d → PLe c d → PLe (ks.foldl (fun c j => joinP c (askP s p j)) c) (ks.foldl (fun c j => joinP c (askP s q j)) d)
  | [], _, _, _, _, l => l
  | k :: ks, c, d, hc, hd, l => foldP_mono hs hp hq h ks _ _ (joinP_ok hc (askP_ok hs hp k)) (joinP_ok hd (askP_ok hs hq k)) (joinP_mono l (askP_mono hp h k) hd (askP_ok hs hq k))
theorem rowP_mono {n : Nat} {s : Int} {p q : Pr} (hs : 0 ≤ s) (hp : POk n s p) (hq : POk n s q) (h : PLe p q) : ∀ ks : List Nat, PLe (rowP s p ks) (rowP s q ks)
  | [] => h
  | k :: ks => foldP_mono hs hp hq h ks _ _ (askP_ok hs hp k) (askP_ok hs hq k) (askP_mono hp h k)
/-! what is left to rise -/
def potA (s : Int) (a : List Int) : Nat := (a.map fun x => (s - x).toNat).sum
def potB (b : List Int) : Nat := (b.map Int.toNat).sum
def potP (s : Int) (p : Pr) : Nat := potA s p.1 + potB p.2
theorem potA_max {s : Int} : ∀ {a c : List Int}, a.length = c.length → (∀ x ∈ c, x ≤ s) → potA s (List.zipWith max a c) ≤ potA s a ∧ (potA s (List.zipWith max a c) = potA s a → List.zipWith max a c = a)
  | [], [], _, _ => ⟨Nat.le_refl _, fun _ => rfl⟩
  | x :: a, y :: c, h, l => by
    have ih := potA_max (a := a) (c := c) (by simpa using h) fun z hz => l z (List.mem_cons_of_mem _ hz)
    have := l y List.mem_cons_self
    have e1 : potA s (List.zipWith max (x :: a) (y :: c)) = (s - max x y).toNat + potA s (List.zipWith max a c) := rfl
    have e2 : potA s (x :: a) = (s - x).toNat + potA s a := rfl
    rw [e1, e2]
    refine ⟨by omega, fun z => ?_⟩
    rw [List.zipWith_cons_cons, ih.2 (by omega)]
    congr 1
    omega
  | [], _ :: _, h, _ => by cases h
  | _ :: _, [], h, _ => by cases h
theorem potB_min : ∀ {a c : List Int}, a.length = c.length → (∀ x ∈ c, 0 ≤ x) → potB (List.zipWith min a c) ≤ potB a ∧ (potB (List.zipWith min a c) = potB a → (∀ x ∈ a, 0 ≤ x) → List.zipWith min a c = a)
  | [], [], _, _ => ⟨Nat.le_refl _, fun _ _ => rfl⟩
  | x :: a, y :: c, h, l => by
    have ih := potB_min (a := a) (c := c) (by simpa using h) fun z hz => l z (List.mem_cons_of_mem _ hz)
    have := l y List.mem_cons_self
    have e1 : potB (List.zipWith min (x :: a) (y :: c)) = (min x y).toNat + potB (List.zipWith min a c) := rfl
    have e2 : potB (x :: a) = x.toNat + potB a := rfl
    rw [e1, e2]
    refine ⟨by omega, fun z l2 => ?_⟩
    have := l2 x List.mem_cons_self
    rw [List.zipWith_cons_cons, ih.2 (by omega) fun z hz => l2 z (List.mem_cons_of_mem _ hz)]
    congr 1
    omega
  | [], _ :: _, h, _ => by cases h
  | _ :: _, [], h, _ => by cases h
theorem pot_join {n : Nat} {s : Int} {p c : Pr} (hp : POk n s p) (hc : POk n s c) (ne : joinP p c ≠ p) : potP s (joinP p c) < potP s p := by
  have a := potA_max (s := s) (a := p.1) (c := c.1) (by rw [hp.la, hc.la]) fun x hx => (hc.a x hx).2
  have b := potB_min (a := p.2) (c := c.2) (by rw [hp.lb, hc.lb]) fun x hx => (hc.b x hx).1
  have e : potP s (joinP p c) = potA s (List.zipWith max p.1 c.1) + potB (List.zipWith min p.2 c.2) := rfl
  have e2 : potP s p = potA s p.1 + potB p.2 := rfl
  rw [e, e2]
  by_cases h1 : potA s (List.zipWith max p.1 c.1) = potA s p.1
  · by_cases h2 : potB (List.zipWith min p.2 c.2) = potB p.2
    · exact absurd (Prod.ext (a.2 h1) (b.2 h2 fun x hx => (hp.b x hx).1)) ne
    · omega
  · omega
theorem sum_bd {s : Int} {f : Int → Nat} : ∀ {a : List Int}, (∀ x ∈ a, f x ≤ s.toNat) → (a.map f).sum ≤ a.length * s.toNat
  | [], _ => by simp
  | x :: a, h => by
    have ih := sum_bd (a := a) fun y hy => h y (List.mem_cons_of_mem _ hy)
    have := h x List.mem_cons_self
    rw [List.map_cons, List.sum_cons, List.length_cons, Nat.add_mul]
    omega
theorem pot_bd {n : Nat} {s : Int} {p : Pr} (hp : POk n s p) : potP s p ≤ 2 * (n * s.toNat) := by
  have a := sum_bd (s := s) (f := fun x => (s - x).toNat) (a := p.1) fun x hx => by have := hp.a x hx; omega
  have b := sum_bd (s := s) (f := Int.toNat) (a := p.2) fun x hx => by have := hp.b x hx; omega
  rw [hp.la] at a
  rw [hp.lb] at b
  unfold potP potA potB
  omega
/-! tables -/
abbrev Tb := List (Option Pr)
def pot1 (n : Nat) (s : Int) : Option Pr → Nat
  | none => 2 * (n * s.toNat) + 1
  | some p => potP s p
def pot (n : Nat) (s : Int) (X : Tb) : Nat := (X.map (pot1 n s)).sum
def riseO (o : Option Pr) (c : Pr) : Pr := match o with
  | none => c
  | some p => joinP p c
theorem sum_set {α : Type} (f : α → Nat) : ∀ (X : List α) (i : Nat) (x y : α), X[i]? = some x → f y < f x → ((X.set i y).map f).sum + 1 ≤ (X.map f).sum
  | [], i, x, y, h, _ => by simp at h
  | z :: X, 0, x, y, h, l => by
    have e : z = x := by simpa using h
    subst e
    simp only [List.set_cons_zero, List.map_cons, List.sum_cons]
    omega
  | z :: X, i + 1, x, y, h, l => by
    have ih := sum_set f X i x y (by simpa using h) l
    simp only [List.set_cons_succ, List.map_cons, List.sum_cons]
    omega
theorem pot_set {n : Nat} {s : Int} {X : Tb} {i : Nat} {o : Option Pr} {c : Pr} (h : X[i]? = some o) (ho : ∀ p, o = some p → POk n s p) (hc : POk n s c) (ne : some (riseO o c) ≠ o) : pot n s (X.set i (some (riseO o c))) + 1 ≤ pot n s X := by
  refine sum_set _ X i o _ h ?_
  cases o with
  | none => exact Nat.lt_succ_of_le (pot_bd hc)
  | some p => exact pot_join (ho p rfl) hc fun z => ne (by rw [show riseO (some p) c = joinP p c from rfl, z])
/-- the rooms' places -/
def plcs (rooms : List Int) (r : Rw) : List Nat := r.1.map fun x => rooms.idxOf x
def comeP (rooms : List Int) (s : Int) (r : Rw) (p : Pr) : Pr := rowP s p (plcs rooms r)
def firstP (n : Nat) (s : Int) : Pr := (List.replicate n s, List.replicate n 0)
theorem firstP_ok {n : Nat} {s : Int} (hs : 0 ≤ s) : POk n s (firstP n s) := by
  refine ⟨List.length_replicate, List.length_replicate, fun x hx => ?_, fun x hx => ?_⟩
  · rw [List.eq_of_mem_replicate hx]
    omega
  · rw [List.eq_of_mem_replicate hx]
    omega
/-- a table for the web -/
structure TOk (n : Nat) (s : Int) (rs : List Rw) (X : Tb) : Prop where
  len : X.length = rs.length
  ok : ∀ (i : Nat) (p : Pr), X[i]? = some (some p) → POk n s p
def TLe (X Y : Tb) : Prop := ∀ (i : Nat) (p : Pr), X[i]? = some (some p) → ∃ q, Y[i]? = some (some q) ∧ PLe p q
theorem TLe.refl (X : Tb) : TLe X X := fun i p h => ⟨p, h, PLe.refl p⟩
theorem TLe.trans {X Y Z : Tb} (h : TLe X Y) (k : TLe Y Z) : TLe X Z := fun i p e => by
  obtain ⟨q, e2, l⟩ := h i p e
  obtain ⟨r, e3, l2⟩ := k i q e2
  exact ⟨r, e3, l.trans l2⟩
/-- what comes of a row is in the table -/
def Kpt (rooms : List Int) (s : Int) (X : Tb) (i : Nat) (r : Rw) : Prop := ∀ p, X[i]? = some (some p) → ∀ t ∈ r.2, ∃ q, X[t.toNat]? = some (some q) ∧ PLe (comeP rooms s r p) q
structure Clo (rooms : List Int) (s : Int) (rs : List Rw) (X : Tb) : Prop where
  tok : TOk rooms.length s rs X
  zero : ∃ q, X[0]? = some (some q) ∧ PLe (firstP rooms.length s) q
  keep : ∀ (i : Nat) (r : Rw), rs[i]? = some r → Kpt rooms s X i r
structure Least (rooms : List Int) (s : Int) (rs : List Rw) (X : Tb) : Prop where
  clo : Clo rooms s rs X
  le : ∀ Y, Clo rooms s rs Y → TLe X Y
theorem Least.one {rooms : List Int} {s : Int} {rs : List Rw} {X Y : Tb} (h : Least rooms s rs X) (k : Least rooms s rs Y) : X = Y := by
  have a := h.le Y k.clo
  have b := k.le X h.clo
  have lx := h.clo.tok.len
  have ly := k.clo.tok.len
  refine List.ext_getElem (by omega) fun i h1 h2 => ?_
  have e1 : X[i]? = some X[i] := List.getElem?_eq_getElem h1
  have e2 : Y[i]? = some Y[i] := List.getElem?_eq_getElem h2
  cases x : X[i] with
  | none =>
    cases y : Y[i] with
    | none => rfl
    | some q =>
      rw [y] at e2
      obtain ⟨p, e3, _⟩ := b i q e2
      rw [e1, x] at e3
      cases e3
  | some p =>
    rw [x] at e1
    obtain ⟨q, e3, l⟩ := a i p e1
    obtain ⟨p2, e4, l2⟩ := b i q e3
    rw [e1] at e4
    injection e4 with e4
    injection e4 with e4
    subst e4
    rw [e2] at e3
    injection e3 with e3
    rw [e3, l.anti l2]
/-- below all closed tables, above the begin -/
structure Low (rooms : List Int) (s : Int) (rs : List Rw) (X : Tb) : Prop where
  tok : TOk rooms.length s rs X
  zero : ∃ q, X[0]? = some (some q) ∧ PLe (firstP rooms.length s) q
  le : ∀ Y, Clo rooms s rs Y → TLe X Y
theorem Low.least {rooms : List Int} {s : Int} {rs : List Rw} {X : Tb} (h : Low rooms s rs X) (k : ∀ (i : Nat) (r : Rw), rs[i]? = some r → Kpt rooms s X i r) : Least rooms s rs X := ⟨⟨h.tok, h.zero, k⟩, h.le⟩
def start0 (rooms : List Int) (s : Int) (rs : List Rw) : Tb := (List.replicate rs.length none).set 0 (some (firstP rooms.length s))
theorem Low.start {rooms : List Int} {s : Int} {rs : List Rw} (hs : 0 ≤ s) (pos : 0 < rs.length) : Low rooms s rs (start0 rooms s rs) := by
  have at0 : (start0 rooms s rs)[0]? = some (some (firstP rooms.length s)) := by
    unfold start0
    rw [List.getElem?_set_self (by rw [List.length_replicate]; exact pos)]
  have only : ∀ (i : Nat) (p : Pr), (start0 rooms s rs)[i]? = some (some p) → i = 0 ∧ p = firstP rooms.length s := by
    intro i p e
    by_cases z : i = 0
    · subst z
      rw [at0] at e
      injection e with e
      injection e with e
      exact ⟨rfl, e.symm⟩
    · unfold start0 at e
      rw [List.getElem?_set_ne (fun x => z x.symm)] at e
      have := List.mem_of_getElem? e
      exact absurd (List.eq_of_mem_replicate this) (by simp)
  refine ⟨⟨by simp [start0], fun i p e => ?_⟩, ⟨_, at0, PLe.refl _⟩, fun Y hY i p e => ?_⟩
  · rw [(only i p e).2]
    exact firstP_ok hs
  · obtain ⟨rfl, rfl⟩ := only i p e
    exact hY.zero
theorem getElem?_set_some {α : Type} {X : List α} {i j : Nat} {x y : α} (h : (X.set i x)[j]? = some y) : (i = j ∧ y = x) ∨ (i ≠ j ∧ X[j]? = some y) := by
  by_cases e : i = j
  · subst e
    by_cases l : i < X.length
    · rw [List.getElem?_set_self l] at h
      injection h with h
      exact .inl ⟨rfl, h.symm⟩
    · rw [List.getElem?_eq_none (by rw [List.length_set]; omega)] at h
      cases h
  · rw [List.getElem?_set_ne e] at h
    exact .inr ⟨e, h⟩
/-- a row rises to what comes there -/
theorem Low.rise {rooms : List Int} {s : Int} {rs : List Rw} {X : Tb} (hs : 0 ≤ s) (h : Low rooms s rs X) {i t : Nat} {r : Rw} {p : Pr} {o : Option Pr} {c : Pr} (ho : X[t]? = some o) (hc : POk rooms.length s c) (le : ∀ Y, Clo rooms s rs Y → ∃ q, Y[t]? = some (some q) ∧ PLe c q) :
    Low rooms s rs (X.set t (some (riseO o c))) ∧ TLe X (X.set t (some (riseO o c))) ∧ ∃ q, (X.set t (some (riseO o c)))[t]? = some (some q) ∧ PLe c q := by
  have lt : t < X.length := (List.getElem?_eq_some_iff.mp ho).1
  have att : (X.set t (some (riseO o c)))[t]? = some (some (riseO o c)) := List.getElem?_set_self lt
  have okr : POk rooms.length s (riseO o c) := by
    cases o with
    | none => exact hc
    | some q => exact joinP_ok (h.tok.ok _ _ ho) hc
  have up : TLe X (X.set t (some (riseO o c))) := by
    intro j q e
    by_cases z : t = j
    · subst z
      rw [ho] at e
      injection e with e
      subst e
      exact ⟨_, att, joinP_l (h.tok.ok _ _ ho) hc⟩
    · exact ⟨q, by rw [List.getElem?_set_ne z]; exact e, PLe.refl q⟩
  have cle : PLe c (riseO o c) := by
    cases o with
    | none => exact PLe.refl c
    | some q => exact joinP_r (h.tok.ok _ _ ho) hc
  refine ⟨⟨⟨by rw [List.length_set]; exact h.tok.len, fun j q e => ?_⟩, ?_, fun Y hY j q e => ?_⟩, up, _, att, cle⟩
  · rcases getElem?_set_some e with ⟨_, e2⟩ | ⟨_, e2⟩
    · injection e2 with e2
      rw [e2]
      exact okr
    · exact h.tok.ok _ _ e2
  · obtain ⟨q, e, l⟩ := h.zero
    obtain ⟨q2, e2, l2⟩ := up 0 q e
    exact ⟨q2, e2, l.trans l2⟩
  · rcases getElem?_set_some e with ⟨rfl, e2⟩ | ⟨_, e2⟩
    · injection e2 with e2
      subst e2
      obtain ⟨q2, e3, l3⟩ := le Y hY
      cases o with
      | none => exact ⟨q2, e3, l3⟩
      | some p0 =>
        obtain ⟨q4, e4, l4⟩ := h.le Y hY t p0 ho
        rw [e3] at e4
        injection e4 with e4
        injection e4 with e4
        subst e4
        exact ⟨q2, e3, joinP_lub l4 l3⟩
    · exact h.le Y hY j q e2
/-- what comes of a row of such a table is in all closed ones -/
theorem Low.come {rooms : List Int} {s : Int} {rs : List Rw} {X : Tb} (hs : 0 ≤ s) (h : Low rooms s rs X) {i : Nat} {r : Rw} {p : Pr} (er : rs[i]? = some r) (ep : X[i]? = some (some p)) : POk rooms.length s (comeP rooms s r p) ∧ ∀ t ∈ r.2, ∀ Y, Clo rooms s rs Y → ∃ q, Y[t.toNat]? = some (some q) ∧ PLe (comeP rooms s r p) q := by
  have okp := h.tok.ok _ _ ep
  refine ⟨rowP_ok hs okp _, fun t ht Y hY => ?_⟩
  obtain ⟨y, ey, ly⟩ := h.le Y hY i p ep
  obtain ⟨q, eq, lq⟩ := hY.keep i r er y ey t ht
  exact ⟨q, eq, (rowP_mono hs okp (hY.tok.ok _ _ ey) ly _).trans lq⟩
/-- it stays where it is: then what comes is there already -/
theorem rise_same {n : Nat} {s : Int} {o : Option Pr} {c : Pr} (ho : ∀ p, o = some p → POk n s p) (hc : POk n s c) (e : some (riseO o c) = o) : ∃ q, o = some q ∧ PLe c q := by
  cases o with
  | none => cases e
  | some p =>
    injection e with e
    refine ⟨p, rfl, ?_⟩
    have := joinP_r (ho p rfl) hc
    rw [show joinP p c = p from e] at this
    exact this
end Su
/-! ### ZN: zip of two lists whose pairs are kept by a name -/
namespace Su
open PySem PySem.Spec PyProof.Rows L2
section
variable {f : Bool} {prog : Program} {w : World} {A : Around} {E : Value → Shared → Prop} {s : Shared} {z TI TO T i1 i2 a b : Addr} {i : Nat} {xs ys : Array Value} {x y c d : Value}
end
/-- a comprehension over zip of two lists of one length -/
theorem lc_zipLL {K : PySem.W.Frag} {a b : Addr} {xs ys : List V} {g : TG} {tt : TT} {te : TE} {vs : List Nat} {σ : L2.St} {H1 : Hp} {D : Addr} {Qd : Hp → Prop} (hl : ys.length = xs.length) (Pv : Nat → Hp → Prop) (h0 : Pv 0 (upd H1 D (.lst [])))
    (hq : ∀ i H, i ≤ xs.length → Pv i H → SqL K H a xs ∧ SqL K H b ys)
    (hs : ∀ (i : Nat) (x y : V) (T : Addr) (H : Hp), xs[i]? = some x → ys[i]? = some y → Pv i H → H T = none → g (.ref T) (wipe σ vs) (upd H T (.tup [x, y])) fun σ2 H2 => wipe σ2 vs = wipe σ vs ∧ tt σ2 H2 fun b H3 =>
      if b = true then te σ2 H3 fun y H4 => ∃ acc, H4 D = some (.lst acc) ∧ acc.length < sizeLine ∧ Pv (i + 1) (upd H4 D (.lst (acc ++ [y]))) else Pv (i + 1) H3) (hd : ∀ H, Pv xs.length H → Qd H) :
    ∃ W : Nat → Nat → Hp → Prop, (∃ m, W 0 m (upd H1 D (.lst []))) ∧ ∀ i m H, W i m H →
      ((Itz K a b).stop i H ∧ Qd H) ∨ ((Itz K a b).go i H ∧ ∃ Nx : Hp → Prop, (∀ H', Nx H' → ∃ m', m' < m ∧ W (i + 1) m' H') ∧ ∀ x H', (Itz K a b).yld i H x H' → g x (wipe σ vs) H' fun σ2 H2 => wipe σ2 vs = wipe σ vs ∧ tt σ2 H2 fun b H3 =>
        if b = true then te σ2 H3 fun y H4 => ∃ acc, H4 D = some (.lst acc) ∧ acc.length < sizeLine ∧ Nx (upd H4 D (.lst (acc ++ [y]))) else Nx H3) := by
  refine ⟨fun i m H => m = xs.length - i ∧ i ≤ xs.length ∧ Pv i H, ⟨xs.length, (Nat.sub_zero _).symm, Nat.zero_le _, h0⟩, ?_⟩
  rintro i m H ⟨rfl, hi, p⟩
  obtain ⟨qx, qy⟩ := hq i H hi p
  by_cases lt : i < xs.length
  · have ex : xs[i]? = some xs[i] := List.getElem?_eq_getElem lt
    have ey : ys[i]? = some ys[i] := List.getElem?_eq_getElem (by omega)
    refine .inr ⟨⟨xs, ys, _, _, qx, qy, ex, ey⟩, Pv (i + 1), fun H' p' => ⟨xs.length - (i + 1), by omega, rfl, lt, p'⟩, fun v H' y => ?_⟩
    obtain ⟨T, x', y', rfl, nT, rfl, f1, f2⟩ := y
    exact hs i x' y' T H (f1 xs qx) (f2 ys qy) p nT
  · have e : i = xs.length := by omega
    subst e
    exact .inl ⟨⟨xs, ys, qx, qy, .inl (Nat.le_refl _)⟩, hd H p⟩
end Su
/-! ### AP: ages behind asks and rows, the program's -/
namespace Su
open PySem PySem.Spec PyProof.Rows L2
/-- a pair of lists of ages -/
def PairAt (H : Hp) (v : V) (p : Pr) : Prop := ∃ t a b, v = .ref t ∧ T2 H t [.ref a, .ref b] ∧ H a = some (.lst (p.1.map V.int)) ∧ H b = some (.lst (p.2.map V.int))
theorem PairAt.same {H H' : Hp} {v : V} {p : Pr} (h : PairAt H v p) (s : Same H H') : PairAt H' v p := by
  obtain ⟨t, a, b, e, ht, ha, hb⟩ := h
  exact ⟨t, a, b, e, ht.same s, s _ _ ha, s _ _ hb⟩
/-- fresh lists -/
def PairN (H0 H : Hp) (v : V) (p : Pr) : Prop := ∃ t a b, v = .ref t ∧ PTup H t [.ref a, .ref b] ∧ H a = some (.lst (p.1.map V.int)) ∧ H b = some (.lst (p.2.map V.int)) ∧ H0 a = none ∧ H0 b = none ∧ a ≠ b
theorem PairN.at {H0 H : Hp} {v : V} {p : Pr} (h : PairN H0 H v p) : PairAt H v p := by
  obtain ⟨t, a, b, e, ht, ha, hb, _⟩ := h
  exact ⟨t, a, b, e, .inl ht, ha, hb⟩
def spFirst : Sp := fun vs H Q _ => ∃ (r : Addr) (ms : List Int) (s : Int), vs = [.ref r, .int s] ∧ H r = some (.lst (ms.map V.int)) ∧ ms.length ≤ 1000 ∧ ∀ v H', Same H H' → PairN H H' v (firstP ms.length s) → Q v H'
def spJoin : Sp := fun vs H Q _ => ∃ (x y : V) (p q : Pr) (n : Nat) (s : Int), vs = [x, y] ∧ PairAt H x p ∧ PairAt H y q ∧ POk n s p ∧ POk n s q ∧ n ≤ 1000 ∧ ∀ v H', Same H H' → PairN H H' v (joinP p q) → Q v H'
def spBAsk : Sp := fun vs H Q _ => ∃ (x : V) (p : Pr) (k : Nat) (n : Nat) (s : Int), vs = [x, .int (k : Nat), .int s] ∧ PairAt H x p ∧ POk n s p ∧ k < n ∧ n ≤ 1000 ∧ s ≤ 1000 ∧ ∀ v H', Same H H' → PairN H H' v (askP s p k) → Q v H'
theorem rep_flat {α : Type} (x : α) : ∀ k : Nat, (List.replicate k [x]).flatten = List.replicate k x
  | 0 => rfl
  | k + 1 => by rw [List.replicate_succ, List.flatten_cons, rep_flat x k]; rfl
theorem rep_ints (k : Nat) (s : Int) : (List.replicate k [V.int s]).flatten = (List.replicate k s).map V.int := by rw [rep_flat, List.map_replicate]
theorem take_map_snoc {α β : Type} (f : α → β) {l : List α} {i : Nat} {x : α} (h : l[i]? = some x) : (l.take (i + 1)).map f = (l.take i).map f ++ [f x] := by
  rw [List.take_add_one, h, List.map_append]
  rfl
theorem zip_take_snoc {f : Int → Int → Int} : ∀ {a b : List Int} {i : Nat} {x y : Int}, a[i]? = some x → b[i]? = some y → (List.zipWith f a b).take (i + 1) = (List.zipWith f a b).take i ++ [f x y] := by
  intro a b i x y hx hy
  rw [List.take_add_one, List.getElem?_zipWith, hx, hy]
  rfl
theorem map_get_int {l : List Int} {i : Nat} {v : V} (h : (l.map V.int)[i]? = some v) : ∃ x, l[i]? = some x ∧ v = .int x := by
  rw [List.getElem?_map] at h
  obtain ⟨x, hx, rfl⟩ := Option.map_eq_some_iff.mp h
  exact ⟨x, hx, rfl⟩
theorem ixN_of {n j : Nat} (h : j < n) : ixN n (j : Int) = some j := by
  unfold ixN
  rw [if_pos (by omega), if_pos (by omega), Int.toNat_natCast]
theorem getD_at {l : List Int} {k : Nat} (h : k < l.length) : l[k]? = some (l.getD k 0) := by
  rw [List.getD_eq_getElem?_getD, List.getElem?_eq_getElem h]
  rfl
theorem sz1000 {n : Nat} (h : n ≤ 1000) : n < sizeLine := by
  rw [sizeLine_eq]
  omega
theorem sc_first_ages : FnScope ["rooms", "size"] ["rooms", "size"] (defScope s_first_ages) := ⟨rfl, rfl, rfl, by decide +kernel, rfl, by decide +kernel, by decide +kernel⟩
theorem sc_joined_ages : FnScope ["one", "other", "age", "than"] ["one", "other"] (defScope s_joined_ages) := ⟨rfl, rfl, rfl, by decide +kernel, rfl, by decide +kernel, by decide +kernel⟩
theorem sc_behind_ask : FnScope ["pair", "place", "size", "aboves", "belows", "age"] ["pair", "place", "size"] (defScope s_behind_ask) := ⟨rfl, rfl, rfl, by decide +kernel, rfl, by decide +kernel, by decide +kernel⟩
section
variable {P : Program} {w : World} {K : PySem.W.Frag} {mg : Str → Option Value} {base : Heap}
theorem ok_first (T : At K mg "first_ages" s_first_ages ["rooms", "size"]) (B : Bt mg) : Cal P w K mg base 1 "first_ages" ["rooms", "size"] spFirst := by
  refine cal_of T sc_first_ages (fun vs H Q E h => ?_) (fun f cdv A outer s H vs Q E hr h => ?_)
  · obtain ⟨r, ms, s, rfl, _⟩ := h
    rfl
  · obtain ⟨r, ms, s, rfl, hm, few, q⟩ := h
    refine ⟨_, (pss_one (ps_ret (pe_tupF (pa_cons (pe_op op_rep (pe_lst (pa_cons (pv 1) pa_nil)) (pe_callB call_len_seq (by rfl) B.len PySem.boot_len (pa_cons (pv 0) pa_nil))) (pa_cons (pe_op op_rep (pe_lst (pa_cons pe_int pa_nil)) (pe_callB call_len_seq (by rfl) B.len PySem.boot_len (pa_cons (pv 0) pa_nil))) pa_nil))))), ?_⟩
    refine ⟨_, rfl, (by show 1 ≤ sizeLine; decide), fun p1 n1 => ?_⟩
    have h1 : (upd H p1 (.lst [V.int s])) r = some (.lst (ms.map V.int)) := same_upd n1 _ _ hm
    refine ⟨_, rfl, r, _, rfl, .inl (SqL.of h1), p1, _, _, rfl, rfl, upd_same, by omega, by rw [List.length_map]; omega, ?_, fun a na => ?_⟩
    · rw [List.length_map]
      show 1 * _ ≤ _
      have := sz1000 few
      omega
    rw [List.length_map, Int.toNat_natCast, rep_ints]
    have s1 : Same H (upd (upd H p1 (.lst [V.int s])) a (.lst ((List.replicate ms.length s).map V.int))) := (same_upd n1).trans (same_upd na)
    refine ⟨(by show 1 ≤ sizeLine; decide), fun p2 n2 => ?_⟩
    have s2 := s1.trans (same_upd (o := .lst [V.int 0]) n2)
    refine ⟨_, rfl, r, _, rfl, .inl (SqL.of (s2 _ _ hm)), p2, _, _, rfl, rfl, upd_same, by omega, by rw [List.length_map]; omega, ?_, fun b nb => ?_⟩
    · rw [List.length_map]
      show 1 * _ ≤ _
      have := sz1000 few
      omega
    rw [List.length_map, Int.toNat_natCast, rep_ints]
    have s3 := s2.trans (same_upd (o := .lst ((List.replicate ms.length 0).map V.int)) nb)
    refine ⟨by show 2 ≤ sizeLine; decide, fun v H' s4 _ pt => q _ H' (s3.trans s4) ⟨v, a, b, rfl, pt, s4 _ _ ?_, s4 _ _ upd_same, (same_upd n1).free na, s2.free nb, ?_⟩⟩
    · exact ((same_upd n2).trans (same_upd nb)) _ _ upd_same
    · exact ne_of_none (((same_upd n2)) _ _ upd_same) nb
theorem ok_joined (T : At K mg "joined_ages" s_joined_ages ["one", "other"]) (B : Bt mg) : Cal P w K mg base 1 "joined_ages" ["one", "other"] spJoin := by
  refine cal_of T sc_joined_ages (fun vs H Q E h => ?_) (fun f cdv A outer s H vs Q E hr h => ?_)
  · obtain ⟨x, y, p, q, n, s, rfl, _⟩ := h
    rfl
  · obtain ⟨x, y, p, q, n, s, rfl, hx, hy, op, oq, few, k⟩ := h
    refine ⟨_, (pss_one (ps_ret (pe_tupF (pa_cons (pe_lc (own := [("age", 2), ("than", 3)]) (g := (gTup K 2 (gCons (gName 2) (gCons (gName 3) gNil)))) (tt := tYes) (te := (tCB rMax2 (tCons (tVar 2) (tCons (tVar 3) tNil)))) (by rfl) sc_joined_ages.nd (RZ.pi_zipA (by rfl) B.zip (pa_cons (pe_ix ix_tup (pv 0) pe_int (fun _ _ => rfl)) (pa_cons (pe_ix ix_tup (pv 1) pe_int (fun _ _ => rfl)) pa_nil))) (blkOk_by (own := [("age", 2), ("than", 3)]) (N := ["one", "other", "age", "than"]) (sc := defScope s_joined_ages) (by decide +kernel)) (fun _ _ _ _ _ => (pg_tup (by rfl) (pgs_cons (pg_name (i := 2) sc_joined_ages.nd rfl (Or.inl rfl)) (pgs_cons (pg_name (i := 3) sc_joined_ages.nd rfl (Or.inl rfl)) pgs_nil)))) (fun _ _ _ _ _ => pts_nil) (fun _ _ _ _ _ => (pe_callB (call_max2 rfl) (by rfl) B.max (by decide +kernel) (pa_cons (pv 2) (pa_cons (pv 3) pa_nil))))) (pa_cons (pe_lc (own := [("age", 2), ("than", 3)]) (g := (gTup K 2 (gCons (gName 2) (gCons (gName 3) gNil)))) (tt := tYes) (te := (tCB rMin2 (tCons (tVar 2) (tCons (tVar 3) tNil)))) (by rfl) sc_joined_ages.nd (RZ.pi_zipA (by rfl) B.zip (pa_cons (pe_ix ix_tup (pv 0) pe_int (fun _ _ => rfl)) (pa_cons (pe_ix ix_tup (pv 1) pe_int (fun _ _ => rfl)) pa_nil))) (blkOk_by (own := [("age", 2), ("than", 3)]) (N := ["one", "other", "age", "than"]) (sc := defScope s_joined_ages) (by decide +kernel)) (fun _ _ _ _ _ => (pg_tup (by rfl) (pgs_cons (pg_name (i := 2) sc_joined_ages.nd rfl (Or.inl rfl)) (pgs_cons (pg_name (i := 3) sc_joined_ages.nd rfl (Or.inl rfl)) pgs_nil)))) (fun _ _ _ _ _ => pts_nil) (fun _ _ _ _ _ => (pe_callB (call_min2 rfl) (by rfl) B.min (by decide +kernel) (pa_cons (pv 2) (pa_cons (pv 3) pa_nil))))) pa_nil))))), ?_⟩
    obtain ⟨t1, a1, b1, rfl, ht1, ha1, hb1⟩ := hx
    obtain ⟨t2, a2, b2, rfl, ht2, ha2, hb2⟩ := hy
    refine ⟨_, rfl, t1, _, _, _, rfl, rfl, ht1.sq, atI_nat (j := 0) rfl, _, rfl, t2, _, _, _, rfl, rfl, ht2.sq, atI_nat (j := 0) rfl, a1, a2, _, _, rfl, .inl ⟨SqL.of ha1, SqL.of ha2, fun D nD => ?_⟩⟩
    refine lc_zipLL (K := K) (a := a1) (b := a2) (xs := p.1.map V.int) (ys := q.1.map V.int) (by rw [List.length_map, List.length_map, op.la, oq.la]) (fun i H2 => Same H H2 ∧ H2 D = some (.lst (((List.zipWith max p.1 q.1).take i).map V.int))) ?_ ?_ ?_ ?_
    · exact ⟨same_upd nD, upd_same⟩
    · rintro i H2 _ ⟨s2, _⟩
      exact ⟨SqL.of (s2 _ _ ha1), SqL.of (s2 _ _ ha2)⟩
    · rintro i vx vy T H2 hvx hvy ⟨s2, hD⟩ nT
      obtain ⟨i1, e1, rfl⟩ := map_get_int hvx
      obtain ⟨i2, e2, rfl⟩ := map_get_int hvy
      refine ⟨T, _, rfl, .inl (.inl upd_same), rfl, _, _, rfl, _, _, rfl, rfl, rfl, tyes ?_⟩
      refine ⟨_, rfl, _, rfl, _, _, rfl, _, (by rw [upd_ne (ne_of_none hD nT)]; exact hD), ?_, ?_⟩
      · rw [List.length_map]
        exact sz1000 (Nat.le_trans (List.length_take_le' _ _) (by rw [List.length_zipWith, op.la]; omega))
      · refine ⟨fun c o ec => ?_, ?_⟩
        · rw [upd_ne (ne_of_none ec nD)]
          exact (s2.trans (same_upd nT)) _ _ ec
        · rw [upd_same, zip_take_snoc e1 e2, List.map_append]
          have e : (if i2 > i1 then i2 else i1) = max i1 i2 := by split <;> omega
          rw [e]
          rfl
    · rintro H2 ⟨s2, hD⟩
      rw [List.length_map, List.take_of_length_le (by rw [List.length_zipWith]; omega)] at hD
      refine ⟨_, rfl, t1, _, _, _, rfl, rfl, (ht1.same s2).sq, atI_nat (j := 1) rfl, _, rfl, t2, _, _, _, rfl, rfl, (ht2.same s2).sq, atI_nat (j := 1) rfl, b1, b2, _, _, rfl, .inl ⟨SqL.of (s2 _ _ hb1), SqL.of (s2 _ _ hb2), fun D2 nD2 => ?_⟩⟩
      refine lc_zipLL (K := K) (a := b1) (b := b2) (xs := p.2.map V.int) (ys := q.2.map V.int) (by rw [List.length_map, List.length_map, op.lb, oq.lb]) (fun i H3 => Same H2 H3 ∧ H3 D2 = some (.lst (((List.zipWith min p.2 q.2).take i).map V.int))) ?_ ?_ ?_ ?_
      · exact ⟨same_upd nD2, upd_same⟩
      · rintro i H3 _ ⟨s3, _⟩
        exact ⟨SqL.of (s3 _ _ (s2 _ _ hb1)), SqL.of (s3 _ _ (s2 _ _ hb2))⟩
      · rintro i vx vy T H3 hvx hvy ⟨s3, hD3⟩ nT
        obtain ⟨i1, e1, rfl⟩ := map_get_int hvx
        obtain ⟨i2, e2, rfl⟩ := map_get_int hvy
        refine ⟨T, _, rfl, .inl (.inl upd_same), rfl, _, _, rfl, _, _, rfl, rfl, rfl, tyes ?_⟩
        refine ⟨_, rfl, _, rfl, _, _, rfl, _, (by rw [upd_ne (ne_of_none hD3 nT)]; exact hD3), ?_, ?_⟩
        · rw [List.length_map]
          exact sz1000 (Nat.le_trans (List.length_take_le' _ _) (by rw [List.length_zipWith, op.lb]; omega))
        · refine ⟨fun c o ec => ?_, ?_⟩
          · rw [upd_ne (ne_of_none ec nD2)]
            exact (s3.trans (same_upd nT)) _ _ ec
          · rw [upd_same, zip_take_snoc e1 e2, List.map_append]
            have e : (if i2 < i1 then i2 else i1) = min i1 i2 := by split <;> omega
            rw [e]
            rfl
      · rintro H3 ⟨s3, hD3⟩
        rw [List.length_map, List.take_of_length_le (by rw [List.length_zipWith]; omega)] at hD3
        refine ⟨by show 2 ≤ sizeLine; decide, fun v H' s4 _ pt => k _ H' ((s2.trans s3).trans s4) ⟨v, D, D2, rfl, pt, s4 _ _ (s3 _ _ hD), s4 _ _ hD3, nD, s2.free nD2, ne_of_none hD nD2⟩⟩
theorem ok_bask (T : At K mg "behind_ask" s_behind_ask ["pair", "place", "size"]) (B : Bt mg) : Cal P w K mg base 1 "behind_ask" ["pair", "place", "size"] spBAsk := by
  refine cal_of T sc_behind_ask (fun vs H Q E h => ?_) (fun f cdv A outer s H vs Q E hr h => ?_)
  · obtain ⟨x, p, k, n, s, rfl, _⟩ := h
    rfl
  · obtain ⟨x, p, k, n, s, rfl, hx, op, kn, few, s1, q⟩ := h
    refine ⟨_, (pss_cons (ps_setLc (i := 3) (own := [("age", 5)]) (g := (gName 5)) (tt := tYes) (te := (tIf (tTest (tOp (rI0 fun i j => .bl (decide (i < j))) (tVar 5) (tOp (rIxL K) (tOp (rIxT K) (tVar 0) (tC (.int 0))) (tVar 1)))) (tOp (rI0 fun i j => .int (i + j)) (tVar 5) (tC (.int 1))) (tVar 5))) (by rfl) sc_behind_ask.nd rfl rfl (sw_true rfl rfl rfl (by decide +kernel)) (pi_list (pe_ix ix_tup (pv 0) pe_int (fun _ _ => rfl))) (blkOk_by (own := [("age", 5)]) (N := ["pair", "place", "size", "aboves", "belows", "age"]) (sc := defScope s_behind_ask) (by decide +kernel)) (fun _ _ _ _ _ => (pg_name (i := 5) sc_behind_ask.nd rfl (Or.inl rfl))) (fun _ _ _ _ _ => pts_nil) (fun _ _ _ _ _ => (pe_ifExp (pt_cmpR op_lt (pv 5) (pe_ix ix_list (pe_ix ix_tup (pv 0) pe_int (fun _ _ => rfl)) (pv 1) (fun _ _ => rfl)) (nomark _)) (pe_op op_add (pv 5) pe_int) (pv 5))))
      (pss_cons (ps_setLc (i := 4) (own := [("age", 5)]) (g := (gName 5)) (tt := tYes) (te := (tIf (tTest (tOp (rI0 fun i j => .bl (decide (i ≤ j))) (tVar 5) (tOp (rIxL K) (tOp (rIxT K) (tVar 0) (tC (.int 1))) (tVar 1)))) (tCB rMin2 (tCons (tVar 2) (tCons (tOp (rI0 fun i j => .int (i + j)) (tVar 5) (tC (.int 1))) tNil))) (tVar 5))) (by rfl) sc_behind_ask.nd rfl rfl (sw_true rfl rfl rfl (by decide +kernel)) (pi_list (pe_ix ix_tup (pv 0) pe_int (fun _ _ => rfl))) (blkOk_by (own := [("age", 5)]) (N := ["pair", "place", "size", "aboves", "belows", "age"]) (sc := defScope s_behind_ask) (by decide +kernel)) (fun _ _ _ _ _ => (pg_name (i := 5) sc_behind_ask.nd rfl (Or.inl rfl))) (fun _ _ _ _ _ => pts_nil) (fun _ _ _ _ _ => (pe_ifExp (pt_cmpR op_le (pv 5) (pe_ix ix_list (pe_ix ix_tup (pv 0) pe_int (fun _ _ => rfl)) (pv 1) (fun _ _ => rfl)) (nomark _)) (pe_callB (call_min2 rfl) (by rfl) B.min (by decide +kernel) (pa_cons (pv 2) (pa_cons (pe_op op_add (pv 5) pe_int) pa_nil))) (pv 5))))
      (pss_cons (ps_asg pe_int (pg_sub (pv 3) (pv 1) set_list))
      (pss_cons (ps_asg pe_int (pg_sub (pv 4) (pv 1) set_list))
      (pss_one (ps_ret (pe_tupF (pa_cons (pv 3) (pa_cons (pv 4) pa_nil))))))))), ?_⟩
    obtain ⟨t1, a1, b1, rfl, ht1, ha1, hb1⟩ := hx
    have kl : k < p.1.length := by rw [op.la]; exact kn
    have kl2 : k < p.2.length := by rw [op.lb]; exact kn
    refine ⟨_, rfl, t1, _, _, _, rfl, rfl, ht1.sq, atI_nat (j := 0) rfl, a1, rfl, ⟨_, SqL.of ha1⟩, fun D nD => ?_⟩
    refine lc_list (K := K) (a := a1) (xs := p.1.map V.int) (fun i H2 => Same H H2 ∧ H2 D = some (.lst (((p.1.take i).map fun x => if x < p.1.getD k 0 then x + 1 else x).map V.int))) ?_ ?_ ?_ ?_
    · exact ⟨same_upd nD, upd_same⟩
    · rintro i H2 _ ⟨s2, _⟩
      exact SqL.of (s2 _ _ ha1)
    · rintro i v H2 hv ⟨s2, hD⟩
      obtain ⟨x, ex, rfl⟩ := map_get_int hv
      refine ⟨rfl, tyes ?_⟩
      refine ⟨_, rfl, _, rfl, t1, _, _, _, rfl, rfl, (ht1.same s2).sq, atI_nat (j := 0) rfl, _, rfl, a1, _, _, _, rfl, rfl, SqL.of (s2 _ _ ha1), atI_nat (j := k) (by rw [List.getElem?_map, getD_at kl]; rfl), _, _, rfl, rfl, _, rfl, ?_⟩
      have fin : ∀ y : Int, y = (if x < p.1.getD k 0 then x + 1 else x) → ∃ acc, H2 D = some (.lst acc) ∧ acc.length < sizeLine ∧ Same H (upd H2 D (.lst (acc ++ [V.int y]))) ∧ (upd H2 D (.lst (acc ++ [V.int y]))) D = some (.lst (((p.1.take (i + 1)).map fun x => if x < p.1.getD k 0 then x + 1 else x).map V.int)) := by
        rintro y rfl
        refine ⟨_, hD, ?_, fun c o ec => ?_, ?_⟩
        · rw [List.length_map, List.length_map]
          exact sz1000 (Nat.le_trans (List.length_take_le' _ _) (by rw [op.la]; exact few))
        · rw [upd_ne (ne_of_none ec nD)]
          exact s2 _ _ ec
        · rw [upd_same, take_map_snoc _ ex, List.map_append]
          rfl
      refine iteB (fun z => ?_) (fun z => ?_)
      · have z := of_decide_eq_true z
        exact ⟨_, rfl, _, _, rfl, rfl, fin _ (by rw [if_pos z])⟩
      · have z := of_decide_eq_false z
        exact ⟨_, rfl, fin _ (by rw [if_neg z])⟩
    · rintro H2 ⟨s2, hD⟩
      rw [List.length_map, List.take_length] at hD
      refine ⟨_, rfl, t1, _, _, _, rfl, rfl, (ht1.same s2).sq, atI_nat (j := 1) rfl, b1, rfl, ⟨_, SqL.of (s2 _ _ hb1)⟩, fun D2 nD2 => ?_⟩
      have eD : D ≠ D2 := ne_of_none hD nD2
      refine lc_list (K := K) (a := b1) (xs := p.2.map V.int) (fun i H3 => Same H2 H3 ∧ H3 D2 = some (.lst (((p.2.take i).map fun x => if x ≤ p.2.getD k 0 then min s (x + 1) else x).map V.int))) ?_ ?_ ?_ ?_
      · exact ⟨same_upd nD2, upd_same⟩
      · rintro i H3 _ ⟨s3, _⟩
        exact SqL.of (s3 _ _ (s2 _ _ hb1))
      · rintro i v H3 hv ⟨s3, hD3⟩
        obtain ⟨x, ex, rfl⟩ := map_get_int hv
        refine ⟨rfl, tyes ?_⟩
        refine ⟨_, rfl, _, rfl, t1, _, _, _, rfl, rfl, (ht1.same (s2.trans s3)).sq, atI_nat (j := 1) rfl, _, rfl, b1, _, _, _, rfl, rfl, SqL.of (s3 _ _ (s2 _ _ hb1)), atI_nat (j := k) (by rw [List.getElem?_map, getD_at kl2]; rfl), _, _, rfl, rfl, _, rfl, ?_⟩
        have fin : ∀ y : Int, y = (if x ≤ p.2.getD k 0 then min s (x + 1) else x) → ∃ acc, H3 D2 = some (.lst acc) ∧ acc.length < sizeLine ∧ Same H2 (upd H3 D2 (.lst (acc ++ [V.int y]))) ∧ (upd H3 D2 (.lst (acc ++ [V.int y]))) D2 = some (.lst (((p.2.take (i + 1)).map fun x => if x ≤ p.2.getD k 0 then min s (x + 1) else x).map V.int)) := by
          rintro y rfl
          refine ⟨_, hD3, ?_, fun c o ec => ?_, ?_⟩
          · rw [List.length_map, List.length_map]
            exact sz1000 (Nat.le_trans (List.length_take_le' _ _) (by rw [op.lb]; exact few))
          · rw [upd_ne (ne_of_none ec nD2)]
            exact s3 _ _ ec
          · rw [upd_same, take_map_snoc _ ex, List.map_append]
            rfl
        refine iteB (fun z => ?_) (fun z => ?_)
        · have z := of_decide_eq_true z
          refine ⟨_, rfl, _, rfl, _, _, rfl, rfl, _, _, rfl, fin _ ?_⟩
          rw [if_pos z]
          split <;> omega
        · have z := of_decide_eq_false z
          exact ⟨_, rfl, fin _ (by rw [if_neg z])⟩
      · rintro H3 ⟨s3, hD3⟩
        rw [List.length_map, List.take_length] at hD3
        have hD4 := s3 _ _ hD
        refine ⟨_, rfl, _, rfl, D, _, _, _, rfl, rfl, hD4, ixN_of (by rw [List.length_map, List.length_map]; exact kl), ?_⟩
        refine ⟨_, rfl, _, rfl, D2, _, _, _, rfl, rfl, (by rw [upd_ne eD.symm]; exact hD3), ixN_of (by rw [List.length_map, List.length_map]; exact kl2), ?_⟩
        refine ⟨_, rfl, _, rfl, by show 2 ≤ sizeLine; decide, fun v H' s4 _ pt => q _ H' ((fun c o ec => ?_)) ⟨v, D, D2, rfl, pt, s4 _ _ ?_, s4 _ _ ?_, nD, s2.free nD2, eD⟩⟩
        · refine s4 _ _ ?_
          rw [upd_ne (ne_of_none ec (s2.free nD2)), upd_ne (ne_of_none ec nD)]
          exact s3 _ _ (s2 _ _ ec)
        · rw [upd_ne eD, upd_same]
          show some (HO.lst (List.set _ k (V.int 0))) = _
          rw [← List.map_set]
          rfl
        · rw [upd_same]
          show some (HO.lst (List.set _ k (V.int 0))) = _
          rw [← List.map_set]
          rfl
end
end Su
/-! ### AQ: ages, the program's -/
namespace Su
open PySem PySem.Spec PyProof.Rows L2
def prD (p : Pr) : PyData := .tuple [.list (p.1.map .int), .list (p.2.map .int)]
def oD : Option Pr → PyData
  | none => .none
  | some p => prD p
theorem PairAt.dp {K : PySem.W.Frag} {H : Hp} {v : V} {p : Pr} (h : PairAt H v p) : Dp K H v (prD p) := by
  obtain ⟨t, a, b, rfl, ht, ha, hb⟩ := h
  exact .tup ht.sq (.cons (.lst (SqL.of ha) (dp_intsS _)) (.cons (.lst (SqL.of hb) (dp_intsS _)) .nil))
theorem pr_eqv (p q : Pr) : PyData.eqv (prD p) (prD q) = decide (p = q) := by
  obtain ⟨a, b⟩ := p
  obtain ⟨c, d⟩ := q
  simp only [prD, PyData.eqv, PyData.eqvAll, eqv_ints, Bool.and_true]
  by_cases h1 : a = c <;> by_cases h2 : b = d <;> simp [h1, h2]
theorem o_eqv (x y : Option Pr) : PyData.eqv (oD x) (oD y) = decide (x = y) := by
  cases x with
  | none =>
    cases y with
    | none => simp [oD, PyData.eqv]
    | some q => simp [oD, prD, PyData.eqv]
  | some p =>
    cases y with
    | none => simp [oD, prD, PyData.eqv]
    | some q =>
      show PyData.eqv (prD p) (prD q) = _
      rw [pr_eqv]
      simp
theorem pr_fine {n : Nat} {s : Int} {p : Pr} (h : POk n s p) (hn : n ≤ 12) (hs : s ≤ 1000) : Fine (prD p) 2 1000 := by
  have a : FineL (p.1.map PyData.int) 0 (41 * p.1.length) := FineL.ints _ fun z hz => by have := h.a z hz; omega
  have b : FineL (p.2.map PyData.int) 0 (41 * p.2.length) := FineL.ints _ fun z hz => by have := h.b z hz; omega
  have la := h.la
  have lb := h.lb
  exact (Fine.tuple (FineL.cons (Fine.list a) (FineL.cons (Fine.list b) FineL.nil))).up (by decide) (by omega)
theorem o_fine {n : Nat} {s : Int} {x : Option Pr} (h : ∀ p, x = some p → POk n s p) (hn : n ≤ 12) (hs : s ≤ 1000) : Fine (oD x) 2 1000 := by
  cases x with
  | none => exact Fine.none.up (by decide) (by decide)
  | some p => exact pr_fine (h p rfl) hn hs
/-- a row of a table -/
def CellAt (H : Hp) (v : V) : Option Pr → Prop
  | none => v = .non
  | some p => PairAt H v p
theorem CellAt.dp {K : PySem.W.Frag} {H : Hp} {v : V} {o : Option Pr} (h : CellAt H v o) : Dp K H v (oD o) := by
  cases o with
  | none =>
    rw [show v = .non from h]
    exact .non
  | some p => exact PairAt.dp h
theorem CellAt.same {H H' : Hp} {v : V} {o : Option Pr} (h : CellAt H v o) (s : Same H H') : CellAt H' v o := by
  cases o with
  | none => exact h
  | some p => exact PairAt.same h s
theorem PTup.updL {H : Hp} {L t : Addr} {xs vs : List V} {o : HO} (h : PTup H t xs) (hL : H L = some (.lst vs)) : PTup (upd H L o) t xs := by
  obtain ⟨ob, e, d⟩ := h
  exact ⟨ob, by rw [upd_ne (fun z => by subst z; rw [hL] at e; cases e)]; exact e, d⟩
/-- a told table, each row's lists its own -/
structure TAt (H0 H : Hp) (L : Addr) (X : Tb) (ad : Nat → Addr × Addr) (own : Addr → Nat × Bool) : Prop where
  ex : ∃ vs : List V, H L = some (.lst vs) ∧ vs.length = X.length ∧ ∀ (i : Nat) (v : V), vs[i]? = some v → (X[i]? = some none ∧ v = .non) ∨ ∃ p t, X[i]? = some (some p) ∧ v = .ref t ∧ PTup H t [.ref (ad i).1, .ref (ad i).2] ∧ H (ad i).1 = some (.lst (p.1.map V.int)) ∧ H (ad i).2 = some (.lst (p.2.map V.int))
  new : ∀ (i : Nat) (p : Pr), X[i]? = some (some p) → H0 (ad i).1 = none ∧ H0 (ad i).2 = none ∧ (ad i).1 ≠ L ∧ (ad i).2 ≠ L ∧ own (ad i).1 = (i, false) ∧ own (ad i).2 = (i, true)
theorem TAt.same {H0 H H' : Hp} {L : Addr} {X : Tb} {ad : Nat → Addr × Addr} {own : Addr → Nat × Bool} (h : TAt H0 H L X ad own) (s : Same H H') : TAt H0 H' L X ad own := by
  obtain ⟨vs, e, l, c⟩ := h.ex
  refine ⟨⟨vs, s _ _ e, l, fun i v ev => ?_⟩, h.new⟩
  rcases c i v ev with z | ⟨p, t, z1, z2, z3, z4, z5⟩
  · exact .inl z
  · exact .inr ⟨p, t, z1, z2, z3.same s, s _ _ z4, s _ _ z5⟩
theorem TAt.cell {H0 H : Hp} {L : Addr} {X : Tb} {ad : Nat → Addr × Addr} {own : Addr → Nat × Bool} (h : TAt H0 H L X ad own) {i : Nat} {o : Option Pr} (e : X[i]? = some o) : ∃ vs v, H L = some (.lst vs) ∧ vs[i]? = some v ∧ CellAt H v o := by
  obtain ⟨vs, ev, l, c⟩ := h.ex
  have lt : i < vs.length := by
    rw [l]
    exact (List.getElem?_eq_some_iff.mp e).1
  refine ⟨vs, vs[i], ev, List.getElem?_eq_getElem lt, ?_⟩
  rcases c i _ (List.getElem?_eq_getElem lt) with ⟨z1, z2⟩ | ⟨p, t, z1, z2, z3, z4, z5⟩
  · rw [e] at z1
    injection z1 with z1
    subst z1
    exact z2
  · rw [e] at z1
    injection z1 with z1
    subst z1
    exact ⟨t, _, _, z2, .inl z3, z4, z5⟩
/-- it holds what is no number -/
theorem TAt.odd {H0 H : Hp} {L : Addr} {X : Tb} {ad : Nat → Addr × Addr} {own : Addr → Nat × Bool} (h : TAt H0 H L X ad own) (pos : 0 < X.length) : ∃ vs, H L = some (.lst vs) ∧ ∃ x ∈ vs, ∀ i, x ≠ .int i := by
  obtain ⟨vs, ev, l, c⟩ := h.ex
  have lt : 0 < vs.length := by omega
  refine ⟨vs, ev, vs[0], List.getElem_mem lt, fun i z => ?_⟩
  rcases c 0 _ (List.getElem?_eq_getElem lt) with ⟨_, z2⟩ | ⟨p, t, _, z2, _⟩
  · rw [z] at z2
    cases z2
  · rw [z] at z2
    cases z2
/-- a row is told anew, with lists of its own -/
theorem TAt.set {H0 H Hn : Hp} {L : Addr} {X : Tb} {ad : Nat → Addr × Addr} {own : Addr → Nat × Bool} (h : TAt H0 H L X ad own) (s0 : ∀ c o, H0 c = some o → H c = some o) (sn : Same H Hn) {a b t : Addr} {p : Pr} {i : Nat} (lt : i < X.length) (na : H a = none) (nb : H b = none) (ne : a ≠ b)
    (ht : PTup Hn t [.ref a, .ref b]) (ha : Hn a = some (.lst (p.1.map V.int))) (hb : Hn b = some (.lst (p.2.map V.int))) : ∃ vs, Hn L = some (.lst vs) ∧ vs.length = X.length ∧
      TAt H0 (upd Hn L (.lst (vs.set i (.ref t)))) L (X.set i (some p)) (fun j => if j = i then (a, b) else ad j) (fun c => if c = a then (i, false) else if c = b then (i, true) else own c) := by
  obtain ⟨vs, ev, l, c⟩ := h.ex
  have eL := sn _ _ ev
  have aL : a ≠ L := (ne_of_none ev na).symm
  have bL : b ≠ L := (ne_of_none ev nb).symm
  refine ⟨vs, eL, l, ⟨vs.set i (.ref t), upd_same, by rw [List.length_set, List.length_set, l], fun j v e => ?_⟩, fun j q e => ?_⟩
  · rcases getElem?_set_some e with ⟨rfl, rfl⟩ | ⟨ij, e2⟩
    · refine .inr ⟨p, t, by rw [List.getElem?_set_self lt], rfl, ?_, ?_, ?_⟩
      · rw [if_pos rfl]
        exact ht.updL eL
      · rw [if_pos rfl, upd_ne aL]
        exact ha
      · rw [if_pos rfl, upd_ne bL]
        exact hb
    · have ji : ¬ j = i := fun z => ij z.symm
      rw [List.getElem?_set_ne ij, if_neg ji]
      rcases c j v e2 with z | ⟨q, t', z1, z2, z3, z4, z5⟩
      · exact .inl z
      · have n := h.new j q z1
        refine .inr ⟨q, t', z1, z2, (z3.same sn).updL eL, ?_, ?_⟩
        · rw [upd_ne n.2.2.1]
          exact sn _ _ z4
        · rw [upd_ne n.2.2.2.1]
          exact sn _ _ z5
  · have f : ∀ c, H c = none → H0 c = none := fun c hc => by
      cases z : H0 c with
      | none => rfl
      | some o =>
        rw [s0 c o z] at hc
        cases hc
    rcases getElem?_set_some e with ⟨rfl, _⟩ | ⟨ij, e2⟩
    · refine ⟨by rw [if_pos rfl]; exact f a na, by rw [if_pos rfl]; exact f b nb, by rw [if_pos rfl]; exact aL, by rw [if_pos rfl]; exact bL, ?_, ?_⟩
      · rw [if_pos rfl, if_pos rfl]
      · rw [if_pos rfl, if_neg ne.symm, if_pos rfl]
    · have ji : ¬ j = i := fun z => ij z.symm
      have n := h.new j q e2
      obtain ⟨hj, hj2⟩ : H (ad j).1 ≠ none ∧ H (ad j).2 ≠ none := by
        have lj : j < vs.length := by
          rw [l]
          exact (List.getElem?_eq_some_iff.mp e2).1
        rcases c j _ (List.getElem?_eq_getElem lj) with ⟨z, _⟩ | ⟨_, _, _, _, _, z4, z5⟩
        · rw [e2] at z
          cases z
        · rw [z4, z5]
          simp
      simp only [if_neg ji]
      have m1 : ∀ x, H x ≠ none → x ≠ a ∧ x ≠ b := fun x hx => ⟨fun z => hx (z ▸ na), fun z => hx (z ▸ nb)⟩
      rw [if_neg (m1 _ hj).1, if_neg (m1 _ hj).2, if_neg (m1 _ hj2).1, if_neg (m1 _ hj2).2]
      exact n
theorem while_m {c : TT} {tb : TS} {D : Ends} {σ : L2.St} {H : Hp} (W : Nat → L2.St → Hp → Prop) (m0 : Nat) (h0 : W m0 σ H)
    (hs : ∀ m σ H, W m σ H → c σ H fun b H1 => if b = true then tb { D with nx := fun σ' H' => ∃ m', m' < m ∧ W m' σ' H', ct := fun σ' H' => ∃ m', m' < m ∧ W m' σ' H', bk := D.nx } σ H1 else D.nx σ H1)
    (mono : ∀ σ H Q Q', (∀ b H1, Q b H1 → Q' b H1) → c σ H Q → c σ H Q') : tWhile c tb D σ H := by
  refine ⟨W, ⟨m0, h0⟩, fun m σ H w => mono σ H _ _ (fun b H1 q => ?_) (hs m σ H w)⟩
  cases b with
  | true => exact ⟨_, fun _ _ z => z, q⟩
  | false => exact q
theorem mid_gex {te : TE} {i j : Nat} {v : V} {S : TS} {D : Ends} {σ : L2.St} {H : Hp} (M : V → Hp → Prop) (hR : ∀ y H', M y H' → S D ((σ.set j (some v)).set i (some y)) H') (h : ∀ R : VK, (∀ y H', M y H' → R y H') → te (σ.set j (some v)) H R) : gName j v σ H (fun σ2 H2 => tSeq (tAsg te (gName i)) S D σ2 H2) := h _ hR
theorem idx_int {ms : List Int} {k : Int} (h : k ∈ ms) : (ms.map V.int)[ms.idxOf k]? = some (V.int k) ∧ eqV (V.int k) (V.int k) = true ∧ ∀ (m : Nat) (z : V), m < ms.idxOf k → (ms.map V.int)[m]? = some z → eqV z (V.int k) = false := by
  have lt := List.idxOf_lt_length_of_mem h
  have e : ms[ms.idxOf k]'lt = k := List.getElem_idxOf lt
  refine ⟨by rw [List.getElem?_map, List.getElem?_eq_getElem lt, e]; rfl, by simp [eqV], fun m z hm hz => ?_⟩
  obtain ⟨x, hx, rfl⟩ := map_get_int hz
  have ne : x ≠ k := fun z => by
    subst z
    obtain ⟨l1, e1⟩ := List.getElem?_eq_some_iff.mp hx
    have := List.not_of_lt_findIdx (p := (· == x)) (xs := ms) hm
    simp [e1] at this
  show decide (x = k) = false
  exact decide_eq_false ne
theorem PairN.same {H0 H H' : Hp} {v : V} {p : Pr} (h : PairN H0 H v p) (s : Same H H') : PairN H0 H' v p := by
  obtain ⟨t, a, b, e, ht, ha, hb, n⟩ := h
  exact ⟨t, a, b, e, ht.same s, s _ _ ha, s _ _ hb, n⟩
theorem PairN.back {H0 H1 H : Hp} {v : V} {p : Pr} (h : PairN H1 H v p) (s : Same H0 H1) : PairN H0 H v p := by
  obtain ⟨t, a, b, e, ht, ha, hb, n1, n2, n3⟩ := h
  exact ⟨t, a, b, e, ht, ha, hb, s.free n1, s.free n2, n3⟩
/-- a pair whose lists are not these two -/
def PairX (L W : Addr) (H : Hp) (v : V) (p : Pr) : Prop := ∃ t a b, v = .ref t ∧ PTup H t [.ref a, .ref b] ∧ H a = some (.lst (p.1.map V.int)) ∧ H b = some (.lst (p.2.map V.int)) ∧ (a ≠ L ∧ a ≠ W) ∧ b ≠ L ∧ b ≠ W
theorem PairX.at {L W : Addr} {H : Hp} {v : V} {p : Pr} (h : PairX L W H v p) : PairAt H v p := by
  obtain ⟨t, a, b, e, ht, ha, hb, _⟩ := h
  exact ⟨t, a, b, e, .inl ht, ha, hb⟩
theorem PairX.same {L W : Addr} {H H' : Hp} {v : V} {p : Pr} (h : PairX L W H v p) (s : Same H H') : PairX L W H' v p := by
  obtain ⟨t, a, b, e, ht, ha, hb, n⟩ := h
  exact ⟨t, a, b, e, ht.same s, s _ _ ha, s _ _ hb, n⟩
theorem PairN.x {L W : Addr} {H H' : Hp} {v : V} {p : Pr} {o1 o2 : HO} (h : PairN H H' v p) (hL : H L = some o1) (hW : H W = some o2) : PairX L W H' v p := by
  obtain ⟨t, a, b, e, ht, ha, hb, n1, n2, n3⟩ := h
  exact ⟨t, a, b, e, ht, ha, hb, ⟨(ne_of_none hL n1).symm, (ne_of_none hW n1).symm⟩, (ne_of_none hL n2).symm, (ne_of_none hW n2).symm⟩
theorem PairX.updL {L W : Addr} {H : Hp} {v : V} {p : Pr} {vs : List V} {o : HO} (h : PairX L W H v p) (hL : H L = some (.lst vs)) : PairX L W (upd H L o) v p := by
  obtain ⟨t, a, b, e, ht, ha, hb, n1, n2⟩ := h
  exact ⟨t, a, b, e, ht.updL hL, by rw [upd_ne n1.1]; exact ha, by rw [upd_ne n2.1]; exact hb, n1, n2⟩
theorem PairX.updW {L W : Addr} {H : Hp} {v : V} {p : Pr} {vs : List V} {o : HO} (h : PairX L W H v p) (hW : H W = some (.lst vs)) : PairX L W (upd H W o) v p := by
  obtain ⟨t, a, b, e, ht, ha, hb, n1, n2⟩ := h
  exact ⟨t, a, b, e, ht.updL hW, by rw [upd_ne n1.2]; exact ha, by rw [upd_ne n2.2]; exact hb, n1, n2⟩
/-- no row's list is this one -/
def Off (W : Addr) (X : Tb) (ad : Nat → Addr × Addr) : Prop := ∀ (i : Nat) (p : Pr), X[i]? = some (some p) → (ad i).1 ≠ W ∧ (ad i).2 ≠ W
theorem TAt.cellX {H0 H : Hp} {L W : Addr} {X : Tb} {ad : Nat → Addr × Addr} {own : Addr → Nat × Bool} (h : TAt H0 H L X ad own) (ow : Off W X ad) {i : Nat} {p : Pr} (e : X[i]? = some (some p)) : ∃ vs v, H L = some (.lst vs) ∧ vs[i]? = some v ∧ PairX L W H v p := by
  obtain ⟨vs, ev, l, c⟩ := h.ex
  have lt : i < vs.length := by
    rw [l]
    exact (List.getElem?_eq_some_iff.mp e).1
  refine ⟨vs, vs[i], ev, List.getElem?_eq_getElem lt, ?_⟩
  rcases c i _ (List.getElem?_eq_getElem lt) with ⟨z1, z2⟩ | ⟨q, t, z1, z2, z3, z4, z5⟩
  · rw [e] at z1
    cases z1
  · rw [e] at z1
    injection z1 with z1
    injection z1 with z1
    subst z1
    have n := h.new i p e
    have n2 := ow i p e
    exact ⟨t, _, _, z2, z3, z4, z5, ⟨n.2.2.1, n2.1⟩, n.2.2.2.1, n2.2⟩
theorem TAt.updW {H0 H : Hp} {L W : Addr} {X : Tb} {ad : Nat → Addr × Addr} {own : Addr → Nat × Bool} {ws : List V} {o : HO} (h : TAt H0 H L X ad own) (ow : Off W X ad) (hW : H W = some (.lst ws)) (ne : L ≠ W) : TAt H0 (L2.upd H W o) L X ad own := by
  obtain ⟨vs, e, l, c⟩ := h.ex
  refine ⟨⟨vs, by rw [upd_ne ne]; exact e, l, fun i v ev => ?_⟩, h.new⟩
  rcases c i v ev with z | ⟨p, t, z1, z2, z3, z4, z5⟩
  · exact .inl z
  · have n := ow i p z1
    exact .inr ⟨p, t, z1, z2, z3.updL hW, by rw [upd_ne n.1]; exact z4, by rw [upd_ne n.2]; exact z5⟩
def spBRow : Sp := fun vs H Q _ => ∃ (x : V) (as rm : Addr) (r : Rw) (p : Pr) (ms : List Int) (s : Int), vs = [x, .ref as, .ref rm, .int s] ∧ PairAt H x p ∧ T2 H as (r.1.map V.int) ∧ H rm = some (.lst (ms.map V.int)) ∧ POk ms.length s p ∧ (∀ k ∈ r.1, k ∈ ms) ∧ r.1.length ≤ 100 ∧ ms.length ≤ 1000 ∧ 0 ≤ s ∧ s ≤ 1000 ∧ ∀ v H', Same H H' → (PairN H H' v (comeP ms s r p) ∨ (v = x ∧ comeP ms s r p = p)) → Q v H'
theorem sc_behind_row : FnScope ["pair", "asks", "rooms", "size", "come", "room"] ["pair", "asks", "rooms", "size"] (defScope s_behind_row) := ⟨rfl, rfl, rfl, by decide +kernel, rfl, by decide +kernel, by decide +kernel⟩
section
variable {P : Program} {w : World} {K : PySem.W.Frag} {mg : Str → Option Value} {base : Heap}
theorem ok_brow (T : At K mg "behind_row" s_behind_row ["pair", "asks", "rooms", "size"]) (B : Bt mg) (c_joined_ages : Cal P w K mg base 1 "joined_ages" ["one", "other"] spJoin) (c_behind_ask : Cal P w K mg base 1 "behind_ask" ["pair", "place", "size"] spBAsk) :
    Cal P w K mg base 2 "behind_row" ["pair", "asks", "rooms", "size"] spBRow := by
  refine cal_of T sc_behind_row (fun vs H Q E h => ?_) (fun f cdv A outer s H vs Q E hr h => ?_)
  · obtain ⟨x, as, rm, r, p, ms, s, rfl, _⟩ := h
    rfl
  · obtain ⟨x, as, rm, r, p, ms, s, rfl, hx, hA, hm, op, hin, few, fewm, s0, s1, q⟩ := h
    refine ⟨_, (pss_cons (ps_if (pt_cmpR op_eq (pe_callB call_len_seq (by rfl) B.len PySem.boot_len (pa_cons (pv 1) pa_nil)) pe_int (nomark _)) (pss_one (ps_ret (pv 0))) pss_nil)
      (pss_cons (ps_set (i := 4) sc_behind_row.nd rfl (Or.inl rfl) (pe_own c_behind_ask hr (by decide) (by rfl) (pa_cons (pv 0) (pa_cons (pe_bm PySem.F.plainAttrs_list PySem.F.slot_list_index PySem.F.type_list_index mt_index (pv 2) (pa_cons (pe_ix ix_tup (pv 1) pe_int (fun _ _ => rfl)) pa_nil)) (pa_cons (pv 3) pa_nil)))))
      (pss_cons (ps_for PassesOwn.never rfl (pi_tup (pe_slice sl_tup2 (pv 1) (po_some pe_int) po_none)) (pg_name (i := 5) sc_behind_row.nd rfl (Or.inl rfl)) (pss_one (ps_set (i := 4) sc_behind_row.nd rfl (Or.inl rfl) (pe_own c_joined_ages hr (by decide) (by rfl) (pa_cons (pv 4) (pa_cons (pe_own c_behind_ask hr (by decide) (by rfl) (pa_cons (pv 0) (pa_cons (pe_bm PySem.F.plainAttrs_list PySem.F.slot_list_index PySem.F.type_list_index mt_index (pv 2) (pa_cons (pv 5) pa_nil)) (pa_cons (pv 3) pa_nil)))) pa_nil))))))
      (pss_one (ps_ret (pv 4)))))), ?_⟩
    refine ⟨_, rfl, as, _, rfl, .inr hA.sq, rfl, _, rfl, iteB (fun z => ?_) (fun z => ?_)⟩
    · have e : r.1 = [] := by
        have z := V.int.inj (of_decide_eq_true z)
        rw [List.length_map] at z
        exact List.eq_nil_of_length_eq_zero (by omega)
      refine ⟨_, rfl, q _ H (Same.refl H) (.inr ⟨rfl, ?_⟩)⟩
      unfold comeP plcs
      rw [e]
      rfl
    · have ne : r.1 ≠ [] := fun e => by
        have z := of_decide_eq_false z
        rw [e] at z
        exact z rfl
      obtain ⟨k0, ks, e⟩ : ∃ k0 ks, r.1 = k0 :: ks := by
        cases h : r.1 with
        | nil => exact absurd h ne
        | cons k0 ks => exact ⟨k0, ks, rfl⟩
      rw [e] at hA hin few
      have idx : ∀ k ∈ k0 :: ks, ms.idxOf k < ms.length := fun k hk => List.idxOf_lt_length_of_mem (hin k hk)
      obtain ⟨i1, i2, i3⟩ := idx_int (hin k0 List.mem_cons_self)
      have fl : (ms.map V.int).all flatV = true := by
        rw [List.all_map]
        exact List.all_eq_true.mpr fun _ _ => rfl
      refine ⟨_, rfl, _, rfl, .inl ⟨rfl, _, SqL.of hm⟩, _, rfl, as, _, _, _, rfl, rfl, hA.sq, atI_nat (j := 0) rfl, rm, _, _, _, _, rfl, rfl, SqL.of hm, rfl, fl, i1, i2, i3, ?_⟩
      refine ⟨_, rfl, x, p, _, ms.length, s, rfl, hx, op, idx k0 List.mem_cons_self, fewm, s1, fun c H1 t1 hc => ?_⟩
      refine ⟨_, rfl, 1, rfl, as, _, rfl, hA.same t1, fun a2 H2 t2 hA2 => ?_⟩
      rw [show cutV ((k0 :: ks).map V.int) (some 1) none = ks.map V.int from cut_tail _] at hA2
      refine ⟨a2, rfl, ⟨_, hA2.sq⟩, ?_⟩
      have okk : ∀ k, POk ms.length s (askP s p k) := fun k => askP_ok s0 op k
      refine for_tup (K := K) (a := a2) (xs := ks.map V.int) (fun i σ H3 => ∃ (cv : V) (y5 : Option V), σ = [some x, some (.ref as), some (.ref rm), some (.int s), some cv, y5] ∧ PairN H H3 cv (((ks.take i).map fun k => ms.idxOf k).foldl (fun c j => joinP c (askP s p j)) (askP s p (ms.idxOf k0))) ∧ POk ms.length s (((ks.take i).map fun k => ms.idxOf k).foldl (fun c j => joinP c (askP s p j)) (askP s p (ms.idxOf k0))) ∧ Same H H3 ∧ Same H2 H3) ?_ ?_ ?_ ?_
      · exact ⟨_, _, rfl, hc.same t2, okk _, t1.trans t2, Same.refl _⟩
      · rintro i σ H3 _ ⟨_, _, _, _, _, _, t3⟩
        exact (hA2.same t3).sq
      · rintro i v σ H3 hv ⟨cv, y5, rfl, hcv, okc, t3, t4⟩
        obtain ⟨k, ek, rfl⟩ := map_get_int hv
        have kin : k ∈ k0 :: ks := List.mem_cons_of_mem _ (List.mem_of_getElem? ek)
        obtain ⟨j1, j2, j3⟩ := idx_int (hin k kin)
        refine ⟨_, rfl, _, rfl, _, rfl, .inl ⟨rfl, _, SqL.of (t3 _ _ hm)⟩, _, rfl, rm, _, _, _, _, rfl, rfl, SqL.of (t3 _ _ hm), rfl, fl, j1, j2, j3, ?_⟩
        refine ⟨_, rfl, x, p, _, ms.length, s, rfl, hx.same t3, op, idx k kin, fewm, s1, fun c2 H4 t5 hc2 => ?_⟩
        refine ⟨_, _, _, _, ms.length, s, rfl, hcv.at.same t5, hc2.at, okc, okk _, fewm, fun c3 H5 t6 hc3 => ?_⟩
        refine ⟨c3, _, rfl, ?_, ?_, (t3.trans t5).trans t6, (t4.trans t5).trans t6⟩
        · rw [List.take_add_one, ek, List.map_append, List.foldl_append]
          exact hc3.back (t3.trans t5)
        · rw [List.take_add_one, ek, List.map_append, List.foldl_append]
          exact joinP_ok okc (okk _)
      · rintro σ H3 ⟨cv, y5, rfl, hcv, okc, t3, t4⟩
        refine ⟨_, rfl, q cv H3 t3 (.inl ?_)⟩
        rw [List.length_map, List.take_length] at hcv
        unfold comeP plcs
        rw [e]
        exact hcv
end
end Su
/-! ### R0: webs as things -/
namespace Su.GW
open PySem PySem.Spec PyProof.Rows L2
def rowT (r : Rw) : G := .tup [.tup (r.1.map G.int), .tup (r.2.map G.int)]
theorem tg_row {p : Addr} {H : Hp} {v : V} {r : Rw} (h : RowAt H v r) : Tg p H v (rowT r) := by
  obtain ⟨a, b, c, rfl, h1, h2, h3⟩ := h
  exact .tup h1 (.cons (.tup h2 (TgL.ints _)) (.cons (.tup h3 (TgL.ints _)) .nil))
theorem tg_rows {p : Addr} {H : Hp} : ∀ {vs : List V} {rs : List Rw}, RowsAt H vs rs → TgL p H vs (rs.map rowT)
  | [], [], _ => .nil
  | _ :: _, _ :: _, h => .cons (tg_row h.1) (tg_rows h.2)
  | [], _ :: _, h => h.elim
  | _ :: _, [], h => h.elim
theorem tg_web {p a : Addr} {H : Hp} {rs : List Rw} (h : WebAt H a rs) (n : a ≠ p) : Tg p H (.ref a) (.lst (rs.map rowT)) := by
  obtain ⟨ws, e, r⟩ := h
  exact .lst n e (tg_rows r)
theorem val_ints (ns : List Int) : (ns.map G.int).map valI = ns := by
  rw [List.map_map]
  exact List.map_id' ns
theorem rw_row (r : Rw) : rwOf (rowT r) = r := by
  show ((r.1.map G.int).map valI, (r.2.map G.int).map valI) = r
  rw [val_ints, val_ints]
theorem ups_all : ∀ {ns : List Int}, ns.Pairwise (· < ·) → (ups ns).all id = true
  | [], _ => rfl
  | [a], _ => rfl
  | a :: b :: l, h => by
    have h1 := List.pairwise_cons.mp h
    have ih := ups_all h1.2
    show (decide (a < b) && (ups (b :: l)).all id) = true
    rw [decide_eq_true (h1.1 b List.mem_cons_self), ih]
    rfl
theorem ris_ints {n : Int} {ns : List Int} (h : Ris 0 (n - 1) ns) : risG n (ns.map G.int) = true := by
  unfold risG
  rw [val_ints, ups_all h.pw, Bool.and_true, List.all_eq_true]
  intro b hb
  obtain ⟨g, hg, rfl⟩ := List.mem_map.mp hb
  obtain ⟨k, hk, rfl⟩ := List.mem_map.mp hg
  show (decide (0 ≤ k) && decide (k < n)) = true
  have := h.lo k hk
  have := h.hi k hk
  rw [decide_eq_true (by omega : 0 ≤ k), decide_eq_true (by omega : k < n)]
  rfl
theorem row_row {n : Nat} {r : Rw} (ok : RowOk n r) : rowG n (rowT r) = true := by
  show (((decide ((0 : Int) ≤ ((r.1.map G.int).length : Int)) && decide (((r.1.map G.int).length : Int) ≤ 6)) && risG 100 (r.1.map G.int)) && (decide (((r.2.map G.int).length : Int) ≤ (n : Int)) && risG n (r.2.map G.int))) = true
  have h1 := ok.few
  have h2 := ris_len ok.tos
  rw [ris_ints (n := 100) ok.rooms, ris_ints (n := (n : Int)) ok.tos, List.length_map, List.length_map, decide_eq_true (by omega : (0 : Int) ≤ (r.1.length : Int)), decide_eq_true (by omega : (r.1.length : Int) ≤ 6), decide_eq_true (by omega : (r.2.length : Int) ≤ (n : Int))]
  rfl
theorem rw_rows (rs : List Rw) : (rs.map rowT).map rwOf = rs := by
  rw [List.map_map]
  have e : (rwOf ∘ rowT) = id := funext fun r => rw_row r
  rw [e, List.map_id]
theorem look_web {rs : List Rw} (ok : WebOk rs) : lookG (.lst (rs.map rowT)) = none := by
  have h1 := ok.pos
  have h2 := ok.few
  obtain ⟨S, hS, hin⟩ := ok.all
  show (if 1 ≤ (rs.map rowT).length ∧ (rs.map rowT).length ≤ 80 then (match badAt (rowG ((rs.map rowT).length : Nat)) (rs.map rowT) with
    | some i => some (some i)
    | none => if 12 < (oneEach (allRooms ((rs.map rowT).map rwOf))).length then some none else none) else some none) = none
  rw [List.length_map, if_pos ⟨h1, h2⟩, badAt_none fun g hg => ?_, rw_rows]
  · show (if 12 < (oneEach (allRooms rs)).length then some none else none) = none
    rw [if_neg]
    have := nodup_few (S := S) (oneEach_nodup (allRooms rs)) fun k hk => hin k ((oneEach_mem k _).mp hk)
    omega
  · obtain ⟨r, hr, rfl⟩ := List.mem_map.mp hg
    exact row_row (ok.row r hr)
end Su.GW
/-! ### GK: kinds, of things of any kind -/
namespace Su.GW
open PySem PySem.Spec PyProof.Rows L2
def wayG : G → Bool
  | .str s => inV (.str s) wayVs
  | _ => false
def sizeG : G → Str → Bool
  | .int n, s => (decide (1 ≤ n) && decide (n ≤ 8)) && (!decide (s = "tree") || inV (.int n) sizeVs)
  | _, _ => false
def strG : G → Str
  | .str s => s
  | _ => ""
/-- the part of a kind that isn't so -/
def kindG (gz gw : G) : Option Str := if wayG gw = true then (if sizeG gz (strG gw) = true then none else some "size") else some "way"
def optV : Option Str → V
  | none => .non
  | some s => .str s
theorem way_str {p : Addr} {H : Hp} {v : V} {g : G} (h : Tg p H v g) (e : wayG g = true) : ∃ s, v = .str s ∧ g = .str s := by
  cases h with
  | str s => exact ⟨s, rfl, rfl⟩
  | _ => cases e
theorem way_is {st : Str} (h : wayG (.str st) = true) : st = "last" ∨ st = "first" ∨ st = "tree" := by
  have z : (("last" == st) || (("first" == st) || (("tree" == st) || false))) = true := h
  simp only [Bool.or_eq_true, beq_iff_eq, Bool.or_false] at z
  rcases z with z | z | z
  · exact .inl z.symm
  · exact .inr (.inl z.symm)
  · exact .inr (.inr z.symm)
theorem kind_ok {gz gw : G} (h : kindG gz gw = none) : ∃ (n : Nat) (x : Str), gz = .int n ∧ gw = .str x ∧ Kind n x := by
  unfold kindG at h
  split at h
  · rename_i h1
    split at h
    · rename_i h2
      cases gw with
      | str x =>
        cases gz with
        | int n =>
          have h2 : ((decide (1 ≤ n) && decide (n ≤ 8)) && (!decide (x = "tree") || inV (.int n) sizeVs)) = true := h2
          rw [Bool.and_eq_true, Bool.and_eq_true, decide_eq_true_eq, decide_eq_true_eq] at h2
          obtain ⟨⟨a, b⟩, c⟩ := h2
          refine ⟨n.toNat, x, by rw [show ((n.toNat : Nat) : Int) = n by omega], rfl, ⟨way_is h1, by omega, by omega, fun e => ?_⟩⟩
          rw [decide_eq_true e] at c
          have c : (((1 : Int) == n) || (((2 : Int) == n) || (((4 : Int) == n) || (((8 : Int) == n) || false)))) = true := c
          simp only [Bool.or_eq_true, beq_iff_eq, Bool.or_false] at c
          omega
        | _ => cases h2
      | _ => cases h1
    · cases h
  · cases h
def spWay : Sp := fun vs H Q _ => ∃ (p : Addr) (v : V) (g : G), vs = [v] ∧ Tg p H v g ∧ Q (.bl (wayG g)) H
def spSize : Sp := fun vs H Q _ => ∃ (p : Addr) (v : V) (g : G) (s : Str), vs = [v, .str s] ∧ Tg p H v g ∧ Q (.bl (sizeG g s)) H
def spPart : Sp := fun vs H Q _ => ∃ (p : Addr) (vz vw : V) (gz gw : G), vs = [vz, vw, .non, .non] ∧ Tg p H vz gz ∧ Tg p H vw gw ∧ Q (optV (kindG gz gw)) H
def spKind (CF : Addr) : Sp := fun vs H Q E => ∃ (p : Addr) (vz vw : V) (gz gw : G), vs = [vz, vw] ∧ Tg p H vz gz ∧ Tg p H vw gw ∧ (kindG gz gw = none → Q .non H) ∧
  ∀ s, kindG gz gw = some s → ∀ (H' : Hp) (d : Addr), Same H H' → H d = none → H' d = some (.xd [("part", .str s)]) → E (.ref CF) (some d) H'
section
variable {P : Program} {w : World} {K : PySem.W.Frag} {mg : Str → Option Value} {base : Heap}
theorem ok_way (T : At K mg "is_way" s_is_way ["thing"]) (B : Bt mg) (D : GbK K mg) : Cal P w K mg base 1 "is_way" ["thing"] spWay := by
  obtain ⟨aWays, mWays, hW⟩ := D.ways
  refine cal_of T sc_is_way (fun vs H Q E h => ?_) (fun f cdv A outer s H vs Q E hr h => ?_)
  · obtain ⟨p, v, g, rfl, _⟩ := h
    rfl
  · obtain ⟨p, v, g, rfl, hv, q⟩ := h
    refine ⟨_, (pss_one (ps_ret (pe_and (pe_callB call_isi (by rfl) B.isinstance (by decide +kernel) (pa_cons (pv 0) (pa_cons (pe_bltn (v := .ty "str") (u := .type "str") (by rfl) B.str (by decide +kernel) rfl) pa_nil))) (pe_one (pe_cmpR op_in_seq (pv 0) (pe_glob (v := .ref aWays) rfl mWays rfl) (by rfl)))))), ?_⟩
    refine ⟨_, rfl, v, .ty "str", _, _, _, rfl, .ty "str", hv.ty, kit_str g, _, rfl, iteB (fun e => ?_) (fun e => ?_)⟩
    · cases hv with
      | str s =>
        refine ⟨_, rfl, aWays, wayVs, rfl, .inr (hW H), rfl, rfl, ?_⟩
        exact q
      | _ => cases e
    · have z : false = wayG g := by
        cases g <;> first | rfl | cases e
      rw [z]
      exact q
theorem ok_size (T : At K mg "is_size" s_is_size ["thing", "way"]) (D : GbK K mg) (c_is_whole : Cal P w K mg base 1 "is_whole" ["thing"] spWhole) : Cal P w K mg base 2 "is_size" ["thing", "way"] spSize := by
  obtain ⟨tm, mMost⟩ := D.most
  obtain ⟨aSizes, mSizes, hZ⟩ := D.sizes
  refine cal_of T sc_is_size (fun vs H Q E h => ?_) (fun f cdv A outer s H vs Q E hr h => ?_)
  · obtain ⟨p, v, g, s, rfl, _⟩ := h
    rfl
  · obtain ⟨p, v, g, s, rfl, hv, q⟩ := h
    refine ⟨_, (pss_cons (ps_if (PW.pt (pw_or (pt_not (pt_val (pe_own c_is_whole hr (by decide) (by rfl) (pa_cons (pv 0) pa_nil)))) (pw_or1 (pt_not (pt_chain op_le op_le pe_int (pv 0) (pe_glob (v := .int 8) rfl mMost ⟨_, rfl⟩)))))) (pss_one (ps_ret pe_bl)) pss_nil)
      (pss_one (ps_ret (pe_or (pe_cmpR op_ne (pv 1) pe_str (nomark _)) (pe_one (pe_cmpR op_in_seq (pv 0) (pe_glob (v := .ref aSizes) rfl mSizes rfl) (by rfl))))))), ?_⟩
    refine ⟨_, rfl, p, v, g, rfl, hv, _, rfl, iteB (fun e => ?_) (fun e => ?_)⟩
    · have z : false = sizeG g s := by
        cases g <;> first | rfl | cases e
      rw [z]
      exact q
    · have e' : wholeG g = true := by
        cases y : wholeG g with
        | true => rfl
        | false =>
          rw [y] at e
          cases e
      obtain ⟨i, rfl, rfl⟩ := whole_int hv e'
      have q : Q (.bl ((decide (1 ≤ i) && decide (i ≤ 8)) && (!decide (s = "tree") || inV (.int i) sizeVs))) H := q
      refine ⟨_, rfl, _, _, rfl, rfl, _, rfl, iteB (fun e1 => ?_) (fun e1 => ?_)⟩
      · rw [e1, Bool.true_and] at q
        refine ⟨_, _, rfl, rfl, _, rfl, iteB (fun e2 => ?_) (fun e2 => ?_)⟩
        · have e3 : decide (i ≤ 8) = false := by simpa using e2
          rw [e3, Bool.false_and] at q
          exact q
        · have e3 : decide (i ≤ 8) = true := by simpa using e2
          rw [e3, Bool.true_and] at q
          refine ⟨_, rfl, rfl, _, rfl, iteB (fun e4 => ?_) (fun e4 => ?_)⟩
          · have e5 : decide (s = "tree") = false := by
              cases y : decide (s = ("tree" : Str)) with
              | false => rfl
              | true =>
                rw [of_decide_eq_true y] at e4
                exact absurd e4 (by decide)
            rw [e5] at q
            exact q
          · have e5 : decide (s = "tree") = true := by
              cases y : decide (V.str s = V.str "tree") with
              | false =>
                rw [y] at e4
                cases e4
              | true => exact decide_eq_true (V.str.inj (of_decide_eq_true y))
            rw [e5] at q
            exact ⟨_, rfl, aSizes, sizeVs, rfl, .inr (hZ H), rfl, rfl, q⟩
      · rw [e1, Bool.false_and, Bool.false_and] at q
        exact ⟨_, rfl, iteT q⟩
theorem ok_part (T : At K mg "wrong_part" s_wrong_part ["size", "way", "slots", "bits"]) (c_is_way : Cal P w K mg base 1 "is_way" ["thing"] spWay) (c_is_size : Cal P w K mg base 2 "is_size" ["thing", "way"] spSize) :
    Cal P w K mg base 3 "wrong_part" ["size", "way", "slots", "bits"] spPart := by
  refine cal_of T sc_wrong_part (fun vs H Q E h => ?_) (fun f cdv A outer s H vs Q E hr h => ?_)
  · obtain ⟨p, vz, vw, gz, gw, rfl, _⟩ := h
    rfl
  · obtain ⟨p, vz, vw, gz, gw, rfl, hz, hw, q⟩ := h
    refine ⟨_, pss_cons (ps_if (pt_not (pt_val (pe_own c_is_way hr (by decide) (by rfl) (pa_cons (pv 1) pa_nil)))) (pss_one (ps_ret pe_str)) pss_nil) (pss_cons (ps_if (pt_not (pt_val (pe_own c_is_size hr (by decide) (by rfl) (pa_cons (pv 0) (pa_cons (pv 1) pa_nil))))) (pss_one (ps_ret pe_str)) pss_nil)
      (pss_cons (ps_if (PW.pt (pw_and (pt_cmpR op_notN (pv 2) pe_non (nomark _)) (pw_and1 pt_never))) (pss_one (ps_ret pe_str)) pss_nil) (pss_cons (ps_if (PW.pt (pw_and (pt_cmpR op_notN (pv 3) pe_non (nomark _)) (pw_and1 pt_never))) (pss_one (ps_ret pe_str)) pss_nil) (pss_one (ps_ret pe_non))))), ?_⟩
    refine ⟨_, rfl, p, vw, gw, rfl, hw, _, rfl, iteB (fun e => ?_) (fun e => ?_)⟩
    · unfold kindG at q
      rw [if_neg (by rw [show wayG gw = false from by simpa using e]; exact Bool.false_ne_true)] at q
      exact q
    have e1 : wayG gw = true := by simpa using e
    obtain ⟨st, rfl, rfl⟩ := way_str hw e1
    unfold kindG at q
    rw [if_pos e1] at q
    refine ⟨_, rfl, _, rfl, p, vz, gz, st, rfl, hz, _, rfl, iteB (fun e => ?_) (fun e => ?_)⟩
    · rw [if_neg (by rw [show sizeG gz (strG (.str st)) = false from by simpa [strG] using e]; exact Bool.false_ne_true)] at q
      exact q
    have e2 : sizeG gz (strG (.str st)) = true := by simpa [strG] using e
    rw [if_pos e2] at q
    refine ⟨_, rfl, rfl, _, rfl, iteF (iteF ?_)⟩
    refine ⟨_, rfl, rfl, _, rfl, iteF (iteF ?_)⟩
    exact q
theorem ok_kind {CF fI : Addr} {newId initId : String} {bmB : List Value} (OF : XC.Own P K mg "NoShelf" "part" CF fI "ValueError" newId initId bmB) (T : At K mg "look_at_kind" s_look_at_kind ["size", "way"]) (c_wrong_part : Cal P w K mg base 3 "wrong_part" ["size", "way", "slots", "bits"] spPart) : CalX P w K mg base 4 "look_at_kind" ["size", "way"] (spKind CF) := by
  refine cal_ofX T sc_look_at_kind (fun vs H Q E h => ?_) (fun f cdv A outer s H vs Q E hr h => ?_)
  · obtain ⟨p, vz, vw, gz, gw, rfl, _⟩ := h
    rfl
  · obtain ⟨p, vz, vw, gz, gw, rfl, hz, hw, qy, qn⟩ := h
    refine ⟨_, (pss_cons (ps_set (i := 2) sc_look_at_kind.nd rfl (Or.inl rfl) (pe_own c_wrong_part hr (by decide) (by rfl) (pa_cons (pv 0) (pa_cons (pv 1) (pa_cons pe_non (pa_cons pe_non pa_nil))))))
      (pss_one (ps_if (pt_cmpR op_notN (pv 2) pe_non (nomark _)) (pss_one (ps_raiseX rfl OF hr (takes_of rfl rfl rfl rfl) (pa_cons (pv 2) pa_nil))) pss_nil))), ?_⟩
    refine ⟨_, rfl, _, rfl, p, vz, vw, gz, gw, rfl, hz, hw, ?_⟩
    cases e : kindG gz gw with
    | none => exact ⟨_, rfl, rfl, _, rfl, iteF (qy e)⟩
    | some s => exact ⟨_, rfl, rfl, _, rfl, iteT ⟨_, rfl, _, rfl, fun d hd => qn s e _ d (same_upd hd) hd upd_same⟩⟩
end
end Su.GW
/-! ### AR: ages, the program's -/
namespace Su
open PySem PySem.Spec PyProof.Rows L2
/-- told: the least table, a list of its own, each row's lists its own -/
def spAgesX (C CF : Addr) : Sp := fun vs H Q E => ∃ v1 vz : V, vs = [v1, vz] ∧
  ((∃ (q : Addr) (g : G) (r : Option Nat), Tg q H v1 g ∧ GW.lookG g = some r ∧ ∀ (H' : Hp) (d : Addr), Same H H' → H d = none → H' d = some (.xd [("row", GW.rowV r)]) → E (.ref C) (some d) H') ∨
   (∃ (q p : Addr) (rs : List Rw) (gz : G), v1 = .ref p ∧ WebAt H p rs ∧ WebOk rs ∧ Tg q H vz gz ∧
    (∀ t, GW.kindG gz (.str "last") = some t → ∀ (H' : Hp) (d : Addr), Same H H' → H d = none → H' d = some (.xd [("part", .str t)]) → E (.ref CF) (some d) H') ∧
    ∀ s : Int, gz = .int s → 1 ≤ s → s ≤ 8 → ∀ (ms : List Int) (X : Tb) (L : Addr) (ad : Nat → Addr × Addr) (own : Addr → Nat × Bool) (H' : Hp), ms.Pairwise (· < ·) → (∀ k : Int, k ∈ ms ↔ k ∈ allRooms rs) → Least ms s rs X → Same H H' → H L = none → TAt H H' L X ad own → Q (.ref L) H'))
/-- the waiting rows -/
structure Wai (rs : List Rw) (X : Tb) (w : List Int) : Prop where
  nd : w.Nodup
  rg : ∀ k ∈ w, 0 ≤ k ∧ k < rs.length
  is : ∀ k ∈ w, ∃ p, X[k.toNat]? = some (some p)
theorem Wai.few {rs : List Rw} {X : Tb} {w : List Int} (h : Wai rs X w) : w.length ≤ rs.length := by
  have z := nodup_few (S := (List.range rs.length).map fun i => ((i : Nat) : Int)) h.nd fun k hk => by
    have := h.rg k hk
    exact List.mem_map.mpr ⟨k.toNat, List.mem_range.mpr (by omega), by omega⟩
  rwa [List.length_map, List.length_range] at z
theorem sc_ages : FnScope ["web", "size", "rooms", "told", "waiting", "row", "come", "to", "both"] ["web", "size"] (defScope s_ages) := ⟨rfl, rfl, rfl, by decide +kernel, rfl, by decide +kernel, by decide +kernel⟩
section
variable {P : Program} {w : World} {K : PySem.W.Frag} {mg : Str → Option Value} {base : Heap}
theorem ok_agesX {C CF : Addr} (T : AtD K mg "ages" s_ages ["web", "size"] [.int 4]) (B : Bt mg) (c_look_at_web : CalX P w K mg base 5 "look_at_web" ["thing"] (GW.spLook C)) (c_look_at_kind : CalX P w K mg base 4 "look_at_kind" ["size", "way"] (GW.spKind CF)) (c_rooms_in : Cal P w K mg base 1 "rooms_in" ["rows"] (spRoomsIn w))
    (c_first_ages : Cal P w K mg base 1 "first_ages" ["rooms", "size"] spFirst) (c_joined_ages : Cal P w K mg base 1 "joined_ages" ["one", "other"] spJoin) (c_behind_row : Cal P w K mg base 2 "behind_row" ["pair", "asks", "rooms", "size"] spBRow) :
    CalX P w K mg base 6 "ages" ["web", "size"] (spAgesX C CF) := by
  refine cal_ofXD T sc_ages (fun vs H Q E h => ?_) (fun f cdv A outer s' H vs Q E hr h => ?_)
  · obtain ⟨v1, vz, rfl, _⟩ := h
    rfl
  · obtain ⟨v1, vz, rfl, h⟩ := h
    refine ⟨_, (pss_cons (ps_expr (pe_ownX (takes_of rfl rfl rfl rfl) c_look_at_web hr (by decide) (by rfl) (pa_cons (pv 0) pa_nil)))
      (pss_cons (ps_expr (pe_ownX (takes_of rfl rfl rfl rfl) c_look_at_kind hr (by decide) (by rfl) (pa_cons (pv 1) (pa_cons pe_str pa_nil))))
      (pss_cons (ps_set (i := 2) sc_ages.nd rfl (Or.inl rfl) (pe_own c_rooms_in hr (by decide) (by rfl) (pa_cons (pv 0) pa_nil)))
      (pss_cons (ps_set (i := 3) sc_ages.nd rfl (Or.inl rfl) (pe_op op_rep (pe_lst (pa_cons pe_non pa_nil)) (pe_callB call_len_seq (by rfl) B.len PySem.boot_len (pa_cons (pv 0) pa_nil))))
      (pss_cons (ps_asg (pe_own c_first_ages hr (by decide) (by rfl) (pa_cons (pv 2) (pa_cons (pv 1) pa_nil))) (pg_sub (pv 3) pe_int set_list))
      (pss_cons (ps_set (i := 4) sc_ages.nd rfl (Or.inl rfl) (pe_lst (pa_cons pe_int pa_nil)))
      (pss_cons (ps_while (passes_of rfl) (pt_cmpR op_gt (pe_callB call_len_seq (by rfl) B.len PySem.boot_len (pa_cons (pv 4) pa_nil)) pe_int (nomark _)) (pss_cons (ps_set (i := 5) sc_ages.nd rfl (Or.inl rfl) (pe_bm PySem.F.plainAttrs_list PySem.F.slot_list_pop PySem.F.type_list_pop mt_popAt (pv 4) (pa_cons pe_int pa_nil)))
      (pss_cons (ps_set (i := 6) sc_ages.nd rfl (Or.inl rfl) (pe_own c_behind_row hr (by decide) (by rfl) (pa_cons (pe_ix ix_list (pv 3) (pv 5) (fun _ _ => rfl)) (pa_cons (pe_ix ix_tup (pe_ix ix_list (pv 0) (pv 5) (fun _ _ => rfl)) pe_int (fun _ _ => rfl)) (pa_cons (pv 2) (pa_cons (pv 1) pa_nil))))))
      (pss_one (ps_for (passes_of rfl) rfl (pi_tup (pe_ix ix_tup (pe_ix ix_list (pv 0) (pv 5) (fun _ _ => rfl)) pe_int (fun _ _ => rfl))) (pg_name (i := 7) sc_ages.nd rfl (Or.inl rfl)) (pss_cons (ps_set (i := 8) sc_ages.nd rfl (Or.inl rfl) (pe_ifExp (pt_cmpR op_isN (pe_ix ix_list (pv 3) (pv 7) (fun _ _ => rfl)) pe_non (nomark _)) (pv 6) (pe_own c_joined_ages hr (by decide) (by rfl) (pa_cons (pe_ix ix_list (pv 3) (pv 7) (fun _ _ => rfl)) (pa_cons (pv 6) pa_nil)))))
      (pss_one (ps_if (pt_cmpR (op_neD hr.units) (pv 8) (pe_ix ix_list (pv 3) (pv 7) (fun _ _ => rfl)) (nomark _)) (pss_cons (ps_asg (pe_tupF (pa_cons (pe_callTy call_list_of (by rfl) B.list (by decide +kernel) (pa_cons (pe_ix ix_tup (pv 8) pe_int (fun _ _ => rfl)) pa_nil)) (pa_cons (pe_callTy call_list_of (by rfl) B.list (by decide +kernel) (pa_cons (pe_ix ix_tup (pv 8) pe_int (fun _ _ => rfl)) pa_nil)) pa_nil))) (pg_sub (pv 3) (pv 7) set_list))
      (pss_one (ps_if (pt_cmpR op_notIn_seq (pv 7) (pv 4) (by rfl)) (pss_one (ps_expr (pe_bm PySem.F.plainAttrs_list PySem.F.slot_list_append PySem.F.type_list_append mt_append (pv 4) (pa_cons (pv 7) pa_nil)))) pss_nil))) pss_nil))))))))
      (pss_one (ps_ret (pv 3)))))))))), ?_⟩
    rcases h with ⟨q0, g, r, hv, lk, qn⟩ | ⟨q0, p, rs, gz, rfl, hw, ok, tz, qkind, qy⟩
    · refine ⟨_, rfl, q0, v1, g, rfl, hv, fun e => ?_, fun r' e H1 d s1 nd hd => ?_⟩
      · rw [lk] at e
        cases e
      · rw [lk] at e
        cases e
        exact qn H1 d s1 nd hd
    refine ⟨_, rfl, p + 1, .ref p, _, rfl, GW.tg_web hw (Nat.ne_of_lt (Nat.lt_succ_self p)), fun _ H1 t1 => ?_, fun r' e => ?_⟩
    rotate_left
    · rw [GW.look_web ok] at e
      cases e
    refine ⟨_, rfl, q0, vz, .str "last", gz, .str "last", rfl, tz.keep (Keeps.same t1), .str _, fun ek => ?_, fun st ek H2 d s2 nd hd => qkind st ek H2 d (t1.trans s2) (t1.free nd) hd⟩
    obtain ⟨n, x, rfl, ex, kd⟩ := GW.kind_ok ek
    cases ex
    cases tz
    have s1 : (1 : Int) ≤ n := kd.lo
    have s8 : (n : Int) ≤ 8 := kd.hi
    have q := qy n rfl s1 s8
    clear qy qkind ek kd
    generalize (n : Int) = s at s1 s8 q ⊢
    obtain ⟨A, hA, hin⟩ := ok.all
    have hw1 := hw.same t1
    refine ⟨_, rfl, p, rs, A, rfl, hw1, by omega, hin, fun ms u H2 pw mem t2 nu hu => ?_⟩
    have hw2 := hw1.same t2
    have m12 : ms.length ≤ 12 := by
      have := nodup_few (S := A) (pw.imp fun h => Int.ne_of_lt h) fun k hk => hin k ((mem k).mp hk)
      omega
    obtain ⟨ws, hp2, hrs⟩ := id hw2
    have wl := hrs.len
    have r80 := ok.few
    have rpos := ok.pos
    refine ⟨(by show 1 ≤ sizeLine; decide), fun b nb => ?_⟩
    have hpb : (upd H2 b (.lst [V.non])) p = some (.lst ws) := same_upd nb _ _ hp2
    refine ⟨_, rfl, p, _, rfl, .inl (SqL.of hpb), b, _, _, rfl, rfl, upd_same, by omega, by omega, ?_, fun L nL0 => ?_⟩
    · show 1 * _ ≤ _
      have := sz1000 (n := ws.length) (by omega)
      omega
    rw [Int.toNat_natCast, rep_flat, wl]
    have tL : Same H2 (upd (upd H2 b (.lst [V.non])) L (.lst (List.replicate rs.length V.non))) := (same_upd nb).trans (same_upd nL0)
    have nL2 : H2 L = none := (same_upd nb).free nL0
    have nL : H L = none := t1.free (t2.free nL2)
    have hu2 := tL _ _ hu
    refine ⟨_, rfl, _, rfl, u, ms, s, rfl, hu2, by omega, fun v H3 t3 hv => ?_⟩
    have hL3 : H3 L = some (.lst (List.replicate rs.length V.non)) := t3 _ _ upd_same
    refine ⟨_, rfl, L, _, _, _, rfl, rfl, hL3, ixN_of (n := (List.replicate rs.length V.non).length) (j := 0) (by rw [List.length_replicate]; omega), ?_⟩
    obtain ⟨t, a, b2, rfl, ht, ha, hb, na, nb2, ab⟩ := id hv
    have s0 : ∀ c o, H c = some o → (upd (upd H2 b (.lst [V.non])) L (.lst (List.replicate rs.length V.non))) c = some o := fun c o e => tL _ _ (t2 _ _ (t1 _ _ e))
    have T0 : TAt H (upd (upd H2 b (.lst [V.non])) L (.lst (List.replicate rs.length V.non))) L (List.replicate rs.length none) (fun _ => (0, 0)) (fun _ => (0, false)) := by
      refine ⟨⟨_, upd_same, by rw [List.length_replicate, List.length_replicate], fun i v e => .inl ?_⟩, fun i p e => ?_⟩
      · have lt := (List.getElem?_eq_some_iff.mp e).1
        rw [List.length_replicate] at lt
        refine ⟨by rw [List.getElem?_replicate_of_lt lt], ?_⟩
        rw [List.getElem?_replicate_of_lt lt] at e
        injection e with e
        exact e.symm
      · have := List.mem_of_getElem? e
        exact absurd (List.eq_of_mem_replicate this) (by simp)
    obtain ⟨vs0, e0, _, T1⟩ := T0.set s0 t3 (p := firstP ms.length s) (i := 0) (by rw [List.length_replicate]; omega) na nb2 ab ht ha hb
    rw [hL3] at e0
    injection e0 with e0
    injection e0 with e0
    subst e0
    have L0 : Low ms s rs (start0 ms s rs) := Low.start (by omega) (by omega)
    have sH3 : Same H2 (upd H3 L (.lst ((List.replicate rs.length V.non).set 0 (.ref t)))) := fun c o e => by
      rw [upd_ne (ne_of_none e nL2)]
      exact t3 _ _ (tL _ _ e)
    refine ⟨(by show 1 ≤ sizeLine; decide), fun Wd nW => ?_⟩
    have nW2 : H2 Wd = none := sH3.free nW
    have LW : L ≠ Wd := ne_of_none (H := upd H3 L (.lst ((List.replicate rs.length V.non).set 0 (.ref t)))) upd_same nW
    have hs0 : ∀ {c o}, H c = some o → H2 c = some o := fun e => t2 _ _ (t1 _ _ e)
    refine while_m (fun m σ H4 => ∃ (X : Tb) (ad : Nat → Addr × Addr) (own : Addr → Nat × Bool) (wt : List Int) (y5 y6 y7 y8 : Option V), m = 2 * pot ms.length s X + wt.length ∧ σ = [some (.ref p), some (.int s), some (.ref u), some (.ref L), some (.ref Wd), y5, y6, y7, y8] ∧ TAt H H4 L X ad own ∧ Off Wd X ad ∧ Low ms s rs X ∧ H4 Wd = some (.lst (wt.map V.int)) ∧ Wai rs X wt ∧ (∀ (i : Nat) (r : Rw), rs[i]? = some r → (i : Int) ∉ wt → Kpt ms s X i r) ∧ Same H2 H4) (2 * pot ms.length s (start0 ms s rs) + 1) ?_ ?_ ?_
    · refine ⟨start0 ms s rs, _, _, [0], none, none, none, none, rfl, rfl, T1.same (same_upd nW), fun i p e => ?_, L0, upd_same, ⟨by simp, fun k hk => ?_, fun k hk => ?_⟩, fun i r er hi p0 ep => ?_, sH3.trans (same_upd nW)⟩
      · have o := T1.cell e
        obtain ⟨vs, v, ev, eiv, cv⟩ := o
        obtain ⟨vs', ev', lv', cs⟩ := T1.ex
        rw [ev] at ev'
        injection ev' with ev'
        injection ev' with ev'
        subst ev'
        rcases cs i v eiv with ⟨z, _⟩ | ⟨_, _, _, _, _, z4, z5⟩
        · have z' : (start0 ms s rs)[i]? = some none := z
          rw [e] at z'
          cases z'
        · exact ⟨ne_of_none z4 nW, ne_of_none z5 nW⟩
      · rw [List.mem_singleton.mp hk]
        omega
      · rw [List.mem_singleton.mp hk]
        obtain ⟨q0, e, _⟩ := L0.zero
        exact ⟨q0, e⟩
      · have i0 : i ≠ 0 := fun z => hi (by rw [z]; exact List.mem_singleton.mpr rfl)
        unfold start0 at ep
        rw [List.getElem?_set_ne (fun z => i0 z.symm)] at ep
        have := List.mem_of_getElem? ep
        exact absurd (List.eq_of_mem_replicate this) (by simp)
    · rintro m σ H4 ⟨X, ad, own, wt, y5, y6, y7, y8, rfl, rfl, hT, hoff, hlow, hW, wai, kpt, t4⟩
      refine ⟨_, rfl, Wd, _, rfl, .inl (SqL.of hW), _, _, rfl, rfl, _, rfl, iteB (fun z => ?_) (fun z => ?_)⟩
      · obtain ⟨k0, w0, rfl⟩ : ∃ k0 w0, wt = k0 :: w0 := by
          cases wt with
          | nil => exact absurd (of_decide_eq_true z) (by decide)
          | cons k0 w0 => exact ⟨k0, w0, rfl⟩
        have g0 := wai.rg k0 List.mem_cons_self
        obtain ⟨x, ex⟩ := wai.is k0 List.mem_cons_self
        obtain ⟨kn, rfl⟩ : ∃ kn : Nat, k0 = (kn : Int) := ⟨k0.toNat, by omega⟩
        rw [Int.toNat_natCast] at ex
        have nd0 := List.nodup_cons.mp wai.nd
        refine ⟨_, rfl, .inl ⟨rfl, _, SqL.of hW⟩, Wd, _, 0, 0, .int kn, rfl, rfl, hW, by decide, by decide, by simp [seqIndex?], rfl, ?_⟩
        have eW5 : (upd H4 Wd (.lst (w0.map V.int))) Wd = some (.lst (w0.map V.int)) := upd_same
        have t5 : Same H2 (upd H4 Wd (.lst (w0.map V.int))) := fun c o e => by
          rw [upd_ne (ne_of_none e nW2)]
          exact t4 _ _ e
        have hT5 : TAt H (upd H4 Wd (.lst (w0.map V.int))) L X ad own := hT.updW hoff hW LW
        show tSeq _ _ _ _ (upd H4 Wd (.lst (w0.map V.int)))
        generalize upd H4 Wd (.lst (w0.map V.int)) = H5 at eW5 t5 hT5 ⊢
        have kr : kn < rs.length := by omega
        have kw : ws[kn]? = some ws[kn] := List.getElem?_eq_getElem (by omega)
        obtain ⟨r, er, ra, rb, rc, ew, hra, hrb, hrc⟩ := hrs.get kw
        have rok := ok.row r (List.mem_of_getElem? er)
        obtain ⟨vs5, xv, eL5, exv, hxv⟩ := hT5.cellX hoff ex
        obtain ⟨okc, lec⟩ := hlow.come (by omega) er ex
        have okx := hlow.tok.ok _ _ ex
        refine ⟨_, rfl, _, rfl, L, _, _, _, rfl, rfl, SqL.of eL5, atI_nat exv, ?_⟩
        refine ⟨_, rfl, _, rfl, p, _, _, _, rfl, rfl, SqL.of (t5 _ _ hp2), atI_nat (by rw [kw, ew]), ra, _, _, _, rfl, rfl, (hra.same t5).sq, atI_nat (j := 0) rfl, ?_⟩
        have rin : ∀ k ∈ r.1, k ∈ ms := fun k hk => (mem k).mpr (List.mem_flatten.mpr ⟨r.1, List.mem_map.mpr ⟨r, List.mem_of_getElem? er, rfl⟩, hk⟩)
        refine ⟨_, rfl, _, rfl, xv, rb, u, r, x, ms, s, rfl, hxv.at, hrb.same t5, t5 _ _ hu, okx, rin, ?_, by omega, by omega, by omega, fun cv H6 t6 hcv => ?_⟩
        · have h6 := nodup_few (S := A) (rok.rooms.pw.imp fun h => Int.ne_of_lt h) fun k hk => hin k ((mem k).mp (rin k hk))
          omega
        have hcx : PairX L Wd H6 cv (comeP ms s r x) := by
          rcases hcv with h | ⟨rfl, e⟩
          · exact h.x eL5 eW5
          · rw [e]
            exact hxv.same t6
        have t7 : Same H2 H6 := t5.trans t6
        refine ⟨_, rfl, _, rfl, p, _, _, _, rfl, rfl, SqL.of (t7 _ _ hp2), atI_nat (by rw [kw, ew]), ra, _, _, _, rfl, rfl, (hra.same t7).sq, atI_nat (j := 1) rfl, rc, rfl, ⟨_, (hrc.same t7).sq⟩, ?_⟩
        refine for_tup (K := K) (a := rc) (xs := r.2.map V.int) (fun i σ H7 => ∃ (X' : Tb) (ad' : Nat → Addr × Addr) (own' : Addr → Nat × Bool) (w' : List Int) (y7 y8 : Option V), σ = [some (.ref p), some (.int s), some (.ref u), some (.ref L), some (.ref Wd), some (.int kn), some cv, y7, y8] ∧ TAt H H7 L X' ad' own' ∧ Off Wd X' ad' ∧ Low ms s rs X' ∧ H7 Wd = some (.lst (w'.map V.int)) ∧ Wai rs X' w' ∧ (∀ k ∈ w0, k ∈ w') ∧ (∀ k : Nat, (k : Int) ∉ w' → X'[k]? = X[k]?) ∧ TLe X X' ∧ (∀ t ∈ r.2.take i, ∃ q, X'[t.toNat]? = some (some q) ∧ PLe (comeP ms s r x) q) ∧ PairX L Wd H7 cv (comeP ms s r x) ∧ Same H2 H7 ∧ 2 * pot ms.length s X' + w'.length ≤ 2 * pot ms.length s X + w0.length) ?_ ?_ ?_ ?_
        · exact ⟨X, ad, own, w0, _, _, rfl, hT5.same t6, hoff, hlow, t6 _ _ eW5, ⟨nd0.2, fun k hk => wai.rg k (List.mem_cons_of_mem _ hk), fun k hk => wai.is k (List.mem_cons_of_mem _ hk)⟩, fun _ h => h, fun _ _ => rfl, TLe.refl X, fun t ht => (List.not_mem_nil ht).elim, hcx, t7, Nat.le_refl _⟩
        · rintro i σ H7 _ ⟨_, _, _, _, _, _, _, _, _, _, _, _, _, _, _, _, _, t8, _⟩
          exact (hrc.same t8).sq
        · rintro i v σ H7 hv ⟨X', ad', own', w', y7, y8, rfl, hT7, hoff7, hlow7, hW7, wai7, sub7, eq7, le7, tos7, hcx7, t8, pot7⟩
          obtain ⟨t, et, rfl⟩ := map_get_int hv
          have tin := List.mem_of_getElem? et
          have tg0 := rok.tos.lo _ tin
          have tg1 := rok.tos.hi _ tin
          obtain ⟨tn, rfl⟩ : ∃ tn : Nat, t = (tn : Int) := ⟨t.toNat, by omega⟩
          have tl : tn < X'.length := by
            rw [hlow7.tok.len]
            omega
          have eo : X'[tn]? = some X'[tn] := List.getElem?_eq_getElem tl
          obtain ⟨vs7, ov, eL7, eov, hov⟩ := hT7.cell eo
          generalize X'[tn] = o at eo hov
          have oko : ∀ q, o = some q → POk ms.length s q := fun q e => hlow7.tok.ok tn q (by rw [eo, e])
          have okR : POk ms.length s (riseO o (comeP ms s r x)) := by
            cases o with
            | none => exact okc
            | some q => exact joinP_ok (oko q rfl) okc
          refine mid_gex (fun y H8 => Same H7 H8 ∧ PairAt H8 y (riseO o (comeP ms s r x))) (fun y H8 ⟨t9, hy⟩ => ?_) (fun R hR => ?_)
          · have eL8 := t9 _ _ eL7
            have hov8 := hov.same t9
            have fo := (o_fine oko m12 (by omega)).shaped (by decide)
            have fr := (pr_fine okR m12 (by omega)).shaped (by decide)
            have ev : PyData.eqv (prD (riseO o (comeP ms s r x))) (oD o) = decide (some (riseO o (comeP ms s r x)) = o) := o_eqv (some (riseO o (comeP ms s r x))) o
            refine ⟨_, rfl, _, rfl, _, rfl, L, _, _, _, rfl, rfl, SqL.of eL8, atI_nat eov, _, _, hy.dp, hov8.dp, fr, fo, _, rfl, ?_⟩
            rw [ev]
            have lecY := fun Y hY => lec (tn : Int) tin Y hY
            rw [Int.toNat_natCast] at lecY
            obtain ⟨lowR, leR, atR⟩ := hlow7.rise (i := kn) (r := r) (p := x) (by omega) eo okc lecY
            refine iteB (fun z => ?_) (fun z => ?_)
            · have ne : some (riseO o (comeP ms s r x)) ≠ o := fun e => by
                rw [decide_eq_true e] at z
                cases z
              obtain ⟨ty, ya, yb, rfl, hty, hya, hyb⟩ := hy
              refine ⟨_, rfl, ty, _, _, _, rfl, rfl, hty.sq, atI_nat (j := 0) rfl, ya, _, rfl, .inl (SqL.of hya), fun a3 na3 => ?_⟩
              have hty' := hty.same (same_upd (o := .lst ((riseO o (comeP ms s r x)).1.map V.int)) na3)
              refine ⟨_, rfl, ty, _, _, _, rfl, rfl, hty'.sq, atI_nat (j := 1) rfl, yb, _, rfl, .inl (SqL.of (same_upd na3 _ _ hyb)), fun b3 nb3 => ?_⟩
              refine ⟨(by show 2 ≤ sizeLine; decide), fun t3' H9 t10 _ hpt => ?_⟩
              have t89 : Same H8 H9 := ((same_upd na3).trans (same_upd nb3)).trans t10
              have ha3 : H9 a3 = some (.lst ((riseO o (comeP ms s r x)).1.map V.int)) := t10 _ _ (same_upd nb3 _ _ upd_same)
              have hb3 : H9 b3 = some (.lst ((riseO o (comeP ms s r x)).2.map V.int)) := t10 _ _ upd_same
              have nb8 : H8 b3 = none := (same_upd na3).free nb3
              have nab : a3 ≠ b3 := ne_of_none (H := upd H8 a3 (.lst ((riseO o (comeP ms s r x)).1.map V.int))) upd_same nb3
              have t8' : Same H2 H8 := t8.trans t9
              obtain ⟨vs9, eL9, lv9, T9⟩ := (hT7.same t9).set (fun c o e => t8' _ _ (hs0 e)) t89 (p := riseO o (comeP ms s r x)) (i := tn) tl na3 nb8 nab hpt ha3 hb3
              have ev9 : vs9 = vs7 := by
                have := t89 _ _ eL8
                rw [eL9] at this
                injection this with this
                injection this
              subst ev9
              have tv : tn < vs9.length := (List.getElem?_eq_some_iff.mp eov).1
              refine ⟨_, rfl, _, rfl, L, _, _, _, rfl, rfl, eL9, ixN_of tv, ?_⟩
              have eW9 : H9 Wd = some (.lst (w'.map V.int)) := t89 _ _ (t9 _ _ hW7)
              have eW10 : (upd H9 L (.lst (vs9.set tn (.ref t3')))) Wd = some (.lst (w'.map V.int)) := by
                rw [upd_ne LW.symm]
                exact eW9
              have t11 : Same H2 (upd H9 L (.lst (vs9.set tn (.ref t3')))) := fun c o e => by
                rw [upd_ne (ne_of_none e nL2)]
                exact t89 _ _ (t8' _ _ e)
              have hcx9 : PairX L Wd (upd H9 L (.lst (vs9.set tn (.ref t3')))) cv (comeP ms s r x) := ((hcx7.same t9).same t89).updL eL9
              have off9 : Off Wd (X'.set tn (some (riseO o (comeP ms s r x)))) (fun j => if j = tn then (a3, b3) else ad' j) := by
                intro j q e
                have w8 := t9 _ _ hW7
                show (if j = tn then (a3, b3) else ad' j).1 ≠ Wd ∧ (if j = tn then (a3, b3) else ad' j).2 ≠ Wd
                rcases getElem?_set_some e with ⟨rfl, _⟩ | ⟨ij, e2⟩
                · rw [if_pos rfl]
                  exact ⟨(ne_of_none w8 na3).symm, (ne_of_none w8 nb8).symm⟩
                · have ji : ¬ j = tn := fun z => ij z.symm
                  rw [if_neg ji]
                  exact hoff7 j q e2
              have eq9 : ∀ k : Nat, k ≠ tn → (k : Int) ∉ w' → (X'.set tn (some (riseO o (comeP ms s r x))))[k]? = X[k]? := fun k hk hw => by
                rw [List.getElem?_set_ne (fun z => hk z.symm)]
                exact eq7 k hw
              have tos9 : ∀ t ∈ r.2.take (i + 1), ∃ q, (X'.set tn (some (riseO o (comeP ms s r x))))[t.toNat]? = some (some q) ∧ PLe (comeP ms s r x) q := by
                intro t ht
                rw [List.take_add_one, et] at ht
                rcases List.mem_append.mp ht with z | z
                · obtain ⟨q, e, l⟩ := tos7 t z
                  obtain ⟨q2, e2, l2⟩ := leR _ _ e
                  exact ⟨q2, e2, l.trans l2⟩
                · rw [List.mem_singleton.mp z, Int.toNat_natCast]
                  exact atR
              have is9 : ∀ k ∈ w', ∃ p, (X'.set tn (some (riseO o (comeP ms s r x))))[k.toNat]? = some (some p) := fun k hk => by
                obtain ⟨q, e⟩ := wai7.is k hk
                obtain ⟨q2, e2, _⟩ := leR _ _ e
                exact ⟨q2, e2⟩
              have pot9 := pot_set eo oko okc ne
              have few7 := wai7.few
              refine ⟨_, rfl, _, rfl, Wd, _, rfl, .inl (SqL.of eW10), rfl, all_flat w', _, rfl, ?_⟩
              rw [inV_ints]
              refine iteB (fun z2 => ?_) (fun z2 => ?_)
              · have nw : (tn : Int) ∉ w' := fun h => by
                  have z2' : (!decide ((tn : Int) ∈ w')) = true := z2
                  rw [decide_eq_true h] at z2'
                  cases z2'
                refine ⟨_, rfl, .inl ⟨rfl, _, SqL.of eW10⟩, _, rfl, Wd, _, _, rfl, rfl, eW10, small1000 (by rw [List.length_map]; omega), ?_⟩
                refine ⟨_, _, _, w' ++ [(tn : Int)], _, _, rfl, T9.updW off9 eW10 LW, off9, lowR, ?_, ⟨?_, ?_, ?_⟩, fun k hk => List.mem_append_left _ (sub7 k hk), fun k hk => ?_, le7.trans leR, tos9, hcx9.updW eW10, ?_, ?_⟩
                · rw [upd_same, List.map_append]
                  rfl
                · rw [List.nodup_append]
                  refine ⟨wai7.nd, by simp, fun a1 h1 b1 h2 => ?_⟩
                  rw [List.mem_singleton.mp h2]
                  rintro rfl
                  exact nw h1
                · intro k hk
                  rcases List.mem_append.mp hk with h | h
                  · exact wai7.rg k h
                  · rw [List.mem_singleton.mp h]
                    omega
                · intro k hk
                  rcases List.mem_append.mp hk with h | h
                  · exact is9 k h
                  · rw [List.mem_singleton.mp h, Int.toNat_natCast]
                    obtain ⟨q, e, _⟩ := atR
                    exact ⟨q, e⟩
                · have h1 : (k : Int) ∉ w' := fun h => hk (List.mem_append_left _ h)
                  have h2 : k ≠ tn := fun h => hk (by rw [h]; exact List.mem_append_right _ (List.mem_singleton.mpr rfl))
                  exact eq9 k h2 h1
                · intro c o e
                  rw [upd_ne (ne_of_none e nW2)]
                  exact t11 _ _ e
                · rw [List.length_append, List.length_singleton]
                  omega
              · have yw : (tn : Int) ∈ w' := by
                  have z2' : (!decide ((tn : Int) ∈ w')) = false := z2
                  by_cases h : (tn : Int) ∈ w'
                  · exact h
                  · rw [decide_eq_false h] at z2'
                    cases z2'
                refine ⟨_, _, _, w', _, _, rfl, T9, off9, lowR, eW10, ⟨wai7.nd, wai7.rg, is9⟩, sub7, fun k hk => ?_, le7.trans leR, tos9, hcx9, t11, by omega⟩
                exact eq9 k (fun h => hk (by rw [h]; exact yw)) hk
            · have e : some (riseO o (comeP ms s r x)) = o := by
                by_cases h : some (riseO o (comeP ms s r x)) = o
                · exact h
                · rw [decide_eq_false h] at z
                  cases z
              obtain ⟨q0, e0, l0⟩ := rise_same oko okc e
              refine ⟨X', ad', own', w', _, _, rfl, hT7.same t9, hoff7, hlow7, t9 _ _ hW7, wai7, sub7, eq7, le7, fun t ht => ?_, hcx7.same t9, t8.trans t9, pot7⟩
              rw [List.take_add_one, et] at ht
              rcases List.mem_append.mp ht with z | z
              · exact tos7 t z
              · rw [List.mem_singleton.mp z, Int.toNat_natCast]
                exact ⟨q0, by rw [eo, e0], l0⟩
          · refine ⟨_, rfl, _, rfl, L, _, _, _, rfl, rfl, SqL.of eL7, atI_nat eov, rfl, _, rfl, ?_⟩
            cases o with
            | none =>
              rw [show ov = .non from hov]
              exact iteT ⟨_, rfl, hR _ _ ⟨Same.refl _, hcx7.at⟩⟩
            | some q0 =>
              obtain ⟨tt, ta, tb, rfl, _⟩ := id hov
              refine iteF ⟨_, rfl, _, rfl, L, _, _, _, rfl, rfl, SqL.of eL7, atI_nat eov, _, rfl, _, _, _, _, _, s, rfl, hov, hcx7.at, oko q0 rfl, okc, by omega, fun v2 H8 t9 hv2 => hR _ _ ⟨t9, hv2.at⟩⟩
        · rintro σ H7 ⟨X', ad', own', w', y7, y8, rfl, hT7, hoff7, hlow7, hW7, wai7, sub7, eq7, le7, tos7, hcx7, t8, pot7⟩
          rw [List.length_map, List.take_length] at tos7
          refine ⟨_, ?_, X', ad', own', w', _, _, _, _, rfl, rfl, hT7, hoff7, hlow7, hW7, wai7, fun i r' er' hi p' ep' t ht => ?_, t8⟩
          · rw [List.length_cons]
            omega
          · have e1 := eq7 i hi
            rw [ep'] at e1
            by_cases ik : i = kn
            · subst ik
              rw [er] at er'
              injection er' with er'
              subst er'
              rw [ex] at e1
              injection e1 with e1
              injection e1 with e1
              subst e1
              exact tos7 t ht
            · have nw : (i : Int) ∉ (kn : Int) :: w0 := fun h => by
                rcases List.mem_cons.mp h with h | h
                · exact ik (by omega)
                · exact hi (sub7 _ h)
              obtain ⟨q0, e0, l0⟩ := kpt i r' er' nw p' e1.symm t ht
              obtain ⟨q2, e2, l2⟩ := le7 _ _ e0
              exact ⟨q2, e2, l0.trans l2⟩
      · have e : wt = [] := by
          cases wt with
          | nil => rfl
          | cons k0 w0 => exact absurd (of_decide_eq_false z) (by rw [List.map_cons, List.length_cons]; omega)
        subst e
        refine ⟨_, rfl, q ms X L ad own H4 pw mem (hlow.least fun i r er => kpt i r er (List.not_mem_nil)) ((t1.trans t2).trans t4) nL hT⟩
    · rintro σ H3 Q1 Q2 hQ ⟨v, e1, p2, ys, e3, e4, i, j, e5, e6, k, e7, e8⟩
      exact ⟨v, e1, p2, ys, e3, e4, i, j, e5, e6, k, e7, hQ _ _ e8⟩
end
end Su
/-! ### LA: whether these are ages that hold, the program's -/
namespace Su
open PySem PySem.Spec PyProof.Rows L2
def wholeG : G → Bool
  | .int _ => true
  | _ => false
def valI : G → Int
  | .int i => i
  | _ => 0
def ageG (s : Int) : G → Bool
  | .int i => decide (0 ≤ i) && decide (i ≤ s)
  | _ => false
def nlG (n : Nat) (s : Int) : G → Bool
  | .lst l => decide (l.length = n) && (l.map (ageG s)).all id
  | _ => false
def prG (n : Nat) (s : Int) : G → Bool
  | .tup l => decide (l.length = 2) && (l.map (nlG n s)).all id
  | _ => false
def celG (n : Nat) (s : Int) : G → Bool
  | .non => true
  | g => prG n s g
def tabG (n : Nat) (s : Int) (m : Nat) : G → Bool
  | .lst l => decide (l.length = m) && (l.map (celG n s)).all id
  | _ => false
def celO : G → Option Pr
  | .tup [.lst a, .lst b] => some (a.map valI, b.map valI)
  | _ => none
def tbO : G → Tb
  | .lst l => l.map celO
  | _ => []
/-- what comes is in the row already -/
def allowB (o : Option Pr) (c : Pr) : Bool := match o with
  | none => false
  | some q => decide (joinP q c = q)
def holdT (X : Tb) (c : Pr) (t : Int) : Bool := match X[t.toNat]? with
  | some o => allowB o c
  | none => false
def holdR (ms : List Int) (s : Int) (X : Tb) (r : Rw) : Option Pr → Bool
  | none => true
  | some p => r.2.all (holdT X (comeP ms s r p))
def holdB (ms : List Int) (s : Int) (rs : List Rw) (X : Tb) : Bool := (List.range rs.length).all fun i => holdR ms s X (rs.getD i ([], [])) (X.getD i none)
def letsB (ms : List Int) (s : Int) (rs : List Rw) (g : G) : Bool := tabG ms.length s rs.length g && (decide ((tbO g)[0]? = some (some (firstP ms.length s))) && holdB ms s rs (tbO g))
theorem nl_at {p : Addr} {H : Hp} {n : Nat} {s : Int} {v : V} {g : G} (h : Tg p H v g) (e : nlG n s g = true) : ∃ a l, v = .ref a ∧ g = .lst l ∧ H a = some (.lst ((l.map valI).map V.int)) ∧ (l.map valI).length = n ∧ ∀ x ∈ l.map valI, 0 ≤ x ∧ x ≤ s := by
  cases h with
  | @lst a vs l na ea t =>
    have e' : (decide (l.length = n) && (l.map (ageG s)).all id) = true := e
    rw [Bool.and_eq_true, decide_eq_true_eq] at e'
    have go : ∀ {vs : List V} {l : List G}, TgL p H vs l → (l.map (ageG s)).all id = true → vs = (l.map valI).map V.int ∧ ∀ x ∈ l.map valI, 0 ≤ x ∧ x ≤ s := by
      intro vs l t
      induction l generalizing vs with
      | nil =>
        intro _
        cases t
        exact ⟨rfl, fun x hx => by cases hx⟩
      | cons g l ih =>
        intro hz
        cases t with
        | cons h t =>
          rw [List.map_cons, List.all_cons, Bool.and_eq_true] at hz
          obtain ⟨e1, e2⟩ := ih t hz.2
          have hz1 : ageG s g = true := hz.1
          cases h with
          | int i =>
            have z : (decide (0 ≤ i) && decide (i ≤ s)) = true := hz1
            rw [Bool.and_eq_true, decide_eq_true_eq, decide_eq_true_eq] at z
            refine ⟨by rw [e1]; rfl, fun x hx => ?_⟩
            rw [List.map_cons] at hx
            rcases List.mem_cons.mp hx with rfl | hx
            · exact z
            · exact e2 x hx
          | _ => cases hz1
    obtain ⟨e1, e2⟩ := go t e'.2
    rw [e1] at ea
    exact ⟨a, l, rfl, rfl, ea, by rw [List.length_map]; exact e'.1, e2⟩
  | _ => cases e
theorem pr_at {p : Addr} {H : Hp} {n : Nat} {s : Int} {v : V} {g : G} (h : Tg p H v g) (e : prG n s g = true) : ∃ q, celO g = some q ∧ PairAt H v q ∧ POk n s q := by
  cases h with
  | @tup a vs l ea t =>
    have e' : (decide (l.length = 2) && (l.map (nlG n s)).all id) = true := e
    rw [Bool.and_eq_true, decide_eq_true_eq] at e'
    obtain ⟨l2, e3⟩ := e'
    cases t with
    | nil => cases l2
    | cons h1 t =>
      cases t with
      | nil => cases l2
      | cons h2 t =>
        cases t with
        | cons h3 t =>
          simp at l2
        | nil =>
          simp only [List.map_cons, List.map_nil, List.all_cons, List.all_nil, Bool.and_true, Bool.and_eq_true, id] at e3
          obtain ⟨a1, x1, rfl, rfl, b1, c1, d1⟩ := nl_at h1 e3.1
          obtain ⟨a2, x2, rfl, rfl, b2, c2, d2⟩ := nl_at h2 e3.2
          exact ⟨_, rfl, ⟨a, a1, a2, rfl, ea, b1, b2⟩, c1, c2, d1, d2⟩
  | _ => cases e
theorem cel_at {p : Addr} {H : Hp} {n : Nat} {s : Int} {v : V} {g : G} (h : Tg p H v g) (e : celG n s g = true) : CellAt H v (celO g) ∧ ∀ q, celO g = some q → POk n s q := by
  by_cases z : g = .non
  · subst z
    cases h
    exact ⟨rfl, fun q h => nomatch h⟩
  · have e' : prG n s g = true := by
      cases g <;> first | exact absurd rfl z | exact e
    obtain ⟨q, e1, e2, e3⟩ := pr_at h e'
    rw [e1]
    exact ⟨e2, fun q' h => by injection h with h; subst h; exact e3⟩
theorem whole_intA {p : Addr} {H : Hp} {v : V} {g : G} (h : Tg p H v g) (e : wholeG g = true) : ∃ i, v = .int i ∧ g = .int i := by
  cases h with
  | int i => exact ⟨i, rfl, rfl⟩
  | _ => cases e
def spWholeA : Sp := fun vs H Q _ => ∃ (p : Addr) (v : V) (g : G), vs = [v] ∧ Tg p H v g ∧ Q (.bl (wholeG g)) H
def spNl : Sp := fun vs H Q _ => ∃ (p : Addr) (v : V) (g : G) (n : Nat) (s : Int), vs = [v, .int (n : Nat), .int s] ∧ Tg p H v g ∧ n ≤ 1000 ∧ ∀ H', Same H H' → Q (.bl (nlG n s g)) H'
def spPr : Sp := fun vs H Q _ => ∃ (p : Addr) (v : V) (g : G) (rm : Addr) (ms : List Int) (s : Int), vs = [v, .ref rm, .int s] ∧ Tg p H v g ∧ H rm = some (.lst (ms.map V.int)) ∧ ms.length ≤ 1000 ∧ ∀ H', Same H H' → Q (.bl (prG ms.length s g)) H'
def spAllows : Sp := fun vs H Q _ => ∃ (x y : V) (o : Option Pr) (c : Pr) (n : Nat) (s : Int), vs = [x, y] ∧ CellAt H x o ∧ PairAt H y c ∧ (∀ q, o = some q → POk n s q) ∧ POk n s c ∧ n ≤ 12 ∧ s ≤ 1000 ∧ ∀ H', Same H H' → Q (.bl (allowB o c)) H'
theorem sc_is_list_of_ages : FnScope ["thing", "many", "size", "age"] ["thing", "many", "size"] (defScope s_is_list_of_ages) := ⟨rfl, rfl, rfl, by decide +kernel, rfl, by decide +kernel, by decide +kernel⟩
theorem sc_are_ages : FnScope ["thing", "rooms", "size", "one"] ["thing", "rooms", "size"] (defScope s_are_ages) := ⟨rfl, rfl, rfl, by decide +kernel, rfl, by decide +kernel, by decide +kernel⟩
theorem sc_allows : FnScope ["pair", "come"] ["pair", "come"] (defScope s_allows) := ⟨rfl, rfl, rfl, by decide +kernel, rfl, by decide +kernel, by decide +kernel⟩
section
variable {P : Program} {w : World} {K : PySem.W.Frag} {mg : Str → Option Value} {base : Heap}
theorem ok_wholeA (T : At K mg "is_whole" s_is_whole ["thing"]) (B : Bt mg) : Cal P w K mg base 1 "is_whole" ["thing"] spWholeA := by
  refine cal_of T sc_is_whole (fun vs H Q E h => ?_) (fun f cdv A outer s H vs Q E hr h => ?_)
  · obtain ⟨p, v, g, rfl, _⟩ := h
    rfl
  · obtain ⟨p, v, g, rfl, hv, q⟩ := h
    refine ⟨_, (pss_one (ps_ret (pe_and (pe_callB call_isi (by rfl) B.isinstance (by decide +kernel) (pa_cons (pv 0) (pa_cons (pe_bltn (v := .ty "int") (u := .type "int") (by rfl) B.int (by decide +kernel) rfl) pa_nil))) (pe_one (pe_not (pe_callB call_isi (by rfl) B.isinstance (by decide +kernel) (pa_cons (pv 0) (pa_cons (pe_bltn (v := .ty "bool") (u := .type "bool") (by rfl) B.bool (by decide +kernel) rfl) pa_nil)))))))), ?_⟩
    refine ⟨_, rfl, v, .ty "int", _, _, _, rfl, .ty "int", hv.ty, kit_int g, _, rfl, iteB (fun e => ?_) (fun e => ?_)⟩
    · refine ⟨_, rfl, v, .ty "bool", _, _, _, rfl, .ty "bool", hv.ty, kit_bool g, _, rfl, ?_⟩
      rw [show (!isBool g) = wholeG g from by cases g <;> first | rfl | cases e]
      exact q
    · rw [show false = wholeG g from by cases g <;> first | rfl | cases e]
      exact q
theorem ok_nl (T : At K mg "is_list_of_ages" s_is_list_of_ages ["thing", "many", "size"]) (B : Bt mg) (c_is_whole : Cal P w K mg base 1 "is_whole" ["thing"] spWholeA) : Cal P w K mg base 2 "is_list_of_ages" ["thing", "many", "size"] spNl := by
  refine cal_of T sc_is_list_of_ages (fun vs H Q E h => ?_) (fun f cdv A outer s' H vs Q E hr h => ?_)
  · obtain ⟨p, v, g, n, s, rfl, _⟩ := h
    rfl
  · obtain ⟨p, v, g, n, s, rfl, hv, few, q⟩ := h
    refine ⟨_, (pss_cons (ps_if (PW.pt (pw_or (pt_not (pt_val (pe_callB call_isi (by rfl) B.isinstance (by decide +kernel) (pa_cons (pv 0) (pa_cons (pe_bltn (v := .ty "list") (u := .type "list") (by rfl) B.list (by decide +kernel) rfl) pa_nil))))) (pw_or1 (pt_cmpR op_ne (pe_callB call_len_seq (by rfl) B.len PySem.boot_len (pa_cons (pv 0) pa_nil)) (pv 1) (nomark _))))) (pss_one (ps_ret pe_bl)) pss_nil)
      (pss_one (ps_ret (pe_callB (cr_all rfl) (by rfl) B.all (by decide +kernel) (pa_cons (pe_lc (own := [("age", 3)]) (g := (gName 3)) (tt := tYes) (te := (tAndV (tCall spWholeA [] E0 (tCons (tVar 3) tNil)) (tChain (rI0 fun i j => .bl (decide (i ≤ j))) (rI0 fun i j => .bl (decide (i ≤ j))) (tC (.int 0)) (tVar 3) (tVar 2)))) (by rfl) sc_is_list_of_ages.nd (pi_list (pv 0)) (blkOk_by (own := [("age", 3)]) (N := ["thing", "many", "size", "age"]) (sc := defScope s_is_list_of_ages) (by decide +kernel)) (fun _ _ _ _ _ => (pg_name (i := 3) sc_is_list_of_ages.nd rfl (Or.inl rfl))) (fun _ _ _ _ _ => pts_nil) (fun _ _ _ _ _ => (pe_and (pe_own c_is_whole hr (by decide) (by rfl) (pa_cons (pv 3) pa_nil)) (pe_one (pe_chain op_le op_le pe_int (pv 3) (pv 2)))))) pa_nil))))), ?_⟩
    refine ⟨_, rfl, v, .ty "list", _, _, _, rfl, .ty "list", hv.ty, kit_list g, _, rfl, iteB (fun e => ?_) (fun e => ?_)⟩
    · refine iteT ?_
      rw [show false = nlG n s g from by cases g <;> first | rfl | cases e]
      exact q H (Same.refl H)
    cases hv with
    | @lst a vs l na ea t =>
      have hl := t.len
      refine ⟨_, rfl, a, _, rfl, .inl (SqL.of ea), _, rfl, rfl, _, rfl, iteB (fun e1 => ?_) (fun e1 => ?_)⟩
      · have z : ¬ l.length = n := fun z => by
          rw [hl, z] at e1
          simp at e1
        have e2 : nlG n s (.lst l) = false := by
          show (decide (l.length = n) && (l.map (ageG s)).all id) = false
          rw [decide_eq_false z, Bool.false_and]
        rw [← e2]
        exact q H (Same.refl H)
      · have z : l.length = n := by
          rw [hl] at e1
          by_cases z : l.length = n
          · exact z
          · exfalso
            have z2 : ¬ ((l.length : Int) = (n : Int)) := by omega
            simp [z2] at e1
        refine ⟨_, rfl, a, rfl, ⟨_, SqL.of ea⟩, fun D nD => ?_⟩
        refine lc_list (K := K) (a := a) (xs := vs) (fun i H2 => Same H H2 ∧ H2 D = some (.lst (((l.map (ageG s)).take i).map V.bl))) ?_ ?_ ?_ ?_
        · exact ⟨same_upd nD, upd_same⟩
        · rintro i H2 _ ⟨s2, _⟩
          exact SqL.of (s2 _ _ ea)
        · rintro i x H2 hx ⟨s2, hD⟩
          obtain ⟨g1, e4, tg⟩ := t.get hx
          have il : i < l.length := (List.getElem?_eq_some_iff.mp e4).1
          have fin : ∀ b : Bool, b = ageG s g1 → ∃ acc, H2 D = some (.lst acc) ∧ acc.length < sizeLine ∧ Same H (upd H2 D (.lst (acc ++ [V.bl b]))) ∧ (upd H2 D (.lst (acc ++ [V.bl b]))) D = some (.lst (((l.map (ageG s)).take (i + 1)).map V.bl)) := by
            rintro b rfl
            refine ⟨_, hD, ?_, fun c o ec => ?_, ?_⟩
            · rw [List.length_map]
              exact sz1000 (Nat.le_trans (List.length_take_le' _ _) (by rw [List.length_map]; omega))
            · rw [upd_ne (ne_of_none ec nD)]
              exact s2 _ _ ec
            · rw [upd_same, take_map_snoc _ (show (l.map (ageG s))[i]? = some (ageG s g1) by rw [List.getElem?_map, e4]; rfl)]
          refine ⟨rfl, tyes ?_⟩
          refine ⟨_, rfl, p, x, g1, rfl, tg.keep (Keeps.same s2), _, rfl, iteB (fun e5 => ?_) (fun e5 => ?_)⟩
          · obtain ⟨y, rfl, rfl⟩ := whole_intA tg e5
            refine ⟨_, rfl, _, _, rfl, rfl, _, rfl, iteB (fun e6 => ?_) (fun e6 => ?_)⟩
            · refine ⟨_, rfl, _, _, rfl, rfl, fin _ ?_⟩
              show _ = (decide (0 ≤ y) && decide (y ≤ s))
              rw [e6, Bool.true_and]
            · refine fin _ ?_
              show _ = (decide (0 ≤ y) && decide (y ≤ s))
              rw [e6, Bool.false_and]
          · refine fin _ ?_
            cases g1 <;> first | rfl | cases e5
        · rintro H2 ⟨s2, hD⟩
          rw [List.take_of_length_le (by rw [List.length_map]; omega)] at hD
          refine ⟨D, l.map (ageG s), rfl, SqL.of hD, ?_⟩
          have q2 := q H2 s2
          have e2 : nlG n s (.lst l) = (l.map (ageG s)).all id := by
            show (decide (l.length = n) && (l.map (ageG s)).all id) = _
            rw [decide_eq_true z, Bool.true_and]
          rw [e2] at q2
          exact q2
    | _ => cases e
theorem ok_pr (T : At K mg "are_ages" s_are_ages ["thing", "rooms", "size"]) (B : Bt mg) (c_is_list_of_ages : Cal P w K mg base 2 "is_list_of_ages" ["thing", "many", "size"] spNl) : Cal P w K mg base 3 "are_ages" ["thing", "rooms", "size"] spPr := by
  refine cal_of T sc_are_ages (fun vs H Q E h => ?_) (fun f cdv A outer s' H vs Q E hr h => ?_)
  · obtain ⟨p, v, g, rm, ms, s, rfl, _⟩ := h
    rfl
  · obtain ⟨p, v, g, rm, ms, s, rfl, hv, hm, few, q⟩ := h
    refine ⟨_, (pss_cons (ps_if (PW.pt (pw_or (pt_not (pt_val (pe_callB call_isi (by rfl) B.isinstance (by decide +kernel) (pa_cons (pv 0) (pa_cons (pe_bltn (v := .ty "tuple") (u := .type "tuple") (by rfl) B.tuple (by decide +kernel) rfl) pa_nil))))) (pw_or1 (pt_cmpR op_ne (pe_callB call_len_seq (by rfl) B.len PySem.boot_len (pa_cons (pv 0) pa_nil)) pe_int (nomark _))))) (pss_one (ps_ret pe_bl)) pss_nil)
      (pss_one (ps_ret (pe_callB (cr_all rfl) (by rfl) B.all (by decide +kernel) (pa_cons (pe_lc (own := [("one", 3)]) (g := (gName 3)) (tt := tYes) (te := (tCall spNl [] E0 (tCons (tVar 3) (tCons (tCB (rLenK K) (tCons (tVar 1) tNil)) (tCons (tVar 2) tNil))))) (by rfl) sc_are_ages.nd (pi_tup (pv 0)) (blkOk_by (own := [("one", 3)]) (N := ["thing", "rooms", "size", "one"]) (sc := defScope s_are_ages) (by decide +kernel)) (fun _ _ _ _ _ => (pg_name (i := 3) sc_are_ages.nd rfl (Or.inl rfl))) (fun _ _ _ _ _ => pts_nil) (fun _ _ _ _ _ => (pe_own c_is_list_of_ages hr (by decide) (by rfl) (pa_cons (pv 3) (pa_cons (pe_callB call_len_seq (by rfl) B.len PySem.boot_len (pa_cons (pv 1) pa_nil)) (pa_cons (pv 2) pa_nil)))))) pa_nil))))), ?_⟩
    refine ⟨_, rfl, v, .ty "tuple", _, _, _, rfl, .ty "tuple", hv.ty, kit_tuple g, _, rfl, iteB (fun e => ?_) (fun e => ?_)⟩
    · refine iteT ?_
      rw [show false = prG ms.length s g from by cases g <;> first | rfl | cases e]
      exact q H (Same.refl H)
    cases hv with
    | @tup a vs l ea t =>
      have hl := t.len
      refine ⟨_, rfl, a, _, rfl, .inr ea.sq, rfl, _, rfl, iteB (fun e1 => ?_) (fun e1 => ?_)⟩
      · have z : ¬ l.length = 2 := fun z => by
          rw [hl, z] at e1
          simp at e1
        have e2 : prG ms.length s (.tup l) = false := by
          show (decide (l.length = 2) && (l.map (nlG ms.length s)).all id) = false
          rw [decide_eq_false z, Bool.false_and]
        rw [← e2]
        exact q H (Same.refl H)
      · have z : l.length = 2 := by
          rw [hl] at e1
          by_cases z : l.length = 2
          · exact z
          · exfalso
            have z2 : ¬ ((l.length : Int) = 2) := by omega
            simp [z2] at e1
        refine ⟨_, rfl, a, rfl, ⟨_, ea.sq⟩, fun D nD => ?_⟩
        refine lc_tup (K := K) (a := a) (xs := vs) (fun i H2 => Same H H2 ∧ H2 D = some (.lst (((l.map (nlG ms.length s)).take i).map V.bl))) ?_ ?_ ?_ ?_
        · exact ⟨same_upd nD, upd_same⟩
        · rintro i H2 _ ⟨s2, _⟩
          exact (ea.same s2).sq
        · rintro i x H2 hx ⟨s2, hD⟩
          obtain ⟨g1, e4, tg⟩ := t.get hx
          refine ⟨rfl, tyes ?_⟩
          refine ⟨_, rfl, _, rfl, rm, _, rfl, .inl (SqL.of (s2 _ _ hm)), _, rfl, p, x, g1, ms.length, s, (by rw [List.length_map]; rfl), tg.keep (Keeps.same s2), few, fun H3 s3 => ?_⟩
          refine ⟨_, s3 _ _ hD, ?_, fun c o ec => ?_, ?_⟩
          · rw [List.length_map]
            exact sz1000 (Nat.le_trans (List.length_take_le' _ _) (by rw [List.length_map]; omega))
          · rw [upd_ne (ne_of_none ec nD)]
            exact s3 _ _ (s2 _ _ ec)
          · rw [upd_same, take_map_snoc _ (show (l.map (nlG ms.length s))[i]? = some (nlG ms.length s g1) by rw [List.getElem?_map, e4]; rfl)]
        · rintro H2 ⟨s2, hD⟩
          rw [List.take_of_length_le (by rw [List.length_map]; omega)] at hD
          refine ⟨D, l.map (nlG ms.length s), rfl, SqL.of hD, ?_⟩
          have q2 := q H2 s2
          have e2 : prG ms.length s (.tup l) = (l.map (nlG ms.length s)).all id := by
            show (decide (l.length = 2) && (l.map (nlG ms.length s)).all id) = _
            rw [decide_eq_true z, Bool.true_and]
          rw [e2] at q2
          exact q2
    | _ => cases e
theorem ok_allows (T : At K mg "allows" s_allows ["pair", "come"]) (c_joined_ages : Cal P w K mg base 1 "joined_ages" ["one", "other"] spJoin) : Cal P w K mg base 2 "allows" ["pair", "come"] spAllows := by
  refine cal_of T sc_allows (fun vs H Q E h => ?_) (fun f cdv A outer s' H vs Q E hr h => ?_)
  · obtain ⟨x, y, o, c, n, s, rfl, _⟩ := h
    rfl
  · obtain ⟨x, y, o, c, n, s, rfl, hx, hy, oo, oc, n12, s1, q⟩ := h
    refine ⟨_, (pss_one (ps_ret (pe_and (pe_cmpR op_notN (pv 0) pe_non (nomark _)) (pe_one (pe_cmpR (op_eqD hr.units) (pe_own c_joined_ages hr (by decide) (by rfl) (pa_cons (pv 0) (pa_cons (pv 1) pa_nil))) (pv 0) (nomark _)))))), ?_⟩
    cases o with
    | none =>
      rw [show x = .non from hx]
      exact ⟨_, rfl, rfl, _, rfl, iteF (q H (Same.refl H))⟩
    | some p0 =>
      obtain ⟨tt, ta, tb, rfl, _⟩ := id (show PairAt H x p0 from hx)
      have op := oo p0 rfl
      refine ⟨_, rfl, rfl, _, rfl, iteT ?_⟩
      refine ⟨_, rfl, _, rfl, _, _, p0, c, n, s, rfl, hx, hy, op, oc, by omega, fun v H2 s2 hv => ?_⟩
      have f1 := (pr_fine (joinP_ok op oc) n12 s1).shaped (by decide)
      have f2 := (pr_fine op n12 s1).shaped (by decide)
      refine ⟨_, rfl, prD (joinP p0 c), prD p0, hv.at.dp, (PairAt.same hx s2).dp, f1, f2, ?_⟩
      rw [pr_eqv]
      exact q H2 s2
end
end Su
/-! ### LB: lets_ages -/
namespace Su
open PySem PySem.Spec PyProof.Rows L2
def spLetsX (w : World) (C CF : Addr) : Sp := fun vs H Q E => ∃ v1 v vz : V, vs = [v1, v, vz] ∧
  ((∃ (q : Addr) (g : G) (r : Option Nat), Tg q H v1 g ∧ GW.lookG g = some r ∧ ∀ (H' : Hp) (d : Addr), Same H H' → H d = none → H' d = some (.xd [("row", GW.rowV r)]) → E (.ref C) (some d) H') ∨
   (∃ (q p a : Addr) (rs : List Rw) (gz g : G), v1 = .ref a ∧ WebAt H a rs ∧ WebOk rs ∧ Tg q H vz gz ∧ Tg p H v g ∧
    (∀ t, GW.kindG gz (.str "last") = some t → ∀ (H' : Hp) (d : Addr), Same H H' → H d = none → H' d = some (.xd [("part", .str t)]) → E (.ref CF) (some d) H') ∧
    ∀ s : Int, gz = .int s → 1 ≤ s → s ≤ 8 → ∀ (ms : List Int) (H' : Hp), ms.Pairwise (· < ·) → (∀ k : Int, k ∈ ms ↔ k ∈ allRooms rs) → Same H H' → Q (.bl (letsB ms s rs g)) H'))
theorem all_rows {n : Nat} {s : Int} {l : List G} (e : (l.map (celG n s)).all id = true) {i : Nat} {g : G} (h : l[i]? = some g) : celG n s g = true := by
  rw [List.all_map] at e
  exact List.all_eq_true.mp e g (List.mem_of_getElem? h)
theorem sc_lets_ages : FnScope ["web", "thing", "size", "rooms", "pair", "asks", "tos", "come", "to"] ["web", "thing", "size"] (defScope s_lets_ages) := ⟨rfl, rfl, rfl, by decide +kernel, rfl, by decide +kernel, by decide +kernel⟩
section
variable {P : Program} {w : World} {K : PySem.W.Frag} {mg : Str → Option Value} {base : Heap}
theorem ok_letsX {C CF : Addr} (T : AtD K mg "lets_ages" s_lets_ages ["web", "thing", "size"] [.int 4]) (B : Bt mg) (c_look_at_web : CalX P w K mg base 5 "look_at_web" ["thing"] (GW.spLook C)) (c_look_at_kind : CalX P w K mg base 4 "look_at_kind" ["size", "way"] (GW.spKind CF)) (c_rooms_in : Cal P w K mg base 1 "rooms_in" ["rows"] (spRoomsIn w))
    (c_first_ages : Cal P w K mg base 1 "first_ages" ["rooms", "size"] spFirst) (c_are_ages : Cal P w K mg base 3 "are_ages" ["thing", "rooms", "size"] spPr) (c_behind_row : Cal P w K mg base 2 "behind_row" ["pair", "asks", "rooms", "size"] spBRow) (c_allows : Cal P w K mg base 2 "allows" ["pair", "come"] spAllows) :
    CalX P w K mg base 6 "lets_ages" ["web", "thing", "size"] (spLetsX w C CF) := by
  refine cal_ofXD T sc_lets_ages (fun vs H Q E h => ?_) (fun f cdv A outer s' H vs Q E hr h => ?_)
  · obtain ⟨v1, v, vz, rfl, _⟩ := h
    rfl
  · obtain ⟨v1, v, vz, rfl, h⟩ := h
    refine ⟨_, (pss_cons (ps_expr (pe_ownX (takes_of rfl rfl rfl rfl) c_look_at_web hr (by decide) (by rfl) (pa_cons (pv 0) pa_nil)))
      (pss_cons (ps_expr (pe_ownX (takes_of rfl rfl rfl rfl) c_look_at_kind hr (by decide) (by rfl) (pa_cons (pv 2) (pa_cons pe_str pa_nil))))
      (pss_cons (ps_set (i := 3) sc_lets_ages.nd rfl (Or.inr rfl) (pe_own c_rooms_in hr (by decide) (by rfl) (pa_cons (pv 0) pa_nil)))
      (pss_cons (ps_if (PW.pt (pw_or (pt_not (pt_val (pe_callB call_isi (by rfl) B.isinstance (by decide +kernel) (pa_cons (pv 1) (pa_cons (pe_bltn (v := .ty "list") (u := .type "list") (by rfl) B.list (by decide +kernel) rfl) pa_nil))))) (pw_or1 (pt_cmpR op_ne (pe_callB call_len_seq (by rfl) B.len PySem.boot_len (pa_cons (pv 1) pa_nil)) (pe_callB call_len_seq (by rfl) B.len PySem.boot_len (pa_cons (pv 0) pa_nil)) (nomark _))))) (pss_one (ps_ret pe_bl)) pss_nil)
      (pss_cons (ps_if (pt_not (pt_val (pe_callB (cr_all rfl) (by rfl) B.all (by decide +kernel) (pa_cons (pe_lc (own := [("pair", 4)]) (g := (gName 4)) (tt := tYes) (te := (tOrV (tOp (fun x y H Q => y = V.non ∧ Q (V.bl (decide (x = V.non))) H) (tVar 4) (tC .non)) (tCall spPr [] E0 (tCons (tVar 4) (tCons (tVar 3) (tCons (tVar 2) tNil)))))) (by rfl) sc_lets_ages.nd (pi_list (pv 1)) (blkOk_by (own := [("pair", 4)]) (N := ["web", "thing", "size", "rooms", "pair", "asks", "tos", "come", "to"]) (sc := defScope s_lets_ages) (by decide +kernel)) (fun _ _ _ _ _ => (pg_name (i := 4) sc_lets_ages.nd rfl (Or.inl rfl))) (fun _ _ _ _ _ => pts_nil) (fun _ _ _ _ _ => (pe_or (pe_cmpR op_isN (pv 4) pe_non (nomark _)) (pe_one (pe_own c_are_ages hr (by decide) (by rfl) (pa_cons (pv 4) (pa_cons (pv 3) (pa_cons (pv 2) pa_nil)))))))) pa_nil)))) (pss_one (ps_ret pe_bl)) pss_nil)
      (pss_cons (ps_if (pt_cmpR (op_neD hr.units) (pe_ix ix_list (pv 1) pe_int (fun _ _ => rfl)) (pe_own c_first_ages hr (by decide) (by rfl) (pa_cons (pv 3) (pa_cons (pv 2) pa_nil))) (nomark _)) (pss_one (ps_ret pe_bl)) pss_nil)
      (pss_cons (ps_for (passes_of rfl) rfl (RZ.pi_zipA (by rfl) B.zip (pa_cons (pv 1) (pa_cons (pv 0) pa_nil))) (pg_tup (by rfl) (pgs_cons (pg_name (i := 4) sc_lets_ages.nd rfl (Or.inl rfl)) (pgs_cons (pg_tup (by rfl) (pgs_cons (pg_name (i := 5) sc_lets_ages.nd rfl (Or.inl rfl)) (pgs_cons (pg_name (i := 6) sc_lets_ages.nd rfl (Or.inl rfl)) pgs_nil))) pgs_nil))) (pss_one (ps_if (pt_cmpR op_notN (pv 4) pe_non (nomark _)) (pss_cons (ps_set (i := 7) sc_lets_ages.nd rfl (Or.inr rfl) (pe_own c_behind_row hr (by decide) (by rfl) (pa_cons (pv 4) (pa_cons (pv 5) (pa_cons (pv 3) (pa_cons (pv 2) pa_nil))))))
      (pss_one (ps_if (pt_not (pt_val (pe_callB (cr_all rfl) (by rfl) B.all (by decide +kernel) (pa_cons (pe_lc (own := [("to", 8)]) (g := (gName 8)) (tt := tYes) (te := (tCall spAllows [] E0 (tCons (tOp (rIxL K) (tVar 1) (tVar 8)) (tCons (tVar 7) tNil)))) (by rfl) sc_lets_ages.nd (pi_tup (pv 6)) (blkOk_by (own := [("to", 8)]) (N := ["web", "thing", "size", "rooms", "pair", "asks", "tos", "come", "to"]) (sc := defScope s_lets_ages) (by decide +kernel)) (fun _ _ _ _ _ => (pg_name (i := 8) sc_lets_ages.nd rfl (Or.inl rfl))) (fun _ _ _ _ _ => pts_nil) (fun _ _ _ _ _ => (pe_own c_allows hr (by decide) (by rfl) (pa_cons (pe_ix ix_list (pv 1) (pv 8) (fun _ _ => rfl)) (pa_cons (pv 7) pa_nil))))) pa_nil)))) (pss_one (ps_ret pe_bl)) pss_nil))) pss_nil)))
      (pss_one (ps_ret pe_bl))))))))), ?_⟩
    rcases h with ⟨q0, g, r, hv, lk, qn⟩ | ⟨q0, p, a, rs, gz, g, rfl, hw, ok, tz, hv, qkind, qy⟩
    · refine ⟨_, rfl, q0, v1, g, rfl, hv, fun e => ?_, fun r' e H1 d s1 nd hd => ?_⟩
      · rw [lk] at e
        cases e
      · rw [lk] at e
        cases e
        exact qn H1 d s1 nd hd
    refine ⟨_, rfl, a + 1, .ref a, _, rfl, GW.tg_web hw (Nat.ne_of_lt (Nat.lt_succ_self a)), fun _ H1 t1 => ?_, fun r' e => ?_⟩
    rotate_left
    · rw [GW.look_web ok] at e
      cases e
    refine ⟨_, rfl, q0, vz, .str "last", gz, .str "last", rfl, tz.keep (Keeps.same t1), .str _, fun ek => ?_, fun st ek H2 d s2 nd hd => qkind st ek H2 d (t1.trans s2) (t1.free nd) hd⟩
    obtain ⟨n, x, rfl, ex, kd⟩ := GW.kind_ok ek
    cases ex
    cases tz
    have s1 : (1 : Int) ≤ n := kd.lo
    have s8 : (n : Int) ≤ 8 := kd.hi
    have q := qy n rfl s1 s8
    clear qy qkind ek kd
    generalize (n : Int) = s at s1 s8 q ⊢
    obtain ⟨A, hA, hin⟩ := ok.all
    have hw1 := hw.same t1
    refine ⟨_, rfl, a, rs, A, rfl, hw1, by omega, hin, fun ms u H2 pw mem t2 nu hu => ?_⟩
    have hw2 := hw1.same t2
    have t12 := t1.trans t2
    have m12 : ms.length ≤ 12 := by
      have := nodup_few (S := A) (pw.imp fun h => Int.ne_of_lt h) fun k hk => hin k ((mem k).mp hk)
      omega
    obtain ⟨ws, ha2, hrs⟩ := id hw2
    have wl := hrs.len
    have r80 := ok.few
    have rpos := ok.pos
    have hv2 := hv.keep (Keeps.same t12)
    have no : tabG ms.length s rs.length g = false → letsB ms s rs g = false := fun e => by
      unfold letsB
      rw [e, Bool.false_and]
    refine ⟨_, rfl, v, .ty "list", _, _, _, rfl, .ty "list", hv2.ty, kit_list g, _, rfl, iteB (fun e => ?_) (fun e => ?_)⟩
    · refine iteT ?_
      have z := no (by cases g <;> first | rfl | cases e)
      have q2 := q ms H2 pw mem t12
      rw [z] at q2
      exact q2
    cases hv2 with
    | @lst b vs l na eb t =>
      have hl := t.len
      refine ⟨_, rfl, b, _, rfl, .inl (SqL.of eb), _, rfl, a, _, rfl, .inl (SqL.of ha2), rfl, _, rfl, iteB (fun e1 => ?_) (fun e1 => ?_)⟩
      · have z : ¬ l.length = rs.length := fun z => by
          rw [hl, z, wl] at e1
          simp at e1
        have z2 := no (by show (decide (l.length = rs.length) && (l.map (celG ms.length s)).all id) = false; rw [decide_eq_false z, Bool.false_and])
        have q2 := q ms H2 pw mem t12
        rw [z2] at q2
        exact q2
      · have lr : l.length = rs.length := by
          rw [hl, wl] at e1
          by_cases z : l.length = rs.length
          · exact z
          · exfalso
            have z2 : ¬ ((l.length : Int) = (rs.length : Int)) := by omega
            simp [z2] at e1
        refine ⟨_, rfl, b, rfl, ⟨_, SqL.of eb⟩, fun D nD => ?_⟩
        refine lc_list (K := K) (a := b) (xs := vs) (fun i H3 => Same H2 H3 ∧ H3 D = some (.lst (((l.map (celG ms.length s)).take i).map V.bl))) ?_ ?_ ?_ ?_
        · exact ⟨same_upd nD, upd_same⟩
        · rintro i H3 _ ⟨s3, _⟩
          exact SqL.of (s3 _ _ eb)
        · rintro i x H3 hx ⟨s3, hD⟩
          obtain ⟨g1, e4, tg⟩ := t.get hx
          have fin : ∀ (c : Bool) (H4 : Hp), Same H3 H4 → c = celG ms.length s g1 → ∃ acc, H4 D = some (.lst acc) ∧ acc.length < sizeLine ∧ Same H2 (upd H4 D (.lst (acc ++ [V.bl c]))) ∧ (upd H4 D (.lst (acc ++ [V.bl c]))) D = some (.lst (((l.map (celG ms.length s)).take (i + 1)).map V.bl)) := by
            rintro c H4 s4 rfl
            refine ⟨_, s4 _ _ hD, ?_, fun c o ec => ?_, ?_⟩
            · rw [List.length_map]
              exact sz1000 (Nat.le_trans (List.length_take_le' _ _) (by rw [List.length_map]; omega))
            · rw [upd_ne (ne_of_none ec nD)]
              exact s4 _ _ (s3 _ _ ec)
            · rw [upd_same, take_map_snoc _ (show (l.map (celG ms.length s))[i]? = some (celG ms.length s g1) by rw [List.getElem?_map, e4]; rfl)]
          refine ⟨rfl, tyes ?_⟩
          by_cases z : g1 = .non
          · subst z
            cases tg
            exact ⟨_, rfl, rfl, _, rfl, iteT (fin true H3 (Same.refl H3) rfl)⟩
          · have xn : x ≠ .non := fun h => by
              subst h
              cases tg
              exact z rfl
            refine ⟨_, rfl, rfl, _, rfl, ?_⟩
            rw [decide_eq_false xn]
            refine iteF ⟨_, rfl, _, rfl, _, rfl, p, x, g1, u, ms, s, rfl, tg.keep (Keeps.same s3), s3 _ _ hu, by omega, fun H4 s4 => fin _ H4 s4 ?_⟩
            cases g1 <;> first | exact absurd rfl z | rfl
        · rintro H3 ⟨s3, hD⟩
          rw [List.take_of_length_le (by rw [List.length_map]; omega)] at hD
          refine ⟨D, l.map (celG ms.length s), rfl, SqL.of hD, _, rfl, ?_⟩
          have tb : tabG ms.length s rs.length (.lst l) = (l.map (celG ms.length s)).all id := by
            show (decide (l.length = rs.length) && (l.map (celG ms.length s)).all id) = _
            rw [decide_eq_true lr, Bool.true_and]
          cases hb : (l.map (celG ms.length s)).all id with
          | false =>
            have z2 := no (tb.trans hb)
            have q2 := q ms H3 pw mem (t12.trans s3)
            rw [z2] at q2
            exact iteT q2
          | true =>
            have tb1 := tb.trans hb
            have eL : letsB ms s rs (.lst l) = (decide ((l.map celO)[0]? = some (some (firstP ms.length s))) && holdB ms s rs (l.map celO)) := by
              unfold letsB
              rw [tb1, Bool.true_and]
              rfl
            refine iteF ?_
            have l0 : 0 < l.length := by omega
            have eg0 : l[0]? = some l[0] := List.getElem?_eq_getElem l0
            obtain ⟨v0, ev0, tg0⟩ := t.at eg0
            obtain ⟨c0, o0⟩ := cel_at tg0 (all_rows hb eg0)
            have ex0 : (l.map celO)[0]? = some (celO l[0]) := by rw [List.getElem?_map, eg0]; rfl
            generalize celO l[0] = o at c0 o0 ex0
            have cc := c0.same s3
            refine ⟨_, rfl, b, vs, _, _, rfl, rfl, SqL.of (s3 _ _ eb), atI_nat (j := 0) ev0, _, rfl, _, rfl, u, ms, s, rfl, s3 _ _ hu, by omega, fun v1 H4 s4 hv1 => ?_⟩
            have f0 := (o_fine o0 m12 (by omega)).shaped (by decide)
            have okf : POk ms.length s (firstP ms.length s) := firstP_ok (by omega)
            have f1 := (pr_fine okf m12 (by omega)).shaped (by decide)
            refine ⟨oD o, prD (firstP ms.length s), (cc.same s4).dp, hv1.at.dp, f0, f1, _, rfl, ?_⟩
            rw [show PyData.eqv (oD o) (prD (firstP ms.length s)) = decide (o = some (firstP ms.length s)) from o_eqv o (some (firstP ms.length s))]
            have t14 := (t12.trans s3).trans s4
            have s24 := s3.trans s4
            by_cases zf : o = some (firstP ms.length s)
            · rw [decide_eq_true zf]
              refine iteF ?_
              have e0t : decide ((l.map celO)[0]? = some (some (firstP ms.length s))) = true := decide_eq_true (by rw [ex0, zf])
              rw [e0t, Bool.true_and] at eL
              refine ⟨_, rfl, _, rfl, b, a, _, _, rfl, .inl ⟨SqL.of (s24 _ _ eb), SqL.of (s24 _ _ ha2), ?_⟩⟩
              refine RZ.for_zipL (K := K) (a := b) (b := a) (xs := vs) (ys := ws) (by omega) (fun i σ H5 => ∃ y4 y5 y6 y7 y8 : Option V, σ = [some (.ref a), some (.ref b), some (.int s), some (.ref u), y4, y5, y6, y7, y8] ∧ Same H2 H5 ∧ ∀ j < i, holdR ms s (l.map celO) (rs.getD j ([], [])) ((l.map celO).getD j none) = true) ?_ ?_ ?_ ?_
              · exact ⟨none, none, none, none, none, rfl, s24, fun j h => absurd h (Nat.not_lt_zero j)⟩
              · rintro i σ H5 ⟨_, _, _, _, _, _, s5, _⟩
                exact ⟨SqL.of (s5 _ _ eb), SqL.of (s5 _ _ ha2)⟩
              · rintro i x y T σ H5 hx hy ⟨y4, y5, y6, y7, y8, rfl, s5, hold⟩ nT
                have sT : Same H5 (upd H5 T (.tup [x, y])) := same_upd nT
                obtain ⟨g1, e4, tg⟩ := t.get hx
                obtain ⟨r, er, ra, rb, rc, rfl, hra, hrb, hrc⟩ := hrs.get hy
                have rok := ok.row r (List.mem_of_getElem? er)
                obtain ⟨c1, o1⟩ := cel_at tg (all_rows hb e4)
                have ex1 : (l.map celO)[i]? = some (celO g1) := by rw [List.getElem?_map, e4]; rfl
                generalize celO g1 = o1v at c1 o1 ex1
                have egd : (l.map celO).getD i none = o1v := by rw [List.getD_eq_getElem?_getD, ex1]; rfl
                have erd : rs.getD i ([], []) = r := by rw [List.getD_eq_getElem?_getD, er]; rfl
                have s6 := s5.trans sT
                have hold2 : holdR ms s (l.map celO) r o1v = true → ∀ j < i + 1, holdR ms s (l.map celO) (rs.getD j ([], [])) ((l.map celO).getD j none) = true := fun h j hj => by
                  by_cases ji : j = i
                  · subst ji
                    rw [egd, erd]
                    exact h
                  · exact hold j (by omega)
                refine ⟨T, _, rfl, .inl (.inl upd_same), rfl, _, _, rfl, _, _, rfl, ra, _, rfl, (hra.same s6).sq, rfl, _, _, rfl, _, _, rfl, rfl, rfl, ?_⟩
                cases o1v with
                | none =>
                  have xe : x = .non := c1
                  rw [xe]
                  exact ⟨_, rfl, rfl, _, rfl, iteF ⟨_, _, _, _, _, rfl, by rw [← xe]; exact s6, hold2 rfl⟩⟩
                | some p0 =>
                  obtain ⟨tt, ta, tb', rfl, _⟩ := id (show PairAt H2 x p0 from c1)
                  have op := o1 p0 rfl
                  have rin : ∀ k ∈ r.1, k ∈ ms := fun k hk => (mem k).mpr (List.mem_flatten.mpr ⟨r.1, List.mem_map.mpr ⟨r, List.mem_of_getElem? er, rfl⟩, hk⟩)
                  have few6 : r.1.length ≤ 100 := by
                    have := rok.few
                    omega
                  refine ⟨_, rfl, rfl, _, rfl, iteT ?_⟩
                  refine ⟨_, rfl, _, rfl, _, rfl, _, rfl, _, rb, u, r, p0, ms, s, rfl, PairAt.same c1 s6, hrb.same s6, s6 _ _ hu, op, rin, few6, by omega, by omega, by omega, fun cv H7 t7 hcv => ?_⟩
                  have s7 := s6.trans t7
                  have okc : POk ms.length s (comeP ms s r p0) := rowP_ok (by omega) op _
                  have hcc : PairAt H7 cv (comeP ms s r p0) := by
                    rcases hcv with h | ⟨rfl, e⟩
                    · exact h.at
                    · rw [e]
                      exact PairAt.same c1 s7
                  refine ⟨_, rfl, rc, rfl, ⟨_, (hrc.same s7).sq⟩, fun D2 nD2 => ?_⟩
                  refine lc_tup (K := K) (a := rc) (xs := r.2.map V.int) (fun i H8 => Same H7 H8 ∧ H8 D2 = some (.lst (((r.2.map (holdT (l.map celO) (comeP ms s r p0))).take i).map V.bl))) ?_ ?_ ?_ ?_
                  · exact ⟨same_upd nD2, upd_same⟩
                  · rintro i H8 _ ⟨s8', _⟩
                    exact (hrc.same (s7.trans s8')).sq
                  · rintro i v H8 hv ⟨s8', hD2⟩
                    obtain ⟨tt2, et, rfl⟩ := map_get_int hv
                    have tin := List.mem_of_getElem? et
                    have tg0 := rok.tos.lo _ tin
                    have tg1 := rok.tos.hi _ tin
                    obtain ⟨tn, rfl⟩ : ∃ tn : Nat, tt2 = (tn : Int) := ⟨tt2.toNat, by omega⟩
                    have tl : tn < l.length := by omega
                    have eg2 : l[tn]? = some l[tn] := List.getElem?_eq_getElem tl
                    obtain ⟨v2, ev2, tg2⟩ := t.at eg2
                    obtain ⟨c2, o2⟩ := cel_at tg2 (all_rows hb eg2)
                    have ex2 : (l.map celO)[tn]? = some (celO l[tn]) := by rw [List.getElem?_map, eg2]; rfl
                    generalize celO l[tn] = o2v at c2 o2 ex2
                    have s28 := s7.trans s8'
                    refine ⟨rfl, tyes ?_⟩
                    refine ⟨_, rfl, _, rfl, b, vs, _, _, rfl, rfl, SqL.of (s28 _ _ eb), atI_nat ev2, _, rfl, v2, cv, o2v, comeP ms s r p0, ms.length, s, rfl, c2.same s28, hcc.same s8', o2, okc, m12, by omega, fun H9 s9 => ?_⟩
                    have eh : allowB o2v (comeP ms s r p0) = holdT (l.map celO) (comeP ms s r p0) (tn : Int) := by
                      unfold holdT
                      rw [Int.toNat_natCast, ex2]
                    rw [eh]
                    refine ⟨_, s9 _ _ hD2, ?_, fun c o ec => ?_, ?_⟩
                    · rw [List.length_map]
                      have := ris_len rok.tos
                      exact sz1000 (Nat.le_trans (List.length_take_le' _ _) (by rw [List.length_map]; omega))
                    · rw [upd_ne (ne_of_none ec nD2)]
                      exact s9 _ _ (s8' _ _ ec)
                    · rw [upd_same, take_map_snoc _ (show (r.2.map (holdT (l.map celO) (comeP ms s r p0)))[i]? = some (holdT (l.map celO) (comeP ms s r p0) (tn : Int)) by rw [List.getElem?_map, et]; rfl)]
                  · rintro H8 ⟨s8', hD2⟩
                    rw [List.take_of_length_le (by rw [List.length_map, List.length_map]; omega)] at hD2
                    refine ⟨D2, r.2.map (holdT (l.map celO) (comeP ms s r p0)), rfl, SqL.of hD2, _, rfl, ?_⟩
                    have eR : holdR ms s (l.map celO) r (some p0) = (r.2.map (holdT (l.map celO) (comeP ms s r p0))).all id := by
                      show r.2.all (holdT (l.map celO) (comeP ms s r p0)) = _
                      rw [List.all_map]
                      rfl
                    cases hc : (r.2.map (holdT (l.map celO) (comeP ms s r p0))).all id with
                    | true => exact iteF ⟨_, _, _, _, _, rfl, s7.trans s8', hold2 (eR.trans hc)⟩
                    | false =>
                      have q2 := q ms H8 pw mem (t12.trans (s7.trans s8'))
                      have eH : holdB ms s rs (l.map celO) = false := by
                        unfold holdB
                        rw [List.all_eq_false]
                        refine ⟨i, List.mem_range.mpr (List.getElem?_eq_some_iff.mp er).1, ?_⟩
                        rw [egd, erd, eR, hc]
                        exact Bool.false_ne_true
                      rw [eL, eH] at q2
                      exact iteT q2
              · rintro σ H5 ⟨y4, y5, y6, y7, y8, rfl, s5, hold⟩
                have q2 := q ms H5 pw mem (t12.trans s5)
                have eH : holdB ms s rs (l.map celO) = true := by
                  unfold holdB
                  rw [List.all_eq_true]
                  intro i hi
                  exact hold i (by have := List.mem_range.mp hi; omega)
                rw [eL, eH] at q2
                exact q2
            · rw [decide_eq_false zf]
              have q2 := q ms H4 pw mem t14
              have e0f : decide ((l.map celO)[0]? = some (some (firstP ms.length s))) = false := decide_eq_false (by rw [ex0]; exact fun h => zf (by injection h))
              rw [eL, e0f, Bool.false_and] at q2
              exact iteT q2
    | _ => cases e
end
end Su
/-! ### F7c -/
namespace Su
open PySem PySem.Spec PyProof.Rows L2
open LamX hiding takes0
open Fm
theorem sc_look_at_room : FnScope ["thing"] ["thing"] (defScope s_look_at_room) := ⟨rfl, rfl, rfl, by decide +kernel, rfl, by decide +kernel, by decide +kernel⟩
section
variable {P : Program} {w : World} {K : PySem.W.Frag} {mg : Str → Option Value} {base : Heap}
theorem ok_look_room (T : At K mg "look_at_room" s_look_at_room ["thing"]) (c_is_room : Cal P w K mg base 2 "is_room" ["thing"] spRoomI) : Cal P w K mg base 3 "look_at_room" ["thing"] spLookRoom := by
  refine cal_of T sc_look_at_room (fun vs H Q E h => ?_) (fun f cdv A outer s H vs Q E hr h => ?_)
  · obtain ⟨i, rfl, _⟩ := h
    rfl
  · obtain ⟨i, rfl, i0, i1, q⟩ := h
    refine ⟨_, (pss_one (ps_if (pt_not (pt_val (pe_own c_is_room hr (by decide) (by rfl) (pa_cons (pv 0) pa_nil)))) (pss_one ps_never) pss_nil)), ?_⟩
    exact ⟨_, rfl, _, rfl, i0, i1, _, rfl, iteF q⟩
end
end Su
/-! ### F4 -/
namespace Su
open PySem PySem.Spec PyProof.Rows L2
open LamX hiding takes0
open Fm
def spClose (CL : Nat → Nat → Nat) : Sp := fun vs H Q _ => ∃ (F m : Nat) (a : Addr), vs = [.int F, .ref a] ∧ LkAt H a m ∧ m ≤ 13 ∧ Fits m F ∧ Q (.int (CL m F)) H
def spSpread (fc : Addr) (CL : Nat → Nat → Nat) : Sp := fun vs H Q _ => ∃ (W pl a : Addr) (rs : List Rw) (ms : List Int) (m first : Nat), vs = [.ref W, .int first, .ref pl, .ref a, .ref fc] ∧ WebAt H W rs ∧ WebOk rs ∧ PlAt H pl ms ∧ ms.Nodup ∧ ms.length ≤ m ∧ LkAt H a m ∧ m ≤ 13 ∧ Fits m first ∧
  ∀ (L : Addr) (Fs : List Nat) (H' : Hp), Same H H' → H L = none → H' L = some (.lst (Fs.map fun F => V.int (F : Nat))) → LineOk rs ms m (CL m) first Fs [] → Q (.ref L) H'
theorem sc_spread : FnScope ["web", "first", "places", "lacks", "close", "families", "waiting", "row", "rooms", "tos", "come", "to"] ["web", "first", "places", "lacks", "close"] (defScope s_spread) := ⟨rfl, rfl, rfl, by decide +kernel, rfl, by decide +kernel, by decide +kernel⟩
section
variable {P : Program} {w : World} {K : PySem.W.Frag} {mg : Str → Option Value} {base : Heap}
theorem ok_spread {x : Str} {fc : Addr} {CL : Nat → Nat → Nat} (hx : mg x = some (.ref fc)) (hcf : ∀ m F, Fits m F → Fits m (CL m F)) (hc0 : ∀ m, CL m 0 = 0) (T : At K mg "spread" s_spread ["web", "first", "places", "lacks", "close"]) (B : Bt mg) (mNo : ∃ t, mg "NO_FAMILY" = some (.int 0 t)) (c_close : Cal P w K mg base 2 x ["family", "lacks"] (spClose CL)) (c_behind : Cal P w K mg base 2 "behind" ["family", "rooms", "places", "lacks"] spBeh) (c_is_within : Cal P w K mg base 1 "is_within" ["family", "other"] spWithin) : Cal P w K mg base 3 "spread" ["web", "first", "places", "lacks", "close"] (spSpread fc CL) := by
  obtain ⟨tn, mNo⟩ := mNo
  refine cal_of T sc_spread (fun vs H Q E h => ?_) (fun f cdv A outer s H vs Q E hr h => ?_)
  · obtain ⟨W, pl, a, rs, ms, m, first, rfl, _⟩ := h
    rfl
  · obtain ⟨W, pl, a, rs, ms, m, first, rfl, hW, ok, hpl, nd, lm, hl, m12, hf, q⟩ := h
    have act := actX_of (X := (cxOf CX0 P w K mg base ["web", "first", "places", "lacks", "close", "families", "waiting", "row", "rooms", "tos", "come", "to"] "spread" (defScope s_spread) f cdv A outer s H E).nox) (k := 2) (sp := spClose CL) c_close hr (by decide) hx
    refine ⟨_, (pss_cons (ps_set (i := 5) sc_spread.nd rfl (Or.inl rfl) (pe_op op_rep (pe_lst (pa_cons (pe_glob (v := .int 0) rfl mNo ⟨_, rfl⟩) pa_nil)) (pe_callB call_len_seq (by rfl) B.len PySem.boot_len (pa_cons (pv 0) pa_nil))))
      (pss_cons (ps_asg (pe_act (i := 4) act rfl (Or.inl rfl) (pa_cons (pv 1) (pa_cons (pv 3) pa_nil))) (pg_sub (pv 5) pe_int set_list))
      (pss_cons (ps_set (i := 6) sc_spread.nd rfl (Or.inl rfl) (pe_lst (pa_cons pe_int pa_nil)))
      (pss_cons (ps_while PassesOwn.never (pt_cmpR op_gt (pe_callB call_len_seq (by rfl) B.len PySem.boot_len (pa_cons (pv 6) pa_nil)) pe_int (nomark _)) (pss_cons (ps_set (i := 7) sc_spread.nd rfl (Or.inl rfl) (pe_bm PySem.F.plainAttrs_list PySem.F.slot_list_pop PySem.F.type_list_pop mt_popAt (pv 6) (pa_cons pe_int pa_nil)))
      (pss_cons (ps_asg (pe_ix ix_list (pv 0) (pv 7) (fun _ _ => rfl)) (pg_tup (by rfl) (pgs_cons (pg_name (i := 8) sc_spread.nd rfl (Or.inl rfl)) (pgs_cons (pg_name (i := 9) sc_spread.nd rfl (Or.inl rfl)) pgs_nil))))
      (pss_cons (ps_set (i := 10) sc_spread.nd rfl (Or.inl rfl) (pe_act (i := 4) act rfl (Or.inl rfl) (pa_cons (pe_own c_behind hr (by decide) (by rfl) (pa_cons (pe_ix ix_list (pv 5) (pv 7) (fun _ _ => rfl)) (pa_cons (pv 8) (pa_cons (pv 2) (pa_cons (pv 3) pa_nil))))) (pa_cons (pv 3) pa_nil))))
      (pss_one (ps_for PassesOwn.never rfl (pi_tup (pv 9)) (pg_name (i := 11) sc_spread.nd rfl (Or.inl rfl)) (pss_one (ps_if (pt_not (pt_val (pe_own c_is_within hr (by decide) (by rfl) (pa_cons (pv 10) (pa_cons (pe_ix ix_list (pv 5) (pv 11) (fun _ _ => rfl)) pa_nil))))) (pss_cons (ps_augS (pv 5) (pv 11) pget_list (pv 10) ip_or set_list)
      (pss_one (ps_if (pt_cmpR op_notIn_seq (pv 11) (pv 6) (by rfl)) (pss_one (ps_expr (pe_bm PySem.F.plainAttrs_list PySem.F.slot_list_append PySem.F.type_list_append mt_append (pv 6) (pa_cons (pv 11) pa_nil)))) pss_nil))) pss_nil))))))))
      (pss_one (ps_ret (pv 5))))))), ?_⟩
    obtain ⟨ws, hws, hrs⟩ := id hW
    have lws := hrs.len
    have f80 := ok.few
    have pos := ok.pos
    refine ⟨(by show 1 ≤ sizeLine; decide), fun l1 nl1 => ?_⟩
    have s1 : Same H (upd H l1 (.lst [V.int 0])) := same_upd nl1
    have hl1 : (upd H l1 (.lst [V.int 0])) l1 = some (.lst [V.int 0]) := upd_same
    generalize upd H l1 (.lst [V.int 0]) = H1 at s1 hl1 ⊢
    refine ⟨_, rfl, W, ws, rfl, .inl (SqL.of (s1 _ _ hws)), l1, (ws.length : Int), [V.int 0], rfl, rfl, hl1, by omega, by omega, (by rw [sizeLine_eq]; show 1 * ((ws.length : Int)).toNat ≤ _; omega), fun L nL => ?_⟩
    have e2 : (List.replicate ((ws.length : Int)).toNat [V.int 0]).flatten = (List.replicate rs.length 0).map fun F => V.int ((F : Nat) : Int) := by
      rw [Int.toNat_natCast, lws, List.map_replicate, List.flatten_replicate_singleton]
      rfl
    rw [e2]
    have nLH := s1.free nL
    have s2 : Same H1 (upd H1 L (.lst ((List.replicate rs.length 0).map fun F => V.int ((F : Nat) : Int)))) := same_upd nL
    have hL : (upd H1 L (.lst ((List.replicate rs.length 0).map fun F => V.int ((F : Nat) : Int)))) L = some (.lst ((List.replicate rs.length 0).map fun F => V.int ((F : Nat) : Int))) := upd_same
    generalize upd H1 L (.lst ((List.replicate rs.length 0).map fun F => V.int ((F : Nat) : Int))) = H2 at s2 hL ⊢
    have s02 := s1.trans s2
    try dsimp only [gName, tSeq, tAsg]
    refine ⟨rfl, _, rfl, _, rfl, trivial, first, m, a, rfl, s02 _ _ hl, m12, hf, ?_⟩
    refine ⟨_, rfl, L, _, 0, 0, rfl, rfl, hL, ?_, ?_⟩
    · rw [List.length_map, List.length_replicate]
      unfold ixN
      rw [if_pos (by decide), if_pos (by omega)]
      rfl
    have line0 : LineOk rs ms m (CL m) first ((List.replicate rs.length 0).set 0 (CL m first)) [0] := line_start ok (hcf m first hf) (hc0 m)
    have e3 : ((List.replicate rs.length 0).map fun F => V.int ((F : Nat) : Int)).set 0 (V.int (CL m first : Nat)) = ((List.replicate rs.length 0).set 0 (CL m first)).map fun F => V.int ((F : Nat) : Int) := by rw [List.map_set]
    rw [e3]
    have s3 : Same H (upd H2 L (.lst (((List.replicate rs.length 0).set 0 (CL m first)).map fun F => V.int ((F : Nat) : Int)))) := fun c o ec => by
      rw [upd_ne (ne_of_none ec nLH)]
      exact s02 _ _ ec
    have hL3 : (upd H2 L (.lst (((List.replicate rs.length 0).set 0 (CL m first)).map fun F => V.int ((F : Nat) : Int)))) L = some (.lst (((List.replicate rs.length 0).set 0 (CL m first)).map fun F => V.int ((F : Nat) : Int))) := upd_same
    generalize upd H2 L (.lst (((List.replicate rs.length 0).set 0 (CL m first)).map fun F => V.int ((F : Nat) : Int))) = H3 at s3 hL3 ⊢
    generalize (List.replicate rs.length 0).set 0 (CL m first) = Fs0 at hL3 line0
    try dsimp only [gName, tSeq, tAsg]
    refine ⟨(by show 1 ≤ sizeLine; decide), fun Wt nWt => ?_⟩
    have s4 : Same H3 (upd H3 Wt (.lst [V.int 0])) := same_upd nWt
    have hWt : (upd H3 Wt (.lst [V.int 0])) Wt = some (.lst (([0] : List Nat).map fun r => V.int (r : Nat))) := upd_same
    have hL4 := s4 _ _ hL3
    have nWL : Wt ≠ L := fun z => by rw [z, hL3] at nWt; cases nWt
    have nWH : H Wt = none := s3.free nWt
    have s04 := s3.trans s4
    generalize upd H3 Wt (.lst [V.int 0]) = H4 at s04 hWt hL4 ⊢
    clear s3 s4 hL3 nWt s02 hL s2 e2 e3 hl1 s1 nl1 nL
    refine while_n (fun μ σ H5 => ∃ (Fs wt : List Nat) (y7 y8 y9 y10 y11 : Option V), σ = [some (.ref W), some (.int first), some (.ref pl), some (.ref a), some (.ref fc), some (.ref L), some (.ref Wt), y7, y8, y9, y10, y11] ∧ Same H H5 ∧ H5 L = some (.lst (Fs.map fun F => V.int (F : Nat))) ∧ H5 Wt = some (.lst (wt.map fun r => V.int (r : Nat))) ∧ LineOk rs ms m (CL m) first Fs wt ∧ μ = miss m Fs * (rs.length + 1) + wt.length) (miss m Fs0 * (rs.length + 1) + 1) ?_ ?_ ?_
    · exact ⟨Fs0, [0], none, none, none, none, none, rfl, s04, hL4, hWt, line0, rfl⟩
    · rintro μ σ H5 ⟨Fs, wt, y7, y8, y9, y10, y11, rfl, s5, hL5, hWt5, line, rfl⟩
      refine ⟨_, rfl, Wt, _, rfl, .inl (SqL.of hWt5), _, _, rfl, rfl, _, rfl, ?_⟩
      rw [List.length_map]
      refine iteB (fun z => ?_) (fun z => ?_)
      rotate_left
      · have e := of_decide_eq_false z
        obtain rfl : wt = [] := List.eq_nil_of_length_eq_zero (by omega)
        exact ⟨_, rfl, q L Fs H5 s5 nLH hL5 line⟩
      have lw := of_decide_eq_true z
      clear z
      obtain ⟨r0, wt, rfl⟩ : ∃ r wt', wt = r :: wt' := by
        cases wt with
        | nil => simp at lw
        | cons r wt => exact ⟨r, wt, rfl⟩
      have hr0 := line.rg r0 List.mem_cons_self
      obtain ⟨row, er⟩ : ∃ row, rs[r0]? = some row := ⟨_, List.getElem?_eq_getElem hr0⟩
      obtain ⟨F0, eF0⟩ : ∃ F, Fs[r0]? = some F := ⟨_, List.getElem?_eq_getElem (by rw [line.fam.len]; exact hr0)⟩
      refine ⟨_, rfl, .inl ⟨rfl, _, SqL.of hWt5⟩, Wt, _, 0, 0, V.int (r0 : Nat), rfl, rfl, hWt5, by decide, by decide, ?_, rfl, ?_⟩
      · rw [List.length_map]
        exact seqIx (by decide) (by rw [List.length_cons]; omega)
      have s6 : Same H (upd H5 Wt (.lst (((r0 :: wt).map fun r => V.int (r : Nat)).eraseIdx 0))) := fun c o ec => by
        rw [upd_ne (ne_of_none ec nWH)]
        exact s5 _ _ ec
      have hL6 : (upd H5 Wt (.lst (((r0 :: wt).map fun r => V.int (r : Nat)).eraseIdx 0))) L = some (.lst (Fs.map fun F => V.int (F : Nat))) := by
        rw [upd_ne nWL.symm]
        exact hL5
      have hWt6 : (upd H5 Wt (.lst (((r0 :: wt).map fun r => V.int (r : Nat)).eraseIdx 0))) Wt = some (.lst (wt.map fun r => V.int (r : Nat))) := upd_same
      generalize upd H5 Wt (.lst (((r0 :: wt).map fun r => V.int (r : Nat)).eraseIdx 0)) = H6 at s6 hL6 hWt6 ⊢
      clear hWt5 hL5 s5
      obtain ⟨ws6, hws6, hrs6⟩ := hW.same s6
      have lws6 := hrs6.len
      have ew : ws6[r0]? = some (ws6[r0]'(by omega)) := List.getElem?_eq_getElem (by omega)
      obtain ⟨r', er', ra, rb, rd, ewr, hra, hrb, hrd⟩ := hrs6.get ew
      rw [er] at er'
      cases er'
      rw [ewr] at ew
      clear ewr
      have rok := ok.row row (List.mem_of_getElem? er)
      have fF0 := line.fam.fits F0 (List.mem_of_getElem? eF0)
      have fBe := behN_fits (ks := row.1) lm fF0
      have fCo := hcf m _ fBe
      have hpl6 : PlAt H6 pl ms := let ⟨od, z⟩ := hpl; ⟨od, s6 _ _ z⟩
      try dsimp only [gName, tSeq, tAsg]
      refine ⟨_, rfl, _, rfl, W, _, r0, .ref ra, rfl, rfl, SqL.of hws6, atI_nat ew, ra, _, rfl, hra.sq, rfl, _, _, rfl, _, _, rfl, rfl, ?_⟩
      try dsimp only [gName, tSeq, tAsg]
      refine ⟨rfl, _, rfl, _, rfl, L, _, r0, V.int (F0 : Nat), rfl, rfl, SqL.of hL6, atI_nat (by rw [List.getElem?_map, eF0]; rfl), _, rfl, _, rfl, _, rfl, F0, m, rb, pl, a, row.1, ms, rfl, hrb, hpl6, nd, lm, s6 _ _ hl, m12, fF0, _, rfl, trivial, behN m ms F0 row.1, m, a, rfl, s6 _ _ hl, m12, fBe, ?_⟩
      generalize eC : CL m (behN m ms F0 row.1) = come at fCo
      try dsimp only [gName, tSeq, tAsg]
      refine ⟨_, rfl, rd, rfl, ⟨_, hrd.sq⟩, ?_⟩
      refine for_tup (K := K) (a := rd) (xs := row.2.map V.int) (fun i σ H7 => ∃ (Fs' wt' : List Nat) (y11 : Option V), σ = [some (.ref W), some (.int first), some (.ref pl), some (.ref a), some (.ref fc), some (.ref L), some (.ref Wt), some (.int (r0 : Nat)), some (.ref rb), some (.ref rd), some (.int (come : Nat)), y11] ∧ Same H H7 ∧ T2 H7 rd (row.2.map V.int) ∧ H7 L = some (.lst (Fs'.map fun F => V.int (F : Nat))) ∧ H7 Wt = some (.lst (wt'.map fun r => V.int (r : Nat))) ∧ MidOk rs ms m (CL m) first r0 F0 (row.2.take i) Fs' wt' ∧ miss m Fs' * (rs.length + 1) + wt'.length ≤ miss m Fs * (rs.length + 1) + wt.length) ?_ ?_ ?_ ?_
      · exact ⟨Fs, wt, _, rfl, s6, hrd, hL6, hWt6, MidOk.start line eF0, Nat.le_refl _⟩
      · rintro i σ H7 _ ⟨_, _, _, _, _, hrd7, _⟩
        exact hrd7.sq
      · rintro i v σ H7 hv ⟨Fs', wt', y11, rfl, s7, hrd7, hL7, hWt7, mid, le⟩
        obtain ⟨t, et, rfl⟩ := map_geti hv
        have eT : row.2.take (i + 1) = row.2.take i ++ [t] := by rw [List.take_add_one, et]; rfl
        have tm := List.mem_of_getElem? et
        have t0 := rok.tos.lo t tm
        have t1 := rok.tos.hi t tm
        have ltF : t.toNat < Fs'.length := by rw [mid.fam.len]; omega
        obtain ⟨G, eG⟩ : ∃ G, Fs'[t.toNat]? = some G := ⟨_, List.getElem?_eq_getElem ltF⟩
        have eGv : (Fs'.map fun F => V.int ((F : Nat) : Int))[t.toNat]? = some (V.int (G : Nat)) := by rw [List.getElem?_map, eG]; rfl
        have fG := mid.fam.fits G (List.mem_of_getElem? eG)
        refine ⟨_, rfl, _, rfl, _, rfl, L, _, t, V.int (G : Nat), rfl, rfl, SqL.of hL7, atI_int t0 eGv, come, G, rfl, _, rfl, iteB (fun z => ?_) (fun z => ?_)⟩
        rotate_left
        · have hi : Inn come G := by simpa using z
          refine ⟨Fs', wt', _, rfl, s7, hrd7, hL7, hWt7, ?_, le⟩
          rw [eT]
          exact mid.skip er eG (by rw [eC]; exact hi)
        have hi : ¬ Inn come G := by simpa using z
        clear z
        have gr := or_grow hi
        have ms1 := miss_set (m := m) eG gr (fits_lt.mp (fG.or fCo))
        refine ⟨_, rfl, _, rfl, L, _, t.toNat, V.int (G : Nat), rfl, (by rw [Int.toNat_of_nonneg t0]), SqL.of hL7, eGv, _, rfl, G, come, rfl, rfl, L, _, t, t.toNat, rfl, rfl, hL7, ?_, ?_⟩
        · rw [List.length_map]
          unfold ixN
          rw [if_pos t0, if_pos (by omega)]
        have e8 : (Fs'.map fun F => V.int ((F : Nat) : Int)).set t.toNat (V.int (Builtin.bitOr (G : Int) (come : Int))) = (Fs'.set t.toNat (G ||| come)).map fun F => V.int ((F : Nat) : Int) := by
          rw [bor_nat, List.map_set]
        rw [e8]
        have s8 : Same H (upd H7 L (.lst ((Fs'.set t.toNat (G ||| come)).map fun F => V.int ((F : Nat) : Int)))) := fun c o ec => by
          rw [upd_ne (ne_of_none ec nLH)]
          exact s7 _ _ ec
        have hrd8 : T2 (upd H7 L (.lst ((Fs'.set t.toNat (G ||| come)).map fun F => V.int ((F : Nat) : Int)))) rd (row.2.map V.int) := hrd7.updL hL7
        have hL8 : (upd H7 L (.lst ((Fs'.set t.toNat (G ||| come)).map fun F => V.int ((F : Nat) : Int)))) L = some (.lst ((Fs'.set t.toNat (G ||| come)).map fun F => V.int ((F : Nat) : Int))) := upd_same
        have hWt8 : (upd H7 L (.lst ((Fs'.set t.toNat (G ||| come)).map fun F => V.int ((F : Nat) : Int)))) Wt = some (.lst (wt'.map fun r => V.int (r : Nat))) := by
          rw [upd_ne nWL]
          exact hWt7
        generalize upd H7 L (.lst ((Fs'.set t.toNat (G ||| come)).map fun F => V.int ((F : Nat) : Int))) = H8 at s8 hrd8 hL8 hWt8 ⊢
        have wl : wt'.length ≤ rs.length := nat_few mid.nd mid.rg
        have ewt : (wt'.map fun r => V.int ((r : Nat) : Int)) = (wt'.map fun r => ((r : Nat) : Int)).map V.int := by rw [List.map_map]; rfl
        have et8 : t = ((t.toNat : Nat) : Int) := (Int.toNat_of_nonneg t0).symm
        have hs0 : ∀ I : Nat → Nat → Prop, (∀ S, (CL m first).testBit S = true → I 0 S) → Stp1 rs ms m (CL m) I → ∀ S, F0.testBit S = true → I r0 S := fun I h1 h2 S hS => line.fam.snd I h1 h2 r0 F0 S eF0 hS
        have ms2 := Nat.mul_le_mul_right (rs.length + 1) ms1
        rw [Nat.add_mul, Nat.one_mul] at ms2
        rw [← eC] at fCo
        try dsimp only [gName, tSeq, tAsg]
        refine ⟨_, rfl, _, rfl, Wt, _, rfl, .inl (SqL.of hWt8), rfl, (by rw [ewt]; exact all_flat _), _, rfl, ?_⟩
        rw [ewt, inV_ints]
        refine iteB (fun z2 => ?_) (fun z2 => ?_)
        · have nw : t.toNat ∉ wt' := fun h => by
            have z2' : (!decide (t ∈ wt'.map fun r => ((r : Nat) : Int))) = true := z2
            rw [decide_eq_true (List.mem_map.mpr ⟨_, h, et8.symm⟩)] at z2'
            cases z2'
          refine ⟨_, rfl, .inl ⟨rfl, _, SqL.of hWt8⟩, _, rfl, Wt, _, _, rfl, rfl, hWt8, small1000 (by rw [List.length_map]; omega), ?_⟩
          refine ⟨Fs'.set t.toNat (G ||| come), wt' ++ [t.toNat], _, rfl, fun c o ec => ?_, hrd8.updL hWt8, ?_, ?_, ?_, ?_⟩
          · rw [upd_ne (ne_of_none ec nWH)]
            exact s8 _ _ ec
          · rw [upd_ne nWL.symm]
            exact hL8
          · rw [upd_same, List.map_append, List.map_singleton, ← et8]
          · rw [eT, ← eC]
            refine mid.grow er tm t0 eG fF0 fCo hs0 ?_ ?_
            · rw [List.nodup_append]
              refine ⟨mid.nd, by simp, fun a1 h1 b1 h2 => ?_⟩
              rw [List.mem_singleton.mp h2]
              rintro rfl
              exact nw h1
            · intro q
              rw [List.mem_append, List.mem_singleton]
          · rw [List.length_append, List.length_singleton]
            omega
        · have yw : t.toNat ∈ wt' := by
            have z2' : (!decide (t ∈ wt'.map fun r => ((r : Nat) : Int))) = false := z2
            by_cases h : t ∈ wt'.map fun r => ((r : Nat) : Int)
            · obtain ⟨j, hj, ej⟩ := List.mem_map.mp h
              have : t.toNat = j := by omega
              rw [this]
              exact hj
            · rw [decide_eq_false h] at z2'
              cases z2'
          refine ⟨Fs'.set t.toNat (G ||| come), wt', _, rfl, s8, hrd8, hL8, hWt8, ?_, by omega⟩
          rw [eT, ← eC]
          exact mid.grow er tm t0 eG fF0 fCo hs0 mid.nd fun q => ⟨.inl, fun z => z.elim id fun e => by rw [e]; exact yw⟩
      · rintro σ H7 ⟨Fs', wt', y11, rfl, s7, hrd7, hL7, hWt7, mid, le⟩
        rw [List.length_map, List.take_length] at mid
        exact ⟨_, by rw [List.length_cons]; omega, Fs', wt', _, _, _, _, _, rfl, s7, hL7, hWt7, mid.fin er, rfl⟩
    · rintro σ H3 Q1 Q2 hQ ⟨i, v, e1, p2, ys, e3, e4, j, e5, e6, k, e7, e8⟩
      exact ⟨i, v, e1, p2, ys, e3, e4, j, e5, e6, k, e7, hQ _ _ e8⟩
end
end Su
/-! ### F5 -/
namespace Su
open PySem PySem.Spec PyProof.Rows L2
open LamX hiding takes0
open Fm
theorem sc_numbers_in : FnScope ["family", "numbers", "number"] ["family"] (defScope s_numbers_in) := ⟨rfl, rfl, rfl, by decide +kernel, rfl, by decide +kernel, by decide +kernel⟩
theorem sc_rooms_of_set : FnScope ["number", "places", "room"] ["number", "places"] (defScope s_rooms_of_set) := ⟨rfl, rfl, rfl, by decide +kernel, rfl, by decide +kernel, by decide +kernel⟩
theorem tb_div (n i : Nat) : (n : Int) / 2 ^ i % 2 ^ 1 = if n.testBit i then 1 else 0 := by
  rw [show ((n : Int) / 2 ^ i % 2 ^ 1) = ((n / 2 ^ i % 2 : Nat) : Int) by push_cast; rfl, Nat.testBit_eq_decide_div_mod_eq]
  have := Nat.mod_lt (n / 2 ^ i) (show 0 < 2 by decide)
  by_cases c : n / 2 ^ i % 2 = 1
  · rw [decide_eq_true c, if_pos rfl, c]
    rfl
  · rw [decide_eq_false c, if_neg (by simp)]
    omega
theorem bits_pos {F : Nat} (h : F ≠ 0) : (Builtin.Int.intBits (F : Int) : Nat) = F.log2 + 1 := by
  unfold Builtin.Int.intBits
  rw [if_neg (by simpa using (show ¬ (F : Int) = 0 by omega)), Int.natAbs_natCast]
section
variable {P : Program} {w : World} {K : PySem.W.Frag} {mg : Str → Option Value} {base : Heap}
theorem ok_numbers (T : At K mg "numbers_in" s_numbers_in ["family"]) (B : Bt mg) (mNo : ∃ t, mg "NO_FAMILY" = some (.int 0 t)) : Cal P w K mg base 1 "numbers_in" ["family"] spNums := by
  obtain ⟨tn, mNo⟩ := mNo
  refine cal_of T sc_numbers_in (fun vs H Q E h => ?_) (fun f cdv A outer s H vs Q E hr h => ?_)
  · obtain ⟨F, m, rfl, _⟩ := h
    rfl
  · obtain ⟨F, m, rfl, m12, hf, q⟩ := h
    refine ⟨_, (pss_cons (ps_set (i := 1) sc_numbers_in.nd rfl (Or.inl rfl) (pe_lst pa_nil))
      (pss_cons (ps_while PassesOwn.never (pt_cmpR op_ne (pv 0) (pe_glob (v := .int 0) rfl mNo ⟨_, rfl⟩) (nomark _)) (pss_cons (ps_set (i := 2) sc_numbers_in.nd rfl (Or.inl rfl) (pe_op op_sub (pe_bits (pv 0)) pe_int))
      (pss_cons (ps_expr (pe_bm PySem.F.plainAttrs_list PySem.F.slot_list_append PySem.F.type_list_append mt_append (pv 1) (pa_cons (pv 2) pa_nil)))
      (pss_one (ps_aug (i := 0) sc_numbers_in.nd rfl (Or.inl rfl) (pe_op op_shlN pe_int (pv 2)) ip_sub)))))
      (pss_one (ps_ret (pv 1))))), ?_⟩
    refine ⟨by show 0 ≤ sizeLine; decide, fun L nL => ?_⟩
    have s1 : Same H (upd H L (.lst [])) := same_upd nL
    have hL : (upd H L (.lst [])) L = some (.lst (([] : List Nat).map fun n => V.int (n : Nat))) := upd_same
    generalize upd H L (.lst []) = H1 at s1 hL ⊢
    try dsimp only [gName, tSeq, tAsg]
    refine while_n (fun μ σ H5 => ∃ (F1 : Nat) (ns : List Nat) (y2 : Option V), σ = [some (.int F1), some (.ref L), y2] ∧ Same H H5 ∧ H5 L = some (.lst (ns.map fun n => V.int (n : Nat))) ∧ Fits m F1 ∧ ns.Nodup ∧ (∀ S ∈ ns, S < 2 ^ m ∧ F1.testBit S = false) ∧ (∀ S, F.testBit S = true ↔ S ∈ ns ∨ F1.testBit S = true) ∧ F1 = μ) F ?_ ?_ ?_
    · exact ⟨F, [], none, rfl, s1, hL, hf, List.nodup_nil, (fun S h => nomatch h), (fun S => by simp), rfl⟩
    · rintro μ σ H5 ⟨F1, ns, y2, rfl, s5, hL5, hf1, nd, off, mem, rfl⟩
      refine ⟨_, rfl, rfl, _, rfl, iteB (fun z => ?_) (fun z => ?_)⟩
      rotate_left
      · have z0 : F1 = 0 := by
          have z1 : ¬ ¬ V.int (F1 : Int) = V.int 0 := by simpa using z
          have z2 := V.int.inj (Classical.not_not.mp z1)
          omega
        refine ⟨_, rfl, q L H5 ns s5 nL hL5 nd fun S => ?_⟩
        rw [mem S, z0, Nat.zero_testBit]
        simp
      have z0 : F1 ≠ 0 := fun e => by
        rw [e] at z
        simp at z
      have tb : F1.testBit F1.log2 = true := Nat.testBit_log2 z0
      have lt := hf1 _ tb
      have le12 : 2 ^ m ≤ 2 ^ 13 := Nat.pow_le_pow_right (by decide) m12
      have ln : ns.length ≤ 2 ^ m := nat_few nd fun S h => (off S h).1
      have nin : F1.log2 ∉ ns := fun h => by
        have := (off _ h).2
        rw [tb] at this
        cases this
      have le1 := bit_le tb
      have eb := bits_pos z0
      try dsimp only [gName, tSeq, tAsg]
      refine ⟨_, rfl, _, rfl, _, _, rfl, rfl, ?_⟩
      have eN : ((Builtin.Int.intBits (F1 : Int) : Nat) : Int) - 1 = ((F1.log2 : Nat) : Int) := by rw [eb]; omega
      dsimp only
      rw [eN]
      refine ⟨_, rfl, .inl ⟨rfl, _, SqL.of hL5⟩, _, rfl, L, _, _, rfl, rfl, hL5, (by rw [List.length_map, sizeLine_eq]; omega), ?_⟩
      have s6 : Same H (upd H5 L (.lst ((ns.map fun n => V.int ((n : Nat) : Int)) ++ [V.int (F1.log2 : Nat)]))) := fun c o ec => by
        rw [upd_ne (ne_of_none ec nL)]
        exact s5 _ _ ec
      have hL6 : (upd H5 L (.lst ((ns.map fun n => V.int ((n : Nat) : Int)) ++ [V.int (F1.log2 : Nat)]))) L = some (.lst ((ns ++ [F1.log2]).map fun n => V.int ((n : Nat) : Int))) := by
        rw [upd_same, List.map_append]
        rfl
      generalize upd H5 L (.lst ((ns.map fun n => V.int ((n : Nat) : Int)) ++ [V.int (F1.log2 : Nat)])) = H6 at s6 hL6 ⊢
      have e12 : 2 ^ 13 = 8192 := by decide
      refine ⟨_, rfl, _, rfl, 1, F1.log2, rfl, rfl, shl_ok (n := 1) (by decide) (by omega), _, _, rfl, rfl, F1 - 2 ^ F1.log2, ?_, F1 - 2 ^ F1.log2, ns ++ [F1.log2], some (V.int (F1.log2 : Nat)), ?_, s6, hL6, fun S hS => ?_, ?_, fun S hS => ?_, fun S => ?_, rfl⟩
      · have := Nat.two_pow_pos F1.log2
        omega
      · have e : ((F1 : Int) - 1 * 2 ^ F1.log2) = ((F1 - 2 ^ F1.log2 : Nat) : Int) := by
          rw [Int.one_mul, Int.natCast_sub le1, Int.natCast_pow]
          rfl
        dsimp only
        rw [e]
        rfl
      · rw [bit_less tb, Bool.and_eq_true] at hS
        exact hf1 S hS.1
      · rw [List.nodup_append]
        refine ⟨nd, by simp, fun a1 h1 b1 h2 => ?_⟩
        rw [List.mem_singleton.mp h2]
        rintro rfl
        exact nin h1
      · rw [bit_less tb]
        rcases List.mem_append.mp hS with h | h
        · exact ⟨(off S h).1, by rw [(off S h).2]; rfl⟩
        · rw [List.mem_singleton.mp h]
          exact ⟨lt, by simp⟩
      · rw [mem S, bit_less tb, List.mem_append, List.mem_singleton, Bool.and_eq_true]
        by_cases c : S = F1.log2
        · rw [c]
          exact ⟨fun _ => .inl (.inr rfl), fun _ => .inr tb⟩
        · constructor
          · rintro (h | h)
            · exact .inl (.inl h)
            · exact .inr ⟨h, by simp [c]⟩
          · rintro ((h | h) | ⟨h, _⟩)
            · exact .inl h
            · exact absurd h c
            · exact .inr h
    · rintro σ H3 Q1 Q2 hQ ⟨v, e1, e2, k, e3, e4⟩
      exact ⟨v, e1, e2, k, e3, hQ _ _ e4⟩
theorem ok_rooms_of (T : At K mg "rooms_of_set" s_rooms_of_set ["number", "places"]) (B : Bt mg) : Cal P w K mg base 1 "rooms_of_set" ["number", "places"] spRoomsOf := by
  refine cal_of T sc_rooms_of_set (fun vs H Q E h => ?_) (fun f cdv A outer s H vs Q E hr h => ?_)
  · obtain ⟨n, pl, ms, rfl, _⟩ := h
    rfl
  · obtain ⟨n, pl, ms, rfl, hpl, nd, l12, q⟩ := h
    refine ⟨_, (pss_one (ps_ret (pe_callTy call_tupleF (by rfl) B.tuple (by decide +kernel) (pa_cons (pe_lc (own := [("room", 2)]) (g := (gName 2)) (tt := (tTest (tOp rEq _ (tC (.int 1))))) (te := (tVar 2)) (by rfl) sc_rooms_of_set.nd (pi_keys (pv 1)) (blkOk_by (own := [("room", 2)]) (N := ["number", "places", "room"]) (sc := defScope s_rooms_of_set) (by decide +kernel)) (fun _ _ _ _ _ => (pg_name (i := 2) sc_rooms_of_set.nd rfl (Or.inl rfl))) (fun _ _ _ _ _ => pts_one (pt_cmpR op_eq (pe_op op_andM (pe_op op_shrN (pv 0) (pe_dget (hu_of hr) (pv 1) (pv 2) (fun _ _ => rfl))) pe_int) pe_int (nomark _))) (fun _ _ _ _ _ => (pv 2))) pa_nil)))), ?_⟩
    obtain ⟨od, hod⟩ := id hpl
    have dget : ∀ k : Int, DGet H pl (.int k) (if k ∈ ms then some (V.int (ms.idxOf k : Nat)) else none) := fun k => by
      refine .inl ⟨plK ms, Sum.inl k, .inr ⟨od, hod⟩, rfl, ?_⟩
      have z := pl_val nd ms.length (Nat.le_refl _) k
      rw [show plT ms ms.length = plK ms from rfl] at z
      rw [z]
      by_cases c : k ∈ ms
      · rw [if_pos c, if_pos (List.idxOf_lt_length_iff.mpr c)]
      · rw [if_neg c, if_neg (fun y => c (List.idxOf_lt_length_iff.mp y))]
    refine ⟨_, rfl, pl, od, rfl, .inl ⟨plK ms, hod, fun D nD => ?_⟩⟩
    have lk : (plK ms).length = ms.length := by unfold plK; rw [List.length_map, List.length_range]
    refine lc_it walk_keys (fun i H2 => Same H H2 ∧ H2 D = some (.lst (((ms.take i).filter fun k => n.testBit (ms.idxOf k)).map V.int))) ?_ ?_ ?_ ?_
    · exact ⟨same_upd nD, upd_same⟩
    · rintro i H2 _ ⟨s2, _⟩
      exact s2 _ _ hod
    · rintro i x H2 H3 hi ⟨s2, hD⟩ ⟨rfl, k', v', ek, rfl⟩
      rw [lk] at hi
      obtain ⟨k, ej⟩ : ∃ k, ms[i]? = some k := ⟨_, List.getElem?_eq_getElem hi⟩
      have e1 : (plK ms)[i]? = some (Sum.inl k, V.int (i : Nat)) := by
        unfold plK
        rw [List.getElem?_map, List.getElem?_range hi]
        show some (Sum.inl (ms.getD i 0), V.int (i : Nat)) = _
        rw [List.getD_eq_getElem?_getD, ej]
        rfl
      rw [e1] at ek
      cases ek
      have eI := idx_at nd ej
      have et : ms.take (i + 1) = ms.take i ++ [k] := by rw [List.take_add_one, ej]; rfl
      have dk := dget k
      rw [if_pos (List.mem_of_getElem? ej), eI] at dk
      have dk3 : DGet H3 pl (.int k) (some (V.int (i : Nat))) := by
        obtain ⟨kv, kk, h1, h2, h3⟩ | h := dk
        · exact .inl ⟨kv, kk, h1.elim (fun z => .inl (s2 _ _ z)) (fun ⟨o, z⟩ => .inr ⟨o, s2 _ _ z⟩), h2, h3⟩
        · obtain ⟨_, _, _, _, z, _⟩ := h
          cases z
      refine ⟨rfl, _, rfl, _, rfl, _, rfl, pl, _, rfl, dk3, _, _, rfl, rfl, _, 1, rfl, rfl, ?_⟩
      rw [tb_div]
      refine ⟨rfl, _, rfl, iteB (fun z => ?_) (fun z => ?_)⟩
      · have z2 : n.testBit i = true := by
          cases c : n.testBit i with
          | true => rfl
          | false => rw [c] at z; simp at z
        refine ⟨_, rfl, _, hD, ?_, fun c o ec => ?_, ?_⟩
        · rw [List.length_map]
          refine Nat.lt_of_le_of_lt (List.length_filter_le _ _) ?_
          rw [List.length_take, sizeLine_eq]
          omega
        · rw [upd_ne (ne_of_none ec nD)]
          exact s2 _ _ ec
        · rw [upd_same, et, List.filter_append, List.map_append, List.filter_cons_of_pos (by rw [eI]; exact z2)]
          rfl
      · have z2 : n.testBit i = false := by
          cases c : n.testBit i with
          | false => rfl
          | true => rw [c] at z; simp at z
        refine ⟨s2, ?_⟩
        rw [et, List.filter_append, List.filter_cons_of_neg (by rw [eI, z2]; simp), List.filter_nil, List.append_nil]
        exact hD
    rintro H2 ⟨s2, hD⟩
    rw [lk, List.take_length] at hD
    refine ⟨D, _, rfl, SqL.of hD, fun t H4 s4 _ ht => ?_⟩
    exact q t H4 (s2.trans s4) (.inl ht)
end
end Su
/-! ### F6 -/
namespace Su
open PySem PySem.Spec PyProof.Rows L2
open LamX hiding takes0
open Fm
theorem sc_sorted_sets : FnScope ["numbers", "places", "number"] ["numbers", "places"] (defScope s_sorted_sets) := ⟨rfl, rfl, rfl, by decide +kernel, rfl, by decide +kernel, by decide +kernel⟩
section
variable {P : Program} {w : World} {K : PySem.W.Frag} {mg : Str → Option Value} {base : Heap}
theorem ok_sorted {T : List (Addr × Str)} {c PT : Addr} (TC : AtC K mg "sorted_sets" s_sorted_sets ["numbers", "places"] c) (TT : TabT base mg T c PT (qLam "sorted_sets")) (B : Bt mg) (c_rooms_of_set : Cal P w K mg base 1 "rooms_of_set" ["number", "places"] spRoomsOf) : Cal P w K mg base 3 "sorted_sets" ["numbers", "places"] (spSorted T) := by
  refine cal_ofC TC sc_sorted_sets (fun vs H Q E h => ?_) (fun f A outer s H vs Q E hr h => ?_)
  · obtain ⟨L, pl, ns, ms, rfl, _⟩ := h
    rfl
  · obtain ⟨L, pl, ns, ms, rfl, hL, l4, hpl, nd, l12, hT, q⟩ := h
    refine ⟨_, (pss_one (ps_ret (pe_sortKL (cs := []) (ps := ["one"]) (m := 0) (by rfl) B.sorted (by decide +kernel) (hr.mono (by decide)) (pa_cons (pe_lc (own := [("number", 2)]) (g := (gName 2)) (tt := tYes) (te := (tCall _ [] E0 (tCons (tVar 2) (tCons (tVar 1) tNil)))) (by rfl) sc_sorted_sets.nd (pi_list (pv 0)) (blkOk_by (own := [("number", 2)]) (N := ["numbers", "places", "number"]) (sc := defScope s_sorted_sets) (by decide +kernel)) (fun _ _ _ _ _ => (pg_name (i := 2) sc_sorted_sets.nd rfl (Or.inl rfl))) (fun _ _ _ _ _ => pts_nil) (fun _ _ _ _ _ => (pe_own c_rooms_of_set hr (by decide) (by rfl) (pa_cons (pv 2) (pa_cons (pv 1) pa_nil))))) pa_nil) TT.tb rfl TT.mem TT.uni (lamP_by (sc := defScope s_sorted_sets) (N := ["numbers", "places", "number"]) (by decide +kernel)) rfl (fun _ _ _ _ us hl => match us, hl with | [_], _ => rfl) (fun A outer s H f c hr => (pe_tupF (pa_cons (pe_callB (show CallR _ _ (rLenK K) from call_len_seq) (by rfl) B.len PySem.boot_len (pa_cons (pv 0) pa_nil)) (pa_cons (pv 0) pa_nil))))))), ?_⟩
    have kpl : ∀ {H2 : Hp}, Same H H2 → PlAt H2 pl ms := fun s2 => by
      obtain ⟨od, h⟩ := hpl
      exact ⟨od, s2 _ _ h⟩
    refine ⟨_, rfl, L, rfl, ⟨_, SqL.of hL⟩, fun D nD => ?_⟩
    refine lc_list (K := K) (a := L) (xs := ns.map fun n => V.int (n : Nat)) (fun i H2 => Same H H2 ∧ ∃ us, H2 D = some (.lst us) ∧ SetsAt H2 us ((ns.take i).map (roomsS ms))) ?_ ?_ ?_ ?_
    · exact ⟨same_upd nD, [], upd_same, .nil⟩
    · rintro i H2 _ ⟨s2, _⟩
      exact SqL.of (s2 _ _ hL)
    · rintro i v H2 hv ⟨s2, us, hD, hs⟩
      obtain ⟨n, en, rfl⟩ := map_geti hv
      have ul := hs.len
      rw [List.length_map, List.length_take] at ul
      refine ⟨rfl, tyes ⟨_, rfl, _, rfl, n, pl, ms, rfl, kpl s2, nd, l12, fun t H3 s3 ht => ?_⟩⟩
      have hD3 := s3 _ _ hD
      refine ⟨us, hD3, by rw [sizeLine_eq]; omega, fun c o ec => ?_, _, upd_same, ?_⟩
      · rw [upd_ne (ne_of_none ec nD)]
        exact s3 _ _ (s2 _ _ ec)
      · rw [List.take_add_one, en, List.map_append]
        exact ((hs.kp (KP.ext (ExtN.of s3))).snoc ht).updL hD3
    rintro H2 ⟨s2, us, hD, hs⟩
    rw [List.length_map, List.take_length] at hs
    obtain ⟨ts, e1, e2, hts⟩ := hs.pairs
    refine ⟨hT.ext s2, D, sdat ts, rfl, (by rw [sdat_fst, e1]; exact SqL.of hD), sdat_alike ts, sdat_sortable ts, sdat_deep ts, fun c' H3 eN T3 hco => ⟨fun z hz H4 s4 => ⟨rfl, ?_⟩, fun p H4 s4 np => ?_⟩⟩
    · obtain ⟨t, ht, rfl⟩ := List.mem_map.mp hz
      obtain ⟨a, ea, h2⟩ := hts t ht
      have h4 := (KP.ext (eN.trans (ExtN.of s4))).k _ _ h2
      refine ⟨_, rfl, a, _, by rw [ea], .inr h4.sq, _, rfl, (by show 2 ≤ sizeLine; decide), fun v H5 s5 nv hv => ⟨s5, ?_⟩⟩
      have h5 := (KP.ext (ExtN.of s5)).k _ _ h4
      rw [ea, List.length_map] at hv
      exact .tup hv.sq (.cons (.int _) (.cons (.tup h5.sq (dp_intsS _)) .nil))
    · have ex : ExtN H H4 := ((ExtN.of s2).trans eN).trans (ExtN.of s4)
      have new : NewN H p := fun o e => Classical.byContradiction fun n => by
        have := ex p o e (fun ps z => n ⟨ps, z⟩)
        rw [np] at this
        cases this
      rw [sdat_srt]
      refine q p _ ((ssort ts).map (·.1)) (fun b o e n => ?_) (fun u => ?_) new upd_same ?_
      · rw [upd_ne (fun z => by subst z; obtain ⟨ps, z⟩ := new o e; exact n ps z)]
        exact ex b o e n
      · rw [upd_upd]
        exact T3.ext fun b o e => by
          rw [upd_ne (ne_of_none (s4 _ _ e) np)]
          exact s4 _ _ e
      · rw [← e2, ← ssort_snd]
        refine SetsAt.of fun t ht => ?_
        obtain ⟨a, ea, h2⟩ := hts t (ssort_mem.mp ht)
        refine ⟨a, ea, ?_⟩
        have h4 := (KP.ext (eN.trans (ExtN.of s4))).k _ _ h2
        exact h4.updN np
end
end Su
/-! ### F1u: upward, leasts_of -/
namespace Su
open PySem PySem.Spec PyProof.Rows L2
open LamX hiding takes0
open Fm
def spUpw : Sp := fun vs H Q _ => ∃ (F m : Nat) (a : Addr), vs = [.int F, .ref a] ∧ LkAt H a m ∧ m ≤ 13 ∧ Fits m F ∧ Q (.int (upN m F)) H
theorem sc_upward : FnScope ["family", "lacks", "place"] ["family", "lacks"] (defScope s_upward) := ⟨rfl, rfl, rfl, by decide +kernel, rfl, by decide +kernel, by decide +kernel⟩
section
variable {P : Program} {w : World} {K : PySem.W.Frag} {mg : Str → Option Value} {base : Heap}
theorem ok_upward (T : At K mg "upward" s_upward ["family", "lacks"]) (B : Bt mg) (c_with_room : Cal P w K mg base 1 "with_room" ["family", "place", "lacks"] spWithR) : Cal P w K mg base 2 "upward" ["family", "lacks"] spUpw := by
  refine cal_of T sc_upward (fun vs H Q E h => ?_) (fun f cdv A outer s H vs Q E hr h => ?_)
  · obtain ⟨F, m, a, rfl, _⟩ := h
    rfl
  · obtain ⟨F, m, a, rfl, hl, m12, hf, q⟩ := h
    refine ⟨_, (pss_cons (ps_for PassesOwn.never rfl (pi_range1 (by rfl) B.range (pa_cons (pe_callB call_len_seq (by rfl) B.len PySem.boot_len (pa_cons (pv 1) pa_nil)) pa_nil)) (pg_name (i := 2) sc_upward.nd rfl (Or.inl rfl)) (pss_one (ps_aug (i := 0) sc_upward.nd rfl (Or.inl rfl) (pe_own c_with_room hr (by decide) (by rfl) (pa_cons (pv 0) (pa_cons (pv 2) (pa_cons (pv 1) pa_nil)))) ip_or)))
      (pss_one (ps_ret (pv 0)))), ?_⟩
    have ll : (lacksV m).length = m := by unfold lacksV; rw [List.length_map, List.length_range]
    refine ⟨_, rfl, a, _, rfl, .inl (SqL.of hl), (m : Int), by rw [ll], by omega, by omega, ?_⟩
    rw [Int.toNat_natCast]
    refine for_range (lo := 0) (n := m) (fun i σ H2 => H2 = H ∧ ∃ y2 : Option V, σ = [some (.int (upT m F i : Nat)), some (.ref a), y2]) ?_ ?_ ?_
    · exact ⟨rfl, none, rfl⟩
    · rintro i σ H2 hi ⟨rfl, y2, rfl⟩
      rw [Int.zero_add]
      refine ⟨_, rfl, _, rfl, _, rfl, _, rfl, upT m F i, i, m, a, rfl, hl, m12, hi, upT_fits hf (by omega), ?_⟩
      refine ⟨_, _, rfl, rfl, rfl, some (.int i), ?_⟩
      show [some (V.int (Builtin.bitOr ((upT m F i : Nat) : Int) ((withN m (upT m F i) i : Nat) : Int))), some (.ref a), some (.int (i : Nat))] = _
      rw [bor_nat]
      rfl
    · rintro σ H2 ⟨rfl, y2, rfl⟩
      exact ⟨_, rfl, q⟩
end
end Su
/-! ### F1l: leasts_of -/
namespace Su
open PySem PySem.Spec PyProof.Rows L2
open LamX hiding takes0
open Fm
def spLeast : Sp := fun vs H Q _ => ∃ (F m : Nat) (a : Addr), vs = [.int F, .ref a] ∧ LkAt H a m ∧ m ≤ 13 ∧ Fits m F ∧ Q (.int (leastN m F)) H
theorem sc_leasts_of : FnScope ["family", "lacks", "above", "place"] ["family", "lacks"] (defScope s_leasts_of) := ⟨rfl, rfl, rfl, by decide +kernel, rfl, by decide +kernel, by decide +kernel⟩
section
variable {P : Program} {w : World} {K : PySem.W.Frag} {mg : Str → Option Value} {base : Heap}
theorem ok_leasts (T : At K mg "leasts_of" s_leasts_of ["family", "lacks"]) (B : Bt mg) (mNo : ∃ t, mg "NO_FAMILY" = some (.int 0 t)) : Cal P w K mg base 1 "leasts_of" ["family", "lacks"] spLeast := by
  obtain ⟨tn, mNo⟩ := mNo
  refine cal_of T sc_leasts_of (fun vs H Q E h => ?_) (fun f cdv A outer s H vs Q E hr h => ?_)
  · obtain ⟨F, m, a, rfl, _⟩ := h
    rfl
  · obtain ⟨F, m, a, rfl, hl, m12, hf, q⟩ := h
    refine ⟨_, (pss_cons (ps_set (i := 2) sc_leasts_of.nd rfl (Or.inl rfl) (pe_glob (v := .int 0) rfl mNo ⟨_, rfl⟩))
      (pss_cons (ps_for PassesOwn.never rfl (pi_range1 (by rfl) B.range (pa_cons (pe_callB call_len_seq (by rfl) B.len PySem.boot_len (pa_cons (pv 1) pa_nil)) pa_nil)) (pg_name (i := 3) sc_leasts_of.nd rfl (Or.inl rfl)) (pss_one (ps_aug (i := 2) sc_leasts_of.nd rfl (Or.inl rfl) (pe_op op_shlN (pe_op op_and (pv 0) (pe_ix ix_list (pv 1) (pv 3) (fun _ _ => rfl))) (pe_op op_shlN pe_int (pv 3))) ip_or)))
      (pss_one (ps_ret (pe_op op_sub (pv 0) (pe_op op_and (pv 0) (pv 2))))))), ?_⟩
    have ll : (lacksV m).length = m := by unfold lacksV; rw [List.length_map, List.length_range]
    have abF : ∀ i, i ≤ m → Fits m (abTo m F i) := fun i hi => abTo_fits hf hi
    refine ⟨_, rfl, a, _, rfl, .inl (SqL.of hl), (m : Int), by rw [ll], by omega, by omega, ?_⟩
    rw [Int.toNat_natCast]
    refine for_range (lo := 0) (n := m) (fun i σ H2 => H2 = H ∧ ∃ y3 : Option V, σ = [some (.int F), some (.ref a), some (.int (abTo m F i : Nat)), y3]) ?_ ?_ ?_
    · exact ⟨rfl, none, rfl⟩
    · rintro i σ H2 hi ⟨rfl, y3, rfl⟩
      rw [Int.zero_add]
      have el : (lacksV m)[i]? = some (.int (lackN m i)) := by
        unfold lacksV
        rw [List.getElem?_map, List.getElem?_range hi]
        rfl
      have fw : Fits m (F &&& lackN m i) := fun S h => by
        rw [Nat.testBit_and, Bool.and_eq_true] at h
        exact hf S h.1
      refine ⟨_, rfl, _, rfl, _, rfl, _, rfl, a, _, i, .int (lackN m i), rfl, rfl, SqL.of hl, atI_nat el, F, (lackN m i : Nat), rfl, rfl, _, rfl, 1, i, rfl, rfl, shl_ok one_abs (by omega), ((F &&& lackN m i : Nat) : Int), 2 ^ i, ?_, ?_, shl_ok (fits_abs m12 fw) (by have := pow_small m12 hi; omega), ?_⟩
      · show V.int (Builtin.bitAnd (F : Int) (lackN m i : Nat)) = _
        rw [band_nat]
      · rw [shl_one]
      refine ⟨_, _, rfl, (show V.int _ = V.int (((F &&& lackN m i) <<< 2 ^ i : Nat) : Int) from by rw [shl_nat]), rfl, some (.int i), ?_⟩
      show [some (V.int (F : Nat)), some (.ref a), some (V.int (Builtin.bitOr ((abTo m F i : Nat) : Int) (((F &&& lackN m i) <<< 2 ^ i : Nat) : Int))), some (.int (i : Nat))] = _
      rw [bor_nat]
      rfl
    · rintro σ H2 ⟨rfl, y3, rfl⟩
      refine ⟨_, rfl, _, rfl, _, rfl, F, (abTo m F m : Nat), rfl, rfl, F, ((F &&& abTo m F m : Nat) : Int), rfl, ?_, ?_⟩
      · show V.int (Builtin.bitAnd (F : Int) (abTo m F m : Nat)) = _
        rw [band_nat]
      · show Q (V.int ((F : Int) - ((F &&& abTo m F m : Nat) : Int))) H2
        rw [← Int.ofNat_sub Nat.and_le_left]
        exact q
end
end Su
/-! ### F7: least_sets -/
namespace Su
open PySem PySem.Spec PyProof.Rows L2
open LamX hiding takes0
open Fm
/-- the r-th list of sets: those of the family's least ones -/
def LeastRow (H : Hp) (m : Nat) (ms : List Int) (F : Nat) (a : Addr) : Prop := ∃ (us : List V) (ns : List Nat), H a = some (.lst us) ∧ ns.Nodup ∧ (∀ S, S ∈ ns ↔ (leastN m F).testBit S = true) ∧ SetsAt H us (ordS (ns.map (roomsS ms)))
def LeastRows (H0 H : Hp) (m : Nat) (ms : List Int) (Fs : List Nat) (as : List Addr) : Prop := as.length = Fs.length ∧ as.Nodup ∧ ∀ (i : Nat) (F : Nat) (a : Addr), Fs[i]? = some F → as[i]? = some a → NewN H0 a ∧ LeastRow H m ms F a
def spLeastSets (T : List (Addr × Str)) : Sp := fun vs H Q _ => ∃ (W : Addr) (rs : List Rw) (k : Int), vs = [.ref W, .int k] ∧ WebAt H W rs ∧ WebOk rs ∧ 0 ≤ k ∧ k ≤ 99 ∧ Tabs T H ∧
  ∀ (p : Addr) (H' : Hp) (as : List Addr) (Fs : List Nat), ExtN H H' → Tabs T H' → NewN H p → H' p = some (.lst (as.map V.ref)) → p ∉ as → LineOk rs (othR rs k) (othR rs k).length (upN (othR rs k).length) 1 Fs [] → LeastRows H H' (othR rs k).length (othR rs k) Fs as → Q (.ref p) H'
theorem leastN_fits {m F : Nat} (hf : Fits m F) : Fits m (leastN m F) := fun S h => by
  unfold leastN at h
  rw [sub_and, Bool.and_eq_true] at h
  exact hf S h.1
theorem sc_least_sets : FnScope ["web", "room", "places", "lacks", "families", "family"] ["web", "room"] (defScope s_least_sets) := ⟨rfl, rfl, rfl, by decide +kernel, rfl, by decide +kernel, by decide +kernel⟩
section
variable {P : Program} {w : World} {K : PySem.W.Frag} {mg : Str → Option Value} {base : Heap}
theorem ok_least_sets {T : List (Addr × Str)} {fc : Addr} (hx : mg "upward" = some (.ref fc)) (TD : At K mg "least_sets" s_least_sets ["web", "room"]) (B : Bt mg) (mEm : ∃ t, mg "EMPTY_ALONE" = some (.int 1 t)) (c_look_at_web : Cal P w K mg base 5 "look_at_web" ["thing"] spLook) (c_look_at_room : Cal P w K mg base 3 "look_at_room" ["thing"] spLookRoom)
    (c_places_of : Cal P w K mg base 2 "places_of" ["web", "room"] spPlaces) (c_all_lacks : Cal P w K mg base 1 "all_lacks" ["many"] spLacks) (c_spread : Cal P w K mg base 3 "spread" ["web", "first", "places", "lacks", "close"] (spSpread fc fun m F => upN m F))
    (c_leasts_of : Cal P w K mg base 1 "leasts_of" ["family", "lacks"] spLeast) (c_numbers_in : Cal P w K mg base 1 "numbers_in" ["family"] spNums) (c_sorted_sets : Cal P w K mg base 3 "sorted_sets" ["numbers", "places"] (spSorted T)) : Cal P w K mg base 6 "least_sets" ["web", "room"] (spLeastSets T) := by
  obtain ⟨te, mEm⟩ := mEm
  refine cal_of TD sc_least_sets (fun vs H Q E h => ?_) (fun f cdv A outer s H vs Q E hr h => ?_)
  · obtain ⟨W, rs, k, rfl, _⟩ := h
    rfl
  · obtain ⟨W, rs, k, rfl, hW, ok, k0, k1, hT, q⟩ := h
    refine ⟨_, (pss_cons (ps_expr (pe_own c_look_at_web hr (by decide) (by rfl) (pa_cons (pv 0) pa_nil)))
      (pss_cons (ps_expr (pe_own c_look_at_room hr (by decide) (by rfl) (pa_cons (pv 1) pa_nil)))
      (pss_cons (ps_set (i := 2) sc_least_sets.nd rfl (Or.inr rfl) (pe_own c_places_of hr (by decide) (by rfl) (pa_cons (pv 0) (pa_cons (pv 1) pa_nil))))
      (pss_cons (ps_set (i := 3) sc_least_sets.nd rfl (Or.inr rfl) (pe_own c_all_lacks hr (by decide) (by rfl) (pa_cons (pe_callB cr_lenF (by rfl) B.len PySem.boot_len (pa_cons (pv 2) pa_nil)) pa_nil)))
      (pss_cons (ps_set (i := 4) sc_least_sets.nd rfl (Or.inl rfl) (pe_own c_spread hr (by decide) (by rfl) (pa_cons (pv 0) (pa_cons (pe_glob (v := .int 1) rfl mEm ⟨_, rfl⟩) (pa_cons (pv 2) (pa_cons (pv 3) (pa_cons (pe_glob (v := .ref fc) rfl hx rfl) pa_nil)))))))
      (pss_one (ps_ret (pe_lc (own := [("family", 5)]) (g := (gName 5)) (tt := tYes) (te := (tCall _ [] E0 (tCons (tCall _ [] E0 (tCons (tCall _ [] E0 (tCons (tVar 5) (tCons (tVar 3) tNil))) tNil)) (tCons (tVar 2) tNil)))) (by rfl) sc_least_sets.nd (pi_list (pv 4)) (blkOk_by (own := [("family", 5)]) (N := ["web", "room", "places", "lacks", "families", "family"]) (sc := defScope s_least_sets) (by decide +kernel)) (fun _ _ _ _ _ => (pg_name (i := 5) sc_least_sets.nd rfl (Or.inl rfl))) (fun _ _ _ _ _ => pts_nil) (fun _ _ _ _ _ => (pe_own c_sorted_sets hr (by decide) (by rfl) (pa_cons (pe_own c_numbers_in hr (by decide) (by rfl) (pa_cons (pe_own c_leasts_of hr (by decide) (by rfl) (pa_cons (pv 5) (pa_cons (pv 3) pa_nil))) pa_nil)) (pa_cons (pv 2) pa_nil)))))))))))), ?_⟩
    have l12 : (othR rs k).length ≤ 12 := by
      obtain ⟨S, hS, hin⟩ := id ok.all
      exact Nat.le_trans (List.length_filter_le _ _) (Nat.le_trans (nodup_few ((rooms_pw rs).imp fun h => Int.ne_of_lt h) fun k hk => hin k (rooms_mem.mp hk)) hS)
    have nd : (othR rs k).Nodup := ((rooms_pw rs).imp fun h => Int.ne_of_lt h).filter _
    refine ⟨_, rfl, W, rs, rfl, hW, ok, fun H1 s1 => ?_⟩
    refine ⟨_, rfl, k, rfl, k0, k1, ?_⟩
    refine ⟨_, rfl, _, rfl, W, rs, k, rfl, hW.same s1, ok, fun pl H2 s2 np hpl => ?_⟩
    have t2 := s1.trans s2
    obtain ⟨od, hod⟩ := id hpl
    try dsimp only [gName, tSeq, tAsg]
    refine ⟨_, rfl, pl, _, rfl, .inr ⟨od, hod⟩, (othR rs k).length, (by show [V.int (((plK (othR rs k)).length : Nat) : Int)] = _; rw [plK_len]), by omega, fun a H3 s3 na hl => ?_⟩
    have t3 := t2.trans s3
    have hpl3 : PlAt H3 pl (othR rs k) := ⟨od, s3 _ _ hod⟩
    try dsimp only [gName, tSeq, tAsg]
    refine ⟨_, rfl, _, rfl, _, rfl, W, pl, a, rs, othR rs k, (othR rs k).length, 1, rfl, hW.same t3, ok, hpl3, nd, Nat.le_refl _, hl, by omega, one_fits, fun L Fs H4 s4 nL hL line => ?_⟩
    have t4 := t3.trans s4
    have hpl4 : PlAt H4 pl (othR rs k) := ⟨od, s4 _ _ (s3 _ _ hod)⟩
    have hl4 : LkAt H4 a (othR rs k).length := s4 _ _ hl
    have nLH : H L = none := t3.free nL
    try dsimp only [gName, tSeq, tAsg]
    refine ⟨_, rfl, L, rfl, ⟨_, SqL.of hL⟩, fun D nD => ?_⟩
    have lF : Fs.length ≤ 80 := by
      rw [line.fam.len]
      exact ok.few
    refine lc_list (K := K) (a := L) (xs := Fs.map fun F => V.int (F : Nat)) (fun i H5 => ExtN H4 H5 ∧ Tabs T H5 ∧ ∃ as : List Addr, H5 D = some (.lst (as.map V.ref)) ∧ D ∉ as ∧ LeastRows H4 H5 (othR rs k).length (othR rs k) (Fs.take i) as) ?_ ?_ ?_ ?_
    · refine ⟨ExtN.of (same_upd nD), (hT.ext t4).ext (same_upd nD), [], upd_same, by simp, ?_, List.nodup_nil, fun i F a h _ => ?_⟩
      · rw [List.take_zero]
      · rw [List.take_zero] at h
        cases h
    · rintro i H5 _ ⟨e5, _⟩
      exact sqL_ext e5 (SqL.of hL)
    · rintro i v H5 hv ⟨e5, T5, as, hD, nDas, lr⟩
      obtain ⟨F, eF, rfl⟩ := map_geti hv
      have fF := line.fam.fits F (List.mem_of_getElem? eF)
      have hl5 : LkAt H5 a (othR rs k).length := e5 _ _ hl4 fun ps z => by cases z
      refine ⟨rfl, tyes ?_⟩
      refine ⟨_, rfl, _, rfl, F, _, a, rfl, hl5, by omega, fF, _, (othR rs k).length, rfl, by omega, ?_, fun N H6 ns s6 nN hN ndN memN => ?_⟩
      · exact leastN_fits fF
      have l4 : ns.length ≤ 8192 := by
        have h1 := nat_few ndN fun S hS => leastN_fits fF S ((memN S).mp hS)
        have h2 : 2 ^ (othR rs k).length ≤ 2 ^ 12 := Nat.pow_le_pow_right (by decide) l12
        have h3 : 2 ^ 12 = 4096 := by decide
        omega
      have e6 := e5.trans (ExtN.of s6)
      have hpl6 : PlAt H6 pl (othR rs k) := by
        obtain ⟨od4, h⟩ := hpl4
        exact ⟨od4, e6 _ _ h fun ps z => by cases z⟩
      refine ⟨_, rfl, N, pl, ns, othR rs k, rfl, hN, l4, hpl6, nd, l12, T5.ext s6, fun p H7 us eN TU np hp sets => ?_⟩
      have hD6 := s6 _ _ hD
      have hD7 := eN _ _ hD6 fun ps z => by cases z
      have pD : D ≠ p := np.ne hD6 fun ps z => by cases z
      have T7 : Tabs T H7 := by
        have z := TU (.lst us)
        rwa [show upd H7 p (.lst us) = H7 from funext fun b => by
          by_cases c : b = p
          · rw [c, upd_same, hp]
          · rw [upd_ne c]] at z
      have as_at : ∀ a' ∈ as, ∃ us', H6 a' = some (.lst us') := fun a' ha => by
        obtain ⟨j, hj, ej⟩ := List.mem_iff_getElem.mp ha
        have hj2 : j < (Fs.take i).length := by rw [← lr.1]; exact hj
        obtain ⟨_, us', _, h1, _⟩ := lr.2.2 j _ a' (List.getElem?_eq_getElem hj2) (by rw [List.getElem?_eq_getElem hj, ej])
        exact ⟨us', s6 _ _ h1⟩
      have pas : p ∉ as := fun h => by
        obtain ⟨us', h1⟩ := as_at p h
        exact np.ne h1 (fun ps z => by cases z) rfl
      have la : as.length = i := by
        have h1 := lr.1
        have h2 := (List.getElem?_eq_some_iff.mp eF).1
        rw [h1, List.length_take]
        omega
      have i80 := (List.getElem?_eq_some_iff.mp eF).1
      have e7 : ExtN H4 H7 := e6.trans eN
      have n4 : ∀ {a' : Addr}, NewN H6 a' → NewN H4 a' := fun n => newN_back e6 n
      refine ⟨as.map V.ref, hD7, by rw [List.length_map, sizeLine_eq]; omega, fun b o e n => ?_, tabs_lst T7 hD7, as ++ [p], by rw [upd_same, List.map_append]; rfl, fun h => ?_, by rw [List.length_append, lr.1, List.take_add_one, eF, List.length_append]; rfl, ?_, fun j F' a' eF' ea' => ?_⟩
      · rw [upd_ne (ne_of_none e nD)]
        exact e7 b o e n
      · rcases List.mem_append.mp h with h | h
        · exact nDas h
        · exact pD (List.mem_singleton.mp h)
      · rw [List.nodup_append]
        refine ⟨lr.2.1, by simp, fun a1 h1 b1 h2 => ?_⟩
        rw [List.mem_singleton.mp h2]
        rintro rfl
        exact pas h1
      · have kp7 : KP H5 H7 := KP.ext ((ExtN.of s6).trans eN)
        by_cases c : j < as.length
        · rw [List.getElem?_append_left c] at ea'
          rw [List.getElem?_take] at eF'
          have c2 : j < i := by omega
          rw [if_pos (by omega)] at eF'
          obtain ⟨h1, us', ns', h2, h3, h4, h5⟩ := lr.2.2 j F' a' (by rw [List.getElem?_take, if_pos c2]; exact eF') ea'
          have aD : a' ≠ D := fun z => nDas (z ▸ List.mem_of_getElem? ea')
          exact ⟨h1, us', ns', by rw [upd_ne aD]; exact eN _ _ (s6 _ _ h2) fun ps z => (by cases z), h3, h4, (h5.kp kp7).updL hD7⟩
        · have c3 : j = i := by
            have := (List.getElem?_eq_some_iff.mp ea').1
            rw [List.length_append, List.length_singleton] at this
            omega
          subst c3
          rw [← la, List.getElem?_append_right (Nat.le_refl _), Nat.sub_self] at ea'
          cases ea'
          rw [List.getElem?_take, if_pos (Nat.lt_succ_self _), eF] at eF'
          cases eF'
          exact ⟨n4 np, us, ns, by rw [upd_ne pD.symm]; exact hp, ndN, memN, sets.updL hD7⟩
    rintro H5 ⟨e5, T5, as, hD, nDas, lr⟩
    rw [List.length_map, List.take_length] at lr
    have e45 := (ExtN.of t4).trans e5
    exact q D H5 as Fs e45 T5 (NewN.of (t4.free nD)) hD nDas line ⟨lr.1, lr.2.1, fun j F' a' h1 h2 => ⟨newN_back (ExtN.of t4) (lr.2.2 j F' a' h1 h2).1, (lr.2.2 j F' a' h1 h2).2⟩⟩
end
end Su
/-! ### FR: the sets that come, as lists and as numbers -/
namespace Su
open PySem PySem.Spec PyProof.Rows L2
open LamX hiding takes0
open Fm
theorem fam_up {rs : List Rw} {k : Int} {m : Nat} {Fs : List Nat} (ok : WebOk rs) (em : (othR rs k).length = m) (line : LineOk rs (othR rs k) m (upN m) 1 Fs []) {r F : Nat} (eF : Fs[r]? = some F) : Up m F := by
  intro S T hS hs hT
  have key := line.fam.snd (fun r S => S < 2 ^ m ∧ ∀ F, Fs[r]? = some F → ∀ T, Sub S T → T < 2 ^ m → F.testBit T = true) (fun S hS => ?_) ⟨fun r row F' er fF' hF' t ht S hS => ?_⟩ r F S eF hS
  · exact key.2 F eF T hs hT
  · refine ⟨upN_fits one_fits S hS, fun F0 e0 T hs hT => ?_⟩
    exact inn_iff.mp (line.fam.init F0 e0) T (upN_up one_fits S T hS hs hT)
  · have fB' := behN_fits (ms := othR rs k) (Nat.le_of_eq em) fF' row.1
    refine ⟨upN_fits fB' S hS, fun G0 e0 T hs hT => ?_⟩
    have rl := (List.getElem?_eq_some_iff.mp er).1
    obtain ⟨Fr, hFr⟩ : ∃ Fr, Fs[r]? = some Fr := ⟨_, List.getElem?_eq_getElem (by rw [line.fam.len]; exact rl)⟩
    have fFr := line.fam.fits Fr (List.mem_of_getElem? hFr)
    have sub : ∀ S, F'.testBit S = true → Fr.testBit S = true := fun S hS => (hF' S hS).2 Fr hFr S (Sub.refl S) (hF' S hS).1
    obtain ⟨G, eG, inn⟩ := line.dn r rl (fun z => nomatch z) row Fr er hFr t ht
    rw [e0] at eG
    cases eG
    refine inn_iff.mp inn T ?_
    have hT' := upN_up fB' S T hS hs hT
    obtain ⟨h1, U, h2, h3⟩ := (upN_bit fB' T).mp hT'
    exact (upN_bit (behN_fits (Nat.le_of_eq em) fFr row.1) T).mpr ⟨h1, U, beh_mono (Nat.le_of_eq em) fF' fFr sub h2, h3⟩
theorem numL_nil (ms : List Int) : numL ms [] = 0 := by
  refine Nat.eq_of_testBit_eq fun j => ?_
  rw [Nat.zero_testBit]
  cases z : (numL ms []).testBit j with
  | false => rfl
  | true =>
    obtain ⟨x, _, hx⟩ := (numL_bit _ _ _).mp z
    cases hx
theorem fam_has {rs : List Rw} {k : Int} {m : Nat} {cs : List CE} {Fs : List Nat} (c : Came (famSys rs k) cs) (ok : WebOk rs) (em : (othR rs k).length = m) (line : LineOk rs (othR rs k) m (upN m) 1 Fs []) : ∀ (i : Nat) (e : CE), cs[i]? = some e → ∀ F, Fs[e.row]? = some F → F.testBit (numL (othR rs k) (unfk e.st).1) = true := by
  have nd : (othR rs k).Nodup := (oth_pw rs k).imp fun h => Int.ne_of_lt h
  have lt : ∀ l, numL (othR rs k) l < 2 ^ m := fun l => by rw [← em]; exact numL_lt _ l
  intro i
  induction i using Nat.strongRecOn with
  | ind i ih =>
    intro e he F eF
    have b := c.bk i e he
    unfold Sys.frmOk at b
    split at b
    · have h2 : e.st = fk [] true := List.mem_singleton.mp b.2
      rw [h2, unfk_fk, numL_nil]
      rw [b.1] at eF
      refine inn_iff.mp (line.fam.init F eF) 0 ((upN_bit one_fits 0).mpr ⟨Nat.two_pow_pos m, 0, rfl, Sub.refl 0⟩)
    · rename_i r0 s0 a z
      obtain ⟨j, e0, row, h1, h2, h3, h4, h5, h6, h7⟩ := b
      have h4 : rs[r0]? = some row := h4
      have k1 : e0.row = r0 := congrArg Prod.fst h3
      have k2 : e0.st = s0 := congrArg Prod.snd h3
      obtain ⟨_, l0, b0, hs0, pw0, sub0⟩ := c.ok e0 (List.mem_of_getElem? h2)
      have rl := (List.getElem?_eq_some_iff.mp h4).1
      obtain ⟨F0, eF0⟩ : ∃ F0, Fs[r0]? = some F0 := ⟨_, List.getElem?_eq_getElem (by rw [line.fam.len]; exact rl)⟩
      have i0 := ih j h1 e0 h2 F0 (by rw [k1]; exact eF0)
      rw [hs0, unfk_fk] at i0
      have i0 : F0.testBit (numL (othR rs k) l0) = true := i0
      have z0 : F0 ≠ 0 := fun y => by rw [y, Nat.zero_testBit] at i0; cases i0
      have fF0 := line.fam.fits F0 (List.mem_of_getElem? eF0)
      obtain ⟨G, eG, inn⟩ := line.dn r0 rl (fun z => nomatch z) row F0 h4 eF0 e.row h6
      rw [Int.toNat_natCast, eF] at eG
      cases eG
      have s0e : s0 = fk l0 b0 := k2.symm.trans hs0
      refine inn_iff.mp inn _ ((upN_bit (behN_fits (Nat.le_of_eq em) fF0 row.1) _).mpr ⟨lt _, _, ?_, Sub.refl _⟩)
      rw [h7, s0e]
      cases a with
      | none =>
        have zr : row.1 = [] := by
          unfold asksL at h5
          split at h5
          · assumption
          · obtain ⟨x, _, hx⟩ := List.mem_map.mp h5
            cases hx
        show (behN m (othR rs k) F0 row.1).testBit (numL (othR rs k) (unfk (fk l0 b0)).1) = true
        rw [unfk_fk]
        unfold behN
        rw [if_pos (.inr zr)]
        exact i0
      | some x =>
        have hx : x ∈ row.1 ∧ row.1 ≠ [] := by
          unfold asksL at h5
          split at h5
          · simp at h5
          · rename_i n
            obtain ⟨y, hy, e⟩ := List.mem_map.mp h5
            cases e
            exact ⟨hy, n⟩
        rw [fam_next, unfk_fk]
        unfold behN
        rw [if_neg (fun y => y.elim z0 hx.2)]
        refine asks_bit.mpr ⟨x, hx.1, ?_⟩
        unfold askN
        by_cases cx : x ∈ othR rs k
        · have nk := (mem_oth.mp cx).2
          rw [if_pos cx, withN_bit (by rw [← em]; exact List.idxOf_lt_length_iff.mpr cx) fF0, Bool.and_eq_true, Bool.or_eq_true]
          have hp : (numL (othR rs k) (laterF k l0 b0 x).1).testBit ((othR rs k).idxOf x) = true := (numL_idx cx).mpr ((later_mem nk).mpr (.inr rfl))
          refine ⟨hp, ?_⟩
          by_cases cl : x ∈ l0
          · left
            have : numL (othR rs k) (laterF k l0 b0 x).1 = numL (othR rs k) l0 := by
              refine Nat.eq_of_testBit_eq fun j => ?_
              rw [Bool.eq_iff_iff, numL_bit, numL_bit]
              refine ⟨fun ⟨y, h1, h2⟩ => ⟨y, h1, ?_⟩, fun ⟨y, h1, h2⟩ => ⟨y, h1, (later_mem nk).mpr (.inl h2)⟩⟩
              rcases (later_mem nk).mp h2 with h | h
              · exact h
              · rw [h]
                exact cl
            show F0.testBit (numL (othR rs k) (laterF k l0 b0 x).1) = true
            rw [this]
            exact i0
          · right
            have : numL (othR rs k) (laterF k l0 b0 x).1 - 2 ^ (othR rs k).idxOf x = numL (othR rs k) l0 := by
              refine Nat.eq_of_testBit_eq fun j => ?_
              rw [bit_less hp, Bool.eq_iff_iff, Bool.and_eq_true, numL_bit, numL_bit]
              constructor
              · rintro ⟨⟨y, h1, h2⟩, h3⟩
                refine ⟨y, h1, ?_⟩
                rcases (later_mem nk).mp h2 with h | h
                · exact h
                · rw [h] at h1
                  rw [idx_at nd h1] at h3
                  simp at h3
              · rintro ⟨y, h1, h2⟩
                refine ⟨⟨y, h1, (later_mem nk).mpr (.inl h2)⟩, ?_⟩
                have : ¬ j = (othR rs k).idxOf x := fun e => by
                  rw [e, get_idx cx] at h1
                  cases h1
                  exact cl h2
                simp [this]
            show F0.testBit (numL (othR rs k) (laterF k l0 b0 x).1 - 2 ^ (othR rs k).idxOf x) = true
            rw [this]
            exact i0
        · rw [if_neg cx]
          have xk : x = k := Classical.byContradiction fun y => cx (mem_oth.mpr ⟨List.mem_flatten.mpr ⟨row.1, List.mem_map.mpr ⟨row, List.mem_of_getElem? h4, rfl⟩, hx.1⟩, y⟩)
          unfold laterF
          rw [if_pos xk, numL_nil]
          rfl
/-- the families that are spread: above the sets that come -/
theorem fam_meaning {rs : List Rw} {k : Int} {cs : List CE} {Fs : List Nat} (c : Came (famSys rs k) cs) (ok : WebOk rs) (line : LineOk rs (othR rs k) (othR rs k).length (upN (othR rs k).length) 1 Fs []) {r F : Nat} (eF : Fs[r]? = some F) (S : Nat) :
    F.testBit S = true ↔ S < 2 ^ (othR rs k).length ∧ ∃ l, Comes cs r l ∧ Sub (numL (othR rs k) l) S := by
  have nd : (othR rs k).Nodup := (oth_pw rs k).imp fun h => Int.ne_of_lt h
  have hlen : ∀ l, numL (othR rs k) l < 2 ^ (othR rs k).length := fun l => numL_lt _ l
  generalize em : (othR rs k).length = m at *
  have n0 : numL (othR rs k) [] = 0 := by
    refine Nat.eq_of_testBit_eq fun j => ?_
    rw [Nat.zero_testBit]
    cases z : (numL (othR rs k) []).testBit j with
    | false => rfl
    | true =>
      obtain ⟨x, _, hx⟩ := (numL_bit _ _ _).mp z
      cases hx
  constructor
  · intro h
    refine line.fam.snd (fun r S => S < 2 ^ m ∧ ∃ l, Comes cs r l ∧ Sub (numL (othR rs k) l) S) (fun S hS => ?_) ⟨fun r row F er fF hF t ht S hS => ?_⟩ r F S eF h
    · obtain ⟨h1, T, h2, h3⟩ := (upN_bit one_fits S).mp hS
      refine ⟨h1, [], ⟨true, c.st _ (List.mem_singleton.mpr rfl)⟩, ?_⟩
      rw [n0]
      exact fun i hi => by rw [Nat.zero_testBit] at hi; cases hi
    · obtain ⟨h1, T, h2, h3⟩ := (upN_bit (behN_fits (Nat.le_of_eq em) fF row.1) S).mp hS
      refine ⟨h1, ?_⟩
      unfold behN at h2
      by_cases z : F = 0 ∨ row.1 = []
      · rw [if_pos z] at h2
        rcases z with z | z
        · rw [z, Nat.zero_testBit] at h2
          cases h2
        · obtain ⟨_, l, ⟨b, hb⟩, hs⟩ := hF T h2
          refine ⟨l, ⟨b, ?_⟩, hs.trans h3⟩
          exact came_step c hb er (a := none) (by unfold asksL; rw [if_pos z]; exact List.mem_singleton.mpr rfl) ht
      · rw [if_neg z] at h2
        have zF : F ≠ 0 := fun y => z (.inl y)
        have zr : row.1 ≠ [] := fun y => z (.inr y)
        obtain ⟨x, hx, hbx⟩ : ∃ x ∈ row.1, (askN m (othR rs k) F x).testBit T = true := asks_bit.mp h2
        unfold askN at hbx
        by_cases cx : x ∈ othR rs k
        · rw [if_pos cx, withN_bit (by rw [← em]; exact List.idxOf_lt_length_iff.mpr cx) fF, Bool.and_eq_true, Bool.or_eq_true] at hbx
          have nk := (mem_oth.mp cx).2
          obtain ⟨U, hU, hUT⟩ : ∃ U, F.testBit U = true ∧ Sub U T := by
            rcases hbx.2 with y | y
            · exact ⟨T, y, Sub.refl T⟩
            · exact ⟨_, y, sub_less hbx.1⟩
          obtain ⟨_, l, ⟨b, hb⟩, hs⟩ := hF U hU
          have st := came_step c hb er (asks_of_ne zr hx) ht
          rw [fam_next] at st
          refine ⟨_, ⟨_, st⟩, Sub.trans ?_ h3⟩
          intro i hi
          obtain ⟨y, ey, hy⟩ := (numL_bit _ _ _).mp hi
          rcases (later_mem nk).mp hy with h | h
          · exact hUT i (hs i ((numL_bit _ _ _).mpr ⟨y, ey, h⟩))
          · rw [h] at ey
            rw [← idx_at nd ey]
            exact hbx.1
        · rw [if_neg cx] at hbx
          have xk : x = k := Classical.byContradiction fun y => cx (mem_oth.mpr ⟨List.mem_flatten.mpr ⟨row.1, List.mem_map.mpr ⟨row, List.mem_of_getElem? er, rfl⟩, hx⟩, y⟩)
          obtain ⟨U, hU⟩ : ∃ U, F.testBit U = true := ⟨F.log2, Nat.testBit_log2 zF⟩
          obtain ⟨_, l, ⟨b, hb⟩, _⟩ := hF U hU
          have st := came_step c hb er (asks_of_ne zr hx) ht
          rw [fam_next] at st
          refine ⟨[], ⟨false, ?_⟩, ?_⟩
          · unfold laterF at st
            rw [if_pos xk] at st
            exact st
          · rw [n0]
            exact fun i hi => by rw [Nat.zero_testBit] at hi; cases hi
  · rintro ⟨h1, l, ⟨b, hb⟩, hs⟩
    have up : ∀ (i : Nat) (e : CE), cs[i]? = some e → ∀ F, Fs[e.row]? = some F → F.testBit (numL (othR rs k) (unfk e.st).1) = true ∧ Up m F := fun i e he F hF => ⟨fam_has c ok em line i e he F hF, fam_up ok em line hF⟩
    obtain ⟨e, he, ek⟩ := List.mem_map.mp hb
    obtain ⟨i, hi⟩ := List.mem_iff_getElem?.mp he
    have e1 : e.row = r := congrArg Prod.fst ek
    have e2 : e.st = fk l b := congrArg Prod.snd ek
    obtain ⟨u1, u2⟩ := up i e hi F (by rw [e1]; exact eF)
    rw [e2, unfk_fk] at u1
    exact u2 _ _ u1 hs h1
/-- the least sets that come to a row -/
def LeastC (cs : List CE) (r : Nat) (l : List Int) : Prop := Comes cs r l ∧ ∀ l', Comes cs r l' → (∀ x ∈ l', x ∈ l) → l' = l
theorem fam_least_mem {rs : List Rw} {k : Int} {cs : List CE} {Fs : List Nat} (c : Came (famSys rs k) cs) (ok : WebOk rs) (line : LineOk rs (othR rs k) (othR rs k).length (upN (othR rs k).length) 1 Fs []) {r F : Nat} (eF : Fs[r]? = some F) {ns : List Nat} (nd : ns.Nodup) (hn : ∀ S, S ∈ ns ↔ (leastN (othR rs k).length F).testBit S = true) : (ns.map (roomsS (othR rs k))).Nodup ∧ ∀ l, l ∈ ns.map (roomsS (othR rs k)) ↔ LeastC cs r l := by
  have ndm : (othR rs k).Nodup := (oth_pw rs k).imp fun h => Int.ne_of_lt h
  have fF := line.fam.fits F (List.mem_of_getElem? eF)
  have up := fam_up ok rfl line eF
  have lo : ∀ {l}, Comes cs r l → l.Pairwise (· < ·) ∧ ∀ x ∈ l, x ∈ othR rs k := fun {l} ⟨b, hb⟩ => by
    obtain ⟨e, he, ek⟩ := List.mem_map.mp hb
    obtain ⟨_, l0, b0, hs0, pw0, sub0⟩ := c.ok e he
    have e2 : e.st = fk l b := congrArg Prod.snd ek
    have := (fk_inj (hs0.symm.trans e2)).1
    rw [← this]
    exact ⟨pw0, sub0⟩
  have main : ∀ S, (leastN (othR rs k).length F).testBit S = true ↔ ∃ l, LeastC cs r l ∧ S = numL (othR rs k) l := by
    intro S
    rw [least_bit fF up]
    constructor
    · rintro ⟨h1, h2⟩
      obtain ⟨lt, l, hl, hs⟩ := (fam_meaning c ok line eF S).mp h1
      have e1 : numL (othR rs k) l = S := h2 _ ((fam_meaning c ok line eF _).mpr ⟨numL_lt _ _, l, hl, Sub.refl _⟩) hs
      refine ⟨l, ⟨hl, fun l' hl' sub => ?_⟩, e1.symm⟩
      have s1 : Sub (numL (othR rs k) l') S := by
        rw [← e1]
        exact numL_sub.mpr fun x _ hx => sub x hx
      have e2 := h2 _ ((fam_meaning c ok line eF _).mpr ⟨numL_lt _ _, l', hl', Sub.refl _⟩) s1
      rw [← rooms_num (oth_pw rs k) (lo hl').1 (lo hl').2, ← rooms_num (oth_pw rs k) (lo hl).1 (lo hl).2, e2, e1]
    · rintro ⟨l, ⟨hl, hm⟩, rfl⟩
      refine ⟨(fam_meaning c ok line eF _).mpr ⟨numL_lt _ _, l, hl, Sub.refl _⟩, fun T hT hs => ?_⟩
      obtain ⟨lt, l', hl', hs'⟩ := (fam_meaning c ok line eF T).mp hT
      have e := hm l' hl' fun x hx => numL_sub.mp (hs'.trans hs) x ((lo hl').2 x hx) hx
      rw [e] at hs'
      exact Sub.antisymm hs hs'
  refine ⟨?_, fun l => ?_⟩
  · refine List.pairwise_map.mpr (List.Pairwise.imp_of_mem (fun {a b} ha hb n e => n ?_) nd)
    have la := leastN_fits fF a ((hn a).mp ha)
    have lb := leastN_fits fF b ((hn b).mp hb)
    rw [← num_rooms ndm la, ← num_rooms ndm lb, e]
  · rw [List.mem_map]
    constructor
    · rintro ⟨S, hS, rfl⟩
      obtain ⟨l, hl, e⟩ := (main S).mp ((hn S).mp hS)
      rw [e, rooms_num (oth_pw rs k) (lo hl.1).1 (lo hl.1).2]
      exact hl
    · intro h
      exact ⟨numL (othR rs k) l, (hn _).mpr ((main _).mpr ⟨l, h, rfl⟩), rooms_num (oth_pw rs k) (lo h.1).1 (lo h.1).2⟩
theorem upN_zero (m : Nat) : upN m 0 = 0 := by
  refine Nat.eq_of_testBit_eq fun j => ?_
  rw [Nat.zero_testBit]
  cases z : (upN m 0).testBit j with
  | false => rfl
  | true =>
    obtain ⟨_, T, h, _⟩ := (upN_bit zero_fits j).mp z
    rw [Nat.zero_testBit] at h
    cases h
end Su
/-! ### G0: families closed downward, and their greatest sets -/
namespace Su.Fm
/-- the set with a place that it lacks -/
theorem bit_more {S p : Nat} (h : S.testBit p = false) (i : Nat) : (S + 2 ^ p).testBit i = (S.testBit i || decide (i = p)) := by
  rw [testBit_add_disj _ _ _ fun j => ?_, Nat.testBit_two_pow]
  · congr 1
    exact decide_eq_decide.mpr ⟨Eq.symm, Eq.symm⟩
  · rw [Nat.testBit_two_pow]
    by_cases c : p = j
    · rw [← c, h]
      rfl
    · simp [c]
theorem sub_more {S p : Nat} (h : S.testBit p = false) : Sub S (S + 2 ^ p) := fun i hi => by
  rw [bit_more h, hi]
  rfl
theorem sub_le_pow {m S T : Nat} (s : Sub S T) (h : T < 2 ^ m) : S < 2 ^ m := Nat.lt_pow_two_of_testBit S fun i hi => by
  cases c : S.testBit i
  · rfl
  · have := sub_lt h (s i c)
    omega
/-- the sets that lack place p where F holds the set with it -/
theorem less_bit {m F p : Nat} (hp : p < m) (hf : Fits m F) (S : Nat) : ((F >>> 2 ^ p) &&& lackN m p).testBit S = true ↔ S.testBit p = false ∧ F.testBit (S + 2 ^ p) = true := by
  rw [Nat.testBit_and, Nat.testBit_shiftRight, lackN_bit hp, Nat.add_comm, Bool.and_eq_true, Bool.and_eq_true, decide_eq_true_eq]
  constructor
  · rintro ⟨h1, _, h2⟩
    exact ⟨by simpa using h2, h1⟩
  · rintro ⟨h1, h2⟩
    exact ⟨h2, Nat.lt_of_le_of_lt (Nat.le_add_right _ _) (hf _ h2), by rw [h1]; rfl⟩
def downT (m F : Nat) : Nat → Nat
  | 0 => F
  | p + 1 => downT m F p ||| ((downT m F p >>> 2 ^ p) &&& lackN m p)
theorem downT_fits {m F : Nat} (hf : Fits m F) : ∀ {p : Nat}, p ≤ m → Fits m (downT m F p)
  | 0, _ => hf
  | p + 1, h => (downT_fits hf (by omega)).or fun S hb => by
    obtain ⟨h1, h2⟩ := (less_bit (by omega) (downT_fits hf (show p ≤ m by omega)) S).mp hb
    exact Nat.lt_of_le_of_lt (Nat.le_add_right _ _) (downT_fits hf (show p ≤ m by omega) _ h2)
theorem downT_bit {m F : Nat} (hf : Fits m F) : ∀ {p : Nat}, p ≤ m → ∀ (S : Nat), (downT m F p).testBit S = true ↔ ∃ T, F.testBit T = true ∧ Sub S T ∧ ∀ i, T.testBit i = true → S.testBit i = false → i < p
  | 0, _, S => by
    constructor
    · intro h
      exact ⟨S, h, Sub.refl S, fun i h1 h2 => by rw [h1] at h2; cases h2⟩
    · rintro ⟨T, h1, h2, h3⟩
      have e : S = T := h2.antisymm fun i hi => by
        cases c : S.testBit i
        · exact absurd (h3 i hi c) (by omega)
        · rfl
      rw [e]
      exact h1
  | p + 1, hp, S => by
    show (downT m F p ||| ((downT m F p >>> 2 ^ p) &&& lackN m p)).testBit S = true ↔ _
    rw [Nat.testBit_or, Bool.or_eq_true, less_bit (by omega) (downT_fits hf (by omega)), downT_bit hf (by omega) S, downT_bit hf (by omega) (S + 2 ^ p)]
    constructor
    · rintro (⟨T, h1, h2, h3⟩ | ⟨hS, T, h1, h2, h3⟩)
      · exact ⟨T, h1, h2, fun i a b => by have := h3 i a b; omega⟩
      · refine ⟨T, h1, (sub_more hS).trans h2, fun i a b => ?_⟩
        by_cases c : i = p
        · omega
        · have := h3 i a (by rw [bit_more hS, b, decide_eq_false c]; rfl)
          omega
    · rintro ⟨T, h1, h2, h3⟩
      by_cases hT : T.testBit p = true
      · cases hS : S.testBit p
        · refine .inr ⟨rfl, T, h1, fun i hi => ?_, fun i a b => ?_⟩
          · rw [bit_more hS, Bool.or_eq_true, decide_eq_true_eq] at hi
            rcases hi with hi | rfl
            · exact h2 i hi
            · exact hT
          · rw [bit_more hS, Bool.or_eq_false_iff] at b
            have := h3 i a b.1
            have hne : i ≠ p := by simpa using b.2
            omega
        · refine .inl ⟨T, h1, h2, fun i a b => ?_⟩
          have := h3 i a b
          by_cases c : i = p
          · rw [c, hS] at b
            cases b
          · omega
      · refine .inl ⟨T, h1, h2, fun i a b => ?_⟩
        have := h3 i a b
        by_cases c : i = p
        · exact absurd (c ▸ a) hT
        · omega
/-- what lies below: closed -/
def downN (m F : Nat) : Nat := downT m F m
theorem downN_fits {m F : Nat} (hf : Fits m F) : Fits m (downN m F) := downT_fits hf (Nat.le_refl m)
theorem downN_bit {m F : Nat} (hf : Fits m F) (S : Nat) : (downN m F).testBit S = true ↔ ∃ T, F.testBit T = true ∧ Sub S T := by
  constructor
  · intro h
    obtain ⟨T, h1, h2, _⟩ := (downT_bit hf (Nat.le_refl m) S).mp h
    exact ⟨T, h1, h2⟩
  · rintro ⟨T, h1, h2⟩
    exact (downT_bit hf (Nat.le_refl m) S).mpr ⟨T, h1, h2, fun i a _ => sub_lt (hf T h1) a⟩
/-- closed downward -/
def Down (F : Nat) : Prop := ∀ S T, F.testBit T = true → Sub S T → F.testBit S = true
theorem downN_down {m F : Nat} (hf : Fits m F) : Down (downN m F) := fun S T h s => by
  obtain ⟨U, h1, h2⟩ := (downN_bit hf T).mp h
  exact (downN_bit hf S).mpr ⟨U, h1, s.trans h2⟩
theorem downN_zero (m : Nat) : downN m 0 = 0 := by
  have zf : Fits m 0 := fun S h => by
    rw [Nat.zero_testBit] at h
    cases h
  refine Nat.eq_of_testBit_eq fun j => ?_
  rw [Nat.zero_testBit]
  cases z : (downN m 0).testBit j with
  | false => rfl
  | true =>
    obtain ⟨T, h, _⟩ := (downN_bit zf j).mp z
    rw [Nat.zero_testBit] at h
    cases h
/-- the sets that lie below one by one place -/
def belTo (m F : Nat) : Nat → Nat
  | 0 => 0
  | p + 1 => belTo m F p ||| ((F >>> 2 ^ p) &&& lackN m p)
theorem belTo_bit {m F : Nat} (hf : Fits m F) : ∀ {p : Nat}, p ≤ m → ∀ (S : Nat), (belTo m F p).testBit S = true ↔ ∃ i, i < p ∧ S.testBit i = false ∧ F.testBit (S + 2 ^ i) = true
  | 0, _, S => by
    constructor
    · intro h
      rw [show belTo m F 0 = 0 from rfl, Nat.zero_testBit] at h
      cases h
    · rintro ⟨i, h, _⟩
      omega
  | p + 1, hp, S => by
    show (belTo m F p ||| ((F >>> 2 ^ p) &&& lackN m p)).testBit S = true ↔ _
    rw [Nat.testBit_or, Bool.or_eq_true, belTo_bit hf (by omega) S, less_bit (by omega) hf]
    constructor
    · rintro (⟨i, h1, h2⟩ | h)
      · exact ⟨i, by omega, h2⟩
      · exact ⟨p, by omega, h⟩
    · rintro ⟨i, h1, h2⟩
      by_cases c : i = p
      · subst c
        exact .inr h2
      · exact .inl ⟨i, by omega, h2⟩
def greatN (m F : Nat) : Nat := F - (F &&& belTo m F m)
theorem greatN_fits {m F : Nat} (hf : Fits m F) : Fits m (greatN m F) := fun S h => by
  unfold greatN at h
  rw [sub_and, Bool.and_eq_true] at h
  exact hf S h.1
theorem great_bit {m F : Nat} (hf : Fits m F) (dn : Down F) (S : Nat) : (greatN m F).testBit S = true ↔ F.testBit S = true ∧ ∀ T, F.testBit T = true → Sub S T → T = S := by
  unfold greatN
  rw [sub_and, Bool.and_eq_true]
  constructor
  · rintro ⟨h1, h2⟩
    refine ⟨h1, fun T hT sT => Classical.byContradiction fun ne => ?_⟩
    obtain ⟨i, hi⟩ : ∃ i, T.testBit i = true ∧ S.testBit i = false := Classical.byContradiction fun z => ne (Sub.antisymm (fun i hi => by
      cases c : S.testBit i
      · exact absurd ⟨i, hi, c⟩ z
      · rfl) sT)
    have lT := hf T hT
    have hb := dn (S + 2 ^ i) T hT fun j hj => by
      rw [bit_more hi.2, Bool.or_eq_true, decide_eq_true_eq] at hj
      rcases hj with hj | rfl
      · exact sT j hj
      · exact hi.1
    rw [show (belTo m F m).testBit S = true from (belTo_bit hf (Nat.le_refl m) S).mpr ⟨i, sub_lt lT hi.1, hi.2, hb⟩] at h2
    cases h2
  · rintro ⟨h1, h2⟩
    refine ⟨h1, ?_⟩
    cases c : (belTo m F m).testBit S
    · rfl
    · obtain ⟨i, _, a, b⟩ := (belTo_bit hf (Nat.le_refl m) S).mp c
      have := h2 _ b (sub_more a)
      have := Nat.two_pow_pos i
      omega
/-- the set of all places -/
theorem top_bit (m i : Nat) : (2 ^ m - 1).testBit i = decide (i < m) := Nat.testBit_two_pow_sub_one m i
theorem top_sub {m S : Nat} (h : S < 2 ^ m) : Sub S (2 ^ m - 1) := fun i hi => by
  rw [top_bit]
  exact decide_eq_true (sub_lt h hi)
end Su.Fm
/-! ### Gf: family_of -/
namespace Su
open PySem PySem.Spec PyProof.Rows L2
open LamX hiding takes0
open Fm
def famN : List Nat → Nat
  | [] => 0
  | n :: ns => 2 ^ n ||| famN ns
theorem famN_snoc : ∀ (ns : List Nat) (n : Nat), famN (ns ++ [n]) = famN ns ||| 2 ^ n
  | [], n => by simp [famN]
  | j :: ns, n => by
    show 2 ^ j ||| famN (ns ++ [n]) = (2 ^ j ||| famN ns) ||| 2 ^ n
    rw [famN_snoc ns n, Nat.or_assoc]
theorem famN_bit : ∀ (ns : List Nat) (S : Nat), (famN ns).testBit S = true ↔ S ∈ ns
  | [], S => by simp [famN]
  | j :: ns, S => by
    have ih := famN_bit ns S
    unfold famN
    rw [Nat.testBit_or, Nat.testBit_two_pow, Bool.or_eq_true, ih, decide_eq_true_eq, List.mem_cons]
    exact ⟨fun h => h.imp Eq.symm id, fun h => h.imp Eq.symm id⟩
def spFamOf : Sp := fun vs H Q _ => ∃ (a : Addr) (ns : List Nat), vs = [.ref a] ∧ H a = some (.lst (ns.map fun n => V.int (n : Nat))) ∧ (∀ n ∈ ns, n < 2 ^ 13) ∧ Q (.int (famN ns)) H
theorem sc_family_of : FnScope ["numbers", "family", "number"] ["numbers"] (defScope s_family_of) := ⟨rfl, rfl, rfl, by decide +kernel, rfl, by decide +kernel, by decide +kernel⟩
section
variable {P : Program} {w : World} {K : PySem.W.Frag} {mg : Str → Option Value} {base : Heap}
theorem ok_family_of (T : At K mg "family_of" s_family_of ["numbers"]) (B : Bt mg) (mNo : ∃ t, mg "NO_FAMILY" = some (.int 0 t)) : Cal P w K mg base 1 "family_of" ["numbers"] spFamOf := by
  obtain ⟨tn, mNo⟩ := mNo
  refine cal_of T sc_family_of (fun vs H Q E h => ?_) (fun f cdv A outer s H vs Q E hr h => ?_)
  · obtain ⟨a, ns, rfl, _⟩ := h
    rfl
  · obtain ⟨a, ns, rfl, ha, hn, q⟩ := h
    refine ⟨_, (pss_cons (ps_set (i := 1) sc_family_of.nd rfl (Or.inl rfl) (pe_glob (v := .int 0) rfl mNo ⟨_, rfl⟩))
      (pss_cons (ps_for PassesOwn.never rfl (pi_list (pv 0)) (pg_name (i := 2) sc_family_of.nd rfl (Or.inl rfl)) (pss_one (ps_aug (i := 1) sc_family_of.nd rfl (Or.inl rfl) (pe_op op_shlN pe_int (pv 2)) ip_or)))
      (pss_one (ps_ret (pv 1))))), ?_⟩
    refine ⟨_, rfl, a, rfl, ⟨_, SqL.of ha⟩, ?_⟩
    refine for_list (K := K) (a := a) (xs := ns.map fun n => V.int (n : Nat)) (fun i σ H2 => H2 = H ∧ ∃ y2 : Option V, σ = [some (.ref a), some (.int (famN (ns.take i) : Nat)), y2]) ?_ ?_ ?_ ?_
    · exact ⟨rfl, none, rfl⟩
    · rintro i σ H2 _ ⟨rfl, _⟩
      exact SqL.of ha
    · rintro i v σ H2 hv ⟨rfl, y2, rfl⟩
      obtain ⟨n, en, rfl⟩ := map_geti hv
      have et : ns.take (i + 1) = ns.take i ++ [n] := by rw [List.take_add_one, en]; rfl
      have hn1 := hn n (List.mem_of_getElem? en)
      have e13 : 2 ^ 13 = 8192 := by decide
      refine ⟨_, rfl, _, rfl, 1, n, rfl, rfl, shl_ok one_abs (by omega), ?_⟩
      refine ⟨_, _, rfl, (show V.int _ = V.int ((2 ^ n : Nat) : Int) from by rw [shl_one]), rfl, some (.int n), ?_⟩
      show [some (V.ref a), some (V.int (Builtin.bitOr ((famN (ns.take i) : Nat) : Int) ((2 ^ n : Nat) : Int))), some (V.int (n : Nat))] = _
      rw [bor_nat, et, famN_snoc]
    · rintro σ H2 ⟨rfl, y2, rfl⟩
      rw [List.length_map, List.take_length]
      exact ⟨_, rfl, q⟩
end
end Su
/-! ### G7a: rows of greatest sets -/
namespace Su
open PySem PySem.Spec PyProof.Rows L2
open LamX hiding takes0
open Fm
/-- a row as told: [None], or sets -/
def OrowAt (H : Hp) (us : List V) : Option (List (List Int)) → Prop
  | none => us = [.non]
  | some kss => SetsAt H us kss
theorem OrowAt.kp {H H' : Hp} {us : List V} {r : Option (List (List Int))} (k : KP H H') (h : OrowAt H us r) : OrowAt H' us r := by
  cases r with
  | none => exact h
  | some kss => exact SetsAt.kp k h
theorem OrowAt.updL {H : Hp} {D : Addr} {xs : List V} {o : HO} (hD : H D = some (.lst xs)) {us : List V} {r : Option (List (List Int))} (h : OrowAt H us r) : OrowAt (upd H D o) us r := by
  cases r with
  | none => exact h
  | some kss => exact SetsAt.updL hD h
def toldR (ms : List Int) (ns : List Nat) : Option (List (List Int)) := if 2 ^ (ms.length + 1) - 1 ∈ ns then none else some (ordS (ns.map (roomsS ms)))
def spTold (T : List (Addr × Str)) : Sp := fun vs H Q _ => ∃ (L pl : Addr) (ns : List Nat) (ms : List Int), vs = [.ref L, .ref pl] ∧ H L = some (.lst (ns.map fun n => V.int (n : Nat))) ∧ ns.length ≤ 8192 ∧ PlAt H pl ms ∧ ms.Nodup ∧ ms.length ≤ 12 ∧ Tabs T H ∧
  ∀ (p : Addr) (H' : Hp) (us : List V), ExtN H H' → (∀ u, Tabs T (upd H' p u)) → NewN H p → H' p = some (.lst us) → OrowAt H' us (toldR ms ns) → Q (.ref p) H'
/-- the r-th row: the family's greatest sets -/
def GreatRow (H : Hp) (ms : List Int) (F : Nat) (a : Addr) : Prop := ∃ (us : List V) (ns : List Nat), H a = some (.lst us) ∧ ns.Nodup ∧ (∀ S, S ∈ ns ↔ (greatN (ms.length + 1) F).testBit S = true) ∧ OrowAt H us (toldR ms ns)
def GreatRows (H0 H : Hp) (ms : List Int) (Fs : List Nat) (as : List Addr) : Prop := as.length = Fs.length ∧ as.Nodup ∧ ∀ (i : Nat) (F : Nat) (a : Addr), Fs[i]? = some F → as[i]? = some a → NewN H0 a ∧ GreatRow H ms F a
def topN (m : Nat) : Nat := famN [2 ^ (m + 1) - 1]
theorem topN_fits (m : Nat) : Fits (m + 1) (topN m) := fun S h => by
  have := (famN_bit _ S).mp h
  rw [List.mem_singleton] at this
  have := Nat.two_pow_pos (m + 1)
  omega
def spGreatSets (T : List (Addr × Str)) : Sp := fun vs H Q _ => ∃ (W : Addr) (rs : List Rw) (k : Int), vs = [.ref W, .int k] ∧ WebAt H W rs ∧ WebOk rs ∧ 0 ≤ k ∧ k ≤ 99 ∧ Tabs T H ∧
  ∀ (p : Addr) (H' : Hp) (as : List Addr) (Fs : List Nat), ExtN H H' → Tabs T H' → NewN H p → H' p = some (.lst (as.map V.ref)) → p ∉ as → LineOk rs (othR rs k) ((othR rs k).length + 1) (downN ((othR rs k).length + 1)) (topN (othR rs k).length) Fs [] → GreatRows H H' (othR rs k) Fs as → Q (.ref p) H'
end Su
/-! ### GR: the greatest sets that come -/
namespace Su
open PySem PySem.Spec PyProof.Rows L2
open LamX hiding takes0
open Fm
/-- the number of a state: all places and one more where it is new -/
def codeS (ms l : List Int) (b : Bool) : Nat := if b = true then 2 ^ (ms.length + 1) - 1 else numL ms l
theorem code_lt (ms l : List Int) (b : Bool) : codeS ms l b < 2 ^ (ms.length + 1) := by
  unfold codeS
  split
  · have := Nat.two_pow_pos (ms.length + 1)
    omega
  · exact Nat.lt_of_lt_of_le (numL_lt ms l) (Nat.pow_le_pow_right (by decide) (Nat.le_succ _))
theorem numL_nil' (ms : List Int) : numL ms [] = 0 := by
  refine Nat.eq_of_testBit_eq fun j => ?_
  rw [Nat.zero_testBit]
  cases z : (numL ms []).testBit j with
  | false => rfl
  | true =>
    obtain ⟨x, _, hx⟩ := (numL_bit _ _ _).mp z
    cases hx
/-- the next state's number -/
theorem code_later {ms l : List Int} {k x : Int} {b : Bool} (nd : ms.Nodup) (n : x ≠ k) (h : x ∈ ms) (i : Nat) : (codeS ms (laterF k l b x).1 (laterF k l b x).2).testBit i = ((codeS ms l b).testBit i || decide (i = ms.idxOf x)) := by
  have e2 : (laterF k l b x).2 = b := by unfold laterF; rw [if_neg n]
  rw [e2]
  unfold codeS
  have lt := List.idxOf_lt_length_iff.mpr h
  cases b with
  | true =>
    rw [if_pos rfl, if_pos rfl, top_bit]
    by_cases c : i = ms.idxOf x
    · rw [decide_eq_true c, Bool.or_true, decide_eq_true (by omega)]
    · rw [decide_eq_false c, Bool.or_false]
  | false =>
    rw [if_neg (by decide), if_neg (by decide), Bool.eq_iff_iff, Bool.or_eq_true, numL_bit, numL_bit, decide_eq_true_eq]
    constructor
    · rintro ⟨y, ey, hy⟩
      rcases (later_mem n).mp hy with z | rfl
      · exact .inl ⟨y, ey, z⟩
      · exact .inr (idx_at nd ey).symm
    · rintro (⟨y, ey, hy⟩ | rfl)
      · exact ⟨y, ey, (later_mem n).mpr (.inl hy)⟩
      · exact ⟨x, get_idx h, (later_mem n).mpr (.inr rfl)⟩
theorem code_at_k (ms l : List Int) (k : Int) (b : Bool) : codeS ms (laterF k l b k).1 (laterF k l b k).2 = 0 := by
  unfold laterF
  rw [if_pos rfl]
  unfold codeS
  rw [if_neg (by decide), numL_nil']
/-- a state comes to a row -/
def ComesB (cs : List CE) (r : Nat) (l : List Int) (b : Bool) : Prop := ((r, fk l b) : PK) ∈ cs.map CE.key
section
variable {rs : List Rw} {k : Int} {cs : List CE} {Fs : List Nat}
theorem gfam_has (c : Came (famSys rs k) cs) (ok : WebOk rs) (line : LineOk rs (othR rs k) ((othR rs k).length + 1) (downN ((othR rs k).length + 1)) (topN (othR rs k).length) Fs []) : ∀ (i : Nat) (e : CE), cs[i]? = some e → ∀ F, Fs[e.row]? = some F → F.testBit (codeS (othR rs k) (unfk e.st).1 (unfk e.st).2) = true := by
  have nd : (othR rs k).Nodup := (oth_pw rs k).imp fun h => Int.ne_of_lt h
  have lm : (othR rs k).length ≤ (othR rs k).length + 1 := Nat.le_succ _
  have lt := code_lt (othR rs k)
  intro i
  induction i using Nat.strongRecOn with
  | ind i ih =>
    intro e he F eF
    have b := c.bk i e he
    unfold Sys.frmOk at b
    split at b
    · have h2 : e.st = fk [] true := List.mem_singleton.mp b.2
      rw [h2, unfk_fk]
      rw [b.1] at eF
      refine inn_iff.mp (line.fam.init F eF) _ ((downN_bit (topN_fits _) _).mpr ⟨2 ^ ((othR rs k).length + 1) - 1, (famN_bit _ _).mpr (List.mem_singleton.mpr rfl), ?_⟩)
      exact top_sub (lt _ _)
    · rename_i r0 s0 a z
      obtain ⟨j, e0, row, h1, h2, h3, h4, h5, h6, h7⟩ := b
      have h4 : rs[r0]? = some row := h4
      have k1 : e0.row = r0 := congrArg Prod.fst h3
      have k2 : e0.st = s0 := congrArg Prod.snd h3
      obtain ⟨_, l0, b0, hs0, pw0, sub0⟩ := c.ok e0 (List.mem_of_getElem? h2)
      have rl := (List.getElem?_eq_some_iff.mp h4).1
      obtain ⟨F0, eF0⟩ : ∃ F0, Fs[r0]? = some F0 := ⟨_, List.getElem?_eq_getElem (by rw [line.fam.len]; exact rl)⟩
      have i0 := ih j h1 e0 h2 F0 (by rw [k1]; exact eF0)
      rw [hs0, unfk_fk] at i0
      have i0 : F0.testBit (codeS (othR rs k) l0 b0) = true := i0
      have z0 : F0 ≠ 0 := fun y => by rw [y, Nat.zero_testBit] at i0; cases i0
      have fF0 := line.fam.fits F0 (List.mem_of_getElem? eF0)
      obtain ⟨G, eG, inn⟩ := line.dn r0 rl (fun z => nomatch z) row F0 h4 eF0 e.row h6
      rw [Int.toNat_natCast, eF] at eG
      cases eG
      have s0e : s0 = fk l0 b0 := k2.symm.trans hs0
      refine inn_iff.mp inn _ ((downN_bit (behN_fits lm fF0 row.1) _).mpr ⟨_, ?_, Sub.refl _⟩)
      rw [h7, s0e]
      cases a with
      | none =>
        have zr : row.1 = [] := by
          unfold asksL at h5
          split at h5
          · assumption
          · obtain ⟨x, _, hx⟩ := List.mem_map.mp h5
            cases hx
        show (behN _ (othR rs k) F0 row.1).testBit (codeS (othR rs k) (unfk (fk l0 b0)).1 (unfk (fk l0 b0)).2) = true
        rw [unfk_fk]
        unfold behN
        rw [if_pos (.inr zr)]
        exact i0
      | some x =>
        have hx : x ∈ row.1 ∧ row.1 ≠ [] := by
          unfold asksL at h5
          split at h5
          · simp at h5
          · rename_i n
            obtain ⟨y, hy, e⟩ := List.mem_map.mp h5
            cases e
            exact ⟨hy, n⟩
        rw [fam_next, unfk_fk]
        unfold behN
        rw [if_neg (fun y => y.elim z0 hx.2)]
        refine asks_bit.mpr ⟨x, hx.1, ?_⟩
        unfold askN
        by_cases cx : x ∈ othR rs k
        · have nk := (mem_oth.mp cx).2
          rw [if_pos cx, withN_bit (by have := List.idxOf_lt_length_iff.mpr cx; omega) fF0, Bool.and_eq_true, Bool.or_eq_true]
          have cl := code_later (l := l0) (b := b0) nd nk cx
          have hp : (codeS (othR rs k) (laterF k l0 b0 x).1 (laterF k l0 b0 x).2).testBit ((othR rs k).idxOf x) = true := by
            rw [cl, decide_eq_true rfl, Bool.or_true]
          refine ⟨hp, ?_⟩
          show F0.testBit (codeS (othR rs k) (laterF k l0 b0 x).1 (laterF k l0 b0 x).2) = true ∨ _
          cases z2 : (codeS (othR rs k) l0 b0).testBit ((othR rs k).idxOf x)
          · right
            have : codeS (othR rs k) (laterF k l0 b0 x).1 (laterF k l0 b0 x).2 - 2 ^ (othR rs k).idxOf x = codeS (othR rs k) l0 b0 := by
              refine Nat.eq_of_testBit_eq fun j => ?_
              rw [bit_less hp, cl]
              by_cases cj : j = (othR rs k).idxOf x
              · rw [cj, z2]
                simp
              · rw [decide_eq_false cj]
                simp
            show F0.testBit (codeS (othR rs k) (laterF k l0 b0 x).1 (laterF k l0 b0 x).2 - 2 ^ (othR rs k).idxOf x) = true
            rw [this]
            exact i0
          · left
            have : codeS (othR rs k) (laterF k l0 b0 x).1 (laterF k l0 b0 x).2 = codeS (othR rs k) l0 b0 := by
              refine Nat.eq_of_testBit_eq fun j => ?_
              rw [cl]
              by_cases cj : j = (othR rs k).idxOf x
              · rw [cj, z2]
                simp
              · rw [decide_eq_false cj]
                simp
            rw [this]
            exact i0
        · rw [if_neg cx]
          have xk : x = k := Classical.byContradiction fun y => cx (mem_oth.mpr ⟨List.mem_flatten.mpr ⟨row.1, List.mem_map.mpr ⟨row, List.mem_of_getElem? h4, rfl⟩, hx.1⟩, y⟩)
          rw [xk]
          show (1 : Nat).testBit (codeS (othR rs k) (laterF k l0 b0 k).1 (laterF k l0 b0 k).2) = true
          rw [code_at_k]
          rfl
theorem gfam_down (ok : WebOk rs) (line : LineOk rs (othR rs k) ((othR rs k).length + 1) (downN ((othR rs k).length + 1)) (topN (othR rs k).length) Fs []) {r F : Nat} (eF : Fs[r]? = some F) : Down F := by
  have lm : (othR rs k).length ≤ (othR rs k).length + 1 := Nat.le_succ _
  intro T S hS hs
  have key := line.fam.snd (fun r S => S < 2 ^ ((othR rs k).length + 1) ∧ ∀ F, Fs[r]? = some F → ∀ T, Sub T S → F.testBit T = true) (fun S hS => ?_) ⟨fun r row F' er fF' hF' t ht S hS => ?_⟩ r F S eF hS
  · exact key.2 F eF T hs
  · refine ⟨downN_fits (topN_fits _) S hS, fun F0 e0 T hs => ?_⟩
    exact inn_iff.mp (line.fam.init F0 e0) T (downN_down (topN_fits _) T S hS hs)
  · have fB' := behN_fits (ms := othR rs k) lm fF' row.1
    refine ⟨downN_fits fB' S hS, fun G0 e0 T hs => ?_⟩
    have rl := (List.getElem?_eq_some_iff.mp er).1
    obtain ⟨Fr, hFr⟩ : ∃ Fr, Fs[r]? = some Fr := ⟨_, List.getElem?_eq_getElem (by rw [line.fam.len]; exact rl)⟩
    have fFr := line.fam.fits Fr (List.mem_of_getElem? hFr)
    have sub : ∀ S, F'.testBit S = true → Fr.testBit S = true := fun S hS => (hF' S hS).2 Fr hFr S (Sub.refl S)
    obtain ⟨G, eG, inn⟩ := line.dn r rl (fun z => nomatch z) row Fr er hFr t ht
    rw [e0] at eG
    cases eG
    refine inn_iff.mp inn T ?_
    have hT' := downN_down fB' T S hS hs
    obtain ⟨U, h2, h3⟩ := (downN_bit fB' T).mp hT'
    exact (downN_bit (behN_fits lm fFr row.1) T).mpr ⟨U, beh_mono lm fF' fFr sub h2, h3⟩
/-- the families that are spread: below the states that come -/
theorem gfam_snd (c : Came (famSys rs k) cs) (ok : WebOk rs) (line : LineOk rs (othR rs k) ((othR rs k).length + 1) (downN ((othR rs k).length + 1)) (topN (othR rs k).length) Fs []) {r F : Nat} (eF : Fs[r]? = some F) (S : Nat) (h : F.testBit S = true) : ∃ l b, ComesB cs r l b ∧ Sub S (codeS (othR rs k) l b) := by
  have nd : (othR rs k).Nodup := (oth_pw rs k).imp fun h => Int.ne_of_lt h
  have lm : (othR rs k).length ≤ (othR rs k).length + 1 := Nat.le_succ _
  refine line.fam.snd (fun r S => ∃ l b, ComesB cs r l b ∧ Sub S (codeS (othR rs k) l b)) (fun S hS => ?_) ⟨fun r row F er fF hF t ht S hS => ?_⟩ r F S eF h
  · obtain ⟨T, h2, h3⟩ := (downN_bit (topN_fits _) S).mp hS
    have h2 := List.mem_singleton.mp ((famN_bit _ _).mp h2)
    refine ⟨[], true, c.st _ (List.mem_singleton.mpr rfl), ?_⟩
    unfold codeS
    rw [if_pos rfl, ← h2]
    exact h3
  · obtain ⟨T, h2, h3⟩ := (downN_bit (behN_fits lm fF row.1) S).mp hS
    unfold behN at h2
    by_cases z : F = 0 ∨ row.1 = []
    · rw [if_pos z] at h2
      rcases z with z | z
      · rw [z, Nat.zero_testBit] at h2
        cases h2
      · obtain ⟨l, b, hb, hs⟩ := hF T h2
        refine ⟨l, b, ?_, h3.trans hs⟩
        exact came_step c hb er (a := none) (by unfold asksL; rw [if_pos z]; exact List.mem_singleton.mpr rfl) ht
    · rw [if_neg z] at h2
      have zF : F ≠ 0 := fun y => z (.inl y)
      have zr : row.1 ≠ [] := fun y => z (.inr y)
      obtain ⟨x, hx, hbx⟩ : ∃ x ∈ row.1, (askN _ (othR rs k) F x).testBit T = true := asks_bit.mp h2
      unfold askN at hbx
      by_cases cx : x ∈ othR rs k
      · rw [if_pos cx, withN_bit (by have := List.idxOf_lt_length_iff.mpr cx; omega) fF, Bool.and_eq_true, Bool.or_eq_true] at hbx
        have nk := (mem_oth.mp cx).2
        obtain ⟨U, hU, hTU⟩ : ∃ U, F.testBit U = true ∧ ∀ i, T.testBit i = true → U.testBit i = true ∨ i = (othR rs k).idxOf x := by
          rcases hbx.2 with y | y
          · exact ⟨T, y, fun i hi => .inl hi⟩
          · refine ⟨_, y, fun i hi => ?_⟩
            by_cases ci : i = (othR rs k).idxOf x
            · exact .inr ci
            · refine .inl ?_
              rw [bit_less hbx.1, hi, decide_eq_false ci]
              rfl
        obtain ⟨l, b, hb, hs⟩ := hF U hU
        have st := came_step c hb er (asks_of_ne zr hx) ht
        rw [fam_next] at st
        refine ⟨_, _, st, h3.trans fun i hi => ?_⟩
        rw [code_later nd nk cx, Bool.or_eq_true, decide_eq_true_eq]
        exact (hTU i hi).imp (hs i) id
      · rw [if_neg cx] at hbx
        have xk : x = k := Classical.byContradiction fun y => cx (mem_oth.mpr ⟨List.mem_flatten.mpr ⟨row.1, List.mem_map.mpr ⟨row, List.mem_of_getElem? er, rfl⟩, hx⟩, y⟩)
        obtain ⟨U, hU⟩ : ∃ U, F.testBit U = true := ⟨F.log2, Nat.testBit_log2 zF⟩
        obtain ⟨l, b, hb, _⟩ := hF U hU
        have st := came_step c hb er (asks_of_ne zr hx) ht
        rw [fam_next, xk] at st
        have t0 : T = 0 := by
          cases T with
          | zero => rfl
          | succ T =>
            rw [Nat.testBit_succ, show 1 / 2 = 0 from rfl, Nat.zero_testBit] at hbx
            cases hbx
        refine ⟨_, _, st, h3.trans fun i hi => ?_⟩
        rw [t0, Nat.zero_testBit] at hi
        cases hi
theorem gfam_meaning (c : Came (famSys rs k) cs) (ok : WebOk rs) (line : LineOk rs (othR rs k) ((othR rs k).length + 1) (downN ((othR rs k).length + 1)) (topN (othR rs k).length) Fs []) {r F : Nat} (eF : Fs[r]? = some F) (S : Nat) : F.testBit S = true ↔ ∃ l b, ComesB cs r l b ∧ Sub S (codeS (othR rs k) l b) := by
  refine ⟨gfam_snd c ok line eF S, ?_⟩
  rintro ⟨l, b, hb, hs⟩
  obtain ⟨e, he, ek⟩ := List.mem_map.mp hb
  obtain ⟨i, hi⟩ := List.mem_iff_getElem?.mp he
  have e1 : e.row = r := congrArg Prod.fst ek
  have e2 : e.st = fk l b := congrArg Prod.snd ek
  have h := gfam_has c ok line i e hi F (by rw [e1]; exact eF)
  rw [e2, unfk_fk] at h
  exact gfam_down ok line eF S _ h hs
/-- the greatest sets that come to a row -/
def GreatC (cs : List CE) (r : Nat) (l : List Int) : Prop := Comes cs r l ∧ ∀ l', Comes cs r l' → (∀ x ∈ l, x ∈ l') → l' = l
/-- a new state comes to it -/
def NewC (cs : List CE) (r : Nat) : Prop := ∃ l, ComesB cs r l true
theorem gfam_new (c : Came (famSys rs k) cs) (ok : WebOk rs) (line : LineOk rs (othR rs k) ((othR rs k).length + 1) (downN ((othR rs k).length + 1)) (topN (othR rs k).length) Fs []) {r F : Nat} (eF : Fs[r]? = some F) {ns : List Nat} (hn : ∀ S, S ∈ ns ↔ (greatN ((othR rs k).length + 1) F).testBit S = true) (h : NewC cs r) : toldR (othR rs k) ns = none := by
  obtain ⟨l, hl⟩ := h
  have fF := line.fam.fits F (List.mem_of_getElem? eF)
  unfold toldR
  rw [if_pos]
  refine (hn _).mpr ((great_bit fF (gfam_down ok line eF) _).mpr ⟨(gfam_meaning c ok line eF _).mpr ⟨l, true, hl, ?_⟩, fun T hT hs => ?_⟩)
  · unfold codeS
    rw [if_pos rfl]
    exact Sub.refl _
  · exact Sub.antisymm (top_sub (fF T hT)) hs
theorem gfam_great_mem (c : Came (famSys rs k) cs) (ok : WebOk rs) (line : LineOk rs (othR rs k) ((othR rs k).length + 1) (downN ((othR rs k).length + 1)) (topN (othR rs k).length) Fs []) {r F : Nat} (eF : Fs[r]? = some F) {ns : List Nat} (nd : ns.Nodup) (hn : ∀ S, S ∈ ns ↔ (greatN ((othR rs k).length + 1) F).testBit S = true)
    (h : ¬ NewC cs r) : toldR (othR rs k) ns = some (ordS (ns.map (roomsS (othR rs k)))) ∧ (ns.map (roomsS (othR rs k))).Nodup ∧ ∀ l, l ∈ ns.map (roomsS (othR rs k)) ↔ GreatC cs r l := by
  have ndm : (othR rs k).Nodup := (oth_pw rs k).imp fun h => Int.ne_of_lt h
  have fF := line.fam.fits F (List.mem_of_getElem? eF)
  have dn := gfam_down ok line eF
  have lo : ∀ {l}, Comes cs r l → l.Pairwise (· < ·) ∧ ∀ x ∈ l, x ∈ othR rs k := fun {l} ⟨b, hb⟩ => by
    obtain ⟨e, he, ek⟩ := List.mem_map.mp hb
    obtain ⟨_, l0, b0, hs0, pw0, sub0⟩ := c.ok e he
    have e2 : e.st = fk l b := congrArg Prod.snd ek
    have := (fk_inj (hs0.symm.trans e2)).1
    rw [← this]
    exact ⟨pw0, sub0⟩
  have me : ∀ S, F.testBit S = true ↔ ∃ l, Comes cs r l ∧ Sub S (numL (othR rs k) l) := fun S => by
    rw [gfam_meaning c ok line eF S]
    constructor
    · rintro ⟨l, b, hb, hs⟩
      cases b with
      | true => exact absurd ⟨l, hb⟩ h
      | false => exact ⟨l, ⟨false, hb⟩, hs⟩
    · rintro ⟨l, ⟨b, hb⟩, hs⟩
      cases b with
      | true => exact absurd ⟨l, hb⟩ h
      | false => exact ⟨l, false, hb, hs⟩
  have lt : ∀ S, F.testBit S = true → S < 2 ^ (othR rs k).length := fun S hS => by
    obtain ⟨l, _, hs⟩ := (me S).mp hS
    exact sub_le_pow hs (numL_lt _ l)
  have main : ∀ S, (greatN ((othR rs k).length + 1) F).testBit S = true ↔ ∃ l, GreatC cs r l ∧ S = numL (othR rs k) l := by
    intro S
    rw [great_bit fF dn]
    constructor
    · rintro ⟨h1, h2⟩
      obtain ⟨l, hl, hs⟩ := (me S).mp h1
      have e1 : numL (othR rs k) l = S := h2 _ ((me _).mpr ⟨l, hl, Sub.refl _⟩) hs
      refine ⟨l, ⟨hl, fun l' hl' sub => ?_⟩, e1.symm⟩
      have s1 : Sub S (numL (othR rs k) l') := by
        rw [← e1]
        exact numL_sub.mpr fun x _ hx => sub x hx
      have e2 := h2 _ ((me _).mpr ⟨l', hl', Sub.refl _⟩) s1
      rw [← rooms_num (oth_pw rs k) (lo hl').1 (lo hl').2, ← rooms_num (oth_pw rs k) (lo hl).1 (lo hl).2, e2, e1]
    · rintro ⟨l, ⟨hl, hm⟩, rfl⟩
      refine ⟨(me _).mpr ⟨l, hl, Sub.refl _⟩, fun T hT hs => ?_⟩
      obtain ⟨l', hl', hs'⟩ := (me T).mp hT
      have e := hm l' hl' fun x hx => numL_sub.mp (hs.trans hs') x ((lo hl).2 x hx) hx
      rw [e] at hs'
      exact Sub.antisymm hs' hs
  have gF : ∀ {S}, S ∈ ns → S < 2 ^ (othR rs k).length := fun {S} hS => by
    have := (hn S).mp hS
    rw [great_bit fF dn] at this
    exact lt S this.1
  unfold toldR
  rw [if_neg fun z => by
    have h1 := gF z
    have h2 := Nat.two_pow_pos (othR rs k).length
    rw [Nat.pow_succ] at h1
    omega]
  refine ⟨rfl, ?_, fun l => ?_⟩
  · refine List.pairwise_map.mpr (List.Pairwise.imp_of_mem (fun {a b} ha hb n e => n ?_) nd)
    rw [← num_rooms ndm (gF ha), ← num_rooms ndm (gF hb), e]
  · rw [List.mem_map]
    constructor
    · rintro ⟨S, hS, rfl⟩
      obtain ⟨l, hl, e⟩ := (main S).mp ((hn S).mp hS)
      rw [e, rooms_num (oth_pw rs k) (lo hl.1).1 (lo hl.1).2]
      exact hl
    · intro h
      exact ⟨numL (othR rs k) l, (hn _).mpr ((main _).mpr ⟨l, h, rfl⟩), rooms_num (oth_pw rs k) (lo h.1).1 (lo h.1).2⟩
end
end Su
/-! ### N3: how large the sets are that come -/
namespace Su
open PySem PySem.Spec PyProof.Rows L2
open LamX hiding takes0
open Fm
def NumR (cs : List CE) (r : Nat) : Option (Nat × Option Nat) → Prop
  | none => ∀ l, ¬ Comes cs r l
  | some (a, ob) => (∃ l, Comes cs r l ∧ l.length = a) ∧ (∀ l, Comes cs r l → a ≤ l.length) ∧
    match ob with
    | none => NewC cs r
    | some b => ¬ NewC cs r ∧ (∃ l, Comes cs r l ∧ l.length = b) ∧ ∀ l, Comes cs r l → l.length ≤ b
theorem NumR.one {cs : List CE} {r : Nat} : ∀ {o o' : Option (Nat × Option Nat)}, NumR cs r o → NumR cs r o' → o = o'
  | none, none, _, _ => rfl
  | none, some (a, ob), h, ⟨⟨l, hl, _⟩, _⟩ => absurd hl (h l)
  | some (a, ob), none, ⟨⟨l, hl, _⟩, _⟩, h => absurd hl (h l)
  | some (a, ob), some (a', ob'), ⟨⟨l, hl, el⟩, lo, h⟩, ⟨⟨l', hl', el'⟩, lo', h'⟩ => by
    have ea : a = a' := by
      have := lo l' hl'
      have := lo' l hl
      omega
    subst ea
    cases ob with
    | none =>
      cases ob' with
      | none => rfl
      | some b => exact absurd h h'.1
    | some b =>
      cases ob' with
      | none => exact absurd h' h.1
      | some b' =>
        obtain ⟨_, ⟨m, hm, em⟩, hi⟩ := h
        obtain ⟨_, ⟨m', hm', em'⟩, hi'⟩ := h'
        have := hi m' hm'
        have := hi' m hm
        have eb : b = b' := by omega
        rw [eb]
theorem sub_len {a b : List Int} (ha : a.Pairwise (· < ·)) (hb : b.Pairwise (· < ·)) (h : ∀ x ∈ a, x ∈ b) : a.length ≤ b.length ∧ (a.length = b.length → a = b) := by
  have nd := ha.imp fun h => Int.ne_of_lt h
  have ndb := hb.imp fun h => Int.ne_of_lt h
  have le := nodup_few nd h
  refine ⟨le, fun e => pw_same ha hb fun k => ⟨h k, fun hk => Classical.byContradiction fun n => ?_⟩⟩
  have nd2 : (k :: a).Nodup := List.nodup_cons.mpr ⟨n, nd⟩
  have := nodup_few nd2 (S := b) fun x hx => by
    rcases List.mem_cons.mp hx with rfl | hx
    · exact hk
    · exact h x hx
  rw [List.length_cons] at this
  omega
section
variable {rs : List Rw} {k : Int} {cs : List CE} {Fs : List Nat}
theorem come_lo (c : Came (famSys rs k) cs) {r : Nat} {l : List Int} (h : Comes cs r l) : l.Pairwise (· < ·) ∧ ∀ x ∈ l, x ∈ othR rs k := by
  obtain ⟨b, hb⟩ := h
  obtain ⟨e, he, ek⟩ := List.mem_map.mp hb
  obtain ⟨_, l0, b0, hs0, pw0, sub0⟩ := c.ok e he
  have e2 : e.st = fk l b := congrArg Prod.snd ek
  have := (fk_inj (hs0.symm.trans e2)).1
  rw [← this]
  exact ⟨pw0, sub0⟩
theorem least_in (c : Came (famSys rs k) cs) {r : Nat} : ∀ (n : Nat) (l : List Int), l.length ≤ n → Comes cs r l → ∃ l', LeastC cs r l' ∧ ∀ x ∈ l', x ∈ l := by
  intro n
  induction n with
  | zero =>
    intro l hn h
    have : l = [] := List.eq_nil_of_length_eq_zero (by omega)
    subst this
    exact ⟨[], ⟨h, fun l' _ hs => List.eq_nil_iff_forall_not_mem.mpr fun x hx => nomatch hs x hx⟩, fun x hx => hx⟩
  | succ n ih =>
    intro l hn h
    by_cases z : ∀ l', Comes cs r l' → (∀ x ∈ l', x ∈ l) → l' = l
    · exact ⟨l, ⟨h, z⟩, fun x hx => hx⟩
    · simp only [Classical.not_forall] at z
      obtain ⟨l1, h1, s1, ne⟩ := z
      have sl := sub_len (come_lo c h1).1 (come_lo c h).1 s1
      obtain ⟨l', h', s'⟩ := ih l1 (by
        have : l1.length ≠ l.length := fun e => ne (sl.2 e)
        omega) h1
      exact ⟨l', h', fun x hx => s1 x (s' x hx)⟩
theorem great_in (c : Came (famSys rs k) cs) {r : Nat} : ∀ (n : Nat) (l : List Int), (othR rs k).length ≤ l.length + n → Comes cs r l → ∃ l', GreatC cs r l' ∧ ∀ x ∈ l, x ∈ l' := by
  have up : ∀ {l}, Comes cs r l → l.length ≤ (othR rs k).length := fun h => nodup_few ((come_lo c h).1.imp fun h => Int.ne_of_lt h) (come_lo c h).2
  intro n
  induction n with
  | zero =>
    intro l hn h
    refine ⟨l, ⟨h, fun l' h' hs => ?_⟩, fun x hx => hx⟩
    have sl := sub_len (come_lo c h).1 (come_lo c h').1 hs
    have := up h'
    exact (sl.2 (by omega)).symm
  | succ n ih =>
    intro l hn h
    by_cases z : ∀ l', Comes cs r l' → (∀ x ∈ l, x ∈ l') → l' = l
    · exact ⟨l, ⟨h, z⟩, fun x hx => hx⟩
    · simp only [Classical.not_forall] at z
      obtain ⟨l1, h1, s1, ne⟩ := z
      have sl := sub_len (come_lo c h).1 (come_lo c h1).1 s1
      obtain ⟨l', h', s'⟩ := ih l1 (by
        have : l.length ≠ l1.length := fun e => ne (sl.2 e).symm
        omega) h1
      exact ⟨l', h', fun x hx => s' x (s1 x hx)⟩
theorem num_least (c : Came (famSys rs k) cs) {r : Nat} {Ls : List (List Int)} (h : ∀ l, l ∈ Ls ↔ LeastC cs r l) : (ordS Ls = [] → ∀ l, ¬ Comes cs r l) ∧ ∀ l ls, ordS Ls = l :: ls → Comes cs r l ∧ ∀ l', Comes cs r l' → l.length ≤ l'.length := by
  constructor
  · intro e l hl
    obtain ⟨l', h', _⟩ := least_in c l.length l (Nat.le_refl _) hl
    have := ordS_mem.mpr ((h l').mpr h')
    rw [e] at this
    cases this
  · intro l ls e
    have lm : l ∈ Ls := ordS_mem.mp (by rw [e]; exact List.mem_cons_self)
    refine ⟨((h l).mp lm).1, fun l0 h0 => ?_⟩
    obtain ⟨l', h', s'⟩ := least_in c l0.length l0 (Nat.le_refl _) h0
    have sl := (sub_len (come_lo c h'.1).1 (come_lo c h0).1 s').1
    have m' : l' ∈ l :: ls := by rw [← e]; exact ordS_mem.mpr ((h l').mpr h')
    rcases List.mem_cons.mp m' with rfl | m'
    · exact sl
    · have pw := ordS_pw Ls
      rw [e] at pw
      have := (List.pairwise_cons.mp pw).1 l' m'
      omega
theorem num_great (c : Came (famSys rs k) cs) {r : Nat} {Ls : List (List Int)} (h : ∀ l, l ∈ Ls ↔ GreatC cs r l) : (∀ l, Comes cs r l → ordS Ls ≠ []) ∧ ∀ ls l, ordS Ls = ls ++ [l] → Comes cs r l ∧ ∀ l', Comes cs r l' → l'.length ≤ l.length := by
  constructor
  · intro l hl e
    obtain ⟨l', h', _⟩ := great_in c (othR rs k).length l (Nat.le_add_left _ _) hl
    have := ordS_mem.mpr ((h l').mpr h')
    rw [e] at this
    cases this
  · intro ls l e
    have lm : l ∈ Ls := ordS_mem.mp (by rw [e]; exact List.mem_append_right _ (List.mem_singleton.mpr rfl))
    refine ⟨((h l).mp lm).1, fun l0 h0 => ?_⟩
    obtain ⟨l', h', s'⟩ := great_in c (othR rs k).length l0 (Nat.le_add_left _ _) h0
    have sl := (sub_len (come_lo c h0).1 (come_lo c h'.1).1 s').1
    have m' : l' ∈ ls ++ [l] := by rw [← e]; exact ordS_mem.mpr ((h l').mpr h')
    rcases List.mem_append.mp m' with m' | m'
    · have pw := ordS_pw Ls
      rw [e] at pw
      have := (List.pairwise_append.mp pw).2.2 l' m' l (List.mem_singleton.mpr rfl)
      omega
    · rw [← List.mem_singleton.mp m']
      exact sl
end
end Su
/-! ### AO: slots, sets and ages (of k31, k34, k80) -/
namespace Su
open PySem PySem.Spec PyProof.Rows L2
open LamX hiding takes0
open Fm
def goneL (xs : List Int) (r : Int) : Nat := if r ∈ xs then xs.idxOf r else xs.length - 1
def putL (xs : List Int) (r : Int) : List Int := r :: (xs.take (goneL xs r) ++ xs.drop (goneL xs r + 1))
theorem putL_len {xs : List Int} {r : Int} (h : 0 < xs.length) : (putL xs r).length = xs.length := by
  have g : goneL xs r < xs.length := by
    unfold goneL
    split
    · exact List.idxOf_lt_length_of_mem ‹_›
    · omega
  unfold putL
  rw [List.length_cons, List.length_append, List.length_take, List.length_drop]
  omega
theorem idx_ne {x k : Int} {b : List Int} (n : x ≠ k) : (k :: b).idxOf x = b.idxOf x + 1 := by
  rw [List.idxOf_cons]
  have : (k == x) = false := beq_false_of_ne (Ne.symm n)
  rw [this]
  rfl
theorem put_in {a b : List Int} {x : Int} (h : x ∈ a) : putL (a ++ b) x = x :: (a.erase x ++ b) := by
  have e : goneL (a ++ b) x = a.idxOf x := by
    unfold goneL
    rw [if_pos (List.mem_append_left _ h), List.idxOf_append, if_pos h]
  have lt := List.idxOf_lt_length_of_mem h
  unfold putL
  rw [e, List.take_append_of_le_length (by omega), List.drop_append_of_le_length (by omega), List.erase_eq_eraseIdx_of_idxOf rfl, ← List.append_assoc]
  congr 1
  rw [List.eraseIdx_eq_take_drop_succ]
theorem put_out {a b : List Int} {x k : Int} (h : x ∉ a) (n : x ≠ k) : (∃ b', putL (a ++ k :: b) x = x :: (a ++ k :: b')) ∨ (b = [] ∧ putL (a ++ k :: b) x = x :: a) := by
  by_cases hb : x ∈ b
  · have e : goneL (a ++ k :: b) x = a.length + 1 + b.idxOf x := by
      unfold goneL
      rw [if_pos (List.mem_append_right _ (List.mem_cons_of_mem _ hb)), List.idxOf_append, if_neg h, idx_ne n]
      omega
    refine .inl ⟨b.take (b.idxOf x) ++ b.drop (b.idxOf x + 1), ?_⟩
    unfold putL
    rw [e]
    congr 1
    rw [show a.length + 1 + b.idxOf x = a.length + (1 + b.idxOf x) by omega, List.take_length_add_append, show a.length + (1 + b.idxOf x) + 1 = a.length + (1 + b.idxOf x + 1) by omega, List.drop_length_add_append]
    rw [show 1 + b.idxOf x = b.idxOf x + 1 by omega, List.take_succ_cons, List.drop_succ_cons, List.append_assoc]
    rfl
  · have nm : x ∉ a ++ k :: b := fun z => by
      rcases List.mem_append.mp z with z | z
      · exact h z
      · rcases List.mem_cons.mp z with z | z
        · exact n z
        · exact hb z
    have e : goneL (a ++ k :: b) x = a.length + b.length := by
      unfold goneL
      rw [if_neg nm, List.length_append, List.length_cons]
      omega
    have hd : (a ++ k :: b).drop (a.length + b.length + 1) = [] := by
      refine List.drop_eq_nil_iff.mpr ?_
      rw [List.length_append, List.length_cons]
      omega
    unfold putL
    rw [e, hd, List.append_nil]
    cases b with
    | nil =>
      refine .inr ⟨rfl, ?_⟩
      rw [List.length_nil, Nat.add_zero, List.take_left]
    | cons y b =>
      refine .inl ⟨(y :: b).dropLast, ?_⟩
      rw [List.take_length_add_append, List.length_cons, List.take_succ_cons]
      have : (y :: b).dropLast = (y :: b).take b.length := by
        rw [List.dropLast_eq_take]
        rfl
      rw [this]
theorem put_not {sl : List Int} {x k : Int} (h : k ∉ sl) (n : x ≠ k) : k ∉ putL sl x := fun z => by
  unfold putL at z
  rcases List.mem_cons.mp z with z | z
  · exact n z.symm
  · rcases List.mem_append.mp z with z | z
    · exact h (List.mem_of_mem_take z)
    · exact h (List.mem_of_mem_drop z)
def JH (k : Int) (sl l : List Int) (b : Bool) : Prop := (k ∉ sl ∨ ∃ a c, sl = a ++ k :: c ∧ k ∉ a ∧ ∀ x ∈ l, x ∈ a) ∧
  (b = false → (∃ a c, sl = a ++ k :: c ∧ a.Nodup ∧ ∀ x ∈ a, x ∈ l) ∨ sl.length ≤ l.length)
theorem jh_start (k : Int) (sl : List Int) : JH k sl [] true := by
  refine ⟨?_, fun z => nomatch z⟩
  by_cases c : k ∈ sl
  · obtain ⟨a, c, e, n⟩ := List.eq_append_cons_of_mem c
    exact .inr ⟨a, c, e, n, fun x hx => nomatch hx⟩
  · exact .inl c
theorem jh_step {k x : Int} {sl l : List Int} {b : Bool} (pw : l.Pairwise (· < ·)) (pos : 0 < sl.length) (h : JH k sl l b) : JH k (putL sl x) (laterF k l b x).1 (laterF k l b x).2 := by
  obtain ⟨h1, h2⟩ := h
  by_cases c : x = k
  · subst c
    have e : laterF x l b x = ([], false) := if_pos rfl
    rw [e]
    refine ⟨.inr ⟨[], _, rfl, List.not_mem_nil, fun y hy => nomatch hy⟩, fun _ => .inl ⟨[], _, rfl, List.nodup_nil, fun y hy => nomatch hy⟩⟩
  · have mem : ∀ y, y ∈ (laterF k l b x).1 ↔ y ∈ l ∨ y = x := fun y => later_mem c
    have e2 : (laterF k l b x).2 = b := by
      unfold laterF
      rw [if_neg c]
    rw [e2]
    have nd : l.Nodup := pw.imp fun h => Int.ne_of_lt h
    constructor
    · rcases h1 with h | ⟨a, d, esl, nk, sub⟩
      · exact .inl (put_not h c)
      · rw [esl]
        by_cases hx : x ∈ a
        · rw [put_in hx]
          refine .inr ⟨x :: a.erase x, d, rfl, fun z => ?_, fun y hy => ?_⟩
          · rcases List.mem_cons.mp z with z | z
            · exact c z.symm
            · exact nk (List.mem_of_mem_erase z)
          · by_cases cy : y = x
            · rw [cy]
              exact List.mem_cons_self
            · rcases (mem y).mp hy with h | h
              · exact List.mem_cons_of_mem _ ((List.mem_erase_of_ne cy).mpr (sub y h))
              · exact absurd h cy
        · have nk2 : k ∉ x :: a := fun z => by
            rcases List.mem_cons.mp z with z | z
            · exact c z.symm
            · exact nk z
          rcases put_out (b := d) hx c with ⟨b', e⟩ | ⟨rfl, e⟩
          · refine .inr ⟨x :: a, b', by rw [e]; rfl, nk2, fun y hy => ?_⟩
            rcases (mem y).mp hy with h | h
            · exact List.mem_cons_of_mem _ (sub y h)
            · rw [h]
              exact List.mem_cons_self
          · rw [e]
            exact .inl nk2
    · intro eb
      have lp := putL_len (r := x) pos
      rcases h2 eb with ⟨a, d, esl, nda, sub⟩ | h
      · rw [esl] at lp ⊢
        by_cases hx : x ∈ a
        · rw [put_in hx]
          refine .inl ⟨x :: a.erase x, d, rfl, ?_, fun y hy => ?_⟩
          · rw [List.nodup_cons]
            exact ⟨fun z => (List.Nodup.mem_erase_iff nda).mp z |>.1 rfl, nda.erase x⟩
          · rcases List.mem_cons.mp hy with rfl | hy
            · exact (mem _).mpr (.inr rfl)
            · exact (mem _).mpr (.inl (sub y (List.mem_of_mem_erase hy)))
        · have nd2 : (x :: a).Nodup := List.nodup_cons.mpr ⟨hx, nda⟩
          have sub2 : ∀ y ∈ x :: a, y ∈ (laterF k l b x).1 := fun y hy => by
            rcases List.mem_cons.mp hy with rfl | hy
            · exact (mem _).mpr (.inr rfl)
            · exact (mem _).mpr (.inl (sub y hy))
          rcases put_out (b := d) hx c with ⟨b', e⟩ | ⟨rfl, e⟩
          · exact .inl ⟨x :: a, b', by rw [e]; rfl, nd2, sub2⟩
          · refine .inr ?_
            rw [e]
            exact nodup_few nd2 sub2
      · refine .inr ?_
        rw [lp]
        exact Nat.le_trans h (nodup_few nd fun y hy => (mem y).mpr (.inl hy))
theorem put_law {sl : List Int} {x : Int} {n : Nat} (len : sl.length = n) (n1 : 1 ≤ n) : (x :: (if x ∈ sl then sl.erase x else sl)).take n = putL sl x := by
  obtain ⟨m, rfl⟩ : ∃ m, n = m + 1 := ⟨n - 1, by omega⟩
  rw [List.take_succ_cons]
  unfold putL goneL
  congr 1
  by_cases c : x ∈ sl
  · rw [if_pos c, if_pos c, List.erase_eq_eraseIdx_of_idxOf rfl, List.eraseIdx_eq_take_drop_succ]
    refine List.take_of_length_le ?_
    rw [List.length_append, List.length_take, List.length_drop]
    have := List.idxOf_lt_length_of_mem c
    omega
  · rw [if_neg c, if_neg c, show sl.length - 1 = m by omega, List.drop_eq_nil_iff.mpr (by omega), List.append_nil]
theorem idx_put {sl : List Int} {x y : Int} (ne : y ≠ x) (pos : 0 < sl.length) : (putL sl x).idxOf y = if sl.idxOf y < sl.idxOf x then sl.idxOf y + 1 else sl.idxOf y := by
  by_cases hy : y ∈ sl
  · obtain ⟨a, c, rfl, ny⟩ := List.eq_append_cons_of_mem hy
    have ey : (a ++ y :: c).idxOf y = a.length := by
      rw [List.idxOf_append, if_neg ny, List.idxOf_cons_self]
      omega
    by_cases hx : x ∈ a
    · have ex : (a ++ y :: c).idxOf x = a.idxOf x := by rw [List.idxOf_append, if_pos hx]
      have lt := List.idxOf_lt_length_of_mem hx
      rw [ey, ex, if_neg (by omega), put_in hx, idx_ne ne, List.idxOf_append, if_neg (fun z => ny (List.mem_of_mem_erase z)), List.idxOf_cons_self, List.length_erase_of_mem hx]
      omega
    · have ex : (a ++ y :: c).idxOf x = a.length + (c.idxOf x + 1) := by
        rw [List.idxOf_append, if_neg hx, idx_ne (Ne.symm ne)]
        omega
      rw [ey, ex, if_pos (by omega)]
      rcases put_out (b := c) hx (Ne.symm ne) with ⟨b', e⟩ | ⟨rfl, e⟩
      · rw [e, idx_ne ne, List.idxOf_append, if_neg ny, List.idxOf_cons_self]
        omega
      · rw [e, List.idxOf_eq_length fun z => ?_]
        · rfl
        · rcases List.mem_cons.mp z with z | z
          · exact ne z
          · exact ny z
  · have e1 := List.idxOf_eq_length hy
    have le : sl.idxOf x ≤ sl.length := List.idxOf_le_length
    rw [e1, if_neg (by omega), List.idxOf_eq_length (put_not hy ne.symm), putL_len pos]
theorem nodup_at {xs : List Int} (nd : xs.Nodup) {i j : Nat} (hi : i < xs.length) (hj : j < xs.length) (e : xs[i] = xs[j]) : i = j := by
  have h := List.pairwise_iff_getElem.mp nd
  rcases Nat.lt_trichotomy i j with l | l | l
  · exact absurd e (h i j hi hj l)
  · exact l
  · exact absurd e.symm (h j i hj hi l)
/-- the ages hold of the slots -/
def AgeOk (ms : List Int) (s : Int) (p : Pr) (sl : List Int) : Prop := ∀ (j : Nat) (x : Int), ms[j]? = some x → p.2.getD j 0 ≤ (sl.idxOf x : Nat) ∧ (p.1.getD j 0 < s → ((sl.idxOf x : Nat) : Int) ≤ p.1.getD j 0)
theorem AgeOk.le {ms : List Int} {s : Int} {p q : Pr} {sl : List Int} (h : AgeOk ms s p sl) (l : PLe p q) : AgeOk ms s q sl := fun j x e => by
  obtain ⟨h1, h2⟩ := h j x e
  have a := l.1.at j
  have b := l.2.at j
  exact ⟨by omega, fun z => by have := h2 (by omega); omega⟩
theorem getD_set_ne {a : List Int} {k j : Nat} {v : Int} (n : j ≠ k) : (a.set k v).getD j 0 = a.getD j 0 := by
  rw [List.getD_eq_getElem?_getD, List.getD_eq_getElem?_getD, List.getElem?_set_ne (Ne.symm n)]
theorem getD_set_eq {a : List Int} {k : Nat} (h : k < a.length) : (a.set k 0).getD k 0 = 0 := by
  rw [List.getD_eq_getElem?_getD, List.getElem?_set_self h]
  rfl
theorem getD_map {a : List Int} {f : Int → Int} {j : Nat} (h : j < a.length) : (a.map f).getD j 0 = f (a.getD j 0) := by
  rw [List.getD_eq_getElem?_getD, List.getD_eq_getElem?_getD, List.getElem?_map, List.getElem?_eq_getElem h]
  rfl
theorem getD_in {a : List Int} {j : Nat} (h : j < a.length) : a.getD j 0 ∈ a := by
  rw [List.getD_eq_getElem?_getD, List.getElem?_eq_getElem h]
  exact List.getElem_mem h
theorem AgeOk.ask {ms : List Int} {s : Int} {p : Pr} {sl : List Int} {k : Nat} {x : Int} (pok : POk ms.length s p) (len : (sl.length : Int) = s) (s1 : 1 ≤ s) (nd : ms.Nodup) (ex : ms[k]? = some x) (h : AgeOk ms s p sl) : AgeOk ms s (askP s p k) (putL sl x) := fun j y ey => by
  have lk := (List.getElem?_eq_some_iff.mp ex).1
  have lj := (List.getElem?_eq_some_iff.mp ey).1
  have la := pok.la
  have lb := pok.lb
  have pos : 0 < sl.length := by omega
  by_cases c : j = k
  · subst c
    rw [ex] at ey
    cases ey
    have e0 : (putL sl x).idxOf x = 0 := List.idxOf_cons_self
    have e1 : (askP s p j).1.getD j 0 = 0 := getD_set_eq (by rw [List.length_map]; omega)
    have e2 : (askP s p j).2.getD j 0 = 0 := getD_set_eq (by rw [List.length_map]; omega)
    rw [e0, e1, e2]
    exact ⟨Int.le_refl _, fun _ => Int.le_refl _⟩
  · have ne : y ≠ x := fun z => by
      subst z
      have h1 := (List.getElem?_eq_some_iff.mp ex).2
      have h2 := (List.getElem?_eq_some_iff.mp ey).2
      exact c (nodup_at nd lj lk (h2.trans h1.symm))
    obtain ⟨h1, h2⟩ := h j y ey
    obtain ⟨k1, k2⟩ := h k x ex
    have e1 : (askP s p k).1.getD j 0 = if p.1.getD j 0 < p.1.getD k 0 then p.1.getD j 0 + 1 else p.1.getD j 0 := by
      show ((p.1.map fun x => if x < p.1.getD k 0 then x + 1 else x).set k 0).getD j 0 = _
      rw [getD_set_ne c, getD_map (by omega)]
    have e2 : (askP s p k).2.getD j 0 = if p.2.getD j 0 ≤ p.2.getD k 0 then min s (p.2.getD j 0 + 1) else p.2.getD j 0 := by
      show ((p.2.map fun x => if x ≤ p.2.getD k 0 then min s (x + 1) else x).set k 0).getD j 0 = _
      rw [getD_set_ne c, getD_map (by omega)]
    have b1 := pok.a _ (getD_in (a := p.1) (j := j) (by omega))
    have b2 := pok.b _ (getD_in (a := p.2) (j := j) (by omega))
    have both : sl.idxOf y = sl.idxOf x → sl.idxOf y = sl.length := fun z => by
      by_cases hy : sl.idxOf y < sl.length
      · exfalso
        have g1 := List.getElem_idxOf hy
        have g2 := List.getElem_idxOf (x := x) (xs := sl) (by omega)
        apply ne
        rw [← g1, ← g2]
        congr 1
      · have : sl.idxOf y ≤ sl.length := List.idxOf_le_length
        omega
    have l1 : sl.idxOf y ≤ sl.length := List.idxOf_le_length
    have l2 : sl.idxOf x ≤ sl.length := List.idxOf_le_length
    rw [e1, e2, idx_put ne pos]
    generalize p.1.getD j 0 = A at *
    generalize p.1.getD k 0 = Ak at *
    generalize p.2.getD j 0 = Bj at *
    generalize p.2.getD k 0 = Bk at *
    generalize sl.idxOf y = P at *
    generalize sl.idxOf x = Pk at *
    constructor
    · split <;> split <;> omega
    · intro hlt
      split at hlt <;> split <;> omega
theorem fold_ge {n : Nat} {s : Int} {p : Pr} (hs : 0 ≤ s) (hp : POk n s p) : ∀ (ks : List Nat) (c : Pr), POk n s c → PLe c (ks.foldl (fun c j => joinP c (askP s p j)) c)
  | [], c, _ => PLe.refl c
  | k :: ks, c, hc => (joinP_l hc (askP_ok hs hp k)).trans (fold_ge hs hp ks _ (joinP_ok hc (askP_ok hs hp k)))
theorem fold_mem {n : Nat} {s : Int} {p : Pr} (hs : 0 ≤ s) (hp : POk n s p) {j : Nat} : ∀ (ks : List Nat) (c : Pr), POk n s c → j ∈ ks → PLe (askP s p j) (ks.foldl (fun c j => joinP c (askP s p j)) c)
  | [], _, _, h => nomatch h
  | k :: ks, c, hc, h => by
    have ok2 := joinP_ok hc (askP_ok hs hp k)
    rcases List.mem_cons.mp h with rfl | h
    · exact (joinP_r hc (askP_ok hs hp j)).trans (fold_ge hs hp ks _ ok2)
    · exact fold_mem hs hp ks _ ok2 h
theorem rowP_mem {n : Nat} {s : Int} {p : Pr} (hs : 0 ≤ s) (hp : POk n s p) {j : Nat} : ∀ {ks : List Nat}, j ∈ ks → PLe (askP s p j) (rowP s p ks)
  | k :: ks, h => by
    rcases List.mem_cons.mp h with rfl | h
    · exact fold_ge hs hp ks _ (askP_ok hs hp j)
    · exact fold_mem hs hp ks _ (askP_ok hs hp k) h
def aftS (sl : List Int) : Option Int → List Int
  | none => sl
  | some x => putL sl x
end Su
/-! ### LEa: tables as things (of k37) -/
namespace Su
open PySem PySem.Spec PyProof.Rows L2
open LamX hiding takes0
open Fm
def cellT : Option Pr → G
  | none => .non
  | some p => .tup [.lst (p.1.map G.int), .lst (p.2.map G.int)]
def tbT (X : Tb) : List G := X.map cellT
theorem valI_ints (l : List Int) : (l.map G.int).map valI = l := by
  rw [List.map_map]
  exact List.map_id' l
theorem cellT_O (o : Option Pr) : celO (cellT o) = o := by
  cases o with
  | none => rfl
  | some p =>
    show some ((p.1.map G.int).map valI, (p.2.map G.int).map valI) = _
    rw [valI_ints, valI_ints]
theorem tbT_O (X : Tb) : (tbT X).map celO = X := by
  unfold tbT
  rw [List.map_map]
  have e : (celO ∘ cellT) = id := funext fun o => cellT_O o
  rw [e, List.map_id]
theorem nl_ints {n : Nat} {s : Int} {l : List Int} (hl : l.length = n) (h : ∀ x ∈ l, 0 ≤ x ∧ x ≤ s) : nlG n s (.lst (l.map G.int)) = true := by
  show (decide ((l.map G.int).length = n) && ((l.map G.int).map (ageG s)).all id) = true
  rw [List.length_map, decide_eq_true hl, Bool.true_and, List.map_map, List.all_map, List.all_eq_true]
  intro x hx
  show (decide (0 ≤ x) && decide (x ≤ s)) = true
  have := h x hx
  rw [decide_eq_true this.1, decide_eq_true this.2]
  rfl
theorem cellT_ok {n : Nat} {s : Int} {o : Option Pr} (h : ∀ q, o = some q → POk n s q) : celG n s (cellT o) = true := by
  cases o with
  | none => rfl
  | some p =>
    have k := h p rfl
    show (decide (2 = 2) && (nlG n s _ && (nlG n s _ && true))) = true
    rw [nl_ints k.la k.a, nl_ints k.lb k.b]
    rfl
def CellY (p F : Addr) (H : Hp) (v : V) : Option Pr → Prop
  | none => v = .non
  | some q => ∃ t a b, v = .ref t ∧ T2 H t [.ref a, .ref b] ∧ H a = some (.lst (q.1.map V.int)) ∧ H b = some (.lst (q.2.map V.int)) ∧ (a ≠ p ∧ a ≠ F) ∧ b ≠ p ∧ b ≠ F
theorem tgl_ints {p : Addr} {H : Hp} {l : List Int} {vs : List V} (h : TgL p H vs (l.map G.int)) : vs = l.map V.int := by
  induction l generalizing vs with
  | nil =>
    cases h
    rfl
  | cons x l ih =>
    cases h with
    | cons h t =>
      cases h
      rw [ih t]
      rfl
theorem CellY.of {p F : Addr} {H : Hp} {v : V} {o : Option Pr} (h : Tg p H v (cellT o)) (nF : H F = none) : CellY p F H v o := by
  cases o with
  | none =>
    cases h
    rfl
  | some q =>
    cases h with
    | @tup t vs ds e tl =>
      cases tl with
      | cons h1 tl =>
        cases tl with
        | cons h2 tl =>
          cases tl
          cases h1 with
          | @lst a va da na ea ta =>
            cases h2 with
            | @lst b vb db nb eb tb =>
              rw [tgl_ints ta] at ea
              rw [tgl_ints tb] at eb
              exact ⟨t, a, b, rfl, e, ea, eb, ⟨na, ne_of_none ea nF⟩, nb, ne_of_none eb nF⟩
theorem CellY.tg {p F : Addr} {H : Hp} {v : V} {o : Option Pr} (h : CellY p F H v o) : Tg p H v (cellT o) := by
  cases o with
  | none =>
    rw [show v = .non from h]
    exact .non
  | some q =>
    obtain ⟨t, a, b, rfl, e, ea, eb, na, nb⟩ := h
    exact .tup e (.cons (.lst na.1 ea (TgL.ints _)) (.cons (.lst nb.1 eb (TgL.ints _)) .nil))
structure Kpf (p F : Addr) (H H' : Hp) : Prop where
  k : ∀ b o, H b = some o → b ≠ p → b ≠ F → H' b = some o
  t : K2 H H'
theorem Kpf.refl (p F : Addr) (H : Hp) : Kpf p F H H := ⟨fun _ _ e _ _ => e, fun _ _ h => h⟩
theorem Kpf.trans {p F : Addr} {H H1 H2 : Hp} (a : Kpf p F H H1) (b : Kpf p F H1 H2) : Kpf p F H H2 := ⟨fun c o e n1 n2 => b.k c o (a.k c o e n1 n2) n1 n2, a.t.trans b.t⟩
theorem Kpf.same {p F : Addr} {H H' : Hp} (s : Same H H') : Kpf p F H H' := ⟨fun c o e _ _ => s c o e, K2.same s⟩
theorem Kpf.kept {p F : Addr} {H H' : Hp} (k : Kept p H H') (hp : PoolAt H p) : Kpf p F H H' := ⟨fun c o e n1 _ => k c o e n1, K2.of k hp⟩
theorem Kpf.upd {p F : Addr} {H : Hp} {vs : List V} {u : HO} (e : H F = some (.lst vs)) : Kpf p F H (L2.upd H F u) := ⟨fun c o ec _ n2 => by rw [upd_ne n2]; exact ec, K2.lst e⟩
theorem CellY.keep {p F : Addr} {H H' : Hp} {v : V} {o : Option Pr} (h : CellY p F H v o) (k : Kpf p F H H') : CellY p F H' v o := by
  cases o with
  | none => exact h
  | some q =>
    obtain ⟨t, a, b, rfl, e, ea, eb, na, nb⟩ := h
    exact ⟨t, a, b, rfl, k.t _ _ e, k.k _ _ ea na.1 na.2, k.k _ _ eb nb.1 nb.2, na, nb⟩
def CellsY (p F : Addr) (H : Hp) (vs : List V) (X : Tb) : Prop := vs.length = X.length ∧ ∀ (i : Nat) (v : V) (o : Option Pr), vs[i]? = some v → X[i]? = some o → CellY p F H v o
theorem CellsY.keep {p F : Addr} {H H' : Hp} {vs : List V} {X : Tb} (h : CellsY p F H vs X) (k : Kpf p F H H') : CellsY p F H' vs X := ⟨h.1, fun i v o e1 e2 => (h.2 i v o e1 e2).keep k⟩
theorem CellsY.of {p F : Addr} {H : Hp} {vs : List V} {X : Tb} (h : TgL p H vs (tbT X)) (nF : H F = none) : CellsY p F H vs X := by
  have l := h.len
  unfold tbT at l
  rw [List.length_map] at l
  refine ⟨l, fun i v o e1 e2 => ?_⟩
  obtain ⟨g, eg, tg⟩ := h.get e1
  unfold tbT at eg
  rw [List.getElem?_map, e2] at eg
  injection eg with eg
  subst eg
  exact CellY.of tg nF
theorem CellsY.tg {p F : Addr} {H : Hp} : ∀ {vs : List V} {X : Tb}, CellsY p F H vs X → TgL p H vs (tbT X)
  | [], [], _ => .nil
  | v :: vs, o :: X, h => .cons (h.2 0 v o rfl rfl).tg (CellsY.tg ⟨by simpa using h.1, fun i v o e1 e2 => h.2 (i + 1) v o (by simpa using e1) (by simpa using e2)⟩)
  | [], _ :: _, h => by cases h.1
  | _ :: _, [], h => by cases h.1
theorem CellsY.snoc {p F : Addr} {H : Hp} {vs : List V} {X : Tb} {v : V} {o : Option Pr} (h : CellsY p F H vs X) (k : CellY p F H v o) : CellsY p F H (vs ++ [v]) (X ++ [o]) := by
  refine ⟨by rw [List.length_append, List.length_append, h.1]; rfl, fun i x y e1 e2 => ?_⟩
  by_cases il : i < vs.length
  · rw [List.getElem?_append_left il] at e1
    rw [List.getElem?_append_left (by rw [← h.1]; exact il)] at e2
    exact h.2 i x y e1 e2
  · rw [List.getElem?_append_right (by omega)] at e1
    rw [List.getElem?_append_right (by rw [← h.1]; omega)] at e2
    rw [h.1] at e1
    cases hk : i - X.length with
    | zero =>
      rw [hk] at e1 e2
      injection e1 with e1
      injection e2 with e2
      subst e1
      subst e2
      exact k
    | succ j =>
      rw [hk] at e1
      cases e1
def OkTb (n : Nat) (s : Int) (X : Tb) : Prop := ∀ o ∈ X, ∀ q, o = some q → POk n s q
theorem mid_gif {t : TT} {u S : TS} {D : Ends} {σ : L2.St} {H : Hp} {j : Nat} {v : V} (M : L2.St → Hp → Prop) (hR : ∀ σ' H', M σ' H' → S D σ' H') (h : ∀ D2 : Ends, (∀ σ' H', M σ' H' → D2.nx σ' H') → tIfS t u tNext D2 (σ.set j (some v)) H) : gName j v σ H (fun σ2 H2 => tSeq (tIfS t u tNext) S D σ2 H2) := h _ hR
theorem rep_top : ∀ (n : Nat) {s : Int} {b : List Int}, LeL (List.replicate n s) b → (∀ x ∈ b, x ≤ s) → b = List.replicate n s
  | 0, _, [], _, _ => rfl
  | n + 1, s, y :: b, h, k => by
    rw [List.replicate_succ] at h ⊢
    have h1 := h.1
    have h2 := k y List.mem_cons_self
    rw [rep_top n h.2 fun x hx => k x (List.mem_cons_of_mem _ hx)]
    congr 1
    omega
  | 0, _, _ :: _, h, _ => h.elim
  | _ + 1, _, [], h, _ => by
    rw [List.replicate_succ] at h
    exact h.elim
theorem rep_bot : ∀ (n : Nat) {b : List Int}, LeL b (List.replicate n 0) → (∀ x ∈ b, 0 ≤ x) → b = List.replicate n 0
  | 0, [], _, _ => rfl
  | n + 1, y :: b, h, k => by
    rw [List.replicate_succ] at h ⊢
    have h1 := h.1
    have h2 := k y List.mem_cons_self
    rw [rep_bot n h.2 fun x hx => k x (List.mem_cons_of_mem _ hx)]
    congr 1
    omega
  | 0, _ :: _, h, _ => h.elim
  | _ + 1, [], h, _ => by
    rw [List.replicate_succ] at h
    exact h.elim
theorem first_top {n : Nat} {s : Int} {q : Pr} (h : PLe (firstP n s) q) (k : POk n s q) : q = firstP n s :=
  Prod.ext (rep_top n h.1 fun x hx => (k.a x hx).2) (rep_bot n h.2 fun x hx => (k.b x hx).1)
theorem okTb_of {n : Nat} {s : Int} {rs : List Rw} {X : Tb} (h : TOk n s rs X) : OkTb n s X := fun o ho q e => by
  obtain ⟨i, hi, ei⟩ := List.mem_iff_getElem.mp ho
  exact h.ok i q (by rw [List.getElem?_eq_getElem hi, ei, e])
theorem letsB_least {ms : List Int} {s : Int} {rs : List Rw} {X : Tb} (hs : 0 ≤ s) (h : Least ms s rs X) : letsB ms s rs (.lst (tbT X)) = true ∧ X[0]? = some (some (firstP ms.length s)) := by
  have ok := okTb_of h.clo.tok
  obtain ⟨q, eq, lq⟩ := h.clo.zero
  have e0 : X[0]? = some (some (firstP ms.length s)) := by rw [eq, first_top lq (h.clo.tok.ok 0 q eq)]
  refine ⟨?_, e0⟩
  unfold letsB
  have t1 : tabG ms.length s rs.length (.lst (tbT X)) = true := by
    show (decide ((tbT X).length = rs.length) && ((tbT X).map (celG ms.length s)).all id) = true
    rw [Bool.and_eq_true, decide_eq_true_eq]
    refine ⟨by unfold tbT; rw [List.length_map]; exact h.clo.tok.len, ?_⟩
    rw [List.all_map, List.all_eq_true]
    intro g hg
    obtain ⟨o, ho, rfl⟩ := List.mem_map.mp hg
    exact cellT_ok fun q e => ok o ho q e
  have t2 : tbO (.lst (tbT X)) = X := tbT_O X
  rw [t1, t2, e0, decide_eq_true rfl, Bool.true_and, Bool.true_and]
  unfold holdB
  rw [List.all_eq_true]
  intro i hi
  have il := List.mem_range.mp hi
  have er : rs[i]? = some rs[i] := List.getElem?_eq_getElem il
  have erd : rs.getD i ([], []) = rs[i] := by rw [List.getD_eq_getElem?_getD, er]; rfl
  rw [erd]
  cases hx : X.getD i none with
  | none => rfl
  | some p =>
    have ep : X[i]? = some (some p) := by
      rw [List.getD_eq_getElem?_getD] at hx
      cases hz : X[i]? with
      | none =>
        rw [hz] at hx
        cases hx
      | some o =>
        rw [hz] at hx
        have hx' : o = some p := hx
        rw [hx']
    show rs[i].2.all (holdT X (comeP ms s rs[i] p)) = true
    rw [List.all_eq_true]
    intro t ht
    obtain ⟨q2, e2, l2⟩ := h.clo.keep i _ er p ep t ht
    have okq := h.clo.tok.ok _ _ e2
    have okc : POk ms.length s (comeP ms s rs[i] p) := rowP_ok hs (h.clo.tok.ok _ _ ep) _
    unfold holdT
    rw [e2]
    show decide (joinP q2 (comeP ms s rs[i] p) = q2) = true
    exact decide_eq_true ((joinP_lub (PLe.refl _) l2).anti (joinP_l okq okc))
theorem TAt.cells {H0 H : Hp} {L p : Addr} {X : Tb} {ad : Nat → Addr × Addr} {own : Addr → Nat × Bool} (h : TAt H0 H L X ad own) (hp : PoolAt H0 p) : ∃ vs, H L = some (.lst vs) ∧ CellsY p L H vs X := by
  obtain ⟨vs, e, l, c⟩ := h.ex
  refine ⟨vs, e, l, fun i v o ev eo => ?_⟩
  rcases c i v ev with ⟨z1, z2⟩ | ⟨q, t, z1, z2, z3, z4, z5⟩
  · rw [eo] at z1
    injection z1 with z1
    subst z1
    exact z2
  · rw [eo] at z1
    injection z1 with z1
    subst z1
    have n := h.new i q eo
    exact ⟨t, _, _, z2, .inl z3, z4, z5, ⟨pool_ne hp n.1, n.2.2.1⟩, pool_ne hp n.2.1, n.2.2.2.1⟩
theorem TAt.tg {H0 H : Hp} {L p : Addr} {X : Tb} {ad : Nat → Addr × Addr} {own : Addr → Nat × Bool} (h : TAt H0 H L X ad own) (hp : PoolAt H0 p) (nL : H0 L = none) : Tg p H (.ref L) (.lst (tbT X)) := by
  obtain ⟨vs, e, c⟩ := h.cells hp
  exact .lst (pool_ne hp nL) e c.tg
theorem WebAt.kept {p a : Addr} {H H' : Hp} {rs : List Rw} (h : WebAt H a rs) (k : Kept p H H') (hp : PoolAt H p) (n : a ≠ p) : WebAt H' a rs := by
  obtain ⟨ws, e, r⟩ := h
  exact ⟨ws, k _ _ e n, r.keep (K2.of k hp)⟩
end Su
/-! ### AM: what closed ages tell of slots and of numbers -/
namespace Su
open PySem PySem.Spec PyProof.Rows L2
open LamX hiding takes0
open Fm
theorem asks_mem {rc : Rw} : ∀ {o : Option Int}, o ∈ asksL rc → (match o with
    | none => rc.1 = []
    | some k => k ∈ rc.1)
  | none, h => by
    unfold asksL at h
    by_cases c : rc.1 = []
    · exact c
    · rw [if_neg c] at h
      obtain ⟨k, hk, e⟩ := List.mem_map.mp h
      cases e
  | some k, h => by
    unfold asksL at h
    by_cases c : rc.1 = []
    · rw [if_pos c] at h
      cases List.mem_singleton.mp h
    · rw [if_neg c] at h
      obtain ⟨k', hk, e⟩ := List.mem_map.mp h
      cases e
      exact hk
/-- a step keeps what ages tell of slots -/
theorem age_step {rs : List Rw} {ms : List Int} {n : Nat} {X : Tb} (cl : Clo ms n rs X) (nd : ms.Nodup) (n1 : 1 ≤ n) {i : Nat} {row : Rw} (er : rs[i]? = some row) (hin : ∀ x ∈ row.1, x ∈ ms) {p : Pr} (hX : X[i]? = some (some p)) {sl : List Int} (l1 : sl.length = n) (h : AgeOk ms n p sl) {o : Option Int} (ho : o ∈ asksL row) {t : Nat} (ht : (t : Int) ∈ row.2) : ∃ q, X[t]? = some (some q) ∧ AgeOk ms n q (aftS sl o) := by
  obtain ⟨q, hq, l⟩ := cl.keep i row er p hX t ht
  refine ⟨q, by simpa using hq, AgeOk.le ?_ l⟩
  have pok := cl.tok.ok i p hX
  cases o with
  | none =>
    have := asks_mem ho
    have e0 : row.1 = [] := this
    have : comeP ms n row p = p := by
      unfold comeP plcs
      rw [e0]
      rfl
    rw [this]
    exact h
  | some x =>
    have hx : x ∈ row.1 := asks_mem ho
    have xm : x ∈ ms := hin x hx
    have lt := List.idxOf_lt_length_of_mem xm
    have ex : ms[ms.idxOf x]? = some x := by rw [List.getElem?_eq_getElem lt, List.getElem_idxOf lt]
    refine AgeOk.le (h.ask pok (by omega) (by omega) nd ex) (rowP_mem (by omega) pok ?_)
    exact List.mem_map.mpr ⟨x, hx, rfl⟩
theorem age_start {rs : List Rw} {ms : List Int} {n : Nat} {X : Tb} (cl : Clo ms n rs X) {sl : List Int} (l1 : sl.length = n) : ∃ q, X[0]? = some (some q) ∧ AgeOk ms n q sl := by
  obtain ⟨q, hq, l⟩ := cl.zero
  refine ⟨q, hq, AgeOk.le (p := firstP ms.length n) (fun j x ex => ?_) l⟩
  have lj := (List.getElem?_eq_some_iff.mp ex).1
  have a1 : (firstP ms.length (n : Int)).1.getD j 0 = n := by
    show (List.replicate ms.length (n : Int)).getD j 0 = _
    rw [List.getD_eq_getElem?_getD, List.getElem?_replicate, if_pos lj]
    rfl
  have a2 : (firstP ms.length (n : Int)).2.getD j 0 = 0 := by
    show (List.replicate ms.length (0 : Int)).getD j 0 = _
    rw [List.getD_eq_getElem?_getD, List.getElem?_replicate, if_pos lj]
    rfl
  rw [a1, a2]
  exact ⟨by omega, fun z => by omega⟩
theorem aft_len {sl : List Int} (pos : 0 < sl.length) (o : Option Int) : (aftS sl o).length = sl.length := by
  cases o with
  | none => rfl
  | some x => exact putL_len pos
/-- what holds of the start and is kept holds of all that come -/
theorem fam_ind {rs : List Rw} {k : Int} {cs : List CE} (c : Came (famSys rs k) cs) {F : Nat → List Int → Bool → Prop} (h0 : F 0 [] true) (hs : ∀ (i : Nat) (row : Rw) (l : List Int) (b : Bool) (o : Option Int) (t : Nat), rs[i]? = some row → l.Pairwise (· < ·) → F i l b → o ∈ asksL row → (t : Int) ∈ row.2 → F t (match o with
    | none => l
    | some x => (laterF k l b x).1) (match o with
    | none => b
    | some x => (laterF k l b x).2)) : ∀ (j : Nat) (e : CE), cs[j]? = some e → ∀ l b, e.st = fk l b → F e.row l b := by
  intro j
  induction j using Nat.strongRecOn with
  | ind j ih =>
    intro e ej l b es
    have bk := c.bk j e ej
    unfold Sys.frmOk at bk
    cases hf : e.frm with
    | none =>
      rw [hf] at bk
      obtain ⟨er, hst⟩ := bk
      have h1 : e.st = fk [] true := List.mem_singleton.mp hst
      have h2 : fk l b = fk [] true := es.symm.trans h1
      have h3 := congrArg unfk h2
      rw [unfk_fk, unfk_fk] at h3
      injection h3 with h4 h5
      subst h4 h5
      rw [er]
      exact h0
    | some q =>
      obtain ⟨r0, s0, a⟩ := q
      rw [hf] at bk
      obtain ⟨j', e0, r, lt, ej', ek, er, ha, ht, est⟩ := bk
      obtain ⟨_, l0, b0, es0, pw0, _⟩ := c.ok e0 (List.mem_of_getElem? ej')
      have k1 : e0.row = r0 := congrArg Prod.fst ek
      have k2 : e0.st = s0 := congrArg Prod.snd ek
      have z := ih j' lt e0 ej' l0 b0 es0
      rw [k1] at z
      have z2 := hs r0 r l0 b0 a e.row er pw0 z ha ht
      rw [← k2, es0] at est
      cases a with
      | none =>
        have e3 : fk l b = fk l0 b0 := es.symm.trans est
        have h3 := congrArg unfk e3
        rw [unfk_fk, unfk_fk] at h3
        injection h3 with h4 h5
        subst h4 h5
        exact z2
      | some x =>
        rw [fam_next] at est
        have e3 := es.symm.trans est
        have h3 := congrArg unfk e3
        rw [unfk_fk, unfk_fk] at h3
        injection h3 with h4 h5
        subst h4 h5
        exact z2
/-- a room's slots by what was asked since: it is at this place -/
theorem jh_idx {k : Int} {sl l : List Int} {n : Nat} (pw : l.Pairwise (· < ·)) (len : sl.length = n) (h : JH k sl l false) : sl.idxOf k ≤ l.length ∧ (sl.idxOf k < n → l.length ≤ sl.idxOf k) ∧ (l.length < n → sl.idxOf k < n) := by
  have nd : l.Nodup := pw.imp fun h => Int.ne_of_lt h
  have le : sl.idxOf k ≤ sl.length := List.idxOf_le_length
  have at_ : ∀ {a c : List Int}, sl = a ++ k :: c → k ∉ a → sl.idxOf k = a.length := fun {a c} e nk => by
    rw [e, List.idxOf_append, if_neg nk, List.idxOf_cons_self]
    omega
  have at_le : ∀ {a c : List Int}, sl = a ++ k :: c → sl.idxOf k ≤ a.length := fun {a c} e => by
    rw [e, List.idxOf_append]
    split
    · rename_i z
      exact Nat.le_of_lt (List.idxOf_lt_length_of_mem z)
    · rw [List.idxOf_cons_self]
      omega
  refine ⟨?_, fun z => ?_, fun z => ?_⟩
  · rcases h.2 rfl with ⟨a, c, e, nda, sub⟩ | h
    · have := at_le e
      have := nodup_few nda sub
      omega
    · omega
  · rcases h.1 with h | ⟨a, c, e, nk, sub⟩
    · have := List.idxOf_eq_length h
      omega
    · have := at_ e nk
      have := nodup_few nd sub
      omega
  · rcases h.2 rfl with ⟨a, c, e, nda, sub⟩ | h
    · have := at_le e
      have := congrArg List.length e
      rw [List.length_append, List.length_cons] at this
      omega
    · omega
/-- ages and what comes -/
theorem ages_come {rs : List Rw} {ms : List Int} {n : Nat} {X : Tb} {k : Int} {cs : List CE} (cl : Clo ms n rs X) (nd : ms.Nodup) (n1 : 1 ≤ n) (hin : ∀ (i : Nat) (row : Rw), rs[i]? = some row → ∀ x ∈ row.1, x ∈ ms) (k0 : 0 ≤ k) (c : Came (famSys rs k) cs) {i : Nat} {l : List Int} {b : Bool} (h : ComesB cs i l b) :
    ∃ p sl1 sl2, X[i]? = some (some p) ∧ sl1.length = n ∧ sl2.length = n ∧ AgeOk ms n p sl1 ∧ AgeOk ms n p sl2 ∧ JH k sl1 l false ∧ JH k sl2 l b ∧ (b = true → k ∉ sl2) := by
  obtain ⟨e, he, ek⟩ := List.mem_map.mp h
  obtain ⟨j, ej⟩ := List.mem_iff_getElem?.mp he
  have e1 : e.row = i := congrArg Prod.fst ek
  have e2 : e.st = fk l b := congrArg Prod.snd ek
  rw [← e1]
  refine fam_ind c (F := fun i l b => ∃ p sl1 sl2, X[i]? = some (some p) ∧ sl1.length = n ∧ sl2.length = n ∧ AgeOk ms n p sl1 ∧ AgeOk ms n p sl2 ∧ JH k sl1 l false ∧ JH k sl2 l b ∧ (b = true → k ∉ sl2)) ?_ ?_ j e ej l b e2
  · have la : (k :: List.replicate (n - 1) (-1)).length = n := by
      rw [List.length_cons, List.length_replicate]
      omega
    have lb : (List.replicate n (-1 : Int)).length = n := List.length_replicate
    obtain ⟨p, hp, a1⟩ := age_start cl la
    obtain ⟨p2, hp2, a2⟩ := age_start cl lb
    rw [hp] at hp2
    cases hp2
    refine ⟨p, _, _, hp, la, lb, a1, a2, ⟨.inr ⟨[], _, rfl, List.not_mem_nil, fun x hx => by cases hx⟩, fun _ => .inl ⟨[], _, rfl, List.nodup_nil, fun x hx => by cases hx⟩⟩, jh_start k _, fun _ z => ?_⟩
    have := List.eq_of_mem_replicate z
    omega
  · rintro i row l b o t er pw ⟨p, sl1, sl2, hp, l1, l2, a1, a2, j1, j2, nb⟩ ho ht
    obtain ⟨q, hq, b1⟩ := age_step cl nd n1 er (hin i row er) hp l1 a1 ho ht
    obtain ⟨q2, hq2, b2⟩ := age_step cl nd n1 er (hin i row er) hp l2 a2 ho ht
    rw [hq] at hq2
    cases hq2
    refine ⟨q, _, _, hq, (aft_len (by omega) o).trans l1, (aft_len (by omega) o).trans l2, b1, b2, ?_⟩
    cases o with
    | none => exact ⟨j1, j2, nb⟩
    | some x =>
      have z1 := jh_step (x := x) pw (by omega) j1
      have z2 := jh_step (x := x) pw (by omega) j2
      have e1 : (laterF k l false x).1 = (laterF k l b x).1 := by
        unfold laterF
        split <;> rfl
      have e2 : (laterF k l false x).2 = false := by
        unfold laterF
        split <;> rfl
      rw [e1, e2] at z1
      refine ⟨z1, z2, fun z => ?_⟩
      by_cases cx : x = k
      · have : (laterF k l b x).2 = false := by
          unfold laterF
          rw [if_pos cx]
        rw [show (match some x with | none => b | some x => (laterF k l b x).2) = (laterF k l b x).2 from rfl, this] at z
        cases z
      · have : (laterF k l b x).2 = b := by
          unfold laterF
          rw [if_neg cx]
        rw [show (match some x with | none => b | some x => (laterF k l b x).2) = (laterF k l b x).2 from rfl, this] at z
        exact put_not (nb z) cx
/-- told numbers and told ages -/
theorem ages_numbers {rs : List Rw} {ms : List Int} {n : Nat} {X : Tb} {k : Int} {cs : List CE} (cl : Clo ms n rs X) (nd : ms.Nodup) (n1 : 1 ≤ n) (hin : ∀ (i : Nat) (row : Rw), rs[i]? = some row → ∀ x ∈ row.1, x ∈ ms) (k0 : 0 ≤ k) (c : Came (famSys rs k) cs) {i j : Nat} (ej : ms[j]? = some k) {a : Nat} {ob : Option Nat} (hn : NumR cs i (some (a, ob))) :
    ∃ p, X[i]? = some (some p) ∧ p.2.getD j 0 ≤ a ∧ p.2.getD j 0 ≤ n ∧ (p.1.getD j 0 < n → ∃ b : Nat, ob = some b ∧ (b : Int) ≤ p.1.getD j 0) := by
  obtain ⟨⟨l, ⟨b, hl⟩, la⟩, lo, hrest⟩ := hn
  obtain ⟨p, sl1, sl2, hp, l1, l2, a1, a2, j1, j2, nb⟩ := ages_come cl nd n1 hin k0 c hl
  have pwl := (come_lo c ⟨b, hl⟩).1
  refine ⟨p, hp, ?_, ?_, fun hlt => ?_⟩
  · have := (a1 j k ej).1
    have := (jh_idx pwl l1 j1).1
    omega
  · have := (a1 j k ej).1
    have : sl1.idxOf k ≤ sl1.length := List.idxOf_le_length
    omega
  · have key : ∀ {l : List Int} {b : Bool}, ComesB cs i l b → b = false ∧ (l.length : Int) ≤ p.1.getD j 0 := fun {l b} h => by
      obtain ⟨p', sl1, sl2, hp', l1, l2, a1, a2, j1, j2, nb⟩ := ages_come cl nd n1 hin k0 c h
      rw [hp] at hp'
      cases hp'
      have pwl := (come_lo c ⟨b, h⟩).1
      have u := (a2 j k ej).2 hlt
      cases b with
      | true =>
        have := List.idxOf_eq_length (nb rfl)
        omega
      | false =>
        have := (jh_idx pwl l2 j2).2.1 (by omega)
        exact ⟨rfl, by omega⟩
    cases ob with
    | none =>
      obtain ⟨l', h'⟩ := hrest
      have := (key h').1
      cases this
    | some m =>
      obtain ⟨_, ⟨l', ⟨b', h'⟩, e'⟩, _⟩ := hrest
      have := (key h').2
      exact ⟨m, rfl, by omega⟩
theorem ages_unmet {rs : List Rw} {ms : List Int} {n : Nat} {X : Tb} {k : Int} {cs : List CE} (le : Least ms n rs X) (rpos : 1 ≤ rs.length) (c : Came (famSys rs k) cs) {i : Nat} (hi : i < rs.length) (hn : NumR cs i none) : X[i]? = some none := by
  have lX := le.clo.tok.len
  obtain ⟨x, ex⟩ : ∃ x, X[i]? = some x := ⟨_, List.getElem?_eq_getElem (by omega)⟩
  cases x with
  | none => exact ex
  | some p =>
    exfalso
    let Y : Tb := (List.range X.length).map fun j => open Classical in if ∃ l b, ComesB cs j l b then X.getD j none else none
    have lY : Y.length = X.length := by
      show ((List.range X.length).map _).length = _
      rw [List.length_map, List.length_range]
    have gY : ∀ {j : Nat}, j < X.length → Y[j]? = some (open Classical in if ∃ l b, ComesB cs j l b then X.getD j none else none) := fun {j} hj => by
      show ((List.range X.length).map _)[j]? = _
      rw [List.getElem?_map, List.getElem?_range hj]
      rfl
    have yes : ∀ {j : Nat} {q : Pr}, (∃ l b, ComesB cs j l b) → X[j]? = some (some q) → Y[j]? = some (some q) := fun {j q} m e => by
      have hj := (List.getElem?_eq_some_iff.mp e).1
      rw [gY hj, if_pos m, List.getD_eq_getElem?_getD, e]
      rfl
    have back : ∀ {j : Nat} {q : Pr}, Y[j]? = some (some q) → (∃ l b, ComesB cs j l b) ∧ X[j]? = some (some q) := fun {j q} e => by
      have hj : j < X.length := by
        have := (List.getElem?_eq_some_iff.mp e).1
        omega
      rw [gY hj] at e
      by_cases m : ∃ l b, ComesB cs j l b
      · rw [if_pos m, List.getD_eq_getElem?_getD, List.getElem?_eq_getElem hj] at e
        exact ⟨m, by rw [List.getElem?_eq_getElem hj]; exact e⟩
      · rw [if_neg m] at e
        cases e
    have cY : Clo ms n rs Y := by
      refine ⟨⟨lY.trans lX, fun j q e => le.clo.tok.ok j q (back e).2⟩, ?_, fun j r er q eq t ht => ?_⟩
      · obtain ⟨q, hq, l⟩ := le.clo.zero
        exact ⟨q, yes ⟨[], true, c.st _ List.mem_cons_self⟩ hq, l⟩
      · obtain ⟨⟨l, b, hl⟩, hq⟩ := back eq
        obtain ⟨q2, h2, l2⟩ := le.clo.keep j r er q hq t ht
        refine ⟨q2, yes ?_ h2, l2⟩
        obtain ⟨e, he, ek⟩ := List.mem_map.mp hl
        have e1 : e.row = j := congrArg Prod.fst ek
        have e2 : e.st = fk l b := congrArg Prod.snd ek
        obtain ⟨o, ho⟩ : ∃ o, o ∈ asksL r := by
          unfold asksL
          by_cases z : r.1 = []
          · rw [if_pos z]
            exact ⟨_, List.mem_cons_self⟩
          · rw [if_neg z]
            obtain ⟨y, l', e⟩ := List.exists_cons_of_ne_nil z
            exact ⟨some y, List.mem_map.mpr ⟨y, by rw [e]; exact List.mem_cons_self, rfl⟩⟩
        have z := c.cl e he r (by rw [e1]; exact er) o ho t ht
        rw [e2] at z
        cases o with
        | none => exact ⟨l, b, z⟩
        | some y =>
          rw [fam_next] at z
          exact ⟨_, _, z⟩
    obtain ⟨q, hq, _⟩ := le.le Y cY i p ex
    obtain ⟨⟨l, b, hl⟩, _⟩ := back hq
    exact hn l ⟨b, hl⟩
/-- a table that is let by is closed -/
theorem lets_clo {rs : List Rw} {ms : List Int} {n : Nat} {Z : Tb} (rpos : 1 ≤ rs.length) (okZ : OkTb ms.length n Z) (h : letsB ms n rs (.lst (tbT Z)) = true) : Clo ms n rs Z := by
  have t2 : tbO (.lst (tbT Z)) = Z := tbT_O Z
  unfold letsB at h
  rw [t2, Bool.and_eq_true, Bool.and_eq_true] at h
  obtain ⟨h1, h2, h3⟩ := h
  have lZ : Z.length = rs.length := by
    have z : (decide ((tbT Z).length = rs.length) && ((tbT Z).map (celG ms.length n)).all id) = true := h1
    rw [Bool.and_eq_true, decide_eq_true_eq] at z
    have := z.1
    unfold tbT at this
    rwa [List.length_map] at this
  have ok : TOk ms.length n rs Z := ⟨lZ, fun i p e => okZ _ (List.mem_of_getElem? e) p rfl⟩
  refine ⟨ok, ⟨_, of_decide_eq_true h2, PLe.refl _⟩, fun i r er p ep t ht => ?_⟩
  unfold holdB at h3
  have hi := (List.getElem?_eq_some_iff.mp er).1
  have z := List.all_eq_true.mp h3 i (List.mem_range.mpr hi)
  rw [List.getD_eq_getElem?_getD, er, List.getD_eq_getElem?_getD, ep] at z
  have z : (r.2.all (holdT Z (comeP ms n r p))) = true := z
  have z := List.all_eq_true.mp z t ht
  unfold holdT at z
  cases e : Z[t.toNat]? with
  | none =>
    rw [e] at z
    cases z
  | some o =>
    rw [e] at z
    cases o with
    | none => cases z
    | some q =>
      have z : joinP q (comeP ms n r p) = q := of_decide_eq_true z
      refine ⟨q, rfl, ?_⟩
      have := joinP_r (ok.ok _ _ e) (rowP_ok (by omega) (ok.ok _ _ ep) (plcs ms r))
      rw [show rowP (n : Int) p (plcs ms r) = comeP ms n r p from rfl, z] at this
      exact this
end Su
/-! ### ZN3: a loop over zip of three lists -/
namespace Su
open PySem PySem.Spec PyProof.Rows L2
/-- the lists at a, b, d as they stand at each turn, the items in new tuples of three -/
def Itz3 (K : PySem.W.Frag) (a b d : Addr) : It :=
  ⟨fun i H => ∃ (xs ys zs : List V) (x y z : V), SqL K H a xs ∧ SqL K H b ys ∧ SqL K H d zs ∧ xs[i]? = some x ∧ ys[i]? = some y ∧ zs[i]? = some z,
    fun i H v H' => ∃ T x y z, v = .ref T ∧ H T = none ∧ H' = upd H T (.tup [x, y, z]) ∧ (∀ xs, SqL K H a xs → xs[i]? = some x) ∧ (∀ ys, SqL K H b ys → ys[i]? = some y) ∧ ∀ zs, SqL K H d zs → zs[i]? = some z,
    fun i H => ∃ xs ys zs : List V, SqL K H a xs ∧ SqL K H b ys ∧ SqL K H d zs ∧ i ≤ xs.length ∧ i ≤ ys.length ∧ i ≤ zs.length ∧ (i = xs.length ∨ i = ys.length ∨ i = zs.length)⟩
theorem turn_zip3 {P : Program} {w : World} {K : PySem.W.Frag} {elts : List Expr} {kk : Nat} {tpos : Pos} {a b d z TI TO i1 i2 i3 : Addr} (D : ZipSep3 z TI TO i1 i2 i3 [i1, a] [i2, b] [i3, d]) (na : a ≠ i1) (nb : b ≠ i2) (nd : d ≠ i3) :
    Turn P w K (.Tuple elts kk tpos) (Itz3 K a b d) [z, TI, TO, i1, i2, i3] z (fun i h => IsZip h z TI TO .none ∧ IsTupOf3 h TI (.ref i1) (.ref i2) (.ref i3) ∧ (∃ x y u, IsTupOf3 h TO x y u) ∧ h.IsListIter i1 a i ∧ h.IsListIter i2 b i ∧ h.IsListIter i3 d i) where
  mem := by simp
  obj := fun i h st c hc => by
    obtain ⟨hz, hTI, ⟨x, y, u, hTO⟩, ⟨o1, e1, _, d1⟩, ⟨o2, e2, _, d2⟩, ⟨o3, e3, _, d3⟩⟩ := st
    have e' : c = z ∨ c = TI ∨ c = TO ∨ c = i1 ∨ c = i2 ∨ c = i3 := by simpa using hc
    rcases e' with q | q | q | q | q | q
    · rw [q]; exact ⟨_, hz, fun v q => nomatch q⟩
    · rw [q]; exact ⟨_, hTI, fun v q => nomatch q⟩
    · rw [q]; exact ⟨_, hTO, fun v q => nomatch q⟩
    · rw [q]; exact ⟨o1, e1, fun v q => by rw [d1] at q; cases q⟩
    · rw [q]; exact ⟨o2, e2, fun v q => by rw [d2] at q; cases q⟩
    · rw [q]; exact ⟨o3, e3, fun v q => by rw [d3] at q; cases q⟩
  keep := fun i h h' st k => by
    obtain ⟨hz, hTI, ⟨x, y, u, hTO⟩, h1, h2, h3⟩ := st
    exact ⟨k z (by simp) _ hz, k TI (by simp) _ hTI, ⟨x, y, u, k TO (by simp) _ hTO⟩, h1.at fun o q => k i1 (by simp) o q, h2.at fun o q => k i2 (by simp) o q, h3.at fun o q => k i3 (by simp) o q⟩
  item := by
    intro X hP hw hK hc i pins s σ H E I hf st hg
    subst hP hw hK
    obtain ⟨hz, hTI, ⟨x0, y0, u0, hTO⟩, h1, h2, h3⟩ := st
    obtain ⟨xs, ys, zs, x, y, u, hqx, hqy, hqz, hx, hy, hu⟩ := hg
    obtain ⟨its, rv, p, _⟩ := I.list hqx
    obtain ⟨its2, rv2, p2, _⟩ := I.list hqy
    obtain ⟨its3, rv3, p3, _⟩ := I.list hqz
    obtain ⟨v1, hv1, rx⟩ := rv.get hx
    obtain ⟨v2, hv2, ry⟩ := rv2.get hy
    obtain ⟨v3, hv3, ru⟩ := rv3.get hu
    have hh : X.A.in1.handled = none := I.ok.hd hc
    have hzl : z < s.heap.objs.size := Heap.lt_size hz
    have l1 : i < its.toArray.size := by
      have := (List.getElem?_eq_some_iff.mp hv1).1
      simpa using this
    have l2 : i < its2.toArray.size := by
      have := (List.getElem?_eq_some_iff.mp hv2).1
      simpa using this
    have l3 : i < its3.toArray.size := by
      have := (List.getElem?_eq_some_iff.mp hv3).1
      simpa using this
    refine wpAny_pyNext_zipD3_item D (Draws.list hh i1 a na its.toArray) (Draws.list hh i2 b nb its2.toArray) (Draws.list hh i3 d nd its3.toArray) hz hTI hTO ⟨h1, p.isList⟩ ⟨h2, p2.isList⟩ ⟨h3, p3.isList⟩ l1 l2 l3 fun w1 w2 w3 h' tk q1 q2 q3 z' TO' s1' s2' s3' hT hsz hk => ?_
    have e1 : w1 = v1 := by
      have : its[i]? = some w1 := by simpa using q1
      rw [hv1] at this
      exact (Option.some.inj this).symm
    have e2 : w2 = v2 := by
      have : its2[i]? = some w2 := by simpa using q2
      rw [hv2] at this
      exact (Option.some.inj this).symm
    have e3 : w3 = v3 := by
      have : its3[i]? = some w3 := by simpa using q3
      rw [hv3] at this
      exact (Option.some.inj this).symm
    subst e1 e2 e3
    refine ⟨_, rfl, wpAny_letOwnedTupleGo_zip (s := { s with heap := h', toks := tk }) z' fun h'' z'' sb => ?_⟩
    have hT2 : h''.get? s.heap.objs.size = some { cls := .type "tuple", data := .seq #[w1, w2, w3] } := (sb.2 _ (Nat.ne_of_gt hzl)).trans hT
    have new : ObjOk X.prog X.w (upd H s.heap.objs.size (.tup [x, y, u])) h'' s.heap.objs.size (.tup [x, y, u]) :=
      ⟨by show 3 ≤ sizeLine; decide, [w1, w2, w3], .cons rx (.cons ry (.cons ru .nil)), ⟨_, hT2, rfl, _, rfl⟩⟩
    have I1 : Inv X pins σ (upd H s.heap.objs.size (.tup [x, y, u])) { s with heap := h'', toks := tk } :=
      I.turnedNew (t' := tk) (ch := [z, TI, TO, i1, i2, i3]) (fun c o hb q => (sb.2 c (fun q' => hb (by simp [q']))).trans (hk c o (fun q' => hb (by simp [q'])) (fun q' => hb (by simp [q'])) (fun q' => hb (by simp [q'])) (fun q' => hb (by simp [q'])) (fun q' => hb (by simp [q'])) q)) hf (Nat.le_refl _) new
    refine ⟨.ref s.heap.objs.size, _, I1, rfl, ⟨_, x, y, u, rfl, I.hok.fresh (Nat.le_refl _), rfl, fun l hl => by rw [I.list_inj hl hqx]; exact hx, fun l hl => by rw [I.list_inj hl hqy]; exact hy, fun l hl => by rw [I.list_inj hl hqz]; exact hu⟩, ⟨z'', ?_, ⟨w1, w2, w3, ?_⟩, ?_, ?_, ?_⟩, fun c hcm => ?_⟩
    · exact (sb.2 _ D.TIz).trans (hk _ _ D.TIz D.TITO D.TIi1 D.TIi2 D.TIi3 hTI)
    · exact (sb.2 _ D.TOz).trans TO'
    · exact s1'.1.at fun o q => (sb.2 _ D.zi1.symm).trans q
    · exact s2'.1.at fun o q => (sb.2 _ D.zi2.symm).trans q
    · exact s3'.1.at fun o q => (sb.2 _ D.zi3.symm).trans q
    · have hlt : c < s.heap.objs.size := by
        have e' : c = z ∨ c = TI ∨ c = TO ∨ c = i1 ∨ c = i2 ∨ c = i3 := by simpa using hcm
        rcases e' with q | q | q | q | q | q
        · rw [q]; exact hzl
        · rw [q]; exact Heap.lt_size hTI
        · rw [q]; exact Heap.lt_size hTO
        · rw [q]; obtain ⟨_, e1, _⟩ := h1; exact Heap.lt_size e1
        · rw [q]; obtain ⟨_, e2, _⟩ := h2; exact Heap.lt_size e2
        · rw [q]; obtain ⟨_, e3, _⟩ := h3; exact Heap.lt_size e3
      rw [upd_ne (Nat.ne_of_lt hlt)]
      exact (hf c hcm).1
  done := by
    intro X hP hw hK hc i pins s σ H E I hf st hg
    subst hP hw hK
    obtain ⟨hz, hTI, ⟨x0, y0, u0, hTO⟩, h1, h2, h3⟩ := st
    obtain ⟨xs, ys, zs, hqx, hqy, hqz, b1, b2, b3, hend⟩ := hg
    obtain ⟨its, rv, p, _⟩ := I.list hqx
    obtain ⟨its2, rv2, p2, _⟩ := I.list hqy
    obtain ⟨its3, rv3, p3, _⟩ := I.list hqz
    have l1 := rv.length
    have l2 := rv2.length
    have l3 := rv3.length
    have hh : X.A.in1.handled = none := I.ok.hd hc
    refine wpAny_pyNext_zipD3_end D (Draws.list hh i1 a na its.toArray) (Draws.list hh i2 b nb its2.toArray) (Draws.list hh i3 d nd its3.toArray) hz hTI hTO ⟨h1, p.isList⟩ ⟨h2, p2.isList⟩ ⟨h3, p3.isList⟩
      (by simp; omega) (by simp; omega) (by simp; omega) (by simp; omega) fun h' tk hk => ⟨rfl, I.turnedL (t' := tk) (ch := [z, TI, TO, i1, i2, i3]) (fun c o hb q =>
      hk c o (fun q' => hb (by simp [q'])) (fun q' => hb (by simp [q'])) (fun q' => hb (by simp [q'])) (fun q' => hb (by simp [q'])) (fun q' => hb (by simp [q'])) q) hf⟩
  self := fun A i s Q E st h => wpAny_pyIter_zip st.1 h

def iZip3 (K : PySem.W.Frag) (ta : TA) : TI := fun σ H R => ta σ H fun vs H1 => ∃ a b d xs ys zs, vs = [.ref a, .ref b, .ref d] ∧ SqL K H1 a xs ∧ SqL K H1 b ys ∧ SqL K H1 d zs ∧ R (Itz3 K a b d) H1
theorem pi_zip3 {X : Cx} {e e2 e3 : Expr} {ta : TA} {p pos tpos : Pos} {elts : List Expr} {kk : Nat} (hg : Gl X "zip") (hm : X.mg "zip" = none) (ha : PA X [e, e2, e3] ta)
    (hs : starEach [e, e2, e3] X.env = (false, eval e X.env) :: starEach [e2, e3] X.env := by rfl) (hpl : (backTo pos (starEach [e2, e3] X.env)).any (·.1) = false := by rfl) :
    PI X (.Tuple elts kk tpos) (.Call (.Name "zip" p) [e, e2, e3] [] pos) (iZip3 X.K ta) := by
  refine ⟨fun pins s σ H R I h => ?_⟩
  refine Call_ (ld_blt I hg hm PyProof.Rows.boot_zip (PyProof.Rows.callWith_type1 (thn (ha.run pos pins s σ H _ I h) fun us s1 ⟨vs, H1, I1, r1, q1⟩ => ?_) hs hpl))
  obtain ⟨a, b, d, xs, ys, zs, ex, hqx, hqy, hqz, q⟩ := q1
  subst ex
  cases r1 with
  | cons r rr =>
    cases rr with
    | cons r' rr =>
      cases rr with
      | cons r'' rr =>
        cases rr
        cases r
        cases r'
        cases r''
        have fresh6 : ∀ c, c ∈ [s1.heap.objs.size + 5, s1.heap.objs.size + 3, s1.heap.objs.size + 4, s1.heap.objs.size, s1.heap.objs.size + 1, s1.heap.objs.size + 2] → FpOk X pins H1 c := fun c hcm => by
          have e' : c = s1.heap.objs.size + 5 ∨ c = s1.heap.objs.size + 3 ∨ c = s1.heap.objs.size + 4 ∨ c = s1.heap.objs.size ∨ c = s1.heap.objs.size + 1 ∨ c = s1.heap.objs.size + 2 := by simpa using hcm
          have hle : s1.heap.objs.size ≤ c := by
            rcases e' with z | z | z | z | z | z
            · rw [z]; exact Nat.le_add_right _ _
            · rw [z]; exact Nat.le_add_right _ _
            · rw [z]; exact Nat.le_add_right _ _
            · rw [z]; exact Nat.le_refl _
            · rw [z]; exact Nat.le_add_right _ _
            · rw [z]; exact Nat.le_add_right _ _
          exact I1.fpOk hle (I1.hok.fresh hle)
        obtain ⟨its, rv, p1, _⟩ := I1.list hqx
        obtain ⟨its2, rv2, p2, _⟩ := I1.list hqy
        obtain ⟨its3, rv3, p3, _⟩ := I1.list hqz
        refine zip_begins3 (begins_list a its.toArray) (begins_list b its2.toArray) (begins_list d its3.toArray) p1.isList p2.isList p3.isList fun h' hz hTI hTO h1 h2 h3 hsz hk => wpAny_pyIter_zip hz ?_
        have I2 : Inv X pins σ H1 { s1 with heap := h' } := I1.kept (t' := s1.toks) hk
        have la : a < s1.heap.objs.size := p1.lt
        have lb : b < s1.heap.objs.size := p2.lt
        have ld : d < s1.heap.objs.size := p3.lt
        exact ⟨s1.heap.objs.size + 5, [s1.heap.objs.size + 5, s1.heap.objs.size + 3, s1.heap.objs.size + 4, s1.heap.objs.size, s1.heap.objs.size + 1, s1.heap.objs.size + 2], _, _, H1, rfl, I2,
          turn_zip3 (zip_sep3 (N := s1.heap.objs.size) (fp1 := [a]) (fp2 := [b]) (fp3 := [d]) (by simpa using la) (by simpa using lb) (by simpa using ld)) (Nat.ne_of_lt la) (Nat.ne_of_lt (Nat.lt_of_lt_of_le lb (Nat.le_add_right _ _))) (Nat.ne_of_lt (Nat.lt_of_lt_of_le ld (Nat.le_add_right _ _))),
          ⟨hz, hTI, ⟨_, _, _, hTO⟩, ⟨_, h1, rfl, rfl⟩, ⟨_, h2, rfl, rfl⟩, ⟨_, h3, rfl, rfl⟩⟩, fresh6, q⟩

/-- a loop over zip of three lists of one length -/
theorem for_zip3 {K : PySem.W.Frag} {a b d : Addr} {xs ys zs : List V} {g : TG} {tb : TS} {D : Ends} {σ : L2.St} {H : Hp} (hl : xs.length = ys.length) (hl2 : xs.length = zs.length) (Pv : Nat → L2.St → Hp → Prop) (h0 : Pv 0 σ H) (hq : ∀ i σ H, Pv i σ H → SqL K H a xs ∧ SqL K H b ys ∧ SqL K H d zs)
    (hs : ∀ (i : Nat) (x y z : V) (T : Addr) (σ : L2.St) (H : Hp), xs[i]? = some x → ys[i]? = some y → zs[i]? = some z → Pv i σ H → H T = none → g (.ref T) σ (upd H T (.tup [x, y, z])) fun σ2 H2 => tb { D with nx := Pv (i + 1), ct := Pv (i + 1), bk := D.nx } σ2 H2) (hd : ∀ σ H, Pv xs.length σ H → D.nx σ H) :
    ∃ W : Nat → Nat → L2.St → Hp → Prop, (∃ m, W 0 m σ H) ∧ ∀ i m σ H, W i m σ H →
      ((Itz3 K a b d).stop i H ∧ D.nx σ H) ∨ ((Itz3 K a b d).go i H ∧ ∃ N : L2.St → Hp → Prop, (∀ σ' H', N σ' H' → ∃ m', m' < m ∧ W (i + 1) m' σ' H') ∧ ∀ v H', (Itz3 K a b d).yld i H v H' → g v σ H' fun σ2 H2 => tb { D with nx := N, ct := N, bk := D.nx } σ2 H2) := by
  refine ⟨fun i m σ H => m = xs.length - i ∧ i ≤ xs.length ∧ Pv i σ H, ⟨xs.length, rfl, Nat.zero_le _, h0⟩, ?_⟩
  rintro i m σ H ⟨rfl, hi, p⟩
  obtain ⟨qx, qy, qz⟩ := hq i σ H p
  by_cases hlt : i < xs.length
  · have hx : xs[i]? = some xs[i] := List.getElem?_eq_getElem hlt
    have hlt2 : i < ys.length := by omega
    have hy : ys[i]? = some ys[i] := List.getElem?_eq_getElem hlt2
    have hlt3 : i < zs.length := by omega
    have hz : zs[i]? = some zs[i] := List.getElem?_eq_getElem hlt3
    refine .inr ⟨⟨xs, ys, zs, _, _, _, qx, qy, qz, hx, hy, hz⟩, Pv (i + 1), fun σ' H' p' => ⟨xs.length - (i + 1), by omega, rfl, hlt, p'⟩, fun v H' y => ?_⟩
    obtain ⟨T, x', y', z', rfl, hT, rfl, f1, f2, f3⟩ := y
    exact hs i x' y' z' T σ H (f1 xs qx) (f2 ys qy) (f3 zs qz) p hT
  · have e : i = xs.length := by omega
    subst e
    exact .inl ⟨⟨xs, ys, zs, qx, qy, qz, Nat.le_refl _, by omega, by omega, Or.inl rfl⟩, hd σ H p⟩
end Su
/-! ### BF: how slots lie to ages -/
namespace Su
open PySem PySem.Spec PyProof.Rows L2
open LamX hiding takes0
theorem mid {R M : L2.St → Hp → Prop} {G : Prop} (hR : ∀ σ H, M σ H → R σ H) (h : (∀ σ H, M σ H → R σ H) → G) : G := h hR
def spLies : Sp := fun vs H Q _ => ∃ (rm S : Addr) (v : V) (ms sl : List Int) (n : Nat) (pr : Pr), vs = [.ref rm, v, .ref S, .int n] ∧ H rm = some (.lst (ms.map V.int)) ∧ H S = some (.lst (sl.map V.int)) ∧ ms.length ≤ 12 ∧ sl.length = n ∧ n ≤ 8 ∧ PairAt H v pr ∧ POk ms.length n pr ∧ AgeOk ms n pr sl ∧ ∀ H', Same H H' → Q (.bl true) H'
theorem sc_law_lies_so : FnScope ["_law_rooms", "_law_one", "_law_slots", "_law_size", "_law_room", "_law_above", "_law_below", "_law_at"] ["_law_rooms", "_law_one", "_law_slots", "_law_size"] (defScope s_law_lies_so) := ⟨rfl, rfl, rfl, by decide +kernel, rfl, by decide +kernel, by decide +kernel⟩
section
variable {P : Program} {w : World} {K : PySem.W.Frag} {mg : Str → Option Value} {base : Heap}
theorem ok_lies (T : At K mg "_law_lies_so" s_law_lies_so ["_law_rooms", "_law_one", "_law_slots", "_law_size"]) (B : Bt mg) : Cal P w K mg base 1 "_law_lies_so" ["_law_rooms", "_law_one", "_law_slots", "_law_size"] spLies := by
  refine cal_of T sc_law_lies_so (fun vs H Q E h => ?_) (fun f cdv A outer s H vs Q E hr h => ?_)
  · obtain ⟨rm, S, v, ms, sl, n, pr, rfl, _⟩ := h
    rfl
  · obtain ⟨rm, S, v, ms, sl, n, pr, rfl, hrm, hS, lm, lsl, n8, ⟨t, ta, tb, rfl, ht, hta, htb⟩, pok, ag, q⟩ := h
    refine ⟨_, (pss_cons (ps_if (pt_cmpR op_isN (pv 1) pe_non (nomark _)) (pss_one (ps_ret pe_bl)) pss_nil)
      (pss_cons (ps_for PassesOwn.never rfl (pi_zip3 (by rfl) B.zip (pa_cons (pv 0) (pa_cons (pe_ix ix_tup (pv 1) pe_int (fun _ _ => rfl)) (pa_cons (pe_ix ix_tup (pv 1) pe_int (fun _ _ => rfl)) pa_nil)))) (pg_tup (by rfl) (pgs_cons (pg_name (i := 4) sc_law_lies_so.nd rfl (Or.inl rfl)) (pgs_cons (pg_name (i := 5) sc_law_lies_so.nd rfl (Or.inl rfl)) (pgs_cons (pg_name (i := 6) sc_law_lies_so.nd rfl (Or.inl rfl)) pgs_nil)))) (pss_cons (ps_set (i := 7) sc_law_lies_so.nd rfl (Or.inl rfl) (pv 3))
      (pss_cons (ps_if (pt_cmpR op_in_seq (pv 4) (pv 2) (by rfl)) (pss_one (ps_set (i := 7) sc_law_lies_so.nd rfl (Or.inl rfl) (pe_bm PySem.F.plainAttrs_list PySem.F.slot_list_index PySem.F.type_list_index mt_index (pv 2) (pa_cons (pv 4) pa_nil)))) pss_nil)
      (pss_one (ps_if (PW.pt (pw_or (PW.pt (pw_and (pt_cmpR op_gt (pv 7) (pv 5) (nomark _)) (pw_and1 (pt_cmpR op_lt (pv 5) (pv 3) (nomark _))))) (pw_or1 (pt_cmpR op_lt (pv 7) (pv 6) (nomark _))))) (pss_one (ps_ret pe_bl)) pss_nil)))))
      (pss_one (ps_ret pe_bl)))), ?_⟩
    try dsimp only [gName, tSeq, tAsg]
    refine ⟨_, rfl, rfl, _, rfl, iteF ?_⟩
    try dsimp only [tNext, tSeq]
    refine ⟨_, rfl, _, rfl, t, _, _, _, rfl, rfl, ht.sq, atI_nat (j := 0) rfl, _, rfl, t, _, _, _, rfl, rfl, ht.sq, atI_nat (j := 1) rfl, rm, ta, tb, _, _, _, rfl, SqL.of hrm, SqL.of hta, SqL.of htb, ?_⟩
    refine for_zip3 (K := K) (xs := ms.map V.int) (ys := pr.1.map V.int) (zs := pr.2.map V.int) (by rw [List.length_map, List.length_map, pok.la]) (by rw [List.length_map, List.length_map, pok.lb]) (fun i σ H3 => ∃ y4 y5 y6 y7 : Option V, σ = [some (.ref rm), some (.ref t), some (.ref S), some (.int n), y4, y5, y6, y7] ∧ Same H H3) ?_ ?_ ?_ ?_
    · exact ⟨_, _, _, _, rfl, Same.refl H⟩
    · rintro i σ H3 ⟨_, _, _, _, _, s3⟩
      exact ⟨SqL.of (s3 _ _ hrm), SqL.of (s3 _ _ hta), SqL.of (s3 _ _ htb)⟩
    · rintro j x y z T σ H3 hx hy hz ⟨y4, y5, y6, y7, rfl, s3⟩ nT
      rw [List.getElem?_map] at hx hy hz
      obtain ⟨k, ek, rfl⟩ := Option.map_eq_some_iff.mp hx
      obtain ⟨A, eA, rfl⟩ := Option.map_eq_some_iff.mp hy
      obtain ⟨B', eB, rfl⟩ := Option.map_eq_some_iff.mp hz
      have s4 : Same H3 (upd H3 T (.tup [.int k, .int A, .int B'])) := same_upd nT
      have hT : (upd H3 T (.tup [.int k, .int A, .int B'])) T = some (.tup [.int k, .int A, .int B']) := upd_same
      generalize upd H3 T (.tup [.int k, .int A, .int B']) = H4 at s4 hT
      have sH := s3.trans s4
      have hS4 := sH _ _ hS
      have a1 := ag j k ek
      rw [List.getD_eq_getElem?_getD, List.getD_eq_getElem?_getD, eA, eB] at a1
      have a1 : B' ≤ (sl.idxOf k : Nat) ∧ (A < n → ((sl.idxOf k : Nat) : Int) ≤ A) := a1
      refine ⟨T, _, rfl, .inl (.inl hT), rfl, _, _, rfl, _, _, rfl, _, _, rfl, rfl, ?_⟩
      try dsimp only [gName, tSeq, tAsg]
      refine ⟨_, rfl, ?_⟩
      apply mid (M := fun σ H' => σ = [some (.ref rm), some (.ref t), some (.ref S), some (.int n), some (.int k), some (.int A), some (.int B'), some (.int (sl.idxOf k : Nat))] ∧ H' = H4)
      case h =>
        intro rest
        refine ⟨_, rfl, _, rfl, S, _, rfl, .inl (SqL.of hS4), rfl, ?_, ?_⟩
        · rw [List.all_map]
          exact List.all_eq_true.mpr fun x hx => rfl
        refine ⟨_, rfl, ?_⟩
        dsimp only
        rw [show inV (.int k) (sl.map V.int) = decide (k ∈ sl) from inV_ints k sl]
        refine iteB (fun z => ?_) (fun z => ?_)
        · have hx : k ∈ sl := of_decide_eq_true z
          have fl : (sl.map V.int).all flatV = true := by
            rw [List.all_map]
            exact List.all_eq_true.mpr fun x hx => rfl
          obtain ⟨i1, i2, i3⟩ := idx_int hx
          exact ⟨_, rfl, .inl ⟨rfl, _, SqL.of hS4⟩, _, rfl, S, _, _, _, _, rfl, rfl, SqL.of hS4, rfl, fl, i1, i2, i3, rest _ _ ⟨rfl, rfl⟩⟩
        · have hx : k ∉ sl := of_decide_eq_false z
          refine rest _ _ ⟨?_, rfl⟩
          rw [List.idxOf_eq_length hx, lsl]
          rfl
      case hR =>
        rintro _ _ ⟨rfl, rfl⟩
        refine ⟨_, rfl, _, rfl, _, _, rfl, rfl, _, rfl, ?_⟩
        by_cases c1 : A < ((sl.idxOf k : Nat) : Int)
        · rw [decide_eq_true c1]
          refine iteT ⟨_, rfl, _, rfl, _, _, rfl, rfl, _, rfl, ?_⟩
          rw [decide_eq_false (fun z => by have := a1.2 z; omega)]
          refine iteF ?_
          first | (refine iteF ?_; refine ⟨_, rfl, _, rfl, _, _, rfl, rfl, _, rfl, ?_⟩) | refine ⟨_, rfl, _, rfl, _, _, rfl, rfl, _, rfl, ?_⟩
          rw [decide_eq_false (by omega)]
          exact iteF ⟨_, _, _, _, rfl, sH⟩
        · rw [decide_eq_false c1]
          refine iteF ?_
          first | (refine iteF ?_; refine ⟨_, rfl, _, rfl, _, _, rfl, rfl, _, rfl, ?_⟩) | refine ⟨_, rfl, _, rfl, _, _, rfl, rfl, _, rfl, ?_⟩
          rw [decide_eq_false (by omega)]
          exact iteF ⟨_, _, _, _, rfl, sH⟩
    · rintro σ H3 ⟨y4, y5, y6, y7, rfl, s3⟩
      exact q _ s3
end
end Su
/-! ### J0: the law's webs -/
namespace Su
open PySem PySem.Spec PyProof.Rows L2
def spLTos : Sp := fun vs H Q _ => ∃ (p : Addr) (row many : Int), vs = [.ref p, .int row, .int many] ∧ PoolAt H p ∧ 0 ≤ row ∧ 1 ≤ many ∧ many < 1000 ∧
  ∀ (t : Addr) (H' : Hp) (ns : List Int), Kept p H H' → PoolAt H' p → T2 H' t (ns.map V.int) → Ris 0 (many - 1) ns → Q (.ref t) H'
def spLWeb : Sp := fun vs H Q _ => ∃ (p : Addr) (mr mo : Int), vs = [.ref p, .int mr, .int mo] ∧ PoolAt H p ∧ 1 ≤ mr ∧ mr ≤ 80 ∧ 1 ≤ mo ∧ mo ≤ 12 ∧
  ∀ (u : Addr) (H' : Hp) (rs : List Rw), H u = none → Kept p H H' → PoolAt H' p → WebAt H' u rs → WebOk rs → (rs.length : Int) ≤ mr → (∃ S : List Int, (S.length : Int) ≤ mo ∧ ∀ k ∈ allRooms rs, k ∈ S) → Q (.ref u) H'
theorem sc_law_tos : FnScope ["_law_pool_here", "_law_row", "_law_many", "_law_way", "_law_found", "_law_turn"] ["_law_pool_here", "_law_row", "_law_many"] (defScope s_law_tos) := ⟨rfl, rfl, rfl, by decide +kernel, rfl, by decide +kernel, by decide +kernel⟩
theorem sc_law_web : FnScope ["_law_pool_here", "_law_most_rows", "_law_most_rooms", "_law_many", "_law_rooms", "_law_web_here", "_law_row", "_law_asked_for"] ["_law_pool_here", "_law_most_rows", "_law_most_rooms"] (defScope s_law_web) := ⟨rfl, rfl, rfl, by decide +kernel, rfl, by decide +kernel, by decide +kernel⟩
section
variable {P : Program} {w : World} {K : PySem.W.Frag} {mg : Str → Option Value} {base : Heap}
theorem ok_ltos (T : At K mg "_law_tos" s_law_tos ["_law_pool_here", "_law_row", "_law_many"]) (B : Bt mg) (c_take : Cal P w K mg base 1 "_law_take" ["_law_pool_here", "_law_many"] spTake) : Cal P w K mg base 2 "_law_tos" ["_law_pool_here", "_law_row", "_law_many"] spLTos := by
  refine cal_of T sc_law_tos (fun vs H Q E h => ?_) (fun f cdv A outer s H vs Q E hr h => ?_)
  · obtain ⟨p, row, many, rfl, _⟩ := h
    rfl
  · obtain ⟨p, row, many, rfl, hp, r0, m1, m2, q⟩ := h
    refine ⟨_, (pss_cons (ps_set (i := 3) sc_law_tos.nd rfl (Or.inl rfl) (pe_own c_take hr (by decide) (by rfl) (pa_cons (pv 0) (pa_cons pe_int pa_nil))))
      (pss_cons (ps_set (i := 4) sc_law_tos.nd rfl (Or.inl rfl) pe_dnewK)
      (pss_cons (ps_if (PW.pt (pw_and (pt_cmpR op_gt (pv 3) pe_int (nomark _)) (pw_and1 (pt_cmpR op_lt (pe_op op_add (pv 1) pe_int) (pv 2) (nomark _))))) (pss_one (ps_dput (hu_of hr) (pv 4) (pe_op op_add (pv 1) pe_int) pe_bl rfl)) pss_nil)
      (pss_cons (ps_for PassesOwn.never rfl (pi_range1 (by rfl) B.range (pa_cons (pe_ix ix_list (pe_lst (pa_cons pe_int (pa_cons pe_int (pa_cons pe_int (pa_cons pe_int (pa_cons pe_int (pa_cons pe_int (pa_cons pe_int (pa_cons pe_int pa_nil))))))))) (pv 3) (fun _ _ => rfl)) pa_nil)) (pg_name (i := 5) sc_law_tos.nd rfl (Or.inl rfl)) (pss_one (ps_dput (hu_of hr) (pv 4) (pe_own c_take hr (by decide) (by rfl) (pa_cons (pv 0) (pa_cons (pv 2) pa_nil))) pe_bl rfl)))
      (pss_one (ps_ret (pe_callTy call_tupleF (by rfl) B.tuple (by decide +kernel) (pa_cons (pe_callB (cr_sortedDI rfl) (by rfl) B.sorted (by decide +kernel) (pa_cons (pv 4) pa_nil)) pa_nil)))))))), ?_⟩
    refine ⟨_, rfl, p, 8, rfl, hp, by decide, by decide, fun wy o w0 w1 po => ?_⟩
    have hp1 : PoolAt (upd H p o) p := ⟨o, upd_same, po⟩
    have hk1 : Kept p H (upd H p o) := Kept.upd p H o
    refine fun D nD => ?_
    have eDp : D ≠ p := pool_ne hp1 nD
    have nD0 : H D = none := hk1.free eDp nD
    -- the end, from any dict
    have fin : ∀ (H2 : Hp) (kvs : List (Key × V)) (ks : List Int), H2 D = some (.dK kvs) → KeysI kvs ks → ks.Nodup → ks.length ≤ 1 → (∀ k ∈ ks, 0 ≤ k ∧ k < many) → PoolAt H2 p → Kept p H H2 → ∀ y5 : Option V,
        tSeq (tFor (iRng1 (tCons (tOp (rIxL K) (tLst (tCons (tC (.int 0)) (tCons (tC (.int 0)) (tCons (tC (.int 0)) (tCons (tC (.int 1)) (tCons (tC (.int 1)) (tCons (tC (.int 1)) (tCons (tC (.int 2)) (tCons (tC (.int 2)) tNil))))))))) (tVar 3)) tNil)) (gName 5)
          (sDPut (tVar 4) (tCall spTake [] E0 (tCons (tVar 0) (tCons (tVar 2) tNil))) (tC (.bl true)))) (tRet (tCB (rTupL K) (tCons (tCB rSortedDI (tCons (tVar 4) tNil)) tNil))) { nx := fun _ H' => Q .non H', rt := Q } [some (.ref p), some (.int row), some (.int many), some (.int wy), some (.ref D), y5] H2 := by
      intro H2 kvs ks hD hks nd hl hb hp2 k2 y5
      refine ⟨(by show 8 ≤ sizeLine; decide), fun L nL => ?_⟩
      have eLp : L ≠ p := pool_ne hp2 nL
      have eLD : D ≠ L := ne_of_none hD nL
      obtain ⟨v, hv, ev⟩ := cons_nil_fin (xs := [V.int 0, .int 0, .int 0, .int 1, .int 1, .int 1, .int 2, .int 2]) 8 rfl w0 w1
      obtain ⟨n, en, hn⟩ : ∃ n : Nat, v = .int n ∧ n ≤ 2 := by
        simp only [List.mem_cons, List.not_mem_nil, or_false] at hv
        rcases hv with e | e | e | e | e | e | e | e
        all_goals first
          | exact ⟨0, e, by decide⟩
          | exact ⟨1, e, by decide⟩
          | exact ⟨2, e, by decide⟩
      subst en
      refine ⟨_, rfl, L, _, _, _, rfl, rfl, SqL.of upd_same, ev, ?_⟩
      refine ⟨(n : Int), rfl, by omega, by omega, ?_⟩
      rw [show ((n : Int)).toNat = n by omega]
      refine for_range (lo := 0) (n := n) (fun i σ H3 => ∃ (kvs : List (Key × V)) (ks : List Int) (y5 : Option V), σ = [some (.ref p), some (.int row), some (.int many), some (.int wy), some (.ref D), y5] ∧ H3 D = some (.dK kvs) ∧ KeysI kvs ks ∧ ks.Nodup ∧ kvs.length ≤ 1 + i ∧ (∀ k ∈ ks, 0 ≤ k ∧ k < many) ∧ PoolAt H3 p ∧ Kept p H H3) ?_ ?_ ?_
      · exact ⟨kvs, ks, y5, rfl, (by rw [upd_ne eLD]; exact hD), hks, nd, (by rw [hks.len]; exact hl), hb, hp2.upd eLp.symm, k2.trans (Kept.same (same_upd nL))⟩
      · rintro i σ H3 hi ⟨kvs, ks, y5, rfl, hD3, hks3, nd3, hl3, hb3, hp3, k3⟩
        refine ⟨_, rfl, _, rfl, _, rfl, p, many, rfl, hp3, m1, by omega, fun r o2 r0 r1 po2 => ?_⟩
        have hD4 : (upd H3 p o2) D = some (.dK kvs) := by
          rw [upd_ne eDp]
          exact hD3
        obtain ⟨ks', h1, h2, h3⟩ := hks3.put nd3 r (.bl true)
        refine ⟨D, _, rfl, DPut.k (k := Sum.inl r) hD4 (small1000 (by omega)), ?_⟩
        refine ⟨_, ks', _, rfl, upd_same, h1, h2, ?_, fun k hk => ?_, PoolAt.upd ⟨o2, upd_same, po2⟩ eDp.symm, (k3.trans (Kept.upd p H3 o2)).set nD0⟩
        · have := length_putK kvs (Sum.inl r) (.bl true)
          omega
        · rcases (h3 k).mp hk with z | z
          · exact hb3 k z
          · rw [z]
            exact ⟨r0, r1⟩
      · rintro σ H3 ⟨kvs, ks, y5, rfl, hD3, hks3, nd3, hl3, hb3, hp3, k3⟩
        refine ⟨_, rfl, D, kvs, ks, rfl, hD3, hks3, (by rw [← hks3.len]; omega), fun ys u pm so nu => ?_⟩
        refine ⟨u, _, rfl, SqL.of upd_same, fun t H4 s4 nt pt => ?_⟩
        have eup : u ≠ p := pool_ne hp3 nu
        refine q t H4 ys (k3.trans (Kept.same ((same_upd nu).trans s4))) ((hp3.upd eup.symm).same s4) (.inl pt) ⟨pw_lt so (pm.nodup_iff.mpr nd3), fun k hk => (hb3 k (pm.subset hk)).1, fun k hk => ?_⟩
        have := (hb3 k (pm.subset hk)).2
        omega
    have hk2 : Kept p H (upd (upd H p o) D (.dK [])) := hk1.set nD0
    have hp2 : PoolAt (upd (upd H p o) D (.dK [])) p := hp1.upd eDp.symm
    refine ⟨_, rfl, _, _, rfl, rfl, _, rfl, iteB (fun z1 => ?_) (fun z1 => iteF ?_)⟩
    · refine ⟨_, rfl, _, _, rfl, rfl, _, rfl, _, _, rfl, rfl, _, rfl, iteB (fun z2 => ?_) (fun z2 => ?_)⟩
      · have z3 : row + 1 < many := of_decide_eq_true z2
        refine ⟨_, rfl, _, rfl, _, _, rfl, rfl, D, _, rfl, DPut.k (k := Sum.inl (row + 1)) upd_same (small1000 (by decide)), ?_⟩
        refine fin _ [(Sum.inl (row + 1), .bl true)] [row + 1] upd_same rfl (by simp) (Nat.le_refl _) (fun k hk => ?_) (hp2.upd eDp.symm) (hk2.set nD0) none
        rw [List.mem_singleton.mp hk]
        omega
      · exact fin _ [] [] upd_same rfl (by simp) (by decide) (fun k hk => (List.not_mem_nil hk).elim) hp2 hk2 none
    · exact fin _ [] [] upd_same rfl (by simp) (by decide) (fun k hk => (List.not_mem_nil hk).elim) hp2 hk2 none
theorem ok_lweb (T : At K mg "_law_web" s_law_web ["_law_pool_here", "_law_most_rows", "_law_most_rooms"]) (B : Bt mg) (c_take : Cal P w K mg base 1 "_law_take" ["_law_pool_here", "_law_many"] spTake) (c_picked : Cal P w K mg base 2 "_law_picked" ["_law_pool_here", "_law_some", "_law_many"] (spPicked K))
    (c_tos : Cal P w K mg base 2 "_law_tos" ["_law_pool_here", "_law_row", "_law_many"] spLTos) : Cal P w K mg base 3 "_law_web" ["_law_pool_here", "_law_most_rows", "_law_most_rooms"] spLWeb := by
  refine cal_of T sc_law_web (fun vs H Q E h => ?_) (fun f cdv A outer s H vs Q E hr h => ?_)
  · obtain ⟨p, mr, mo, rfl, _⟩ := h
    rfl
  · obtain ⟨p, mr, mo, rfl, hp, r1, r80, o1, o12, q⟩ := h
    refine ⟨_, (pss_cons (ps_set (i := 3) sc_law_web.nd rfl (Or.inl rfl) (pe_op op_add pe_int (pe_own c_take hr (by decide) (by rfl) (pa_cons (pv 0) (pa_cons (pv 1) pa_nil)))))
      (pss_cons (ps_set (i := 4) sc_law_web.nd rfl (Or.inl rfl) (pe_own c_picked hr (by decide) (by rfl) (pa_cons (pv 0) (pa_cons (pe_listRg rfl (by rfl) B.list (prg_1 (by rfl) B.range pe_int)) (pa_cons (pe_op op_add pe_int (pe_own c_take hr (by decide) (by rfl) (pa_cons (pv 0) (pa_cons (pv 2) pa_nil)))) pa_nil)))))
      (pss_cons (ps_set (i := 5) sc_law_web.nd rfl (Or.inl rfl) (pe_lst pa_nil))
      (pss_cons (ps_for PassesOwn.never rfl (pi_range1 (by rfl) B.range (pa_cons (pv 3) pa_nil)) (pg_name (i := 6) sc_law_web.nd rfl (Or.inl rfl)) (pss_cons (ps_set (i := 7) sc_law_web.nd rfl (Or.inl rfl) (pe_own c_picked hr (by decide) (by rfl) (pa_cons (pv 0) (pa_cons (pv 4) (pa_cons (pe_ix ix_list (pe_lst (pa_cons pe_int (pa_cons pe_int (pa_cons pe_int (pa_cons pe_int (pa_cons pe_int (pa_cons pe_int (pa_cons pe_int pa_nil)))))))) (pe_own c_take hr (by decide) (by rfl) (pa_cons (pv 0) (pa_cons pe_int pa_nil))) (fun _ _ => rfl)) pa_nil)))))
      (pss_one (ps_expr (pe_bm PySem.F.plainAttrs_list PySem.F.slot_list_append PySem.F.type_list_append mt_append (pv 5) (pa_cons (pe_tupF (pa_cons (pe_callTy call_tupleF (by rfl) B.tuple (by decide +kernel) (pa_cons (pv 7) pa_nil)) (pa_cons (pe_own c_tos hr (by decide) (by rfl) (pa_cons (pv 0) (pa_cons (pv 6) (pa_cons (pv 3) pa_nil)))) pa_nil))) pa_nil))))))
      (pss_one (ps_ret (pv 5))))))), ?_⟩
    refine ⟨_, rfl, _, rfl, p, mr, rfl, hp, r1, by omega, fun rr o rr0 rr1 po => ?_⟩
    have hp1 : PoolAt (upd H p o) p := ⟨o, upd_same, po⟩
    obtain ⟨n, hn⟩ : ∃ n : Nat, 1 + rr = (n : Int) := ⟨(1 + rr).toNat, by omega⟩
    refine ⟨_, _, rfl, rfl, ?_⟩
    refine ⟨_, rfl, 100, rfl, ⟨by decide, by decide, by decide, by decide, by decide⟩, fun b nb => ?_⟩
    rw [hundred_rg]
    have ebp : b ≠ p := pool_ne hp1 nb
    refine ⟨_, rfl, _, rfl, p, mo, rfl, hp1.upd ebp.symm, o1, by omega, fun ro o2 ro0 ro1 po2 => ?_⟩
    refine ⟨_, _, rfl, rfl, p, b, hundred, _, rfl, ⟨o2, upd_same, po2⟩, SqL.of (by rw [upd_ne ebp, upd_same]), ebp, hundred_nd, (by rw [hundred_len]; decide), (by omega), fun ra H2 ms nra k2 hp2 hra nd hsub hml hle => ?_⟩
    have kk2 : Kept p H H2 := ((Kept.upd p H o).trans ((Kept.same (same_upd nb)).trans (Kept.upd p _ o2))).trans k2
    have erp : ra ≠ p := (free_upd nra).1
    have hml12 : ms.length ≤ 12 := by
      rw [hml]
      omega
    have hr99 : ∀ k ∈ ms, 0 ≤ k ∧ k ≤ 99 := fun k hk => by
      have := hundred_mem (hsub k hk)
      omega
    have hall : ∀ rs : List Rw, (∀ r ∈ rs, RowOk n r ∧ ∀ k ∈ r.1, k ∈ ms) → ∀ k ∈ allRooms rs, k ∈ ms := by
      intro rs hrow k hk
      obtain ⟨l, hl, hk⟩ := List.mem_flatten.mp hk
      obtain ⟨r, hr, rfl⟩ := List.mem_map.mp hl
      exact (hrow r hr).2 k hk
    refine ⟨(by show 0 ≤ sizeLine; decide), fun wa nwa => ?_⟩
    have ewp : wa ≠ p := pool_ne hp2 nwa
    have ewr : ra ≠ wa := ne_of_none hra nwa
    have nwa0 : H wa = none := kk2.free ewp nwa
    refine ⟨_, rfl, _, congrArg (fun z => [V.int z]) hn, by omega, by omega, ?_⟩
    rw [show ((n : Int)).toNat = n by omega]
    refine for_range (lo := 0) (n := n) (fun i σ H3 => ∃ (y6 y7 : Option V) (ws : List V) (rs : List Rw), σ = [some (.ref p), some (.int mr), some (.int mo), some (.int n), some (.ref ra), some (.ref wa), y6, y7] ∧ H3 wa = some (.lst ws) ∧ RowsAt H3 ws rs ∧ rs.length = i ∧ (∀ r ∈ rs, RowOk n r ∧ ∀ k ∈ r.1, k ∈ ms) ∧ H3 ra = some (.lst (ms.map V.int)) ∧ PoolAt H3 p ∧ Kept p H H3) ?_ ?_ ?_
    · refine ⟨none, none, [], [], ?_, upd_same, trivial, rfl, fun r hr => (List.not_mem_nil hr).elim, (by rw [upd_ne ewr]; exact hra), hp2.upd ewp.symm, kk2.set nwa0⟩
      rw [← hn]
      rfl
    · rintro i σ H3 hi ⟨y6, y7, ws, rs, rfl, hwa, hrs, hlen, hrow, hra3, hp3, k3⟩
      have hwl := hrs.len
      refine ⟨_, rfl, _, rfl, (by show 7 ≤ sizeLine; decide), fun L nL => ?_⟩
      have eLp : L ≠ p := pool_ne hp3 nL
      refine ⟨_, rfl, p, 7, rfl, hp3.upd eLp.symm, by decide, by decide, fun r3 o3 r30 r31 po3 => ?_⟩
      obtain ⟨v, hv, ev⟩ := cons_nil_fin (xs := [V.int 1, .int 1, .int 1, .int 1, .int 0, .int 2, .int 3]) 7 rfl r30 r31
      obtain ⟨m, em, hm⟩ : ∃ m : Nat, v = .int m ∧ m ≤ 3 := by
        simp only [List.mem_cons, List.not_mem_nil, or_false] at hv
        rcases hv with e | e | e | e | e | e | e
        all_goals first
          | exact ⟨0, e, by decide⟩
          | exact ⟨1, e, by decide⟩
          | exact ⟨2, e, by decide⟩
          | exact ⟨3, e, by decide⟩
      subst em
      have eLra : ra ≠ L := ne_of_none hra3 nL
      refine ⟨L, _, _, _, rfl, rfl, SqL.of (by rw [upd_ne eLp, upd_same]), ev, ?_⟩
      refine ⟨p, ra, ms, _, rfl, ⟨o3, upd_same, po3⟩, SqL.of (by rw [upd_ne erp, upd_ne eLra]; exact hra3), erp, nd, by omega, by omega, fun q1 H4 m1 nq1 k4 hp4 hq1 nd1 sub1 len1 le1 => ?_⟩
      have kk4 : Kept p H3 H4 := ((Kept.same (same_upd nL)).trans (Kept.upd p _ o3)).trans k4
      have hwa4 : H4 wa = some (.lst ws) := kk4 _ _ hwa ewp
      refine ⟨_, rfl, .inl ⟨rfl, _, SqL.of hwa4⟩, _, rfl, q1, _, rfl, SqL.of hq1, fun u5 H5 s5 nu5 pu5 => ?_⟩
      refine ⟨_, rfl, _, rfl, _, rfl, p, 0 + (i : Int), (n : Int), rfl, hp4.same s5, by omega, by omega, by omega, fun u6 H6 tos k6 hp6 hu6 ris6 => ?_⟩
      refine ⟨(by show 2 ≤ sizeLine; decide), fun t3 H7 s7 nt3 pt3 => ?_⟩
      have kk7 : Kept p H3 H7 := ((kk4.trans (Kept.same s5)).trans k6).trans (Kept.same s7)
      have hwa7 : H7 wa = some (.lst ws) := kk7 _ _ hwa ewp
      refine ⟨wa, _, _, rfl, rfl, hwa7, small1000 (by omega), ?_⟩
      refine ⟨_, _, ws ++ [.ref t3], rs ++ [(m1, tos)], rfl, upd_same, ?_, (by rw [List.length_append, hlen]; rfl), fun r hr => ?_, ?_, ?_, ?_⟩
      · have kz : K2 H7 (upd H7 wa (.lst (ws ++ [.ref t3]))) := K2.lst hwa7
        refine RowsAt.snoc (hrs.keep ((K2.of kk7 hp3).trans kz)) ⟨t3, u5, u6, rfl, kz _ _ (.inl pt3), kz _ _ ((K2.of k6 (hp4.same s5) _ _ (.inl pu5)).same s7), kz _ _ (hu6.same s7)⟩
      · rcases List.mem_append.mp hr with z | z
        · exact hrow r z
        · rw [List.mem_singleton.mp z]
          refine ⟨⟨⟨pw_lt le1 nd1, fun k hk => (hr99 k (sub1 k hk)).1, fun k hk => (hr99 k (sub1 k hk)).2⟩, ?_, ris6⟩, sub1⟩
          show m1.length ≤ 6
          omega
      · rw [upd_ne ewr]
        exact kk7 _ _ hra3 erp
      · exact (hp6.same s7).upd ewp.symm
      · exact (k3.trans kk7).set nwa0
    · rintro σ H3 ⟨y6, y7, ws, rs, rfl, hwa, hrs, hlen, hrow, hra3, hp3, k3⟩
      refine ⟨_, rfl, q wa H3 rs nwa0 k3 hp3 ⟨ws, hwa, hrs⟩ ⟨by omega, by omega, fun r hr => (by rw [hlen]; exact (hrow r hr).1), ms, hml12, hall rs hrow⟩ (by omega) ⟨ms, by rw [hml]; omega, hall rs hrow⟩⟩
end
end Su
/-! ### LRm: the law's rooms -/
namespace Su
open PySem PySem.Spec PyProof.Rows L2
open LamX hiding takes0
def spLRooms : Sp := fun vs H Q _ => ∃ (p : Addr) (rs : List Rw), vs = [.ref p] ∧ WebAt H p rs ∧ WebOk rs ∧
  ∀ (ms : List Int) (u : Addr) (H' : Hp), ms.Pairwise (· < ·) → (∀ k : Int, k ∈ ms ↔ k ∈ allRooms rs) → Same H H' → H u = none → H' u = some (.lst (ms.map V.int)) → Q (.ref u) H'
theorem sc_law_web_rooms : FnScope ["_law_web_here", "_law_found", "_law_rooms", "_law_tos_here", "_law_room"] ["_law_web_here"] (defScope s_law_web_rooms) := ⟨rfl, rfl, rfl, by decide +kernel, rfl, by decide +kernel, by decide +kernel⟩
section
variable {P : Program} {w : World} {K : PySem.W.Frag} {mg : Str → Option Value} {base : Heap}
theorem ok_lrooms (T : At K mg "_law_web_rooms" s_law_web_rooms ["_law_web_here"]) (B : Bt mg) : Cal P w K mg base 1 "_law_web_rooms" ["_law_web_here"] spLRooms := by
  refine cal_of T sc_law_web_rooms (fun vs H Q E h => ?_) (fun f cdv A outer s H vs Q E hr h => ?_)
  · obtain ⟨p, rs, rfl, _⟩ := h
    rfl
  · obtain ⟨p, rs, rfl, ⟨ws, hp, hrs⟩, ok, q⟩ := h
    have hwl := hrs.len
    have h80 := ok.few
    obtain ⟨S, hS, hin⟩ := ok.all
    refine ⟨_, (pss_cons (ps_set (i := 1) sc_law_web_rooms.nd rfl (Or.inl rfl) pe_dnewK)
      (pss_cons (ps_for PassesOwn.never rfl (pi_list (pv 0)) (pg_tup (by rfl) (pgs_cons (pg_name (i := 2) sc_law_web_rooms.nd rfl (Or.inl rfl)) (pgs_cons (pg_name (i := 3) sc_law_web_rooms.nd rfl (Or.inl rfl)) pgs_nil))) (pss_one (ps_for PassesOwn.never rfl (pi_tup (pv 2)) (pg_name (i := 4) sc_law_web_rooms.nd rfl (Or.inl rfl)) (pss_one (ps_dput (hu_of hr) (pv 1) (pv 4) pe_bl rfl)))))
      (pss_one (ps_ret (pe_callB (cr_sortedDI rfl) (by rfl) B.sorted (by decide +kernel) (pa_cons (pv 1) pa_nil)))))), ?_⟩
    refine fun D nD => ?_
    have good : ∀ {kvs : List (Key × V)} {ks : List Int} {l : List Int}, KeysI kvs ks → ks.Nodup → (∀ k, k ∈ ks ↔ k ∈ l) → (∀ k ∈ l, k ∈ S) → kvs.length ≤ 12 := by
      intro kvs ks l h nd mem hl
      rw [h.len]
      exact Nat.le_trans (nodup_few nd fun k hk => hl k ((mem k).mp hk)) hS
    refine ⟨_, rfl, p, rfl, ⟨_, SqL.of (same_upd nD _ _ hp)⟩, ?_⟩
    refine for_list (K := K) (a := p) (xs := ws) (fun j σ H2 => ∃ (y2 y3 y4 : Option V) (kvs : List (Key × V)) (ks : List Int), σ = [some (.ref p), some (.ref D), y2, y3, y4] ∧ H2 D = some (.dK kvs) ∧ KeysI kvs ks ∧ ks.Nodup ∧ (∀ k, k ∈ ks ↔ k ∈ allRooms (rs.take j)) ∧ Same H H2) ?_ ?_ ?_ ?_
    · exact ⟨none, none, none, [], [], rfl, upd_same, rfl, List.nodup_nil, fun k => by simp [allRooms], same_upd nD⟩
    · rintro j σ H2 _ ⟨_, _, _, _, _, _, _, _, _, _, s2⟩
      exact SqL.of (s2 _ _ hp)
    · rintro j x σ H2 hx ⟨y2, y3, y4, kvs, ks, rfl, hD, hks, nd, mem, s2⟩
      obtain ⟨r, er, ra, rb, rc, rfl, ha, hb, hc⟩ := hrs.get hx
      refine ⟨ra, _, rfl, (ha.same s2).sq, rfl, _, _, rfl, _, _, rfl, rfl, ?_⟩
      refine ⟨_, rfl, rb, rfl, ⟨_, (hb.same s2).sq⟩, ?_⟩
      refine for_tup (K := K) (a := rb) (xs := r.1.map V.int) (fun i σ H3 => ∃ (y4 : Option V) (kvs : List (Key × V)) (ks : List Int), σ = [some (.ref p), some (.ref D), some (.ref rb), some (.ref rc), y4] ∧ H3 D = some (.dK kvs) ∧ KeysI kvs ks ∧ ks.Nodup ∧ (∀ k, k ∈ ks ↔ k ∈ allRooms (rs.take j) ++ r.1.take i) ∧ Same H H3) ?_ ?_ ?_ ?_
      · exact ⟨_, kvs, ks, rfl, hD, hks, nd, fun k => by rw [List.take_zero, List.append_nil]; exact mem k, s2⟩
      · rintro i σ H3 _ ⟨_, _, _, _, _, _, _, _, s3⟩
        exact (hb.same s3).sq
      · rintro i y σ H3 hy ⟨y4, kvs, ks, rfl, hD3, hks3, nd3, mem3, s3⟩
        rw [List.getElem?_map] at hy
        obtain ⟨t, et, rfl⟩ := Option.map_eq_some_iff.mp hy
        have sub3 : ∀ k ∈ allRooms (rs.take j) ++ r.1.take i, k ∈ S := by
          intro k hk
          rcases List.mem_append.mp hk with z | z
          · exact hin k (allRooms_sub z)
          · refine hin k (allRooms_sub (i := j + 1) ?_)
            rw [allRooms_take er]
            exact List.mem_append_right _ (List.mem_of_mem_take z)
        have few := good hks3 nd3 mem3 sub3
        obtain ⟨ks', h1, h2, h3⟩ := hks3.put nd3 t (.bl true)
        refine ⟨_, rfl, _, rfl, D, _, rfl, DPut.k (k := Sum.inl t) hD3 (small1000 (by omega)), ?_⟩
        refine ⟨_, _, ks', rfl, upd_same, h1, h2, fun k => ?_, fun c o ec => ?_⟩
        · rw [h3 k, mem3 k, List.take_add_one, et, ← List.append_assoc]
          constructor
          · rintro (z | z)
            · exact List.mem_append_left _ z
            · exact List.mem_append_right _ (List.mem_singleton.mpr z)
          · intro z
            rcases List.mem_append.mp z with y | y
            · exact .inl y
            · exact .inr (List.mem_singleton.mp y)
        · rw [upd_ne (ne_of_none ec nD)]
          exact s3 _ _ ec
      · rintro σ H3 ⟨y4, kvs, ks, rfl, hD3, hks3, nd3, mem3, s3⟩
        refine ⟨_, _, _, kvs, ks, rfl, hD3, hks3, nd3, fun k => ?_, s3⟩
        rw [mem3 k, List.length_map, List.take_length, allRooms_take er]
    · rintro σ H2 ⟨y2, y3, y4, kvs, ks, rfl, hD, hks, nd, mem, s2⟩
      rw [hwl, List.take_length] at mem
      have few := good hks nd mem hin
      refine ⟨_, rfl, D, kvs, ks, rfl, hD, hks, (by rw [← hks.len]; omega), fun ys u pm so nu => ?_⟩
      exact q ys u _ (pw_lt so (pm.nodup_iff.mpr nd)) (fun k => (pm.mem_iff).trans (mem k)) (s2.trans (same_upd nu)) (s2.free nu) upd_same
end
end Su
/-! ### BG: a walk from any slots (after k34 Y5) -/
namespace Su
open PySem PySem.Spec PyProof.Rows L2
open LamX hiding takes0
open Fm
theorem eqv_nilT (ds : List PyData) : PyData.eqv (.tuple ds) (.tuple []) = ds.isEmpty := by
  cases ds with
  | nil => rfl
  | cons x l => rfl
theorem all_flat' (xs : List Int) : (xs.map V.int).all flatV = true := by
  rw [List.all_map]
  exact List.all_eq_true.mpr fun x hx => rfl
theorem cut_take (xs : List Int) (n : Nat) : cutV (xs.map V.int) none (some (n : Int)) = (xs.take n).map V.int := by
  rw [cut_to, List.map_take]
theorem asksL_pos (rc : Rw) : 1 ≤ (asksL rc).length := by
  unfold asksL
  split
  · exact Nat.le_refl _
  · rename_i c
    rw [List.length_map]
    exact List.length_pos_iff.mpr c
theorem asksL_few {rc : Rw} (h : rc.1.length ≤ 6) : (asksL rc).length ≤ 100 := by
  unfold asksL
  split
  · decide
  · rw [List.length_map]
    omega
theorem pair_of {p : Addr} {H : Hp} {v : V} {q : Pr} (h : Tg p H v (cellT (some q))) : PairAt H v q := by
  cases h with
  | @tup t vs ds e tl =>
    cases tl with
    | cons h1 tl =>
      cases tl with
      | cons h2 tl =>
        cases tl
        cases h1 with
        | @lst a va da na ea ta =>
          cases h2 with
          | @lst b vb db nb eb tb =>
            rw [tgl_ints ta] at ea
            rw [tgl_ints tb] at eb
            exact ⟨t, a, b, rfl, e, ea, eb⟩
theorem mid_v {te : TE} {σ : L2.St} {H : Hp} {Q : VK} (M : V → Hp → Prop) (hR : ∀ v H', M v H' → Q v H') (h : ∀ R : VK, (∀ v H', M v H' → R v H') → te σ H R) : te σ H Q := h Q hR
def spWalkSo : Sp := fun vs H Q _ => ∃ (p W : Addr) (v : V) (rs : List Rw) (Z : Tb) (n : Nat), vs = [.ref p, .ref W, v, .int n] ∧ PoolAt H p ∧ W ≠ p ∧ WebAt H W rs ∧ WebOk rs ∧ Tg p H v (.lst (tbT Z)) ∧ Clo (roomsR rs) n rs Z ∧ 1 ≤ n ∧ n ≤ 8 ∧ ∀ H', Kept p H H' → PoolAt H' p → Q (.bl true) H'
theorem sc_law_walk_so : FnScope ["_law_pool_here", "_law_web_here", "_law_table", "_law_size", "_law_rooms", "_law_left", "_law_slots", "_law_row", "_law_step", "_law_asks", "_law_room", "_law_k"] ["_law_pool_here", "_law_web_here", "_law_table", "_law_size"] (defScope s_law_walk_so) := ⟨rfl, rfl, rfl, by decide +kernel, rfl, by decide +kernel, by decide +kernel⟩
section
variable {P : Program} {w : World} {K : PySem.W.Frag} {mg : Str → Option Value} {base : Heap}
theorem ok_walkso (T : At K mg "_law_walk_so" s_law_walk_so ["_law_pool_here", "_law_web_here", "_law_table", "_law_size"]) (B : Bt mg) (c_take : Cal P w K mg base 1 "_law_take" ["_law_pool_here", "_law_many"] spTake) (c_web_rooms : Cal P w K mg base 1 "_law_web_rooms" ["_law_web_here"] spLRooms) (c_lies_so : Cal P w K mg base 1 "_law_lies_so" ["_law_rooms", "_law_one", "_law_slots", "_law_size"] spLies) : Cal P w K mg base 2 "_law_walk_so" ["_law_pool_here", "_law_web_here", "_law_table", "_law_size"] spWalkSo := by
  refine cal_of T sc_law_walk_so (fun vs H Q E h => ?_) (fun f cdv A outer s H vs Q E hr h => ?_)
  · obtain ⟨p, W, v, rs, Z, n, rfl, _⟩ := h
    rfl
  · obtain ⟨p, W, v, rs, Z, n, rfl, hp, nW, hW, ok, hv, cl, n1, n8, q⟩ := h
    refine ⟨_, (pss_cons (ps_set (i := 4) sc_law_walk_so.nd rfl (Or.inl rfl) (pe_own c_web_rooms hr (by decide) (by rfl) (pa_cons (pv 1) pa_nil)))
      (pss_cons (ps_set (i := 5) sc_law_walk_so.nd rfl (Or.inr rfl) (pe_op op_cat (pv 4) (pe_op op_rep (pe_lst (pa_cons (pe_un un_neg pe_int) pa_nil)) (pv 3))))
      (pss_cons (ps_setLc (i := 6) (own := [("_law_k", 11)]) (g := (gName 11)) (tt := tYes) (te := (tBM K "list" rPopAt (tVar 5) (tCons (tCall spTake [] E0 (tCons (tVar 0) (tCons (tCB (rLenK K) (tCons (tVar 5) tNil)) tNil))) tNil))) (by rfl) sc_law_walk_so.nd rfl rfl (sw_true rfl rfl rfl (by decide +kernel)) (pi_range1 (by rfl) B.range (pa_cons (pv 3) pa_nil)) (blkOk_by (own := [("_law_k", 11)]) (N := ["_law_pool_here", "_law_web_here", "_law_table", "_law_size", "_law_rooms", "_law_left", "_law_slots", "_law_row", "_law_step", "_law_asks", "_law_room", "_law_k"]) (sc := defScope s_law_walk_so) (by decide +kernel)) (fun _ _ _ _ _ => (pg_name (i := 11) sc_law_walk_so.nd rfl (Or.inl rfl))) (fun _ _ _ _ _ => pts_nil) (fun _ _ _ _ _ => (pe_bm PySem.F.plainAttrs_list PySem.F.slot_list_pop PySem.F.type_list_pop mt_popAt (pv 5) (pa_cons (pe_own c_take hr (by decide) (by rfl) (pa_cons (pv 0) (pa_cons (pe_callB call_len_seq (by rfl) B.len PySem.boot_len (pa_cons (pv 5) pa_nil)) pa_nil))) pa_nil))))
      (pss_cons (ps_set (i := 7) sc_law_walk_so.nd rfl (Or.inl rfl) pe_int)
      (pss_cons (ps_for PassesOwn.never rfl (pi_range1 (by rfl) B.range (pa_cons pe_int pa_nil)) (pg_name (i := 8) sc_law_walk_so.nd rfl (Or.inl rfl)) (pss_cons (ps_if (pt_not (pt_val (pe_own c_lies_so hr (by decide) (by rfl) (pa_cons (pv 4) (pa_cons (pe_ix ix_list (pv 2) (pv 7) (fun _ _ => rfl)) (pa_cons (pv 6) (pa_cons (pv 3) pa_nil))))))) (pss_one (ps_ret pe_bl)) pss_nil)
      (pss_cons (ps_set (i := 9) sc_law_walk_so.nd rfl (Or.inl rfl) (pe_orT (pe_callTy call_list_of (by rfl) B.list (by decide +kernel) (pa_cons (pe_ix ix_tup (pe_ix ix_list (pv 1) (pv 7) (fun _ _ => rfl)) pe_int (fun _ _ => rfl)) pa_nil)) (pe_one (pe_lst (pa_cons pe_non pa_nil)))))
      (pss_cons (ps_set (i := 10) sc_law_walk_so.nd rfl (Or.inl rfl) (pe_ix ix_list (pv 9) (pe_own c_take hr (by decide) (by rfl) (pa_cons (pv 0) (pa_cons (pe_callB call_len_seq (by rfl) B.len PySem.boot_len (pa_cons (pv 9) pa_nil)) pa_nil))) (fun _ _ => rfl)))
      (pss_cons (ps_if (pt_cmpR op_notN (pv 10) pe_non (nomark _)) (pss_cons (ps_if (pt_cmpR op_in_seq (pv 10) (pv 6) (by rfl)) (pss_one (ps_expr (pe_bm PySem.F.plainAttrs_list PySem.F.slot_list_remove PySem.F.type_list_remove mt_remove (pv 6) (pa_cons (pv 10) pa_nil)))) pss_nil)
      (pss_one (ps_set (i := 6) sc_law_walk_so.nd rfl (Or.inl rfl) (pe_slice sl_list (pe_op op_cat (pe_lst (pa_cons (pv 10) pa_nil)) (pv 6)) po_none (po_some (pv 3)))))) pss_nil)
      (pss_cons (ps_if (pt_cmpR (op_eqD hr.units) (pe_ix ix_tup (pe_ix ix_list (pv 1) (pv 7) (fun _ _ => rfl)) pe_int (fun _ _ => rfl)) (pe_tupF pa_nil) (nomark _)) (pss_one (ps_ret pe_bl)) pss_nil)
      (pss_one (ps_set (i := 7) sc_law_walk_so.nd rfl (Or.inl rfl) (pe_ix ix_tup (pe_ix ix_tup (pe_ix ix_list (pv 1) (pv 7) (fun _ _ => rfl)) pe_int (fun _ _ => rfl)) (pe_own c_take hr (by decide) (by rfl) (pa_cons (pv 0) (pa_cons (pe_callB call_len_seq (by rfl) B.len PySem.boot_len (pa_cons (pe_ix ix_tup (pe_ix ix_list (pv 1) (pv 7) (fun _ _ => rfl)) pe_int (fun _ _ => rfl)) pa_nil)) pa_nil))) (fun _ _ => rfl))))))))))
      (pss_one (ps_ret pe_bl))))))), ?_⟩
    cases hv with
    | @lst T vs ds nT eT tT =>
      have f80 := ok.few
      have pos := ok.pos
      have hWk : ∀ {H' : Hp}, Kept p H H' → WebAt H' W rs := fun k => by
        obtain ⟨ws, e, r⟩ := hW
        exact ⟨ws, k _ _ e nW, r.keep (K2.of k hp)⟩
      have hTk : ∀ {H' : Hp}, Kept p H H' → H' T = some (.lst vs) ∧ TgL p H' vs (tbT Z) := fun k => ⟨k _ _ eT nT, tT.keep (Keeps.of k hp)⟩
      have lZ := cl.tok.len
      have lvs := tT.len
      have ndm : (roomsR rs).Nodup := (rooms_pw rs).imp fun h => Int.ne_of_lt h
      refine ⟨_, rfl, W, rs, rfl, hW, ok, fun ms u H1 pw mem s1 nu hu => ?_⟩
      have ems := rooms_is pw mem
      try dsimp only [gName, tSeq, tAsg]
      refine ⟨_, rfl, 1, rfl, (by show 1 ≤ sizeLine; decide), fun l1 nl1 => ⟨_, rfl, l1, (n : Int), [V.int (-1)], rfl, rfl, upd_same, by omega, by omega, ?_, fun l2 nl2 => ⟨u, l2, ms.map V.int, _, rfl, rfl, ?_, upd_same, ?_, fun L nL => ?_⟩⟩⟩
      · show 1 * (n : Int).toNat ≤ sizeLine
        rw [sizeLine_eq]
        omega
      · rw [upd_ne (ne_of_none ((same_upd nl1) _ _ hu) nl2)]
        exact (same_upd nl1) _ _ hu
      · obtain ⟨S0, hS0, hin⟩ := id ok.all
        have lm : ms.length ≤ 12 := Nat.le_trans (nodup_few (pw.imp fun h => Int.ne_of_lt h) fun k hk => hin k ((mem k).mp hk)) hS0
        rw [List.length_map, Int.toNat_natCast, List.flatten_replicate_singleton, List.length_replicate, sizeLine_eq]
        omega
      have s4 : Same H (upd (upd (upd H1 l1 (.lst [V.int (-1)])) l2 (.lst (List.replicate (n : Int).toNat [V.int (-1)]).flatten)) L (.lst (ms.map V.int ++ (List.replicate (n : Int).toNat [V.int (-1)]).flatten))) := ((s1.trans (same_upd nl1)).trans (same_upd nl2)).trans (same_upd nL)
      have eL : ms.map V.int ++ (List.replicate (n : Int).toNat [V.int (-1)]).flatten = (ms ++ List.replicate n (-1)).map V.int := by
        rw [List.map_append, Int.toNat_natCast, List.map_replicate, List.flatten_replicate_singleton]
      have hL4 : (upd (upd (upd H1 l1 (.lst [V.int (-1)])) l2 (.lst (List.replicate (n : Int).toNat [V.int (-1)]).flatten)) L (.lst (ms.map V.int ++ (List.replicate (n : Int).toNat [V.int (-1)]).flatten))) L = some (.lst ((ms ++ List.replicate n (-1)).map V.int)) := by
        rw [upd_same, eL]
      have hu4 : (upd (upd (upd H1 l1 (.lst [V.int (-1)])) l2 (.lst (List.replicate (n : Int).toNat [V.int (-1)]).flatten)) L (.lst (ms.map V.int ++ (List.replicate (n : Int).toNat [V.int (-1)]).flatten))) u = some (.lst (ms.map V.int)) := (((same_upd nl1).trans (same_upd nl2)).trans (same_upd nL)) _ _ hu
      have nL0 : H L = none := ((s1.trans (same_upd nl1)).trans (same_upd nl2)).free nL
      generalize upd (upd (upd H1 l1 (.lst [V.int (-1)])) l2 (.lst (List.replicate (n : Int).toNat [V.int (-1)]).flatten)) L (.lst (ms.map V.int ++ (List.replicate (n : Int).toNat [V.int (-1)]).flatten)) = H4 at s4 hL4 hu4 ⊢
      have k4 : Kept p H H4 := Kept.same s4
      have hp4 := hp.same s4
      have nLp : L ≠ p := pool_ne hp nL0
      have nup : u ≠ p := pool_ne hp nu
      have nuL : u ≠ L := ne_of_none (((same_upd nl1).trans (same_upd nl2)) _ _ hu) nL
      try dsimp only [gName, tSeq, tAsg]
      refine ⟨_, rfl, (n : Int), rfl, by omega, by omega, fun S nS => ?_⟩
      have nS0 : H S = none := s4.free nS
      rw [Int.toNat_natCast]
      refine lc_range (lo := 0) (n := n) (fun i H2 => ∃ lf acc : List Int, H2 L = some (.lst (lf.map V.int)) ∧ H2 S = some (.lst (acc.map V.int)) ∧ acc.length = i ∧ acc.length + lf.length = ms.length + n ∧ ms.length ≤ 12 ∧ PoolAt H2 p ∧ Kept p H H2 ∧ H2 u = some (.lst (ms.map V.int))) ?_ ?_ ?_
      · obtain ⟨S0, hS0, hin⟩ := id ok.all
        have lm : ms.length ≤ 12 := Nat.le_trans (nodup_few (pw.imp fun h => Int.ne_of_lt h) fun k hk => hin k ((mem k).mp hk)) hS0
        refine ⟨ms ++ List.replicate n (-1), [], (by rw [upd_ne (ne_of_none hL4 nS)]; exact hL4), upd_same, rfl, (by rw [List.length_append, List.length_replicate]; exact Nat.zero_add _), lm, hp4.same (same_upd nS), k4.trans (Kept.same (same_upd nS)), (same_upd nS) _ _ hu4⟩
      · rintro i H2 hi ⟨lf, acc, h1, h2, hlen, hll, lm, hpo, hk, hku⟩
        have eSp : S ≠ p := pool_ne hp4 nS
        have eSL : S ≠ L := (ne_of_none hL4 nS).symm
        refine ⟨rfl, tyes ?_⟩
        refine ⟨_, rfl, .inl ⟨rfl, _, SqL.of h1⟩, _, rfl, _, rfl, L, _, rfl, .inl (SqL.of h1), p, _, rfl, hpo, ?_, ?_, fun r o r0 r1 po => ?_⟩
        · rw [List.length_map]
          omega
        · rw [List.length_map]
          omega
        · rw [List.length_map] at r1
          have hr1 : r.toNat < lf.length := by omega
          refine ⟨L, lf.map V.int, r, r.toNat, V.int lf[r.toNat], rfl, rfl, (by rw [upd_ne nLp]; exact h1), by omega, by omega, seqIx r0 (by rw [List.length_map]; exact r1), (by rw [List.getElem?_map, List.getElem?_eq_getElem hr1]; rfl), ?_⟩
          generalize lf[r.toNat] = y at *
          refine ⟨acc.map V.int, (by rw [upd_ne eSL, upd_ne eSp]; exact h2), ?_, lf.eraseIdx r.toNat, acc ++ [y], ?_, ?_, ?_, ?_, lm, ?_, ?_, ?_⟩
          · rw [List.length_map]
            exact small1000 (by omega)
          · rw [upd_ne eSL.symm, upd_same, erase_map]
          · rw [upd_same, List.map_append]
            rfl
          · rw [List.length_append, hlen]
            rfl
          · rw [List.length_append, List.length_eraseIdx, if_pos hr1, List.length_singleton]
            omega
          · exact PoolAt.upd (PoolAt.upd ⟨o, upd_same, po⟩ nLp.symm) eSp.symm
          · exact ((hk.trans (Kept.upd p H2 o)).set nL0).set nS0
          · rw [upd_ne (ne_of_none hu4 nS), upd_ne nuL, upd_ne nup]
            exact hku
      rintro H5 ⟨lf, acc, h1, h2, hlen, hll, lm, hp5, k5, hu5⟩
      clear h1 hll
      subst ems
      have nuS0 : u ≠ S := ne_of_none hu4 nS
      try dsimp only [gName, tSeq, tAsg]
      refine ⟨30, rfl, by decide, by decide, ?_⟩
      refine for_range (lo := 0) (n := 30) (fun i σ H3 => ∃ (cur : Nat) (rc : Rw) (S : Addr) (sl : List Int) (y8 y9 y10 y11 : Option V), σ = [some (.ref p), some (.ref W), some (.ref T), some (.int n), some (.ref u), some (.ref L), some (.ref S), some (.int cur), y8, y9, y10, y11] ∧ rs[cur]? = some rc ∧ Kept p H H3 ∧ PoolAt H3 p ∧ H S = none ∧ u ≠ S ∧ H3 S = some (.lst (sl.map V.int)) ∧ sl.length = n ∧ H3 u = some (.lst ((roomsR rs).map V.int)) ∧ ∃ pr, Z[cur]? = some (some pr) ∧ AgeOk (roomsR rs) n pr sl) ?_ ?_ ?_
      · obtain ⟨r0, er0⟩ : ∃ r0, rs[0]? = some r0 := ⟨_, List.getElem?_eq_getElem (by omega)⟩
        exact ⟨0, r0, S, acc, _, _, _, _, rfl, er0, k5, hp5, nS0, nuS0, h2, hlen, hu5, age_start cl hlen⟩
      · clear h2 hlen k5 hp5 nS0 nS acc lf hu5
        rintro i σ H3 hi ⟨cur, rc, S, sl, y8, y9, y10, y11, rfl, erc, k3, hp3, nS, nuS, hS, lsl, hu3, pr, epr, hag⟩
        have nSp : S ≠ p := pool_ne hp nS
        have webAt : ∀ {H' : Hp}, Kept p H H' → ∃ (ws : List V) (ra rb rd : Addr), H' W = some (.lst ws) ∧ ws[cur]? = some (.ref ra) ∧ T2 H' ra [.ref rb, .ref rd] ∧ T2 H' rb (rc.1.map V.int) ∧ T2 H' rd (rc.2.map V.int) := fun k => by
          obtain ⟨ws, hws, hrs⟩ := hWk k
          have lws := hrs.len
          have ltc := (List.getElem?_eq_some_iff.mp erc).1
          have ew : ws[cur]? = some (ws[cur]'(by omega)) := List.getElem?_eq_getElem (by omega)
          obtain ⟨r', er', ra, rb, rd, ewr, hra, hrb, hrd⟩ := hrs.get ew
          rw [erc] at er'
          cases er'
          rw [ewr] at ew
          exact ⟨ws, ra, rb, rd, hws, ew, hra, hrb, hrd⟩
        have ltc := (List.getElem?_eq_some_iff.mp erc).1
        have rok := ok.row rc (List.mem_of_getElem? erc)
        have la1 := asksL_pos rc
        have la2 := asksL_few rok.few
        obtain ⟨ws, ra, rb, rd, hws, ew, hra, hrb, hrd⟩ := webAt k3
        have lcur : cur < vs.length := by
          have := (List.getElem?_eq_some_iff.mp epr).1
          unfold tbT at lvs
          rw [List.length_map] at lvs
          omega
        obtain ⟨vc, evc⟩ : ∃ vc, vs[cur]? = some vc := ⟨_, List.getElem?_eq_getElem lcur⟩
        obtain ⟨eT3, tT3⟩ := hTk k3
        have pat : PairAt H3 vc pr := by
          obtain ⟨g, eg, tg⟩ := tT3.get evc
          unfold tbT at eg
          rw [List.getElem?_map, epr] at eg
          injection eg with eg
          subst eg
          exact pair_of tg
        try dsimp only [gName, tSeq, tAsg]
        refine ⟨_, rfl, _, rfl, _, rfl, T, _, _, vc, rfl, rfl, SqL.of eT3, atI_nat evc, _, rfl, _, rfl, u, S, vc, roomsR rs, sl, n, pr, rfl, hu3, hS, lm, lsl, n8, pat, cl.tok.ok cur pr epr, hag, fun H3b s3b => ?_⟩
        refine ⟨_, rfl, iteF ?_⟩
        replace k3 := k3.trans (Kept.same (p := p) s3b)
        replace hp3 := hp3.same s3b
        replace hS := s3b _ _ hS
        replace hu3 := s3b _ _ hu3
        replace hws := s3b _ _ hws
        replace hra := T2.same hra s3b
        replace hrb := T2.same hrb s3b
        replace hrd := T2.same hrd s3b
        clear pat eT3 tT3
        try dsimp only [tNext, gName, tSeq, tAsg]
        refine mid_v (fun v H' => ∃ aa, v = .ref aa ∧ Same H3b H' ∧ H' aa = some (.lst ((asksL rc).map aV)) ∧ H3b aa = none) ?_ ?_
        rotate_left
        · intro R2 hR2
          refine ⟨_, rfl, _, rfl, W, _, cur, .ref ra, rfl, rfl, SqL.of hws, atI_nat ew, ra, _, 0, .ref rb, rfl, rfl, hra.sq, rfl, rb, _, rfl, .inr hrb.sq, fun l nl => ?_⟩
          have sl : Same H3b (upd H3b l (.lst (rc.1.map V.int))) := same_upd nl
          have hl2 : (upd H3b l (.lst (rc.1.map V.int))) l = some (.lst (rc.1.map V.int)) := upd_same
          refine ⟨_, .inl ⟨_, SqL.of hl2, rfl⟩, ?_⟩
          by_cases c : rc.1 = []
          · rw [c] at sl ⊢
            refine iteF ⟨(by show 1 ≤ sizeLine; decide), fun l2 nl2 => hR2 _ _ ⟨l2, rfl, sl.trans (same_upd nl2), ?_, sl.free nl2⟩⟩
            unfold asksL
            rw [if_pos c]
            exact upd_same
          · have e1 : (!(rc.1.map V.int).isEmpty) = true := by
              cases h : rc.1 with
              | nil => exact absurd h c
              | cons a l => rfl
            rw [e1]
            refine iteT (hR2 _ _ ⟨l, rfl, sl, ?_, nl⟩)
            unfold asksL
            rw [if_neg c, List.map_map]
            exact hl2
        rintro v H4 ⟨aa, rfl, s4, haa, naa⟩
        have hu4 := s4 _ _ hu3
        have k4 := k3.trans (Kept.same (p := p) s4)
        have hp4 := hp3.same s4
        have nap : aa ≠ p := pool_ne hp3 naa
        have hS4 := s4 _ _ hS
        clear k3 hp3 hS s4 hu3 hws ew hra hrb hrd naa
        try dsimp only [gName, tSeq, tAsg]
        refine ⟨_, rfl, _, rfl, _, rfl, aa, _, rfl, .inl (SqL.of haa), p, ((asksL rc).length : Int), by rw [List.length_map]; rfl, hp4, by omega, by omega, fun r1 ob1 r10 r11 po1 => ?_⟩
        have k6 := k4.trans (Kept.upd p H4 ob1)
        have hp6 : PoolAt (upd H4 p ob1) p := ⟨ob1, upd_same, po1⟩
        have haa6 : (upd H4 p ob1) aa = some (.lst ((asksL rc).map aV)) := by rw [upd_ne nap]; exact haa
        have hS6 : (upd H4 p ob1) S = some (.lst (sl.map V.int)) := by rw [upd_ne nSp]; exact hS4
        have hu6 : (upd H4 p ob1) u = some (.lst ((roomsR rs).map V.int)) := by rw [upd_ne nup]; exact hu4
        generalize upd H4 p ob1 = H6 at k6 hp6 haa6 hS6 hu6 ⊢
        clear k4 hp4 hS4 haa hu4
        obtain ⟨j1, rfl⟩ : ∃ j1 : Nat, r1 = (j1 : Int) := ⟨r1.toNat, by omega⟩
        obtain ⟨o, eo⟩ : ∃ o, (asksL rc)[j1]? = some o := ⟨_, List.getElem?_eq_getElem (by omega)⟩
        have hoL := List.mem_of_getElem? eo
        have ho := asks_mem hoL
        refine ⟨aa, _, _, aV o, rfl, rfl, SqL.of haa6, atI_nat (by rw [List.getElem?_map, eo]; rfl), ?_⟩
        try dsimp only [gName, tSeq, tAsg]
        apply mid (M := fun σ H' => ∃ (S' : Addr) (sl' : List Int), σ = [some (.ref p), some (.ref W), some (.ref T), some (.int n), some (.ref u), some (.ref L), some (.ref S'), some (.int cur), some (.int (0 + (i : Int))), some (.ref aa), some (aV o), y11] ∧ H' u = some (.lst ((roomsR rs).map V.int)) ∧ Kept p H H' ∧ PoolAt H' p ∧ H S' = none ∧ u ≠ S' ∧ H' S' = some (.lst (sl'.map V.int)) ∧ sl'.length = n ∧ sl' = aftS sl o)
        case h =>
          intro rest
          cases o with
          | none => exact ⟨_, rfl, rfl, _, rfl, iteF (rest _ _ ⟨S, sl, rfl, hu6, k6, hp6, nS, nuS, hS6, lsl, rfl⟩)⟩
          | some x =>
            refine ⟨_, rfl, rfl, _, rfl, iteT ?_⟩
            try dsimp only [gName, tSeq, tAsg]
            apply mid (M := fun σ H' => ∃ ys : List Int, σ = [some (.ref p), some (.ref W), some (.ref T), some (.int n), some (.ref u), some (.ref L), some (.ref S), some (.int cur), some (.int (0 + (i : Int))), some (.ref aa), some (.int x), y11] ∧ H' u = some (.lst ((roomsR rs).map V.int)) ∧ Kept p H H' ∧ PoolAt H' p ∧ H' S = some (.lst (ys.map V.int)) ∧ ys = if x ∈ sl then sl.erase x else sl)
            case h =>
              intro rest2
              refine ⟨_, rfl, _, rfl, S, _, rfl, .inl (SqL.of hS6), rfl, all_flat' sl, ?_⟩
              refine ⟨_, rfl, ?_⟩
              dsimp only
              rw [show inV (aV (some x)) (sl.map V.int) = decide (x ∈ sl) from inV_ints x sl]
              refine iteB (fun z => ?_) (fun z => ?_)
              · have hx : x ∈ sl := of_decide_eq_true z
                have lt := List.idxOf_lt_length_of_mem hx
                refine ⟨_, rfl, .inl ⟨rfl, _, SqL.of hS6⟩, _, rfl, S, sl, x, sl.idxOf x, rfl, rfl, hS6, ?_, fun m hm z => ?_, ?_⟩
                · rw [List.getElem?_eq_getElem lt, List.getElem_idxOf lt]
                · obtain ⟨h1, h2⟩ := List.getElem?_eq_some_iff.mp z
                  have := List.not_of_lt_findIdx (p := fun y => y == x) (xs := sl) (i := m) hm
                  rw [h2] at this
                  simp at this
                · refine rest2 _ _ ⟨_, rfl, by rw [upd_ne nuS]; exact hu6, k6.set nS, hp6.upd nSp.symm, upd_same, ?_⟩
                  rw [if_pos hx, List.erase_eq_eraseIdx_of_idxOf rfl]
              · have hx : x ∉ sl := of_decide_eq_false z
                exact rest2 _ _ ⟨sl, rfl, hu6, k6, hp6, hS6, by rw [if_neg hx]⟩
            case hR =>
              rintro _ H8 ⟨ys, rfl, hu8, k8, hp8, hS8, ey⟩
              try dsimp only [gName, tSeq, tAsg]
              have ly : ys.length ≤ n := by
                rw [ey]
                split
                · have := List.length_erase_le (a := x) (l := sl)
                  omega
                · omega
              refine ⟨_, rfl, (by show 1 ≤ sizeLine; decide), fun l1 nl1 => ⟨_, rfl, l1, S, [V.int x], ys.map V.int, rfl, rfl, upd_same, by rw [upd_ne (ne_of_none hS8 nl1)]; exact hS8, ?_, fun l2 nl2 => ?_⟩⟩
              · rw [List.length_map, sizeLine_eq]
                show 1 + _ ≤ _
                omega
              have e2 : ([V.int x] ++ ys.map V.int) = (x :: ys).map V.int := rfl
              have k9 : Kept p H (upd (upd H8 l1 (.lst [V.int x])) l2 (.lst ([V.int x] ++ ys.map V.int))) := k8.trans (Kept.same ((same_upd nl1).trans (same_upd nl2)))
              have hp9 := hp8.same ((same_upd (o := .lst [V.int x]) nl1).trans (same_upd (o := .lst ([V.int x] ++ ys.map V.int)) nl2))
              have hl9 : (upd (upd H8 l1 (.lst [V.int x])) l2 (.lst ([V.int x] ++ ys.map V.int))) l2 = some (.lst ((x :: ys).map V.int)) := upd_same
              have hu9 : (upd (upd H8 l1 (.lst [V.int x])) l2 (.lst ([V.int x] ++ ys.map V.int))) u = some (.lst ((roomsR rs).map V.int)) := ((same_upd nl1).trans (same_upd nl2)) _ _ hu8
              generalize upd (upd H8 l1 (.lst [V.int x])) l2 (.lst ([V.int x] ++ ys.map V.int)) = H9 at k9 hp9 hl9 hu9 ⊢
              refine ⟨_, rfl, (n : Int), rfl, l2, _, rfl, SqL.of hl9, fun S2 nS2 => ?_⟩
              have ep : (x :: ys).take n = putL sl x := by
                rw [ey]
                exact put_law lsl n1
              rw [cut_take, ep]
              exact rest _ _ ⟨S2, putL sl x, rfl, (same_upd nS2) _ _ hu9, k9.trans (Kept.same (same_upd nS2)), hp9.same (same_upd nS2), k9.free (pool_ne hp9 nS2) nS2, ne_of_none hu9 nS2, upd_same, by rw [putL_len (by omega), lsl], rfl⟩
        case hR =>
          rintro _ H7 ⟨S', sl', rfl, hu7, k7, hp7, nS', nuS', hS7, lsl', esl⟩
          have jj' : ∀ t : Nat, (t : Int) ∈ rc.2 → ∃ q, Z[t]? = some (some q) ∧ AgeOk (roomsR rs) n q sl' := fun t ht => by
            rw [esl]
            exact age_step cl ndm n1 erc (fun x hx => rooms_mem.mpr (List.mem_flatten.mpr ⟨rc.1, List.mem_map.mpr ⟨rc, List.mem_of_getElem? erc, rfl⟩, hx⟩)) epr lsl hag hoL ht
          obtain ⟨ws, ra, rb, rd, hws, ew, hra, hrb, hrd⟩ := webAt k7
          have f1 : Fine (.tuple (rc.2.map PyData.int)) 1 (41 * rc.2.length) := Fine.tuple (FineL.ints rc.2 fun z hz => by
            have := rok.tos.lo z hz
            have := rok.tos.hi z hz
            omega)
          have f0 : Fine (.tuple []) 1 0 := Fine.tuple FineL.nil
          try dsimp only [gName, tSeq, tAsg]
          refine ⟨_, rfl, _, rfl, W, _, cur, .ref ra, rfl, rfl, SqL.of hws, atI_nat ew, ra, _, 1, .ref rd, rfl, rfl, hra.sq, rfl, (by show 0 ≤ sizeLine; decide), fun e H9 s9 ne pe => ?_⟩
          refine ⟨_, _, .tup (T2.same hrd s9).sq (dp_intsS _), .tup pe.sq .nil, f1.shaped (by decide), f0.shaped (by decide), _, rfl, ?_⟩
          rw [eqv_nilT]
          have k9 := k7.trans (Kept.same (p := p) s9)
          have hp9 := hp7.same s9
          refine iteB (fun z => ?_) (fun z => ?_)
          · exact q _ k9 hp9
          have nz : 1 ≤ rc.2.length := by
            cases h : rc.2 with
            | nil => rw [h] at z; cases z
            | cons b l => rw [List.length_cons]; omega
          have lz : rc.2.length ≤ 100 := by
            have := ris_len rok.tos
            omega
          obtain ⟨ws9, ra9, rb9, rd9, hws9, ew9, hra9, hrb9, hrd9⟩ := webAt k9
          try dsimp only [tNext, gName, tSeq, tAsg]
          refine ⟨_, rfl, _, rfl, W, _, cur, .ref ra9, rfl, rfl, SqL.of hws9, atI_nat ew9, ra9, _, 1, .ref rd9, rfl, rfl, hra9.sq, rfl, _, rfl, _, rfl, _, rfl, W, _, cur, .ref ra9, rfl, rfl, SqL.of hws9, atI_nat ew9, ra9, _, 1, .ref rd9, rfl, rfl, hra9.sq, rfl, rd9, _, rfl, .inr hrd9.sq, p, (rc.2.length : Int), by rw [List.length_map]; rfl, hp9, by omega, by omega, fun r2 ob2 r20 r21 po2 => ?_⟩
          obtain ⟨j2, rfl⟩ : ∃ j2 : Nat, r2 = (j2 : Int) := ⟨r2.toNat, by omega⟩
          obtain ⟨to, eto⟩ : ∃ to, rc.2[j2]? = some to := ⟨_, List.getElem?_eq_getElem (by omega)⟩
          have to0 := rok.tos.lo to (List.mem_of_getElem? eto)
          have to1 := rok.tos.hi to (List.mem_of_getElem? eto)
          obtain ⟨tn, rfl⟩ : ∃ tn : Nat, to = (tn : Int) := ⟨to.toNat, by omega⟩
          obtain ⟨rn, ern⟩ : ∃ rn, rs[tn]? = some rn := ⟨_, List.getElem?_eq_getElem (by omega)⟩
          have hrd10 : T2 (upd H9 p ob2) rd9 (rc.2.map V.int) := (K2.of (Kept.upd p H9 ob2) hp9) _ _ hrd9
          have nSp' : S' ≠ p := pool_ne hp nS'
          refine ⟨rd9, _, _, .int tn, rfl, rfl, hrd10.sq, atI_nat (by rw [List.getElem?_map, eto]; rfl), ?_⟩
          exact ⟨tn, rn, S', sl', _, _, _, _, rfl, ern, k9.trans (Kept.upd p H9 ob2), ⟨ob2, upd_same, po2⟩, nS', nuS', by rw [upd_ne nSp']; exact s9 _ _ hS7, lsl', by rw [upd_ne nup]; exact s9 _ _ hu7, jj' tn (List.mem_of_getElem? eto)⟩
      · rintro σ H3 ⟨cur, rc, S, sl, y8, y9, y10, y11, rfl, erc, k3, hp3, _⟩
        exact q H3 k3 hp3
end
end Su
/-! ### LA: an ask that is one -/
namespace Su
open PySem PySem.Spec PyProof.Rows L2
def spAskV : Sp := fun vs H Q _ => ∃ (a : Addr) (rs : List Rw) (row : Nat) (k : Int) (r : Rw), vs = [.ref a, .int row, .int k] ∧ WebAt H a rs ∧ WebOk rs ∧ rs[row]? = some r ∧ k ∈ r.1 ∧ Q .non H
def spRowNo : Sp := fun vs H Q _ => ∃ (p : Addr) (ws : List V) (r : Int), vs = [.int r, .ref p] ∧ H p = some (.lst ws) ∧ 0 ≤ r ∧ r < ws.length ∧ Q (.bl true) H
theorem sc_is_row_number : FnScope ["thing", "web"] ["thing", "web"] (defScope s_is_row_number) := ⟨rfl, rfl, rfl, by decide +kernel, rfl, by decide +kernel, by decide +kernel⟩
theorem sc_look_at_ask : FnScope ["web", "row", "room"] ["web", "row", "room"] (defScope s_look_at_ask) := ⟨rfl, rfl, rfl, by decide +kernel, rfl, by decide +kernel, by decide +kernel⟩
section
variable {P : Program} {w : World} {K : PySem.W.Frag} {mg : Str → Option Value} {base : Heap}
theorem ok_row_no (T : At K mg "is_row_number" s_is_row_number ["thing", "web"]) (B : Bt mg) (c_is_whole : Cal P w K mg base 1 "is_whole" ["thing"] spWholeI) : Cal P w K mg base 2 "is_row_number" ["thing", "web"] spRowNo := by
  refine cal_of T sc_is_row_number (fun vs H Q E h => ?_) (fun f cdv A outer s H vs Q E hr h => ?_)
  · obtain ⟨p, ws, r, rfl, _⟩ := h
    rfl
  · obtain ⟨p, ws, r, rfl, hp, r0, r1, q⟩ := h
    refine ⟨_, (pss_one (ps_ret (pe_and (pe_own c_is_whole hr (by decide) (by rfl) (pa_cons (pv 0) pa_nil)) (pe_one (pe_chain op_le op_lt pe_int (pv 0) (pe_callB call_len_seq (by rfl) B.len PySem.boot_len (pa_cons (pv 1) pa_nil))))))), ?_⟩
    refine ⟨_, rfl, r, rfl, _, rfl, iteT ?_⟩
    refine ⟨_, rfl, _, _, rfl, rfl, _, rfl, iteB (fun _ => ?_) (fun z => absurd (of_decide_eq_false z) (by omega))⟩
    refine ⟨_, rfl, p, _, rfl, .inl (SqL.of hp), _, _, rfl, rfl, ?_⟩
    have z : (V.bl (decide (r < (ws.length : Int)))) = .bl true := congrArg V.bl (decide_eq_true r1)
    exact (congrArg (fun v => Q v H) z).mpr q
theorem ok_look_askV (T : At K mg "look_at_ask" s_look_at_ask ["web", "row", "room"]) (c_is_row_number : Cal P w K mg base 2 "is_row_number" ["thing", "web"] spRowNo) (c_is_room : Cal P w K mg base 2 "is_room" ["thing"] spRoomI) : Cal P w K mg base 3 "look_at_ask" ["web", "row", "room"] spAskV := by
  refine cal_of T sc_look_at_ask (fun vs H Q E h => ?_) (fun f cdv A outer s H vs Q E hr h => ?_)
  · obtain ⟨a, rs, row, k, r, rfl, _⟩ := h
    rfl
  · obtain ⟨a, rs, row, k, r, rfl, hW, ok, er, hk, q⟩ := h
    refine ⟨_, (pss_one (ps_if (PW.pt (pw_or (pt_not (pt_val (pe_own c_is_row_number hr (by decide) (by rfl) (pa_cons (pv 1) (pa_cons (pv 0) pa_nil))))) (pw_or (pt_not (pt_val (pe_own c_is_room hr (by decide) (by rfl) (pa_cons (pv 2) pa_nil)))) (pw_or1 (pt_cmpR op_notIn_seq (pv 2) (pe_ix (show IxR _ (rIxT K) from ix_tup) (pe_ix ix_list (pv 0) (pv 1) (fun _ _ => rfl)) pe_int (fun _ _ => rfl)) (by rfl)))))) (pss_one ps_never) pss_nil)), ?_⟩
    obtain ⟨ws, ha, hrs⟩ := id hW
    have hwl := hrs.len
    have hrow := (List.getElem?_eq_some_iff.mp er).1
    have rr := (ok.row r (List.mem_of_getElem? er)).rooms
    refine ⟨_, rfl, _, rfl, a, ws, _, rfl, ha, by omega, by omega, _, rfl, iteF ?_⟩
    refine ⟨_, rfl, k, rfl, rr.lo k hk, rr.hi k hk, _, rfl, iteF ?_⟩
    have hx : ws[row]? = some ws[row] := List.getElem?_eq_getElem (by omega)
    generalize ws[row] = vx at hx
    obtain ⟨r2, er2, xb, tc, td, rfl, b1, b2, b3⟩ := hrs.get hx
    rw [er] at er2
    cases er2
    refine ⟨_, rfl, _, rfl, _, rfl, a, ws, _, _, rfl, rfl, SqL.of ha, atI_nat hx, xb, _, _, _, rfl, rfl, b1.sq, atI_nat (j := 0) rfl, tc, _, rfl, .inr b2.sq, rfl, all_flat _, _, rfl, ?_⟩
    rw [show (if true = true then !inV (V.int k) (r.1.map V.int) else inV (V.int k) (r.1.map V.int)) = !decide (k ∈ r.1) from congrArg (! ·) (inV_ints k r.1)]
    refine iteB (fun z => ?_) (fun z => q)
    rw [decide_eq_true hk] at z
    cases z
end
end Su
/-! ### N2: numbers -/
namespace Su
open PySem PySem.Spec PyProof.Rows L2
open LamX hiding takes0
open Fm
theorem SetsAt.at_ {H : Hp} : ∀ {vs : List V} {kss : List (List Int)}, SetsAt H vs kss → ∀ {i : Nat} {ks : List Int}, kss[i]? = some ks → ∃ a, vs[i]? = some (.ref a) ∧ T2 H a (ks.map V.int)
  | _, _, .nil, i, v, e => by simp at e
  | _, _, .cons h t, 0, v, e => by cases e; exact ⟨_, rfl, h⟩
  | _, _, .cons h t, i + 1, v, e => by
    obtain ⟨a, h1, h2⟩ := SetsAt.at_ t (i := i) (by simpa using e)
    exact ⟨a, by simpa using h1, h2⟩
theorem atI_end {α : Type} {xs : List α} {x : α} (h : xs[xs.length - 1]? = some x) : atI xs (-1) = some x := by
  have ne : xs ≠ [] := fun z => by
    rw [z] at h
    cases h
  have e : xs = xs.dropLast ++ [x] := by
    have z := List.dropLast_concat_getLast ne
    rw [List.getLast_eq_getElem] at z
    have y := (List.getElem?_eq_some_iff.mp h).2
    rw [y] at z
    exact z.symm
  rw [e]
  exact L2.atI_last _ _
/-- what numbers tells, as a value -/
def NumAt (H : Hp) (v : V) : Option (Nat × Option Nat) → Prop
  | none => v = .non
  | some (a, ob) => ∃ t, v = .ref t ∧ T2 H t [.int (a : Nat), match ob with | none => .non | some b => .int (b : Nat)]
def spNumOf (T : List (Addr × Str)) : Sp := fun vs H Q _ => ∃ (W : Addr) (rs : List Rw) (row : Nat) (k : Int) (r : Rw) (cs : List CE), vs = [.ref W, .int row, .int k] ∧ WebAt H W rs ∧ WebOk rs ∧ rs[row]? = some r ∧ k ∈ r.1 ∧ Tabs T H ∧ Came (famSys rs k) cs ∧
  ∀ (v : V) (H' : Hp) (o : Option (Nat × Option Nat)), ExtN H H' → Tabs T H' → NumR cs row o → NumAt H' v o → Q v H'
theorem sc_numbers : FnScope ["web", "row", "room", "leasts", "most"] ["web", "row", "room"] (defScope s_numbers) := ⟨rfl, rfl, rfl, by decide +kernel, rfl, by decide +kernel, by decide +kernel⟩
section
variable {P : Program} {w : World} {K : PySem.W.Frag} {mg : Str → Option Value} {base : Heap}
theorem ok_numbersOf {T : List (Addr × Str)} (TD : At K mg "numbers" s_numbers ["web", "row", "room"]) (B : Bt mg) (c_look_at_web : Cal P w K mg base 5 "look_at_web" ["thing"] spLook) (c_look_at_ask : Cal P w K mg base 3 "look_at_ask" ["web", "row", "room"] spAskV)
    (c_least_sets : Cal P w K mg base 6 "least_sets" ["web", "room"] (spLeastSets T)) (c_greatest_sets : Cal P w K mg base 6 "greatest_sets" ["web", "room"] (spGreatSets T)) : Cal P w K mg base 7 "numbers" ["web", "row", "room"] (spNumOf T) := by
  refine cal_of TD sc_numbers (fun vs H Q E h => ?_) (fun f cdv A outer s H vs Q E hr h => ?_)
  · obtain ⟨W, rs, row, k, r, cs, rfl, _⟩ := h
    rfl
  · obtain ⟨W, rs, row, k, r, cs, rfl, hW, ok, er, hk, hT, cam, q⟩ := h
    refine ⟨_, (pss_cons (ps_expr (pe_own c_look_at_web hr (by decide) (by rfl) (pa_cons (pv 0) pa_nil)))
      (pss_cons (ps_expr (pe_own c_look_at_ask hr (by decide) (by rfl) (pa_cons (pv 0) (pa_cons (pv 1) (pa_cons (pv 2) pa_nil)))))
      (pss_cons (ps_set (i := 3) sc_numbers.nd rfl (Or.inl rfl) (pe_ix ix_list (pe_own c_least_sets hr (by decide) (by rfl) (pa_cons (pv 0) (pa_cons (pv 2) pa_nil))) (pv 1) (fun _ _ => rfl)))
      (pss_cons (ps_if (pt_cmpR op_eq (pe_callB call_len_seq (by rfl) B.len PySem.boot_len (pa_cons (pv 3) pa_nil)) pe_int (nomark _)) (pss_one (ps_ret pe_non)) pss_nil)
      (pss_cons (ps_set (i := 4) sc_numbers.nd rfl (Or.inl rfl) (pe_ix ix_list (pe_ix ix_list (pe_own c_greatest_sets hr (by decide) (by rfl) (pa_cons (pv 0) (pa_cons (pv 2) pa_nil))) (pv 1) (fun _ _ => rfl)) (pe_un un_neg pe_int) (fun _ _ => rfl)))
      (pss_one (ps_ret (pe_tupF (pa_cons (pe_callB call_len_seq (by rfl) B.len PySem.boot_len (pa_cons (pe_ix ix_list (pv 3) pe_int (fun _ _ => rfl)) pa_nil)) (pa_cons (pe_ifExp (pt_cmpR op_isN (pv 4) pe_non (nomark _)) pe_non (pe_callB call_len_seq (by rfl) B.len PySem.boot_len (pa_cons (pv 4) pa_nil))) pa_nil)))))))))), ?_⟩
    have rr := (ok.row r (List.mem_of_getElem? er)).rooms
    have k0 := rr.lo k hk
    have k1 := rr.hi k hk
    have rl := (List.getElem?_eq_some_iff.mp er).1
    refine ⟨_, rfl, W, rs, rfl, hW, ok, fun H1 s1 => ?_⟩
    refine ⟨_, rfl, _, rfl, _, rfl, W, rs, row, k, r, rfl, hW.same s1, ok, er, hk, ?_⟩
    refine ⟨_, rfl, _, rfl, W, rs, k, rfl, hW.same s1, ok, k0, k1, hT.ext s1, fun p H2 as Fs e2 T2' np hp pas line lr => ?_⟩
    have ll : as.length = rs.length := by rw [lr.1, line.fam.len]
    obtain ⟨F, eF⟩ : ∃ F, Fs[row]? = some F := ⟨_, List.getElem?_eq_getElem (by rw [line.fam.len]; exact rl)⟩
    obtain ⟨a, ea⟩ : ∃ a, as[row]? = some a := ⟨_, List.getElem?_eq_getElem (by rw [ll]; exact rl)⟩
    obtain ⟨_, us, ns, hus, ndn, hn, sets⟩ := lr.2.2 row F a eF ea
    have lm := (fam_least_mem cam ok line eF ndn hn).2
    have nl := num_least cam lm
    generalize ordS (ns.map (roomsS (othR rs k))) = Ls at sets nl
    have e02 : ExtN H H2 := (ExtN.of s1).trans e2
    have lu := sets.len
    refine ⟨_, rfl, p, _, row, .ref a, rfl, rfl, SqL.of hp, atI_nat (by rw [List.getElem?_map, ea]; rfl), ?_⟩
    try dsimp only [gName, tSeq, tAsg]
    refine ⟨_, rfl, a, _, rfl, .inl (SqL.of hus), rfl, _, rfl, ?_⟩
    cases Ls with
    | nil =>
      rw [List.eq_nil_of_length_eq_zero (show us.length = 0 by rw [lu]; rfl)]
      exact iteT (q .non H2 none e02 T2' (nl.1 rfl) rfl)
    | cons l ls =>
      have lu : us.length = ls.length + 1 := lu
      refine iteB (fun z => ?_) (fun _ => ?_)
      · have z := V.int.inj (of_decide_eq_true z)
        omega
      obtain ⟨hl, lo⟩ := nl.2 l ls rfl
      refine ⟨_, rfl, _, rfl, W, rs, k, rfl, (hW.same s1).ext e2, ok, k0, k1, T2', fun p2 H3 bs Gs e3 T3 np2 hp2 pbs line2 lr2 => ?_⟩
      have ll2 : bs.length = rs.length := by rw [lr2.1, line2.fam.len]
      obtain ⟨G, eG⟩ : ∃ G, Gs[row]? = some G := ⟨_, List.getElem?_eq_getElem (by rw [line2.fam.len]; exact rl)⟩
      obtain ⟨b, eb⟩ : ∃ b, bs[row]? = some b := ⟨_, List.getElem?_eq_getElem (by rw [ll2]; exact rl)⟩
      obtain ⟨_, ws, gs, hws, ndg, hg, orow⟩ := lr2.2.2 row G b eG eb
      obtain ⟨a0, ea0, ha0⟩ := sets.at_ (i := 0) rfl
      have ha3 := (KP.ext e3).k _ _ ha0
      have hus3 := e3 _ _ hus fun ps z => by cases z
      have e03 := e02.trans e3
      refine ⟨_, rfl, p2, _, row, .ref b, rfl, rfl, SqL.of hp2, atI_nat (by rw [List.getElem?_map, eb]; rfl), ?_⟩
      by_cases nw : NewC cs row
      · rw [gfam_new cam ok line2 eG hg nw] at orow
        have orow : ws = [.non] := orow
        subst orow
        refine ⟨_, rfl, b, _, -1, .non, rfl, rfl, SqL.of hws, L2.atI_last [] V.non, ?_⟩
        try dsimp only [gName, tSeq, tAsg]
        refine ⟨_, rfl, a, _, 0, .ref a0, rfl, rfl, SqL.of hus3, atI_nat (j := 0) ea0, a0, _, rfl, .inr ha3.sq, ?_⟩
        refine ⟨_, rfl, rfl, _, rfl, iteT ?_⟩
        refine ⟨(by show 2 ≤ sizeLine; decide), fun t H4 s4 nt pt => ?_⟩
        refine q (.ref t) H4 (some (l.length, none)) (e03.trans (ExtN.of s4)) (T3.ext s4) ⟨⟨l, hl, rfl⟩, lo, nw⟩ ⟨t, rfl, ?_⟩
        rw [List.length_map] at pt
        exact .inl pt
      · obtain ⟨et, _, gm⟩ := gfam_great_mem cam ok line2 eG ndg hg nw
        rw [et] at orow
        have ng := num_great cam gm
        generalize ordS (gs.map (roomsS (othR rs k))) = Gl at orow ng
        have orow : SetsAt H3 ws Gl := orow
        obtain ⟨gl, g, rfl⟩ : ∃ gl g, Gl = gl ++ [g] := ⟨_, _, (List.dropLast_concat_getLast (ng.1 l hl)).symm⟩
        obtain ⟨hg2, hi⟩ := ng.2 gl g rfl
        have lw := orow.len
        rw [List.length_append, List.length_singleton] at lw
        obtain ⟨b0, eb0, hb0⟩ := orow.at_ (i := gl.length) (ks := g) (by rw [List.getElem?_append_right (Nat.le_refl _), Nat.sub_self]; rfl)
        refine ⟨_, rfl, b, _, -1, .ref b0, rfl, rfl, SqL.of hws, atI_end (by rw [lw, Nat.add_sub_cancel]; exact eb0), ?_⟩
        try dsimp only [gName, tSeq, tAsg]
        refine ⟨_, rfl, a, _, 0, .ref a0, rfl, rfl, SqL.of hus3, atI_nat (j := 0) ea0, a0, _, rfl, .inr ha3.sq, ?_⟩
        refine ⟨_, rfl, rfl, _, rfl, iteF ⟨_, rfl, b0, _, rfl, .inr hb0.sq, ?_⟩⟩
        refine ⟨(by show 2 ≤ sizeLine; decide), fun t H4 s4 nt pt => ?_⟩
        refine q (.ref t) H4 (some (l.length, some g.length)) (e03.trans (ExtN.of s4)) (T3.ext s4) ⟨⟨l, hl, rfl⟩, lo, nw, ⟨g, hg2, rfl⟩, hi⟩ ⟨t, rfl, ?_⟩
        rw [List.length_map, List.length_map] at pt
        exact .inl pt
end
end Su
/-! ### BH: told numbers and told ages -/
namespace Su
open PySem PySem.Spec PyProof.Rows L2
open LamX hiding takes0
open Fm
def CellE (H : Hp) (v : V) : Option Pr → Prop
  | none => v = .non
  | some q => PairAt H v q
theorem CellE.ext {H H' : Hp} {v : V} {o : Option Pr} (h : CellE H v o) (e : ExtN H H') : CellE H' v o := by
  cases o with
  | none => exact h
  | some q =>
    obtain ⟨t, a, b, e1, e2, e3, e4⟩ := h
    exact ⟨t, a, b, e1, (KP.ext e).k _ _ e2, e _ _ e3 (fun _ z => nomatch z), e _ _ e4 (fun _ z => nomatch z)⟩
theorem room_rg {rs : List Rw} (h : ∀ r ∈ rs, RowOk rs.length r) {k : Int} (hk : k ∈ allRooms rs) : 0 ≤ k ∧ k ≤ 99 := by
  unfold allRooms at hk
  obtain ⟨l, hl, hk⟩ := List.mem_flatten.mp hk
  obtain ⟨r, hr, rfl⟩ := List.mem_map.mp hl
  exact ⟨(h r hr).rooms.lo k hk, (h r hr).rooms.hi k hk⟩
def spNumSo (TL : List (Addr × Str)) : Sp := fun vs H Q _ => ∃ (W L : Addr) (rs : List Rw) (X : Tb) (ws : List V) (n : Nat), vs = [.ref W, .ref L, .int n] ∧ WebAt H W rs ∧ WebOk rs ∧ H L = some (.lst ws) ∧ ws.length = X.length ∧ (∀ (i : Nat) (v : V) (o : Option Pr), ws[i]? = some v → X[i]? = some o → CellE H v o) ∧ Least (roomsR rs) n rs X ∧ 1 ≤ n ∧ n ≤ 8 ∧ Tabs TL H ∧ ∀ H', ExtN H H' → Tabs TL H' → Q (.bl true) H'
theorem sc_law_numbers_so : FnScope ["_law_web_here", "_law_told", "_law_size", "_law_rooms", "_law_row", "_law_room", "_law_some", "_law_above"] ["_law_web_here", "_law_told", "_law_size"] (defScope s_law_numbers_so) := ⟨rfl, rfl, rfl, by decide +kernel, rfl, by decide +kernel, by decide +kernel⟩
section
variable {P : Program} {w : World} {K : PySem.W.Frag} {mg : Str → Option Value} {base : Heap}
theorem ok_numso {TL : List (Addr × Str)} (T : At K mg "_law_numbers_so" s_law_numbers_so ["_law_web_here", "_law_told", "_law_size"]) (B : Bt mg) (c_web_rooms : Cal P w K mg base 1 "_law_web_rooms" ["_law_web_here"] spLRooms) (c_numbers : Cal P w K mg base 7 "numbers" ["web", "row", "room"] (spNumOf TL)) : Cal P w K mg base 8 "_law_numbers_so" ["_law_web_here", "_law_told", "_law_size"] (spNumSo TL) := by
  refine cal_of T sc_law_numbers_so (fun vs H Q E h => ?_) (fun f cdv A outer s H vs Q E hr h => ?_)
  · obtain ⟨W, L, rs, X, ws, n, rfl, _⟩ := h
    rfl
  · obtain ⟨W, L, rs, X, ws, n, rfl, hW, ok, hL, lws, hc, le, n1, n8, hT, q⟩ := h
    refine ⟨_, (pss_cons (ps_set (i := 3) sc_law_numbers_so.nd rfl (Or.inl rfl) (pe_own c_web_rooms hr (by decide) (by rfl) (pa_cons (pv 0) pa_nil)))
      (pss_cons (ps_for PassesOwn.never rfl (pi_range1 (by rfl) B.range (pa_cons (pe_callB call_len_seq (by rfl) B.len PySem.boot_len (pa_cons (pv 0) pa_nil)) pa_nil)) (pg_name (i := 4) sc_law_numbers_so.nd rfl (Or.inl rfl)) (pss_one (ps_for PassesOwn.never rfl (pi_tup (pe_ix ix_tup (pe_ix ix_list (pv 0) (pv 4) (fun _ _ => rfl)) pe_int (fun _ _ => rfl))) (pg_name (i := 5) sc_law_numbers_so.nd rfl (Or.inl rfl)) (pss_cons (ps_set (i := 6) sc_law_numbers_so.nd rfl (Or.inl rfl) (pe_own c_numbers hr (by decide) (by rfl) (pa_cons (pv 0) (pa_cons (pv 4) (pa_cons (pv 5) pa_nil)))))
      (pss_cons (ps_if (pt_cmpR op_ne (pe_cmpR op_isN (pv 6) pe_non (nomark _)) (pe_cmpR op_isN (pe_ix ix_list (pv 1) (pv 4) (fun _ _ => rfl)) pe_non (nomark _)) (nomark _)) (pss_one (ps_ret pe_bl)) pss_nil)
      (pss_one (ps_if (pt_cmpR op_notN (pv 6) pe_non (nomark _)) (pss_cons (ps_set (i := 7) sc_law_numbers_so.nd rfl (Or.inl rfl) (pe_ix ix_list (pe_ix ix_tup (pe_ix ix_list (pv 1) (pv 4) (fun _ _ => rfl)) pe_int (fun _ _ => rfl)) (pe_bm PySem.F.plainAttrs_list PySem.F.slot_list_index PySem.F.type_list_index mt_index (pv 3) (pa_cons (pv 5) pa_nil)) (fun _ _ => rfl)))
      (pss_cons (ps_if (PW.pt (pw_and (pt_cmpR op_lt (pv 7) (pv 2) (nomark _)) (pw_and1 (PW.pt (pw_or (pt_cmpR op_isN (pe_ix ix_tup (pv 6) pe_int (fun _ _ => rfl)) pe_non (nomark _)) (pw_or1 (pt_cmpR op_gt (pe_ix ix_tup (pv 6) pe_int (fun _ _ => rfl)) (pv 7) (nomark _)))))))) (pss_one (ps_ret pe_bl)) pss_nil)
      (pss_one (ps_if (pt_cmpR op_gt (pe_ix ix_list (pe_ix ix_tup (pe_ix ix_list (pv 1) (pv 4) (fun _ _ => rfl)) pe_int (fun _ _ => rfl)) (pe_bm PySem.F.plainAttrs_list PySem.F.slot_list_index PySem.F.type_list_index mt_index (pv 3) (pa_cons (pv 5) pa_nil)) (fun _ _ => rfl)) (pe_callB (call_min2 rfl) (by rfl) B.min (by decide +kernel) (pa_cons (pv 2) (pa_cons (pe_ix ix_tup (pv 6) pe_int (fun _ _ => rfl)) pa_nil))) (nomark _)) (pss_one (ps_ret pe_bl)) pss_nil)))) pss_nil)))))))
      (pss_one (ps_ret pe_bl)))), ?_⟩
    refine ⟨_, rfl, W, rs, rfl, hW, ok, fun ms rm H1 pw mem s1 nrm hrm => ?_⟩
    have ems := rooms_is pw mem
    subst ems
    clear pw mem
    have f80 := ok.few
    have pos := ok.pos
    have lX := le.clo.tok.len
    have ndm : (roomsR rs).Nodup := (rooms_pw rs).imp fun h => Int.ne_of_lt h
    have hin : ∀ (i : Nat) (row : Rw), rs[i]? = some row → ∀ x ∈ row.1, x ∈ roomsR rs := fun i row er x hx => rooms_mem.mpr (List.mem_flatten.mpr ⟨row.1, List.mem_map.mpr ⟨row, List.mem_of_getElem? er, rfl⟩, hx⟩)
    have E1 := ExtN.of s1
    have T1 := hT.ext fun b o e => s1 _ _ e
    have hW1 := hW.same s1
    obtain ⟨wws, hWw, hrs⟩ := id hW1
    have hwl := hrs.len
    have hL1 := s1 _ _ hL
    try dsimp only [gName, tSeq, tAsg]
    refine ⟨_, rfl, W, _, rfl, .inl (SqL.of hWw), (rs.length : Nat), congrArg (fun z : Nat => [V.int z]) hwl, by omega, by omega, ?_⟩
    rw [Int.toNat_natCast]
    refine for_range (lo := 0) (n := rs.length) (fun i σ H2 => ∃ y4 y5 y6 y7 : Option V, σ = [some (.ref W), some (.ref L), some (.int n), some (.ref rm), y4, y5, y6, y7] ∧ ExtN H1 H2 ∧ Tabs TL H2) ?_ ?_ ?_
    · exact ⟨_, _, _, _, rfl, ExtN.refl H1, T1⟩
    · rintro row σ H2 hrow ⟨y4, y5, y6, y7, rfl, e2, T2'⟩
      rw [show (0 + (row : Int)) = (row : Int) by omega]
      obtain ⟨wv, ewv⟩ : ∃ wv, wws[row]? = some wv := ⟨_, List.getElem?_eq_getElem (by rw [hwl]; exact hrow)⟩
      obtain ⟨r, er, ra, rb, rc, rfl, ha, hb, hc'⟩ := hrs.get ewv
      have ha2 := (KP.ext e2).k _ _ ha
      have hb2 := (KP.ext e2).k _ _ hb
      have hWw2 := e2 _ _ hWw (fun _ z => nomatch z)
      obtain ⟨xo, exo⟩ : ∃ xo, X[row]? = some xo := ⟨_, List.getElem?_eq_getElem (by omega)⟩
      obtain ⟨cv, ecv⟩ : ∃ cv, ws[row]? = some cv := ⟨_, List.getElem?_eq_getElem (by omega)⟩
      have hcell := (hc row cv xo ecv exo).ext E1
      try dsimp only [gName, tSeq, tAsg]
      refine ⟨_, rfl, _, rfl, W, _, _, _, rfl, rfl, SqL.of hWw2, atI_nat ewv, ra, _, _, _, rfl, rfl, ha2.sq, atI_nat (j := 0) rfl, rb, rfl, ⟨_, hb2.sq⟩, ?_⟩
      refine for_tup (K := K) (a := rb) (xs := r.1.map V.int) (fun z σ H3 => ∃ y5 y6 y7 : Option V, σ = [some (.ref W), some (.ref L), some (.int n), some (.ref rm), some (.int row), y5, y6, y7] ∧ ExtN H1 H3 ∧ Tabs TL H3) ?_ ?_ ?_ ?_
      · exact ⟨_, _, _, rfl, e2, T2'⟩
      · rintro z σ H3 _ ⟨_, _, _, _, e3, _⟩
        exact ((KP.ext e3).k _ _ hb).sq
      · rintro z kv σ H3 hkv ⟨y5, y6, y7, rfl, e3, T3⟩
        rw [List.getElem?_map] at hkv
        obtain ⟨k, ekk, rfl⟩ := Option.map_eq_some_iff.mp hkv
        have hk := List.mem_of_getElem? ekk
        have kR := hin row r er k hk
        have k0 := (room_rg ok.row (rooms_mem.mp kR)).1
        obtain ⟨cs, cam⟩ := fam_exists ok k
        have fl : ((roomsR rs).map V.int).all flatV = true := by
          rw [List.all_map]
          exact List.all_eq_true.mpr fun x hx => rfl
        obtain ⟨i1, i2, i3⟩ := idx_int kR
        have ej : (roomsR rs)[(roomsR rs).idxOf k]? = some k := by
          have lt := List.idxOf_lt_length_of_mem kR
          rw [List.getElem?_eq_getElem lt, List.getElem_idxOf lt]
        try dsimp only [gName, tSeq, tAsg]
        refine ⟨_, rfl, _, rfl, _, rfl, W, rs, row, k, r, cs, rfl, hW1.ext e3, ok, er, hk, T3, cam, fun v H4 o e4 T4 hn hv => ?_⟩
        have e14 := e3.trans e4
        have hL4 := e14 _ _ hL1 (fun _ z => nomatch z)
        have hrm4 := e14 _ _ hrm (fun _ z => nomatch z)
        have cell4 := hcell.ext e14
        clear e3 e4 T3 hkv
        try dsimp only [gName, tSeq, tAsg]
        refine ⟨_, rfl, rfl, _, rfl, _, rfl, L, _, _, _, rfl, rfl, SqL.of hL4, atI_nat ecv, rfl, ?_⟩
        cases o with
        | none =>
          have := ages_unmet le pos cam hrow hn
          rw [exo] at this
          cases this
          obtain rfl : v = .non := hv
          obtain rfl : cv = .non := cell4
          refine ⟨rfl, _, rfl, ?_⟩
          rw [show (!decide (V.bl (decide (V.non = V.non)) = V.bl (decide (V.non = V.non)))) = false from by simp]
          refine iteF ⟨_, rfl, rfl, _, rfl, ?_⟩
          rw [show (!decide (V.non = V.non)) = false from by simp]
          exact iteF ⟨_, _, _, rfl, e14, T4⟩
        | some ab =>
          obtain ⟨a, ob⟩ := ab
          obtain ⟨t, rfl, hv2⟩ := hv
          obtain ⟨pr, hpr, b1, b2, b3⟩ := ages_numbers le.clo ndm n1 hin k0 cam ej hn
          rw [exo] at hpr
          cases hpr
          obtain ⟨t', ta, tb, rfl, p1, p2, p3⟩ := cell4
          have pok := le.clo.tok.ok row pr exo
          have lj := (List.getElem?_eq_some_iff.mp ej).1
          obtain ⟨A, eA⟩ : ∃ A, pr.1[(roomsR rs).idxOf k]? = some A := ⟨_, List.getElem?_eq_getElem (by rw [pok.la]; exact lj)⟩
          obtain ⟨B', eB⟩ : ∃ B', pr.2[(roomsR rs).idxOf k]? = some B' := ⟨_, List.getElem?_eq_getElem (by rw [pok.lb]; exact lj)⟩
          rw [List.getD_eq_getElem?_getD, eA] at b3
          rw [List.getD_eq_getElem?_getD, eB] at b1 b2
          have b1 : B' ≤ (a : Nat) := b1
          have b2 : B' ≤ (n : Nat) := b2
          have b3 : A < (n : Nat) → ∃ b : Nat, ob = some b ∧ (b : Int) ≤ A := b3
          have nn : ∀ x : Addr, decide (V.ref x = V.non) = false := fun x => decide_eq_false (fun z => by cases z)
          rw [nn, nn]
          refine ⟨rfl, _, rfl, ?_⟩
          rw [show (!decide (V.bl false = V.bl false)) = false from by simp]
          refine iteF ⟨_, rfl, rfl, _, rfl, ?_⟩
          rw [nn]
          refine iteT ?_
          try dsimp only [gName, tSeq, tAsg]
          refine ⟨_, rfl, _, rfl, L, _, _, _, rfl, rfl, SqL.of hL4, atI_nat ecv, t', _, _, _, rfl, rfl, p1.sq, atI_nat (j := 0) rfl, _, rfl, .inl ⟨rfl, _, SqL.of hrm4⟩, _, rfl, rm, _, _, _, _, rfl, rfl, SqL.of hrm4, rfl, fl, i1, i2, i3, ta, _, _, _, rfl, rfl, SqL.of p2, atI_nat (by rw [List.getElem?_map, eA]; rfl), ?_⟩
          apply mid (M := fun σ H' => σ = [some (.ref W), some (.ref L), some (.int n), some (.ref rm), some (.int row), some (.int k), some (.ref t), some (.int A)] ∧ H' = H4)
          case h =>
            intro rest
            refine ⟨_, rfl, _, rfl, _, _, rfl, rfl, _, rfl, ?_⟩
            by_cases c1 : A < (n : Int)
            · rw [decide_eq_true c1]
              obtain ⟨b, rfl, hb3⟩ := b3 c1
              refine iteT ⟨_, rfl, t, _, _, _, rfl, rfl, hv2.sq, atI_nat (j := 1) rfl, rfl, _, rfl, ?_⟩
              rw [decide_eq_false (fun z => by cases z)]
              refine iteF ⟨_, rfl, t, _, _, _, rfl, rfl, hv2.sq, atI_nat (j := 1) rfl, _, rfl, _, _, rfl, rfl, _, rfl, ?_⟩
              rw [decide_eq_false (by omega)]
              exact iteF (rest _ _ ⟨rfl, rfl⟩)
            · rw [decide_eq_false c1]
              refine iteF ?_
              exact iteF (rest _ _ ⟨rfl, rfl⟩)
          case hR =>
            rintro _ _ ⟨rfl, rfl⟩
            refine ⟨_, rfl, _, rfl, L, _, _, _, rfl, rfl, SqL.of hL4, atI_nat ecv, t', _, _, _, rfl, rfl, p1.sq, atI_nat (j := 1) rfl, _, rfl, .inl ⟨rfl, _, SqL.of hrm4⟩, _, rfl, rm, _, _, _, _, rfl, rfl, SqL.of hrm4, rfl, fl, i1, i2, i3, tb, _, _, _, rfl, rfl, SqL.of p3, atI_nat (by rw [List.getElem?_map, eB]; rfl), _, rfl, _, rfl, t, _, _, _, rfl, rfl, hv2.sq, atI_nat (j := 0) rfl, _, _, rfl, _, _, rfl, rfl, _, rfl, ?_⟩
            rw [decide_eq_false (by split <;> omega)]
            exact iteF ⟨_, _, _, rfl, e14, T4⟩
      · rintro σ H3 ⟨y5, y6, y7, rfl, e3, T3⟩
        exact ⟨_, _, _, _, rfl, e3, T3⟩
    · rintro σ H2 ⟨y4, y5, y6, y7, rfl, e2, T2'⟩
      exact q _ (E1.trans e2) T2'
end
end Su
/-! ### BI: what the law hears -/
namespace Su
open PySem PySem.Spec PyProof.Rows L2
open LamX hiding takes0
def rMulS01 : R2 := fun x y H Q => ∃ (a : Str) (k : Int), x = .str a ∧ y = .int k ∧ (k = 0 ∨ k = 1) ∧ 1 ≤ a.length ∧ a.length ≤ 1000 ∧ Q (.str (if k = 1 then a else ⟨#[]⟩)) H
theorem op_mulS01 {X : Cx} : OpR X (binaryOp .Mult) rMulS01 := by
  intro pins s σ H x y v u Q I rx ry h
  obtain ⟨a, k, rfl, rfl, hk, h1, h2, q⟩ := h
  rcases hk with rfl | rfl
  · obtain ⟨t, rfl⟩ := rx
    obtain ⟨t', rfl⟩ := ry
    exact PySem.P.mul_str_none (by decide) (by decide) ⟨.str ⟨#[]⟩, H, I.tok _, ⟨_, rfl⟩, q⟩
  · refine op_mulS pins s σ H (.str a) (.int ((1 : Nat) : Int)) v u Q I rx ry ⟨a, 1, rfl, rfl, Nat.le_refl _, by decide, h1, h2, ?_⟩
    have e2 : (⟨(List.replicate 1 a.cps).foldl (· ++ ·) #[]⟩ : Str) = a := by
      cases a
      simp
    rw [e2]
    exact q
theorem callOr {X : Cx} {f : Value} {r1 r2 : List V → Hp → VK → Prop} (a : CallR X f r1) (b : CallR X f r2) : CallR X f (fun xs H Q => r1 xs H Q ∨ r2 xs H Q) := by
  intro pins s σ H xs us Q I r h
  rcases h with h | h
  · exact a pins s σ H xs us Q I r h
  · exact b pins s σ H xs us Q I r h
/-- the error classes: HandError, NoWeb, NoShelf -/
structure ErrW (K : PySem.W.Frag) (mg : Str → Option Value) (CH C CF : Addr) : Prop where
  he : mg "HandError" = some (.ref CH)
  nw : mg "NoWeb" = some (.ref C)
  nf : mg "NoShelf" = some (.ref CF)
  xw : ExcT K C
  xf : ExcT K CF
  nofp : PySem.W.findIn K (.ref CF) "part" = some none
  wh : PySem.W.exmOne K (.ref C) (.ref CH) = some true
  fh : PySem.W.exmOne K (.ref CF) (.ref CH) = some true
  wf : PySem.W.kitOne K (.ref C) (.ref CF) = some false
  ff : PySem.W.kitOne K (.ref CF) (.ref CF) = some true
  ww : PySem.W.kitOne K (.ref C) (.ref C) = some true
  nf0 : PySem.W.kitOne K (.type "NoneType") (.ref CF) = some false
  nw0 : PySem.W.kitOne K (.type "NoneType") (.ref C) = some false
def spKind38 : Sp := fun vs H Q _ => ∃ (way : Int) (v1 vz : V), vs = [.int way, v1, vz] ∧ (way = 0 ∨ way = 1) ∧
  ((∃ (q : Addr) (g : G) (r : Option Nat), Tg q H v1 g ∧ GW.lookG g = some r ∧ ∀ H', Same H H' → Q (.str "web") H') ∨
   (∃ (q p : Addr) (rs : List Rw) (gz : G), v1 = .ref p ∧ WebAt H p rs ∧ WebOk rs ∧ Tg q H vz gz ∧ (∀ t, GW.kindG gz (.str "last") = some t → ∀ H', Same H H' → Q (.str t) H') ∧ ((∃ n : Int, gz = .int n ∧ 1 ≤ n ∧ n ≤ 8) → ∀ H', Same H H' → Q (.str ⟨#[]⟩) H')))
theorem sc_law_kind : FnScope ["_law_way", "_law_web_here", "_law_size", "_law_kept", "e"] ["_law_way", "_law_web_here", "_law_size"] (defScope s_law_kind) := ⟨rfl, rfl, rfl, by decide +kernel, rfl, by decide +kernel, by decide +kernel⟩
section
variable {K : PySem.W.Frag} {c : Value} {Wo : WX} {D : Ends} {cls : Value} {d : Option Addr} {H : Hp} {o1 o2 o3 o4 : Option V}
theorem keepE (e : PySem.W.exmOne K cls c = some true) (h : ∀ x, H x = none → D.nx [o1, o2, o3, some (.ref x), none] (upd H x (exK x cls d))) : wIn K c 4 (fun a pn => tAsg (tVar 4) (gName 3)) Wo D cls d [o1, o2, o3, o4, none] H :=
  ⟨true, e, fun _ x pn nx => ⟨_, rfl, h x nx⟩, fun z => by cases z⟩
end
def Heard38 (o1 o2 o3 : Option V) (C CF : Addr) (H : Hp) (Q : VK) (σ : L2.St) (H1 : Hp) : Prop := Same H H1 ∧
  ((σ = [o1, o2, o3, some .non, none] ∧ ∀ H', Same H H' → Q (.str ⟨#[]⟩) H') ∨
   ∃ (a X : Addr) (d : Option Addr), σ = [o1, o2, o3, some (.ref a), none] ∧ H1 a = some (exK a (.ref X) d) ∧ XdAt H1 d ∧
    ((X = C ∧ ∀ H', Same H H' → Q (.str "web") H') ∨
     (X = CF ∧ ∃ (dd : Addr) (t : Str), d = some dd ∧ H1 dd = some (.xd [("part", .str t)]) ∧ ∀ H', Same H H' → Q (.str t) H')))
section
variable {o1 o2 o3 : Option V} {C CF x : Addr} {H H1 : Hp} {Q : VK}
theorem xd_of {d : Addr} {fs : List (Str × V)} {o : HO} (hd : H1 d = some (.xd fs)) (nx : H1 x = none) : XdAt (upd H1 x o) (some d) := fun dd ed => by
  cases ed
  exact ⟨_, by rw [upd_ne (ne_of_none hd nx)]; exact hd⟩
theorem Heard38.web {d : Addr} {fs : List (Str × V)} (s1 : Same H H1) (nx : H1 x = none) (hd : H1 d = some (.xd fs)) (q : ∀ H', Same H H' → Q (.str "web") H') : Heard38 o1 o2 o3 C CF H Q [o1, o2, o3, some (.ref x), none] (upd H1 x (exK x (.ref C) (some d))) :=
  ⟨s1.trans (same_upd nx), .inr ⟨x, C, some d, rfl, upd_same, xd_of hd nx, .inl ⟨rfl, q⟩⟩⟩
theorem Heard38.part {d : Addr} {t : Str} (s1 : Same H H1) (nx : H1 x = none) (hd : H1 d = some (.xd [("part", .str t)])) (q : ∀ H', Same H H' → Q (.str t) H') : Heard38 o1 o2 o3 C CF H Q [o1, o2, o3, some (.ref x), none] (upd H1 x (exK x (.ref CF) (some d))) :=
  ⟨s1.trans (same_upd nx), .inr ⟨x, CF, some d, rfl, upd_same, xd_of hd nx, .inr ⟨rfl, d, t, rfl, by rw [upd_ne (ne_of_none hd nx)]; exact hd, q⟩⟩⟩
end
section
variable {P : Program} {w : World} {K : PySem.W.Frag} {mg : Str → Option Value} {base : Heap}
theorem ok_kind38 {CH C CF : Addr} (EK : ErrW K mg CH C CF) (T : At K mg "_law_kind" s_law_kind ["_law_way", "_law_web_here", "_law_size"]) (B : Bt mg) (c_ages : CalX P w K mg base 6 "ages" ["web", "size"] (spAgesX C CF)) (c_lets_ages : CalX P w K mg base 6 "lets_ages" ["web", "thing", "size"] (spLetsX w C CF)) :
    CalG P w K mg base 7 "_law_kind" ["_law_way", "_law_web_here", "_law_size"] spKind38 := by
  refine cal_ofG T sc_law_kind (fun vs H Q E h => ?_) (fun f cdv A outer s H vs Q E hg hr h => ?_)
  · obtain ⟨way, v1, vz, rfl, _⟩ := h
    rfl
  · obtain ⟨way, v1, vz, rfl, hw, h⟩ := h
    have hHE := EK.he
    refine ⟨_, (pss_cons (ps_set (i := 3) sc_law_kind.nd rfl (Or.inl rfl) pe_non)
      (pss_cons (ps_try_ins (Wo := fun _ _ _ _ => False) rfl rfl rfl takes0 (fun W pn xe tk _ => (pss_one (ps_if (pt_cmpR op_eq (pv 0) pe_int (nomark _)) (pss_one (ps_expr (pe_ownX tk c_ages hr (by decide) (by rfl) (pa_cons (pv 1) (pa_cons (pv 2) pa_nil))))) (pss_one (ps_expr (pe_ownX tk c_lets_ages hr (by decide) (by rfl) (pa_cons (pv 1) (pa_cons pe_non (pa_cons (pv 2) pa_nil))))))))) (.cons (i := 4) sc_law_kind.nd rfl rfl ⟨rfl, by decide, Or.inl hHE⟩ (fun a pn => (pss_one (ps_set (i := 3) sc_law_kind.nd rfl (Or.inl rfl) (pv 4)))) .nil))
      (pss_cons (ps_if (pt_val (pe_callB (callOr call_isiE call_isi) (by rfl) B.isinstance (by decide +kernel) (pa_cons (pv 3) (pa_cons (pe_glob (v := .ref CF) (by rfl) EK.nf rfl) pa_nil)))) (pss_one (ps_ret (pe_xfld (pv 3)))) pss_nil)
      (pss_one (ps_ret (pe_op op_mulS01 pe_str (pe_callTy call_int1 (by rfl) B.int (by decide +kernel) (pa_cons (pe_callB (callOr call_isiE call_isi) (by rfl) B.isinstance (by decide +kernel) (pa_cons (pv 3) (pa_cons (pe_glob (v := .ref C) (by rfl) EK.nw rfl) pa_nil))) pa_nil)))))))), ?_⟩
    try dsimp only [gName, tSeq, tAsg]
    apply mid (M := Heard38 (some (.int way)) (some v1) (some vz) C CF H Q)
    case h =>
      intro rest
      refine ⟨_, rfl, rfl, _, rfl, ?_⟩
      rcases hw with rfl | rfl
      · rw [decide_eq_true rfl]
        refine iteT ⟨_, rfl, _, rfl, v1, vz, rfl, ?_⟩
        rcases h with ⟨q2, g, r, tg, lk, q⟩ | ⟨q0, p, rs, gz, rfl, hW, ok, tz, qk, qn⟩
        · exact .inl ⟨q2, g, r, tg, lk, fun H1 d s1 nd hd => keepE EK.wh fun xa nx => rest _ _ (.web s1 nx hd q)⟩
        · exact .inr ⟨q0, p, rs, gz, rfl, hW, ok, tz, fun t ek H1 d s1 nd hd => keepE EK.fh fun xa nx => rest _ _ (.part s1 nx hd (qk t ek)), fun s' e1 e2 e3 ms X L ad own H' pw mem least s1 nL tat => rest _ _ ⟨s1, .inl ⟨rfl, qn ⟨s', e1, e2, e3⟩⟩⟩⟩
      · rw [decide_eq_false (fun z => by cases z)]
        refine iteF ⟨_, rfl, _, rfl, v1, .non, vz, rfl, ?_⟩
        rcases h with ⟨q2, g, r, tg, lk, q⟩ | ⟨q0, p, rs, gz, rfl, hW, ok, tz, qk, qn⟩
        · exact .inl ⟨q2, g, r, tg, lk, fun H1 d s1 nd hd => keepE EK.wh fun xa nx => rest _ _ (.web s1 nx hd q)⟩
        · exact .inr ⟨q0, q0, p, rs, gz, .non, rfl, hW, ok, tz, .non, fun t ek H1 d s1 nd hd => keepE EK.fh fun xa nx => rest _ _ (.part s1 nx hd (qk t ek)), fun s' e1 e2 e3 ms H' pw mem s1 => rest _ _ ⟨s1, .inl ⟨rfl, qn ⟨s', e1, e2, e3⟩⟩⟩⟩
    case hR =>
      rintro _ H1 ⟨s1, hh⟩
      have wl : (1 ≤ ("web" : Str).length) ∧ ("web" : Str).length ≤ 1000 := by decide
      rcases hh with ⟨rfl, q⟩ | ⟨a, X, d, rfl, ha, xd, hh⟩
      · refine ⟨_, rfl, .inr ⟨.non, .ref CF, .type "NoneType", .ref CF, false, rfl, .own CF, .base .non, EK.nf0, _, rfl, iteF ?_⟩⟩
        dsimp only [tNext]
        refine ⟨_, rfl, .inr ⟨.non, .ref C, .type "NoneType", .ref C, false, rfl, .own C, .base .non, EK.nw0, .inr ⟨false, rfl, "web", 0, rfl, rfl, .inl rfl, wl.1, wl.2, ?_⟩⟩⟩
        exact q H1 s1
      rcases hh with ⟨eX, q⟩ | ⟨eX, dd, t, rfl, hd, q⟩
      · subst eX
        refine ⟨_, rfl, .inl ⟨a, X, d, .ref CF, .ref CF, false, rfl, .own CF, EK.xw, ha, xd, EK.wf, _, rfl, iteF ?_⟩⟩
        dsimp only [tNext]
        refine ⟨_, rfl, .inl ⟨a, X, d, .ref X, .ref X, true, rfl, .own X, EK.xw, ha, xd, EK.ww, .inr ⟨true, rfl, "web", 1, rfl, rfl, .inr rfl, wl.1, wl.2, ?_⟩⟩⟩
        exact q H1 s1
      · subst eX
        refine ⟨_, rfl, .inl ⟨a, X, some dd, .ref X, .ref X, true, rfl, .own X, EK.xf, ha, xd, EK.ff, _, rfl, iteT ?_⟩⟩
        refine ⟨_, rfl, a, X, dd, _, .str t, rfl, EK.xf, EK.nofp, ha, hd, (by simp [List.lookup]), ?_⟩
        exact q H1 s1
end
end Su
/-! ### BE: tables bent -/
namespace Su
open PySem PySem.Spec PyProof.Rows L2
open LamX hiding takes0
def spBent : Sp := fun vs H Q _ => ∃ (p : Addr) (v : V) (X : Tb) (n : Nat) (s : Int), vs = [.ref p, v, .int s] ∧ PoolAt H p ∧ Tg p H v (.lst (tbT X)) ∧ OkTb n s X ∧ 1 ≤ X.length ∧ X.length ≤ 80 ∧ n ≤ 12 ∧ 0 ≤ s ∧ s ≤ 1000 ∧
  ∀ (v' : V) (H' : Hp) (X' : Tb), Kept p H H' → PoolAt H' p → Tg p H' v' (.lst (tbT X')) → OkTb n s X' → X'.length = X.length → Q v' H'
theorem sc_law_bent : FnScope ["_law_pool_here", "_law_told", "_law_size", "_law_found", "_law_one", "_law_aboves", "_law_age"] ["_law_pool_here", "_law_told", "_law_size"] (defScope s_law_bent) := ⟨rfl, rfl, rfl, by decide +kernel, rfl, by decide +kernel, by decide +kernel⟩
section
variable {P : Program} {w : World} {K : PySem.W.Frag} {mg : Str → Option Value} {base : Heap}
theorem ok_bent (T : At K mg "_law_bent" s_law_bent ["_law_pool_here", "_law_told", "_law_size"]) (B : Bt mg) (c_take : Cal P w K mg base 1 "_law_take" ["_law_pool_here", "_law_many"] spTake) : Cal P w K mg base 2 "_law_bent" ["_law_pool_here", "_law_told", "_law_size"] spBent := by
  refine cal_of T sc_law_bent (fun vs H Q E h => ?_) (fun f cdv A outer s' H vs Q E hr h => ?_)
  · obtain ⟨p, v, X, n, s, rfl, _⟩ := h
    rfl
  · obtain ⟨p, v, X, n, s, rfl, hp, hv, okX, x1, x80, n12, s0, s1, q⟩ := h
    refine ⟨_, (pss_cons (ps_set (i := 3) sc_law_bent.nd rfl (Or.inl rfl) (pe_lst pa_nil))
      (pss_cons (ps_for PassesOwn.never rfl (pi_list (pv 1)) (pg_name (i := 4) sc_law_bent.nd rfl (Or.inl rfl)) (pss_cons (ps_if (pt_cmpR op_notN (pv 4) pe_non (nomark _)) (pss_cons (ps_setLc (i := 5) (own := [("_law_age", 6)]) (g := (gName 6)) (tt := tYes) (te := (tCB rMax2 (tCons (tC (.int 0)) (tCons (tCB rMin2 (tCons (tVar 2) (tCons (tOp (rI0 fun i j => .int (i + j)) (tVar 6) (tOp (rIxL K) (tLst (tCons (tC (.int 0)) (tCons (tC (.int 0)) (tCons (tC (.int 0)) (tCons (tC (.int 1)) (tCons (tUn (rU fun i => .int (-i)) (tC (.int 1))) tNil)))))) (tCall spTake [] E0 (tCons (tVar 0) (tCons (tC (.int 5)) tNil))))) tNil))) tNil)))) (by rfl) sc_law_bent.nd rfl rfl (sw_true rfl rfl rfl (by decide +kernel)) (pi_list (pe_ix ix_tup (pv 4) pe_int (fun _ _ => rfl))) (blkOk_by (own := [("_law_age", 6)]) (N := ["_law_pool_here", "_law_told", "_law_size", "_law_found", "_law_one", "_law_aboves", "_law_age"]) (sc := defScope s_law_bent) (by decide +kernel)) (fun _ _ _ _ _ => (pg_name (i := 6) sc_law_bent.nd rfl (Or.inl rfl))) (fun _ _ _ _ _ => pts_nil) (fun _ _ _ _ _ => (pe_callB (call_max2 rfl) (by rfl) B.max (by decide +kernel) (pa_cons pe_int (pa_cons (pe_callB (call_min2 rfl) (by rfl) B.min (by decide +kernel) (pa_cons (pv 2) (pa_cons (pe_op op_add (pv 6) (pe_ix ix_list (pe_lst (pa_cons pe_int (pa_cons pe_int (pa_cons pe_int (pa_cons pe_int (pa_cons (pe_un un_neg pe_int) pa_nil)))))) (pe_own c_take hr (by decide) (by rfl) (pa_cons (pv 0) (pa_cons pe_int pa_nil))) (fun _ _ => rfl))) pa_nil))) pa_nil)))))
      (pss_one (ps_set (i := 4) sc_law_bent.nd rfl (Or.inl rfl) (pe_tupF (pa_cons (pv 5) (pa_cons (pe_lc (own := [("_law_age", 6)]) (g := (gName 6)) (tt := tYes) (te := (tCB rMax2 (tCons (tC (.int 0)) (tCons (tCB rMin2 (tCons (tVar 2) (tCons (tOp (rI0 fun i j => .int (i + j)) (tVar 6) (tOp (rIxL K) (tLst (tCons (tC (.int 0)) (tCons (tC (.int 0)) (tCons (tC (.int 0)) (tCons (tC (.int 1)) (tCons (tUn (rU fun i => .int (-i)) (tC (.int 1))) tNil)))))) (tCall spTake [] E0 (tCons (tVar 0) (tCons (tC (.int 5)) tNil))))) tNil))) tNil)))) (by rfl) sc_law_bent.nd (pi_list (pe_ix ix_tup (pv 4) pe_int (fun _ _ => rfl))) (blkOk_by (own := [("_law_age", 6)]) (N := ["_law_pool_here", "_law_told", "_law_size", "_law_found", "_law_one", "_law_aboves", "_law_age"]) (sc := defScope s_law_bent) (by decide +kernel)) (fun _ _ _ _ _ => (pg_name (i := 6) sc_law_bent.nd rfl (Or.inl rfl))) (fun _ _ _ _ _ => pts_nil) (fun _ _ _ _ _ => (pe_callB (call_max2 rfl) (by rfl) B.max (by decide +kernel) (pa_cons pe_int (pa_cons (pe_callB (call_min2 rfl) (by rfl) B.min (by decide +kernel) (pa_cons (pv 2) (pa_cons (pe_op op_add (pv 6) (pe_ix ix_list (pe_lst (pa_cons pe_int (pa_cons pe_int (pa_cons pe_int (pa_cons pe_int (pa_cons (pe_un un_neg pe_int) pa_nil)))))) (pe_own c_take hr (by decide) (by rfl) (pa_cons (pv 0) (pa_cons pe_int pa_nil))) (fun _ _ => rfl))) pa_nil))) pa_nil))))) pa_nil)))))) pss_nil)
      (pss_one (ps_expr (pe_bm PySem.F.plainAttrs_list PySem.F.slot_list_append PySem.F.type_list_append mt_append (pv 3) (pa_cons (pv 4) pa_nil))))))
      (pss_one (ps_ret (pe_op op_cat (pe_lst (pa_cons (pe_ix ix_list (pv 1) pe_int (fun _ _ => rfl)) pa_nil)) (pe_slice sl_list (pv 3) (po_some pe_int) po_none)))))), ?_⟩
    cases hv with
    | @lst a vs ds na ea t =>
      have hl := t.len
      have dl : (tbT X).length = X.length := List.length_map ..
      refine ⟨(by show 0 ≤ sizeLine; decide), fun F nF => ?_⟩
      have eFp : F ≠ p := pool_ne hp nF
      have cy := CellsY.of (p := p) t nF
      have u1 : Same H (upd H F (.lst [])) := same_upd nF
      have ea1 := u1 _ _ ea
      have eaF : a ≠ F := ne_of_none ea nF
      have cy2 := cy.keep (Kpf.same (p := p) (F := F) u1)
      have hp2 := hp.same u1
      have hF0 : (upd H F (.lst [])) F = some (.lst []) := upd_same
      try dsimp only [gName, tSeq, tAsg]
      refine ⟨_, rfl, a, rfl, ⟨_, SqL.of ea1⟩, ?_⟩
      generalize upd H F (.lst []) = H2 at ea1 cy2 hp2 hF0 u1 ⊢
      refine for_list (K := K) (a := a) (xs := vs) (fun i σ H3 => ∃ (y4 y5 y6 : Option V) (fv : List V) (X' : Tb), σ = [some (.ref p), some (.ref a), some (.int s), some (.ref F), y4, y5, y6] ∧ H3 F = some (.lst fv) ∧ CellsY p F H3 fv X' ∧ OkTb n s X' ∧ X'.length = i ∧ PoolAt H3 p ∧ Kpf p F H2 H3) ?_ ?_ ?_ ?_
      · exact ⟨none, none, none, [], [], rfl, hF0, ⟨rfl, fun i v o e1 e2 => (by cases e1)⟩, (fun o ho => by cases ho), rfl, hp2, Kpf.refl _ _ _⟩
      · rintro i σ H3 _ ⟨_, _, _, _, _, _, _, _, _, _, _, k3⟩
        exact SqL.of (k3.k _ _ ea1 na eaF)
      · rintro i x σ H3 hx ⟨y4, y5, y6, fv, X', rfl, hF, cy3, ok3, l3, hp3, k3⟩
        have il := (List.getElem?_eq_some_iff.mp hx).1
        obtain ⟨o, eo⟩ : ∃ o, X[i]? = some o := ⟨X[i]'(by omega), List.getElem?_eq_getElem (by omega)⟩
        have cx := (cy2.2 _ _ _ hx eo).keep k3
        have oko := okX o (List.mem_of_getElem? eo)
        refine mid_gif (fun σ' H' => ∃ (v4 : V) (y5 y6 : Option V) (o' : Option Pr), σ' = [some (.ref p), some (.ref a), some (.int s), some (.ref F), some v4, y5, y6] ∧ H' F = some (.lst fv) ∧ CellY p F H' v4 o' ∧ (∀ q, o' = some q → POk n s q) ∧ PoolAt H' p ∧ Kpf p F H3 H') ?_ ?_
        · rintro σ' H4 ⟨v4, y5', y6', o', rfl, hF4, cx4, oko4, hp4, k4⟩
          refine ⟨_, rfl, .inl ⟨rfl, _, SqL.of hF4⟩, _, rfl, F, fv, v4, rfl, rfl, hF4, small1000 (by rw [cy3.1, l3]; omega), ?_⟩
          have ku : Kpf p F H4 (upd H4 F (.lst (fv ++ [v4]))) := Kpf.upd hF4
          refine ⟨_, _, _, fv ++ [v4], X' ++ [o'], rfl, upd_same, ((cy3.keep k4).keep ku).snoc (cx4.keep ku), fun o ho q e => ?_, by rw [List.length_append, l3]; rfl, hp4.upd eFp.symm, (k3.trans k4).trans ku⟩
          rcases List.mem_append.mp ho with h | h
          · exact ok3 o h q e
          · rw [List.mem_singleton] at h
            exact oko4 q (by rw [← h, e])
        · intro D2 hD2
          refine ⟨_, rfl, rfl, _, rfl, ?_⟩
          cases o with
          | none =>
            rw [show x = .non from cx]
            exact iteF (hD2 _ _ ⟨.non, _, _, none, rfl, hF, rfl, (fun q h => by cases h), hp3, Kpf.refl _ _ _⟩)
          | some q0 =>
            obtain ⟨t0, A1, B1, rfl, et, eA, eB, nA, nB⟩ := id cx
            have oq := oko q0 rfl
            refine iteT ⟨_, rfl, t0, _, _, _, rfl, rfl, et.sq, atI_nat (j := 0) rfl, A1, rfl, ⟨_, SqL.of eA⟩, fun D nD => ?_⟩
            have eDp : D ≠ p := pool_ne hp3 nD
            have eDF : D ≠ F := (ne_of_none hF nD).symm
            refine lc_list (K := K) (a := A1) (xs := q0.1.map V.int) (fun i H4 => ∃ acc : List Int, H4 D = some (.lst (acc.map V.int)) ∧ acc.length = i ∧ (∀ x ∈ acc, 0 ≤ x ∧ x ≤ s) ∧ PoolAt H4 p ∧ Kept p H3 H4) ?_ ?_ ?_ ?_
            · exact ⟨[], upd_same, rfl, fun x h => (List.not_mem_nil h).elim, hp3.upd eDp.symm, Kept.same (same_upd nD)⟩
            · rintro i H4 _ ⟨_, _, _, _, _, k4⟩
              exact SqL.of (k4 _ _ eA nA.1)
            · rintro i v H4 hv ⟨acc, hD, la, ra, hp4, k4⟩
              rw [List.getElem?_map] at hv
              obtain ⟨y, ey, rfl⟩ := Option.map_eq_some_iff.mp hv
              have il2 : i < 12 := by
                have h1 := (List.getElem?_eq_some_iff.mp ey).1
                have h2 := oq.la
                omega
              refine ⟨rfl, tyes ?_⟩
              refine ⟨_, rfl, _, rfl, 1, rfl, (by show 5 ≤ sizeLine; decide), fun c nc => ?_⟩
              have ncp : c ≠ p := pool_ne hp4 nc
              have nDc : D ≠ c := ne_of_none hD nc
              have hpc : PoolAt (upd H4 c (.lst [.int 0, .int 0, .int 0, .int 1, .int (-1)])) p := hp4.same (same_upd nc)
              have hc : (upd H4 c (.lst [.int 0, .int 0, .int 0, .int 1, .int (-1)])) c = some (.lst [.int 0, .int 0, .int 0, .int 1, .int (-1)]) := upd_same
              have hDc : (upd H4 c (.lst [.int 0, .int 0, .int 0, .int 1, .int (-1)])) D = some (.lst (acc.map V.int)) := by rw [upd_ne nDc]; exact hD
              have kc : Kept p H3 (upd H4 c (.lst [.int 0, .int 0, .int 0, .int 1, .int (-1)])) := k4.trans (Kept.same (same_upd nc))
              refine ⟨_, rfl, p, 5, rfl, hpc, by decide, by decide, fun r o r0 r1 po => ?_⟩
              have kp5 := kc.trans (Kept.upd p _ o)
              have hD5 : (upd (upd H4 c (.lst [.int 0, .int 0, .int 0, .int 1, .int (-1)])) p o) D = some (.lst (acc.map V.int)) := by rw [upd_ne eDp]; exact hDc
              have hc5 : (upd (upd H4 c (.lst [.int 0, .int 0, .int 0, .int 1, .int (-1)])) p o) c = some (.lst [.int 0, .int 0, .int 0, .int 1, .int (-1)]) := by rw [upd_ne ncp]; exact hc
              have hp5 : PoolAt (upd (upd H4 c (.lst [.int 0, .int 0, .int 0, .int 1, .int (-1)])) p o) p := ⟨o, upd_same, po⟩
              generalize upd (upd H4 c (.lst [.int 0, .int 0, .int 0, .int 1, .int (-1)])) p o = H5 at kp5 hD5 hc5 hp5 ⊢
              obtain ⟨e, ee⟩ : ∃ e : Int, atI ([.int 0, .int 0, .int 0, .int 1, .int (-1)] : List V) r = some (.int e) := by
                have hr : r = 0 ∨ r = 1 ∨ r = 2 ∨ r = 3 ∨ r = 4 := by omega
                rcases hr with rfl | rfl | rfl | rfl | rfl <;> exact ⟨_, rfl⟩
              refine ⟨c, _, _, _, rfl, rfl, SqL.of hc5, ee, _, _, rfl, rfl, _, _, rfl, _, _, rfl, ?_⟩
              refine ⟨acc.map V.int, hD5, ?_, ?_⟩
              · rw [List.length_map]
                exact sz1000 (by omega)
              · refine ⟨acc ++ [if (if y + e < s then y + e else s) > 0 then (if y + e < s then y + e else s) else 0], by rw [upd_same, List.map_append]; rfl, by rw [List.length_append, la]; rfl, fun x hx => ?_, hp5.upd eDp.symm, fun b o' eb nb => ?_⟩
                · rcases List.mem_append.mp hx with h | h
                  · exact ra x h
                  · rw [List.mem_singleton.mp h]
                    split <;> split <;> omega
                · rw [upd_ne (ne_of_none eb nD)]
                  exact kp5 _ _ eb nb
            · rintro HB ⟨acc, hD, la, ra, hpB, k4⟩
              rw [List.length_map] at la
              have kp4 : Kpf p F H3 HB := Kpf.kept k4 hp3
              have eB4 := k4 _ _ eB nB.1
              have hF4 := k4 _ _ hF eFp
              have et4 := kp4.t _ _ et
              refine ⟨_, rfl, _, rfl, t0, _, _, _, rfl, rfl, et4.sq, atI_nat (j := 1) rfl, B1, rfl, ⟨_, SqL.of eB4⟩, fun D3 nD3 => ?_⟩
              have eD3p : D3 ≠ p := pool_ne hpB nD3
              refine lc_list (K := K) (a := B1) (xs := q0.2.map V.int) (fun i HE => ∃ acc : List Int, HE D3 = some (.lst (acc.map V.int)) ∧ acc.length = i ∧ (∀ x ∈ acc, 0 ≤ x ∧ x ≤ s) ∧ PoolAt HE p ∧ Kept p HB HE) ?_ ?_ ?_ ?_
              · exact ⟨[], upd_same, rfl, fun x h => (List.not_mem_nil h).elim, hpB.upd eD3p.symm, Kept.same (same_upd nD3)⟩
              · rintro i HE _ ⟨_, _, _, _, _, k4⟩
                exact SqL.of (k4 _ _ eB4 nB.1)
              · rintro i v HE hv ⟨acc, hD, la, ra, hp4, k4⟩
                rw [List.getElem?_map] at hv
                obtain ⟨y, ey, rfl⟩ := Option.map_eq_some_iff.mp hv
                have il2 : i < 12 := by
                  have h1 := (List.getElem?_eq_some_iff.mp ey).1
                  have h2 := oq.lb
                  omega
                refine ⟨rfl, tyes ?_⟩
                refine ⟨_, rfl, _, rfl, 1, rfl, (by show 5 ≤ sizeLine; decide), fun c nc => ?_⟩
                have ncp : c ≠ p := pool_ne hp4 nc
                have nD3c : D3 ≠ c := ne_of_none hD nc
                have hpc : PoolAt (upd HE c (.lst [.int 0, .int 0, .int 0, .int 1, .int (-1)])) p := hp4.same (same_upd nc)
                have hc : (upd HE c (.lst [.int 0, .int 0, .int 0, .int 1, .int (-1)])) c = some (.lst [.int 0, .int 0, .int 0, .int 1, .int (-1)]) := upd_same
                have hDc : (upd HE c (.lst [.int 0, .int 0, .int 0, .int 1, .int (-1)])) D3 = some (.lst (acc.map V.int)) := by rw [upd_ne nD3c]; exact hD
                have kc : Kept p HB (upd HE c (.lst [.int 0, .int 0, .int 0, .int 1, .int (-1)])) := k4.trans (Kept.same (same_upd nc))
                refine ⟨_, rfl, p, 5, rfl, hpc, by decide, by decide, fun r o r0 r1 po => ?_⟩
                have kp5 := kc.trans (Kept.upd p _ o)
                have hD5 : (upd (upd HE c (.lst [.int 0, .int 0, .int 0, .int 1, .int (-1)])) p o) D3 = some (.lst (acc.map V.int)) := by rw [upd_ne eD3p]; exact hDc
                have hc5 : (upd (upd HE c (.lst [.int 0, .int 0, .int 0, .int 1, .int (-1)])) p o) c = some (.lst [.int 0, .int 0, .int 0, .int 1, .int (-1)]) := by rw [upd_ne ncp]; exact hc
                have hp5 : PoolAt (upd (upd HE c (.lst [.int 0, .int 0, .int 0, .int 1, .int (-1)])) p o) p := ⟨o, upd_same, po⟩
                generalize upd (upd HE c (.lst [.int 0, .int 0, .int 0, .int 1, .int (-1)])) p o = HG at kp5 hD5 hc5 hp5 ⊢
                obtain ⟨e, ee⟩ : ∃ e : Int, atI ([.int 0, .int 0, .int 0, .int 1, .int (-1)] : List V) r = some (.int e) := by
                  have hr : r = 0 ∨ r = 1 ∨ r = 2 ∨ r = 3 ∨ r = 4 := by omega
                  rcases hr with rfl | rfl | rfl | rfl | rfl <;> exact ⟨_, rfl⟩
                refine ⟨c, _, _, _, rfl, rfl, SqL.of hc5, ee, _, _, rfl, rfl, _, _, rfl, _, _, rfl, ?_⟩
                refine ⟨acc.map V.int, hD5, ?_, ?_⟩
                · rw [List.length_map]
                  exact sz1000 (by omega)
                · refine ⟨acc ++ [if (if y + e < s then y + e else s) > 0 then (if y + e < s then y + e else s) else 0], by rw [upd_same, List.map_append]; rfl, by rw [List.length_append, la]; rfl, fun x hx => ?_, hp5.upd eD3p.symm, fun b o' eb nb => ?_⟩
                  · rcases List.mem_append.mp hx with h | h
                    · exact ra x h
                    · rw [List.mem_singleton.mp h]
                      split <;> split <;> omega
                  · rw [upd_ne (ne_of_none eb nD3)]
                    exact kp5 _ _ eb nb
              · rintro H5 ⟨acc2, hD5, la2, ra2, hp5, k5⟩
                rw [List.length_map] at la2
                refine ⟨(by show 2 ≤ sizeLine; decide), fun t5 H6 s6 _ pt => ?_⟩
                have hD6 := s6 _ _ (k5 _ _ hD eDp)
                have eDF3 : D3 ≠ F := (ne_of_none hF4 nD3).symm
                refine hD2 _ _ ⟨_, _, _, some (acc, acc2), rfl, s6 _ _ (k5 _ _ hF4 eFp), ⟨t5, D, D3, rfl, .inl pt, hD6, s6 _ _ hD5, ⟨eDp, eDF⟩, eD3p, eDF3⟩, fun q h => ?_, hp5.same s6, (kp4.trans (Kpf.kept k5 hpB)).trans (Kpf.same s6)⟩
                injection h with h
                subst h
                exact ⟨by rw [la, oq.la], by rw [la2, oq.lb], ra, ra2⟩
      · rintro σ H3 ⟨y4, y5, y6, fv, X', rfl, hF, cy3, ok3, l3, hp3, k3⟩
        rw [hl, dl] at l3
        have ea3 := k3.k _ _ ea1 na eaF
        obtain ⟨o0, eo0⟩ : ∃ o0, X[0]? = some o0 := ⟨X[0]'(by omega), List.getElem?_eq_getElem (by omega)⟩
        have v0l : 0 < vs.length := by omega
        have ev0 : vs[0]? = some vs[0] := List.getElem?_eq_getElem v0l
        have c0 := (cy2.2 0 _ _ ev0 eo0).keep k3
        refine ⟨_, rfl, a, _, _, _, rfl, rfl, SqL.of ea3, atI_nat (j := 0) ev0, (by show 1 ≤ sizeLine; decide), fun L1 nL1 => ?_⟩
        have w1 : Same H3 (upd H3 L1 (.lst [vs[0]])) := same_upd nL1
        refine ⟨_, rfl, 1, rfl, F, fv, rfl, SqL.of (w1 _ _ hF), fun L2' nL2 => ?_⟩
        rw [cut_tail]
        have w2 : Same (upd H3 L1 (.lst [vs[0]])) (upd (upd H3 L1 (.lst [vs[0]])) L2' (.lst (fv.drop 1))) := same_upd nL2
        refine ⟨L1, L2', _, _, rfl, rfl, w2 _ _ upd_same, upd_same, ?_, fun L3 nL3 => ?_⟩
        · rw [List.length_drop, cy3.1, l3]
          show 1 + _ ≤ sizeLine
          have := sz1000 (n := 1 + (X.length - 1)) (by omega)
          omega
        have w3 : Same (upd (upd H3 L1 (.lst [vs[0]])) L2' (.lst (fv.drop 1))) (upd (upd (upd H3 L1 (.lst [vs[0]])) L2' (.lst (fv.drop 1))) L3 (.lst ([vs[0]] ++ fv.drop 1))) := same_upd nL3
        have w := (w1.trans w2).trans w3
        have eL3p : L3 ≠ p := pool_ne (hp3.same (w1.trans w2)) nL3
        have cyF : CellsY p F H3 ([vs[0]] ++ fv.drop 1) ([o0] ++ X'.drop 1) := by
          refine ⟨by rw [List.length_append, List.length_append, List.length_drop, List.length_drop, cy3.1]; rfl, fun i v o e1 e2 => ?_⟩
          cases i with
          | zero =>
            injection e1 with e1
            injection e2 with e2
            subst e1 e2
            exact c0
          | succ i =>
            have e1 : (fv.drop 1)[i]? = some v := by simpa using e1
            have e2 : (X'.drop 1)[i]? = some o := by simpa using e2
            rw [List.getElem?_drop] at e1 e2
            exact cy3.2 _ _ _ e1 e2
        refine q _ _ ([o0] ++ X'.drop 1) (fun b o eb nb => w _ _ (k3.k _ _ (u1 _ _ eb) nb (ne_of_none eb nF))) (hp3.same w) (.lst eL3p upd_same (cyF.keep (Kpf.same w)).tg) (fun o ho q e => ?_) ?_
        · rcases List.mem_append.mp ho with h | h
          · rw [List.mem_singleton] at h
            exact okX o0 (List.mem_of_getElem? eo0) q (by rw [← h, e])
          · exact ok3 o (List.mem_of_mem_drop h) q e
        · rw [List.length_append, List.length_drop, l3]
          show 1 + (X.length - 1) = X.length
          omega
end
end Su
/-! ### BJ: the law -/
namespace Su
open PySem PySem.Spec PyProof.Rows L2
open LamX hiding takes0
open Fm
theorem big_is : ((fun (i j : Int) => V.int (i ^ j.toNat)) 10 20) = V.int 100000000000000000000 := congrArg V.int (by decide +kernel)
theorem ExtN.keeps {p : Addr} {H H' : Hp} (e : ExtN H H') : Keeps p H H' := ⟨fun a vs _ h => e _ _ h (fun _ z => nomatch z), fun a vs h => (KP.ext e).k _ _ h, fun a kvs h => e _ _ h (fun _ z => nomatch z)⟩
theorem EOk.draw {p : Addr} {H0 : Hp} {σ : L2.St} {K : PySem.W.Frag} {te tn : TE} {gs : List G} {i : Nat} {n : Int} (h : EOk p H0 σ te (.lst gs)) (hn : EOk p H0 σ tn (.int n)) (e : σ[i]? = some (some (.ref p))) (l : (gs.length : Int) = n) (h1 : 1 ≤ n) (h2 : n < 1000000) {H : Hp} {Q : VK} (hp : PoolAt H p) (s : Same H0 H)
    (q : ∀ v g H', PoolAt H' p → Kept p H H' → g ∈ gs → Tg p H' v g → Q v H') : tOp (rIxL K) te (tCall spTake [] E0 (tCons (tVar i) (tCons tn tNil))) σ H Q :=
  h H _ hp s fun v H1 hp1 s1 t1 => ⟨_, e, hn H1 _ hp1 (s.trans s1) fun vn H2 hp2 s2 t2 => by
    cases t2
    obtain ⟨a, vs, rfl, na, ea, ta⟩ := lst_at (t1.keep (Keeps.same s2))
    refine ⟨p, n, rfl, hp2, h1, h2, fun r o r0 r1 po => ?_⟩
    have hr : r.toNat < gs.length := by omega
    obtain ⟨v, ev, tv⟩ := ta.at (List.getElem?_eq_getElem hr)
    have hp3 : PoolAt (upd H2 p o) p := ⟨o, upd_same, po⟩
    have k3 : Kept p H2 (upd H2 p o) := Kept.upd p H2 o
    have hl := ta.len
    refine ⟨a, vs, r, v, rfl, rfl, SqL.of (k3 _ _ ea na), atI_int r0 ev, ?_⟩
    exact q v _ _ hp3 ((Kept.same (s1.trans s2)).trans k3) (List.getElem_mem hr) (tv.keep (Keeps.of k3 hp2))⟩
theorem EOk.pow {p : Addr} {H0 : Hp} {σ : L2.St} : EOk p H0 σ (tOp (rI CPow fun i j => V.int (i ^ j.toNat)) (tC (.int 10)) (tC (.int 20))) (.int 100000000000000000000) :=
  fun H Q hp s q => ⟨10, 20, rfl, rfl, ⟨by decide, by decide, by decide⟩, by
    rw [big_is]
    exact q _ H hp (Same.refl H) (.int _)⟩
theorem kind_in {n : Nat} (h1 : 1 ≤ n) (h8 : n ≤ 8) : GW.kindG (.int n) (.str "last") = none := by
  have h : n = 1 ∨ n = 2 ∨ n = 3 ∨ n = 4 ∨ n = 5 ∨ n = 6 ∨ n = 7 ∨ n = 8 := by omega
  rcases h with rfl | rfl | rfl | rfl | rfl | rfl | rfl | rfl <;> decide +kernel
def oddGs : List G := [.int 0, .int 9, .int (-1), .bl true, .non, .str "1", .tup [.int 2], .int 100000000000000000000]
theorem odd_kind {g : G} (h : g ∈ oddGs) : GW.kindG g (.str "last") = some "size" := by
  unfold oddGs at h
  simp only [List.mem_cons, List.not_mem_nil, or_false] at h
  rcases h with rfl | rfl | rfl | rfl | rfl | rfl | rfl | rfl <;> decide +kernel
theorem neF {s : Str} : (!decide (V.str s = V.str s)) = false := by
  rw [decide_eq_true rfl]
  rfl
def spLaw (K : PySem.W.Frag) (TL : List (Addr × Str)) : Sp := fun vs H Q _ => ∃ (a : Addr) (ns : List Int), vs = [.ref a] ∧ SqL K H a (ns.map V.int) ∧ ns.length ≤ 63 ∧ Tabs TL H ∧ ∀ H', Q (.bl true) H'
structure Calls (P : Program) (w : World) (K : PySem.W.Frag) (mg : Str → Option Value) (base : Heap) (TL : List (Addr × Str)) (C CF : Addr) : Prop where
  pool : Cal P w K mg base 1 "_law_pool" ["_law_script", "_law_k"] (spPool K)
  take : Cal P w K mg base 1 "_law_take" ["_law_pool_here", "_law_many"] spTake
  web : Cal P w K mg base 3 "_law_web" ["_law_pool_here", "_law_most_rows", "_law_most_rooms"] spLWeb
  ages : CalX P w K mg base 6 "ages" ["web", "size"] (spAgesX C CF)
  lets : CalX P w K mg base 6 "lets_ages" ["web", "thing", "size"] (spLetsX w C CF)
  nums : Cal P w K mg base 8 "_law_numbers_so" ["_law_web_here", "_law_told", "_law_size"] (spNumSo TL)
  bent : Cal P w K mg base 2 "_law_bent" ["_law_pool_here", "_law_told", "_law_size"] spBent
  walk : Cal P w K mg base 2 "_law_walk_so" ["_law_pool_here", "_law_web_here", "_law_table", "_law_size"] spWalkSo
  kind : CalG P w K mg base 7 "_law_kind" ["_law_way", "_law_web_here", "_law_size"] spKind38
theorem tabs_kept {T : List (Addr × Str)} {p : Addr} {H H' : Hp} (k : Kept p H H') (hp : PoolAt H p) (t : Tabs T H) : Tabs T H' := by
  obtain ⟨o, e, g, m, rfl, _⟩ := hp
  exact FrL.tabs (ins := [p]) (fun c o ec n => k c o ec fun z => n (List.mem_singleton.mpr z)) (fun x hx => by
    rw [List.mem_singleton.mp hx]
    exact ⟨_, e⟩) t
theorem seqN {K : PySem.W.Frag} {H H' : Hp} {a : Addr} {xs : List V} (h : SqL K H a xs) (e : ∀ o, H a = some o → (∀ ps, o ≠ .tbl ps) → H' a = some o) : SqL K H' a xs := by
  rcases h with (h | ⟨ob, h⟩) | h
  · exact .inl (.inl (e _ h fun _ z => nomatch z))
  · exact .inl (.inr ⟨ob, e _ h fun _ z => nomatch z⟩)
  · exact .inr h
theorem sc_law : FnScope ["_law_script", "_law_k", "_law_pool_here", "_law_web_here", "_law_size", "_law_told", "_law_turn", "_law_table", "_law_odd", "_law_way"] ["_law_script"] (defScope s_law) := ⟨rfl, rfl, rfl, by decide +kernel, rfl, by decide +kernel, by decide +kernel⟩
section
variable {P : Program} {w : World} {K : PySem.W.Frag} {mg : Str → Option Value} {base : Heap}
theorem ok_law {TL : List (Addr × Str)} {C CF : Addr} {f : Addr} {fd : FuncData} (F : Fun K "law" "law" s_law f fd) (B : Bt mg) (CA : Calls P w K mg base TL C CF) : FnG P w K mg base CX0 9 f fd ["_law_script"] (spLaw K TL) := by
  obtain ⟨c_pool, c_take, c_web, c_ages, c_lets_ages, c_numbers_so, c_bent, c_walk_so, c_kind⟩ := CA
  refine fnG_fun F sc_law (fun vs H Q E h => ?_) (fun cdv A outer s H vs Q E hg hr h => ?_)
  · obtain ⟨a, ns, rfl, _⟩ := h
    rfl
  · obtain ⟨a, ns, rfl, hS, hlen, hT, q⟩ := h
    refine ⟨_, (pss_cons (ps_for PassesOwn.never rfl (pi_range1 (by rfl) B.range (pa_cons (pe_callB (call_max2 rfl) (by rfl) B.max (by decide +kernel) (pa_cons pe_int (pa_cons (pe_callB (call_min2 rfl) (by rfl) B.min (by decide +kernel) (pa_cons (pe_callB call_len_seq (by rfl) B.len PySem.boot_len (pa_cons (pv 0) pa_nil)) (pa_cons pe_int pa_nil))) pa_nil))) pa_nil)) (pg_name (i := 1) sc_law.nd rfl (Or.inl rfl)) (pss_cons (ps_set (i := 2) sc_law.nd rfl (Or.inl rfl) (pe_own c_pool hr (by decide) (by rfl) (pa_cons (pv 0) (pa_cons (pv 1) pa_nil))))
      (pss_cons (ps_set (i := 3) sc_law.nd rfl (Or.inl rfl) (pe_own c_web hr (by decide) (by rfl) (pa_cons (pv 2) (pa_cons pe_int (pa_cons pe_int pa_nil)))))
      (pss_cons (ps_set (i := 4) sc_law.nd rfl (Or.inl rfl) (pe_op op_add pe_int (pe_own c_take hr (by decide) (by rfl) (pa_cons (pv 2) (pa_cons pe_int pa_nil)))))
      (pss_cons (ps_set (i := 5) sc_law.nd rfl (Or.inl rfl) (pe_ownX takes0 c_ages hr (by decide) (by rfl) (pa_cons (pv 3) (pa_cons (pv 4) pa_nil))))
      (pss_cons (ps_if (PW.pt (pw_or (pt_cmpR op_isnot_bl (pe_ownX takes0 c_lets_ages hr (by decide) (by rfl) (pa_cons (pv 3) (pa_cons (pv 5) (pa_cons (pv 4) pa_nil)))) pe_bl (nomark _)) (pw_or1 (pt_not (pt_val (pe_own c_numbers_so hr (by decide) (by rfl) (pa_cons (pv 3) (pa_cons (pv 5) (pa_cons (pv 4) pa_nil))))))))) (pss_one (ps_ret pe_bl)) pss_nil)
      (pss_cons (ps_for PassesOwn.never rfl (pi_range1 (by rfl) B.range (pa_cons pe_int pa_nil)) (pg_name (i := 6) sc_law.nd rfl (Or.inl rfl)) (pss_cons (ps_set (i := 7) sc_law.nd rfl (Or.inl rfl) (pe_ix ix_list (pe_lst (pa_cons (pv 5) (pa_cons (pe_own c_bent hr (by decide) (by rfl) (pa_cons (pv 2) (pa_cons (pv 5) (pa_cons (pv 4) pa_nil)))) pa_nil))) (pe_op op_mod (pv 6) pe_int) (fun _ _ => rfl)))
      (pss_one (ps_if (PW.pt (pw_and (pt_val (pe_ownX takes0 c_lets_ages hr (by decide) (by rfl) (pa_cons (pv 3) (pa_cons (pv 7) (pa_cons (pv 4) pa_nil))))) (pw_and1 (pt_not (pt_val (pe_own c_walk_so hr (by decide) (by rfl) (pa_cons (pv 2) (pa_cons (pv 3) (pa_cons (pv 7) (pa_cons (pv 4) pa_nil)))))))))) (pss_one (ps_ret pe_bl)) pss_nil))))
      (pss_cons (ps_set (i := 8) sc_law.nd rfl (Or.inl rfl) (pe_ix ix_list (pe_lst (pa_cons pe_int (pa_cons pe_int (pa_cons (pe_un un_neg pe_int) (pa_cons pe_bl (pa_cons pe_non (pa_cons pe_str (pa_cons (pe_tupF (pa_cons pe_int pa_nil)) (pa_cons (pe_op op_pow pe_int pe_int) pa_nil))))))))) (pe_own c_take hr (by decide) (by rfl) (pa_cons (pv 2) (pa_cons pe_int pa_nil))) (fun _ _ => rfl)))
      (pss_one (ps_for PassesOwn.never rfl (pi_range1 (by rfl) B.range (pa_cons pe_int pa_nil)) (pg_name (i := 9) sc_law.nd rfl (Or.inl rfl)) (pss_cons (ps_if (PW.pt (pw_or (pt_cmpR op_ne (pe_ownG c_kind hg hr (by decide) (by rfl) (pa_cons (pv 9) (pa_cons (pv 3) (pa_cons (pv 8) pa_nil)))) pe_str (nomark _)) (pw_or1 (pt_cmpR op_ne (pe_ownG c_kind hg hr (by decide) (by rfl) (pa_cons (pv 9) (pa_cons (pe_callTy call_tupleF (by rfl) B.tuple (by decide +kernel) (pa_cons (pv 3) pa_nil)) (pa_cons (pv 8) pa_nil)))) pe_str (nomark _))))) (pss_one (ps_ret pe_bl)) pss_nil)
      (pss_one (ps_if (PW.pt (pw_or (pt_cmpR op_ne (pe_ownG c_kind hg hr (by decide) (by rfl) (pa_cons (pv 9) (pa_cons pe_non (pa_cons (pv 4) pa_nil)))) pe_str (nomark _)) (pw_or1 (pt_cmpR op_ne (pe_ownG c_kind hg hr (by decide) (by rfl) (pa_cons (pv 9) (pa_cons (pv 3) (pa_cons (pv 4) pa_nil)))) pe_str (nomark _))))) (pss_one (ps_ret pe_bl)) pss_nil)))))))))))))
      (pss_one (ps_ret pe_bl))), ?_⟩
    obtain ⟨m, hm, hm2⟩ : ∃ m : Nat, (if (if (3 : Int) < ((ns.map V.int).length : Int) then 3 else ((ns.map V.int).length : Int)) > 1 then (if (3 : Int) < ((ns.map V.int).length : Int) then 3 else ((ns.map V.int).length : Int)) else 1) = (m : Int) ∧ m ≤ 3 := by
      rw [List.length_map]
      refine ⟨(if (if (3 : Int) < (ns.length : Int) then 3 else (ns.length : Int)) > 1 then (if (3 : Int) < (ns.length : Int) then 3 else (ns.length : Int)) else 1).toNat, ?_, ?_⟩
      all_goals
        by_cases e1 : (3 : Int) < (ns.length : Int)
        · simp only [e1, if_true]
          decide
        · simp only [e1, if_false]
          split <;> omega
    refine ⟨_, rfl, a, _, rfl, .inl hS, _, _, rfl, _, _, rfl, ?_⟩
    refine ⟨(m : Int), congrArg (fun z => [V.int z]) hm, by omega, by omega, ?_⟩
    rw [show ((m : Int)).toNat = m by omega]
    refine for_range (lo := 0) (n := m) (fun i σ H2 => ∃ y1 y2 y3 y4 y5 y6 y7 y8 y9 : Option V, σ = [some (.ref a), y1, y2, y3, y4, y5, y6, y7, y8, y9] ∧ SqL K H2 a (ns.map V.int) ∧ Tabs TL H2) ?_ ?_ ?_
    · exact ⟨none, none, none, none, none, none, none, none, none, rfl, hS, hT⟩
    · rintro i σ Hs hi ⟨y1, y2, y3, y4, y5, y6, y7, y8, y9, rfl, hSs, hTs⟩
      refine ⟨_, rfl, _, rfl, a, ns, _, rfl, hSs, by omega, by omega, fun p H1 s1 np hp1 => ?_⟩
      have ek : ∀ {Hx Hy : Hp}, ExtN Hs Hx → Kept p Hx Hy → ExtN Hs Hy := fun e k c o ec n => k _ _ (e _ _ ec n) (ne_of_none ec np)
      refine ⟨_, rfl, p, 8, 5, rfl, hp1, by decide, by decide, by decide, by decide, fun W H3 rs nW k3 hp3 hW okA hmr hSA => ?_⟩
      have eWp : W ≠ p := pool_ne hp1 nW
      have T3 := tabs_kept k3 hp1 (hTs.ext fun b o e => s1 _ _ e)
      have E3 := ek (ExtN.of s1) k3
      clear nW k3 hp1 s1 hTs hT hS
      try dsimp only [gName, tSeq, tAsg]
      refine ⟨_, rfl, p, 8, rfl, hp3, by decide, by decide, fun r1 o1 r10 r11 po1 => ?_⟩
      have hp4 : PoolAt (upd H3 p o1) p := ⟨o1, upd_same, po1⟩
      have k34 : Kept p H3 (upd H3 p o1) := Kept.upd p H3 o1
      have hW4 := hW.kept k34 hp3 eWp
      have T4 := tabs_kept k34 hp3 T3
      have E4 := ek E3 k34
      refine ⟨_, _, rfl, rfl, ?_⟩
      try dsimp only [gName, tSeq, tAsg]
      obtain ⟨n, en⟩ : ∃ n : Nat, 1 + r1 = (n : Int) := ⟨(1 + r1).toNat, by omega⟩
      rw [en]
      have n1 : 1 ≤ n := by omega
      have n8 : n ≤ 8 := by omega
      generalize upd H3 p o1 = H4 at hp4 hW4 T4 E4 ⊢
      clear k34 E3 T3 hp3 hW
      have kn := kind_in n1 n8
      have noT : ∀ {t : Str} {A : Prop}, GW.kindG (.int n) (.str "last") = some t → A := fun {t A} e => by
        rw [kn] at e
        cases e
      refine ⟨_, rfl, _, rfl, .ref W, _, rfl, .inr ⟨p, W, rs, .int n, rfl, hW4, okA, .int _, fun t ek => noT ek, fun s' e h1 h2 ms X L ad own H5 pw mem least s5 nL tat => ?_⟩⟩
      cases e
      have ems := rooms_is pw mem
      subst ems
      have hp5 := hp4.same s5
      have hW5 := hW4.same s5
      have T5 := T4.ext fun b o e => s5 _ _ e
      have E5 := E4.trans (ExtN.of s5)
      have tL5 := tat.tg hp4 nL
      have nLp : L ≠ p := pool_ne hp4 nL
      have okX := okTb_of least.clo.tok
      have lX := least.clo.tok.len
      have pos := okA.pos
      have f80 := okA.few
      have m12 : (roomsR rs).length ≤ 12 := by
        obtain ⟨S, hS5, hin⟩ := hSA
        have := nodup_few (S := S) ((rooms_pw rs).imp fun h => Int.ne_of_lt h) fun k hk => hin k (rooms_mem.mp hk)
        omega
      obtain ⟨lets1, e0⟩ := letsB_least (by omega) least
      obtain ⟨xvs, hL5, cys⟩ := tat.cells hp4
      refine ⟨_, rfl, _, rfl, _, rfl, .ref W, .ref L, .int n, rfl, .inr ⟨p, p, W, rs, .int n, .lst (tbT X), rfl, hW5, okA, .int _, tL5, fun t ek => noT ek, fun s' e h1 h2 ms2 H6 pw2 mem2 s6 => ?_⟩⟩
      cases e
      have ems2 := rooms_is pw2 mem2
      subst ems2
      rw [lets1]
      have hp6 := hp5.same s6
      have hW6 := hW5.same s6
      have T6 := T5.ext fun b o e => s6 _ _ e
      have E6 := E5.trans (ExtN.of s6)
      have hL6 := s6 _ _ hL5
      have tL6 := tL5.keep (Keeps.same s6)
      have cells6 : ∀ (i : Nat) (v : V) (o : Option Pr), xvs[i]? = some v → X[i]? = some o → CellE H6 v o := fun i v o ev eo => by
        have c := (cys.2 i v o ev eo).keep (Kpf.same (p := p) (F := L) s6)
        cases o with
        | none => exact c
        | some q0 =>
          obtain ⟨t, a, b, e1, e2, e3, e4, _⟩ := c
          exact ⟨t, a, b, e1, e2, e3, e4⟩
      refine ⟨_, true, rfl, rfl, _, rfl, ?_⟩
      rw [show (!decide (true = true)) = false from rfl]
      refine iteF ⟨_, rfl, _, rfl, _, rfl, W, L, rs, X, xvs, n, rfl, hW6, okA, hL6, cys.1, cells6, least, n1, n8, T6, fun H7 e7 T7 => ?_⟩
      have E7 := E6.trans e7
      have hW7 := hW6.ext e7
      have hp7 : PoolAt H7 p := by
        obtain ⟨op, eop, gp, mp, rfl, pom⟩ := hp6
        exact ⟨_, e7 _ _ eop (fun _ z => nomatch z), gp, mp, rfl, pom⟩
      have tL7 := tL6.keep (ExtN.keeps (p := p) e7)
      refine ⟨_, rfl, iteF ?_⟩
      clear cells6 hL6 hL5 cys tat T6 T5 T4 hW6 hW5 hW4 tL6 tL5 E6 E5 E4 hp6 hp5 hp4 s5 s6 e7
      try dsimp only [tNext, gName, tSeq, tAsg]
      refine ⟨14, rfl, by decide, by decide, ?_⟩
      refine for_range (lo := 0) (n := 14) (fun j σ H8 => ∃ y6 y7 y8 y9 : Option V, σ = [some (.ref a), some (.int (0 + (i : Int))), some (.ref p), some (.ref W), some (.int n), some (.ref L), y6, y7, y8, y9] ∧ Kept p H7 H8 ∧ PoolAt H8 p) ?_ ?_ ?_
      · exact ⟨_, _, _, _, rfl, Kept.refl p H7, hp7⟩
      · rintro j σ H8 hj ⟨y6, y7, y8, y9, rfl, k8, hp8⟩
        have tL8 := tL7.keep (Keeps.of k8 hp7)
        try dsimp only [gName, tSeq, tAsg]
        refine ⟨_, rfl, _, rfl, _, rfl, _, rfl, p, .ref L, X, (roomsR rs).length, n, rfl, hp8, tL8, okX, by omega, by omega, m12, by omega, by omega, fun v9 H9 Z k9 hp9 tv9 okZ lZ => ?_⟩
        refine ⟨(by show 2 ≤ sizeLine; decide), fun L2 nL2 => ?_⟩
        have u9 : Same H9 (upd H9 L2 (.lst [.ref L, v9])) := same_upd nL2
        have hL2 : (upd H9 L2 (.lst [.ref L, v9])) L2 = some (.lst [.ref L, v9]) := upd_same
        have kA : Kept p H8 (upd H9 L2 (.lst [.ref L, v9])) := k9.trans (Kept.same u9)
        have hpA := hp9.same u9
        have tvA := tv9.keep (Keeps.same u9)
        have tLA := tL8.keep (Keeps.of kA hp8)
        generalize upd H9 L2 (.lst [.ref L, v9]) = HA at kA hpA tvA tLA hL2 ⊢
        have hWA := hW7.kept (k8.trans kA) hp7 eWp
        obtain ⟨vt, Y, evt, tvt, okY, clY⟩ : ∃ (vt : V) (Y : Tb), atI ([.ref L, v9] : List V) ((0 + (j : Int)) % 2) = some vt ∧ Tg p HA vt (.lst (tbT Y)) ∧ OkTb (roomsR rs).length n Y ∧ True := by
          have hj2 : (0 + (j : Int)) % 2 = 0 ∨ (0 + (j : Int)) % 2 = 1 := by omega
          rcases hj2 with z | z
          · rw [z]
            exact ⟨_, X, rfl, tLA, okX, trivial⟩
          · rw [z]
            exact ⟨_, Z, rfl, tvA, okZ, trivial⟩
        refine ⟨_, rfl, _, _, rfl, rfl, (show (0 : Int) < 2 by decide), L2, _, _, vt, rfl, rfl, SqL.of hL2, evt, ?_⟩
        try dsimp only [gName, tSeq, tAsg]
        have kn8 := k8.trans kA
        refine ⟨_, rfl, _, rfl, _, rfl, .ref W, vt, .int n, rfl, .inr ⟨p, p, W, rs, .int n, .lst (tbT Y), rfl, hWA, okA, .int _, tvt, fun t ek => noT ek, fun s' e h1 h2 ms2 HB pw2 mem2 sB => ?_⟩⟩
        cases e
        have ems2 := rooms_is pw2 mem2
        subst ems2
        have hpB := hpA.same sB
        have kB := kn8.trans (Kept.same (p := p) sB)
        cases hl : letsB (roomsR rs) n rs (.lst (tbT Y)) with
        | false => exact ⟨_, rfl, iteF (iteF ⟨_, _, _, _, rfl, kB, hpB⟩)⟩
        | true =>
          have clo := lets_clo pos okY hl
          refine ⟨_, rfl, iteT ⟨_, rfl, _, rfl, _, rfl, _, rfl, p, W, vt, rs, Y, n, rfl, hpB, eWp, hWA.same sB, okA, tvt.keep (Keeps.same sB), clo, n1, n8, fun HC kC hpC => ?_⟩⟩
          exact ⟨_, rfl, iteF ⟨_, _, _, _, rfl, kB.trans kC, hpC⟩⟩
      · rintro σ H8 ⟨y6, y7, y8, y9, rfl, k8, hp8⟩
        have E8 := ek E7 k8
        have T8 := tabs_kept k8 hp7 T7
        have hW8 := hW7.kept k8 hp7 eWp
        clear hW7 T7 E7 tL7 hp7 k8
        try dsimp only [gName, tSeq, tAsg]
        have d1 := fun (σ : L2.St) => EOk.lst (p := p) (H0 := H8) (σ := σ) (EsOk.cons (EOk.int 0) (EsOk.cons (EOk.int 9) (EsOk.cons (EOk.neg 1) (EsOk.cons (EOk.bl true) (EsOk.cons EOk.non (EsOk.cons (EOk.str "1") (EsOk.cons (EOk.tup (EsOk.cons (EOk.int 2) EsOk.nil) (Nat.le_of_ble_eq_true rfl)) (EsOk.cons EOk.pow EsOk.nil)))))))) (Nat.le_of_ble_eq_true rfl)
        refine EOk.draw (n := 8) (d1 _) (EOk.int 8) rfl rfl (by decide) (by decide) hp8 (Same.refl _) (fun vo go H9 hp9 k9 mo to => ?_)
        have mo : go ∈ oddGs := mo
        have kodd := odd_kind mo
        have E9 := ek E8 k9
        have T9 := tabs_kept k9 hp8 T8
        have hW9 := hW8.kept k9 hp8 eWp
        clear d1 hW8 T8 E8 hp8 k9
        try dsimp only [gName, tSeq, tAsg]
        refine ⟨2, rfl, by decide, by decide, ?_⟩
        refine for_range (lo := 0) (n := 2) (fun j σ H10 => ∃ y9 : Option V, σ = [some (.ref a), some (.int (0 + (i : Int))), some (.ref p), some (.ref W), some (.int n), some (.ref L), y6, y7, some vo, y9] ∧ Same H9 H10) ?_ ?_ ?_
        · exact ⟨_, rfl, Same.refl H9⟩
        · rintro j σ H10 hj ⟨y9, rfl, s10⟩
          have hway : (0 + (j : Int)) = 0 ∨ (0 + (j : Int)) = 1 := by omega
          generalize (0 + (j : Int)) = way at hway ⊢
          have hW10 := hW9.same s10
          have to10 := to.keep (Keeps.same s10)
          try dsimp only [gName, tSeq, tAsg]
          refine ⟨_, rfl, _, rfl, _, rfl, way, .ref W, vo, rfl, hway, .inr ⟨p, W, rs, go, rfl, hW10, okA, to10, fun t ek H11 s11 => ?_, fun ⟨z, ez, z1, z8⟩ => ?_⟩⟩
          rotate_left
          · exfalso
            rw [ez] at kodd
            have := kind_in (n := z.toNat) (by omega) (by omega)
            rw [show ((z.toNat : Nat) : Int) = z by omega, kodd] at this
            cases this
          rw [kodd] at ek
          cases ek
          refine ⟨rfl, _, rfl, ?_⟩
          rw [neF]
          refine iteF ?_
          have s911 := s10.trans s11
          have hW11 := hW9.same s911
          have to11 := to.keep (Keeps.same s911)
          have tw11 : Tg p H11 (.ref W) (.lst (rs.map GW.rowT)) := GW.tg_web hW11 eWp
          cases tw11 with
          | @lst _ wws _ nWp eWw tWw =>
          refine ⟨_, rfl, _, rfl, W, wws, rfl, SqL.of eWw, fun tv H12 s12 ntv htv => ?_⟩
          have to12 := to11.keep (Keeps.same s12)
          refine ⟨_, rfl, way, .ref tv, vo, rfl, hway, .inl ⟨p, .tup (rs.map GW.rowT), none, .tup (.inl htv) (tWw.keep (Keeps.same s12)), rfl, fun H13 s13 => ?_⟩⟩
          refine ⟨rfl, _, rfl, ?_⟩
          rw [neF]
          refine iteF ?_
          have s913 := (s911.trans s12).trans s13
          have hW13 := hW9.same s913
          refine ⟨_, rfl, _, rfl, way, .non, _, rfl, hway, .inl ⟨p, .non, none, .non, rfl, fun H14 s14 => ?_⟩⟩
          refine ⟨rfl, _, rfl, ?_⟩
          rw [neF]
          refine iteF ?_
          have s914 := s913.trans s14
          refine ⟨_, rfl, _, rfl, _, rfl, way, .ref W, _, rfl, hway, .inr ⟨p, W, rs, .int n, rfl, hW9.same s914, okA, .int _, fun t ek => noT ek, fun _ H15 s15 => ?_⟩⟩
          refine ⟨rfl, _, rfl, ?_⟩
          rw [show (!decide (V.str ⟨#[]⟩ = V.str "")) = false from by decide +kernel]
          exact iteF ⟨_, rfl, s914.trans s15⟩
        · rintro σ H10 ⟨y9, rfl, s10⟩
          exact ⟨_, _, _, _, _, _, _, _, _, rfl, seqN hSs fun o eo nt => (E9.trans (ExtN.of s10)) _ _ eo nt, T9.ext fun b o e => s10 _ _ e⟩
    · rintro σ H2 ⟨y1, y2, y3, y4, y5, y6, y7, y8, y9, rfl, _, _⟩
      exact q H2
end
end Su
/-! ### G1a: downward, new_number -/
namespace Su
open PySem PySem.Spec PyProof.Rows L2
open LamX hiding takes0
open Fm
def spDownw : Sp := fun vs H Q _ => ∃ (F m : Nat) (a : Addr), vs = [.int F, .ref a] ∧ LkAt H a m ∧ m ≤ 13 ∧ Fits m F ∧ Q (.int (downN m F)) H
def spNewNum : Sp := fun vs H Q _ => ∃ (pl : Addr) (ms : List Int), vs = [.ref pl] ∧ PlAt H pl ms ∧ ms.length ≤ 12 ∧ Q (.int ((2 ^ (ms.length + 1) - 1 : Nat))) H
theorem shr_nat {x k : Nat} : ((x : Int) / 2 ^ k) = ((x >>> k : Nat) : Int) := by
  rw [Nat.shiftRight_eq_div_pow]
  push_cast
  rfl
theorem sc_downward : FnScope ["family", "lacks", "place"] ["family", "lacks"] (defScope s_downward) := ⟨rfl, rfl, rfl, by decide +kernel, rfl, by decide +kernel, by decide +kernel⟩
theorem sc_new_number : FnScope ["places"] ["places"] (defScope s_new_number) := ⟨rfl, rfl, rfl, by decide +kernel, rfl, by decide +kernel, by decide +kernel⟩
section
variable {P : Program} {w : World} {K : PySem.W.Frag} {mg : Str → Option Value} {base : Heap}
theorem ok_new_number (T : At K mg "new_number" s_new_number ["places"]) (B : Bt mg) : Cal P w K mg base 1 "new_number" ["places"] spNewNum := by
  refine cal_of T sc_new_number (fun vs H Q E h => ?_) (fun f cdv A outer s H vs Q E hr h => ?_)
  · obtain ⟨pl, ms, rfl, _⟩ := h
    rfl
  · obtain ⟨pl, ms, rfl, hpl, l12, q⟩ := h
    refine ⟨_, (pss_one (ps_ret (pe_op op_sub (pe_op op_shlN pe_int (pe_op op_add (pe_callB cr_lenF (by rfl) B.len PySem.boot_len (pa_cons (pv 0) pa_nil)) pe_int)) pe_int))), ?_⟩
    obtain ⟨od, hod⟩ := id hpl
    have p1 := pow_small (p := ms.length) (m := 13) (by decide) (by omega)
    refine ⟨_, rfl, pl, _, rfl, .inr ⟨od, hod⟩, _, _, rfl, rfl, 1, ms.length + 1, rfl, (by rw [plK_len]; rfl), shl_ok one_abs (by omega), _, _, rfl, rfl, ?_⟩
    have e : (1 : Int) * 2 ^ (ms.length + 1) - 1 = ((2 ^ (ms.length + 1) - 1 : Nat) : Int) := by
      rw [Int.ofNat_sub Nat.one_le_two_pow, shl_one]
      rfl
    show Q (V.int ((1 : Int) * 2 ^ (ms.length + 1) - 1)) H
    rw [e]
    exact q
theorem ok_downward (T : At K mg "downward" s_downward ["family", "lacks"]) (B : Bt mg) : Cal P w K mg base 2 "downward" ["family", "lacks"] spDownw := by
  refine cal_of T sc_downward (fun vs H Q E h => ?_) (fun f cdv A outer s H vs Q E hr h => ?_)
  · obtain ⟨F, m, a, rfl, _⟩ := h
    rfl
  · obtain ⟨F, m, a, rfl, hl, m12, hf, q⟩ := h
    refine ⟨_, (pss_cons (ps_for PassesOwn.never rfl (pi_range1 (by rfl) B.range (pa_cons (pe_callB call_len_seq (by rfl) B.len PySem.boot_len (pa_cons (pv 1) pa_nil)) pa_nil)) (pg_name (i := 2) sc_downward.nd rfl (Or.inl rfl)) (pss_one (ps_aug (i := 0) sc_downward.nd rfl (Or.inl rfl) (pe_op op_and (pe_op op_shrN (pv 0) (pe_op op_shlN pe_int (pv 2))) (pe_ix ix_list (pv 1) (pv 2) (fun _ _ => rfl))) ip_or)))
      (pss_one (ps_ret (pv 0)))), ?_⟩
    have ll : (lacksV m).length = m := by unfold lacksV; rw [List.length_map, List.length_range]
    refine ⟨_, rfl, a, _, rfl, .inl (SqL.of hl), (m : Int), by rw [ll], by omega, by omega, ?_⟩
    rw [Int.toNat_natCast]
    refine for_range (lo := 0) (n := m) (fun i σ H2 => H2 = H ∧ ∃ y2 : Option V, σ = [some (.int (downT m F i : Nat)), some (.ref a), y2]) ?_ ?_ ?_
    · exact ⟨rfl, none, rfl⟩
    · rintro i σ H2 hi ⟨rfl, y2, rfl⟩
      rw [Int.zero_add]
      have el : (lacksV m)[i]? = some (.int (lackN m i)) := by
        unfold lacksV
        rw [List.getElem?_map, List.getElem?_range hi]
        rfl
      have p1 := pow_small m12 hi
      have fi : Fits m (downT m F i) := downT_fits hf (by omega)
      refine ⟨_, rfl, _, rfl, _, rfl, 1, i, rfl, rfl, shl_ok one_abs (by omega), (downT m F i : Nat), 2 ^ i, rfl, (by rw [shl_one]), _, rfl, _, rfl, a, _, i, .int (lackN m i), rfl, rfl, SqL.of hl, atI_nat el, ((downT m F i >>> 2 ^ i : Nat) : Int), (lackN m i : Nat), (by rw [shr_nat]), rfl, ?_⟩
      refine ⟨_, _, rfl, (show V.int _ = V.int (((downT m F i >>> 2 ^ i) &&& lackN m i : Nat) : Int) from by rw [band_nat]), rfl, some (.int i), ?_⟩
      show [some (V.int (Builtin.bitOr ((downT m F i : Nat) : Int) (((downT m F i >>> 2 ^ i) &&& lackN m i : Nat) : Int))), some (.ref a), some (.int (i : Nat))] = _
      rw [bor_nat]
      rfl
    · rintro σ H2 ⟨rfl, y2, rfl⟩
      exact ⟨_, rfl, q⟩
end
end Su
/-! ### G1: greatests_of -/
namespace Su
open PySem PySem.Spec PyProof.Rows L2
open LamX hiding takes0
open Fm
def spGreat : Sp := fun vs H Q _ => ∃ (F m : Nat) (a : Addr), vs = [.int F, .ref a] ∧ LkAt H a m ∧ m ≤ 13 ∧ Fits m F ∧ Q (.int (greatN m F)) H
theorem sc_greatests_of : FnScope ["family", "lacks", "below", "place"] ["family", "lacks"] (defScope s_greatests_of) := ⟨rfl, rfl, rfl, by decide +kernel, rfl, by decide +kernel, by decide +kernel⟩
section
variable {P : Program} {w : World} {K : PySem.W.Frag} {mg : Str → Option Value} {base : Heap}
theorem ok_greatests (T : At K mg "greatests_of" s_greatests_of ["family", "lacks"]) (B : Bt mg) (mNo : ∃ t, mg "NO_FAMILY" = some (.int 0 t)) : Cal P w K mg base 1 "greatests_of" ["family", "lacks"] spGreat := by
  obtain ⟨tn, mNo⟩ := mNo
  refine cal_of T sc_greatests_of (fun vs H Q E h => ?_) (fun f cdv A outer s H vs Q E hr h => ?_)
  · obtain ⟨F, m, a, rfl, _⟩ := h
    rfl
  · obtain ⟨F, m, a, rfl, hl, m12, hf, q⟩ := h
    refine ⟨_, (pss_cons (ps_set (i := 2) sc_greatests_of.nd rfl (Or.inl rfl) (pe_glob (v := .int 0) rfl mNo ⟨_, rfl⟩))
      (pss_cons (ps_for PassesOwn.never rfl (pi_range1 (by rfl) B.range (pa_cons (pe_callB call_len_seq (by rfl) B.len PySem.boot_len (pa_cons (pv 1) pa_nil)) pa_nil)) (pg_name (i := 3) sc_greatests_of.nd rfl (Or.inl rfl)) (pss_one (ps_aug (i := 2) sc_greatests_of.nd rfl (Or.inl rfl) (pe_op op_and (pe_op op_shrN (pv 0) (pe_op op_shlN pe_int (pv 3))) (pe_ix ix_list (pv 1) (pv 3) (fun _ _ => rfl))) ip_or)))
      (pss_one (ps_ret (pe_op op_sub (pv 0) (pe_op op_and (pv 0) (pv 2))))))), ?_⟩
    have ll : (lacksV m).length = m := by unfold lacksV; rw [List.length_map, List.length_range]
    refine ⟨_, rfl, a, _, rfl, .inl (SqL.of hl), (m : Int), by rw [ll], by omega, by omega, ?_⟩
    rw [Int.toNat_natCast]
    refine for_range (lo := 0) (n := m) (fun i σ H2 => H2 = H ∧ ∃ y3 : Option V, σ = [some (.int F), some (.ref a), some (.int (belTo m F i : Nat)), y3]) ?_ ?_ ?_
    · exact ⟨rfl, none, rfl⟩
    · rintro i σ H2 hi ⟨rfl, y3, rfl⟩
      rw [Int.zero_add]
      have el : (lacksV m)[i]? = some (.int (lackN m i)) := by
        unfold lacksV
        rw [List.getElem?_map, List.getElem?_range hi]
        rfl
      have p1 := pow_small m12 hi
      have fi : Fits m (F) := hf
      refine ⟨_, rfl, _, rfl, _, rfl, 1, i, rfl, rfl, shl_ok one_abs (by omega), (F : Nat), 2 ^ i, rfl, (by rw [shl_one]), _, rfl, _, rfl, a, _, i, .int (lackN m i), rfl, rfl, SqL.of hl, atI_nat el, ((F >>> 2 ^ i : Nat) : Int), (lackN m i : Nat), (by rw [shr_nat]), rfl, ?_⟩
      refine ⟨_, _, rfl, (show V.int _ = V.int (((F >>> 2 ^ i) &&& lackN m i : Nat) : Int) from by rw [band_nat]), rfl, some (.int i), ?_⟩
      show [some (V.int (F : Nat)), some (.ref a), some (V.int (Builtin.bitOr ((belTo m F i : Nat) : Int) (((F >>> 2 ^ i) &&& lackN m i : Nat) : Int))), some (.int (i : Nat))] = _
      rw [bor_nat]
      rfl
    · rintro σ H2 ⟨rfl, y3, rfl⟩
      refine ⟨_, rfl, _, rfl, _, rfl, F, (belTo m F m : Nat), rfl, rfl, F, ((F &&& belTo m F m : Nat) : Int), rfl, ?_, ?_⟩
      · show V.int (Builtin.bitAnd (F : Int) (belTo m F m : Nat)) = _
        rw [band_nat]
      · show Q (V.int ((F : Int) - ((F &&& belTo m F m : Nat) : Int))) H2
        rw [← Int.ofNat_sub Nat.and_le_left]
        exact q
end
end Su
/-! ### G7: told_row, greatest_sets -/
namespace Su
open PySem PySem.Spec PyProof.Rows L2
open LamX hiding takes0
open Fm
theorem sc_told_row : FnScope ["numbers", "places"] ["numbers", "places"] (defScope s_told_row) := ⟨rfl, rfl, rfl, by decide +kernel, rfl, by decide +kernel, by decide +kernel⟩
theorem sc_greatest_sets : FnScope ["web", "room", "places", "lacks", "families", "family"] ["web", "room"] (defScope s_greatest_sets) := ⟨rfl, rfl, rfl, by decide +kernel, rfl, by decide +kernel, by decide +kernel⟩
section
variable {P : Program} {w : World} {K : PySem.W.Frag} {mg : Str → Option Value} {base : Heap}
theorem ok_told {T : List (Addr × Str)} (TD : At K mg "told_row" s_told_row ["numbers", "places"]) (B : Bt mg) (c_new_number : Cal P w K mg base 1 "new_number" ["places"] spNewNum) (c_sorted_sets : Cal P w K mg base 3 "sorted_sets" ["numbers", "places"] (spSorted T)) : Cal P w K mg base 4 "told_row" ["numbers", "places"] (spTold T) := by
  refine cal_of TD sc_told_row (fun vs H Q E h => ?_) (fun f cdv A outer s H vs Q E hr h => ?_)
  · obtain ⟨L, pl, ns, ms, rfl, _⟩ := h
    rfl
  · obtain ⟨L, pl, ns, ms, rfl, hL, l4, hpl, nd, l12, hT, q⟩ := h
    refine ⟨_, (pss_cons (ps_if (pt_cmpR op_in_seq (pe_own c_new_number hr (by decide) (by rfl) (pa_cons (pv 1) pa_nil)) (pv 0) (by rfl)) (pss_one (ps_ret (pe_lst (pa_cons pe_non pa_nil)))) pss_nil)
      (pss_one (ps_ret (pe_own c_sorted_sets hr (by decide) (by rfl) (pa_cons (pv 0) (pa_cons (pv 1) pa_nil)))))), ?_⟩
    have ewt : (ns.map fun r => V.int ((r : Nat) : Int)) = (ns.map fun r => ((r : Nat) : Int)).map V.int := by rw [List.map_map]; rfl
    refine ⟨_, rfl, pl, ms, rfl, hpl, l12, _, rfl, L, _, rfl, .inl (SqL.of hL), rfl, (by rw [ewt]; exact all_flat _), _, rfl, ?_⟩
    rw [ewt, inV_ints]
    have em : (((2 ^ (ms.length + 1) - 1 : Nat)) : Int) ∈ ns.map (fun r => ((r : Nat) : Int)) ↔ 2 ^ (ms.length + 1) - 1 ∈ ns := by
      rw [List.mem_map]
      exact ⟨fun ⟨j, hj, e⟩ => by rw [← Int.ofNat.inj e]; exact hj, fun h => ⟨_, h, rfl⟩⟩
    refine iteB (fun z => ?_) (fun z => ?_)
    · have z : decide ((((2 ^ (ms.length + 1) - 1 : Nat)) : Int) ∈ ns.map (fun r => ((r : Nat) : Int))) = true := z
      have z := em.mp (of_decide_eq_true z)
      refine ⟨(by show 1 ≤ sizeLine; decide), fun p np => ?_⟩
      have sp : Same H (upd H p (.lst [V.non])) := same_upd np
      refine q p _ [V.non] (ExtN.of sp) (fun u => ?_) (NewN.of np) upd_same ?_
      · rw [upd_upd]
        exact hT.ext (same_upd np)
      · unfold toldR
        rw [if_pos z]
        exact rfl
    · have z : decide ((((2 ^ (ms.length + 1) - 1 : Nat)) : Int) ∈ ns.map (fun r => ((r : Nat) : Int))) = false := z
      have z : ¬ 2 ^ (ms.length + 1) - 1 ∈ ns := fun h => by
        rw [decide_eq_true (em.mpr h)] at z
        cases z
      refine ⟨_, rfl, _, rfl, L, pl, ns, ms, rfl, hL, l4, hpl, nd, l12, hT, fun p H' us e t n hp h => q p H' us e t n hp ?_⟩
      unfold toldR
      rw [if_neg z]
      exact h
theorem ok_great_sets {T : List (Addr × Str)} {fc : Addr} (hx : mg "downward" = some (.ref fc)) (TD : At K mg "greatest_sets" s_greatest_sets ["web", "room"]) (B : Bt mg) (c_look_at_web : Cal P w K mg base 5 "look_at_web" ["thing"] spLook) (c_look_at_room : Cal P w K mg base 3 "look_at_room" ["thing"] spLookRoom)
    (c_places_of : Cal P w K mg base 2 "places_of" ["web", "room"] spPlaces) (c_all_lacks : Cal P w K mg base 1 "all_lacks" ["many"] spLacks) (c_spread : Cal P w K mg base 3 "spread" ["web", "first", "places", "lacks", "close"] (spSpread fc fun m F => downN m F))
    (c_family_of : Cal P w K mg base 1 "family_of" ["numbers"] spFamOf) (c_new_number : Cal P w K mg base 1 "new_number" ["places"] spNewNum) (c_greatests_of : Cal P w K mg base 1 "greatests_of" ["family", "lacks"] spGreat) (c_numbers_in : Cal P w K mg base 1 "numbers_in" ["family"] spNums) (c_told_row : Cal P w K mg base 4 "told_row" ["numbers", "places"] (spTold T)) : Cal P w K mg base 6 "greatest_sets" ["web", "room"] (spGreatSets T) := by
  refine cal_of TD sc_greatest_sets (fun vs H Q E h => ?_) (fun f cdv A outer s H vs Q E hr h => ?_)
  · obtain ⟨W, rs, k, rfl, _⟩ := h
    rfl
  · obtain ⟨W, rs, k, rfl, hW, ok, k0, k1, hT, q⟩ := h
    refine ⟨_, (pss_cons (ps_expr (pe_own c_look_at_web hr (by decide) (by rfl) (pa_cons (pv 0) pa_nil)))
      (pss_cons (ps_expr (pe_own c_look_at_room hr (by decide) (by rfl) (pa_cons (pv 1) pa_nil)))
      (pss_cons (ps_set (i := 2) sc_greatest_sets.nd rfl (Or.inr rfl) (pe_own c_places_of hr (by decide) (by rfl) (pa_cons (pv 0) (pa_cons (pv 1) pa_nil))))
      (pss_cons (ps_set (i := 3) sc_greatest_sets.nd rfl (Or.inr rfl) (pe_own c_all_lacks hr (by decide) (by rfl) (pa_cons (pe_op op_add (pe_callB cr_lenF (by rfl) B.len PySem.boot_len (pa_cons (pv 2) pa_nil)) pe_int) pa_nil)))
      (pss_cons (ps_set (i := 4) sc_greatest_sets.nd rfl (Or.inl rfl) (pe_own c_spread hr (by decide) (by rfl) (pa_cons (pv 0) (pa_cons (pe_own c_family_of hr (by decide) (by rfl) (pa_cons (pe_lst (pa_cons (pe_own c_new_number hr (by decide) (by rfl) (pa_cons (pv 2) pa_nil)) pa_nil)) pa_nil)) (pa_cons (pv 2) (pa_cons (pv 3) (pa_cons (pe_glob (v := .ref fc) rfl hx rfl) pa_nil)))))))
      (pss_one (ps_ret (pe_lc (own := [("family", 5)]) (g := (gName 5)) (tt := tYes) (te := (tCall _ [] E0 (tCons (tCall _ [] E0 (tCons (tCall _ [] E0 (tCons (tVar 5) (tCons (tVar 3) tNil))) tNil)) (tCons (tVar 2) tNil)))) (by rfl) sc_greatest_sets.nd (pi_list (pv 4)) (blkOk_by (own := [("family", 5)]) (N := ["web", "room", "places", "lacks", "families", "family"]) (sc := defScope s_greatest_sets) (by decide +kernel)) (fun _ _ _ _ _ => (pg_name (i := 5) sc_greatest_sets.nd rfl (Or.inl rfl))) (fun _ _ _ _ _ => pts_nil) (fun _ _ _ _ _ => (pe_own c_told_row hr (by decide) (by rfl) (pa_cons (pe_own c_numbers_in hr (by decide) (by rfl) (pa_cons (pe_own c_greatests_of hr (by decide) (by rfl) (pa_cons (pv 5) (pa_cons (pv 3) pa_nil))) pa_nil)) (pa_cons (pv 2) pa_nil)))))))))))), ?_⟩
    have l12 : (othR rs k).length ≤ 12 := by
      obtain ⟨S, hS, hin⟩ := id ok.all
      exact Nat.le_trans (List.length_filter_le _ _) (Nat.le_trans (nodup_few ((rooms_pw rs).imp fun h => Int.ne_of_lt h) fun k hk => hin k (rooms_mem.mp hk)) hS)
    have nd : (othR rs k).Nodup := ((rooms_pw rs).imp fun h => Int.ne_of_lt h).filter _
    refine ⟨_, rfl, W, rs, rfl, hW, ok, fun H1 s1 => ?_⟩
    refine ⟨_, rfl, k, rfl, k0, k1, ?_⟩
    refine ⟨_, rfl, _, rfl, W, rs, k, rfl, hW.same s1, ok, fun pl H2 s2 np hpl => ?_⟩
    have t2 := s1.trans s2
    obtain ⟨od, hod⟩ := id hpl
    try dsimp only [gName, tSeq, tAsg]
    refine ⟨_, rfl, pl, _, rfl, .inr ⟨od, hod⟩, _, _, rfl, rfl, (othR rs k).length + 1, (by show [V.int (((plK (othR rs k)).length : Nat) + 1 : Int)] = _; rw [plK_len]; rfl), by omega, fun a H3 s3 na hl => ?_⟩
    have t3 := t2.trans s3
    have hpl3 : PlAt H3 pl (othR rs k) := ⟨od, s3 _ _ hod⟩
    try dsimp only [gName, tSeq, tAsg]
    have e13 : 2 ^ ((othR rs k).length + 1) ≤ 2 ^ 13 := Nat.pow_le_pow_right (by decide) (by omega)
    have epos := Nat.two_pow_pos ((othR rs k).length + 1)
    refine ⟨_, rfl, _, rfl, pl, othR rs k, rfl, hpl3, l12, (by show 1 ≤ sizeLine; decide), fun X nX => ?_⟩
    have sX := same_upd (o := .lst [V.int ((2 ^ ((othR rs k).length + 1) - 1 : Nat))]) nX
    have hX : (upd H3 X (.lst [V.int ((2 ^ ((othR rs k).length + 1) - 1 : Nat))])) X = some (.lst (([2 ^ ((othR rs k).length + 1) - 1] : List Nat).map fun n => V.int (n : Nat))) := upd_same
    have t3x := t3.trans sX
    have hplx : PlAt (upd H3 X (.lst [V.int ((2 ^ ((othR rs k).length + 1) - 1 : Nat))])) pl (othR rs k) := ⟨od, sX _ _ (s3 _ _ hod)⟩
    have hlx : LkAt (upd H3 X (.lst [V.int ((2 ^ ((othR rs k).length + 1) - 1 : Nat))])) a ((othR rs k).length + 1) := sX _ _ hl
    generalize upd H3 X (.lst [V.int ((2 ^ ((othR rs k).length + 1) - 1 : Nat))]) = H3x at sX hX t3x hplx hlx ⊢
    refine ⟨X, _, rfl, hX, (fun n hn => by rw [List.mem_singleton.mp hn]; omega), ?_⟩
    refine ⟨_, rfl, _, rfl, W, pl, a, rs, othR rs k, (othR rs k).length + 1, topN (othR rs k).length, rfl, hW.same t3x, ok, hplx, nd, Nat.le_succ _, hlx, by omega, topN_fits _, fun L Fs H4 s4 nL hL line => ?_⟩
    have t4 := t3x.trans s4
    have hpl4 : PlAt H4 pl (othR rs k) := ⟨od, s4 _ _ (sX _ _ (s3 _ _ hod))⟩
    have hl4 : LkAt H4 a ((othR rs k).length + 1) := s4 _ _ hlx
    have nLH : H L = none := t3x.free nL
    try dsimp only [gName, tSeq, tAsg]
    refine ⟨_, rfl, L, rfl, ⟨_, SqL.of hL⟩, fun D nD => ?_⟩
    have lF : Fs.length ≤ 80 := by
      rw [line.fam.len]
      exact ok.few
    refine lc_list (K := K) (a := L) (xs := Fs.map fun F => V.int (F : Nat)) (fun i H5 => ExtN H4 H5 ∧ Tabs T H5 ∧ ∃ as : List Addr, H5 D = some (.lst (as.map V.ref)) ∧ D ∉ as ∧ GreatRows H4 H5 (othR rs k) (Fs.take i) as) ?_ ?_ ?_ ?_
    · refine ⟨ExtN.of (same_upd nD), (hT.ext t4).ext (same_upd nD), [], upd_same, by simp, ?_, List.nodup_nil, fun i F a h _ => ?_⟩
      · rw [List.take_zero]
      · rw [List.take_zero] at h
        cases h
    · rintro i H5 _ ⟨e5, _⟩
      exact sqL_ext e5 (SqL.of hL)
    · rintro i v H5 hv ⟨e5, T5, as, hD, nDas, lr⟩
      obtain ⟨F, eF, rfl⟩ := map_geti hv
      have fF := line.fam.fits F (List.mem_of_getElem? eF)
      have hl5 : LkAt H5 a ((othR rs k).length + 1) := e5 _ _ hl4 fun ps z => by cases z
      refine ⟨rfl, tyes ?_⟩
      refine ⟨_, rfl, _, rfl, F, _, a, rfl, hl5, by omega, fF, _, (othR rs k).length + 1, rfl, by omega, ?_, fun N H6 ns s6 nN hN ndN memN => ?_⟩
      · exact greatN_fits fF
      have l4 : ns.length ≤ 8192 := by
        have h1 := nat_few ndN fun S hS => greatN_fits fF S ((memN S).mp hS)
        have h3 : 2 ^ 13 = 8192 := by decide
        omega
      have e6 := e5.trans (ExtN.of s6)
      have hpl6 : PlAt H6 pl (othR rs k) := by
        obtain ⟨od4, h⟩ := hpl4
        exact ⟨od4, e6 _ _ h fun ps z => by cases z⟩
      refine ⟨_, rfl, N, pl, ns, othR rs k, rfl, hN, l4, hpl6, nd, l12, T5.ext s6, fun p H7 us eN TU np hp sets => ?_⟩
      have hD6 := s6 _ _ hD
      have hD7 := eN _ _ hD6 fun ps z => by cases z
      have pD : D ≠ p := np.ne hD6 fun ps z => by cases z
      have T7 : Tabs T H7 := by
        have z := TU (.lst us)
        rwa [show upd H7 p (.lst us) = H7 from funext fun b => by
          by_cases c : b = p
          · rw [c, upd_same, hp]
          · rw [upd_ne c]] at z
      have as_at : ∀ a' ∈ as, ∃ us', H6 a' = some (.lst us') := fun a' ha => by
        obtain ⟨j, hj, ej⟩ := List.mem_iff_getElem.mp ha
        have hj2 : j < (Fs.take i).length := by rw [← lr.1]; exact hj
        obtain ⟨_, us', _, h1, _⟩ := lr.2.2 j _ a' (List.getElem?_eq_getElem hj2) (by rw [List.getElem?_eq_getElem hj, ej])
        exact ⟨us', s6 _ _ h1⟩
      have pas : p ∉ as := fun h => by
        obtain ⟨us', h1⟩ := as_at p h
        exact np.ne h1 (fun ps z => by cases z) rfl
      have la : as.length = i := by
        have h1 := lr.1
        have h2 := (List.getElem?_eq_some_iff.mp eF).1
        rw [h1, List.length_take]
        omega
      have i80 := (List.getElem?_eq_some_iff.mp eF).1
      have e7 : ExtN H4 H7 := e6.trans eN
      have n4 : ∀ {a' : Addr}, NewN H6 a' → NewN H4 a' := fun n => newN_back e6 n
      refine ⟨as.map V.ref, hD7, by rw [List.length_map, sizeLine_eq]; omega, fun b o e n => ?_, tabs_lst T7 hD7, as ++ [p], by rw [upd_same, List.map_append]; rfl, fun h => ?_, by rw [List.length_append, lr.1, List.take_add_one, eF, List.length_append]; rfl, ?_, fun j F' a' eF' ea' => ?_⟩
      · rw [upd_ne (ne_of_none e nD)]
        exact e7 b o e n
      · rcases List.mem_append.mp h with h | h
        · exact nDas h
        · exact pD (List.mem_singleton.mp h)
      · rw [List.nodup_append]
        refine ⟨lr.2.1, by simp, fun a1 h1 b1 h2 => ?_⟩
        rw [List.mem_singleton.mp h2]
        rintro rfl
        exact pas h1
      · have kp7 : KP H5 H7 := KP.ext ((ExtN.of s6).trans eN)
        by_cases c : j < as.length
        · rw [List.getElem?_append_left c] at ea'
          rw [List.getElem?_take] at eF'
          have c2 : j < i := by omega
          rw [if_pos (by omega)] at eF'
          obtain ⟨h1, us', ns', h2, h3, h4, h5⟩ := lr.2.2 j F' a' (by rw [List.getElem?_take, if_pos c2]; exact eF') ea'
          have aD : a' ≠ D := fun z => nDas (z ▸ List.mem_of_getElem? ea')
          exact ⟨h1, us', ns', by rw [upd_ne aD]; exact eN _ _ (s6 _ _ h2) fun ps z => (by cases z), h3, h4, (h5.kp kp7).updL hD7⟩
        · have c3 : j = i := by
            have := (List.getElem?_eq_some_iff.mp ea').1
            rw [List.length_append, List.length_singleton] at this
            omega
          subst c3
          rw [← la, List.getElem?_append_right (Nat.le_refl _), Nat.sub_self] at ea'
          cases ea'
          rw [List.getElem?_take, if_pos (Nat.lt_succ_self _), eF] at eF'
          cases eF'
          exact ⟨n4 np, us, ns, by rw [upd_ne pD.symm]; exact hp, ndN, memN, sets.updL hD7⟩
    rintro H5 ⟨e5, T5, as, hD, nDas, lr⟩
    rw [List.length_map, List.take_length] at lr
    have e45 := (ExtN.of t4).trans e5
    exact q D H5 as Fs e45 T5 (NewN.of (t4.free nD)) hD nDas line ⟨lr.1, lr.2.1, fun j F' a' h1 h2 => ⟨newN_back (ExtN.of t4) (lr.2.2 j F' a' h1 h2).1, (lr.2.2 j F' a' h1 h2).2⟩⟩
end
end Su
namespace Su
open PySem PySem.Spec PyProof.Rows L2
open LamX hiding takes0
theorem at_mk {K : PySem.W.Frag} {h : Heap} {mg : Str → Option Value} {x : Str} {st : Stmt} {f : Addr} {fd : FuncData} {ps : List Str} (X : K.In h) (G : h.Ns mainGlobals mg) (a : PySem.W.nsIn K mainGlobals x = some (some (.ref f))) (F : Fun K x x st f fd) (b : Binds K fd ps []) : At K mg x st ps :=
  ⟨f, fd, F, PySem.W.mg_of X G a, b⟩
theorem all_mk {l : PySem.W.OpenLaw} {w : World} {K : PySem.W.Frag} {h : Heap} {mg : Str → Option Value} {fa f1 f2 f3 f4 f5 f6 f7 f8 f9 f10 f11 f12 f13 f14 f15 f16 f17 f18 f19 f20 f21 f22 f23 f24 f25 f26 f27 f28 f29 f30 f31 f32 f33 f34 f35 f36 f37 f38 f39 f40 f41 f42 f43 f44 f45 f46 f47 f48 f49 f50 f51 f52 f53 f54 f55 : Addr} {g1 g2 g3 g4 g5 g6 : Tok} {C1 : Addr} {cdC1 : ClassData} {fI1 cda1 cc1 : Addr} {oc_1 doc_1 pm_1 ct_1 ccl1 cl_1 : Value} {od_1 an_1 cdd1 cld1 : Option Addr} {q_1 t_1 file1 : Str} {osl1 ccs1 csl1 : Array (Option Value)} {vs1 : Array Value} {tf1 : Tok} {p1_1 p2_1 r1_1 r2_1 r3_1 r4_1 r5_1 r6_1 q1_1 q2_1 q3_1 q4_1 : Pos} {C2 : Addr} {cdC2 : ClassData} {fI2 cda2 cc2 : Addr} {oc_2 doc_2 pm_2 ct_2 ccl2 cl_2 : Value} {od_2 an_2 cdd2 cld2 : Option Addr} {q_2 t_2 file2 : Str} {osl2 ccs2 csl2 : Array (Option Value)} {vs2 : Array Value} {tf2 : Tok} {p1_2 p2_2 r1_2 r2_2 r3_2 r4_2 r5_2 r6_2 q1_2 q2_2 q3_2 q4_2 : Pos} {C4 : Addr} {aW aZ : Addr} {u1 u2 u3 u4 u5 u6 u7 : Tok} {dW dZ : Option Addr} {nW nZ : Nat} {slW slZ : Array (Option Value)} {qq : Program} {ctT0 ptT0 : Addr} {eT0 : Value} {ddT0 : Option Addr} {vsT0 : Array Value} {slT0 : Array (Option Value)} {dq0 : DefRec} {aD16 : Addr} {dD16 : Option Addr} {nD16 : Nat} {sD16 : Array (Option Value)} {tk16_0 : Tok} {aD21 : Addr} {dD21 : Option Addr} {nD21 : Nat} {sD21 : Array (Option Value)} {tk21_0 : Tok} (X : K.In h) (G : h.Ns mainGlobals mg) (hfa : mg "law" = some (.ref fa)) (tt : ∀ (y : Str) (dr : DefRec) (c P : Addr), (recsOf qq).find? (fun e => e.name == y) = some dr → PySem.W.tabIn K y = some (c, P) → PySem.W.CodeHd h c P ∧ h.get? P = some tab0)
    {od1 an1 od2 an2 od3 an3 od4 an4 od5 an5 od6 an6 od7 an7 od8 an8 od9 an9 od10 an10 od11 an11 od12 an12 od13 an13 od14 an14 od15 an15 od16 an16 od17 an17 od18 an18 od19 an19 od20 an20 od21 an21 od22 an22 od23 an23 od24 an24 od25 an25 od26 an26 od27 an27 od28 an28 od29 an29 od30 an30 od31 an31 od32 an32 od33 an33 od34 an34 od35 an35 od36 an36 od37 an37 od38 an38 od39 an39 od40 an40 od41 an41 od42 an42 od43 an43 od44 an44 od45 an45 od46 an46 od47 an47 od48 an48 od49 an49 od50 an50 od51 an51 od52 an52 od53 an53 od54 an54 od55 an55 : Option Addr} {sl1 sl2 sl3 sl4 sl5 sl6 sl7 sl8 sl9 sl10 sl11 sl12 sl13 sl14 sl15 sl16 sl17 sl18 sl19 sl20 sl21 sl22 sl23 sl24 sl25 sl26 sl27 sl28 sl29 sl30 sl31 sl32 sl33 sl34 sl35 sl36 sl37 sl38 sl39 sl40 sl41 sl42 sl43 sl44 sl45 sl46 sl47 sl48 sl49 sl50 sl51 sl52 sl53 sl54 sl55 : Array (Option Value)} {oc1 kV1 dc1 pm1 cd1 ct1 oc2 kV2 dc2 pm2 cd2 ct2 oc3 kV3 dc3 pm3 cd3 ct3 oc4 kV4 dc4 pm4 cd4 ct4 oc5 kV5 dc5 pm5 cd5 ct5 oc6 kV6 dc6 pm6 cd6 ct6 oc7 kV7 dc7 pm7 cd7 ct7 oc8 kV8 dc8 pm8 cd8 ct8 oc9 kV9 dc9 pm9 cd9 ct9 oc10 kV10 dc10 pm10 cd10 ct10 oc11 kV11 dc11 pm11 cd11 ct11 oc12 kV12 dc12 pm12 cd12 ct12 oc13 kV13 dc13 pm13 cd13 ct13 oc14 kV14 dc14 pm14 cd14 ct14 oc15 kV15 dc15 pm15 cd15 ct15 oc16 kV16 dc16 pm16 cd16 ct16 oc17 kV17 dc17 pm17 cd17 ct17 oc18 kV18 dc18 pm18 cd18 ct18 oc19 kV19 dc19 pm19 cd19 ct19 oc20 kV20 dc20 pm20 cd20 ct20 oc21 kV21 dc21 pm21 cd21 ct21 oc22 kV22 dc22 pm22 cd22 ct22 oc23 kV23 dc23 pm23 cd23 ct23 oc24 kV24 dc24 pm24 cd24 ct24 oc25 kV25 dc25 pm25 cd25 ct25 oc26 kV26 dc26 pm26 cd26 ct26 oc27 kV27 dc27 pm27 cd27 ct27 oc28 kV28 dc28 pm28 cd28 ct28 oc29 kV29 dc29 pm29 cd29 ct29 oc30 kV30 dc30 pm30 ct30 oc31 kV31 dc31 pm31 cd31 ct31 oc32 kV32 dc32 pm32 cd32 ct32 oc33 kV33 dc33 pm33 cd33 ct33 oc34 kV34 dc34 pm34 cd34 ct34 oc35 kV35 dc35 pm35 cd35 ct35 oc36 kV36 dc36 pm36 cd36 ct36 oc37 kV37 dc37 pm37 cd37 ct37 oc38 kV38 dc38 pm38 cd38 ct38 oc39 kV39 dc39 pm39 cd39 ct39 oc40 kV40 dc40 pm40 cd40 ct40 oc41 kV41 dc41 pm41 cd41 ct41 oc42 kV42 dc42 pm42 cd42 ct42 oc43 kV43 dc43 pm43 cd43 ct43 oc44 kV44 dc44 pm44 cd44 ct44 oc45 kV45 dc45 pm45 cd45 ct45 oc46 kV46 dc46 pm46 cd46 ct46 oc47 kV47 dc47 pm47 cd47 ct47 oc48 kV48 dc48 pm48 cd48 ct48 oc49 kV49 dc49 pm49 cd49 ct49 oc50 kV50 dc50 pm50 cd50 ct50 oc51 kV51 dc51 pm51 cd51 ct51 oc52 kV52 dc52 pm52 cd52 ct52 oc53 kV53 dc53 pm53 cd53 ct53 oc54 kV54 dc54 pm54 cd54 ct54 oc55 kV55 dc55 pm55 cd55 ct55 : Value}
    (a1 : PySem.W.nsIn K mainGlobals "is_whole" = some (some (.ref f1))) (l1 : K.lookup f1 = some ⟨oc1, od1, .func (PySem.W.fnOf "is_whole" "is_whole" (defArgs s_is_whole) (defBody s_is_whole) (defScope s_is_whole) .none kV1 dc1 pm1 an1 cd1 ct1), sl1⟩) (c1 : PySem.W.codeIn K cd1 "is_whole" = true) (k1 : PySem.W.keepIn K (.ref f1) = true)
    (a2 : PySem.W.nsIn K mainGlobals "is_room" = some (some (.ref f2))) (l2 : K.lookup f2 = some ⟨oc2, od2, .func (PySem.W.fnOf "is_room" "is_room" (defArgs s_is_room) (defBody s_is_room) (defScope s_is_room) .none kV2 dc2 pm2 an2 cd2 ct2), sl2⟩) (c2 : PySem.W.codeIn K cd2 "is_room" = true) (k2 : PySem.W.keepIn K (.ref f2) = true)
    (a3 : PySem.W.nsIn K mainGlobals "are_rising" = some (some (.ref f3))) (l3 : K.lookup f3 = some ⟨oc3, od3, .func (PySem.W.fnOf "are_rising" "are_rising" (defArgs s_are_rising) (defBody s_are_rising) (defScope s_are_rising) .none kV3 dc3 pm3 an3 cd3 ct3), sl3⟩) (c3 : PySem.W.codeIn K cd3 "are_rising" = true) (k3 : PySem.W.keepIn K (.ref f3) = true)
    (a4 : PySem.W.nsIn K mainGlobals "are_rooms" = some (some (.ref f4))) (l4 : K.lookup f4 = some ⟨oc4, od4, .func (PySem.W.fnOf "are_rooms" "are_rooms" (defArgs s_are_rooms) (defBody s_are_rooms) (defScope s_are_rooms) .none kV4 dc4 pm4 an4 cd4 ct4), sl4⟩) (c4 : PySem.W.codeIn K cd4 "are_rooms" = true) (k4 : PySem.W.keepIn K (.ref f4) = true)
    (a5 : PySem.W.nsIn K mainGlobals "is_way" = some (some (.ref f5))) (l5 : K.lookup f5 = some ⟨oc5, od5, .func (PySem.W.fnOf "is_way" "is_way" (defArgs s_is_way) (defBody s_is_way) (defScope s_is_way) .none kV5 dc5 pm5 an5 cd5 ct5), sl5⟩) (c5 : PySem.W.codeIn K cd5 "is_way" = true) (k5 : PySem.W.keepIn K (.ref f5) = true)
    (a6 : PySem.W.nsIn K mainGlobals "is_size" = some (some (.ref f6))) (l6 : K.lookup f6 = some ⟨oc6, od6, .func (PySem.W.fnOf "is_size" "is_size" (defArgs s_is_size) (defBody s_is_size) (defScope s_is_size) .none kV6 dc6 pm6 an6 cd6 ct6), sl6⟩) (c6 : PySem.W.codeIn K cd6 "is_size" = true) (k6 : PySem.W.keepIn K (.ref f6) = true)
    (a7 : PySem.W.nsIn K mainGlobals "wrong_part" = some (some (.ref f7))) (l7 : K.lookup f7 = some ⟨oc7, od7, .func (PySem.W.fnOf "wrong_part" "wrong_part" (defArgs s_wrong_part) (defBody s_wrong_part) (defScope s_wrong_part) .none kV7 dc7 pm7 an7 cd7 ct7), sl7⟩) (c7 : PySem.W.codeIn K cd7 "wrong_part" = true) (k7 : PySem.W.keepIn K (.ref f7) = true)
    (a8 : PySem.W.nsIn K mainGlobals "look_at_room" = some (some (.ref f8))) (l8 : K.lookup f8 = some ⟨oc8, od8, .func (PySem.W.fnOf "look_at_room" "look_at_room" (defArgs s_look_at_room) (defBody s_look_at_room) (defScope s_look_at_room) .none kV8 dc8 pm8 an8 cd8 ct8), sl8⟩) (c8 : PySem.W.codeIn K cd8 "look_at_room" = true) (k8 : PySem.W.keepIn K (.ref f8) = true)
    (a9 : PySem.W.nsIn K mainGlobals "look_at_kind" = some (some (.ref f9))) (l9 : K.lookup f9 = some ⟨oc9, od9, .func (PySem.W.fnOf "look_at_kind" "look_at_kind" (defArgs s_look_at_kind) (defBody s_look_at_kind) (defScope s_look_at_kind) .none kV9 dc9 pm9 an9 cd9 ct9), sl9⟩) (c9 : PySem.W.codeIn K cd9 "look_at_kind" = true) (k9 : PySem.W.keepIn K (.ref f9) = true)
    (a10 : PySem.W.nsIn K mainGlobals "are_tos" = some (some (.ref f10))) (l10 : K.lookup f10 = some ⟨oc10, od10, .func (PySem.W.fnOf "are_tos" "are_tos" (defArgs s_are_tos) (defBody s_are_tos) (defScope s_are_tos) .none kV10 dc10 pm10 an10 cd10 ct10), sl10⟩) (c10 : PySem.W.codeIn K cd10 "are_tos" = true) (k10 : PySem.W.keepIn K (.ref f10) = true)
    (a11 : PySem.W.nsIn K mainGlobals "is_row" = some (some (.ref f11))) (l11 : K.lookup f11 = some ⟨oc11, od11, .func (PySem.W.fnOf "is_row" "is_row" (defArgs s_is_row) (defBody s_is_row) (defScope s_is_row) .none kV11 dc11 pm11 an11 cd11 ct11), sl11⟩) (c11 : PySem.W.codeIn K cd11 "is_row" = true) (k11 : PySem.W.keepIn K (.ref f11) = true)
    (a12 : PySem.W.nsIn K mainGlobals "rooms_in" = some (some (.ref f12))) (l12 : K.lookup f12 = some ⟨oc12, od12, .func (PySem.W.fnOf "rooms_in" "rooms_in" (defArgs s_rooms_in) (defBody s_rooms_in) (defScope s_rooms_in) .none kV12 dc12 pm12 an12 cd12 ct12), sl12⟩) (c12 : PySem.W.codeIn K cd12 "rooms_in" = true) (k12 : PySem.W.keepIn K (.ref f12) = true)
    (a13 : PySem.W.nsIn K mainGlobals "look_at_web" = some (some (.ref f13))) (l13 : K.lookup f13 = some ⟨oc13, od13, .func (PySem.W.fnOf "look_at_web" "look_at_web" (defArgs s_look_at_web) (defBody s_look_at_web) (defScope s_look_at_web) .none kV13 dc13 pm13 an13 cd13 ct13), sl13⟩) (c13 : PySem.W.codeIn K cd13 "look_at_web" = true) (k13 : PySem.W.keepIn K (.ref f13) = true)
    (a14 : PySem.W.nsIn K mainGlobals "is_row_number" = some (some (.ref f14))) (l14 : K.lookup f14 = some ⟨oc14, od14, .func (PySem.W.fnOf "is_row_number" "is_row_number" (defArgs s_is_row_number) (defBody s_is_row_number) (defScope s_is_row_number) .none kV14 dc14 pm14 an14 cd14 ct14), sl14⟩) (c14 : PySem.W.codeIn K cd14 "is_row_number" = true) (k14 : PySem.W.keepIn K (.ref f14) = true)
    (a15 : PySem.W.nsIn K mainGlobals "look_at_ask" = some (some (.ref f15))) (l15 : K.lookup f15 = some ⟨oc15, od15, .func (PySem.W.fnOf "look_at_ask" "look_at_ask" (defArgs s_look_at_ask) (defBody s_look_at_ask) (defScope s_look_at_ask) .none kV15 dc15 pm15 an15 cd15 ct15), sl15⟩) (c15 : PySem.W.codeIn K cd15 "look_at_ask" = true) (k15 : PySem.W.keepIn K (.ref f15) = true)
    (a16 : PySem.W.nsIn K mainGlobals "ages" = some (some (.ref f16))) (l16 : K.lookup f16 = some ⟨oc16, od16, .func (PySem.W.fnOf "ages" "ages" (defArgs s_ages) (defBody s_ages) (defScope s_ages) (.ref aD16) kV16 dc16 pm16 an16 cd16 ct16), sl16⟩) (c16 : PySem.W.codeIn K cd16 "ages" = true) (k16 : PySem.W.keepIn K (.ref f16) = true)
    (a17 : PySem.W.nsIn K mainGlobals "first_ages" = some (some (.ref f17))) (l17 : K.lookup f17 = some ⟨oc17, od17, .func (PySem.W.fnOf "first_ages" "first_ages" (defArgs s_first_ages) (defBody s_first_ages) (defScope s_first_ages) .none kV17 dc17 pm17 an17 cd17 ct17), sl17⟩) (c17 : PySem.W.codeIn K cd17 "first_ages" = true) (k17 : PySem.W.keepIn K (.ref f17) = true)
    (a18 : PySem.W.nsIn K mainGlobals "joined_ages" = some (some (.ref f18))) (l18 : K.lookup f18 = some ⟨oc18, od18, .func (PySem.W.fnOf "joined_ages" "joined_ages" (defArgs s_joined_ages) (defBody s_joined_ages) (defScope s_joined_ages) .none kV18 dc18 pm18 an18 cd18 ct18), sl18⟩) (c18 : PySem.W.codeIn K cd18 "joined_ages" = true) (k18 : PySem.W.keepIn K (.ref f18) = true)
    (a19 : PySem.W.nsIn K mainGlobals "behind_ask" = some (some (.ref f19))) (l19 : K.lookup f19 = some ⟨oc19, od19, .func (PySem.W.fnOf "behind_ask" "behind_ask" (defArgs s_behind_ask) (defBody s_behind_ask) (defScope s_behind_ask) .none kV19 dc19 pm19 an19 cd19 ct19), sl19⟩) (c19 : PySem.W.codeIn K cd19 "behind_ask" = true) (k19 : PySem.W.keepIn K (.ref f19) = true)
    (a20 : PySem.W.nsIn K mainGlobals "behind_row" = some (some (.ref f20))) (l20 : K.lookup f20 = some ⟨oc20, od20, .func (PySem.W.fnOf "behind_row" "behind_row" (defArgs s_behind_row) (defBody s_behind_row) (defScope s_behind_row) .none kV20 dc20 pm20 an20 cd20 ct20), sl20⟩) (c20 : PySem.W.codeIn K cd20 "behind_row" = true) (k20 : PySem.W.keepIn K (.ref f20) = true)
    (a21 : PySem.W.nsIn K mainGlobals "lets_ages" = some (some (.ref f21))) (l21 : K.lookup f21 = some ⟨oc21, od21, .func (PySem.W.fnOf "lets_ages" "lets_ages" (defArgs s_lets_ages) (defBody s_lets_ages) (defScope s_lets_ages) (.ref aD21) kV21 dc21 pm21 an21 cd21 ct21), sl21⟩) (c21 : PySem.W.codeIn K cd21 "lets_ages" = true) (k21 : PySem.W.keepIn K (.ref f21) = true)
    (a22 : PySem.W.nsIn K mainGlobals "are_ages" = some (some (.ref f22))) (l22 : K.lookup f22 = some ⟨oc22, od22, .func (PySem.W.fnOf "are_ages" "are_ages" (defArgs s_are_ages) (defBody s_are_ages) (defScope s_are_ages) .none kV22 dc22 pm22 an22 cd22 ct22), sl22⟩) (c22 : PySem.W.codeIn K cd22 "are_ages" = true) (k22 : PySem.W.keepIn K (.ref f22) = true)
    (a23 : PySem.W.nsIn K mainGlobals "is_list_of_ages" = some (some (.ref f23))) (l23 : K.lookup f23 = some ⟨oc23, od23, .func (PySem.W.fnOf "is_list_of_ages" "is_list_of_ages" (defArgs s_is_list_of_ages) (defBody s_is_list_of_ages) (defScope s_is_list_of_ages) .none kV23 dc23 pm23 an23 cd23 ct23), sl23⟩) (c23 : PySem.W.codeIn K cd23 "is_list_of_ages" = true) (k23 : PySem.W.keepIn K (.ref f23) = true)
    (a24 : PySem.W.nsIn K mainGlobals "allows" = some (some (.ref f24))) (l24 : K.lookup f24 = some ⟨oc24, od24, .func (PySem.W.fnOf "allows" "allows" (defArgs s_allows) (defBody s_allows) (defScope s_allows) .none kV24 dc24 pm24 an24 cd24 ct24), sl24⟩) (c24 : PySem.W.codeIn K cd24 "allows" = true) (k24 : PySem.W.keepIn K (.ref f24) = true)
    (a25 : PySem.W.nsIn K mainGlobals "places_of" = some (some (.ref f25))) (l25 : K.lookup f25 = some ⟨oc25, od25, .func (PySem.W.fnOf "places_of" "places_of" (defArgs s_places_of) (defBody s_places_of) (defScope s_places_of) .none kV25 dc25 pm25 an25 cd25 ct25), sl25⟩) (c25 : PySem.W.codeIn K cd25 "places_of" = true) (k25 : PySem.W.keepIn K (.ref f25) = true)
    (a26 : PySem.W.nsIn K mainGlobals "all_lacks" = some (some (.ref f26))) (l26 : K.lookup f26 = some ⟨oc26, od26, .func (PySem.W.fnOf "all_lacks" "all_lacks" (defArgs s_all_lacks) (defBody s_all_lacks) (defScope s_all_lacks) .none kV26 dc26 pm26 an26 cd26 ct26), sl26⟩) (c26 : PySem.W.codeIn K cd26 "all_lacks" = true) (k26 : PySem.W.keepIn K (.ref f26) = true)
    (a27 : PySem.W.nsIn K mainGlobals "rooms_of_set" = some (some (.ref f27))) (l27 : K.lookup f27 = some ⟨oc27, od27, .func (PySem.W.fnOf "rooms_of_set" "rooms_of_set" (defArgs s_rooms_of_set) (defBody s_rooms_of_set) (defScope s_rooms_of_set) .none kV27 dc27 pm27 an27 cd27 ct27), sl27⟩) (c27 : PySem.W.codeIn K cd27 "rooms_of_set" = true) (k27 : PySem.W.keepIn K (.ref f27) = true)
    (a28 : PySem.W.nsIn K mainGlobals "numbers_in" = some (some (.ref f28))) (l28 : K.lookup f28 = some ⟨oc28, od28, .func (PySem.W.fnOf "numbers_in" "numbers_in" (defArgs s_numbers_in) (defBody s_numbers_in) (defScope s_numbers_in) .none kV28 dc28 pm28 an28 cd28 ct28), sl28⟩) (c28 : PySem.W.codeIn K cd28 "numbers_in" = true) (k28 : PySem.W.keepIn K (.ref f28) = true)
    (a29 : PySem.W.nsIn K mainGlobals "family_of" = some (some (.ref f29))) (l29 : K.lookup f29 = some ⟨oc29, od29, .func (PySem.W.fnOf "family_of" "family_of" (defArgs s_family_of) (defBody s_family_of) (defScope s_family_of) .none kV29 dc29 pm29 an29 cd29 ct29), sl29⟩) (c29 : PySem.W.codeIn K cd29 "family_of" = true) (k29 : PySem.W.keepIn K (.ref f29) = true)
    (a30 : PySem.W.nsIn K mainGlobals "sorted_sets" = some (some (.ref f30))) (l30 : K.lookup f30 = some ⟨oc30, od30, .func (PySem.W.fnOf "sorted_sets" "sorted_sets" (defArgs s_sorted_sets) (defBody s_sorted_sets) (defScope s_sorted_sets) .none kV30 dc30 pm30 an30 (.ref ctT0) ct30), sl30⟩) (c30 : PySem.W.codeIn K (.ref ctT0) "sorted_sets" = true) (k30 : PySem.W.keepIn K (.ref f30) = true)
    (a31 : PySem.W.nsIn K mainGlobals "with_room" = some (some (.ref f31))) (l31 : K.lookup f31 = some ⟨oc31, od31, .func (PySem.W.fnOf "with_room" "with_room" (defArgs s_with_room) (defBody s_with_room) (defScope s_with_room) .none kV31 dc31 pm31 an31 cd31 ct31), sl31⟩) (c31 : PySem.W.codeIn K cd31 "with_room" = true) (k31 : PySem.W.keepIn K (.ref f31) = true)
    (a32 : PySem.W.nsIn K mainGlobals "upward" = some (some (.ref f32))) (l32 : K.lookup f32 = some ⟨oc32, od32, .func (PySem.W.fnOf "upward" "upward" (defArgs s_upward) (defBody s_upward) (defScope s_upward) .none kV32 dc32 pm32 an32 cd32 ct32), sl32⟩) (c32 : PySem.W.codeIn K cd32 "upward" = true) (k32 : PySem.W.keepIn K (.ref f32) = true)
    (a33 : PySem.W.nsIn K mainGlobals "downward" = some (some (.ref f33))) (l33 : K.lookup f33 = some ⟨oc33, od33, .func (PySem.W.fnOf "downward" "downward" (defArgs s_downward) (defBody s_downward) (defScope s_downward) .none kV33 dc33 pm33 an33 cd33 ct33), sl33⟩) (c33 : PySem.W.codeIn K cd33 "downward" = true) (k33 : PySem.W.keepIn K (.ref f33) = true)
    (a34 : PySem.W.nsIn K mainGlobals "leasts_of" = some (some (.ref f34))) (l34 : K.lookup f34 = some ⟨oc34, od34, .func (PySem.W.fnOf "leasts_of" "leasts_of" (defArgs s_leasts_of) (defBody s_leasts_of) (defScope s_leasts_of) .none kV34 dc34 pm34 an34 cd34 ct34), sl34⟩) (c34 : PySem.W.codeIn K cd34 "leasts_of" = true) (k34 : PySem.W.keepIn K (.ref f34) = true)
    (a35 : PySem.W.nsIn K mainGlobals "greatests_of" = some (some (.ref f35))) (l35 : K.lookup f35 = some ⟨oc35, od35, .func (PySem.W.fnOf "greatests_of" "greatests_of" (defArgs s_greatests_of) (defBody s_greatests_of) (defScope s_greatests_of) .none kV35 dc35 pm35 an35 cd35 ct35), sl35⟩) (c35 : PySem.W.codeIn K cd35 "greatests_of" = true) (k35 : PySem.W.keepIn K (.ref f35) = true)
    (a36 : PySem.W.nsIn K mainGlobals "behind" = some (some (.ref f36))) (l36 : K.lookup f36 = some ⟨oc36, od36, .func (PySem.W.fnOf "behind" "behind" (defArgs s_behind) (defBody s_behind) (defScope s_behind) .none kV36 dc36 pm36 an36 cd36 ct36), sl36⟩) (c36 : PySem.W.codeIn K cd36 "behind" = true) (k36 : PySem.W.keepIn K (.ref f36) = true)
    (a37 : PySem.W.nsIn K mainGlobals "spread" = some (some (.ref f37))) (l37 : K.lookup f37 = some ⟨oc37, od37, .func (PySem.W.fnOf "spread" "spread" (defArgs s_spread) (defBody s_spread) (defScope s_spread) .none kV37 dc37 pm37 an37 cd37 ct37), sl37⟩) (c37 : PySem.W.codeIn K cd37 "spread" = true) (k37 : PySem.W.keepIn K (.ref f37) = true)
    (a38 : PySem.W.nsIn K mainGlobals "is_within" = some (some (.ref f38))) (l38 : K.lookup f38 = some ⟨oc38, od38, .func (PySem.W.fnOf "is_within" "is_within" (defArgs s_is_within) (defBody s_is_within) (defScope s_is_within) .none kV38 dc38 pm38 an38 cd38 ct38), sl38⟩) (c38 : PySem.W.codeIn K cd38 "is_within" = true) (k38 : PySem.W.keepIn K (.ref f38) = true)
    (a39 : PySem.W.nsIn K mainGlobals "new_number" = some (some (.ref f39))) (l39 : K.lookup f39 = some ⟨oc39, od39, .func (PySem.W.fnOf "new_number" "new_number" (defArgs s_new_number) (defBody s_new_number) (defScope s_new_number) .none kV39 dc39 pm39 an39 cd39 ct39), sl39⟩) (c39 : PySem.W.codeIn K cd39 "new_number" = true) (k39 : PySem.W.keepIn K (.ref f39) = true)
    (a40 : PySem.W.nsIn K mainGlobals "greatest_sets" = some (some (.ref f40))) (l40 : K.lookup f40 = some ⟨oc40, od40, .func (PySem.W.fnOf "greatest_sets" "greatest_sets" (defArgs s_greatest_sets) (defBody s_greatest_sets) (defScope s_greatest_sets) .none kV40 dc40 pm40 an40 cd40 ct40), sl40⟩) (c40 : PySem.W.codeIn K cd40 "greatest_sets" = true) (k40 : PySem.W.keepIn K (.ref f40) = true)
    (a41 : PySem.W.nsIn K mainGlobals "told_row" = some (some (.ref f41))) (l41 : K.lookup f41 = some ⟨oc41, od41, .func (PySem.W.fnOf "told_row" "told_row" (defArgs s_told_row) (defBody s_told_row) (defScope s_told_row) .none kV41 dc41 pm41 an41 cd41 ct41), sl41⟩) (c41 : PySem.W.codeIn K cd41 "told_row" = true) (k41 : PySem.W.keepIn K (.ref f41) = true)
    (a42 : PySem.W.nsIn K mainGlobals "least_sets" = some (some (.ref f42))) (l42 : K.lookup f42 = some ⟨oc42, od42, .func (PySem.W.fnOf "least_sets" "least_sets" (defArgs s_least_sets) (defBody s_least_sets) (defScope s_least_sets) .none kV42 dc42 pm42 an42 cd42 ct42), sl42⟩) (c42 : PySem.W.codeIn K cd42 "least_sets" = true) (k42 : PySem.W.keepIn K (.ref f42) = true)
    (a43 : PySem.W.nsIn K mainGlobals "numbers" = some (some (.ref f43))) (l43 : K.lookup f43 = some ⟨oc43, od43, .func (PySem.W.fnOf "numbers" "numbers" (defArgs s_numbers) (defBody s_numbers) (defScope s_numbers) .none kV43 dc43 pm43 an43 cd43 ct43), sl43⟩) (c43 : PySem.W.codeIn K cd43 "numbers" = true) (k43 : PySem.W.keepIn K (.ref f43) = true)
    (a44 : PySem.W.nsIn K mainGlobals "_law_pool" = some (some (.ref f44))) (l44 : K.lookup f44 = some ⟨oc44, od44, .func (PySem.W.fnOf "_law_pool" "_law_pool" (defArgs s_law_pool) (defBody s_law_pool) (defScope s_law_pool) .none kV44 dc44 pm44 an44 cd44 ct44), sl44⟩) (c44 : PySem.W.codeIn K cd44 "_law_pool" = true) (k44 : PySem.W.keepIn K (.ref f44) = true)
    (a45 : PySem.W.nsIn K mainGlobals "_law_take" = some (some (.ref f45))) (l45 : K.lookup f45 = some ⟨oc45, od45, .func (PySem.W.fnOf "_law_take" "_law_take" (defArgs s_law_take) (defBody s_law_take) (defScope s_law_take) .none kV45 dc45 pm45 an45 cd45 ct45), sl45⟩) (c45 : PySem.W.codeIn K cd45 "_law_take" = true) (k45 : PySem.W.keepIn K (.ref f45) = true)
    (a46 : PySem.W.nsIn K mainGlobals "_law_picked" = some (some (.ref f46))) (l46 : K.lookup f46 = some ⟨oc46, od46, .func (PySem.W.fnOf "_law_picked" "_law_picked" (defArgs s_law_picked) (defBody s_law_picked) (defScope s_law_picked) .none kV46 dc46 pm46 an46 cd46 ct46), sl46⟩) (c46 : PySem.W.codeIn K cd46 "_law_picked" = true) (k46 : PySem.W.keepIn K (.ref f46) = true)
    (a47 : PySem.W.nsIn K mainGlobals "_law_tos" = some (some (.ref f47))) (l47 : K.lookup f47 = some ⟨oc47, od47, .func (PySem.W.fnOf "_law_tos" "_law_tos" (defArgs s_law_tos) (defBody s_law_tos) (defScope s_law_tos) .none kV47 dc47 pm47 an47 cd47 ct47), sl47⟩) (c47 : PySem.W.codeIn K cd47 "_law_tos" = true) (k47 : PySem.W.keepIn K (.ref f47) = true)
    (a48 : PySem.W.nsIn K mainGlobals "_law_web" = some (some (.ref f48))) (l48 : K.lookup f48 = some ⟨oc48, od48, .func (PySem.W.fnOf "_law_web" "_law_web" (defArgs s_law_web) (defBody s_law_web) (defScope s_law_web) .none kV48 dc48 pm48 an48 cd48 ct48), sl48⟩) (c48 : PySem.W.codeIn K cd48 "_law_web" = true) (k48 : PySem.W.keepIn K (.ref f48) = true)
    (a49 : PySem.W.nsIn K mainGlobals "_law_web_rooms" = some (some (.ref f49))) (l49 : K.lookup f49 = some ⟨oc49, od49, .func (PySem.W.fnOf "_law_web_rooms" "_law_web_rooms" (defArgs s_law_web_rooms) (defBody s_law_web_rooms) (defScope s_law_web_rooms) .none kV49 dc49 pm49 an49 cd49 ct49), sl49⟩) (c49 : PySem.W.codeIn K cd49 "_law_web_rooms" = true) (k49 : PySem.W.keepIn K (.ref f49) = true)
    (a50 : PySem.W.nsIn K mainGlobals "_law_lies_so" = some (some (.ref f50))) (l50 : K.lookup f50 = some ⟨oc50, od50, .func (PySem.W.fnOf "_law_lies_so" "_law_lies_so" (defArgs s_law_lies_so) (defBody s_law_lies_so) (defScope s_law_lies_so) .none kV50 dc50 pm50 an50 cd50 ct50), sl50⟩) (c50 : PySem.W.codeIn K cd50 "_law_lies_so" = true) (k50 : PySem.W.keepIn K (.ref f50) = true)
    (a51 : PySem.W.nsIn K mainGlobals "_law_walk_so" = some (some (.ref f51))) (l51 : K.lookup f51 = some ⟨oc51, od51, .func (PySem.W.fnOf "_law_walk_so" "_law_walk_so" (defArgs s_law_walk_so) (defBody s_law_walk_so) (defScope s_law_walk_so) .none kV51 dc51 pm51 an51 cd51 ct51), sl51⟩) (c51 : PySem.W.codeIn K cd51 "_law_walk_so" = true) (k51 : PySem.W.keepIn K (.ref f51) = true)
    (a52 : PySem.W.nsIn K mainGlobals "_law_bent" = some (some (.ref f52))) (l52 : K.lookup f52 = some ⟨oc52, od52, .func (PySem.W.fnOf "_law_bent" "_law_bent" (defArgs s_law_bent) (defBody s_law_bent) (defScope s_law_bent) .none kV52 dc52 pm52 an52 cd52 ct52), sl52⟩) (c52 : PySem.W.codeIn K cd52 "_law_bent" = true) (k52 : PySem.W.keepIn K (.ref f52) = true)
    (a53 : PySem.W.nsIn K mainGlobals "_law_numbers_so" = some (some (.ref f53))) (l53 : K.lookup f53 = some ⟨oc53, od53, .func (PySem.W.fnOf "_law_numbers_so" "_law_numbers_so" (defArgs s_law_numbers_so) (defBody s_law_numbers_so) (defScope s_law_numbers_so) .none kV53 dc53 pm53 an53 cd53 ct53), sl53⟩) (c53 : PySem.W.codeIn K cd53 "_law_numbers_so" = true) (k53 : PySem.W.keepIn K (.ref f53) = true)
    (a54 : PySem.W.nsIn K mainGlobals "_law_kind" = some (some (.ref f54))) (l54 : K.lookup f54 = some ⟨oc54, od54, .func (PySem.W.fnOf "_law_kind" "_law_kind" (defArgs s_law_kind) (defBody s_law_kind) (defScope s_law_kind) .none kV54 dc54 pm54 an54 cd54 ct54), sl54⟩) (c54 : PySem.W.codeIn K cd54 "_law_kind" = true) (k54 : PySem.W.keepIn K (.ref f54) = true)
    (a55 : PySem.W.nsIn K mainGlobals "law" = some (some (.ref f55))) (l55 : K.lookup f55 = some ⟨oc55, od55, .func (PySem.W.fnOf "law" "law" (defArgs s_law) (defBody s_law) (defScope s_law) .none kV55 dc55 pm55 an55 cd55 ct55), sl55⟩) (c55 : PySem.W.codeIn K cd55 "law" = true) (k55 : PySem.W.keepIn K (.ref f55) = true)
    (m1 : PySem.W.nsIn K mainGlobals "LAST_ROOM" = some (some (.int 99 g1)))
    (m2 : PySem.W.nsIn K mainGlobals "MOST_ROWS" = some (some (.int 80 g2)))
    (m3 : PySem.W.nsIn K mainGlobals "MOST_ROOMS" = some (some (.int 12 g3)))
    (m4 : PySem.W.nsIn K mainGlobals "MOST_SLOTS" = some (some (.int 8 g4)))
    (m5 : PySem.W.nsIn K mainGlobals "NO_FAMILY" = some (some (.int 0 g5)))
    (m6 : PySem.W.nsIn K mainGlobals "EMPTY_ALONE" = some (some (.int 1 g6)))
    (eg1 : PySem.W.nsIn K mainGlobals "NoWeb" = some (some (.ref C1)))
    (ek1 : PySem.W.keepIn K (.ref C1) = true)
    (ex1 : PySem.W.subIn K (.ref C1) (.type "BaseException") = some true)
    (et1 : PySem.W.typeIn K (.ref C1) = some (.type "type"))
    (ec1 : PySem.W.clsIn K C1 = some cdC1)
    (ga1 : PySem.W.findIn K (.ref C1) "__getattribute__" = some (some (.builtin "BaseException.__getattribute__")))
    (gg1 : PySem.W.findIn K (.ref C1) "__getattr__" = some none)
    (gc1 : PySem.W.findIn K (.ref C1) "__class__" = some (some (.builtin "object.__class__")))
    (mo1 : PySem.W.mroIn K C1 (.type "object") = some true)
    (ed1 : PySem.W.hasDictIn K C1 = true)
    (ei1 : PySem.W.excInitIn K C1 [.type "ValueError", .type "Exception", .type "BaseException", .type "object"] "ValueError.__new__" = true)
    (eo1 : PySem.W.excOver K C1 [.type "ValueError", .type "Exception", .type "BaseException", .type "object"] = true)
    (es1 : PySem.W.findIn K (.ref C1) "__setattr__" = some (some (.builtin "object.__setattr__")))
    (en1 : PySem.W.findIn K (.ref C1) "row" = some none)
    (ef1 : PySem.W.findIn K (.ref C1) "__init__" = some (some (.ref fI1)))
    (eh1 : PySem.W.isFn K (.ref fI1) = true)
    (ev1 : PySem.W.subIn K (.ref C1) (.type "ValueError") = some true)
    (eu1 : PySem.W.ks_superIn K C1 C1 "__init__" = some (some (.builtin "ValueError.__init__")))
    (em1 : PySem.W.mroIn K C1 (.ref C1) = some true)
    (el1 : K.lookup fI1 = some ⟨oc_1, od_1, .func (PySem.W.ksFn "__init__" q_1 (XC.inA "row" p1_1 p2_1) (XC.inB "row" t_1 r1_1 r2_1 r3_1 r4_1 r5_1 r6_1 q1_1 q2_1 q3_1 q4_1) (XC.inS "row") .none .none doc_1 pm_1 an_1 (.ref cda1) ct_1 cc1), osl1⟩)
    (eq1 : PySem.W.codeIn K (.ref cda1) q_1 = true)
    (ew1 : K.lookup cda1 = some ⟨ccl1, cdd1, .fields vs1, ccs1⟩)
    (ey1 : vs1[2]? = some (.str file1 tf1))
    (ez1 : ((l.prog.main.file : Str) == file1) = true)
    (ea1 : (r3_1.endLine == r5_1.line) = true)
    (eb1 : K.lookup cc1 = some ⟨cl_1, cld1, .cell (some (.ref C1)), csl1⟩)
    (eg2 : PySem.W.nsIn K mainGlobals "NoShelf" = some (some (.ref C2)))
    (ek2 : PySem.W.keepIn K (.ref C2) = true)
    (ex2 : PySem.W.subIn K (.ref C2) (.type "BaseException") = some true)
    (et2 : PySem.W.typeIn K (.ref C2) = some (.type "type"))
    (ec2 : PySem.W.clsIn K C2 = some cdC2)
    (ga2 : PySem.W.findIn K (.ref C2) "__getattribute__" = some (some (.builtin "BaseException.__getattribute__")))
    (gg2 : PySem.W.findIn K (.ref C2) "__getattr__" = some none)
    (gc2 : PySem.W.findIn K (.ref C2) "__class__" = some (some (.builtin "object.__class__")))
    (mo2 : PySem.W.mroIn K C2 (.type "object") = some true)
    (ed2 : PySem.W.hasDictIn K C2 = true)
    (ei2 : PySem.W.excInitIn K C2 [.type "ValueError", .type "Exception", .type "BaseException", .type "object"] "ValueError.__new__" = true)
    (eo2 : PySem.W.excOver K C2 [.type "ValueError", .type "Exception", .type "BaseException", .type "object"] = true)
    (es2 : PySem.W.findIn K (.ref C2) "__setattr__" = some (some (.builtin "object.__setattr__")))
    (en2 : PySem.W.findIn K (.ref C2) "part" = some none)
    (ef2 : PySem.W.findIn K (.ref C2) "__init__" = some (some (.ref fI2)))
    (eh2 : PySem.W.isFn K (.ref fI2) = true)
    (ev2 : PySem.W.subIn K (.ref C2) (.type "ValueError") = some true)
    (eu2 : PySem.W.ks_superIn K C2 C2 "__init__" = some (some (.builtin "ValueError.__init__")))
    (em2 : PySem.W.mroIn K C2 (.ref C2) = some true)
    (el2 : K.lookup fI2 = some ⟨oc_2, od_2, .func (PySem.W.ksFn "__init__" q_2 (XC.inA "part" p1_2 p2_2) (XC.inB "part" t_2 r1_2 r2_2 r3_2 r4_2 r5_2 r6_2 q1_2 q2_2 q3_2 q4_2) (XC.inS "part") .none .none doc_2 pm_2 an_2 (.ref cda2) ct_2 cc2), osl2⟩)
    (eq2 : PySem.W.codeIn K (.ref cda2) q_2 = true)
    (ew2 : K.lookup cda2 = some ⟨ccl2, cdd2, .fields vs2, ccs2⟩)
    (ey2 : vs2[2]? = some (.str file2 tf2))
    (ez2 : ((l.prog.main.file : Str) == file2) = true)
    (ea2 : (r3_2.endLine == r5_2.line) = true)
    (eb2 : K.lookup cc2 = some ⟨cl_2, cld2, .cell (some (.ref C2)), csl2⟩)
    (eg4 : PySem.W.nsIn K mainGlobals "HandError" = some (some (.ref C4)))
    (spG : PySem.W.specialIn K (.builtin "object.__class__") "__get__" = some (some (.builtin "getset_descriptor.__get__")))
    (tkG : PySem.W.takesIn K (.builtin "object.__class__") = some true)
    (nsG : PySem.W.nsIn K mainGlobals "super" = some none)
    (opG : PySem.W.nsIn K cStatics "thirdparty.any" = some none)
    (ntG : (l.prog.main.scope.names.lookup ("super" : Str)).isSome = false)
    (xwh : PySem.W.exmOne K (.ref C1) (.ref C4) = some true)
    (xfh : PySem.W.exmOne K (.ref C2) (.ref C4) = some true)
    (kwf : PySem.W.kitOne K (.ref C1) (.ref C2) = some false)
    (kff : PySem.W.kitOne K (.ref C2) (.ref C2) = some true)
    (kww : PySem.W.kitOne K (.ref C1) (.ref C1) = some true)
    (knf : PySem.W.kitOne K (.type "NoneType") (.ref C2) = some false)
    (knw : PySem.W.kitOne K (.type "NoneType") (.ref C1) = some false)
    (mW : PySem.W.nsIn K mainGlobals "WAYS" = some (some (.ref aW)))
    (mW2 : K.lookup aW = some ⟨.type "tuple", dW, .seq #[.str "last" u1, .str "first" u2, .str "tree" u3] nW, slW⟩)
    (mZ : PySem.W.nsIn K mainGlobals "TREE_SIZES" = some (some (.ref aZ)))
    (mZ2 : K.lookup aZ = some ⟨.type "tuple", dZ, .seq #[.int 1 u4, .int 2 u5, .int 4 u6, .int 8 u7] nZ, slZ⟩)
    (te0 : K.lookup ctT0 = some ⟨eT0, ddT0, .fields vsT0, slT0⟩)
    (tg0 : vsT0[11]? = some (.ref ptT0))
    (tn0 : K.lookup ptT0 = none)
    (gq0 : (recsOf qq).find? (fun e => e.name == ("sorted_sets" : Str)) = some dq0)
    (q16 : K.lookup aD16 = some ⟨.type "tuple", dD16, .seq #[.int 4 tk16_0] nD16, sD16⟩)
    (q21 : K.lookup aD21 = some ⟨.type "tuple", dD21, .seq #[.int 4 tk21_0] nD21, sD21⟩)
    (z1 : PySem.W.nsIn K mainGlobals "len" = some none) (z2 : PySem.W.nsIn K mainGlobals "sum" = some none) (z3 : PySem.W.nsIn K mainGlobals "abs" = some none) (z4 : PySem.W.nsIn K mainGlobals "int" = some none) (z5 : PySem.W.nsIn K mainGlobals "min" = some none) (z6 : PySem.W.nsIn K mainGlobals "max" = some none) (z7 : PySem.W.nsIn K mainGlobals "range" = some none) (z8 : PySem.W.nsIn K mainGlobals "sorted" = some none) (z9 : PySem.W.nsIn K mainGlobals "list" = some none) (z10 : PySem.W.nsIn K mainGlobals "tuple" = some none) (z11 : PySem.W.nsIn K mainGlobals "repr" = some none) (z12 : PySem.W.nsIn K mainGlobals "set" = some none) (z13 : PySem.W.nsIn K mainGlobals "all" = some none) (z14 : PySem.W.nsIn K mainGlobals "isinstance" = some none) (z15 : PySem.W.nsIn K mainGlobals "str" = some none) (z16 : PySem.W.nsIn K mainGlobals "bool" = some none) (z17 : PySem.W.nsIn K mainGlobals "reversed" = some none) (z18 : PySem.W.nsIn K mainGlobals "enumerate" = some none) (z19 : PySem.W.nsIn K mainGlobals "zip" = some none) (z20 : PySem.W.nsIn K mainGlobals "any" = some none) (z21 : PySem.W.nsIn K mainGlobals "dict" = some none) :
    LawT l.prog w K 9 63 "_law_script" mg fa h := by
  have e := hfa.symm.trans (PySem.W.mg_of X G a55)
  cases e
  have B : Bt mg := ⟨PySem.W.mg_none_of X G z1, PySem.W.mg_none_of X G z2, PySem.W.mg_none_of X G z3, PySem.W.mg_none_of X G z4, PySem.W.mg_none_of X G z5, PySem.W.mg_none_of X G z6, PySem.W.mg_none_of X G z7, PySem.W.mg_none_of X G z8, PySem.W.mg_none_of X G z9, PySem.W.mg_none_of X G z10, PySem.W.mg_none_of X G z11, PySem.W.mg_none_of X G z12, PySem.W.mg_none_of X G z13, PySem.W.mg_none_of X G z14, PySem.W.mg_none_of X G z15, PySem.W.mg_none_of X G z16, PySem.W.mg_none_of X G z17, PySem.W.mg_none_of X G z18, PySem.W.mg_none_of X G z19, PySem.W.mg_none_of X G z20, PySem.W.mg_none_of X G z21⟩
  have F1 := fun_mk (st := s_is_whole) l1 c1 k1
  have b1 := F1.binds (ps := ["thing"]) fun _ _ _ _ _ _ us hl => match us, hl with | [_], _ => rfl
  have T1 := at_mk X G a1 F1 b1
  have F2 := fun_mk (st := s_is_room) l2 c2 k2
  have b2 := F2.binds (ps := ["thing"]) fun _ _ _ _ _ _ us hl => match us, hl with | [_], _ => rfl
  have T2 := at_mk X G a2 F2 b2
  have F3 := fun_mk (st := s_are_rising) l3 c3 k3
  have b3 := F3.binds (ps := ["numbers"]) fun _ _ _ _ _ _ us hl => match us, hl with | [_], _ => rfl
  have T3 := at_mk X G a3 F3 b3
  have F4 := fun_mk (st := s_are_rooms) l4 c4 k4
  have b4 := F4.binds (ps := ["thing", "least", "most"]) fun _ _ _ _ _ _ us hl => match us, hl with | [_, _, _], _ => rfl
  have T4 := at_mk X G a4 F4 b4
  have F5 := fun_mk (st := s_is_way) l5 c5 k5
  have b5 := F5.binds (ps := ["thing"]) fun _ _ _ _ _ _ us hl => match us, hl with | [_], _ => rfl
  have T5 := at_mk X G a5 F5 b5
  have F6 := fun_mk (st := s_is_size) l6 c6 k6
  have b6 := F6.binds (ps := ["thing", "way"]) fun _ _ _ _ _ _ us hl => match us, hl with | [_, _], _ => rfl
  have T6 := at_mk X G a6 F6 b6
  have F7 := fun_mk (st := s_wrong_part) l7 c7 k7
  have b7 := F7.binds (ps := ["size", "way", "slots", "bits"]) fun _ _ _ _ _ _ us hl => match us, hl with | [_, _, _, _], _ => rfl
  have T7 := at_mk X G a7 F7 b7
  have F8 := fun_mk (st := s_look_at_room) l8 c8 k8
  have b8 := F8.binds (ps := ["thing"]) fun _ _ _ _ _ _ us hl => match us, hl with | [_], _ => rfl
  have T8 := at_mk X G a8 F8 b8
  have F9 := fun_mk (st := s_look_at_kind) l9 c9 k9
  have b9 := F9.binds (ps := ["size", "way"]) fun _ _ _ _ _ _ us hl => match us, hl with | [_, _], _ => rfl
  have T9 := at_mk X G a9 F9 b9
  have F10 := fun_mk (st := s_are_tos) l10 c10 k10
  have b10 := F10.binds (ps := ["thing", "rows"]) fun _ _ _ _ _ _ us hl => match us, hl with | [_, _], _ => rfl
  have T10 := at_mk X G a10 F10 b10
  have F11 := fun_mk (st := s_is_row) l11 c11 k11
  have b11 := F11.binds (ps := ["thing", "rows"]) fun _ _ _ _ _ _ us hl => match us, hl with | [_, _], _ => rfl
  have T11 := at_mk X G a11 F11 b11
  have F12 := fun_mk (st := s_rooms_in) l12 c12 k12
  have b12 := F12.binds (ps := ["rows"]) fun _ _ _ _ _ _ us hl => match us, hl with | [_], _ => rfl
  have T12 := at_mk X G a12 F12 b12
  have F13 := fun_mk (st := s_look_at_web) l13 c13 k13
  have b13 := F13.binds (ps := ["thing"]) fun _ _ _ _ _ _ us hl => match us, hl with | [_], _ => rfl
  have T13 := at_mk X G a13 F13 b13
  have F14 := fun_mk (st := s_is_row_number) l14 c14 k14
  have b14 := F14.binds (ps := ["thing", "web"]) fun _ _ _ _ _ _ us hl => match us, hl with | [_, _], _ => rfl
  have T14 := at_mk X G a14 F14 b14
  have F15 := fun_mk (st := s_look_at_ask) l15 c15 k15
  have b15 := F15.binds (ps := ["web", "row", "room"]) fun _ _ _ _ _ _ us hl => match us, hl with | [_, _, _], _ => rfl
  have T15 := at_mk X G a15 F15 b15
  have F16 : FunD K "ages" "ages" (defArgs s_ages) (defBody s_ages) (defScope s_ages) [.int 4] [] f16 _ := ⟨⟨oc16, od16, _, kV16, dc16, pm16, an16, cd16, ct16, sl16, rfl, l16, c16, .inr ⟨by simp, aD16, _, [.int 4 tk16_0], nD16, rfl, q16, rfl, .cons ⟨_, rfl⟩ (.nil)⟩, .inl rfl⟩, k16⟩
  have T16 : AtD K mg "ages" s_ages ["web", "size"] [.int 4] := by
    refine ⟨f16, _, F16, PySem.W.mg_of X G a16, fun j hj => ?_⟩
    by_cases e0 : j = 0
    · subst e0
      exact F16.binds1 (ps := ["web", "size"]) 1 0 (by simp) rfl fun T kV doc pm an cdv ct us its hu hi => match us, its, hu, hi with | [_], [_], _, _ => ⟨_, rfl, rfl⟩
    by_cases e1 : j = 1
    · subst e1
      exact F16.binds1 (ps := ["web", "size"]) 2 1 (by simp) rfl fun T kV doc pm an cdv ct us its hu hi => match us, its, hu, hi with | [_, _], [_], _, _ => ⟨_, rfl, rfl⟩
    exact absurd (show j ≤ 1 from hj) (by omega)
  have F17 := fun_mk (st := s_first_ages) l17 c17 k17
  have b17 := F17.binds (ps := ["rooms", "size"]) fun _ _ _ _ _ _ us hl => match us, hl with | [_, _], _ => rfl
  have T17 := at_mk X G a17 F17 b17
  have F18 := fun_mk (st := s_joined_ages) l18 c18 k18
  have b18 := F18.binds (ps := ["one", "other"]) fun _ _ _ _ _ _ us hl => match us, hl with | [_, _], _ => rfl
  have T18 := at_mk X G a18 F18 b18
  have F19 := fun_mk (st := s_behind_ask) l19 c19 k19
  have b19 := F19.binds (ps := ["pair", "place", "size"]) fun _ _ _ _ _ _ us hl => match us, hl with | [_, _, _], _ => rfl
  have T19 := at_mk X G a19 F19 b19
  have F20 := fun_mk (st := s_behind_row) l20 c20 k20
  have b20 := F20.binds (ps := ["pair", "asks", "rooms", "size"]) fun _ _ _ _ _ _ us hl => match us, hl with | [_, _, _, _], _ => rfl
  have T20 := at_mk X G a20 F20 b20
  have F21 : FunD K "lets_ages" "lets_ages" (defArgs s_lets_ages) (defBody s_lets_ages) (defScope s_lets_ages) [.int 4] [] f21 _ := ⟨⟨oc21, od21, _, kV21, dc21, pm21, an21, cd21, ct21, sl21, rfl, l21, c21, .inr ⟨by simp, aD21, _, [.int 4 tk21_0], nD21, rfl, q21, rfl, .cons ⟨_, rfl⟩ (.nil)⟩, .inl rfl⟩, k21⟩
  have T21 : AtD K mg "lets_ages" s_lets_ages ["web", "thing", "size"] [.int 4] := by
    refine ⟨f21, _, F21, PySem.W.mg_of X G a21, fun j hj => ?_⟩
    by_cases e0 : j = 0
    · subst e0
      exact F21.binds1 (ps := ["web", "thing", "size"]) 2 0 (by simp) rfl fun T kV doc pm an cdv ct us its hu hi => match us, its, hu, hi with | [_, _], [_], _, _ => ⟨_, rfl, rfl⟩
    by_cases e1 : j = 1
    · subst e1
      exact F21.binds1 (ps := ["web", "thing", "size"]) 3 1 (by simp) rfl fun T kV doc pm an cdv ct us its hu hi => match us, its, hu, hi with | [_, _, _], [_], _, _ => ⟨_, rfl, rfl⟩
    exact absurd (show j ≤ 1 from hj) (by omega)
  have F22 := fun_mk (st := s_are_ages) l22 c22 k22
  have b22 := F22.binds (ps := ["thing", "rooms", "size"]) fun _ _ _ _ _ _ us hl => match us, hl with | [_, _, _], _ => rfl
  have T22 := at_mk X G a22 F22 b22
  have F23 := fun_mk (st := s_is_list_of_ages) l23 c23 k23
  have b23 := F23.binds (ps := ["thing", "many", "size"]) fun _ _ _ _ _ _ us hl => match us, hl with | [_, _, _], _ => rfl
  have T23 := at_mk X G a23 F23 b23
  have F24 := fun_mk (st := s_allows) l24 c24 k24
  have b24 := F24.binds (ps := ["pair", "come"]) fun _ _ _ _ _ _ us hl => match us, hl with | [_, _], _ => rfl
  have T24 := at_mk X G a24 F24 b24
  have F25 := fun_mk (st := s_places_of) l25 c25 k25
  have b25 := F25.binds (ps := ["web", "room"]) fun _ _ _ _ _ _ us hl => match us, hl with | [_, _], _ => rfl
  have T25 := at_mk X G a25 F25 b25
  have F26 := fun_mk (st := s_all_lacks) l26 c26 k26
  have b26 := F26.binds (ps := ["many"]) fun _ _ _ _ _ _ us hl => match us, hl with | [_], _ => rfl
  have T26 := at_mk X G a26 F26 b26
  have F27 := fun_mk (st := s_rooms_of_set) l27 c27 k27
  have b27 := F27.binds (ps := ["number", "places"]) fun _ _ _ _ _ _ us hl => match us, hl with | [_, _], _ => rfl
  have T27 := at_mk X G a27 F27 b27
  have F28 := fun_mk (st := s_numbers_in) l28 c28 k28
  have b28 := F28.binds (ps := ["family"]) fun _ _ _ _ _ _ us hl => match us, hl with | [_], _ => rfl
  have T28 := at_mk X G a28 F28 b28
  have F29 := fun_mk (st := s_family_of) l29 c29 k29
  have b29 := F29.binds (ps := ["numbers"]) fun _ _ _ _ _ _ us hl => match us, hl with | [_], _ => rfl
  have T29 := at_mk X G a29 F29 b29
  have F30 := fun_mk (st := s_sorted_sets) l30 c30 k30
  have b30 := F30.binds (ps := ["numbers", "places"]) fun _ _ _ _ _ _ us hl => match us, hl with | [_, _], _ => rfl
  have T30 := at_mk X G a30 F30 b30
  have F31 := fun_mk (st := s_with_room) l31 c31 k31
  have b31 := F31.binds (ps := ["family", "place", "lacks"]) fun _ _ _ _ _ _ us hl => match us, hl with | [_, _, _], _ => rfl
  have T31 := at_mk X G a31 F31 b31
  have F32 := fun_mk (st := s_upward) l32 c32 k32
  have b32 := F32.binds (ps := ["family", "lacks"]) fun _ _ _ _ _ _ us hl => match us, hl with | [_, _], _ => rfl
  have T32 := at_mk X G a32 F32 b32
  have F33 := fun_mk (st := s_downward) l33 c33 k33
  have b33 := F33.binds (ps := ["family", "lacks"]) fun _ _ _ _ _ _ us hl => match us, hl with | [_, _], _ => rfl
  have T33 := at_mk X G a33 F33 b33
  have F34 := fun_mk (st := s_leasts_of) l34 c34 k34
  have b34 := F34.binds (ps := ["family", "lacks"]) fun _ _ _ _ _ _ us hl => match us, hl with | [_, _], _ => rfl
  have T34 := at_mk X G a34 F34 b34
  have F35 := fun_mk (st := s_greatests_of) l35 c35 k35
  have b35 := F35.binds (ps := ["family", "lacks"]) fun _ _ _ _ _ _ us hl => match us, hl with | [_, _], _ => rfl
  have T35 := at_mk X G a35 F35 b35
  have F36 := fun_mk (st := s_behind) l36 c36 k36
  have b36 := F36.binds (ps := ["family", "rooms", "places", "lacks"]) fun _ _ _ _ _ _ us hl => match us, hl with | [_, _, _, _], _ => rfl
  have T36 := at_mk X G a36 F36 b36
  have F37 := fun_mk (st := s_spread) l37 c37 k37
  have b37 := F37.binds (ps := ["web", "first", "places", "lacks", "close"]) fun _ _ _ _ _ _ us hl => match us, hl with | [_, _, _, _, _], _ => rfl
  have T37 := at_mk X G a37 F37 b37
  have F38 := fun_mk (st := s_is_within) l38 c38 k38
  have b38 := F38.binds (ps := ["family", "other"]) fun _ _ _ _ _ _ us hl => match us, hl with | [_, _], _ => rfl
  have T38 := at_mk X G a38 F38 b38
  have F39 := fun_mk (st := s_new_number) l39 c39 k39
  have b39 := F39.binds (ps := ["places"]) fun _ _ _ _ _ _ us hl => match us, hl with | [_], _ => rfl
  have T39 := at_mk X G a39 F39 b39
  have F40 := fun_mk (st := s_greatest_sets) l40 c40 k40
  have b40 := F40.binds (ps := ["web", "room"]) fun _ _ _ _ _ _ us hl => match us, hl with | [_, _], _ => rfl
  have T40 := at_mk X G a40 F40 b40
  have F41 := fun_mk (st := s_told_row) l41 c41 k41
  have b41 := F41.binds (ps := ["numbers", "places"]) fun _ _ _ _ _ _ us hl => match us, hl with | [_, _], _ => rfl
  have T41 := at_mk X G a41 F41 b41
  have F42 := fun_mk (st := s_least_sets) l42 c42 k42
  have b42 := F42.binds (ps := ["web", "room"]) fun _ _ _ _ _ _ us hl => match us, hl with | [_, _], _ => rfl
  have T42 := at_mk X G a42 F42 b42
  have F43 := fun_mk (st := s_numbers) l43 c43 k43
  have b43 := F43.binds (ps := ["web", "row", "room"]) fun _ _ _ _ _ _ us hl => match us, hl with | [_, _, _], _ => rfl
  have T43 := at_mk X G a43 F43 b43
  have F44 := fun_mk (st := s_law_pool) l44 c44 k44
  have b44 := F44.binds (ps := ["_law_script", "_law_k"]) fun _ _ _ _ _ _ us hl => match us, hl with | [_, _], _ => rfl
  have T44 := at_mk X G a44 F44 b44
  have F45 := fun_mk (st := s_law_take) l45 c45 k45
  have b45 := F45.binds (ps := ["_law_pool_here", "_law_many"]) fun _ _ _ _ _ _ us hl => match us, hl with | [_, _], _ => rfl
  have T45 := at_mk X G a45 F45 b45
  have F46 := fun_mk (st := s_law_picked) l46 c46 k46
  have b46 := F46.binds (ps := ["_law_pool_here", "_law_some", "_law_many"]) fun _ _ _ _ _ _ us hl => match us, hl with | [_, _, _], _ => rfl
  have T46 := at_mk X G a46 F46 b46
  have F47 := fun_mk (st := s_law_tos) l47 c47 k47
  have b47 := F47.binds (ps := ["_law_pool_here", "_law_row", "_law_many"]) fun _ _ _ _ _ _ us hl => match us, hl with | [_, _, _], _ => rfl
  have T47 := at_mk X G a47 F47 b47
  have F48 := fun_mk (st := s_law_web) l48 c48 k48
  have b48 := F48.binds (ps := ["_law_pool_here", "_law_most_rows", "_law_most_rooms"]) fun _ _ _ _ _ _ us hl => match us, hl with | [_, _, _], _ => rfl
  have T48 := at_mk X G a48 F48 b48
  have F49 := fun_mk (st := s_law_web_rooms) l49 c49 k49
  have b49 := F49.binds (ps := ["_law_web_here"]) fun _ _ _ _ _ _ us hl => match us, hl with | [_], _ => rfl
  have T49 := at_mk X G a49 F49 b49
  have F50 := fun_mk (st := s_law_lies_so) l50 c50 k50
  have b50 := F50.binds (ps := ["_law_rooms", "_law_one", "_law_slots", "_law_size"]) fun _ _ _ _ _ _ us hl => match us, hl with | [_, _, _, _], _ => rfl
  have T50 := at_mk X G a50 F50 b50
  have F51 := fun_mk (st := s_law_walk_so) l51 c51 k51
  have b51 := F51.binds (ps := ["_law_pool_here", "_law_web_here", "_law_table", "_law_size"]) fun _ _ _ _ _ _ us hl => match us, hl with | [_, _, _, _], _ => rfl
  have T51 := at_mk X G a51 F51 b51
  have F52 := fun_mk (st := s_law_bent) l52 c52 k52
  have b52 := F52.binds (ps := ["_law_pool_here", "_law_told", "_law_size"]) fun _ _ _ _ _ _ us hl => match us, hl with | [_, _, _], _ => rfl
  have T52 := at_mk X G a52 F52 b52
  have F53 := fun_mk (st := s_law_numbers_so) l53 c53 k53
  have b53 := F53.binds (ps := ["_law_web_here", "_law_told", "_law_size"]) fun _ _ _ _ _ _ us hl => match us, hl with | [_, _, _], _ => rfl
  have T53 := at_mk X G a53 F53 b53
  have F54 := fun_mk (st := s_law_kind) l54 c54 k54
  have b54 := F54.binds (ps := ["_law_way", "_law_web_here", "_law_size"]) fun _ _ _ _ _ _ us hl => match us, hl with | [_, _, _], _ => rfl
  have T54 := at_mk X G a54 F54 b54
  have F55 := fun_mk (st := s_law) l55 c55 k55
  have tI0 : PySem.W.tabIn K "sorted_sets" = some (ctT0, ptT0) := by
    unfold PySem.W.tabIn
    rw [a30]
    dsimp only
    rw [l30]
    dsimp only [PySem.W.fnOf]
    rw [te0]
    dsimp only
    rw [tg0]
  have hTb : ∀ H : Hp, (∀ p ∈ ([(ctT0, ptT0)] : List (Addr × Addr)), H p.2 = some (.tbl #[])) → Tabs [(ptT0, qLam "sorted_sets")] H := fun H hT p hp => by
    simp only [List.mem_cons, List.not_mem_nil, or_false] at hp
    rcases hp with rfl
    · exact LamX.TabS.nil (hT (ctT0, ptT0) (List.mem_cons_self))
  refine ⟨PySem.W.fnOf "law" "law" (defArgs s_law) (defBody s_law) (defScope s_law) .none kV55 dc55 pm55 an55 cd55 ct55, [(ctT0, ptT0)], spLaw K [(ptT0, qLam "sorted_sets")], TabK.cons (tt _ _ _ _ gq0 tI0) tn0 (TabK.nil), (fun s v => .of_eq rfl), (fun H a ns hl hT hS => ⟨a, ns, rfl, hS, hl, hTb H hT, fun _ => rfl⟩), fun base _ _ hTB => ?_⟩
  have O1 : XC.Own l.prog K mg "NoWeb" "row" C1 fI1 "ValueError" "ValueError.__new__" "ValueError.__init__" [.type "ValueError", .type "Exception", .type "BaseException", .type "object"] := ⟨XC.fld_row, PySem.W.mg_of X G eg1, ei1, eo1, PySem.F.excBase_ValueError, PySem.F.store_ValueError, PySem.W.kxs_ValueError, es1, en1, ef1, eh1, ek1, ex1, et1, ed1, ev1, eu1, em1, PySem.W.mg_none_of X G nsG, opG, ntG, _, _, _, _, _, _, _, _, _, _, _, _, _, _, _, _, _, _, _, _, _, _, _, _, _, _, _, _, _, _, _, _, el1, eq1, ew1, ey1, ez1, ea1, eb1⟩
  have O2 : XC.Own l.prog K mg "NoShelf" "part" C2 fI2 "ValueError" "ValueError.__new__" "ValueError.__init__" [.type "ValueError", .type "Exception", .type "BaseException", .type "object"] := ⟨XC.fld_part, PySem.W.mg_of X G eg2, ei2, eo2, PySem.F.excBase_ValueError, PySem.F.store_ValueError, PySem.W.kxs_ValueError, es2, en2, ef2, eh2, ek2, ex2, et2, ed2, ev2, eu2, em2, PySem.W.mg_none_of X G nsG, opG, ntG, _, _, _, _, _, _, _, _, _, _, _, _, _, _, _, _, _, _, _, _, _, _, _, _, _, _, _, _, _, _, _, _, el2, eq2, ew2, ey2, ez2, ea2, eb2⟩
  have EK : ErrW K mg C4 C1 C2 := ⟨PySem.W.mg_of X G eg4, PySem.W.mg_of X G eg1, PySem.W.mg_of X G eg2, ⟨by rw [ec1]; rfl, ga1, gg1, ex1, gc1, spG, tkG, mo1, ed1⟩, ⟨by rw [ec2]; rfl, ga2, gg2, ex2, gc2, spG, tkG, mo2, ed2⟩, en2, xwh, xfh, kwf, kff, kww, knf, knw⟩
  have DG : GbW mg := ⟨⟨_, PySem.W.mg_of X G m1⟩, ⟨_, PySem.W.mg_of X G m2⟩, ⟨_, PySem.W.mg_of X G m3⟩⟩
  have DGG : GW.GbW mg := ⟨⟨_, PySem.W.mg_of X G m1⟩, ⟨_, PySem.W.mg_of X G m2⟩, ⟨_, PySem.W.mg_of X G m3⟩⟩
  have DK : GbK K mg := ⟨⟨_, PySem.W.mg_of X G m4⟩, ⟨aW, PySem.W.mg_of X G mW, fun H => .inr ⟨_, _, _, mW2, rfl, rfl, by show 3 ≤ sizeLine; decide, .cons ⟨_, rfl⟩ (.cons ⟨_, rfl⟩ (.cons ⟨_, rfl⟩ .nil))⟩⟩, ⟨aZ, PySem.W.mg_of X G mZ, fun H => .inr ⟨_, _, _, mZ2, rfl, rfl, by show 4 ≤ sizeLine; decide, .cons ⟨_, rfl⟩ (.cons ⟨_, rfl⟩ (.cons ⟨_, rfl⟩ (.cons ⟨_, rfl⟩ .nil)))⟩⟩⟩
  have mNo : ∃ t, mg "NO_FAMILY" = some (.int 0 t) := ⟨_, PySem.W.mg_of X G m5⟩
  have mEm : ∃ t, mg "EMPTY_ALONE" = some (.int 1 t) := ⟨_, PySem.W.mg_of X G m6⟩
  have hdn : mg "downward" = some (.ref f33) := PySem.W.mg_of X G a33
  have hup : mg "upward" = some (.ref f32) := PySem.W.mg_of X G a32
  have TC0 : AtC K mg "sorted_sets" s_sorted_sets ["numbers", "places"] ctT0 := ⟨f30, _, _, _, _, _, _, _, _, l30, c30, k30, PySem.W.mg_of X G a30, b30⟩
  have TT0 : TabT base mg [(ptT0, qLam "sorted_sets")] ctT0 ptT0 (qLam "sorted_sets") := ⟨hTB (ctT0, ptT0) (List.mem_cons_self), List.mem_cons_self, fun p hp e => by
    simp only [List.mem_cons, List.not_mem_nil, or_false] at hp
    rcases hp with rfl
    · exact rfl⟩
  have q1 := GW.ok_whole (P := l.prog) (w := w) (base := base) T1 B
  have q2 := GW.ok_room (P := l.prog) (w := w) (base := base) T2 DGG q1
  have q3 := GW.ok_rising (P := l.prog) (w := w) (base := base) T3 B
  have q4 := GW.ok_row (P := l.prog) (w := w) (base := base) T11 B (GW.ok_rooms T4 B q2 q3) (GW.ok_tos T10 B q1 q3)
  have q5 := GW.ok_rooms_in (P := l.prog) (w := w) (base := base) T12 B
  have q6 := GW.ok_look (P := l.prog) (w := w) (base := base) O1 T13 B DGG q4 q5
  have qk := GW.ok_kind (P := l.prog) (w := w) (base := base) O2 T9 (GW.ok_part T7 (GW.ok_way T5 B DK) (GW.ok_size T6 DK q1))
  have g1 := ok_whole (P := l.prog) (w := w) (base := base) T1 B
  have g2 := ok_room (P := l.prog) (w := w) (base := base) T2 DG g1
  have g3 := ok_rising (P := l.prog) (w := w) (base := base) T3 B
  have g4 := ok_row (P := l.prog) (w := w) (base := base) T11 B (ok_rooms T4 B g2 g3) (ok_tos T10 B g1 g3)
  have ri := ok_rooms_in (P := l.prog) (w := w) (base := base) T12 B
  have g6 := ok_look (P := l.prog) (w := w) (base := base) T13 B DG g4 ri
  have g7 := ok_look_room (P := l.prog) (w := w) (base := base) T8 g2
  have lk := ok_look_askV (P := l.prog) (w := w) (base := base) T15 (ok_row_no T14 B g1) g2
  have pl := ok_places (P := l.prog) (w := w) (base := base) T25 B ri
  have la := ok_all_lacks (P := l.prog) (w := w) (base := base) T26 B
  have wr := ok_with_room (P := l.prog) (w := w) (base := base) T31
  have up := ok_upward (P := l.prog) (w := w) (base := base) T32 B wr
  have dn := ok_downward (P := l.prog) (w := w) (base := base) T33 B
  have nn := ok_new_number (P := l.prog) (w := w) (base := base) T39 B
  have fo := ok_family_of (P := l.prog) (w := w) (base := base) T29 B mNo
  have lo := ok_leasts (P := l.prog) (w := w) (base := base) T34 B mNo
  have go := ok_greatests (P := l.prog) (w := w) (base := base) T35 B mNo
  have wi := ok_within (P := l.prog) (w := w) (base := base) T38
  have be := ok_behindN (P := l.prog) (w := w) (base := base) T36 B mNo mEm wr
  have spu := ok_spread (P := l.prog) (w := w) (base := base) (x := "upward") (CL := fun m F => Fm.upN m F) hup (fun _ _ h => Fm.upN_fits h) (fun m => upN_zero m) T37 B mNo up be wi
  have spd := ok_spread (P := l.prog) (w := w) (base := base) (x := "downward") (CL := fun m F => Fm.downN m F) hdn (fun _ _ h => Fm.downN_fits h) (fun m => Fm.downN_zero m) T37 B mNo dn be wi
  have nu := ok_numbers (P := l.prog) (w := w) (base := base) T28 B mNo
  have ro := ok_rooms_of (P := l.prog) (w := w) (base := base) T27 B
  have ss := ok_sorted (P := l.prog) (w := w) (base := base) TC0 TT0 B ro
  have ls := ok_least_sets (P := l.prog) (w := w) (base := base) hup T42 B mEm g6 g7 pl la spu lo nu ss
  have tr := ok_told (P := l.prog) (w := w) (base := base) T41 B nn ss
  have gs := ok_great_sets (P := l.prog) (w := w) (base := base) hdn T40 B g6 g7 pl la spd fo nn go nu tr
  have nb := ok_numbersOf (P := l.prog) (w := w) (base := base) T43 B g6 lk ls gs
  have fi := ok_first (P := l.prog) (w := w) (base := base) T17 B
  have ja := ok_joined (P := l.prog) (w := w) (base := base) T18 B
  have br := ok_brow (P := l.prog) (w := w) (base := base) T20 B ja (ok_bask T19 B)
  have ag := ok_agesX (P := l.prog) (w := w) (base := base) T16 B q6 qk ri fi ja br
  have lt := ok_letsX (P := l.prog) (w := w) (base := base) T21 B q6 qk ri fi (ok_pr T22 B (ok_nl T23 B (ok_wholeA T1 B))) br (ok_allows T24 ja)
  have t1 := ok_take (P := l.prog) (w := w) (base := base) T45
  have t2 := ok_picked (P := l.prog) (w := w) (base := base) T46 B t1
  have lr := ok_lrooms (P := l.prog) (w := w) (base := base) T49 B
  have li := ok_lies (P := l.prog) (w := w) (base := base) T50 B
  exact ok_law F55 B ⟨ok_pool T44 B, t1, ok_lweb T48 B t1 t2 (ok_ltos T47 B t1), ag, lt, ok_numso T53 B lr nb, ok_bent T52 B t1, ok_walkso T51 B t1 lr li, ok_kind38 EK T54 B ag lt⟩
end Su
open PySem PySem.W PyProof.Rows
set_option maxRecDepth 100000 in
set_option maxHeartbeats 0 in
theorem PySem.Challenge.cw_surehand_k38_whole_ages_hold_holds : PySem.Challenge.rw_surehand_k38_whole_ages_hold.Holds := by
  w_on; o_law; k_head; (case hw => w_witness2)
  k_fill
  refine Su.walk_ofT (l := PySem.Challenge.rw_surehand_k38_whole_ages_hold) (n := 63) (k := 9) (x := "_law_script") rfl (by decide) rfl ⟨rfl, by decide, by decide⟩ (fun w h Y => PySem.W.km_in_of Y) ?F
  case F =>
    intro w mg fa h KX G hmg tt
    refine' Su.all_mk KX G hmg tt ?a1 ?l1 ?c1 ?k1 ?a2 ?l2 ?c2 ?k2 ?a3 ?l3 ?c3 ?k3 ?a4 ?l4 ?c4 ?k4 ?a5 ?l5 ?c5 ?k5 ?a6 ?l6 ?c6 ?k6 ?a7 ?l7 ?c7 ?k7 ?a8 ?l8 ?c8 ?k8 ?a9 ?l9 ?c9 ?k9 ?a10 ?l10 ?c10 ?k10 ?a11 ?l11 ?c11 ?k11 ?a12 ?l12 ?c12 ?k12 ?a13 ?l13 ?c13 ?k13 ?a14 ?l14 ?c14 ?k14 ?a15 ?l15 ?c15 ?k15 ?a16 ?l16 ?c16 ?k16 ?a17 ?l17 ?c17 ?k17 ?a18 ?l18 ?c18 ?k18 ?a19 ?l19 ?c19 ?k19 ?a20 ?l20 ?c20 ?k20 ?a21 ?l21 ?c21 ?k21 ?a22 ?l22 ?c22 ?k22 ?a23 ?l23 ?c23 ?k23 ?a24 ?l24 ?c24 ?k24 ?a25 ?l25 ?c25 ?k25 ?a26 ?l26 ?c26 ?k26 ?a27 ?l27 ?c27 ?k27 ?a28 ?l28 ?c28 ?k28 ?a29 ?l29 ?c29 ?k29 ?a30 ?l30 ?c30 ?k30 ?a31 ?l31 ?c31 ?k31 ?a32 ?l32 ?c32 ?k32 ?a33 ?l33 ?c33 ?k33 ?a34 ?l34 ?c34 ?k34 ?a35 ?l35 ?c35 ?k35 ?a36 ?l36 ?c36 ?k36 ?a37 ?l37 ?c37 ?k37 ?a38 ?l38 ?c38 ?k38 ?a39 ?l39 ?c39 ?k39 ?a40 ?l40 ?c40 ?k40 ?a41 ?l41 ?c41 ?k41 ?a42 ?l42 ?c42 ?k42 ?a43 ?l43 ?c43 ?k43 ?a44 ?l44 ?c44 ?k44 ?a45 ?l45 ?c45 ?k45 ?a46 ?l46 ?c46 ?k46 ?a47 ?l47 ?c47 ?k47 ?a48 ?l48 ?c48 ?k48 ?a49 ?l49 ?c49 ?k49 ?a50 ?l50 ?c50 ?k50 ?a51 ?l51 ?c51 ?k51 ?a52 ?l52 ?c52 ?k52 ?a53 ?l53 ?c53 ?k53 ?a54 ?l54 ?c54 ?k54 ?a55 ?l55 ?c55 ?k55 ?m1 ?m2 ?m3 ?m4 ?m5 ?m6 ?eg1 ?ek1 ?ex1 ?et1 ?ec1 ?ga1 ?gg1 ?gc1 ?mo1 ?ed1 ?ei1 ?eo1 ?es1 ?en1 ?ef1 ?eh1 ?ev1 ?eu1 ?em1 ?el1 ?eq1 ?ew1 ?ey1 ?ez1 ?ea1 ?eb1 ?eg2 ?ek2 ?ex2 ?et2 ?ec2 ?ga2 ?gg2 ?gc2 ?mo2 ?ed2 ?ei2 ?eo2 ?es2 ?en2 ?ef2 ?eh2 ?ev2 ?eu2 ?em2 ?el2 ?eq2 ?ew2 ?ey2 ?ez2 ?ea2 ?eb2 ?eg4 ?spG ?tkG ?nsG ?opG ?ntG ?xwh ?xfh ?kwf ?kff ?kww ?knf ?knw ?mW ?mW2 ?mZ ?mZ2 ?te0 ?tg0 ?tn0 ?gq0 ?q16 ?q21 ?z1 ?z2 ?z3 ?z4 ?z5 ?z6 ?z7 ?z8 ?z9 ?z10 ?z11 ?z12 ?z13 ?z14 ?z15 ?z16 ?z17 ?z18 ?z19 ?z20 ?z21
    (case a1 => k_is); (case l1 => k_is); (case c1 => k_is); (case k1 => k_is); (case a2 => k_is); (case l2 => k_is)
    (case c2 => k_is); (case k2 => k_is); (case a3 => k_is); (case l3 => k_is); (case c3 => k_is); (case k3 => k_is)
    (case a4 => k_is); (case l4 => k_is); (case c4 => k_is); (case k4 => k_is); (case a5 => k_is); (case l5 => k_is)
    (case c5 => k_is); (case k5 => k_is); (case a6 => k_is); (case l6 => k_is); (case c6 => k_is); (case k6 => k_is)
    (case a7 => k_is); (case l7 => k_is); (case c7 => k_is); (case k7 => k_is); (case a8 => k_is); (case l8 => k_is)
    (case c8 => k_is); (case k8 => k_is); (case a9 => k_is); (case l9 => k_is); (case c9 => k_is); (case k9 => k_is)
    (case a10 => k_is); (case l10 => k_is); (case c10 => k_is); (case k10 => k_is); (case a11 => k_is); (case l11 => k_is)
    (case c11 => k_is); (case k11 => k_is); (case a12 => k_is); (case l12 => k_is); (case c12 => k_is); (case k12 => k_is)
    (case a13 => k_is); (case l13 => k_is); (case c13 => k_is); (case k13 => k_is); (case a14 => k_is); (case l14 => k_is)
    (case c14 => k_is); (case k14 => k_is); (case a15 => k_is); (case l15 => k_is); (case c15 => k_is); (case k15 => k_is)
    (case a16 => k_is); (case l16 => k_is); (case c16 => k_is); (case k16 => k_is); (case a17 => k_is); (case l17 => k_is)
    (case c17 => k_is); (case k17 => k_is); (case a18 => k_is); (case l18 => k_is); (case c18 => k_is); (case k18 => k_is)
    (case a19 => k_is); (case l19 => k_is); (case c19 => k_is); (case k19 => k_is); (case a20 => k_is); (case l20 => k_is)
    (case c20 => k_is); (case k20 => k_is); (case a21 => k_is); (case l21 => k_is); (case c21 => k_is); (case k21 => k_is)
    (case a22 => k_is); (case l22 => k_is); (case c22 => k_is); (case k22 => k_is); (case a23 => k_is); (case l23 => k_is)
    (case c23 => k_is); (case k23 => k_is); (case a24 => k_is); (case l24 => k_is); (case c24 => k_is); (case k24 => k_is)
    (case a25 => k_is); (case l25 => k_is); (case c25 => k_is); (case k25 => k_is); (case a26 => k_is); (case l26 => k_is)
    (case c26 => k_is); (case k26 => k_is); (case a27 => k_is); (case l27 => k_is); (case c27 => k_is); (case k27 => k_is)
    (case a28 => k_is); (case l28 => k_is); (case c28 => k_is); (case k28 => k_is); (case a29 => k_is); (case l29 => k_is)
    (case c29 => k_is); (case k29 => k_is); (case a30 => k_is); (case l30 => k_is); (case c30 => k_is); (case k30 => k_is)
    (case a31 => k_is); (case l31 => k_is); (case c31 => k_is); (case k31 => k_is); (case a32 => k_is); (case l32 => k_is)
    (case c32 => k_is); (case k32 => k_is); (case a33 => k_is); (case l33 => k_is); (case c33 => k_is); (case k33 => k_is)
    (case a34 => k_is); (case l34 => k_is); (case c34 => k_is); (case k34 => k_is); (case a35 => k_is); (case l35 => k_is)
    (case c35 => k_is); (case k35 => k_is); (case a36 => k_is); (case l36 => k_is); (case c36 => k_is); (case k36 => k_is)
    (case a37 => k_is); (case l37 => k_is); (case c37 => k_is); (case k37 => k_is); (case a38 => k_is); (case l38 => k_is)
    (case c38 => k_is); (case k38 => k_is); (case a39 => k_is); (case l39 => k_is); (case c39 => k_is); (case k39 => k_is)
    (case a40 => k_is); (case l40 => k_is); (case c40 => k_is); (case k40 => k_is); (case a41 => k_is); (case l41 => k_is)
    (case c41 => k_is); (case k41 => k_is); (case a42 => k_is); (case l42 => k_is); (case c42 => k_is); (case k42 => k_is)
    (case a43 => k_is); (case l43 => k_is); (case c43 => k_is); (case k43 => k_is); (case a44 => k_is); (case l44 => k_is)
    (case c44 => k_is); (case k44 => k_is); (case a45 => k_is); (case l45 => k_is); (case c45 => k_is); (case k45 => k_is)
    (case a46 => k_is); (case l46 => k_is); (case c46 => k_is); (case k46 => k_is); (case a47 => k_is); (case l47 => k_is)
    (case c47 => k_is); (case k47 => k_is); (case a48 => k_is); (case l48 => k_is); (case c48 => k_is); (case k48 => k_is)
    (case a49 => k_is); (case l49 => k_is); (case c49 => k_is); (case k49 => k_is); (case a50 => k_is); (case l50 => k_is)
    (case c50 => k_is); (case k50 => k_is); (case a51 => k_is); (case l51 => k_is); (case c51 => k_is); (case k51 => k_is)
    (case a52 => k_is); (case l52 => k_is); (case c52 => k_is); (case k52 => k_is); (case a53 => k_is); (case l53 => k_is)
    (case c53 => k_is); (case k53 => k_is); (case a54 => k_is); (case l54 => k_is); (case c54 => k_is); (case k54 => k_is)
    (case a55 => k_is); (case l55 => k_is); (case c55 => k_is); (case k55 => k_is); (case m1 => k_is); (case m2 => k_is)
    (case m3 => k_is); (case m4 => k_is); (case m5 => k_is); (case m6 => k_is); (case eg1 => k_is); (case ek1 => k_is)
    (case ex1 => k_is); (case et1 => k_is); (case ec1 => k_is); (case ga1 => k_is); (case gg1 => k_is); (case gc1 => k_is)
    (case mo1 => k_is); (case ed1 => k_is); (case ei1 => kx_is); (case eo1 => kx_is); (case es1 => k_is); (case en1 => k_is)
    (case ef1 => k_is); (case eh1 => k_is); (case ev1 => k_is); (case eu1 => ks_is); (case em1 => k_is); (case el1 => k_is)
    (case eq1 => k_is); (case ew1 => k_is); (case ey1 => rfl); (case ez1 => first | rfl | decide +kernel); (case ea1 => first | rfl | decide +kernel); (case eb1 => k_is)
    (case eg2 => k_is); (case ek2 => k_is); (case ex2 => k_is); (case et2 => k_is); (case ec2 => k_is); (case ga2 => k_is)
    (case gg2 => k_is); (case gc2 => k_is); (case mo2 => k_is); (case ed2 => k_is); (case ei2 => kx_is); (case eo2 => kx_is)
    (case es2 => k_is); (case en2 => k_is); (case ef2 => k_is); (case eh2 => k_is); (case ev2 => k_is); (case eu2 => ks_is)
    (case em2 => k_is); (case el2 => k_is); (case eq2 => k_is); (case ew2 => k_is); (case ey2 => rfl); (case ez2 => first | rfl | decide +kernel)
    (case ea2 => first | rfl | decide +kernel); (case eb2 => k_is); (case eg4 => k_is); (case spG => k_is); (case tkG => k_is); (case nsG => k_is)
    (case opG => k_is); (case ntG => first | rfl | decide +kernel); (case xwh => kts_exm); (case xfh => kts_exm); (case kwf => kit_is); (case kff => kit_is)
    (case kww => kit_is); (case knf => kit_is); (case knw => kit_is); (case mW => k_is); (case mW2 => k_is); (case mZ => k_is)
    (case mZ2 => k_is); (case te0 => k_is); (case tg0 => first | rfl | exact rfl); (case tn0 => first | k_is | rfl | decide +kernel); (case gq0 => first | rfl | decide | exact rfl); (case q16 => k_is)
    (case q21 => k_is); (case z1 => k_is); (case z2 => k_is); (case z3 => k_is); (case z4 => k_is); (case z5 => k_is)
    (case z6 => k_is); (case z7 => k_is); (case z8 => k_is); (case z9 => k_is); (case z10 => k_is); (case z11 => k_is)
    (case z12 => k_is); (case z13 => k_is); (case z14 => k_is); (case z15 => k_is); (case z16 => k_is); (case z17 => k_is)
    (case z18 => k_is); (case z19 => k_is); (case z20 => k_is); (case z21 => k_is)

import PyProof.Rows.All
import Wide.All
import OpenK.AllK
import Wide.FinOn
import HandS.ForMost
import HandS.AnyAll
import HandS.EndTab
import HandS.Style
import HandS.Gcd
import HandS.Wide
import HandS.StrMore
import HandS.Evl
import KE.KNest
import HandS.GenList
import PyProof.GenArm
import KE.SortKeyHeap
import KE.SortData
import KE.DataCmp
import HandS.SortKw
import HandS.DictComp
import HandS.Conv
import HandS.SetBool
import HandS.Strs
import HandS.IsInst
import HandS.More
import HandS.TupLe
import HandS.TupAny
import HandS.Deep
import KE.LtData
import HandS.SetFor
import PyProof.Rows.SortShellAny
import PyProof.Rows.SortStr
import PyProof.CollectIter
import PyProof.TupleIter
import HandS.ExcValue
import PyProof.SumAnyB
import KE.KDictList
import HandS.DictTup
import HandS.ExcOwn
import HandS.WordsExc
import HandS.TryOnly
import HandS.Small
import PyProof.P3In
import HandS.ExcField
import KE.KExcSuper
import PyProof.FString
import PyProof.FString4
import PyProof.Rows.RegStrFacts
import PyProof.FitsInt
import HandS.FStr
import PyProof.StrOps2
import PyProof.FitsStr
import KE.KUnpack
import HandS.Iter
import KE.RegKSuper
import PySem.Challenge.RW_countsworn_k05_text_of_expressions
set_option Elab.async false
set_option linter.all false
set_option maxRecDepth 100000
set_option maxHeartbeats 4000000
namespace Ky
open PySem PySem.Spec PyProof.Rows L2
/-! ### what stays -/
def NoTab (o : HO) : Prop := ∀ ps, o ≠ HO.tbl ps
theorem noTab_tup {xs : List V} : NoTab (.tup xs) := fun ps e => by cases e
theorem noTab_lst {xs : List V} : NoTab (.lst xs) := fun ps e => by cases e
/-- the cells to draw from, at d -/
def Drw (K : PySem.W.Frag) (H : Hp) (d : Addr) : Prop := ∃ (c : Addr) (ns : List Int) (a u z : Int),
  H d = some (.lst [.ref c, .int a, .int u, .int z]) ∧ H c = some (.lst (ns.map V.int)) ∧ -1 ≤ a
theorem Drw.ne {K : PySem.W.Frag} {H : Hp} {d : Addr} (h : Drw K H d) : ∃ xs, H d = some (.lst xs) := by
  obtain ⟨c, ns, a, u, z, h1, _⟩ := h
  exact ⟨_, h1⟩
structure Kept (H H' : Hp) : Prop where
  keep : ∀ b o, NoTab o → H b = some o → H' b = some o
  tab : ∀ P, GxR.TabG H P → GxR.TabG H' P
  free : ∀ b, H' b = none → H b = none
structure KeptD (K : PySem.W.Frag) (d : Addr) (H H' : Hp) : Prop where
  keep : ∀ b o, b ≠ d → NoTab o → H b = some o → H' b = some o
  drw : Drw K H d → Drw K H' d
  tab : ∀ P, GxR.TabG H P → GxR.TabG H' P
  free : ∀ b, H' b = none → H b = none
theorem Kept.refl (H : Hp) : Kept H H := ⟨fun _ _ _ h => h, fun _ h => h, fun _ h => h⟩
theorem Kept.trans {H H1 H2 : Hp} (a : Kept H H1) (b : Kept H1 H2) : Kept H H2 := ⟨fun c o n h => b.keep c o n (a.keep c o n h), fun P h => b.tab P (a.tab P h), fun c h => a.free c (b.free c h)⟩
theorem KeptD.refl {K : PySem.W.Frag} {d : Addr} (H : Hp) : KeptD K d H H := ⟨fun _ _ _ _ h => h, fun h => h, fun _ h => h, fun _ h => h⟩
theorem KeptD.trans {K : PySem.W.Frag} {d : Addr} {H H1 H2 : Hp} (a : KeptD K d H H1) (b : KeptD K d H1 H2) : KeptD K d H H2 :=
  ⟨fun c o n m h => b.keep c o n m (a.keep c o n m h), fun h => b.drw (a.drw h), fun P h => b.tab P (a.tab P h), fun c h => a.free c (b.free c h)⟩
theorem Kept.toD {K : PySem.W.Frag} {d : Addr} {H H' : Hp} (a : Kept H H') : KeptD K d H H' := ⟨fun b o _ n h => a.keep b o n h, fun h => by
  obtain ⟨c, ns, i, u, z, h1, h2, h3⟩ := h
  exact ⟨c, ns, i, u, z, a.keep _ _ noTab_lst h1, a.keep _ _ noTab_lst h2, h3⟩, a.tab, a.free⟩
theorem upd_free {H : Hp} {p b : Addr} {o : HO} (h : upd H p o b = none) : H b = none ∧ b ≠ p := by
  by_cases z : b = p
  · rw [z, upd_same] at h
    cases h
  · rw [upd_ne z] at h
    exact ⟨h, z⟩
theorem Kept.new {H : Hp} {p : Addr} {o : HO} (h : H p = none) : Kept H (upd H p o) := ⟨fun a u _ e => by
  rw [upd_ne (ne_of_none e h)]
  exact e, fun P hP => by
  obtain ⟨ps, h1, h2⟩ := hP
  exact ⟨ps, by rw [upd_ne (ne_of_none h1 h)]; exact h1, h2⟩, fun b hb => (upd_free hb).1⟩
theorem Kept.mut {H H' : Hp} {p : Addr} {o : HO} (e : Kept H H') (h : H p = none) : Kept H (upd H' p o) := ⟨fun a u n ha => by
  rw [upd_ne (ne_of_none ha h)]
  exact e.keep a u n ha, fun P hP => by
  obtain ⟨ps, h1, h2⟩ := hP
  have nP := ne_of_none h1 h
  obtain ⟨qs, g1, g2⟩ := e.tab P ⟨ps, h1, h2⟩
  exact ⟨qs, by rw [upd_ne nP]; exact g1, g2⟩, fun b hb => e.free b (upd_free hb).1⟩
theorem Kept.tabbed {H H' : Hp} {P : Addr} (hP : GxR.TabG H P) (e : GxR.Tabbed P H H') : Kept H H' := ⟨fun b o n h => by
  have nP : b ≠ P := fun z => by
    obtain ⟨ps, h1, _⟩ := hP
    rw [z, h1] at h
    exact n ps (Option.some.inj h).symm
  rw [e.2 b nP]
  exact h, fun P' h' => by
  by_cases z : P' = P
  · rw [z]
    exact e.1
  · obtain ⟨ps, h1, h2⟩ := h'
    exact ⟨ps, by rw [e.2 P' z]; exact h1, h2⟩, fun b h => by
  by_cases z : b = P
  · obtain ⟨ps, h1, _⟩ := e.1
    rw [z, h1] at h
    cases h
  · rw [e.2 b z] at h
    exact h⟩
theorem Kept.sq {K : PySem.W.Frag} {H H' : Hp} {a : Addr} {xs : List V} (e : Kept H H') (h : SqL K H a xs) : SqL K H' a xs := by
  rcases h with (h | ⟨o, h⟩) | h
  · exact .inl (.inl (e.keep _ _ noTab_lst h))
  · exact .inl (.inr ⟨o, e.keep _ _ (fun ps z => by cases z) h⟩)
  · exact .inr h
theorem Kept.tup {H H' : Hp} {p : Addr} {xs : List V} (e : Kept H H') (h : H p = some (.tup xs)) : H' p = some (.tup xs) := e.keep _ _ noTab_tup h
theorem Kept.lst {H H' : Hp} {p : Addr} {xs : List V} (e : Kept H H') (h : H p = some (.lst xs)) : H' p = some (.lst xs) := e.keep _ _ noTab_lst h
theorem KeptD.tup {K : PySem.W.Frag} {d : Addr} {H H' : Hp} {p : Addr} {xs : List V} (e : KeptD K d H H') (hd : Drw K H d) (h : H p = some (.tup xs)) : H' p = some (.tup xs) := e.keep _ _ (fun z => by
  obtain ⟨ys, h'⟩ := hd.ne
  rw [z, h'] at h
  cases h) noTab_tup h
theorem KeptD.lst {K : PySem.W.Frag} {d : Addr} {H H' : Hp} {p : Addr} {xs : List V} (e : KeptD K d H H') (hd : p ≠ d) (h : H p = some (.lst xs)) : H' p = some (.lst xs) := e.keep _ _ hd noTab_lst h
/-! ### a def of the module, to be called -/
structure Df (P : Program) (w : World) (K : PySem.W.Frag) (mg : Str → Option Value) (base : Heap) (k : Nat) (x : Str) (ps : List Str) (sp : Sp) : Prop where
  ex : ∃ f fd, FnOk P w K mg base CX0 k f fd ps sp ∧ mg x = some (.ref f) ∧ PySem.W.keepIn K (.ref f) = true ∧ Binds K fd ps []
section
variable {X : Cx} {k : Nat} {ps : List Str} {sp : Sp} {x : Str} {p pos : Pos} {e : Expr} {es : List Expr} {t : TA}
theorem pe_df (D : Df X.prog X.w X.K X.mg X.base k x ps sp) (hr : Room k X.A) (hg : Gl X x) (ha : PA X (e :: es) t) (hdb : (x == ("__debug__" : Str)) = false := by decide)
    (he : starEach (e :: es) X.env = (false, eval e X.env) :: starEach es X.env := by rfl) (hpl : (backTo pos (starEach es X.env)).any (·.1) = false := by rfl) :
    PE X (.Call (.Name x p) (e :: es) [] pos) (tCall sp [] E0 t) := by
  obtain ⟨f, fd, F, hm, hk, hb⟩ := D.ex
  exact pe_call F hr hg hm hk hb .nil pass0 ha hdb he hpl
end
/-! ### a def whose code object is told -/
structure FunC (K : PySem.W.Frag) (x : Str) (st : Stmt) (f : Addr) (fd : FuncData) (c : Addr) : Prop where
  ex : ∃ (oc : Value) (od : Option Addr) (kV doc pm : Value) (an : Option Addr) (ct : Value) (osl : Array (Option Value)),
    fd = PySem.W.fnOf x x (defArgs st) (defBody st) (defScope st) .none kV doc pm an (.ref c) ct ∧ K.lookup f = some ⟨oc, od, .func fd, osl⟩ ∧ PySem.W.codeIn K (.ref c) x = true
theorem FunC.ok {P : Program} {w : World} {K : PySem.W.Frag} {mg : Str → Option Value} {base : Heap} {x : Str} {st : Stmt} {f c : Addr} {fd : FuncData} {N ps : List Str} {k : Nat} {sp : Sp} (F : FunC K x st f fd c) (S : FnScope N ps (defScope st)) (len : ∀ vs H Q E, sp vs H Q E → vs.length = ps.length)
    (body : ∀ (A : Around) (outer : List Env) (s : Shared) (H : Hp) (vs : List V) (Q : VK) (E : XK), Room k (A.deeper (envOfC x (defScope st) s.heap.objs.size f (.ref c))) → sp vs H Q E →
      ∃ t, PSs (cxOf CX0 P w K mg base N x (defScope st) f (.ref c) A outer s H E).nox (defBody st) t ∧ t { nx := fun _ H' => Q .non H', rt := Q } (start N vs) H) : FnOk P w K mg base CX0 (k + 1) f fd ps sp := by
  obtain ⟨oc, od, kV, doc, pm, an, ct, osl, e, lk, hcd⟩ := F.ex
  subst e
  refine fn_of lk hcd S len fun A outer s H vs Q E hr hsp => ?_
  obtain ⟨t, h, q⟩ := body A outer s H vs Q E hr hsp
  exact ⟨t, h.nox, q⟩
/-- one sign among those of a written text, as the test of a generator expression -/
theorem elt_in {prog : Program} {w : World} {scope : Scope} {x k : Str} {j : Nat} {p1 p2 p3 : Pos} (hk : scope.kind = .function) (hl : scope.names.lookup x = some .local) (hd : (x == ("__debug__" : Str)) = false := by decide) :
    GxR.EltP prog w scope x (.Compare (.Name x p1) [.In] [.Constant (.str k) j p2] p3) (fun c => decide (c ∈ k.cps.toList)) := by
  intro cenv A' E' c t s2 m2 hs hn hm
  refine wpAny_Compare1 ?_
  refine wpAny_Name (wpAny_loadName_local (by rw [hs]; exact hk) (show cenv.scope.names.lookup x = some .local by rw [hs]; exact hl) hn hm ?_) hd
  refine Calls.Constant_str ?_
  exact PyProof.Rows.in_str ⟨congrArg Value.bool (PySem.StrLaws.found_one k c), GxR.keeps_tok _ _⟩
/-! ### // by any divisor but 0 -/
section
variable {X : Cx}
def CDivA (_ j : Int) : Prop := j ≠ 0 ∧ j.natAbs.log2 < 9000
theorem op_fdivA : OpR X (binaryOp .FloorDiv) (rI CDivA fun i j => .int (i.fdiv j)) := opI fun i j _ _ _ _ _ hc q =>
  floordiv_int hc.1 q (.inl (PyProof.noPylong_of_log2 hc.2))
theorem divA {i j : Int} {b : Nat} (h : j ≠ 0) (hb : j.natAbs < 2 ^ b) (h0 : 0 < b) (h9 : b ≤ 9000) : CDivA i j := ⟨h, Nat.lt_of_lt_of_le (PySem.Flt.log2_lt_of h0 hb) h9⟩
end
/-! ### one step of a reading -/
section
variable {σ σ' : L2.St} {H : Hp} {Q : VK} {D : Ends} {ta tb te : TE} {t u c : TT} {tq : TA} {s1 s2 : TS} {K : PySem.W.Frag} {v x y : V} {i : Nat} {G : TG}
theorem w_seq (q : s1 { nx := s2 D, rt := D.rt, bk := D.bk, ct := D.ct } σ H) : tSeq s1 s2 D σ H := q
theorem w_next (q : D.nx σ H) : tNext D σ H := q
theorem w_asg (q : te σ H fun v H1 => D.nx (σ.set i (some v)) H1) : tAsg te (gName i) D σ H := q
theorem w_asgG (q : te σ H fun v H1 => G v σ H1 D.nx) : tAsg te G D σ H := q
theorem w_drop (q : te σ H fun _ H1 => D.nx σ H1) : tDrop te D σ H := q
theorem w_ret (q : te σ H D.rt) : tRet te D σ H := q
theorem w_ifs (q : c σ H fun b H1 => if b = true then s1 D σ H1 else s2 D σ H1) : tIfS c s1 s2 D σ H := q
theorem w_var (h : σ[i]? = some (some v)) (q : Q v H) : tVar i σ H Q := ⟨v, h, q⟩
theorem w_c (q : Q v H) : tC v σ H Q := q
theorem w_op {r : R2} (q : ta σ H fun x H1 => tb σ H1 fun y H2 => r x y H2 Q) : tOp r ta tb σ H Q := q
theorem w_un {r : V → Hp → VK → Prop} (q : ta σ H fun x H1 => r x H1 Q) : tUn r ta σ H Q := q
theorem w_I0 {g : Int → Int → V} {i j : Int} (q : Q (g i j) H) : rI0 g (.int i) (.int j) H Q := ⟨i, j, rfl, rfl, q⟩
theorem w_I {C : Int → Int → Prop} {g : Int → Int → V} {i j : Int} (h : C i j) (q : Q (g i j) H) : rI C g (.int i) (.int j) H Q := ⟨i, j, rfl, rfl, h, q⟩
theorem w_U {g : Int → V} {i : Int} (q : Q (g i) H) : rU g (.int i) H Q := ⟨i, rfl, q⟩
theorem w_nil {R : List V → Hp → Prop} (q : R [] H) : tNil σ H R := q
theorem w_cons {R : List V → Hp → Prop} (q : te σ H fun x H1 => tq σ H1 fun xs H2 => R (x :: xs) H2) : tCons te tq σ H R := q
theorem w_call {sp : Sp} {dvs : List V} {E : XK} (q : tq σ H fun vs H1 => sp (vs ++ dvs) H1 Q E) : tCall sp dvs E tq σ H Q := q
theorem w_cb {r : List V → Hp → VK → Prop} (q : tq σ H fun vs H1 => r vs H1 Q) : tCB r tq σ H Q := q
theorem w_test {R : Bool → Hp → Prop} (q : te σ H fun x H' => ∃ k, x = .bl k ∧ R k H') : tTest te σ H R := q
theorem w_B {R : Bool → Hp → Prop} (q : te σ H fun x H' => ∃ k, x = .bl k ∧ R k H') : tB te σ H R := q
theorem w_bl {R : Bool → Prop} {b : Bool} (q : R b) : ∃ k, V.bl b = .bl k ∧ R k := ⟨b, rfl, q⟩
theorem w_and {R : Bool → Hp → Prop} (q : t σ H fun b H1 => if b = true then u σ H1 R else R false H1) : tAnd t u σ H R := q
theorem w_or {R : Bool → Hp → Prop} (q : t σ H fun b H1 => if b = true then R true H1 else u σ H1 R) : tOr t u σ H R := q
theorem w_not {R : Bool → Hp → Prop} (q : t σ H fun b H1 => R (!b) H1) : tNot t σ H R := q
theorem w_ife (q : t σ H fun b H1 => if b = true then ta σ H1 Q else tb σ H1 Q) : tIf t ta tb σ H Q := q
theorem w_ixT {p : Addr} {xs : List V} {i : Int} (h : H p = some (.tup xs)) (ha : atI xs i = some v) (q : Q v H) : rIxT K (.ref p) (.int i) H Q := ⟨p, xs, i, v, rfl, rfl, SqT.of h, ha, q⟩
theorem w_ixL {p : Addr} {xs : List V} {i : Int} (h : H p = some (.lst xs)) (ha : atI xs i = some v) (q : Q v H) : rIxL K (.ref p) (.int i) H Q := ⟨p, xs, i, v, rfl, rfl, SqL.of h, ha, q⟩
theorem w_eq (h : scal x y = true) (q : Q (.bl (decide (x = y))) H) : rEq x y H Q := ⟨h, q⟩
theorem w_ne (h : scal x y = true) (q : Q (.bl (!decide (x = y))) H) : rNe x y H Q := ⟨h, q⟩
theorem w_tup (q : tq σ H fun xs H1 => xs.length ≤ sizeLine ∧ ∀ p, H1 p = none → Q (.ref p) (upd H1 p (.tup xs))) : tTup tq σ H Q := q
theorem w_lst (q : tq σ H fun xs H1 => xs.length ≤ sizeLine ∧ ∀ p, H1 p = none → Q (.ref p) (upd H1 p (.lst xs))) : tLst tq σ H Q := q
theorem w_bm {T : String} {r : V → List V → Hp → VK → Prop} (q : te σ H fun x H1 => tyV K T x H1 ∧ tq σ H1 fun xs H2 => r x xs H2 Q) : tBM K T r te tq σ H Q := q
theorem w_m1 {r : V → List V → Hp → VK → Prop} (q : ta σ H fun x H1 => (∃ a, x = .str a) ∧ tb σ H1 fun y H2 => r x [y] H2 Q) : tM1 r ta tb σ H Q := q
theorem w_tyL {A : Prop} {l : Addr} {xs : List V} (h : H l = some (.lst xs)) (q : A) : tyV K "list" (.ref l) H ∧ A := ⟨.inl ⟨rfl, _, SqL.of h⟩, q⟩
theorem w_tyS {A : Prop} {z : Str} (q : A) : tyV K "str" (.str z) H ∧ A := ⟨rfl, q⟩
theorem w_isS {A : Prop} {z : Str} (q : A) : (∃ a, V.str z = .str a) ∧ A := ⟨⟨_, rfl⟩, q⟩
theorem w_app {l : Addr} {xs : List V} (h : H l = some (.lst xs)) (hl : xs.length < sizeLine) (q : Q .non (upd H l (.lst (xs ++ [y])))) : rAppend (.ref l) [y] H Q := ⟨l, xs, y, rfl, rfl, h, hl, q⟩
theorem w_gn {R : L2.St → Hp → Prop} (q : R (σ.set i (some v)) H) : gName i v σ H R := q
theorem w_gsub {ts : TSet} {R : L2.St → Hp → Prop} (q : ta σ H fun o H1 => tb σ H1 fun i H2 => ts o i v H2 fun H3 => R σ H3) : gSub ta tb ts v σ H R := q
theorem w_setL {p : Addr} {xs : List V} {k : Int} {j : Nat} {R : Hp → Prop} (h : H p = some (.lst xs)) (hj : ixN xs.length k = some j) (q : R (upd H p (.lst (xs.set j v)))) : rSetL (.ref p) (.int k) v H R := ⟨p, xs, k, j, rfl, rfl, h, hj, q⟩
theorem w_yes {R : Bool → Hp → Prop} (q : R true H) : tYes σ H R := q
theorem w_sl {r : V → Option Int → Option Int → Hp → VK → Prop} {tl th : TO} (q : te σ H fun x H1 => tl σ H1 fun l H2 => th σ H2 fun u H3 => r x l u H3 Q) : tSl r te tl th σ H Q := q
theorem w_part {R : Option Int → Hp → Prop} (q : te σ H fun x H1 => ∃ i, x = .int i ∧ R (some i) H1) : tPart te σ H R := q
theorem w_nop {R : Option Int → Hp → Prop} (q : R none H) : tNoPart σ H R := q
theorem w_isI {R : Int → Prop} {n : Int} (q : R n) : ∃ i, V.int n = .int i ∧ R i := ⟨n, rfl, q⟩
theorem if_t {A B : Prop} {b : Bool} (h : b = true) (q : A) : if b = true then A else B := by rw [if_pos h]; exact q
theorem if_f {A B : Prop} {b : Bool} (h : b = false) (q : B) : if b = true then A else B := by rw [h]; exact iteF q
end
local macro_rules | `(tactic| walk_at "rd") => `(tactic| repeat (first
  | with_reducible refine w_seq ?_
  | with_reducible refine w_asg ?_
  | with_reducible refine w_ret ?_
  | with_reducible refine w_drop ?_
  | with_reducible refine w_ifs ?_
  | ((with_reducible refine' w_var ?hh ?_); (case hh => exact rfl))
  | with_reducible refine w_c ?_
  | with_reducible refine w_op ?_
  | with_reducible refine w_un ?_
  | with_reducible refine w_I0 ?_
  | with_reducible refine w_U ?_
  | with_reducible refine w_nil ?_
  | with_reducible refine w_cons ?_
  | with_reducible refine w_call ?_
  | with_reducible refine w_cb ?_
  | with_reducible refine w_test ?_
  | with_reducible refine w_B ?_
  | with_reducible refine w_bl ?_
  | with_reducible refine w_and ?_
  | with_reducible refine w_or ?_
  | with_reducible refine w_not ?_
  | with_reducible refine w_ife ?_
  | with_reducible refine w_tup ?_
  | with_reducible refine w_lst ?_
  | with_reducible refine w_next ?_
  | with_reducible refine w_bm ?_
  | with_reducible refine w_sl ?_
  | with_reducible refine w_part ?_
  | with_reducible refine w_nop ?_
  | with_reducible refine w_isI ?_
  | with_reducible refine w_yes ?_
  | with_reducible refine w_gn ?_
  | with_reducible refine w_gsub ?_
  | ((with_reducible refine' w_setL ?h1 ?h2 ?_); (case h1 => first | assumption | exact upd_same); (case h2 => exact rfl))
  | with_reducible refine w_asgG ?_
  | with_reducible refine w_m1 ?_
  | with_reducible refine w_isS ?_
  | with_reducible refine w_tyS ?_
  | ((with_reducible refine' w_tyL ?h1 ?_); (case h1 => first | assumption | exact upd_same))
  | ((with_reducible refine' w_ixT ?h1 ?h2 ?_); (case h1 => first | assumption | exact upd_same); (case h2 => exact rfl))
  | ((with_reducible refine' w_ixL ?h1 ?h2 ?_); (case h1 => first | assumption | exact upd_same); (case h2 => exact rfl))
  | ((with_reducible refine w_eq ?h1 ?_); (case h1 => exact rfl))
  | ((with_reducible refine w_ne ?h1 ?_); (case h1 => exact rfl))
  | dsimp only [List.set_cons_zero, List.set_cons_succ, List.append_nil, List.cons_append, List.nil_append, cxOf]))
/-! ### the law's own draws -/
/-- only the list at d has changed, and it is still cells, a place, a rest, a mixed row -/
def TakeSt (H : Hp) (c d : Addr) (H' : Hp) : Prop := (∀ b, b ≠ d → H' b = H b) ∧ ∃ a u z : Int, H' d = some (.lst [.ref c, .int a, .int u, .int z]) ∧ -1 ≤ a
theorem TakeSt.upd {H H' : Hp} {c d : Addr} {a u z : Int} (h : TakeSt H c d H') (ha : -1 ≤ a) : TakeSt H c d (L2.upd H' d (.lst [.ref c, .int a, .int u, .int z])) :=
  ⟨fun b hb => by rw [upd_ne hb]; exact h.1 b hb, a, u, z, upd_same, ha⟩
theorem TakeSt.kept {K : PySem.W.Frag} {H H' : Hp} {c d : Addr} {ns : List Int} {xs : List V} (h : TakeSt H c d H') (hd : H d = some (.lst xs)) (hc : H c = some (.lst (ns.map V.int))) (ne : c ≠ d) : KeptD K d H H' := by
  obtain ⟨h1, a, u, z, h2, h3⟩ := h
  refine ⟨fun b o hb _ q => by rw [h1 b hb]; exact q, fun _ => ⟨c, ns, a, u, z, h2, by rw [h1 c ne]; exact hc, h3⟩, fun P hP => ?_, fun b q => ?_⟩
  · obtain ⟨ps, p1, p2⟩ := hP
    have : P ≠ d := fun e => by
      rw [e, hd] at p1
      cases p1
    exact ⟨ps, by rw [h1 P this]; exact p1, p2⟩
  · by_cases e : b = d
    · rw [e, h2] at q
      cases q
    · rw [h1 b e] at q
      exact q
def spTake (K : PySem.W.Frag) : Sp := fun vs H Q _ => ∃ (d : Addr) (m : Int), vs = [.ref d, .int m] ∧ 0 < m ∧ m < 2 ^ 62 ∧ Drw K H d ∧ ∀ (r : Int) H', 0 ≤ r → r < m → KeptD K d H H' → Q (.int r) H'
def spDraw (K : PySem.W.Frag) : Sp := fun vs H Q _ => ∃ (a : Addr) (ns : List Int), vs = [.ref a] ∧ SqL K H a (ns.map V.int) ∧ ns.length ≤ 63 ∧ ∀ d H', H d = none → Kept H H' → Drw K H' d → Q (.ref d) H'
theorem pick_int {ns : List Int} {r : Int} (h0 : 0 ≤ r) (h1 : r < (ns.length : Int)) : ∃ v ∈ ns, atI (ns.map V.int) r = some (V.int v) := by
  obtain ⟨j, rfl⟩ : ∃ j : Nat, r = (j : Int) := ⟨r.toNat, by omega⟩
  have hj : j < ns.length := by omega
  refine ⟨ns[j], List.getElem_mem hj, atI_nat ?_⟩
  rw [List.getElem?_map, List.getElem?_eq_getElem hj]
  rfl
theorem map_int {ns : List Int} {i : Nat} {y : V} (h : (ns.map V.int)[i]? = some y) : ∃ u, y = V.int u ∧ ns[i]? = some u := by
  rw [List.getElem?_map] at h
  cases e : ns[i]? with
  | none =>
    rw [e] at h
    cases h
  | some u =>
    rw [e] at h
    exact ⟨u, (Option.some.inj h).symm, rfl⟩
/-! ### fractions -/
def frc (n d : Int) : Int × Int := (n.fdiv (if d < 0 then -((Nat.gcd n.natAbs d.natAbs : Nat) : Int) else ((Nat.gcd n.natAbs d.natAbs : Nat) : Int)),
  d.fdiv (if d < 0 then -((Nat.gcd n.natAbs d.natAbs : Nat) : Int) else ((Nat.gcd n.natAbs d.natAbs : Nat) : Int)))
def FrAt (H : Hp) (p : Addr) (a : Int × Int) : Prop := H p = some (.tup [.int a.1, .int a.2])
def Small (n : Nat) (a : Int × Int) : Prop := a.1.natAbs < 2 ^ n ∧ a.2.natAbs < 2 ^ n
def spFrac : Sp := fun vs H Q _ => ∃ n d : Int, vs = [.int n, .int d] ∧ d ≠ 0 ∧ n.natAbs < 2 ^ 1000 ∧ d.natAbs < 2 ^ 1000 ∧
  ∀ p H', H p = none → Kept H H' → FrAt H' p (frc n d) → Q (.ref p) H'
end Ky

namespace Ky
open PySem PySem.Spec PyProof.Rows L2
/-! ### a generator expression's frame -/
abbrev gxEnv (X : Cx) (s : Shared) (scope : Scope) (code : Value) : Env := genEnv scope (cloFrom X.env.cells scope.names []) s.heap.objs.size code builtinsNs X.env
abbrev gx (X : Cx) (A' : Around) (s : Shared) (H : Hp) (scope : Scope) (code : Value) (fp : List Addr) : Cx :=
  { X with A := A', s_0 := s, H_0 := H, env := gxEnv X s scope code, outer := X.stack, stack := gxEnv X s scope code :: X.stack, ex := fp, fn := fun _ => false, pn := [], xe := fun _ _ => False }
theorem over_gen {A : Around} {elt : Expr} {cs : List Comprehension} {sc : Scope} {pos : Pos} {it acc : Value} {env : Env} : A.over (.compLoop (.GeneratorExp elt cs sc pos) 0 it acc env) [] = A.deeper env := by
  first
    | rfl
    | (obtain ⟨hd, d, fr, gs, u⟩ := A; simp [Around.over, Around.deeper, marksOver, frameCount, unitsOf, envsOf, guardsOf, pushEnvs, pushGuards, Code.envs, Code.env?, Code.isFrame, Code.guards, Code.isGuard, Code.weight, Code.frames, Code.isCreation, Code.isCaller, Code.cUnits])
theorem over_gen0 {A : Around} {elt : Expr} {cs : List Comprehension} {sc : Scope} {pos : Pos} {it acc : Value} {env : Env} : A.over (.compStart (.GeneratorExp elt cs sc pos) 0 it acc env) [] = A.deeper env := by
  first
    | rfl
    | (obtain ⟨hd, d, fr, gs, u⟩ := A; simp [Around.over, Around.deeper, marksOver, frameCount, unitsOf, envsOf, guardsOf, pushEnvs, pushGuards, Code.envs, Code.env?, Code.isFrame, Code.guards, Code.isGuard, Code.weight, Code.frames, Code.isCreation, Code.isCaller, Code.cUnits])
section
variable {X : Cx} {pins : List (Addr × Obj)} {σ : L2.St} {H : Hp} {s : Shared}
theorem gx_start {A' : Around} {scope : Scope} {code : Value} {own : List (Str × Nat)} {fp : List Addr} {h' : Heap} {m : Str → Option Value} {g' : Array GenState} {t' : Nat} (I : Inv X pins σ H s) (ok : BlkOk X.N X.env.scope scope own) (hcell : ∀ y ∈ scope.names, y.2 ≠ .cell) (hN : X.N.Nodup)
    (hfp : ∀ b ∈ fp, FpOk X pins H b ∧ b < s.heap.objs.size) (hh : A'.handled = none) (hfr : A'.frames = some (gxEnv X s scope code :: X.stack)) (hn : h'.Ns s.heap.objs.size m) (kp : ∀ b o, s.heap.get? b = some o → h'.get? b = some o) (hg : AllBare g') :
    Inv (gx X A' s H scope code fp) [] (wipe σ (own.map (·.2))) H { s with heap := h', gens := g', toks := t' } := by
  have hfree : ∀ y ∈ scope.names, y.2 = .free → ∃ c, X.env.cells.lookup y.1 = some c := fun y hy e => by
    rcases ok.free y hy e with k | k
    · exact I.ok.has _ (.inl k)
    · exact I.ok.has _ (.inr k)
  have cm : ∀ {y c}, (cloFrom X.env.cells scope.names []).lookup y = some c → X.env.cells.lookup y = some c ∧ c < s.heap.objs.size := fun {y c} e => by
    rcases cloFrom_mem (PySem.mem_of_lookup e) with hm | ⟨h1, rfl⟩
    · cases hm
    · obtain ⟨c, hc⟩ := hfree _ h1 rfl
      rw [hc]
      obtain ⟨w, z⟩ := I.cell _ _ hc
      exact ⟨rfl, z.lt⟩
  have look : ∀ {y}, scope.names.lookup y = some .free → ∃ c, (cloFrom X.env.cells scope.names []).lookup y = some c ∧ X.env.cells.lookup y = some c := fun {y} hl => by
    have hy : (y, NameKind.free) ∈ scope.names := PySem.mem_of_lookup hl
    obtain ⟨c', e'⟩ := mem_lookup (cloFrom_has (cells := X.env.cells) (acc := []) hy)
    exact ⟨c', e', (cm e').1⟩
  have okB : (gx X A' s H scope code fp).Ok := by
    refine ⟨I.ok.mod, ok.kind, I.ok.glob, rfl, Nat.le_refl _, fun y z c e1 e2 => I.ok.inj y z c (cm e1).1 (cm e2).1, fun y hy => ?_, fun y c z e => absurd z Bool.false_ne_true, fun _ => hh, hfr, .inr ⟨rfl, rfl⟩, fun b hb => ⟨Nat.ne_of_lt (hfp b hb).2, fun y c e => (hfp b hb).1.2.2.2.2.1 y c (cm e).1⟩,
      I.bs, Nat.le_trans I.ok.bsz I.sz, fun b o e hb => ?_, fun b hb z => ?_, I.stack, I.stkFree⟩
    · rcases hy with hy | hy
      · exact absurd rfl (hcell _ (PySem.mem_of_lookup (show scope.names.lookup y = some .cell from hy)))
      · obtain ⟨c, h1, _⟩ := look (show scope.names.lookup y = some .free from hy)
        exact ⟨c, h1⟩
    · rcases (hfp b hb).1.2.2.2.1 with z | z
      · exact I.ok.noex b o e z
      · exact absurd (Nat.lt_of_lt_of_le (Heap.lt_size e) (Nat.le_trans I.ok.bsz z)) (Nat.lt_irrefl _)
    · rcases List.mem_cons.mp (I.stkSub b z) with z | z
      · exact (hfp b hb).1.2.1 z
      · exact (hfp b hb).1.2.2.1 z
  refine ⟨okB, rfl, hg, Un.kept kp, ⟨m, hn, fun i y av e1 e2 e3 => ?_⟩, fun y c e => ?_, I.hok.fresh (Nat.le_refl _), fun y c e => I.freeC y c (cm e).1, fun p hp => absurd (show p ∈ ([] : List (Addr × Obj)) ++ [] from hp) (by simp), I.hok.kept kp, by rw [wipe_length]; exact I.len⟩
  · obtain ⟨e2, hne⟩ := wipe_some e2
    have hfr : scope.names.lookup y = some .free := by
      have no : ∀ k', scope.names.lookup y = some k' → ¬ (k' = .local ∨ k' = .cell) := fun k' e hh => by
        rcases ok.own _ (PySem.mem_of_lookup e) hh with e' | e'
        · obtain ⟨p, hp, hpy⟩ := List.mem_map.mp e'
          have e3 := ok.ix p hp
          have : p.1 = y := hpy
          rw [this] at e3
          exact hne (List.mem_map.mpr ⟨p, hp, nodup_ix hN e3 e1⟩)
        · exact e' (List.mem_of_getElem? e1)
      have e3 : Vis scope y := e3
      rcases e3 with e3 | e3 | e3
      · exact absurd (.inl rfl) (no _ e3)
      · exact absurd (.inr rfl) (no _ e3)
      · exact e3
    obtain ⟨m, hn, hl⟩ := I.loc
    have hvis : Vis X.env.scope y := (ok.free _ (PySem.mem_of_lookup hfr) rfl).elim (fun k => .inr (.inl k)) (fun k => .inr (.inr k))
    obtain ⟨w, r, q⟩ := hl i y av e1 e2 hvis
    refine ⟨w, r, .inr ⟨.inr hfr, ?_⟩⟩
    obtain ⟨c, h1, h2⟩ := look hfr
    rcases q with ⟨k, _⟩ | ⟨_, c', e', z⟩
    · have k : X.env.scope.names.lookup y = some .local := k
      rcases ok.free _ (PySem.mem_of_lookup hfr) rfl with k' | k' <;> rw [show X.env.scope.names.lookup y = _ from k'] at k <;> cases k
    · rw [h2] at e'; cases e'
      exact ⟨c, h1, z.keeps kp⟩
  · obtain ⟨w, z⟩ := I.cell y c (cm e).1
    exact ⟨w, z.keeps kp⟩
end
end Ky
namespace Ky
open PySem PySem.Spec PyProof.Rows L2
theorem not_of_ne {b c : Bool} (h : ¬ b = c) : b = !c := by
  cases b <;> cases c <;> first | rfl | exact absurd rfl h
/-- what a generator expression of tests still does: cont: the answer that goes on (all: true, any: false) -/
def Live (X : Cx) (pins : List (Addr × Obj)) (σ : L2.St) (Q : VK) (cont : Bool) (a : Addr) : Nat → Shared → Prop
  | 0, s => ∀ (QQ : Option Value → Shared → Prop) (E : Value → Shared → Prop), (∀ s' H, Inv X pins σ H s' → Q (.bl (!cont)) H → QQ (some (.bool (!cont))) s') → (∀ s' H, Inv X pins σ H s' → Q (.bl cont) H → QQ none s') → wpAny (model X.prog X.w) X.A.in1 (pyNext (.ref a)) QQ E s
  | n + 1, s => ∀ (QQ : Option Value → Shared → Prop) (E : Value → Shared → Prop), (∀ s', Live X pins σ Q cont a n s' → QQ (some (.bool cont)) s') → (∀ s' H, Inv X pins σ H s' → Q (.bl (!cont)) H → QQ (some (.bool (!cont))) s') → (∀ s' H, Inv X pins σ H s' → Q (.bl cont) H → QQ none s') →
      wpAny (model X.prog X.w) X.A.in1 (pyNext (.ref a)) QQ E s
section
variable {X : Cx} {pins : List (Addr × Obj)} {σ : L2.St} {Q : VK} {a : Addr}
theorem live_all {R : Result → Shared → Prop} : ∀ (n : Nat) (s : Shared), Live X pins σ Q true a n s → (∀ s' H b, Inv X pins σ H s' → Q (.bl b) H → R (.ok (.ret (.bool b))) s') → codeAny (model X.prog X.w) X.A (.builtin "all.loop" ⟨[.ref a], []⟩) R s := by
  intro n
  induction n with
  | zero =>
    intro s h hR
    refine codeAny_builtin F.entry_all_loop ?_
    rw [Around.under_plainId F.plain_all_loop _]
    show wpAny _ X.A.in1 (pyNext (.ref a) >>= _) _ _ s
    refine wpAny_bind (h _ _ (fun s' H I q => ?_) fun s' H I q => ?_)
    · refine wpAny_bind (wpAny_holding (wpAny_truthy_bool ?_))
      refine wpAny_bind (wpAny_letGo ?_)
      simp only [Bool.not_true, Bool.false_eq_true, if_false]
      exact wpAny_bind (wpAny_rule (wpAny_pure (hR s' H _ I q)))
    · exact wpAny_bind (wpAny_rule (wpAny_pure (hR s' H _ I q)))
  | succ n ih =>
    intro s h hR
    refine codeAny_builtin F.entry_all_loop ?_
    rw [Around.under_plainId F.plain_all_loop _]
    show wpAny _ X.A.in1 (pyNext (.ref a) >>= _) _ _ s
    refine wpAny_bind (h _ _ (fun s' hl => ?_) (fun s' H I q => ?_) fun s' H I q => ?_)
    · refine wpAny_bind (wpAny_holding (wpAny_truthy_bool ?_))
      refine wpAny_bind (wpAny_letGo ?_)
      simp only [if_true]
      exact wpAny_pure ⟨plainId_quiet F.plain_all_loop _, ih s' hl hR⟩
    · refine wpAny_bind (wpAny_holding (wpAny_truthy_bool ?_))
      refine wpAny_bind (wpAny_letGo ?_)
      simp only [Bool.not_true, Bool.false_eq_true, if_false]
      exact wpAny_bind (wpAny_rule (wpAny_pure (hR s' H _ I q)))
    · exact wpAny_bind (wpAny_rule (wpAny_pure (hR s' H _ I q)))
theorem live_any {R : Result → Shared → Prop} : ∀ (n : Nat) (s : Shared), Live X pins σ Q false a n s → (∀ s' H b, Inv X pins σ H s' → Q (.bl b) H → R (.ok (.ret (.bool b))) s') → codeAny (model X.prog X.w) X.A (.builtin "any.loop" ⟨[.ref a], []⟩) R s := by
  intro n
  induction n with
  | zero =>
    intro s h hR
    refine codeAny_builtin F.entry_any_loop ?_
    rw [Around.under_plainId F.plain_any_loop _]
    show wpAny _ X.A.in1 (pyNext (.ref a) >>= _) _ _ s
    refine wpAny_bind (h _ _ (fun s' H I q => ?_) fun s' H I q => ?_)
    · refine wpAny_bind (wpAny_holding (wpAny_truthy_bool ?_))
      refine wpAny_bind (wpAny_letGo ?_)
      simp only [Bool.not_false, if_true]
      exact wpAny_bind (wpAny_rule (wpAny_pure (hR s' H _ I q)))
    · exact wpAny_bind (wpAny_rule (wpAny_pure (hR s' H _ I q)))
  | succ n ih =>
    intro s h hR
    refine codeAny_builtin F.entry_any_loop ?_
    rw [Around.under_plainId F.plain_any_loop _]
    show wpAny _ X.A.in1 (pyNext (.ref a) >>= _) _ _ s
    refine wpAny_bind (h _ _ (fun s' hl => ?_) (fun s' H I q => ?_) fun s' H I q => ?_)
    · refine wpAny_bind (wpAny_holding (wpAny_truthy_bool ?_))
      refine wpAny_bind (wpAny_letGo ?_)
      simp only [Bool.false_eq_true, if_false]
      exact wpAny_pure ⟨plainId_quiet F.plain_any_loop _, ih s' hl hR⟩
    · refine wpAny_bind (wpAny_holding (wpAny_truthy_bool ?_))
      refine wpAny_bind (wpAny_letGo ?_)
      simp only [Bool.not_false, if_true]
      exact wpAny_bind (wpAny_rule (wpAny_pure (hR s' H _ I q)))
    · exact wpAny_bind (wpAny_rule (wpAny_pure (hR s' H _ I q)))
end
/-! ### one turn after another -/
/-- the state between turns -/
abbrev GAt (G : Cx) (pa : List (Addr × Obj)) (σw : L2.St) (fp : List Addr) (tn : Nat → Heap → Prop) (i : Nat) (H : Hp) (s : Shared) : Prop := Inv G pa σw H s ∧ tn i s.heap ∧ ∀ b ∈ fp, H b = none
/-- it has come to its end -/
def GEnd (G : Cx) (pa : List (Addr × Obj)) (σw : L2.St) (Q : VK) (cont : Bool) : Nat → Shared → Shared → Prop := fun _ _ s1 => ∃ H, Inv G pa σw H s1 ∧ Q (.bl cont) H
/-- a test's answer is handed out -/
def GYld (G : Cx) (pa : List (Addr × Obj)) (σw : L2.St) (fp : List Addr) (tn : Nat → Heap → Prop) (W : Nat → Nat → Hp → Prop) (Q : VK) (cont : Bool) : Protocol := fun n _ v s1 kap =>
  ∃ (b : Bool) (H : Hp), v = .bool b ∧ Inv G pa σw H s1 ∧ ((b = cont ∧ 0 < n ∧ ∀ g', AllBare g' → kap (.send .none) { s1 with gens := g' }) ∨ (b = (!cont) ∧ Q (.bl (!cont)) H))
/-- the turns: what an answer leads to -/
def GTurn (J : It) (g : TG) (te : TE) (σw : L2.St) (vs : List Nat) (Q : VK) (cont : Bool) (W : Nat → Nat → Hp → Prop) : Prop := ∀ i m H, W i m H →
  (J.stop i H ∧ Q (.bl cont) H) ∨ (J.go i H ∧ ∀ x H', J.yld i H x H' → g x σw H' fun σ2 H2 => wipe σ2 vs = σw ∧ te σ2 H2 fun y H3 => ∃ b, y = .bl b ∧ if b = cont then ∃ m', m' < m ∧ W (i + 1) m' H3 else Q (.bl (!cont)) H3)
section
variable {G : Cx} {pa : List (Addr × Obj)} {σ : L2.St} {vs : List Nat} {fp : List Addr} {it : Addr} {tn : Nat → Heap → Prop} {J : It} {tg elt iter : Expr} {g : TG} {te : TE} {scope : Scope} {gpos : Pos} {Q : VK} {cont : Bool} {W : Nat → Nat → Hp → Prop} {A : Around}
theorem seg_turns (hA : G.A = A.deeper G.env) (hc : G.calm = true) (hco : G.env.scope.isCoroutine = false) (hxe : G.xe = fun _ _ => False) (T : Turn G.prog G.w G.K tg J fp it tn) (pg : PG G tg g) (pe : PE G elt te) (hpn : G.pn = []) (hex : G.ex = fp)
    (hpa : ∀ p ∈ pa, ∀ b ∈ fp, p.1 ≠ b) (turn : GTurn J g te (wipe σ vs) vs Q cont W) :
    ∀ (n i m : Nat) (s₀ s : Shared) (H : Hp), m < n → GAt G pa (wipe σ vs) fp tn i H s → W i m H →
      Seg (model G.prog G.w) A (fun n s₀ r s₁ => r = .ok .next ∧ GEnd G pa (wipe σ vs) Q cont n s₀ s₁) (GYld G pa (wipe σ vs) fp tn W Q cont) n s₀
        (.compLoop (.GeneratorExp elt [⟨tg, iter, [], 0⟩] scope gpos) 0 (.ref it) .none G.env)
        ((model G.prog G.w).den (.compLoop (.GeneratorExp elt [⟨tg, iter, [], 0⟩] scope gpos) 0 (.ref it) .none G.env)) [] s := by
  have hov : A.over (.compLoop (.GeneratorExp elt [⟨tg, iter, [], 0⟩] scope gpos) 0 (.ref it) .none G.env) [] = G.A := by rw [over_gen, hA]
  have stat : ∀ {σ' : L2.St} {H' : Hp} {s' : Shared}, Inv G pa σ' H' s' → (∀ b ∈ fp, H' b = none) → ∀ b ∈ fp, FpOk G pa H' b := fun {σ' H' s'} I' hn b hb =>
    ⟨hn b hb, (I'.ok.exf b (by rw [hex]; exact hb)).1, I'.ok.exfs b (by rw [hex]; exact hb), .inl (by rw [hex]; exact hb), fun x c e => (I'.ok.exf b (by rw [hex]; exact hb)).2 x c e, fun p hp => by
      rw [hpn] at hp
      exact hpa p (by simpa using hp) b hb⟩
  intro n
  induction n with
  | zero => intro i m s₀ s H hm; exact absurd hm (Nat.not_lt_zero _)
  | succ n ih =>
    intro i m s₀ s H hm ⟨I, st, fr⟩ w
    show Seg _ A _ _ _ s₀ _ ((compTurn (.GeneratorExp elt [⟨tg, iter, [], 0⟩] scope gpos) 0 (.ref it) .none G.env).onRaise (leaving G.env)) [] s
    rw [compTurn_gen, Sem.onRaise_eq_wrap]
    refine seg_bind_wrap (wpAny_standAt ?_)
    refine seg_bind_wrap ?_
    rw [hov]
    rcases turn i m H w with ⟨stop, q⟩ | ⟨go, step⟩
    · refine thnF (T.done G rfl rfl rfl hc i pa s _ H (fun _ _ => False) I (stat I fr) st stop) fun r s1 ⟨hr, I1⟩ => ?_
      subst hr
      exact seg_end (.ok .next) ⟨rfl, H, I1, q⟩
    · refine thnF (T.item G rfl rfl rfl hc i pa s _ H (fun _ _ => False) I (stat I fr) st go) fun r s1 ⟨u, hr, h1⟩ => ?_
      subst hr
      refine seg_bind_wrap ?_
      rw [hov]
      refine thnF h1 fun _ s2 ⟨x, H2, I2, r2, y2, st2, n2⟩ => ?_
      have I2' := I2.pinned (stat I2 n2) (T.obj _ _ st2)
      refine seg_bind_wrap ?_
      rw [hov]
      have hpr := pg.run _ s2 _ H2 x u _ I2' r2 (step x H2 y2)
      rw [hxe] at hpr
      refine thnF hpr fun _ s3 ⟨σ3, H3, I3, hw3, q3⟩ => ?_
      refine seg_bind_wrap ?_
      simp only [List.forIn_nil]
      refine wpAny_pure ?_
      simp only [if_true]
      have hy : ∀ v, yieldOut G.env v = yieldValue v := fun v => by simp only [yieldOut, hco, Bool.false_eq_true, if_false]
      simp only [hy]
      rw [Sem.bind_eq_wrap', Sem.bind_eq_wrap', Sem.wrap_wrap, Sem.wrap_wrap]
      refine seg_wrap ?_
      rw [hov]
      have her := pe.run _ s3 σ3 H3 _ I3 q3
      rw [hxe] at her
      refine thnF her fun v s4 ⟨y, H4, I4, r4, b, hb, q4⟩ => ?_
      subst hb
      obtain rfl : v = Value.bool b := r4
      have pin' : ∀ c ∈ fp, ∀ o, s2.heap.get? c = some o → s4.heap.get? c = some o ∧ H4 c = none := fun c hc' o e =>
        let z := I4.pin (c, o) (List.mem_append_right _ (List.mem_append_right _ (mem_pinsAt hc' e)))
        ⟨z.1, z.2.1⟩
      have I5 : Inv G pa (wipe σ vs) H4 s4 := I4.unpinned.weak (by rw [← hw3, wipe_length]) fun j v e => by
        rw [← hw3] at e
        exact (wipe_some e).1
      have st4 : tn (i + 1) s4.heap := T.keep _ _ _ st2 fun c hc' o e => (pin' c hc' o e).1
      have fr4 : ∀ c ∈ fp, H4 c = none := fun c hc' => by
        obtain ⟨o, e, _⟩ := T.obj _ _ st2 c hc'
        exact (pin' c hc' o e).2
      refine seg_at (seg_yield rfl rfl rfl ⟨b, H4, rfl, I5, ?_⟩)
      by_cases hbc : b = cont
      · rw [if_pos hbc] at q4
        obtain ⟨m', hm', w'⟩ := q4
        refine .inl ⟨hbc, by omega, fun g' hg' => ?_⟩
        refine seg_again rfl (ih (i + 1) m' _ _ H4 (by omega) ⟨?_, st4, fr4⟩ w')
        exact ⟨I5.ok, I5.os, hg', I5.base, I5.loc, I5.cell, I5.free, I5.freeC, I5.pin, I5.hok, I5.len⟩
      · rw [if_neg hbc] at q4
        exact .inr ⟨not_of_ne hbc, q4⟩
end
end Ky
namespace Ky
open PySem PySem.Spec PyProof.Rows L2
section
variable {G : Cx} {pa : List (Addr × Obj)} {σ : L2.St} {vs : List Nat} {fp : List Addr} {it : Addr} {tn : Nat → Heap → Prop} {J : It} {tg elt iter : Expr} {g : TG} {te : TE} {scope : Scope} {gpos : Pos} {Q : VK} {cont : Bool} {W : Nat → Nat → Hp → Prop} {A : Around}
theorem seg_begin (hA : G.A = A.deeper G.env) (hc : G.calm = true) (hco : G.env.scope.isCoroutine = false) (hxe : G.xe = fun _ _ => False) (T : Turn G.prog G.w G.K tg J fp it tn) (pg : PG G tg g) (pe : PE G elt te) (hpn : G.pn = []) (hex : G.ex = fp)
    (hpa : ∀ p ∈ pa, ∀ b ∈ fp, p.1 ≠ b) (turn : GTurn J g te (wipe σ vs) vs Q cont W) (n i m : Nat) (s₀ s : Shared) (H : Hp) (hm : m < n) (hat : GAt G pa (wipe σ vs) fp tn i H s) (w : W i m H) :
    Seg (model G.prog G.w) A (fun n s₀ r s₁ => r = .ok .next ∧ GEnd G pa (wipe σ vs) Q cont n s₀ s₁) (GYld G pa (wipe σ vs) fp tn W Q cont) n s₀
      (.compStart (.GeneratorExp elt [⟨tg, iter, [], 0⟩] scope gpos) 0 (.ref it) .none G.env)
      ((model G.prog G.w).den (.compStart (.GeneratorExp elt [⟨tg, iter, [], 0⟩] scope gpos) 0 (.ref it) .none G.env)) [] s := by
  have loop := seg_turns (iter := iter) (scope := scope) (gpos := gpos) hA hc hco hxe T pg pe hpn hex hpa turn n i m s₀ s H hm hat w
  show Seg _ A _ _ _ s₀ _ ((compStart (.GeneratorExp elt [⟨tg, iter, [], 0⟩] scope gpos) 0 (.ref it) .none G.env).onRaise (leaving G.env)) [] s
  unfold compStart
  rw [Sem.onRaise_eq_wrap]
  show Seg _ A _ _ _ s₀ _ ((ask >>= _).wrap _ _ _ _) [] s
  refine seg_bind_wrap (wpAny_askSetting ?_)
  split
  · exact seg_again rfl loop
  · first
      | exact seg_bind_wrap (wpAny_rule (seg_bind_wrap (wpAny_standAt (seg_bind_wrap (T.self _ i s _ _ hat.2.1 (seg_again rfl loop))))))
      | (refine seg_bind_wrap (wpAny_rule ?_); show Seg _ A _ _ _ s₀ _ ((standAt iter.pos >>= _).wrap _ _ _ _) [] s; exact seg_bind_wrap (wpAny_standAt (seg_bind_wrap (T.self _ i s _ _ hat.2.1 (seg_again rfl loop)))))
end
theorem allBare_upd {s : Shared} {g : Nat} {x : GenState} (h : AllBare s.gens) (hx : x.bare = true) : AllBare (s.setGen g x).gens := allBare_setGen h hx
section
variable {X G : Cx} {pins pa : List (Addr × Obj)} {σ σw : L2.St} {fp : List Addr} {tn : Nat → Heap → Prop} {Q : VK} {cont : Bool} {W : Nat → Nat → Hp → Prop} {a : Addr} {gi : Nat}
theorem live_of (hh : X.A.handled = none) (hd : X.A.depth < recursionLimit) (isg : ∀ H s, Inv G pa σw H s → s.heap.IsGen a gi)
    (back : ∀ H s h' g', Inv G pa σw H s → AllBare g' → (∀ b o, s.heap.get? b = some o → h'.get? b = some o) → Inv X pins σ H { s with heap := h', gens := g' }) :
    ∀ (n : Nat) (s : Shared), s.heap.IsGen a gi → s.heap.NoLimit →
      (∃ gs, s.gens[gi]? = some gs ∧ gs.Goes (model X.prog X.w) X.A.in1.in1 (fun n s₀ r s₁ => r = .ok .next ∧ GEnd G pa σw Q cont n s₀ s₁) (GYld G pa σw fp tn W Q cont) n (.send .none) (s.setGen gi .running)) →
      Live X pins σ Q cont a n s := by
  intro n
  induction n with
  | zero =>
    intro s hg hl ⟨gs, hgs, hgo⟩ QQ E h1 h2
    refine wpAny_pyNext_genexpQ (A := X.A.in1) (P := GEnd G pa σw Q cont) hh hl hd hg hgs hgo (fun v s₁ gs' hb hv => ?_) (fun s₁ hp h' hk => ?_)
    · obtain ⟨b, H, rfl, I, ⟨_, h0, _⟩ | ⟨hb2, q⟩⟩ := hv
      · exact absurd h0 (Nat.lt_irrefl _)
      · subst hb2
        exact h1 _ H (back H s₁ s₁.heap _ I (allBare_upd I.bare hb) fun _ _ e => e) q
    · obtain ⟨H, I, q⟩ := hp
      exact h2 _ H (back H s₁ h' _ I (allBare_upd I.bare rfl) hk) q
  | succ n ih =>
    intro s hg hl ⟨gs, hgs, hgo⟩ QQ E h0 h1 h2
    have hgl : gi < s.gens.size := (Array.getElem?_eq_some_iff.mp hgs).1
    refine GenW.wpAny_gsz (n := gi + 1) hgl ?_
    refine wpAny_pyNext_genexpQ (A := X.A.in1) (P := GEnd G pa σw Q cont) hh hl hd hg hgs hgo (fun v s₁ gs' hb hv => ?_) (fun s₁ hp h' hk => ?_)
    · intro hsz
      obtain ⟨b, H, rfl, I, ⟨hbc, _, kap⟩ | ⟨hb2, q⟩⟩ := hv
      · subst hbc
        have hsz1 : gi < s₁.gens.size := by
          have q : (s₁.setGen gi gs').gens.size = s₁.gens.size := GenW.setGen_size _ _ _
          have hsz' : gi + 1 ≤ (s₁.setGen gi gs').gens.size := hsz
          omega
        refine h0 _ (ih _ (isg H s₁ I) I.nolimit ⟨gs', setGen_at hsz1, ?_⟩)
        exact kap _ (allBare_upd (s := s₁.setGen gi gs') (allBare_upd I.bare hb) rfl)
      · subst hb2
        exact h1 _ H (back H s₁ s₁.heap _ I (allBare_upd I.bare hb) fun _ _ e => e) q
    · intro _
      obtain ⟨H, I, q⟩ := hp
      exact h2 _ H (back H s₁ h' _ I (allBare_upd I.bare rfl) hk) q
end
/-! ### its making -/
/-- the generator expression's scope: no cells of its own -/
structure GxS (N : List Str) (sc scope : Scope) (own : List (Str × Nat)) : Prop where
  blk : BlkOk N sc scope own
  co : scope.isCoroutine = false
  cell : ∀ y ∈ scope.names, y.2 ≠ .cell
  dot : scope.names.lookup (".0" : Str) = some NameKind.local
/-- what its reader wants: the table may have grown by its code -/
def gRd (P : Addr) (wi : TI) (g : TG) (te : TE) (vs : List Nat) (cont : Bool) : TE := fun σ H Q => wi σ H fun J H1 => GxR.TabG H1 P ∧ ∀ H2, GxR.Tabbed P H1 H2 → ∃ W : Nat → Nat → Hp → Prop, (∃ m, W 0 m H2) ∧ GTurn J g te (wipe σ vs) vs Q cont W
section
variable {X : Cx} {pins : List (Addr × Obj)} {σ : L2.St} {H : Hp} {s : Shared} {Q : VK} {cont : Bool} {k : Nat} {c P : Addr} {tg elt iter : Expr} {scope : Scope} {own : List (Str × Nat)} {gpos : Pos} {wi : TI} {g : TG} {te : TE} {Q' : Value → Shared → Prop}
theorem gx_make (hc : X.calm = true) (hN : X.N.Nodup) (hr : Room (k + 2) X.A) (TB : GxR.TabB X.base X.mg c P) (hcode : X.env.code = .ref c) (S : GxS X.N X.env.scope scope own) (hi : PI X tg iter wi)
    (hg : ∀ A' s H code fp, PG (gx X A' s H scope code fp) tg g) (he : ∀ A' s H code fp, Room k A' → PE (gx X A' s H scope code fp) elt te) (hs : ∀ v, genFold iter X.env v = pure v)
    (I : Inv X pins σ H s) (h : gRd P wi g te (own.map (·.2)) cont σ H Q) (hQ : ∀ a gi n s', s'.heap.IsGen a gi → Live X pins σ Q cont a n s' → Q' (.ref a) s') :
    wpAny (model X.prog X.w) X.A (eval (.GeneratorExp elt [⟨tg, iter, [], 0⟩] scope gpos) X.env) Q' X.xe s := by
  have hfree : ∀ y ∈ scope.names, y.2 = .free → ∃ c, X.env.cells.lookup y.1 = some c := fun y hy e => by
    rcases S.blk.free y hy e with k | k
    · exact I.ok.has _ (.inl k)
    · exact I.ok.has _ (.inr k)
  refine wpAny_GeneratorExp_make S.co (closure_ok hfree) S.cell S.dot S.blk.kind (by have := hr.dp; omega) ?_ hs
  refine thn (hi.run pins s σ H _ I h) fun xv s1 hx => thn hx fun itv s2 h2 => ?_
  obtain ⟨it, fp, tn, J, H2, e, I2, T, st2, f2, ⟨ps, hP, ht⟩, q⟩ := h2
  subst e
  have hPs : s2.heap.get? P = some { cls := .none, data := .fields ps } := I2.hok P _ hP
  have cd : PySem.W.CodeHd s2.heap c P := TB.code.keeps I2.bk
  refine ⟨I2.nolimit, ?_⟩
  have szf : ∀ b ∈ fp, b < s2.heap.objs.size := fun b hb => by
    obtain ⟨o, e, _⟩ := T.obj _ _ st2 b hb
    exact Heap.lt_size e
  have cont' : ∀ (code : Value) (h3 : Heap) (tk : Nat) (ps' : Array Value), Heap.ExtBut P s2.heap h3 → s2.heap.objs.size ≤ h3.objs.size → h3.get? P = some { cls := .none, data := .fields ps' } → (∃ more, ps' = ps ++ more) → TriplesOk ps'.toList →
      wpAny (model X.prog X.w) X.A (builtinsFor X.env.globals X.env.builtins) (fun bi s₄ => ∀ h', h'.Ns s₄.heap.objs.size (fun y => if y = ".0" then some (.ref it) else none) → Heap.SameBut s₄.heap.objs.size (s₄.heap.push { cls := .type "frame", data := .dict #[] }) h' →
          Q' (.ref h'.objs.size) { s₄ with
            gens := s₄.gens.push (.fresh (.compStart (.GeneratorExp elt [⟨tg, iter, [], 0⟩] scope gpos) 0 (.ref it) .none (genEnv scope (cloFrom X.env.cells scope.names []) s₄.heap.objs.size code bi X.env))),
            toks := s₄.toks + 1 + 1 + 1,
            heap := h'.push { cls := .type "generator", data := .fields #[.int s₄.gens.size 0, .str "<genexpr>" (s₄.toks + 1), .str (X.env.qual ++ "<genexpr>") (s₄.toks + 1 + 1)] } }) X.xe { s2 with heap := h3, toks := tk } := by
    intro code h3 tk ps' hx hsz hP3 hmore ht3
    obtain ⟨bm, ob, e1, e2, e3, e4, e5, e6, e7, e8⟩ := TB.bm
    obtain ⟨more, em⟩ := hmore
    have keep3 : ∀ b u, b ≠ P → s2.heap.get? b = some u → h3.get? b = some u := fun b u hb e => hx b u hb e
    refine wpAny_builtinsFor (m := X.mg) (by rw [I2.ok.glob]; exact (I2.mod.glob.keeps I2.bk).extBut hx TB.gP) e1 e2 (keep3 _ _ e4 (I2.bk _ _ e5)) e6 e7 e8 ?_
    have I3 : Inv X pins σ (upd H2 P (.tbl (ps ++ more))) { s2 with heap := h3, gens := s2.gens, drawn := s2.drawn, toks := tk } := GxR.inv_tab (more := more) I2 hP keep3 (by rw [← em]; exact hP3) I2.bare
    have hTb : GxR.Tabbed P H2 (upd H2 P (.tbl (ps ++ more))) := ⟨⟨ps ++ more, upd_same, by rw [← em]; exact ht3⟩, fun b hb => upd_ne hb⟩
    obtain ⟨W, ⟨m0, w0⟩, turn⟩ := q _ hTb
    generalize hH3 : upd H2 P (.tbl (ps ++ more)) = H3 at I3 hTb w0
    generalize hs4 : ({ s2 with heap := h3, gens := s2.gens, drawn := s2.drawn, toks := tk } : Shared) = s4 at I3 ⊢
    have h4 : s4.heap = h3 := by rw [← hs4]
    have nfP : ∀ b ∈ fp, b ≠ P := fun b hb z => by
      have := (f2 b hb).1
      rw [z, hP] at this
      cases this
    have f4 : ∀ b ∈ fp, FpOk X pins H3 b ∧ b < s4.heap.objs.size := fun b hb => by
      refine ⟨⟨?_, (f2 b hb).2⟩, by rw [h4]; exact Nat.lt_of_lt_of_le (szf b hb) hsz⟩
      rw [← hH3, upd_ne (nfP b hb)]
      exact (f2 b hb).1
    have st4 : tn 0 s4.heap := T.keep _ _ _ st2 fun b hb o e => by rw [h4]; exact keep3 b o (nfP b hb) e
    intro h' hn' hs'
    have hszC : h'.objs.size = s4.heap.objs.size + 1 := by rw [hs'.1, Heap.size_push]
    have keep' : ∀ b o, s4.heap.get? b = some o → h'.get? b = some o := fun b o e => hs'.extBut b o (Nat.ne_of_lt (Heap.lt_size e)) (Heap.get?_push_of_some _ e)
    generalize hoa : ({ cls := .type "generator", data := .fields #[.int s4.gens.size 0, .str "<genexpr>" (s4.toks + 1), .str (X.env.qual ++ "<genexpr>") (s4.toks + 1 + 1)] } : Obj) = oa
    have keep5 : ∀ b o, s4.heap.get? b = some o → (h'.push oa).get? b = some o := fun b o e => Heap.get?_push_of_some _ (keep' b o e)
    have hoa5 : (h'.push oa).get? h'.objs.size = some oa := Heap.get?_push_size _ (by rw [← hoa]; rfl)
    have isG : ∀ {hh : Heap}, hh.get? h'.objs.size = some oa → hh.IsGen h'.objs.size s4.gens.size := fun {hh} e => by
      exact ⟨oa, .str "<genexpr>" (s4.toks + 1), .str (X.env.qual ++ "<genexpr>") (s4.toks + 1 + 1), e, by rw [← hoa], by rw [← hoa], by rw [← hoa]⟩
    have hh2 : (X.A.in1.in1.deeper (gxEnv X s4 scope code)).handled = none := hr.hd
    have hfr : (X.A.in1.in1.deeper (gxEnv X s4 scope code)).frames = some (gxEnv X s4 scope code :: X.stack) := Around.frames_deeper (A := X.A.in1.in1) I3.ok.frames
    have hroom : Room k (X.A.in1.in1.deeper (gxEnv X s4 scope code)) := Room.deeper (A := X.A.in1.in1) (k := k) ⟨hr.hd, by have := hr.dp; show X.A.depth + 3 * (k + 1) + 5 < _; omega, by have := hr.un; show X.A.units + 1 + 1 + 16 * (k + 1) + 200 < _; omega⟩ _
    have inv5 : ∀ g' t', AllBare g' → Inv (gx X (X.A.in1.in1.deeper (gxEnv X s4 scope code)) s4 H3 scope code fp) [(h'.objs.size, oa)] (wipe σ (own.map (·.2))) H3 { s4 with heap := h'.push oa, gens := g', toks := t' } := fun g' t' hg' => by
      have I5 := gx_start (t' := t') (code := code) I3 S.blk S.cell hN f4 hh2 hfr (hn'.push oa) keep5 hg'
      refine I5.pins_of fun p hp => ?_
      have e : p = (h'.objs.size, oa) := by simpa using hp
      subst e
      have hge : s4.heap.objs.size ≤ h'.objs.size := by omega
      refine ⟨hoa5, I3.hok.fresh hge, ?_, fun z => ?_, fun v e => ?_⟩
      · show h'.objs.size ≠ s4.heap.objs.size
        omega
      · rcases List.mem_cons.mp (I3.stkSub _ z) with z | z
        · have := I3.lt
          rw [← z] at this
          exact absurd (Nat.lt_of_lt_of_le this hge) (Nat.lt_irrefl _)
        · exact I3.nofs hge z
      · rw [← hoa] at e
        cases e
    have isg : ∀ H s, Inv (gx X (X.A.in1.in1.deeper (gxEnv X s4 scope code)) s4 H3 scope code fp) [(h'.objs.size, oa)] (wipe σ (own.map (·.2))) H s → s.heap.IsGen h'.objs.size s4.gens.size := fun H s I => isG (I.pin (h'.objs.size, oa) (by simp)).1
    have back : ∀ H s h9 g', Inv (gx X (X.A.in1.in1.deeper (gxEnv X s4 scope code)) s4 H3 scope code fp) [(h'.objs.size, oa)] (wipe σ (own.map (·.2))) H s → AllBare g' → (∀ b o, s.heap.get? b = some o → h9.get? b = some o) → Inv X pins σ H { s with heap := h9, gens := g' } := fun H s h9 g' I hg' kp =>
      I3.call' (ch := fp) I.os (I.base.trans (Un.kept kp)) (I.hok.kept kp) hg' fun b hb => ⟨(f4 b hb).1.2.2.2.1, (f4 b hb).1.2.1, (f4 b hb).1.2.2.2.2.1, (f4 b hb).1.2.2.2.2.2⟩
    refine hQ h'.objs.size s4.gens.size (m0 + 1) _ (isG hoa5) (live_of (G := gx X (X.A.in1.in1.deeper (gxEnv X s4 scope code)) s4 H3 scope code fp) (pa := [(h'.objs.size, oa)]) (σw := wipe σ (own.map (·.2))) (fp := fp) (tn := tn) (W := W) hr.hd (by have := hr.dp; omega) isg back (m0 + 1) _ (isG hoa5) (I3.nolimit.keeps keep5) ⟨_, Array.getElem?_push_size .., rfl, ?_⟩)
    have fr3 : ∀ b ∈ fp, H3 b = none := fun b hb => (f4 b hb).1.1
    have st5 : tn 0 (h'.push oa) := T.keep _ _ _ st4 fun b _ o e => keep5 b o e
    exact seg_begin (G := gx X (X.A.in1.in1.deeper (gxEnv X s4 scope code)) s4 H3 scope code fp) (A := X.A.in1.in1) rfl hc S.co rfl T (hg _ _ _ _ _) (he _ _ _ _ _ hroom) rfl rfl (fun p hp b hb => by
      have e : p = (h'.objs.size, oa) := by simpa using hp
      subst e
      have h9 : b < s4.heap.objs.size := (f4 b hb).2
      have hge : s4.heap.objs.size ≤ h'.objs.size := by omega
      exact Nat.ne_of_gt (Nat.lt_of_lt_of_le h9 hge)) turn (m0 + 1) 0 m0 _ _ H3 (Nat.lt_succ_self _) ⟨inv5 _ _ (allBare_upd (I3.bare.push rfl) rfl), st5, fr3⟩ w0
  cases hf : codeAmong gpos ps.toList with
  | none =>
    refine wpAny_genexprCodeX hcode (cd.code hPs ht) (cd.tab hPs) hf fun c' h' tk hx hge hlt hco' _ htab' _ => ?_
    obtain ⟨o1, vs, f1, tf, fl, tg, inF, tx, tt, op, _, _, _, _, _, _, _, _, _, htr, _⟩ := hco'
    exact cont' _ h' tk _ hx (Nat.le_trans hge (Nat.le_of_lt hlt)) htab'.2 ⟨_, rfl⟩ htr
  | some cv =>
    refine wpAny_genexprCode_hit hcode (cd.code hPs ht) hf ?_
    exact cont' cv s2.heap s2.toks ps (Heap.ExtBut.refl _ _) (Nat.le_refl _) hPs ⟨#[], by simp⟩ ht
end
end Ky
namespace Ky
open PySem PySem.Spec PyProof.Rows L2
section
variable {X : Cx} {k : Nat} {c P : Addr} {tg elt iter : Expr} {scope : Scope} {own : List (Str × Nat)} {gpos p pos : Pos} {wi : TI} {g : TG} {te : TE}
theorem pe_allG (hr : Room (k + 2) X.A) (hgl : Gl X "all") (hm : X.mg "all" = none) (hb : bootBuiltins "all" = some (.builtin "all")) (hc : X.calm = true) (hN : X.N.Nodup) (TB : GxR.TabB X.base X.mg c P) (hcode : X.env.code = .ref c) (S : GxS X.N X.env.scope scope own) (hi : PI X tg iter wi)
    (hg : ∀ A' s H code fp, PG (gx X A' s H scope code fp) tg g) (hel : ∀ A' s H code fp, Room k A' → PE (gx X A' s H scope code fp) elt te) (hs : ∀ v, genFold iter X.env v = pure v := by intro _; rfl)
    (he : starEach [.GeneratorExp elt [⟨tg, iter, [], 0⟩] scope gpos] X.env = (false, eval (.GeneratorExp elt [⟨tg, iter, [], 0⟩] scope gpos) X.env) :: starEach [] X.env := by rfl) :
    PE X (.Call (.Name "all" p) [.GeneratorExp elt [⟨tg, iter, [], 0⟩] scope gpos] [] pos) (gRd P wi g te (own.map (·.2)) true) := by
  refine ⟨fun pins s σ H Q I h => ?_⟩
  refine wpAny_Call_Name_kw (ld_blt I hgl hm hb ?_)
  refine PyProof.Rows.callWith_builtin1 ?_ he (by rfl)
  rw [he]
  show wpAny _ _ (spliced ((false, eval (.GeneratorExp elt [⟨tg, iter, [], 0⟩] scope gpos) X.env) :: backTo pos (starEach [] X.env))) _ _ s
  refine Calls.spliced_cons (gx_make hc hN hr TB hcode S hi hg hel hs I h fun a gi n s' hG hL => ?_)
  refine Calls.spliced_nil ?_
  refine call_function_tree F.kind_all F.plain_all F.entry_all (F.args_all1 _) ?_
  unfold Builtin.«all»
  refine wpAny_bind (m := oneArg "all" _) (wpAny_pure ?_)
  refine wpAny_bind (wpAny_pyIter_gen hG ?_)
  exact wpAny_pure ⟨plainId_quiet F.plain_all_loop _, live_all n s' hL fun s'' H' b I' q => ⟨.bl b, H', I', rfl, q⟩⟩
theorem pe_anyG (hr : Room (k + 2) X.A) (hgl : Gl X "any") (hm : X.mg "any" = none) (hb : bootBuiltins "any" = some (.builtin "any")) (hc : X.calm = true) (hN : X.N.Nodup) (TB : GxR.TabB X.base X.mg c P) (hcode : X.env.code = .ref c) (S : GxS X.N X.env.scope scope own) (hi : PI X tg iter wi)
    (hg : ∀ A' s H code fp, PG (gx X A' s H scope code fp) tg g) (hel : ∀ A' s H code fp, Room k A' → PE (gx X A' s H scope code fp) elt te) (hs : ∀ v, genFold iter X.env v = pure v := by intro _; rfl)
    (he : starEach [.GeneratorExp elt [⟨tg, iter, [], 0⟩] scope gpos] X.env = (false, eval (.GeneratorExp elt [⟨tg, iter, [], 0⟩] scope gpos) X.env) :: starEach [] X.env := by rfl) :
    PE X (.Call (.Name "any" p) [.GeneratorExp elt [⟨tg, iter, [], 0⟩] scope gpos] [] pos) (gRd P wi g te (own.map (·.2)) false) := by
  refine ⟨fun pins s σ H Q I h => ?_⟩
  refine wpAny_Call_Name_kw (ld_blt I hgl hm hb ?_)
  refine PyProof.Rows.callWith_builtin1 ?_ he (by rfl)
  rw [he]
  show wpAny _ _ (spliced ((false, eval (.GeneratorExp elt [⟨tg, iter, [], 0⟩] scope gpos) X.env) :: backTo pos (starEach [] X.env))) _ _ s
  refine Calls.spliced_cons (gx_make hc hN hr TB hcode S hi hg hel hs I h fun a gi n s' hG hL => ?_)
  refine Calls.spliced_nil ?_
  refine call_function_tree F.kind_any F.plain_any F.entry_any (F.args_any1 _) ?_
  unfold Builtin.«any»
  refine wpAny_bind (m := oneArg "any" _) (wpAny_pure ?_)
  refine wpAny_bind (wpAny_pyIter_gen hG ?_)
  exact wpAny_pure ⟨plainId_quiet F.plain_any_loop _, live_any n s' hL fun s'' H' b I' q => ⟨.bl b, H', I', rfl, q⟩⟩
end
end Ky

namespace Kz
open PySem PySem.SeqAt PySem.W PyProof.Rows
/-! ### sorting of tuples, the empty one among them -/
section
variable {prog : Program} {w : World} {A : Around} {E : Value → Shared → Prop} {s : Shared}
theorem call_tuple_lt {Q : Value → Shared → Prop} {l b : Addr} {items items2 : Array Value} {e r : Nat → Bool} (hl : s.heap.IsTuple l items) (hb : s.heap.IsTuple b items2)
    (he : ∀ j (h1 : j < items.size) (h2 : j < items2.size), EqAt A.in1 s items[j] items2[j] (e j)) (hr : ∀ j (h1 : j < items.size) (h2 : j < items2.size), e j = false → RcLt A.in1 s items[j] items2[j] (r j))
    (h : Q (.bool (firstLt e r (decide (items.size < items2.size)) (List.range (min items.size items2.size)))) s) : wpAny (model prog w) A (call (.builtin "tuple.__lt__") [.ref l, .ref b]) Q E s := by
  obtain ⟨⟨cls, dd, data, sl⟩, ho, hc, n, hd⟩ := id hl
  obtain ⟨⟨cls2, dd2, data2, sl2⟩, ho2, hc2, n2, hd2⟩ := id hb
  simp only at hc hd hc2 hd2
  subst hc hd hc2 hd2
  exact call_meets F.slot_tuple_lt ⟨_, ho, rfl⟩ F.entry_tuple_lt (F.args_tuple_lt_2 _ _) (tuple_ltAt l b items items2 n n2 dd dd2 sl sl2 e r) ⟨ho, ho2, he, hr, h⟩
theorem oneLt_any {f : Bool} {da db : PyData} {a b : Value} {as bs : List Addr} {Q : Bool → Shared → Prop} (ra : Reads s.heap a da as) (rb : Reads s.heap b db bs) (h : alike da db = true) (hn : da ≠ .none)
    (hu : A.units + min da.depth db.depth < cLine) (hq : Q (dataLt da db) s) : wpAny (model prog w) A (oneLt' f a b) Q E s := by
  by_cases ht : f = true ∧ ∃ xs, da = .tuple xs
  · obtain ⟨rfl, xs, rfl⟩ := ht
    cases db with
    | tuple ys =>
      have hal : alikeAll xs ys = true := by simpa [alike] using h
      cases ra with
      | @tuple l o vs n _ as₁ h1 h2 h3 h4 =>
        cases rb with
        | @tuple l' o' vs' n' _ bs₁ k1 k2 k3 k4 =>
          have n1 : vs.size = xs.length := by simpa using ReadsAll.length _ _ _ h4
          have n2 : vs'.size = ys.length := by simpa using ReadsAll.length _ _ _ k4
          rw [dataLt_tuple, ← firstLt_toks xs ys hal, ← n1, ← n2] at hq
          rw [oneLt'_eq]
          simp only [if_true]
          refine wpAny_bind (wpAny_cRoomFor (room_here hu) ?_)
          refine wpAny_bind (wpAny_callSpecialIfBound?_slot (T := "tuple") ⟨_, h1, h2⟩ F.slot_tuple_lt (call_tuple_lt (e := pairEq xs ys) (r := fun j => dataLt (xs.getD j .none) (ys.getD j .none)) ⟨_, h1, h2, _, h3⟩ ⟨_, k1, k2, _, k3⟩ (fun j j1 j2 => ?_) (fun j j1 j2 hj => ?_) ?_))
          · have := eqAt_alikeAll xs ys A.in1 s vs.toList vs'.toList _ _ h4 k4 hal (room_in hu) j (by simpa using j1) (by simpa using j2)
            simpa using this
          · have := rcLt_alikeAll xs ys A.in1 s vs.toList vs'.toList _ _ h4 k4 hal (room_in hu) j (by simpa using j1) (by simpa using j2) hj
            simpa using this
          · exact wpAny_truthy_bool hq
    | _ => exact absurd h (by simp [alike])
  · exact oneLt_alike (fun hf xs hx => ht ⟨hf, xs, hx⟩) ra rb h hn hu hq
def hasItem : PyData → Bool
  | .tuple [] => false
  | _ => true
theorem keyLt_general (x y : Value) : keyLt' general' x y = oneLt' false x y := rfl
theorem firsts_any {M : Model} : ∀ {vs : List Value} {ds : List PyData}, EachIs (fun v d => ∃ as, Reads s.heap v d as) vs ds → (∀ d ∈ ds, ∃ r, d = .tuple r) →
    ∃ fs : List (Option Value), (∀ (Q : List (Option Value) → Shared → Prop), Q fs s → wpAny M A (vs.mapM firstOfTuple') Q E s) ∧ fs.map (·.isSome) = ds.map hasItem
  | _, _, .nil, _ => ⟨[], fun Q h => by rw [List.mapM_nil]; exact wpAny_pure h, rfl⟩
  | _, _, .cons (b := d) ⟨as, r⟩ t, ht => by
    obtain ⟨fs, h1, h2⟩ := firsts_any (M := M) t fun d hd => ht d (List.mem_cons_of_mem _ hd)
    obtain ⟨ds, rfl⟩ := ht d (List.mem_cons_self ..)
    cases r with
    | @tuple a o xs n _ _ ho hc hd hr =>
      refine ⟨xs[0]? :: fs, fun Q h => ?_, ?_⟩
      · rw [List.mapM_cons]
        refine wpAny_bind ?_
        rw [kas_first_eq]
        refine wpAny_bind (Looks.here (show Looks M s.heap (typeOf (.ref a)) o.cls from (Looks.ld ho).andThen .now) ?_)
        rw [hc, if_neg (by first | decide | simp)]
        refine wpAny_bind (listItems_at ho hd (wpAny_pure ?_))
        exact wpAny_bind (h1 (fun bs s' => wpAny M A (pure (xs[0]? :: bs)) Q E s') (wpAny_pure h))
      · rw [List.map_cons, List.map_cons, h2]
        congr 1
        cases q : xs.toList with
        | nil =>
          rw [q] at hr
          cases hr
          have e0 : xs = #[] := by
            apply Array.toList_inj.mp
            rw [q]
          subst e0
          rfl
        | cons f fr =>
          rw [q] at hr
          cases hr with
          | cons r1 r2 =>
            have hf : xs[0]? = some f := by rw [← Array.getElem?_toList, q]; rfl
            rw [hf]
            rfl
/-- values that read as alike tuples can be sorted -/
theorem sorts_tups {vs : List Value} {ds : List PyData} (e : EachIs (fun v d => ∃ as, Reads s.heap v d as) vs ds) (hal : AllAlike ds) (hk : ∀ d ∈ ds, ∃ r, d = .tuple r) (hu : ∀ d, d ∈ ds → A.units + d.depth < cLine) : SortsAt prog w A s (dataKind s.heap ds) vs := by
  by_cases hne : ∀ d, d ∈ ds → ∃ x r, d = PyData.tuple (x :: r)
  · exact SortsAt.data e hal (.inl hne) hu
  · have hemp : PyData.tuple [] ∈ ds := by
      apply Classical.byContradiction
      intro hno
      refine hne fun d hd => ?_
      obtain ⟨r, rfl⟩ := hk d hd
      cases r with
      | nil => exact absurd hd hno
      | cons x r => exact ⟨x, r, rfl⟩
    have room : ∀ {d d' : PyData}, d ∈ ds → A.units + min d.depth d'.depth < cLine := fun {d d'} hd => Nat.lt_of_le_of_lt (Nat.add_le_add_left (Nat.min_le_left _ _) _) (hu d hd)
    have ask : ∀ f : Bool, ∀ (E : Value → Shared → Prop) (x y : Value) (a b : (dataKind s.heap ds).α) {Q : Bool → Shared → Prop}, (dataKind s.heap ds).keyOf x = some a → (dataKind s.heap ds).keyOf y = some b → Q ((dataKind s.heap ds).blt a b) s → wpAny (model prog w) A (oneLt' f x y) Q E s := by
      intro f E x y a b Q ha hb hq
      obtain ⟨d, as, hd, ra, rfl⟩ := dataKind_inv ha
      obtain ⟨d', as', hd', rb, rfl⟩ := dataKind_inv hb
      refine oneLt_any ra rb (hal d hd d' hd') (fun z => ?_) (room hd) hq
      obtain ⟨r, rfl⟩ := hk d hd
      cases z
    refine ⟨fun v hv => ?_, ?_⟩
    · obtain ⟨d, hd, as, r⟩ := e.left v hv
      exact ⟨_, dataKind_some hal hd r⟩
    · cases ds with
      | nil => exact absurd hemp (by simp)
      | cons d₀ ds₀ =>
        have nall : ∀ fs : List (Option Value), fs.map (·.isSome) = (d₀ :: ds₀).map hasItem → ¬ (fs.toArray.all (·.isSome)) = true := fun fs hfs hall => by
          simp only [List.all_toArray] at hall
          have hm : false ∈ fs.map (·.isSome) := by
            rw [hfs]
            exact List.mem_map.mpr ⟨_, hemp, rfl⟩
          obtain ⟨f, hf, hb⟩ := List.mem_map.mp hm
          have := List.all_eq_true.mp hall f hf
          rw [hb] at this
          cases this
        by_cases h0 : d₀ = PyData.tuple []
        · refine ⟨oneType', fun E x y a b Q ha hb hq => by rw [keyLt'_oneType]; exact ask true E x y a b ha hb hq, fun h2 E Q hq => ?_⟩
          obtain ⟨fs, h1, hfs⟩ := firsts_any (M := model prog w) (A := A) (E := E) e hk
          rw [keyKind'_eq, List.mapM_toArray, map_eq_pure_bind]
          refine wpAny_bind (wpAny_bind (h1 _ (wpAny_pure ?_)))
          rw [if_neg (nall fs hfs)]
          have hf0 : ¬ ((fs.toArray[0]?.bind id).isSome = true) := by
            cases fs with
            | nil => simp
            | cons f fr =>
              rw [List.map_cons, List.map_cons] at hfs
              have := (List.cons.inj hfs).1
              rw [h0] at this
              have this : f.isSome = false := this
              simpa using this
          rw [if_neg hf0, oneTypeOnly'_eq, List.mapM_toArray, map_eq_pure_bind]
          refine wpAny_bind (wpAny_bind (wpAny_bind (kas_mapM (r := Value.type "tuple") _ (fun v hv Q' hq => ?_) (wpAny_pure ?_))))
          · obtain ⟨d, hd, as, r⟩ := e.left v hv
            obtain ⟨r', rfl⟩ := hk d hd
            exact Looks.here (looks_reads (M := model prog w) r) hq
          · have hall : ((List.map (fun _ => Value.type "tuple") vs).toArray.all fun x => x == Value.type "tuple") = true := by
              simp only [List.all_toArray, List.all_map, List.all_eq_true]
              intro _ _
              exact beq_self_eq_true _
            have h0' : (List.map (fun _ => Value.type "tuple") vs).toArray[0]? = some (Value.type "tuple") := by
              cases vs with
              | nil => exact absurd h2 (by simp)
              | cons v vr => simp
            rw [h0']
            simp only [hall, if_true]
            exact wpAny_pure (wpAny_pure hq)
        · refine ⟨general', fun E x y a b Q ha hb hq => by rw [keyLt_general]; exact ask false E x y a b ha hb hq, fun h2 E Q hq => ?_⟩
          obtain ⟨fs, h1, hfs⟩ := firsts_any (M := model prog w) (A := A) (E := E) e hk
          rw [keyKind'_eq, List.mapM_toArray, map_eq_pure_bind]
          refine wpAny_bind (wpAny_bind (h1 _ (wpAny_pure ?_)))
          rw [if_neg (nall fs hfs)]
          have hf0 : (fs.toArray[0]?.bind id).isSome = true := by
            cases fs with
            | nil =>
              rw [List.map_cons] at hfs
              cases hfs
            | cons f fr =>
              rw [List.map_cons, List.map_cons] at hfs
              have := (List.cons.inj hfs).1
              obtain ⟨r, hr⟩ := hk d₀ (List.mem_cons_self ..)
              have this : f.isSome = true := by
                rw [this, hr]
                cases r with
                | nil => exact absurd hr h0
                | cons _ _ => rfl
              simpa using this
          rw [if_pos hf0]
          exact wpAny_pure hq
end
end Kz

namespace Ky
open PySem PySem.Spec PyProof.Rows L2
/-! ### data in order -/
/-- keys that sorted takes: tuples (also the empty one), or no tuples and no None -/
def Srt (ds : List PyData) : Prop := (∀ d, d ∈ ds → ∃ r, d = PyData.tuple r) ∨ (∀ d, d ∈ ds → d ≠ .none ∧ ∀ xs, d ≠ .tuple xs)
theorem srt_sorts {prog : Program} {w : World} {A : Around} {s : Shared} {vs : List Value} {ds : List PyData} (e : PySem.W.EachIs (fun v d => ∃ as, Reads s.heap v d as) vs ds) (hal : PySem.W.AllAlike ds) (hk : Srt ds) (hu : ∀ d, d ∈ ds → A.units + d.depth < cLine) : PySem.W.SortsAt prog w A s (PySem.W.dataKind s.heap ds) vs := by
  rcases hk with hk | hk
  · exact Kz.sorts_tups e hal hk hu
  · exact PySem.W.SortsAt.data e hal (.inr hk) hu
section
variable {X : Cx} {pins : List (Addr × Obj)} {σ : L2.St} {H : Hp} {s : Shared}
theorem each_dp (I : Inv X pins σ H s) : ∀ {xs : List V} {us : List Value} {ds : List PyData}, Vals xs us → DpAll X.K H xs ds → PySem.W.EachIs (fun u (b : V × PyData) => RelV b.1 u ∧ ∃ as, Reads s.heap u b.2 as) us (xs.zip ds)
  | _, _, _, .nil, .nil => .nil
  | _, _, _, .cons r1 r2, .cons d1 d2 => .cons ⟨r1, Dp.reads I _ _ _ d1 r1⟩ (each_dp I r2 d2)
theorem dpAll_len {K : PySem.W.Frag} : ∀ {xs : List V} {ds : List PyData}, DpAll K H xs ds → xs.length = ds.length
  | _, _, .nil => rfl
  | _, _, .cons _ d => by rw [List.length_cons, List.length_cons, dpAll_len d]
theorem zip_snd {xs : List V} {ds : List PyData} (h : xs.length = ds.length) : (xs.zip ds).map (·.2) = ds := List.map_snd_zip (by omega)
theorem vals_each : ∀ {us : List Value} {bs : List (V × PyData)}, PySem.W.EachIs (fun u (b : V × PyData) => RelV b.1 u) us bs → Vals (bs.map (·.1)) us
  | _, _, .nil => .nil
  | _, _, .cons r t => .cons r (vals_each t)
/-- the items in the order of their data -/
def sortD (xs : List V) (ds : List PyData) : List V := ((xs.zip ds).mergeSort (PySem.W.dataLe false (·.2))).map (·.1)
theorem sortD_len {xs : List V} {ds : List PyData} (h : xs.length = ds.length) : (sortD xs ds).length = xs.length := by
  unfold sortD
  rw [List.length_map, List.length_mergeSort, List.length_zip, ← h, Nat.min_self]
def rSortedD (K : PySem.W.Frag) : List V → Hp → VK → Prop := fun vs H Q => ∃ (a : Addr) (xs : List V) (ds : List PyData), vs = [.ref a] ∧ SqL K H a xs ∧ DpAll K H xs ds ∧ PySem.W.AllAlike ds ∧ Srt ds ∧ (∀ d ∈ ds, d.depth ≤ 60) ∧ ∀ p, H p = none → Q (.ref p) (upd H p (.lst (sortD xs ds)))
theorem cr_sortedD (hu : X.A.units + 64 < cLine) : CallR X (.builtin "sorted") (rSortedD X.K) := by
  intro pins s σ H vs us Q I r h
  obtain ⟨a, xs, ds, rfl, hs, hd, hal, hk, hdep, q⟩ := h
  obtain rfl := Vals.ref1 r
  obtain ⟨its, rv, hl, hz⟩ := I.list hs
  have hlen := dpAll_len hd
  have e := each_dp I rv hd
  have hm := zip_snd hlen
  have er' : PySem.W.EachIs (fun v (b : V × PyData) => ∃ as, Reads (PySem.W.sortingHeap (PySem.W.copyHeap s.heap its) (s.heap.objs.size + 1) its) v b.2 as) its (xs.zip ds) := e.mono fun _ _ ⟨_, as, r⟩ => ⟨as, PyProof.Rows.Reads.keeps (fun _ _ => PySem.W.sorting_copy_old) r⟩
  have em := PySem.W.each_map (R := fun v d => ∃ as, Reads (PySem.W.sortingHeap (PySem.W.copyHeap s.heap its) (s.heap.objs.size + 1) its) v d as) (fun b : V × PyData => b.2) er'
  rw [hm] at em
  refine PySem.W.sorted_vals hl.isList (srt_sorts (s := { s with heap := PySem.W.sortingHeap (PySem.W.copyHeap s.heap its) (s.heap.objs.size + 1) its }) em hal hk fun d hm' => ?_) (by rw [← rv.length]; exact hz) ?_
  · have := hdep d hm'
    show X.A.units + 1 + 1 + d.depth < cLine
    omega
  · have out := PySem.W.sortVals_data (enc := fun b : V × PyData => b.2) (R := fun u (b : V × PyData) => RelV b.1 u) false (e.mono fun _ _ z => z.1) er' (by rw [hm]; exact hal)
    rw [hm] at out
    generalize PySem.W.sortVals (PySem.W.dataKind (PySem.W.sortingHeap (PySem.W.copyHeap s.heap its) (s.heap.objs.size + 1) its) ds) false its its = res at out ⊢
    obtain ⟨ep, he'⟩ := PyProof.Rows.sortedAll_at s.heap its res.toArray
    exact ⟨.ref _, upd H (s.heap.objs.size + 1) (.lst (sortD xs ds)), I.laid (t' := s.toks) (fun _ _ => PyProof.Rows.sortedAll_old) (Nat.le_succ _) ⟨by rw [sortD_len hlen]; exact hz, _, ep, vals_each out, he'⟩, rfl, q _ (I.hok.fresh (Nat.le_succ _))⟩
/-! ### < of data -/
def rLtD (K : PySem.W.Frag) : R2 := fun x y H Q => ∃ d e, Dp K H x d ∧ Dp K H y e ∧ PySem.W.alike d e = true ∧ d ≠ .none ∧ d.depth ≤ 60 ∧ Q (.bl (PySem.W.dataLt d e)) H
theorem op_ltD (hu : X.A.units + 64 < cLine) : OpR X (compareOp .Lt) (rLtD X.K) := by
  intro pins s σ H x y v u Q I rx ry h
  obtain ⟨d, e, hd, he, ha, hn, hz, q⟩ := h
  obtain ⟨as, r1⟩ := Dp.reads I d x v hd rx
  obtain ⟨bs, r2⟩ := Dp.reads I e y u he ry
  exact PySem.W.lt_data r1 r2 ha hn (by have := Nat.min_le_left d.depth e.depth; omega) ⟨.bl _, H, I, rfl, q⟩
end
end Ky

namespace Ky
open PySem PySem.Spec PyProof.Rows L2
/-! ### sorted(l, key=f), f a def of the program -/
theorem freed_none (h : Heap) (a : Addr) : (h.update a fun _ => ⟨.none, none, .freed, #[]⟩).get? a = none := by
  cases e : (h.update a fun _ => ⟨.none, none, .freed, #[]⟩).get? a with
  | none => rfl
  | some o =>
    obtain ⟨h1, h2⟩ := Heap.get?_some_iff.mp e
    exfalso
    obtain ⟨objs⟩ := h
    simp only [Heap.update, Array.getElem?_modify, if_pos] at h1
    cases q : objs[a]? with
    | none =>
      rw [q] at h1
      cases h1
    | some x =>
      rw [q] at h1
      cases h1
      cases h2
/-- a context at another place of the same calls, where nothing is raised -/
abbrev atA (X : Cx) (A' : Around) : Cx := { X with A := A', xe := fun _ _ => False }
section
variable {X : Cx} {pins : List (Addr × Obj)} {σ : L2.St} {H : Hp} {s : Shared}
theorem inAt {A' : Around} (I : Inv X pins σ H s) (hh : X.calm = true → A'.handled = none) (hf : A'.frames = X.A.frames) : Inv (atA X A') pins σ H s :=
  ⟨⟨I.ok.mod, I.ok.kind, I.ok.glob, I.ok.blt, I.ok.above, I.ok.inj, I.ok.has, I.ok.cab, hh, hf.trans I.ok.frames, I.ok.stk, I.ok.exf, I.ok.bs, I.ok.bsz, I.ok.noex, I.ok.exfs, I.ok.funs, I.ok.frf⟩, I.os, I.bare, I.base, I.loc, I.cell, I.free, I.freeC, I.pin, I.hok, I.len⟩
theorem outAt {A' : Around} (I : Inv (atA X A') pins σ H s) (ok : X.Ok) : Inv X pins σ H s := ⟨ok, I.os, I.bare, I.base, I.loc, I.cell, I.free, I.freeC, I.pin, I.hok, I.len⟩
/-- records of ours have turned, one of them is tracked from now on -/
theorem take_in {h' : Heap} {t' : Nat} {ch : List Addr} {it : Addr} {o : HO} (I : Inv X pins σ H s) (k : ∀ b ob, b ∉ ch → s.heap.get? b = some ob → h'.get? b = some ob) (f : ∀ b ∈ ch, FpOk X pins H b) (hit : it ∈ ch)
    (new : ObjOk X.prog X.w (upd H it o) h' it o) : Inv X pins σ (upd H it o) { s with heap := h', toks := t' } := by
  have nch : ∀ b u, H b = some u → b ∉ ch := fun b u e z => by
    have := (f b z).1
    rw [e] at this
    cases this
  have up : ∀ b u, H b = some u → upd H it o b = some u := fun b u e => by rw [upd_ne (fun z => nch b u e (by rw [z]; exact hit))]; exact e
  refine I.step (g' := s.gens) (d' := s.drawn) (ch := ch) (fun b hb => ?_) (fun b ob _ _ hc e _ => k b ob hc e) (fun b ob _ _ hc e _ => ⟨ob.slots, k b ob hc e⟩)
    (fun b ob hc _ n => by rw [upd_ne (fun z => hc (by rw [z]; exact hit))]; exact n) (fun b ob hc e => ⟨ob, k b ob hc e⟩) (fun b _ e => up b _ e) (fun b _ _ e => up b _ e) (fun b ps e => ⟨#[], by rw [up b _ e]; simp⟩) (fun m hm => ?_) (fun b u e => ?_) I.bare
  · obtain ⟨_, h1, _, h2, h3, h4⟩ := f b hb
    exact ⟨h2, h1, h3, h4⟩
  · obtain ⟨ob, es, ep, ho, r⟩ := hm
    exact ⟨ob, es, ep, k _ ob (fun z => (f _ z).2.1 rfl) ho, r⟩
  · by_cases hb : b = it
    · rw [hb, upd_same] at e
      cases e
      rw [hb]
      exact new
    · rw [upd_ne hb] at e
      refine (I.hok b u e).stay (fun c v hc q => k c v ?_ q) (fun c q => up c _ q) fun c _ q => up c _ q
      rcases hc with z | z
      · rw [z]; exact nch b u e
      · exact nch c _ z
theorem dpAll_snoc {K : PySem.W.Frag} : ∀ {xs : List V} {ds : List PyData} {x : V} {d : PyData}, DpAll K H xs ds → Dp K H x d → DpAll K H (xs ++ [x]) (ds ++ [d])
  | _, _, _, _, .nil, h => .cons h .nil
  | _, _, _, _, .cons h1 h2, h => .cons h1 (dpAll_snoc h2 h)
mutual
theorem Kept.dp {K : PySem.W.Frag} {H H' : Hp} (e : Kept H H') : ∀ (d : PyData) (v : V), Dp K H v d → Dp K H' v d
  | .none, _, h => by cases h; exact .non
  | .bool b, _, h => by cases h; exact .bl b
  | .int i, _, h => by cases h; exact .int i
  | .str x, _, h => by cases h; exact .str x
  | .list ds, _, h => by
    cases h with
    | lst hs ha => exact .lst (e.sq hs) (Kept.dpAll e ds _ ha)
  | .tuple ds, _, h => by
    cases h with
    | tup hs ha =>
      refine .tup ?_ (Kept.dpAll e ds _ ha)
      rcases hs with (hs | ⟨o, hs⟩) | hs
      · exact .inl (.inl (e.tup hs))
      · exact .inl (.inr ⟨o, e.keep _ _ (fun ps z => by cases z) hs⟩)
      · exact .inr hs
  | .dict _, _, h => by cases h
theorem Kept.dpAll {K : PySem.W.Frag} {H H' : Hp} (e : Kept H H') : ∀ (ds : List PyData) (vs : List V), DpAll K H vs ds → DpAll K H' vs ds
  | [], _, h => by cases h; exact .nil
  | d :: ds, _, h => by
    cases h with
    | cons h1 h2 => exact .cons (Kept.dp e d _ h1) (Kept.dpAll e ds _ h2)
end
def rSortedF (K : PySem.W.Frag) (f : Addr) (sp : Sp) : List V → List V → Hp → VK → Prop := fun vs zs H Q => ∃ (a : Addr) (xs : List V) (ds : List PyData), vs = [.ref a] ∧ zs = [.ref f] ∧ SqL K H a xs ∧ xs.length = ds.length ∧ PySem.W.AllAlike ds ∧ Srt ds ∧ (∀ d ∈ ds, d.depth ≤ 60) ∧
  (∀ (i : Nat) (x : V) (d : PyData) (H1 : Hp), xs[i]? = some x → ds[i]? = some d → Kept H H1 → sp [x] H1 (fun y H2 => Kept H1 H2 ∧ Dp K H2 y d) E0) ∧ ∀ H2, Kept H H2 → ∀ p, H2 p = none → Q (.ref p) (upd H2 p (.lst (sortD xs ds)))
theorem vals_len {xs : List V} {us : List Value} (r : Vals xs us) : xs.length = us.length := r.length
theorem cr_sortedF {k : Nat} {f : Addr} {fd : FuncData} {ps : List Str} {sp : Sp} (hr : Room (k + 1) X.A) (F : FnOk X.prog X.w X.K X.mg X.base CX0 k f fd ps sp) (hb : Binds X.K fd ps []) : CallRK X (.builtin "sorted") [Str.ofString "key"] (rSortedF X.K f sp) := by
  intro pins s σ H vs zs us ws Q I r rz h
  obtain ⟨a, xs, ds, rfl, rfl, hs, hlen, hal, hk, hdep, call, q⟩ := h
  obtain rfl := Vals.ref1 r
  obtain ⟨w1, rfl, e1⟩ := vals1 rz
  obtain rfl : w1 = Value.ref f := e1
  obtain ⟨its, rv, hl, hz⟩ := I.list hs
  have hil : xs.length = its.length := rv.length
  have hZ : its.length ≤ sizeLine := by omega
  refine PySem.W.sorted_of_sort hl.isList hZ (PyProof.Rows.ksk_s1 _ _) (fun _ => PyProof.Rows.ksk_l1 _ _) fun E' => ?_
  show wpAny _ _ (Builtin.«list.sort» ⟨[.ref (s.heap.objs.size + 1)], [(Str.ofString "key", .ref f)]⟩) _ _ _
  rw [PyProof.Rows.ksk_t1]
  have hoL := PySem.W.copyHeap_at s.heap its
  have szc : (PySem.W.copyHeap s.heap its).objs.size = s.heap.objs.size + 2 := by
    unfold PySem.W.copyHeap
    rw [Heap.size_push, Heap.size_after_update, Heap.size_push]
  have k0 : ∀ b o, s.heap.get? b = some o → (PySem.W.sortingHeap (PySem.W.copyHeap s.heap its) (s.heap.objs.size + 1) its).get? b = some o := fun _ _ => PySem.W.sorting_copy_old
  generalize hL : s.heap.objs.size + 1 = L at hoL k0 ⊢
  obtain ⟨ep, ho1⟩ : ∃ ep, ((PySem.W.copyHeap s.heap its).update L (Obj.mapSeq fun _ => (#[] : Array Value))).get? L = some (PyProof.Rows.seqObj "list" #[] ep) := ⟨_, PyProof.Rows.get?_update_seq hoL fun _ => #[]⟩
  unfold PyProof.Rows.ksk_tree
  refine wpAny_bind (PyProof.Rows.listItems_at hoL rfl ?_)
  refine wpAny_bind (PyProof.Rows.listUpdate_at hoL rfl ?_ (by rw [List.size_toArray]; exact hZ) (Nat.zero_le _))
  refine wpAny_bind (PyProof.Rows.seqEpoch_at ho1 rfl ?_)
  refine wpAny_bind (wpAny_newTuple ?_ (by show its.length ≤ _; exact hZ))
  refine wpAny_bind (wpAny_newList ?_ (Nat.zero_le _))
  refine wpAny_holding ?_
  have hLS : (((PySem.W.copyHeap s.heap its).update L (Obj.mapSeq fun _ => (#[] : Array Value))).push (PyProof.Rows.seqObj "tuple" its.toArray 0)).objs.size = s.heap.objs.size + 3 := by rw [Heap.size_push, Heap.size_after_update, szc]
  have nk0 : (PySem.W.sortingHeap (PySem.W.copyHeap s.heap its) L its).get? (((PySem.W.copyHeap s.heap its).update L (Obj.mapSeq fun _ => (#[] : Array Value))).push (PyProof.Rows.seqObj "tuple" its.toArray 0)).objs.size = some (PyProof.Rows.seqObj "list" #[] 0) := Heap.get?_push_size _ rfl
  have nL0 : (PySem.W.sortingHeap (PySem.W.copyHeap s.heap its) L its).get? L = some (PyProof.Rows.seqObj "list" #[] ep) := Heap.get?_push_of_some _ (Heap.get?_push_of_some _ ho1)
  show wpAny (model X.prog X.w) X.A.in1.in1 (PyProof.Rows.ksk_rest L (.ref f) false its.toArray ep (.ref (((PySem.W.copyHeap s.heap its).update L (Obj.mapSeq fun _ => (#[] : Array Value))).push (PyProof.Rows.seqObj "tuple" its.toArray 0)).objs.size)) _ _ { s with heap := PySem.W.sortingHeap (PySem.W.copyHeap s.heap its) L its }
  generalize hkS : (((PySem.W.copyHeap s.heap its).update L (Obj.mapSeq fun _ => (#[] : Array Value))).push (PyProof.Rows.seqObj "tuple" its.toArray 0)).objs.size = kS at hLS nk0 ⊢
  generalize PySem.W.sortingHeap (PySem.W.copyHeap s.heap its) L its = h0 at k0 nk0 nL0 ⊢
  have hLs : s.heap.objs.size ≤ L := by omega
  have hkSs : s.heap.objs.size ≤ kS := by omega
  have hka : kS ≠ L := by omega
  have I0 : Inv (atA X X.A.in1.in1) pins σ H { s with heap := h0, toks := s.toks } := (inAt (A' := X.A.in1.in1) I (fun _ => hr.hd) rfl).kept (t' := s.toks) k0
  have fp : ∀ (b : Addr) (H' : Hp), s.heap.objs.size ≤ b → H' b = none → FpOk (atA X X.A.in1.in1) pins H' b := fun b H' hb' hn => (inAt (A' := X.A.in1.in1) I (fun _ => hr.hd) rfl).fpOk hb' hn
  have pk : ∀ {H' : Hp} {s' : Shared} {kA : Array Value} {e : Nat}, Inv (atA X X.A.in1.in1) pins σ H' s' → H' kS = none → H' L = none → s'.heap.get? kS = some (PyProof.Rows.seqObj "list" kA e) → s'.heap.get? L = some (PyProof.Rows.seqObj "list" #[] ep) →
      Inv (atA X X.A.in1.in1) (pins ++ [(L, PyProof.Rows.seqObj "list" #[] ep), (kS, PyProof.Rows.seqObj "list" kA e)]) σ H' s' := fun {H' s' kA e} I' n1 n2 g1 g2 => I'.pins_of fun p hp => by
    rcases List.mem_append.mp hp with hp | hp
    · exact I'.pin p (List.mem_append_right _ hp)
    · rcases List.mem_cons.mp hp with e2 | hp
      · subst e2
        exact ⟨g2, n2, (fp L H' hLs n2).2.1, (fp L H' hLs n2).2.2.1, fun v z => by cases z⟩
      · have e2 := List.mem_singleton.mp hp
        subst e2
        exact ⟨g1, n1, (fp kS H' hkSs n1).2.1, (fp kS H' hkSs n1).2.2.1, fun v z => by cases z⟩
  have upk : ∀ {H' : Hp} {s' : Shared} {kA : Array Value} {e : Nat}, Inv (atA X X.A.in1.in1) (pins ++ [(L, PyProof.Rows.seqObj "list" #[] ep), (kS, PyProof.Rows.seqObj "list" kA e)]) σ H' s' →
      Inv (atA X X.A.in1.in1) pins σ H' s' ∧ H' kS = none ∧ H' L = none ∧ s'.heap.get? kS = some (PyProof.Rows.seqObj "list" kA e) ∧ s'.heap.get? L = some (PyProof.Rows.seqObj "list" #[] ep) := fun {H' s' kA e} I' => by
    have a1 := I'.pin (kS, PyProof.Rows.seqObj "list" kA e) (by simp)
    have a2 := I'.pin (L, PyProof.Rows.seqObj "list" #[] ep) (by simp)
    exact ⟨I'.unpinned, a1.2.1, a2.2.1, a1.1, a2.1⟩
  unfold PyProof.Rows.ksk_rest
  refine wpAny_bind (wpAny_rule ?_)
  first
    | rw [List.forIn_toArray]
    | (rw [← Array.forIn_toList]; simp only [List.toList_toArray])
    | rw [← Array.forIn_toList]
  refine wpAny_bind (PyProof.Rows.ksk_fold (fun i s' => ∃ (H' : Hp) (kA : Array Value) (e : Nat) (ys : List V), Inv (atA X X.A.in1.in1) (pins ++ [(L, PyProof.Rows.seqObj "list" #[] ep), (kS, PyProof.Rows.seqObj "list" kA e)]) σ H' s' ∧ Kept H H' ∧ Vals ys kA.toList ∧ DpAll X.K H' ys (ds.take i)) its 0 _
    ⟨H, #[], 0, [], pk I0 (I.hok.fresh hkSs) (I.hok.fresh hLs) nk0 nL0, Kept.refl H, .nil, by rw [List.take_zero]; exact .nil⟩ ?step ?done)
  case step =>
    rintro j x s' hx ⟨H', kA, e, ys, I', kp, rv', dp'⟩
    simp only [Nat.zero_add] at dp' ⊢
    have hj : j < its.length := (List.getElem?_eq_some_iff.mp hx).1
    have hxj : xs[j]? = some (xs[j]'(by omega)) := List.getElem?_eq_getElem _
    have hdj : ds[j]? = some (ds[j]'(by omega)) := List.getElem?_eq_getElem _
    obtain ⟨u, hu', ru⟩ := rv.get hxj
    rw [hx] at hu'
    cases hu'
    have hrun := run_fn (X := atA X X.A.in1.in1) (k := k) F ⟨hr.hd, by have := hr.dp; show X.A.depth + 3 * k + 5 < _; omega, by have := hr.un; show X.A.units + 1 + 1 + 16 * k + 200 < _; omega⟩ hb .nil pass0 I' (.cons ru .nil) (call j _ _ H' hxj hdj kp)
    refine wpAny_bind (wpAny_attempt (thnF hrun fun v s'' ⟨y, H2, I2, ry, kp2, dy⟩ => ?_))
    try dsimp only
    obtain ⟨I3, n1, n2, g1, g2⟩ := upk I2
    have hsz : kA.size = j := by
      have h1 : ys.length = kA.size := by
        have z := rv'.length
        simpa using z
      have h2 := dpAll_len dp'
      rw [List.length_take] at h2
      have h3 : j ≤ ds.length := by omega
      rw [Nat.min_eq_left h3] at h2
      exact h1.symm.trans h2
    obtain ⟨c2, hc2⟩ : ∃ c2, (s''.heap.update kS (Obj.mapSeq (·.push v))).get? kS = some (PyProof.Rows.seqObj "list" (kA.push v) c2) := ⟨_, PyProof.Rows.get?_update_seq g1 (·.push v)⟩
    refine wpAny_bind (PyProof.Rows.listUpdate_at g1 rfl ?_ (by omega) (by rw [Array.size_push]; omega))
    obtain ⟨f0, f1, f2, f3, f4, f5⟩ := fp kS H2 hkSs n1
    have I4 : Inv (atA X X.A.in1.in1) pins σ H2 { s'' with heap := s''.heap.update kS (Obj.mapSeq (·.push v)), toks := s''.toks } := I3.turned (it := kS) (fun b o hbS e => (Heap.get?_update_other _ _ (Ne.symm hbS)).trans e) f0 f1 f3 f4 f5
    have ek : ds.take (j + 1) = ds.take j ++ [ds[j]'(by omega)] := by rw [List.take_add_one, hdj]; simp
    refine wpAny_pure ⟨rfl, H2, kA.push v, c2, ys ++ [y], pk I4 n1 n2 hc2 ((Heap.get?_update_other _ _ hka).trans g2), kp.trans kp2, ?_, ?_⟩
    · rw [Array.toList_push]
      exact rv'.append (.cons ry .nil)
    · rw [ek]
      exact dpAll_snoc (Kept.dpAll kp2 _ _ dp') dy
  case done =>
    rintro s' ⟨H', kA, e, ys, I', kp, rv', dp'⟩
    have e3 : ds.take (0 + its.length) = ds := List.take_of_length_le (by omega)
    rw [e3] at dp'
    obtain ⟨I3, n1, n2, g1, g2⟩ := upk I'
    try dsimp only
    refine wpAny_bind (PyProof.Rows.listItems_at g1 rfl ?_)
    have hly := dpAll_len dp'
    have hsz : kA.size = its.length := by
      have h1 : ys.length = kA.size := by
        have z := rv'.length
        simpa using z
      exact h1.symm.trans (hly.trans (hlen.symm.trans hil))
    have er := PySem.W.each_map (R := fun v d => ∃ as, Reads s'.heap v d as) (fun b : V × PyData => b.2) ((each_dp I3 rv' dp').mono fun _ _ z => z.2)
    rw [zip_snd hly] at er
    refine PySem.W.keyH_end (κ := PySem.W.dataKind s'.heap ds) (h₁ := s'.heap.update kS fun _ => ⟨.none, none, .freed, #[]⟩) (vs := its) (fun b o hbL eb => ?_) (freed_none _ _) g1 g2 hka (srt_sorts er hal hk fun d hm => ?_) hsz hZ fun h' tk c k3 n3 => ?_
    · by_cases hbS : b = kS
      · rw [hbS, freed_none] at eb
        cases eb
      · rw [Heap.get?_update_other _ _ (Ne.symm hbS)] at eb
        exact eb
    · have h1 := hdep d hm
      have h2 := hr.un
      show X.A.units + 1 + 1 + d.depth < cLine
      omega
    · have ko : PySem.W.KeyedOut false ((xs.zip ds).map fun b : V × PyData => b.2) its (PySem.W.sortVals (PySem.W.dataKind s'.heap ds) false kA.toList its) := by
        rw [zip_snd hlen]
        exact ⟨s'.heap, kA.toList, hal, rfl, er⟩
      have eR : PySem.W.EachIs (fun u (b : V × PyData) => RelV b.1 u) its (xs.zip ds) := by
        have aux : ∀ {xs : List V} {us : List Value} {ds : List PyData}, Vals xs us → xs.length = ds.length → PySem.W.EachIs (fun u (b : V × PyData) => RelV b.1 u) us (xs.zip ds) := by
          intro xs us ds r
          induction r generalizing ds with
          | nil => intro _; exact .nil
          | cons r1 r2 ih =>
            intro hl
            cases ds with
            | nil => cases hl
            | cons d ds => exact .cons r1 (ih (Nat.succ.inj hl))
        exact aux rv hlen
      have out := vals_each (PySem.W.keyedOut_each (R := fun u (b : V × PyData) => RelV b.1 u) (fun b : V × PyData => b.2) ko eR)
      refine ⟨rfl, .ref L, upd H' L (.lst (sortD xs ds)), outAt (take_in (t' := tk) (ch := [kS, L]) I3 (fun b ob hb' eb => ?_) (fun b hb' => ?_) (by simp) ⟨by rw [sortD_len hlen]; exact hz, _, c, out, n3⟩) I.ok, rfl, q H' kp L n2⟩
      · have hb1 : b ≠ kS := fun z => hb' (by simp [z])
        have hb2 : b ≠ L := fun z => hb' (by simp [z])
        exact k3 b ob hb2 ((Heap.get?_update_other _ _ (Ne.symm hb1)).trans eb)
      · rcases List.mem_cons.mp hb' with z | z
        · rw [z]; exact fp kS H' hkSs n1
        · rw [List.mem_singleton.mp z]; exact fp L H' hLs n2
end
end Ky

namespace Ky
open PySem PySem.Spec PyProof.Rows L2
/-! ### {k: v for ..} whose keys are tuples of numbers and texts -/
theorem dictSet_T {X : Cx} {pins : List (Addr × Obj)} {σ : L2.St} {H : Hp} {s : Shared} {E : Value → Shared → Prop} {D b : Addr} {kvs : List (List L2.Key × V)} {k : List L2.Key} {v : V} {r : Value} {Q : Unit → Shared → Prop} (hu : X.A.units + 1 < cLine) (I : Inv X pins σ H s) (hD : H D = some (.dT kvs)) (hb : H b = some (.tup (k.map kV)))
    (hz : kvs.length < sizeLine) (rv : RelV v r) (h : ∀ s', Inv X pins σ (upd H D (.dT (putK kvs k v))) s' → Q () s') : wpAny (model X.prog X.w) X.A (dictSet D (.ref b) r) Q E s := by
  obtain ⟨z, hd, xs, rel, dd⟩ := dt_of I.hok hD
  have hzx : xs.length ≤ sizeLine := by rw [← Paired.length rel]; exact z
  have hl : (putK kvs k v).length ≤ sizeLine := by have := length_putK kvs k v; omega
  refine wpAny_dictSet_heap (hsz := hzx) (show X.A.units < cLine by omega) (key_of I.hok hb) dd fun h' dd' hs => h _ ?_
  obtain ⟨q, es, ep, hq, h2, h3, h4, _, h5⟩ := dd'
  refine d_write I (by rw [hD]; exact True.intro) hs ⟨q, hq⟩ ⟨hl, hd, _, (rel.put k hb rv).keeps fun c ys ec => ?_, q, es, ep, hq, h2, h3, h4, h5⟩
  rw [upd_ne (ne_of ec hD (fun z => nomatch z))]
  exact ec
def tDcT (wi : TI) (g : TG) (tt : TT) (tk tv : TE) (vs : List Nat) : TE := fun σ H Q => wi σ H fun J H1 => ∀ D, H1 D = none → ∃ W : Nat → Nat → Hp → Prop, (∃ m, W 0 m (upd H1 D (.dT []))) ∧ ∀ i m H, W i m H →
  (J.stop i H ∧ Q (.ref D) H) ∨ (J.go i H ∧ ∃ Nx : Hp → Prop, (∀ H', Nx H' → ∃ m', m' < m ∧ W (i + 1) m' H') ∧ ∀ x H', J.yld i H x H' → g x (wipe σ vs) H' fun σ2 H2 => wipe σ2 vs = wipe σ vs ∧ tt σ2 H2 fun b H3 =>
    if b = true then tk σ2 H3 fun y H4 => tv σ2 H4 fun z H5 => ∃ kvs k p, y = .ref p ∧ H5 p = some (.tup (k.map kV)) ∧ H5 D = some (.dT kvs) ∧ kvs.length < sizeLine ∧ Nx (upd H5 D (.dT (putK kvs k z))) else Nx H3)
theorem dcT_core {X : Cx} {pins : List (Addr × Obj)} {s : Shared} {σ : L2.St} {H : Hp} {Q : VK} {kx vx tg iter : Expr} {ifs : List Expr} {scope : Scope} {own : List (Str × Nat)} {pos pos' : Pos} {wi : TI} {g : TG} {tt : TT} {tk tv : TE} {use : Option (Value → Sem Unit)} {Qf : Value → Shared → Prop} (hu : X.A.units + 1 < cLine) (hc : X.calm = true) (hN : X.N.Nodup) (hi : PI X tg iter wi) (ok : BlkOk X.N X.env.scope scope own)
    (hg : ∀ (s : Shared) (H : Hp) (C : Addr) (cl : List (Str × Addr)) (fp : List Addr), PG (X.blk s H scope (compEnvC scope cl C X.env) fp) tg g) (ht : ∀ (s : Shared) (H : Hp) (C : Addr) (cl : List (Str × Addr)) (fp : List Addr), PTs (X.blk s H scope (compEnvC scope cl C X.env) fp) ifs tt)
    (hk : ∀ (s : Shared) (H : Hp) (C : Addr) (cl : List (Str × Addr)) (fp : List Addr), PE (X.blk s H scope (compEnvC scope cl C X.env) fp) kx tk)
    (he : ∀ (s : Shared) (H : Hp) (C : Addr) (cl : List (Str × Addr)) (fp : List Addr), PE (X.blk s H scope (compEnvC scope cl C X.env) fp) vx tv) (hs : ∀ x, foldedSetIterable iter X.env x = pure x) (I : Inv X pins σ H s) (h : tDcT wi g tt tk tv (own.map (·.2)) σ H Q)
    (hRR : ∀ D C s' m H', Inv X pins σ H' s' → Q (.ref D) H' → s'.heap.Ns C m → FpOk X pins H' C → compPost (model X.prog X.w) X.A X.xe use Qf (.ref D) C (.ok .next) s') :
    wpAny (model X.prog X.w) X.A (comprehension (.DictComp kx vx [⟨tg, iter, ifs, 0⟩] scope pos) scope X.env pos' newDict false (eval iter X.env) use) Qf X.xe s := by
  have hfree : ∀ y ∈ scope.names, y.2 = .free → ∃ c, X.env.cells.lookup y.1 = some c := fun y hy e => (ok.free y hy e).elim (fun k => I.ok.has _ (.inl k)) fun k => I.ok.has _ (.inr k)
  refine wpAny_comprehension_free (use := use) rfl hs (closure_ok hfree) ok.kind (fun y hy e => by rw [ok.uniq y hy, e]) (thn (hi.run pins s σ H _ I h) fun xv s1 hx => thn hx fun itv s2 h2 => ?_)
  obtain ⟨it, fp, tn, J, H2, rfl, I2, T, st2, f2, q⟩ := h2
  refine wpAny_newObj_type (newEnv_comp ?_)
  have hDn : H2 s2.heap.objs.size = none := I2.hok.fresh (Nat.le_refl _)
  obtain ⟨W, ⟨m0, w0⟩, turn⟩ := q _ hDn
  have I3 : Inv X pins σ (upd H2 s2.heap.objs.size (.dT [])) { s2 with heap := s2.heap.push { cls := .type "dict", data := .dict #[] }, toks := s2.toks } := I2.laid (fun b o e => Heap.get?_push_of_some _ e) (Nat.le_refl _) (dt_empty s2.heap I2.big)
  have sz : ∀ b ∈ fp, b < s2.heap.objs.size := fun b hb => let ⟨_, e, _⟩ := T.obj _ _ st2 b hb; Heap.lt_size e
  have st3 : tn 0 (s2.heap.push { cls := .type "dict", data := .dict #[] }) := T.keep _ _ _ st2 fun b _ o e => Heap.get?_push_of_some _ e
  have f3 : ∀ b ∈ fp, FpOk X pins (upd H2 s2.heap.objs.size (.dT [])) b ∧ b < (s2.heap.push ({ cls := .type "dict", data := .dict #[] } : Obj)).objs.size := fun b hb => by
    refine ⟨⟨?_, (f2 b hb).2⟩, by rw [Heap.size_push]; exact Nat.lt_succ_of_lt (sz b hb)⟩
    rw [upd_ne (Nat.ne_of_lt (sz b hb))]
    exact (f2 b hb).1
  generalize s2.heap.objs.size = D at hDn turn w0 I3 f3 ⊢
  generalize hH3 : upd H2 D (.dT []) = H3 at I3 w0 f3
  generalize hs3 : ({ s2 with heap := s2.heap.push { cls := .type "dict", data := .dict #[] }, toks := s2.toks } : Shared) = s3 at I3 ⊢
  have h3 : s3.heap = s2.heap.push { cls := .type "dict", data := .dict #[] } := by rw [← hs3]
  rw [← h3] at st3
  have f3 : ∀ b ∈ fp, FpOk X pins H3 b ∧ b < s3.heap.objs.size := fun b hb => by rw [h3]; exact f3 b hb
  have I4 := block_start I3 ok hN f3
  have pg := hg s3 H3 s3.heap.objs.size (cellsFrom (s3.heap.objs.size + 1) scope.names (cloFrom X.env.cells scope.names [])) fp
  have pt := ht s3 H3 s3.heap.objs.size (cellsFrom (s3.heap.objs.size + 1) scope.names (cloFrom X.env.cells scope.names [])) fp
  have pk := hk s3 H3 s3.heap.objs.size (cellsFrom (s3.heap.objs.size + 1) scope.names (cloFrom X.env.cells scope.names [])) fp
  have pe := he s3 H3 s3.heap.objs.size (cellsFrom (s3.heap.objs.size + 1) scope.names (cloFrom X.env.cells scope.names [])) fp
  have nfp : ∀ b ∈ fp, H3 b = none := fun b hb => (f3 b hb).1.1
  show codeAny _ _ (.compStart (.DictComp kx vx [⟨tg, iter, ifs, 0⟩] scope pos) 0 (.ref it) (.ref D) (compEnvC scope (cellsFrom (s3.heap.objs.size + 1) scope.names (cloFrom X.env.cells scope.names [])) s3.heap.objs.size X.env)) _ { s3 with heap := pushCells (s3.heap.push { cls := .type "dict", data := .dict #[] }) scope.names }
  have cL : (compEnvC scope (cellsFrom (s3.heap.objs.size + 1) scope.names (cloFrom X.env.cells scope.names [])) s3.heap.objs.size X.env).locals = s3.heap.objs.size := rfl
  generalize compEnvC scope (cellsFrom (s3.heap.objs.size + 1) scope.names (cloFrom X.env.cells scope.names [])) s3.heap.objs.size X.env = ce at I4 pg pt pk pe cL ⊢
  have st4 : tn 0 (pushCells (s3.heap.push { cls := .type "dict", data := .dict #[] }) scope.names) := T.keep _ _ _ st3 fun b _ o e => pushCells_keeps _ _ _ _ (Heap.get?_push_of_some _ e)
  generalize hs4 : ({ s3 with heap := pushCells (s3.heap.push { cls := .type "dict", data := .dict #[] }) scope.names } : Shared) = s4 at I4 ⊢
  have st4 : tn 0 s4.heap := by rw [← hs4]; exact st4
  have stat : ∀ {σ' : L2.St} {H' : Hp} {s' : Shared}, Inv (X.blk s3 H3 scope ce fp) [] σ' H' s' → (∀ b ∈ fp, H' b = none) → ∀ b ∈ fp, FpOk (X.blk s3 H3 scope ce fp) [] H' b := fun {σ' H' s'} I' hn b hb =>
    ⟨hn b hb, (I'.ok.exf b hb).1, I'.ok.exfs b hb, .inl hb, fun x c e => (I'.ok.exf b hb).2 x c e, fun p hp => absurd (show p ∈ ([] : List (Addr × Obj)) ++ [] from hp) (by simp)⟩
  refine codeAny_compStart_dict ?loop (T.self X.A 0 _ _ _ st4 ?loop)
  refine compLoop_anyD (fun n s' => ∃ i H', Inv (X.blk s3 H3 scope ce fp) [] (wipe σ (own.map (·.2))) H' s' ∧ tn i s'.heap ∧ (∀ b ∈ fp, H' b = none) ∧ W i n H') ?_ m0 ⟨0, H3, I4, st4, nfp, w0⟩
  rintro n s5 ⟨i, H5, I5, st5, n5, w5⟩
  rcases turn i n H5 w5 with ⟨stop, qq⟩ | ⟨go, Nx, hNx, step⟩
  · refine thnF (T.done (X.blk s3 H3 scope ce fp) rfl rfl rfl hc i [] s5 _ H5 (fun _ _ => False) I5 (stat I5 n5) st5 stop) fun r s6 ⟨hr, I6⟩ => ?_
    subst hr
    have I7 : Inv X pins σ H5 s6 := I3.call' (ch := fp) I6.os I6.base I6.hok I6.bare fun b hb => ⟨(f3 b hb).1.2.2.2.1, (f3 b hb).1.2.1, (f3 b hb).1.2.2.2.2.1, (f3 b hb).1.2.2.2.2.2⟩
    have nC : H5 ce.locals = none := I6.free
    obtain ⟨m, hn, _⟩ := I6.loc
    have hn : s6.heap.Ns ce.locals m := hn
    rw [cL] at nC hn
    exact hRR D _ s6 m H5 I7 qq hn (I3.fpOk (Nat.le_refl _) nC)
  · refine thnF (T.item (X.blk s3 H3 scope ce fp) rfl rfl rfl hc i [] s5 _ H5 (fun _ _ => False) I5 (stat I5 n5) st5 go) fun r s6 ⟨u, hr, h6⟩ => ?_
    subst hr
    refine thnF h6 fun _ s7 ⟨x, H7, I7, r7, y7, st7, n7⟩ => ?_
    refine thnF (pg.run _ s7 _ H7 x u _ (I7.pinned (stat I7 n7) (T.obj _ _ st7)) r7 (step x H7 y7)) fun _ s8 ⟨σ8, H8, I8, hw8, q8⟩ => ?_
    refine thnF (pt.run _ s8 σ8 H8 _ I8 q8) fun b s9 ⟨H9, I9, q9⟩ => ?_
    have fin : ∀ {s' : Shared} {H' : Hp}, Inv (X.blk s3 H3 scope ce fp) ([] ++ pinsAt fp s7.heap) σ8 H' s' → Nx H' → ∃ m, m < n ∧ ∃ i H', Inv (X.blk s3 H3 scope ce fp) [] (wipe σ (own.map (·.2))) H' s' ∧ tn i s'.heap ∧ (∀ b ∈ fp, H' b = none) ∧ W i m H' := fun {s' H'} I' nx => by
      obtain ⟨m', hm, w'⟩ := hNx H' nx
      have pin' : ∀ b ∈ fp, ∀ o, s7.heap.get? b = some o → s'.heap.get? b = some o ∧ H' b = none := fun b hb o e =>
        let z := I'.pin (b, o) (List.mem_append_right _ (List.mem_append_right _ (mem_pinsAt hb e)))
        ⟨z.1, z.2.1⟩
      refine ⟨m', hm, i + 1, H', (I'.unpinned (pins := [])).weak (by rw [← hw8, wipe_length]) (fun j v e => ?_), T.keep _ _ _ st7 fun b hb o e => (pin' b hb o e).1, fun b hb => ?_, w'⟩
      · rw [← hw8] at e
        exact (wipe_some e).1
      · obtain ⟨o, e, _⟩ := T.obj _ _ st7 b hb
        exact (pin' b hb o e).2
    cases b with
    | false =>
      simp only [Bool.false_eq_true, if_false] at q9 ⊢
      exact fin I9 q9
    | true =>
      simp only [if_true] at q9 ⊢
      refine thnF (pk.run _ s9 σ8 H9 _ I9 q9) fun z s10 ⟨yk, H10, I10, r10, q10⟩ => ?_
      refine thnF (pe.run _ s10 σ8 H10 _ I10 q10) fun z2 s11 ⟨yv, H11, I11, r11, kvs, k, p, ek, hp, hD11, hz11, nx⟩ => ?_
      subst ek
      obtain rfl : z = Value.ref p := r10
      exact dictSet_T (X := X.blk s3 H3 scope ce fp) hu I11 hD11 hp hz11 r11 fun s12 I12 => fin I12 nx
theorem pe_dcT {X : Cx} {kx vx tg iter : Expr} {ifs : List Expr} {scope : Scope} {own : List (Str × Nat)} {pos : Pos} {wi : TI} {g : TG} {tt : TT} {tk tv : TE} (hu : X.A.units + 1 < cLine) (hc : X.calm = true) (hN : X.N.Nodup) (hi : PI X tg iter wi) (ok : BlkOk X.N X.env.scope scope own)
    (hg : ∀ (s : Shared) (H : Hp) (C : Addr) (cl : List (Str × Addr)) (fp : List Addr), PG (X.blk s H scope (compEnvC scope cl C X.env) fp) tg g) (ht : ∀ (s : Shared) (H : Hp) (C : Addr) (cl : List (Str × Addr)) (fp : List Addr), PTs (X.blk s H scope (compEnvC scope cl C X.env) fp) ifs tt)
    (hk : ∀ (s : Shared) (H : Hp) (C : Addr) (cl : List (Str × Addr)) (fp : List Addr), PE (X.blk s H scope (compEnvC scope cl C X.env) fp) kx tk)
    (he : ∀ (s : Shared) (H : Hp) (C : Addr) (cl : List (Str × Addr)) (fp : List Addr), PE (X.blk s H scope (compEnvC scope cl C X.env) fp) vx tv) (hs : ∀ x, foldedSetIterable iter X.env x = pure x := by intro _; rfl) :
    PE X (.DictComp kx vx [⟨tg, iter, ifs, 0⟩] scope pos) (tDcT wi g tt tk tv (own.map (·.2))) := by
  refine ⟨fun pins s σ H Q I h => ?_⟩
  rw [arm_eval_DictComp]
  refine dcT_core hu hc hN hi ok hg ht hk he hs I h fun D C s' m H' I' q hn f => ⟨m, hn, fun h'' sb => ?_⟩
  obtain ⟨f0, f1, f2, f3, f4, f5⟩ := f
  exact ⟨.ref D, H', I'.turned (t' := s'.toks) (fun b o hb e => (sb.2 b hb).trans e) f0 f1 f3 f4 f5, rfl, q⟩
/-- name = {..} on one line, the name a local -/
theorem ps_setDcT {X : Cx} {i : Nat} {y : Str} {py : Pos} {kx vx tg iter : Expr} {ifs : List Expr} {scope : Scope} {own : List (Str × Nat)} {pos spos : Pos} {wi : TI} {g : TG} {tt : TT} {tk tv : TE} (hy : X.N[i]? = some y) (hyl : X.env.scope.names.lookup y = some .local)
    (hsw : swapsWith (.DictComp kx vx [⟨tg, iter, ifs, 0⟩] scope pos) (some (.Name y py)) spos.line X.env = pure true) (hu : X.A.units + 1 < cLine) (hc : X.calm = true) (hN : X.N.Nodup) (hi : PI X tg iter wi) (ok : BlkOk X.N X.env.scope scope own)
    (hg : ∀ (s : Shared) (H : Hp) (C : Addr) (cl : List (Str × Addr)) (fp : List Addr), PG (X.blk s H scope (compEnvC scope cl C X.env) fp) tg g) (ht : ∀ (s : Shared) (H : Hp) (C : Addr) (cl : List (Str × Addr)) (fp : List Addr), PTs (X.blk s H scope (compEnvC scope cl C X.env) fp) ifs tt)
    (hk : ∀ (s : Shared) (H : Hp) (C : Addr) (cl : List (Str × Addr)) (fp : List Addr), PE (X.blk s H scope (compEnvC scope cl C X.env) fp) kx tk)
    (he : ∀ (s : Shared) (H : Hp) (C : Addr) (cl : List (Str × Addr)) (fp : List Addr), PE (X.blk s H scope (compEnvC scope cl C X.env) fp) vx tv) (hs : ∀ x, foldedSetIterable iter X.env x = pure x := by intro _; rfl) :
    PS X (.Assign [.Name y py] (.DictComp kx vx [⟨tg, iter, ifs, 0⟩] scope pos) spos) (tAsg (tDcT wi g tt tk tv (own.map (·.2))) (gName i)) := by
  refine ⟨fun pins s σ H D I h => ?_⟩
  rw [exec_Assign_Name_used _ _ _ _ hsw]
  refine wpAny_bind (wpAny_standAt (wpAny_bind ?_))
  show wpAny _ X.A (do let _ ← comprehension (.DictComp kx vx [⟨tg, iter, ifs, 0⟩] scope pos) scope X.env (firstIterPos [⟨tg, iter, ifs, 0⟩] pos) newDict false (eval iter X.env) (some (assign (.Name y py) X.env))) _ _ s
  have h : tDcT wi g tt tk tv (own.map (·.2)) σ H (fun x H1 => gName i x σ H1 D.nx) := h
  refine wpAny_bind (thn (dcT_core (Qf := fun _ s' => SP X pins D .next s') hu hc hN hi ok hg ht hk he hs I h fun L C s' m H' I' q hn f => ?_) fun _ s' hq => wpAny_pure (wpAny_pure hq))
  show wpAny _ _ (assign (.Name y py) X.env (.ref L)) _ _ _
  refine wpAny_assign_Name (store_ok2 (v := V.ref L) I' hN hy (.inl hyl) rfl (fun s2 I2 ⟨a, sb, ha⟩ => ?_) (.inr hyl))
  obtain ⟨f0, f1, f2, f3, f4, f5⟩ := f
  have haC : C ≠ a := by
    rcases ha with z | z
    · rw [z]; exact f1
    · exact fun e => f4 y a z e.symm
  refine ⟨m, hn.sameBut sb haC, fun h3 sb3 => ?_⟩
  exact ⟨_, H', I2.turned (t' := s2.toks) (fun b o hb e => (sb3.2 b hb).trans e) f0 f1 f3 f4 f5, q⟩
theorem sw_trueD {kx vx : Expr} {gs : List Comprehension} {scope : Scope} {pos py : Pos} {y : Str} {l : Nat} {env : Env} (hk : env.scope.kind = .function) (hy : env.scope.names.lookup y = some .local) (hl : (py.line == pos.line) = true)
    (ha : (scope.names.any fun (n, k) => n == y && (k == .local || k == .cell)) = false) : swapsWith (.DictComp kx vx gs scope pos) (some (.Name y py)) l env = pure true := by
  have ky : env.kindOf y = some .local := hy
  have hb : env.blockKind = .function := by unfold Env.blockKind; rw [hk]; rfl
  unfold swapsWith
  simp only [hb, ky, ha, Expr.pos, hl]
  rfl
end Ky

namespace Ky
open PySem PySem.Spec PyProof.Rows L2
/-! ### {k for row in rows for x in row}, k a number -/
abbrev sc2 (elt t0 i0 t1 i1 : Expr) (scope : Scope) (pos : Pos) : Expr := .SetComp elt [⟨t0, i0, [], 0⟩, ⟨t1, i1, [], 0⟩] scope pos
theorem turn_out (elt t0 i0 t1 i1 : Expr) (scope : Scope) (pos : Pos) (it acc : Value) (env : Env) : compTurn (sc2 elt t0 i0 t1 i1 scope pos) 0 it acc env = (do
      standAt i0.pos
      match ← pyNext it with
      | none => pure (.done .next)
      | some v =>
        letOwnedTupleGo t0 it v
        assign t0 env v
        let mut ok := true
        for c in ([] : List Expr) do
          if ok then ok ← isTrue c env (eval c env)
        if ok then
          let x ← eval i1 env
          standAt i1.pos
          let x ← foldedSetIterable i1 env x
          let _ ← runOwn (.compStart (sc2 elt t0 i0 t1 i1 scope pos) 1 (← holding [x] (pyIter x)) acc env) env
        again (.compLoop (sc2 elt t0 i0 t1 i1 scope pos) 0 it acc env)) := by rfl
theorem turn_in (elt t0 i0 t1 i1 : Expr) (scope : Scope) (pos : Pos) (it acc : Value) (env : Env) : compTurn (sc2 elt t0 i0 t1 i1 scope pos) 1 it acc env = (do
      standAt i1.pos
      match ← pyNext it with
      | none => pure (.done .next)
      | some v =>
        letOwnedTupleGo t1 it v
        assign t1 env v
        let mut ok := true
        for c in ([] : List Expr) do
          if ok then ok ← isTrue c env (eval c env)
        if ok then
          (do let v ← eval elt env; standAt elt.pos; let _ ← call (.builtin "set.add") [acc, v])
        again (.compLoop (sc2 elt t0 i0 t1 i1 scope pos) 1 it acc env)) := by rfl
section
variable {prog : Program} {w : World} {A : Around} {R : Result → Shared → Prop} {s : Shared} {elt t0 i0 t1 i1 : Expr} {scope : Scope} {pos : Pos} {it acc : Value} {env : Env}
theorem loop_out (hs : ∀ x, foldedSetIterable i1 env x = pure x) (I : Nat → Shared → Prop)
    (turn : ∀ n s, I n s → wpAny (model prog w) A (pyNext it) (fun r s1 => match r with
      | none => R (.ok .next) s1
      | some v => wpAny (model prog w) A (letOwnedTupleGo t0 it v) (fun _ s2 => wpAny (model prog w) A (assign t0 env v) (fun _ s3 => wpAny (model prog w) A (eval i1 env) (fun x s4 => wpAny (model prog w) A (pyIter x) (fun it1 s5 =>
          codeAny (model prog w) A (.compStart (sc2 elt t0 i0 t1 i1 scope pos) 1 it1 acc env) (fun r s' => match r with
            | .ok _ => ∃ m, m < n ∧ I m s'
            | .error _ => False) s5) (fun _ _ => False) s4) (fun _ _ => False) s3) (fun _ _ => False) s2) (fun _ _ => False) s1) (fun _ _ => False) s) (n : Nat) (h : I n s) :
    codeAny (model prog w) A (.compLoop (sc2 elt t0 i0 t1 i1 scope pos) 0 it acc env) R s := by
  refine codeAny_loop rfl I (fun n s hI => ?_) n h
  show wpAny _ A ((compTurn (sc2 elt t0 i0 t1 i1 scope pos) 0 it acc env).onRaise (fun x => do noteFrame x env; theTreesLotGoes x)) _ _ s
  refine wpAny_noted ?_
  rw [turn_out]
  refine wpAny_bind (wpAny_standAt (wpAny_bind (thnF (turn n s hI) fun r s1 h1 => ?_)))
  cases r with
  | none => exact wpAny_pure h1
  | some v =>
    refine wpAny_bind (thnF h1 fun _ s2 h2 => ?_)
    refine wpAny_bind (thnF h2 fun _ s3 h3 => ?_)
    simp only [List.forIn_nil]
    refine wpAny_bind (wpAny_pure ?_)
    simp only [if_true]
    refine wpAny_bind (thnF h3 fun x s4 h4 => ?_)
    refine wpAny_bind (wpAny_standAt (wpAny_bind (wpAny_of_eq (hs x) (wpAny_bind (wpAny_holding (thnF h4 fun it1 s5 h5 => ?_))))))
    refine wpAny_bind (wpAny_runOwn ?_)
    rw [Around.mark_none]
    refine codeAny_mono h5 fun r s' hr => ?_
    cases r with
    | ok f =>
      first
        | exact wpAny_pure ⟨rfl, hr⟩
        | exact wpAny_bind (wpAny_pure (wpAny_pure ⟨rfl, hr⟩))
    | error e => exact hr.elim
theorem loop_in (I : Nat → Shared → Prop)
    (turn : ∀ n s, I n s → wpAny (model prog w) A (pyNext it) (fun r s1 => match r with
      | none => R (.ok .next) s1
      | some v => wpAny (model prog w) A (letOwnedTupleGo t1 it v) (fun _ s2 => wpAny (model prog w) A (assign t1 env v) (fun _ s3 => wpAny (model prog w) A (eval elt env) (fun x s4 =>
          wpAny (model prog w) A (call (.builtin "set.add") [acc, x]) (fun _ s5 => ∃ m, m < n ∧ I m s5) (fun _ _ => False) s4) (fun _ _ => False) s3) (fun _ _ => False) s2) (fun _ _ => False) s1) (fun _ _ => False) s) (n : Nat) (h : I n s) :
    codeAny (model prog w) A (.compLoop (sc2 elt t0 i0 t1 i1 scope pos) 1 it acc env) R s := by
  refine codeAny_loop rfl I (fun n s hI => ?_) n h
  show wpAny _ A ((compTurn (sc2 elt t0 i0 t1 i1 scope pos) 1 it acc env).onRaise (fun x => do noteFrame x env; theTreesLotGoes x)) _ _ s
  refine wpAny_noted ?_
  rw [turn_in]
  refine wpAny_bind (wpAny_standAt (wpAny_bind (thnF (turn n s hI) fun r s1 h1 => ?_)))
  cases r with
  | none => exact wpAny_pure h1
  | some v =>
    refine wpAny_bind (thnF h1 fun _ s2 h2 => ?_)
    refine wpAny_bind (thnF h2 fun _ s3 h3 => ?_)
    simp only [List.forIn_nil]
    refine wpAny_bind (wpAny_pure ?_)
    simp only [if_true]
    exact wpAny_bind (wpAny_bind (thnF h3 fun x s4 h4 => wpAny_bind (wpAny_standAt (wpAny_bind (thnF h4 fun _ s5 h5 => wpAny_pure (wpAny_pure ⟨rfl, h5⟩))))))
theorem start_in (h0 : codeAny (model prog w) A (.compLoop (sc2 elt t0 i0 t1 i1 scope pos) 1 it acc env) R s)
    (h : ∀ (Q : Value → Shared → Prop) (E : Value → Shared → Prop), Q it s → wpAny (model prog w) A (pyIter it) Q E s) : codeAny (model prog w) A (.compStart (sc2 elt t0 i0 t1 i1 scope pos) 1 it acc env) R s := by
  refine codeAny_of_tree ?_
  show wpAny _ _ ((compStart (sc2 elt t0 i0 t1 i1 scope pos) 1 it acc env).onRaise (fun x => do noteFrame x env; standAt theWindowsPlace)) _ _ s
  refine wpAny_notedAt ?_
  unfold compStart
  show wpAny _ _ (ask >>= _) _ _ s
  refine wpAny_bind (wpAny_askSetting (wpAny_ite ?_))
  split
  · first
      | exact wpAny_bind (wpAny_pure (wpAny_pure (And.intro rfl h0)))
      | exact wpAny_pure (And.intro rfl h0)
  · refine wpAny_bind (wpAny_rule ?_)
    show wpAny _ _ (standAt i1.pos >>= _) _ _ s
    exact wpAny_bind (wpAny_standAt (wpAny_bind (h _ _ (wpAny_pure (And.intro rfl h0)))))
end
section
variable {X : Cx} {pins : List (Addr × Obj)} {σ : L2.St} {H : Hp} {s : Shared}
theorem sadd_ok {E : Value → Shared → Prop} {a : Addr} {k : Int} {u : Value} {S : Int → Bool} {n : Nat} {Q : Value → Shared → Prop} (I : Inv X pins σ H s) (ha : H a = some (SetO X.w a S n)) (room : n + 1 < scanBound) (r : RelV (.int k) u)
    (h : ∀ s', Inv X pins σ (upd H a (SetO X.w a (fun j => S j || decide (j = k)) (if S k = true then n else n + 1))) s' → Q .none s') : wpAny (model X.prog X.w) X.A (call (.builtin "set.add") [.ref a, u]) Q E s := by
  obtain ⟨tk, rfl⟩ := r
  refine setR_add (setO_get I ha) room fun h' sb new => ?_
  have he : ∃ u, h'.get? a = some u := by
    have ⟨o, _, _, _, ho, _⟩ := new
    exact ⟨o, ho⟩
  exact h _ (I.write (e := a) (t' := s.toks + 1) (by rw [ha]; trivial) (.inl rfl) (fun b u hb hu => (sb.2 b hb).trans hu) he (setO_new new))
/-- its reading: for each item of the outer walk the inner walk -/
def tSc2 (w : World) (wi : TI) (g : TG) (wi1 : TI) (g1 : TG) (te : TE) (vs vs1 : List Nat) : TE := fun σ H Q => wi σ H fun J H1 => ∀ D, H1 D = none → ∃ W : Nat → Nat → Hp → Prop, (∃ m, W 0 m (upd H1 D (SetO w D (fun _ => false) 0))) ∧ ∀ i m H, W i m H →
  (J.stop i H ∧ Q (.ref D) H) ∨ (J.go i H ∧ ∃ Nx : Hp → Prop, (∀ H', Nx H' → ∃ m', m' < m ∧ W (i + 1) m' H') ∧ ∀ x H', J.yld i H x H' → g x (wipe σ vs) H' fun σ2 H2 => wipe σ2 vs = wipe σ vs ∧
    wi1 σ2 H2 fun J1 H4 => ∃ W1 : Nat → Nat → Hp → Prop, (∃ m, W1 0 m H4) ∧ ∀ j k H, W1 j k H →
      (J1.stop j H ∧ Nx H) ∨ (J1.go j H ∧ ∃ Nx1 : Hp → Prop, (∀ H', Nx1 H' → ∃ k', k' < k ∧ W1 (j + 1) k' H') ∧ ∀ x H', J1.yld j H x H' → g1 x (wipe σ2 vs1) H' fun σ3 H5 => wipe σ3 vs1 = wipe σ2 vs1 ∧
        te σ3 H5 fun y H7 => ∃ (c : Int) (S : Int → Bool) (n : Nat), y = .int c ∧ H7 D = some (SetO w D S n) ∧ n + 1 < scanBound ∧ Nx1 (upd H7 D (SetO w D (fun j => S j || decide (j = c)) (if S c = true then n else n + 1)))))
theorem pe_sc2 {elt tg iter tg1 iter1 : Expr} {scope : Scope} {own : List (Str × Nat)} {vs1 : List Nat} {pos : Pos} {wi wi1 : TI} {g g1 : TG} {te : TE} (hc : X.calm = true) (hN : X.N.Nodup) (hi : PI X tg iter wi) (ok : BlkOk X.N X.env.scope scope own) (hv : ∀ i ∈ vs1, i ∈ own.map (·.2))
    (hg : ∀ (s : Shared) (H : Hp) (C : Addr) (cl : List (Str × Addr)) (fp : List Addr), PG (X.blk s H scope (compEnvC scope cl C X.env) fp) tg g)
    (hi1 : ∀ (s : Shared) (H : Hp) (C : Addr) (cl : List (Str × Addr)) (fp : List Addr), PI (X.blk s H scope (compEnvC scope cl C X.env) fp) tg1 iter1 wi1)
    (hg1 : ∀ (s : Shared) (H : Hp) (C : Addr) (cl : List (Str × Addr)) (fp : List Addr), PG (X.blk s H scope (compEnvC scope cl C X.env) fp) tg1 g1)
    (he : ∀ (s : Shared) (H : Hp) (C : Addr) (cl : List (Str × Addr)) (fp : List Addr), PE (X.blk s H scope (compEnvC scope cl C X.env) fp) elt te) (hs : ∀ x, foldedSetIterable iter X.env x = pure x := by intro _; rfl) (hs1 : ∀ env x, foldedSetIterable iter1 env x = pure x := by intro _ _; rfl) :
    PE X (sc2 elt tg iter tg1 iter1 scope pos) (tSc2 X.w wi g wi1 g1 te (own.map (·.2)) vs1) := by
  refine ⟨fun pins s σ H Q I h => ?_⟩
  rw [PpSet.eval_SetComp]
  have hfree : ∀ y ∈ scope.names, y.2 = .free → ∃ c, X.env.cells.lookup y.1 = some c := fun y hy e => (ok.free y hy e).elim (fun k => I.ok.has _ (.inl k)) fun k => I.ok.has _ (.inr k)
  refine wpAny_comprehension_free rfl hs (closure_ok hfree) ok.kind (fun y hy e => by rw [ok.uniq y hy, e]) (thn (hi.run pins s σ H _ I h) fun xv s1 hx => thn hx fun itv s2 h2 => ?_)
  obtain ⟨it, fp, tn, J, H2, rfl, I2, T, st2, f2, q⟩ := h2
  refine PpSet.newSet_ok (newEnv_comp ?_)
  have hDn : H2 s2.heap.objs.size = none := I2.hok.fresh (Nat.le_refl _)
  obtain ⟨W, ⟨m0, w0⟩, turn⟩ := q _ hDn
  generalize hob : ({ cls := .type "set", dict := none, data := .set #[] 0 (.fresh 0 0 (!X.w.params.followText "set-order")) } : Obj) = ob
  have I3 : Inv X pins σ (upd H2 s2.heap.objs.size (SetO X.w s2.heap.objs.size (fun _ => false) 0)) { s2 with heap := s2.heap.push ob, toks := s2.toks } := I2.laid (fun b o e => Heap.get?_push_of_some _ e) (Nat.le_refl _) (setO_new (by rw [← hob]; exact setR_fresh X.w))
  have sz : ∀ b ∈ fp, b < s2.heap.objs.size := fun b hb => let ⟨_, e, _⟩ := T.obj _ _ st2 b hb; Heap.lt_size e
  have st3 : tn 0 (s2.heap.push ob) := T.keep _ _ _ st2 fun b _ o e => Heap.get?_push_of_some _ e
  have f3 : ∀ b ∈ fp, FpOk X pins (upd H2 s2.heap.objs.size (SetO X.w s2.heap.objs.size (fun _ => false) 0)) b ∧ b < (s2.heap.push ob).objs.size := fun b hb => by
    refine ⟨⟨?_, (f2 b hb).2⟩, by rw [Heap.size_push]; exact Nat.lt_succ_of_lt (sz b hb)⟩
    rw [upd_ne (Nat.ne_of_lt (sz b hb))]
    exact (f2 b hb).1
  generalize s2.heap.objs.size = D at hDn turn w0 I3 f3 ⊢
  generalize hH3 : upd H2 D (SetO X.w D (fun _ => false) 0) = H3 at I3 w0 f3
  generalize hs3 : ({ s2 with heap := s2.heap.push ob, toks := s2.toks } : Shared) = s3 at I3 ⊢
  have h3 : s3.heap = s2.heap.push ob := by rw [← hs3]
  rw [← h3] at st3
  have f3 : ∀ b ∈ fp, FpOk X pins H3 b ∧ b < s3.heap.objs.size := fun b hb => by rw [h3]; exact f3 b hb
  have I4 := block_start I3 ok hN f3
  have pg := hg s3 H3 s3.heap.objs.size (cellsFrom (s3.heap.objs.size + 1) scope.names (cloFrom X.env.cells scope.names [])) fp
  have pi1 := hi1 s3 H3 s3.heap.objs.size (cellsFrom (s3.heap.objs.size + 1) scope.names (cloFrom X.env.cells scope.names [])) fp
  have pg1 := hg1 s3 H3 s3.heap.objs.size (cellsFrom (s3.heap.objs.size + 1) scope.names (cloFrom X.env.cells scope.names [])) fp
  have pe := he s3 H3 s3.heap.objs.size (cellsFrom (s3.heap.objs.size + 1) scope.names (cloFrom X.env.cells scope.names [])) fp
  have nfp : ∀ b ∈ fp, H3 b = none := fun b hb => (f3 b hb).1.1
  show codeAny _ _ (.compStart (sc2 elt tg iter tg1 iter1 scope pos) 0 (.ref it) (.ref D) (compEnvC scope (cellsFrom (s3.heap.objs.size + 1) scope.names (cloFrom X.env.cells scope.names [])) s3.heap.objs.size X.env)) _ { s3 with heap := pushCells (s3.heap.push { cls := .type "dict", data := .dict #[] }) scope.names }
  have cL : (compEnvC scope (cellsFrom (s3.heap.objs.size + 1) scope.names (cloFrom X.env.cells scope.names [])) s3.heap.objs.size X.env).locals = s3.heap.objs.size := rfl
  generalize compEnvC scope (cellsFrom (s3.heap.objs.size + 1) scope.names (cloFrom X.env.cells scope.names [])) s3.heap.objs.size X.env = ce at I4 pg pi1 pg1 pe cL ⊢
  have st4 : tn 0 (pushCells (s3.heap.push { cls := .type "dict", data := .dict #[] }) scope.names) := T.keep _ _ _ st3 fun b _ o e => pushCells_keeps _ _ _ _ (Heap.get?_push_of_some _ e)
  generalize hs4 : ({ s3 with heap := pushCells (s3.heap.push { cls := .type "dict", data := .dict #[] }) scope.names } : Shared) = s4 at I4 ⊢
  have st4 : tn 0 s4.heap := by rw [← hs4]; exact st4
  have stat : ∀ {σ' : L2.St} {H' : Hp} {s' : Shared}, Inv (X.blk s3 H3 scope ce fp) [] σ' H' s' → (∀ b ∈ fp, H' b = none) → ∀ b ∈ fp, FpOk (X.blk s3 H3 scope ce fp) [] H' b := fun {σ' H' s'} I' hn b hb =>
    ⟨hn b hb, (I'.ok.exf b hb).1, I'.ok.exfs b hb, .inl hb, fun x c e => (I'.ok.exf b hb).2 x c e, fun p hp => absurd (show p ∈ ([] : List (Addr × Obj)) ++ [] from hp) (by simp)⟩
  refine PpSet.codeAny_compStart_set ?loop (T.self X.A 0 _ _ _ st4 ?loop)
  refine loop_out (hs1 ce) (fun n s' => ∃ i H', Inv (X.blk s3 H3 scope ce fp) [] (wipe σ (own.map (·.2))) H' s' ∧ tn i s'.heap ∧ (∀ b ∈ fp, H' b = none) ∧ W i n H') ?_ m0 ⟨0, H3, I4, st4, nfp, w0⟩
  rintro n s5 ⟨i, H5, I5, st5, n5, w5⟩
  rcases turn i n H5 w5 with ⟨stop, qq⟩ | ⟨go, Nx, hNx, step⟩
  · refine thnF (T.done (X.blk s3 H3 scope ce fp) rfl rfl rfl hc i [] s5 _ H5 (fun _ _ => False) I5 (stat I5 n5) st5 stop) fun r s6 ⟨hr, I6⟩ => ?_
    subst hr
    have I7 : Inv X pins σ H5 s6 := I3.call' (ch := fp) I6.os I6.base I6.hok I6.bare fun b hb => ⟨(f3 b hb).1.2.2.2.1, (f3 b hb).1.2.1, (f3 b hb).1.2.2.2.2.1, (f3 b hb).1.2.2.2.2.2⟩
    have nC : H5 ce.locals = none := I6.free
    obtain ⟨m, hn, _⟩ := I6.loc
    have hn : s6.heap.Ns ce.locals m := hn
    rw [cL] at nC hn
    obtain ⟨f0, f1, f2, f3, f4, f5⟩ := I3.fpOk (Nat.le_refl _) nC
    exact ⟨m, hn, fun h'' sb => ⟨.ref D, H5, I7.turned (t' := s6.toks) (fun b o hb e => (sb.2 b hb).trans e) f0 f1 f3 f4 f5, rfl, qq⟩⟩
  · refine thnF (T.item (X.blk s3 H3 scope ce fp) rfl rfl rfl hc i [] s5 _ H5 (fun _ _ => False) I5 (stat I5 n5) st5 go) fun r s6 ⟨u, hr, h6⟩ => ?_
    subst hr
    refine thnF h6 fun _ s7 ⟨x, H7, I7, r7, y7, st7, n7⟩ => ?_
    refine thnF (pg.run _ s7 _ H7 x u _ (I7.pinned (stat I7 n7) (T.obj _ _ st7)) r7 (step x H7 y7)) fun _ s8 ⟨σ8, H8, I8, hw8, q8⟩ => ?_
    refine thnF (pi1.run _ s8 σ8 H8 _ I8 q8) fun xv s10 hx => thnF hx fun itv s11 h11 => ?_
    obtain ⟨it1, fp1, tn1, J1, H11, rfl, I11, T1, st11, f11, W1, ⟨m1, w1⟩, turn1⟩ := h11
    have fin : ∀ {σ9 : L2.St} {s' : Shared} {H' : Hp}, Inv (X.blk s3 H3 scope ce fp) ([] ++ pinsAt fp s7.heap) σ9 H' s' → (wipe σ (own.map (·.2))).length = σ9.length → (∀ (j : Nat) v, (wipe σ (own.map (·.2)))[j]? = some (some v) → σ9[j]? = some (some v)) → Nx H' →
        ∃ m, m < n ∧ ∃ i H', Inv (X.blk s3 H3 scope ce fp) [] (wipe σ (own.map (·.2))) H' s' ∧ tn i s'.heap ∧ (∀ b ∈ fp, H' b = none) ∧ W i m H' := fun {σ9 s' H'} I' hl hk nx => by
      obtain ⟨m', hm, w'⟩ := hNx H' nx
      have pin' : ∀ b ∈ fp, ∀ o, s7.heap.get? b = some o → s'.heap.get? b = some o ∧ H' b = none := fun b hb o e =>
        let z := I'.pin (b, o) (List.mem_append_right _ (List.mem_append_right _ (mem_pinsAt hb e)))
        ⟨z.1, z.2.1⟩
      refine ⟨m', hm, i + 1, H', (I'.unpinned (pins := [])).weak hl hk, T.keep _ _ _ st7 fun b hb o e => (pin' b hb o e).1, fun b hb => ?_, w'⟩
      obtain ⟨o, e, _⟩ := T.obj _ _ st7 b hb
      exact (pin' b hb o e).2
    have hl8 : (wipe σ (own.map (·.2))).length = σ8.length := by rw [← hw8, wipe_length]
    have hk9 : ∀ (j : Nat) v, (wipe σ (own.map (·.2)))[j]? = some (some v) → (wipe σ8 vs1)[j]? = some (some v) := fun j v e => by
      rw [← hw8] at e
      obtain ⟨e1, e2⟩ := wipe_some e
      rw [wipe_out fun z => e2 (hv j z)]
      exact e1
    have stat1 : ∀ {H' : Hp}, (∀ b ∈ fp1, H' b = none) → ∀ b ∈ fp1, FpOk (X.blk s3 H3 scope ce fp) ([] ++ pinsAt fp s7.heap) H' b := fun hn b hb => ⟨hn b hb, (f11 b hb).2⟩
    refine start_in ?inner fun Q' E' hq => T1.self X.A 0 _ _ _ st11 hq
    refine loop_in (fun k s' => ∃ j H', Inv (X.blk s3 H3 scope ce fp) ([] ++ pinsAt fp s7.heap) (wipe σ8 vs1) H' s' ∧ tn1 j s'.heap ∧ (∀ b ∈ fp1, H' b = none) ∧ W1 j k H') ?_ m1 ⟨0, H11, I11.weak (wipe_length _ _) (fun j v e => (wipe_some e).1), st11, fun b hb => (f11 b hb).1, w1⟩
    rintro k s12 ⟨j, H12, I12, st12, n12, w12⟩
    rcases turn1 j k H12 w12 with ⟨stop1, nx1⟩ | ⟨go1, Nx1, hNx1, step1⟩
    · refine thnF (T1.done (X.blk s3 H3 scope ce fp) rfl rfl rfl hc j _ s12 (wipe σ8 vs1) H12 (fun _ _ => False) I12 (stat1 n12) st12 stop1) fun r s13 ⟨hr, I13⟩ => ?_
      subst hr
      exact fin I13 (hl8.trans (wipe_length σ8 vs1).symm) hk9 nx1
    · refine thnF (T1.item (X.blk s3 H3 scope ce fp) rfl rfl rfl hc j _ s12 (wipe σ8 vs1) H12 (fun _ _ => False) I12 (stat1 n12) st12 go1) fun r s13 ⟨u1, hr, h13⟩ => ?_
      subst hr
      refine thnF h13 fun _ s14 ⟨x1, H14, I14, r14, y14, st14, n14⟩ => ?_
      refine thnF (pg1.run _ s14 (wipe σ8 vs1) H14 x1 u1 _ (I14.pinned (stat1 n14) (T1.obj _ _ st14)) r14 (step1 x1 H14 y14)) fun _ s15 ⟨σ15, H15, I15, hw15, q15⟩ => ?_
      refine thnF (pe.run _ s15 σ15 H15 _ I15 q15) fun z s17 ⟨yv, H17, I17, r17, c, S, nn, ey, hD17, hz17, nx⟩ => ?_
      subst ey
      refine sadd_ok (X := X.blk s3 H3 scope ce fp) I17 hD17 hz17 r17 fun s18 I18 => ?_
      obtain ⟨m', hm, w'⟩ := hNx1 _ nx
      have pin' : ∀ b ∈ fp1, ∀ o, s14.heap.get? b = some o → s18.heap.get? b = some o ∧ _ := fun b hb o e =>
        let z := I18.pin (b, o) (List.mem_append_right _ (List.mem_append_right _ (mem_pinsAt hb e)))
        ⟨z.1, z.2.1⟩
      refine ⟨m', hm, j + 1, _, I18.unpinned.weak (by rw [← hw15, wipe_length]) (fun i v e => by rw [← hw15] at e; exact (wipe_some e).1), T1.keep _ _ _ st14 fun b hb o e => (pin' b hb o e).1, fun b hb => ?_, w'⟩
      obtain ⟨o, e, _⟩ := T1.obj _ _ st14 b hb
      exact (pin' b hb o e).2
end
end Ky

namespace Ky
open PySem PySem.Spec PyProof.Rows L2
def topS (i : Nat) : Stmt := PySem.Challenge.pw_countsworn_k05_text_of_expressions.main.body.getD i (.Pass ⟨0, 0, 0, 0⟩)
abbrev s_is_whole : Stmt := topS 6
abbrev n_is_whole : List Str := ["value"]
theorem sc_is_whole : FnScope n_is_whole ["value"] (defScope s_is_whole) := ⟨rfl, rfl, rfl, by decide +kernel, rfl, by decide +kernel, by decide +kernel⟩
abbrev s_show_number : Stmt := topS 7
abbrev n_show_number : List Str := ["n", "rest", "parts", "low"]
theorem sc_show_number : FnScope n_show_number ["n"] (defScope s_show_number) := ⟨rfl, rfl, rfl, by decide +kernel, rfl, by decide +kernel, by decide +kernel⟩
abbrev s_read_number : Stmt := topS 8
abbrev n_read_number : List Str := ["text", "n", "padded", "at"]
theorem sc_read_number : FnScope n_read_number ["text"] (defScope s_read_number) := ⟨rfl, rfl, rfl, by decide +kernel, rfl, by decide +kernel, by decide +kernel⟩
abbrev s_is_variable : Stmt := topS 11
abbrev n_is_variable : List Str := ["value"]
theorem sc_is_variable : FnScope n_is_variable ["value"] (defScope s_is_variable) := ⟨rfl, rfl, rfl, by decide +kernel, rfl, by decide +kernel, by decide +kernel⟩
abbrev s_is_word : Stmt := topS 14
abbrev n_is_word : List Str := ["text"]
theorem sc_is_word : FnScope n_is_word ["text"] (defScope s_is_word) := ⟨rfl, rfl, rfl, by decide +kernel, rfl, by decide +kernel, by decide +kernel⟩
abbrev s_wanted_parts : Stmt := topS 15
abbrev n_wanted_parts : List Str := ["word"]
theorem sc_wanted_parts : FnScope n_wanted_parts ["word"] (defScope s_wanted_parts) := ⟨rfl, rfl, rfl, by decide +kernel, rfl, by decide +kernel, by decide +kernel⟩
abbrev s_parts_in : Stmt := topS 16
abbrev n_parts_in : List Str := ["expression", "word", "parts"]
theorem sc_parts_in : FnScope n_parts_in ["expression"] (defScope s_parts_in) := ⟨rfl, rfl, rfl, by decide +kernel, rfl, by decide +kernel, by decide +kernel⟩
abbrev s_read_variable : Stmt := topS 18
abbrev n_read_variable : List Str := ["item", "number"]
theorem sc_read_variable : FnScope n_read_variable ["item"] (defScope s_read_variable) := ⟨rfl, rfl, rfl, by decide +kernel, rfl, by decide +kernel, by decide +kernel⟩
abbrev s_show_expression : Stmt := topS 20
abbrev n_show_expression : List Str := ["expression", "word", "shown", "part"]
theorem sc_show_expression : FnScope n_show_expression ["expression"] (defScope s_show_expression) := ⟨rfl, rfl, rfl, by decide +kernel, rfl, by decide +kernel, by decide +kernel⟩
abbrev s_tok_init : Stmt := inClass (topS 21) 0
abbrev n_tok_init : List Str := ["self", "text"]
theorem sc_tok_init : FnScope n_tok_init ["self", "text"] (defScope s_tok_init) := ⟨rfl, rfl, rfl, by decide +kernel, rfl, by decide +kernel, by decide +kernel⟩
abbrev s_tok_step : Stmt := inClass (topS 21) 1
abbrev n_tok_step : List Str := ["self", "start", "end"]
theorem sc_tok_step : FnScope n_tok_step ["self"] (defScope s_tok_step) := ⟨rfl, rfl, rfl, by decide +kernel, rfl, by decide +kernel, by decide +kernel⟩
abbrev s_tok_skip : Stmt := inClass (topS 21) 2
abbrev n_tok_skip : List Str := ["self", "token"]
theorem sc_tok_skip : FnScope n_tok_skip ["self", "token"] (defScope s_tok_skip) := ⟨rfl, rfl, rfl, by decide +kernel, rfl, by decide +kernel, by decide +kernel⟩
abbrev s_tok_skip_number : Stmt := inClass (topS 21) 3
abbrev n_tok_skip_number : List Str := ["self", "number"]
theorem sc_tok_skip_number : FnScope n_tok_skip_number ["self"] (defScope s_tok_skip_number) := ⟨rfl, rfl, rfl, by decide +kernel, rfl, by decide +kernel, by decide +kernel⟩
abbrev s_begin : Stmt := topS 22
abbrev n_begin : List Str := ["tokens", "pending", "word", "variable", "row"]
theorem sc_begin : FnScope n_begin ["tokens", "pending"] (defScope s_begin) := ⟨rfl, rfl, rfl, by decide +kernel, rfl, by decide +kernel, by decide +kernel⟩
abbrev s_go_on : Stmt := topS 23
abbrev n_go_on : List Str := ["tokens", "pending", "part", "row", "wanted", "count"]
theorem sc_go_on : FnScope n_go_on ["tokens", "pending", "part"] (defScope s_go_on) := ⟨rfl, rfl, rfl, by decide +kernel, rfl, by decide +kernel, by decide +kernel⟩
abbrev s_read_expression : Stmt := topS 24
abbrev n_read_expression : List Str := ["text", "tokens", "pending", "found"]
theorem sc_read_expression : FnScope n_read_expression ["text"] (defScope s_read_expression) := ⟨rfl, rfl, rfl, by decide +kernel, rfl, by decide +kernel, by decide +kernel⟩
abbrev s_l_draw : Stmt := topS 26
abbrev n_l_draw : List Str := ["script", "seed", "cell"]
theorem sc_l_draw : FnScope n_l_draw ["script"] (defScope s_l_draw) := ⟨rfl, rfl, rfl, by decide +kernel, rfl, by decide +kernel, by decide +kernel⟩
abbrev s_l_take : Stmt := topS 27
abbrev n_l_take : List Str := ["draw", "many", "found"]
theorem sc_l_take : FnScope n_l_take ["draw", "many"] (defScope s_l_take) := ⟨rfl, rfl, rfl, by decide +kernel, rfl, by decide +kernel, by decide +kernel⟩
abbrev s_l_expression : Stmt := topS 41
abbrev n_l_expression : List Str := ["draw", "depth", "names", "k", "parts", "j", "word"]
theorem sc_l_expression : FnScope n_l_expression ["draw", "depth", "names"] (defScope s_l_expression) := ⟨rfl, rfl, rfl, by decide +kernel, rfl, by decide +kernel, by decide +kernel⟩
abbrev s_l_tokens : Stmt := topS 43
abbrev n_l_tokens : List Str := ["e", "found", "k"]
theorem sc_l_tokens : FnScope n_l_tokens ["e"] (defScope s_l_tokens) := ⟨rfl, rfl, rfl, by decide +kernel, rfl, by decide +kernel, by decide +kernel⟩
abbrev s_l_plain : Stmt := topS 44
abbrev n_l_plain : List Str := ["tokens", "text", "token"]
theorem sc_l_plain : FnScope n_l_plain ["tokens"] (defScope s_l_plain) := ⟨rfl, rfl, rfl, by decide +kernel, rfl, by decide +kernel, by decide +kernel⟩
abbrev s_l_error : Stmt := topS 45
abbrev n_l_error : List Str := ["text", "error"]
theorem sc_l_error : FnScope n_l_error ["text"] (defScope s_l_error) := ⟨rfl, rfl, rfl, by decide +kernel, rfl, by decide +kernel, by decide +kernel⟩
abbrev s_l_wrong : Stmt := topS 46
abbrev n_l_wrong : List Str := ["draw", "rows"]
theorem sc_l_wrong : FnScope n_l_wrong ["draw"] (defScope s_l_wrong) := ⟨rfl, rfl, rfl, by decide +kernel, rfl, by decide +kernel, by decide +kernel⟩
abbrev s_law : Stmt := topS 47
abbrev n_law : List Str := ["script", "draw", "names", "j", "e", "tokens", "text", "loose", "token", "wrong", "at"]
theorem sc_law : FnScope n_law ["script"] (defScope s_law) := ⟨rfl, rfl, rfl, by decide +kernel, rfl, by decide +kernel, by decide +kernel⟩
end Ky

namespace Ky
open PySem PySem.Spec PyProof.Rows L2
theorem _root_.L2.Room.u1 {k : Nat} {A : Around} (r : Room k A) : A.units + 1 < cLine := by have := r.un; omega
theorem _root_.L2.Room.u65 {k : Nat} {A : Around} (r : Room k A) : A.units + 65 < cLine := by have := r.un; omega
theorem wipe_one {σ : L2.St} {j : Nat} {x : Option V} : wipe ((wipe σ [j]).set j x) [j] = wipe σ [j] := by
  simp [wipe, List.set_set]
/-- all or any, walked -/
theorem g_walk {J : It} {n : Nat} {xv : Nat → V} {te : TE} {σ : L2.St} {j : Nat} {H0 : Hp} {cont : Bool} {Q : VK} (bf : Nat → Bool) (Hs : Hp → Prop) (h0 : Hs H0) (hgo : ∀ i H, i < n → Hs H → J.go i H) (hy : ∀ i H x H', i < n → Hs H → J.yld i H x H' → H' = H ∧ x = xv i)
    (hstop : ∀ H, Hs H → J.stop n H) (step : ∀ i H (k : VK), i < n → Hs H → (∀ H', Hs H' → k (.bl (bf i)) H') → te ((wipe σ [j]).set j (some (xv i))) H k)
    (fin : ∀ H, Hs H → Q (.bl (if cont = true then (List.range n).all bf else (List.range n).any bf)) H) : ∃ W : Nat → Nat → Hp → Prop, (∃ m, W 0 m H0) ∧ GTurn J (gName j) te (wipe σ [j]) [j] Q cont W := by
  refine ⟨fun i m H => m = n - i ∧ i ≤ n ∧ Hs H ∧ ∀ k, k < i → bf k = cont, ⟨n, by simp, Nat.zero_le _, h0, fun k hk => absurd hk (Nat.not_lt_zero _)⟩, ?_⟩
  rintro i m H ⟨rfl, hi, hs, hb⟩
  by_cases hlt : i < n
  · refine .inr ⟨hgo i H hlt hs, fun x H' y => ?_⟩
    obtain ⟨rfl, rfl⟩ := hy i H x H' hlt hs y
    refine ⟨wipe_one, step i H' _ hlt hs fun H2 hs2 => ⟨bf i, rfl, ?_⟩⟩
    by_cases hc : bf i = cont
    · rw [if_pos hc]
      refine ⟨n - (i + 1), by omega, rfl, hlt, hs2, fun k hk => ?_⟩
      by_cases e : k = i
      · rw [e]; exact hc
      · exact hb k (by omega)
    · rw [if_neg hc]
      have q := fin H2 hs2
      have hn := not_of_ne hc
      have e : (if cont = true then (List.range n).all bf else (List.range n).any bf) = !cont := by
        cases cont with
        | true =>
          rw [if_pos rfl]
          refine Bool.eq_false_iff.mpr fun z => ?_
          rw [List.all_eq_true.mp z i (List.mem_range.mpr hlt)] at hn
          cases hn
        | false =>
          rw [if_neg Bool.false_ne_true]
          exact List.any_eq_true.mpr ⟨i, List.mem_range.mpr hlt, hn⟩
      rw [e] at q
      exact q
  · have ei : i = n := by omega
    subst ei
    refine .inl ⟨hstop H hs, ?_⟩
    have q := fin H hs
    have e : (if cont = true then (List.range i).all bf else (List.range i).any bf) = cont := by
      cases cont with
      | true =>
        rw [if_pos rfl]
        exact List.all_eq_true.mpr fun k hk => hb k (List.mem_range.mp hk)
      | false =>
        rw [if_neg Bool.false_ne_true]
        refine Bool.eq_false_iff.mpr fun z => ?_
        obtain ⟨k, hk, hk2⟩ := List.any_eq_true.mp z
        rw [hb k (List.mem_range.mp hk)] at hk2
        cases hk2
    rw [e] at q
    exact q
theorem g_range {lo : Int} {n : Nat} {te : TE} {σ : L2.St} {j : Nat} {H0 : Hp} {cont : Bool} {Q : VK} (bf : Nat → Bool) (Hs : Hp → Prop) (h0 : Hs H0)
    (step : ∀ i H (k : VK), i < n → Hs H → (∀ H', Hs H' → k (.bl (bf i)) H') → te ((wipe σ [j]).set j (some (.int (lo + i)))) H k)
    (fin : ∀ H, Hs H → Q (.bl (if cont = true then (List.range n).all bf else (List.range n).any bf)) H) : ∃ W : Nat → Nat → Hp → Prop, (∃ m, W 0 m H0) ∧ GTurn (Itr lo n) (gName j) te (wipe σ [j]) [j] Q cont W :=
  g_walk (xv := fun i => .int (lo + i)) bf Hs h0 (fun i H h _ => h) (fun i H x H' _ _ h => h) (fun H _ => Nat.le_refl n) step fin
theorem g_list {K : PySem.W.Frag} {a : Addr} {xs : List V} {te : TE} {σ : L2.St} {j : Nat} {H0 : Hp} {cont : Bool} {Q : VK} (bf : Nat → Bool) (Hs : Hp → Prop) (h0 : Hs H0) (hl : ∀ H, Hs H → SqL K H a xs)
    (step : ∀ i x H (k : VK), xs[i]? = some x → Hs H → (∀ H', Hs H' → k (.bl (bf i)) H') → te ((wipe σ [j]).set j (some x)) H k)
    (fin : ∀ H, Hs H → Q (.bl (if cont = true then (List.range xs.length).all bf else (List.range xs.length).any bf)) H) : ∃ W : Nat → Nat → Hp → Prop, (∃ m, W 0 m H0) ∧ GTurn (Itl K a) (gName j) te (wipe σ [j]) [j] Q cont W :=
  g_walk (xv := fun i => xs.getD i .non) bf Hs h0 (fun i H h hs => ⟨xs, xs[i], hl H hs, List.getElem?_eq_getElem h⟩) (fun i H x H' h hs q => by
    obtain ⟨e, q⟩ := q
    subst e
    refine ⟨rfl, ?_⟩
    rw [List.getD_eq_getElem?_getD, q xs (hl _ hs)] <;> rfl) (fun H hs => ⟨xs, hl H hs, Nat.le_refl _⟩) (fun i H k h hs hk => step i _ H k (by rw [List.getD_eq_getElem?_getD, List.getElem?_eq_getElem h] <;> rfl) hs hk) fin
theorem g_tup {K : PySem.W.Frag} {a : Addr} {xs : List V} {te : TE} {σ : L2.St} {j : Nat} {H0 : Hp} {cont : Bool} {Q : VK} (bf : Nat → Bool) (Hs : Hp → Prop) (h0 : Hs H0) (hl : ∀ H, Hs H → SqT K H a xs)
    (step : ∀ i x H (k : VK), xs[i]? = some x → Hs H → (∀ H', Hs H' → k (.bl (bf i)) H') → te ((wipe σ [j]).set j (some x)) H k)
    (fin : ∀ H, Hs H → Q (.bl (if cont = true then (List.range xs.length).all bf else (List.range xs.length).any bf)) H) : ∃ W : Nat → Nat → Hp → Prop, (∃ m, W 0 m H0) ∧ GTurn (Itt K a) (gName j) te (wipe σ [j]) [j] Q cont W :=
  g_walk (xv := fun i => xs.getD i .non) bf Hs h0 (fun i H h hs => ⟨xs, xs[i], hl H hs, List.getElem?_eq_getElem h⟩) (fun i H x H' h hs q => by
    obtain ⟨e, q⟩ := q
    subst e
    refine ⟨rfl, ?_⟩
    rw [List.getD_eq_getElem?_getD, q xs (hl _ hs)] <;> rfl) (fun H hs => ⟨xs, hl H hs, Nat.le_refl _⟩) (fun i H k h hs hk => step i _ H k (by rw [List.getD_eq_getElem?_getD, List.getElem?_eq_getElem h] <;> rfl) hs hk) fin
/-! ### more steps of a reading -/
section
variable {σ : L2.St} {H : Hp} {Q : VK} {ta tb tc td : TE} {K : PySem.W.Frag} {x y : V}
theorem w_chain {r r' : R2} (q : ta σ H fun x H1 => tb σ H1 fun y H2 => r x y H2 fun z H3 => ∃ k, z = .bl k ∧ (if k = true then tc σ H3 fun w' H4 => r' y w' H4 Q else Q (.bl false) H3)) : tChain r r' ta tb tc σ H Q := q
theorem w_isi_ii {n : Int} (q : Q (.bl true) H) : rIsi K [.int n, .ty "int"] H Q := ⟨_, _, _, _, true, rfl, .ty _, .base (.int n), kit_ty (by decide +kernel), q⟩
theorem w_isi_ib {n : Int} (q : Q (.bl false) H) : rIsi K [.int n, .ty "bool"] H Q := ⟨_, _, _, _, false, rfl, .ty _, .base (.int n), kit_ty (by decide +kernel), q⟩
theorem w_isi_it {n : Int} (q : Q (.bl false) H) : rIsi K [.int n, .ty "tuple"] H Q := ⟨_, _, _, _, false, rfl, .ty _, .base (.int n), kit_ty (by decide +kernel), q⟩
theorem w_isi_st {z : Str} (q : Q (.bl false) H) : rIsi K [.str z, .ty "tuple"] H Q := ⟨_, _, _, _, false, rfl, .ty _, .base (.str z), kit_ty (by decide +kernel), q⟩
theorem w_isi_tt {a : Addr} {xs : List V} (h : H a = some (.tup xs)) (q : Q (.bl true) H) : rIsi K [.ref a, .ty "tuple"] H Q := ⟨_, _, _, _, true, rfl, .ty _, .base (.tup h), kit_ty (by decide +kernel), q⟩
theorem w_gRd {P0 : Addr} {wi : TI} {g : TG} {vs : List Nat} {cont : Bool} (q : wi σ H fun J H1 => GxR.TabG H1 P0 ∧ ∀ H2, GxR.Tabbed P0 H1 H2 → ∃ W : Nat → Nat → Hp → Prop, (∃ m, W 0 m H2) ∧ GTurn J g ta (wipe σ vs) vs Q cont W) : gRd P0 wi g ta vs cont σ H Q := q
theorem w_andV (q : ta σ H fun x H1 => ∃ c, x = .bl c ∧ if c = true then tb σ H1 Q else Q (.bl false) H1) : tAndV ta tb σ H Q := q
theorem w_orV (q : ta σ H fun x H1 => ∃ c, x = .bl c ∧ if c = true then Q (.bl true) H1 else tb σ H1 Q) : tOrV ta tb σ H Q := q
theorem w_notV (q : ta σ H fun x H1 => ∃ c, x = .bl c ∧ Q (.bl (!c)) H1) : tNotV ta σ H Q := q
theorem w_din {ty : TE} (q : ty σ H fun y H1 => td σ H1 fun x H2 => ∃ a o, x = .ref a ∧ DGet H2 a y o ∧ Q (.bl o.isSome) H2) : tDIn ty td σ H Q := q
end
/-! ### the rules with the fragment told: inside a block or a generator's frame the context's own letter may not be left -/
section
variable {X : Cx} {K : PySem.W.Frag}
theorem opK {op : Value → Value → Sem Value} {r : PySem.W.Frag → R2} (hK : X.K = K) (h : OpR X op (r X.K)) : OpR X op (r K) := by subst hK; exact h
theorem ix_listK (hK : X.K = K) : IxR X (rIxL K) := by subst hK; exact ix_list
theorem ix_tupK (hK : X.K = K) : IxR X (rIxT K) := by subst hK; exact ix_tup
theorem sl_listK (hK : X.K = K) : SlR X (rSlL K) := by subst hK; exact sl_list
theorem sl_tupK (hK : X.K = K) : SlR X (rSlT K) := by subst hK; exact sl_tup
theorem pi_listK {tg l : Expr} {tl : TE} (hK : X.K = K) (hl : PE X l tl) : PI X tg l (iList K tl) := by subst hK; exact pi_list hl
theorem pi_tupK {tg l : Expr} {tl : TE} (hK : X.K = K) (hl : PE X l tl) : PI X tg l (iTup K tl) := by subst hK; exact pi_tup hl
end
end Ky

namespace Ky
open PySem PySem.Spec PyProof.Rows L2
/-! ### distinct items, in their first order -/
section
variable {κ : Type} [DecidableEq κ]
def dstep (acc : List κ) (k : κ) : List κ := if k ∈ acc then acc else acc ++ [k]
def dd (ls : List κ) : List κ := ls.foldl dstep []
def setDict (ks : List κ) : List (κ × V) := ks.map fun k => (k, V.bl true)
theorem dd_snoc (ls : List κ) (k : κ) : dd (ls ++ [k]) = dstep (dd ls) k := by unfold dd; rw [List.foldl_append]; rfl
theorem setDict_len (ks : List κ) : (setDict ks).length = ks.length := List.length_map ..
theorem putK_set (ks : List κ) (k : κ) : putK (setDict ks) k (V.bl true) = setDict (dstep ks k) := by
  unfold putK dstep
  by_cases h : k ∈ ks
  · rw [if_pos h, if_pos (by
      unfold setDict
      rw [List.any_map]
      exact List.any_eq_true.mpr ⟨k, h, by simp⟩)]
    unfold setDict
    rw [List.map_map]
    refine List.map_congr_left fun x _ => ?_
    show (if x = k then (x, V.bl true) else (x, V.bl true)) = _
    by_cases e : x = k
    · rw [if_pos e]
    · rw [if_neg e]
  · rw [if_neg h, if_neg (by
      unfold setDict
      rw [List.any_map]
      intro z
      obtain ⟨x, hx, e⟩ := List.any_eq_true.mp z
      have e : x = k := by simpa using e
      rw [e] at hx
      exact h hx)]
    unfold setDict
    rw [List.map_append] <;> rfl
theorem valV_set (ks : List κ) (k : κ) : (valV (setDict ks) k).isSome = decide (k ∈ ks) := by
  induction ks with
  | nil => rfl
  | cons x ks ih =>
    unfold setDict at ih ⊢
    rw [List.map_cons]
    by_cases e : x = k
    · rw [valV_pos (p := (x, V.bl true)) e]
      rw [e]
      simp
    · rw [valV_neg (p := (x, V.bl true)) e, ih]
      exact decide_eq_decide.mpr ⟨fun h => List.mem_cons_of_mem _ h, fun h => (List.mem_cons.mp h).resolve_left fun z => e z.symm⟩
theorem mem_dstep {acc : List κ} {k x : κ} : x ∈ dstep acc k ↔ x ∈ acc ∨ x = k := by
  unfold dstep
  by_cases h : k ∈ acc
  · rw [if_pos h]
    exact ⟨.inl, fun z => z.elim id fun e => e ▸ h⟩
  · rw [if_neg h, List.mem_append, List.mem_singleton]
theorem mem_foldl {x : κ} : ∀ {ls acc : List κ}, x ∈ ls.foldl dstep acc ↔ x ∈ acc ∨ x ∈ ls
  | [], acc => by simp
  | k :: ls, acc => by
    rw [List.foldl_cons, mem_foldl, mem_dstep, List.mem_cons, or_assoc]
theorem mem_dd {ls : List κ} {x : κ} : x ∈ dd ls ↔ x ∈ ls := by unfold dd; rw [mem_foldl]; simp
theorem nodup_dstep {acc : List κ} {k : κ} (h : acc.Nodup) : (dstep acc k).Nodup := by
  unfold dstep
  by_cases e : k ∈ acc
  · rw [if_pos e]; exact h
  · rw [if_neg e]
    exact List.nodup_append.mpr ⟨h, List.nodup_cons.mpr ⟨by simp, List.nodup_nil⟩, fun a ha b hb z => by
      rw [List.mem_singleton.mp hb] at z
      exact e (z ▸ ha)⟩
theorem nodup_foldl : ∀ {ls acc : List κ}, acc.Nodup → (ls.foldl dstep acc).Nodup
  | [], _, h => h
  | k :: ls, acc, h => by
    rw [List.foldl_cons]
    exact nodup_foldl (nodup_dstep h)
theorem nodup_dd (ls : List κ) : (dd ls).Nodup := nodup_foldl List.nodup_nil
theorem len_dstep (acc : List κ) (k : κ) : (dstep acc k).length ≤ acc.length + 1 := by
  unfold dstep
  by_cases h : k ∈ acc
  · rw [if_pos h]; omega
  · rw [if_neg h, List.length_append]; exact Nat.le_refl _
theorem len_foldl : ∀ (ls acc : List κ), (ls.foldl dstep acc).length ≤ acc.length + ls.length
  | [], _ => Nat.le_refl _
  | k :: ls, acc => by
    have h := len_foldl ls (dstep acc k)
    have h2 := len_dstep acc k
    rw [List.foldl_cons, List.length_cons]
    omega
theorem len_dd (ls : List κ) : (dd ls).length ≤ ls.length := by have := len_foldl ls ([] : List κ); simpa [dd] using this
theorem dd_map {μ : Type} [DecidableEq μ] {f : κ → μ} (hf : ∀ a b, f a = f b → a = b) (ls : List κ) : dd (ls.map f) = (dd ls).map f := by
  have aux : ∀ (ls acc : List κ), (ls.map f).foldl dstep (acc.map f) = (ls.foldl dstep acc).map f := by
    intro ls
    induction ls with
    | nil => intro acc; rfl
    | cons k ls ih =>
      intro acc
      rw [List.map_cons, List.foldl_cons, List.foldl_cons, ← ih]
      congr 1
      unfold dstep
      by_cases h : k ∈ acc
      · rw [if_pos h, if_pos (List.mem_map.mpr ⟨k, h, rfl⟩)]
      · rw [if_neg h, if_neg (fun z => by
          obtain ⟨x, hx, e⟩ := List.mem_map.mp z
          exact h (hf _ _ e ▸ hx)), List.map_append] <;> rfl
  exact aux ls []
end
/-! ### sorting by data -/
section
variable {β γ : Type}
def srtBy (g : β → PyData) (bs : List β) : List β := bs.mergeSort (PySem.W.dataLe false g)
theorem sortD_map (f : β → V) (g : β → PyData) (bs : List β) : sortD (bs.map f) (bs.map g) = (srtBy g bs).map f := by
  unfold sortD srtBy
  have e : (bs.map f).zip (bs.map g) = bs.map fun b => (f b, g b) := by
    induction bs with
    | nil => rfl
    | cons b bs ih => rw [List.map_cons, List.map_cons, List.zip_cons_cons, ih] <;> rfl
  rw [e, ← PySem.W.sort_maps (fun b => (f b, g b)) (r := PySem.W.dataLe false g) (s := PySem.W.dataLe false fun p : V × PyData => p.2) (fun _ _ _ _ => rfl), List.map_map]
  rfl
theorem srtBy_map (h : β → γ) (g : γ → PyData) (bs : List β) : (srtBy (fun b => g (h b)) bs).map h = srtBy g (bs.map h) :=
  PySem.W.sort_maps h (r := PySem.W.dataLe false fun b => g (h b)) (s := PySem.W.dataLe false g) fun _ _ _ _ => rfl
theorem srtBy_perm (g : β → PyData) (bs : List β) : (srtBy g bs).Perm bs := List.mergeSort_perm _ _
theorem mem_srtBy {g : β → PyData} {bs : List β} {x : β} : x ∈ srtBy g bs ↔ x ∈ bs := (srtBy_perm g bs).mem_iff
theorem srtBy_pair (g : β → PyData) (bs : List β) : (srtBy g bs).Pairwise fun a b => PySem.W.dataLe false g a b = true :=
  PySem.W.sort_pairwise (PySem.W.sortLe_total _ _ _) bs
theorem srtBy_congr {g g' : β → PyData} {bs : List β} (h : ∀ a ∈ bs, ∀ b ∈ bs, PySem.W.dataLt (g a) (g b) = PySem.W.dataLt (g' a) (g' b)) : srtBy g bs = srtBy g' bs :=
  PySem.W.sort_congr fun a ha b hb => by
    show (!PySem.W.dataLt (g b) (g a)) = (!PySem.W.dataLt (g' b) (g' a))
    rw [h b hb a ha]
end
end Ky

namespace Ky
open PySem PySem.Spec PyProof.Rows L2
/-- any comprehension's walk -/
theorem c_walk {J : It} {n : Nat} {xv : Nat → V} {Body : V → Hp → (Hp → Prop) → Prop} {Qd : Hp → Prop} {H0 : Hp} (Pv : Nat → Hp → Prop) (h0 : Pv 0 H0) (hgo : ∀ i H, i < n → Pv i H → J.go i H) (hy : ∀ i H x H', i < n → Pv i H → J.yld i H x H' → H' = H ∧ x = xv i)
    (hstop : ∀ H, Pv n H → J.stop n H) (step : ∀ i H, i < n → Pv i H → Body (xv i) H (Pv (i + 1))) (fin : ∀ H, Pv n H → Qd H) :
    ∃ W : Nat → Nat → Hp → Prop, (∃ m, W 0 m H0) ∧ ∀ i m H, W i m H → (J.stop i H ∧ Qd H) ∨ (J.go i H ∧ ∃ Nx : Hp → Prop, (∀ H', Nx H' → ∃ m', m' < m ∧ W (i + 1) m' H') ∧ ∀ x H', J.yld i H x H' → Body x H' Nx) := by
  refine ⟨fun i m H => m = n - i ∧ i ≤ n ∧ Pv i H, ⟨n, by simp, Nat.zero_le _, h0⟩, ?_⟩
  rintro i m H ⟨rfl, hi, p⟩
  by_cases hlt : i < n
  · refine .inr ⟨hgo i H hlt p, Pv (i + 1), fun H' p' => ⟨n - (i + 1), by omega, rfl, hlt, p'⟩, fun x H' y => ?_⟩
    obtain ⟨rfl, rfl⟩ := hy i H x H' hlt p y
    exact step i H' hlt p
  · have e : i = n := by omega
    subst e
    exact .inl ⟨hstop H p, fin H p⟩
theorem c_list {K : PySem.W.Frag} {a : Addr} {xs : List V} {Body : V → Hp → (Hp → Prop) → Prop} {Qd : Hp → Prop} {H0 : Hp} (Pv : Nat → Hp → Prop) (h0 : Pv 0 H0) (hl : ∀ i H, i ≤ xs.length → Pv i H → SqL K H a xs)
    (step : ∀ i x H, xs[i]? = some x → Pv i H → Body x H (Pv (i + 1))) (fin : ∀ H, Pv xs.length H → Qd H) :
    ∃ W : Nat → Nat → Hp → Prop, (∃ m, W 0 m H0) ∧ ∀ i m H, W i m H → ((Itl K a).stop i H ∧ Qd H) ∨ ((Itl K a).go i H ∧ ∃ Nx : Hp → Prop, (∀ H', Nx H' → ∃ m', m' < m ∧ W (i + 1) m' H') ∧ ∀ x H', (Itl K a).yld i H x H' → Body x H' Nx) :=
  c_walk (xv := fun i => xs.getD i .non) Pv h0 (fun i H h hs => ⟨xs, xs[i], hl i H (Nat.le_of_lt h) hs, List.getElem?_eq_getElem h⟩) (fun i H x H' h hs q => by
    obtain ⟨e, q⟩ := q
    subst e
    refine ⟨rfl, ?_⟩
    rw [List.getD_eq_getElem?_getD, q xs (hl i _ (Nat.le_of_lt h) hs)] <;> rfl) (fun H hs => ⟨xs, hl _ H (Nat.le_refl _) hs, Nat.le_refl _⟩) (fun i H h hs => step i _ H (by rw [List.getD_eq_getElem?_getD, List.getElem?_eq_getElem h] <;> rfl) hs) fin
theorem c_tup {K : PySem.W.Frag} {a : Addr} {xs : List V} {Body : V → Hp → (Hp → Prop) → Prop} {Qd : Hp → Prop} {H0 : Hp} (Pv : Nat → Hp → Prop) (h0 : Pv 0 H0) (hl : ∀ i H, i ≤ xs.length → Pv i H → SqT K H a xs)
    (step : ∀ i x H, xs[i]? = some x → Pv i H → Body x H (Pv (i + 1))) (fin : ∀ H, Pv xs.length H → Qd H) :
    ∃ W : Nat → Nat → Hp → Prop, (∃ m, W 0 m H0) ∧ ∀ i m H, W i m H → ((Itt K a).stop i H ∧ Qd H) ∨ ((Itt K a).go i H ∧ ∃ Nx : Hp → Prop, (∀ H', Nx H' → ∃ m', m' < m ∧ W (i + 1) m' H') ∧ ∀ x H', (Itt K a).yld i H x H' → Body x H' Nx) :=
  c_walk (xv := fun i => xs.getD i .non) Pv h0 (fun i H h hs => ⟨xs, xs[i], hl i H (Nat.le_of_lt h) hs, List.getElem?_eq_getElem h⟩) (fun i H x H' h hs q => by
    obtain ⟨e, q⟩ := q
    subst e
    refine ⟨rfl, ?_⟩
    rw [List.getD_eq_getElem?_getD, q xs (hl i _ (Nat.le_of_lt h) hs)] <;> rfl) (fun H hs => ⟨xs, hl _ H (Nat.le_refl _) hs, Nat.le_refl _⟩) (fun i H h hs => step i _ H (by rw [List.getD_eq_getElem?_getD, List.getElem?_eq_getElem h] <;> rfl) hs) fin
theorem upd_again {H : Hp} {D : Addr} {a b : HO} : upd (upd H D a) D b = upd H D b := by
  funext x
  by_cases e : x = D
  · rw [e, upd_same, upd_same]
  · rw [upd_ne e, upd_ne e, upd_ne e]
def keysI (ns : List Int) : List L2.Key := ns.map Sum.inl
theorem inl_inj (a b : Int) (h : (Sum.inl a : L2.Key) = Sum.inl b) : a = b := Sum.inl.inj h
theorem keysI_inj : ∀ (a b : List Int), keysI a = keysI b → a = b
  | [], [], _ => rfl
  | x :: a, y :: b, h => by
    unfold keysI at h
    rw [List.map_cons, List.map_cons] at h
    obtain ⟨h1, h2⟩ := List.cons.inj h
    rw [Sum.inl.inj h1, keysI_inj a b h2]
  | [], _ :: _, h => by cases h
  | _ :: _, [], h => by cases h
theorem keysI_kV (ns : List Int) : (keysI ns).map kV = ns.map V.int := by unfold keysI; rw [List.map_map] <;> rfl
section
variable {K : PySem.W.Frag} {a : Addr} {σ : L2.St} {H : Hp} {Q : VK} {i0 j : Nat}
theorem var_set {x : V} (hj : j < σ.length) : ((wipe σ [j]).set j (some x))[j]? = some (some x) := by
  rw [List.getElem?_set_self (by rw [wipe_length]; exact hj)]
/-- {x: True for x in e}, e a list (a tuple) of numbers -/
theorem rd_dcI {ns : List Int} (hσ : σ[i0]? = some (some (.ref a))) (hj : j < σ.length) (ha : H a = some (.lst (ns.map V.int))) (hz : ns.length ≤ sizeLine) (k : ∀ D, H D = none → Q (.ref D) (upd H D (.dK (setDict (keysI (dd ns)))))) :
    tDc (iList K (tVar i0)) (gName j) tYes (tVar j) (tC (.bl true)) [j] σ H Q := by
  refine ⟨_, hσ, a, rfl, ⟨_, SqL.of ha⟩, fun D hD => ?_⟩
  refine c_list (xs := ns.map V.int) (fun i H1 => H1 = upd H D (.dK (setDict (keysI (dd (ns.take i)))))) (by rw [List.take_zero]; rfl) (fun i H1 _ h => by rw [h]; exact (Kept.new hD).sq (SqL.of ha)) (fun i x H1 hx h => ?_) fun H1 h => ?_
  · obtain ⟨n, rfl, hn⟩ := map_int hx
    refine ⟨wipe_one, w_yes (if_t rfl ⟨_, var_set hj, setDict (keysI (dd (ns.take i))), Sum.inl n, rfl, by rw [h]; exact upd_same, ?_, ?_⟩)⟩
    · rw [setDict_len]
      unfold keysI
      rw [List.length_map]
      have h1 := len_dd (ns.take i)
      have h2 : i < ns.length := (List.getElem?_eq_some_iff.mp hn).1
      rw [List.length_take] at h1
      omega
    · rw [h, upd_again, putK_set]
      have e : ns.take (i + 1) = ns.take i ++ [n] := by rw [List.take_add_one, hn]; rfl
      rw [e, dd_snoc]
      congr 3
      show dstep (keysI (dd (ns.take i))) (Sum.inl n) = keysI (dstep (dd (ns.take i)) n)
      unfold dstep keysI
      by_cases hm : n ∈ dd (ns.take i)
      · rw [if_pos hm, if_pos (List.mem_map.mpr ⟨n, hm, rfl⟩)]
      · rw [if_neg hm, if_neg (fun z => by
          obtain ⟨y, hy, e⟩ := List.mem_map.mp z
          exact hm (Sum.inl.inj e ▸ hy)), List.map_append] <;> rfl
  · rw [List.length_map, List.take_length] at h
    rw [h]
    exact k D hD
theorem rd_dcIt {ns : List Int} (hσ : σ[i0]? = some (some (.ref a))) (hj : j < σ.length) (ha : H a = some (.tup (ns.map V.int))) (hz : ns.length ≤ sizeLine) (k : ∀ D, H D = none → Q (.ref D) (upd H D (.dK (setDict (keysI (dd ns)))))) :
    tDc (iTup K (tVar i0)) (gName j) tYes (tVar j) (tC (.bl true)) [j] σ H Q := by
  refine ⟨_, hσ, a, rfl, ⟨_, SqT.of ha⟩, fun D hD => ?_⟩
  refine c_tup (xs := ns.map V.int) (fun i H1 => H1 = upd H D (.dK (setDict (keysI (dd (ns.take i)))))) (by rw [List.take_zero]; rfl) (fun i H1 _ h => by rw [h]; exact SqT.of ((Kept.new hD).tup ha)) (fun i x H1 hx h => ?_) fun H1 h => ?_
  · obtain ⟨n, rfl, hn⟩ := map_int hx
    refine ⟨wipe_one, w_yes (if_t rfl ⟨_, var_set hj, setDict (keysI (dd (ns.take i))), Sum.inl n, rfl, by rw [h]; exact upd_same, ?_, ?_⟩)⟩
    · rw [setDict_len]
      unfold keysI
      rw [List.length_map]
      have h1 := len_dd (ns.take i)
      have h2 : i < ns.length := (List.getElem?_eq_some_iff.mp hn).1
      rw [List.length_take] at h1
      omega
    · rw [h, upd_again, putK_set]
      have e : ns.take (i + 1) = ns.take i ++ [n] := by rw [List.take_add_one, hn]; rfl
      rw [e, dd_snoc]
      congr 3
      show dstep (keysI (dd (ns.take i))) (Sum.inl n) = keysI (dstep (dd (ns.take i)) n)
      unfold dstep keysI
      by_cases hm : n ∈ dd (ns.take i)
      · rw [if_pos hm, if_pos (List.mem_map.mpr ⟨n, hm, rfl⟩)]
      · rw [if_neg hm, if_neg (fun z => by
          obtain ⟨y, hy, e⟩ := List.mem_map.mp z
          exact hm (Sum.inl.inj e ▸ hy)), List.map_append] <;> rfl
  · rw [List.length_map, List.take_length] at h
    rw [h]
    exact k D hD
/-- {c: True for c in e}, e a list of tuples of numbers -/
theorem rd_dcT {bs : List Addr} {cs : List (List Int)} (hσ : σ[i0]? = some (some (.ref a))) (hj : j < σ.length) (ha : H a = some (.lst (bs.map V.ref))) (hl : bs.length = cs.length) (hb : ∀ (i : Nat) (b : Addr) (c : List Int), bs[i]? = some b → cs[i]? = some c → H b = some (.tup (c.map V.int))) (hz : cs.length ≤ sizeLine)
    (k : ∀ D, H D = none → Q (.ref D) (upd H D (.dT (setDict ((dd cs).map keysI))))) : tDcT (iList K (tVar i0)) (gName j) tYes (tVar j) (tC (.bl true)) [j] σ H Q := by
  refine ⟨_, hσ, a, rfl, ⟨_, SqL.of ha⟩, fun D hD => ?_⟩
  refine c_list (xs := bs.map V.ref) (fun i H1 => H1 = upd H D (.dT (setDict ((dd (cs.take i)).map keysI)))) (by rw [List.take_zero]; rfl) (fun i H1 _ h => by rw [h]; exact (Kept.new hD).sq (SqL.of ha)) (fun i x H1 hx h => ?_) fun H1 h => ?_
  · rw [List.getElem?_map] at hx
    obtain ⟨b, hb1, rfl⟩ := Option.map_eq_some_iff.mp hx
    have hi : i < cs.length := by rw [← hl]; exact (List.getElem?_eq_some_iff.mp hb1).1
    have hc : cs[i]? = some cs[i] := List.getElem?_eq_getElem hi
    have e1 := hb i b _ hb1 hc
    refine ⟨wipe_one, w_yes (if_t rfl ⟨_, var_set hj, setDict ((dd (cs.take i)).map keysI), keysI cs[i], b, rfl, ?_, by rw [h]; exact upd_same, ?_, ?_⟩)⟩
    · rw [keysI_kV, h, upd_ne (ne_of_none e1 hD)]
      exact e1
    · rw [setDict_len, List.length_map]
      have h1 := len_dd (cs.take i)
      rw [List.length_take] at h1
      omega
    · rw [h, upd_again, putK_set]
      have e : cs.take (i + 1) = cs.take i ++ [cs[i]] := by rw [List.take_add_one, hc]; rfl
      rw [e, dd_snoc]
      congr 3
      unfold dstep
      by_cases hm : cs[i] ∈ dd (cs.take i)
      · rw [if_pos hm, if_pos (List.mem_map.mpr ⟨_, hm, rfl⟩)]
      · rw [if_neg hm, if_neg (fun z => by
          obtain ⟨y, hy, e⟩ := List.mem_map.mp z
          exact hm (keysI_inj _ _ e ▸ hy)), List.map_append] <;> rfl
  · rw [List.length_map, hl, List.take_length] at h
    rw [h]
    exact k D hD
end
theorem w_ckw {σ : L2.St} {H : Hp} {Q : VK} {r : List V → List V → Hp → VK → Prop} {t tk : TA} (q : t σ H fun vs H1 => tk σ H1 fun zs H2 => r vs zs H2 Q) : tCKw r t tk σ H Q := q
theorem set_keys (ns : List Int) : (setDict (keysI ns)).map (fun kv : L2.Key × V => kV kv.1) = ns.map V.int := by
  unfold setDict keysI
  rw [List.map_map, List.map_map]
  rfl
/-! ### sets -/
theorem set_step (vs : List Int) (c : Int) : (fun j => decide (j ∈ vs) || decide (j = c)) = fun j => decide (j ∈ vs ++ [c]) := by
  funext j
  by_cases h1 : j ∈ vs <;> by_cases h2 : j = c <;> simp [h1, h2]
theorem set_len (vs : List Int) (c : Int) : (if decide (c ∈ vs) = true then (dd vs).length else (dd vs).length + 1) = (dd (vs ++ [c])).length := by
  rw [dd_snoc]
  unfold dstep
  by_cases h : c ∈ vs
  · rw [decide_eq_true h, if_pos rfl, if_pos (mem_dd.mpr h)]
  · rw [decide_eq_false h, if_neg Bool.false_ne_true, if_neg (fun z => h (mem_dd.mp z)), List.length_append] <;> rfl
end Ky

namespace Ky
open PySem PySem.Spec PyProof.Rows L2
/-! ### the law's draws, the cells' own place told (so that a fresh list may change between draws) -/
def DrwC (d c : Addr) (H : Hp) : Prop := ∃ (ns : List Int) (a u z : Int), c ≠ d ∧ H d = some (.lst [.ref c, .int a, .int u, .int z]) ∧ H c = some (.lst (ns.map V.int)) ∧ -1 ≤ a
structure KeptC (d c : Addr) (H H' : Hp) : Prop where
  keep : ∀ b o, b ≠ d → NoTab o → H b = some o → H' b = some o
  drw : DrwC d c H → DrwC d c H'
  tab : ∀ P, GxR.TabG H P → GxR.TabG H' P
  free : ∀ b, H' b = none → H b = none
theorem DrwC.old {d c : Addr} {H : Hp} (h : DrwC d c H) {p : Addr} (hp : H p = none) : p ≠ d ∧ p ≠ c := by
  obtain ⟨ns, a, u, z, n, h1, h2, _⟩ := h
  refine ⟨fun e => ?_, fun e => ?_⟩
  · rw [e, h1] at hp
    cases hp
  · rw [e, h2] at hp
    cases hp
theorem KeptC.refl {d c : Addr} (H : Hp) : KeptC d c H H := ⟨fun _ _ _ _ h => h, fun h => h, fun _ h => h, fun _ h => h⟩
theorem KeptC.trans {d c : Addr} {H H1 H2 : Hp} (a : KeptC d c H H1) (b : KeptC d c H1 H2) : KeptC d c H H2 :=
  ⟨fun x o n m h => b.keep x o n m (a.keep x o n m h), fun h => b.drw (a.drw h), fun P h => b.tab P (a.tab P h), fun x h => a.free x (b.free x h)⟩
theorem Kept.toC {d c : Addr} {H H' : Hp} (a : Kept H H') : KeptC d c H H' := ⟨fun b o _ n h => a.keep b o n h, fun h => by
  obtain ⟨ns, i, u, z, n, h1, h2, h3⟩ := h
  exact ⟨ns, i, u, z, n, a.keep _ _ noTab_lst h1, a.keep _ _ noTab_lst h2, h3⟩, a.tab, a.free⟩
theorem KeptC.mut {d c : Addr} {H H' : Hp} {p : Addr} {o : HO} (e : KeptC d c H H') (h : H p = none) : KeptC d c H (upd H' p o) := ⟨fun a u m n ha => by
  rw [upd_ne (ne_of_none ha h)]
  exact e.keep a u m n ha, fun hd => by
  obtain ⟨n1, n2⟩ := hd.old h
  obtain ⟨ns, i, u, z, n, h1, h2, h3⟩ := e.drw hd
  exact ⟨ns, i, u, z, n, by rw [upd_ne (Ne.symm n1)]; exact h1, by rw [upd_ne (Ne.symm n2)]; exact h2, h3⟩, fun P hP => by
  obtain ⟨ps, h1, h2⟩ := hP
  have nP := ne_of_none h1 h
  obtain ⟨qs, g1, g2⟩ := e.tab P ⟨ps, h1, h2⟩
  exact ⟨qs, by rw [upd_ne nP]; exact g1, g2⟩, fun b hb => e.free b (upd_free hb).1⟩
theorem KeptC.tup {d c : Addr} {H H' : Hp} {p : Addr} {xs : List V} (e : KeptC d c H H') (hd : DrwC d c H) (h : H p = some (.tup xs)) : H' p = some (.tup xs) := e.keep _ _ (fun z => by
  obtain ⟨ns, a, u, z', n, h', _⟩ := hd
  rw [z, h'] at h
  cases h) noTab_tup h
theorem KeptC.lst {d c : Addr} {H H' : Hp} {p : Addr} {xs : List V} (e : KeptC d c H H') (hd : p ≠ d) (h : H p = some (.lst xs)) : H' p = some (.lst xs) := e.keep _ _ hd noTab_lst h
theorem TakeSt.keptC {H H' : Hp} {c d : Addr} {ns : List Int} {xs : List V} (h : TakeSt H c d H') (hd : H d = some (.lst xs)) (hc : H c = some (.lst (ns.map V.int))) (ne : c ≠ d) : KeptC d c H H' := by
  obtain ⟨h1, a, u, z, h2, h3⟩ := h
  refine ⟨fun b o hb _ q => by rw [h1 b hb]; exact q, fun _ => ⟨ns, a, u, z, ne, h2, by rw [h1 c ne]; exact hc, h3⟩, fun P hP => ?_, fun b q => ?_⟩
  · obtain ⟨ps, p1, p2⟩ := hP
    have : P ≠ d := fun e => by
      rw [e, hd] at p1
      cases p1
    exact ⟨ps, by rw [h1 P this]; exact p1, p2⟩
  · by_cases e : b = d
    · rw [e, h2] at q
      cases q
    · rw [h1 b e] at q
      exact q
def spTakeC : Sp := fun vs H Q _ => ∃ (d c : Addr) (m : Int), vs = [.ref d, .int m] ∧ 0 < m ∧ m < 2 ^ 62 ∧ DrwC d c H ∧ ∀ (r : Int) H', 0 ≤ r → r < m → KeptC d c H H' → Q (.int r) H'
def spDrawC (K : PySem.W.Frag) : Sp := fun vs H Q _ => ∃ (a : Addr) (ns : List Int), vs = [.ref a] ∧ SqL K H a (ns.map V.int) ∧ ns.length ≤ 63 ∧ ∀ d c H', H d = none → Kept H H' → DrwC d c H' → Q (.ref d) H'
/-! ### is not, of two truths -/
def rNB : R2 := fun x y H Q => ∃ a b : Bool, x = .bl a ∧ y = .bl b ∧ Q (.bl (!decide (a = b))) H
section
variable {X : Cx}
def rLenK (K : PySem.W.Frag) : List V → Hp → VK → Prop := fun xs H Q => ∃ p ys, xs = [.ref p] ∧ (SqL K H p ys ∨ SqT K H p ys) ∧ Q (.int ys.length) H
theorem call_lenK {K : PySem.W.Frag} (e : X.K = K) : CallR X (.builtin "len") (rLenK K) := by
  subst e
  exact call_len_seq
theorem op_notB : OpR X (compareOp .IsNot) rNB := by
  intro pins s σ H x y v u Q I rx ry h
  obtain ⟨a, b, rfl, rfl, q⟩ := h
  cases (show v = Value.bool a from rx)
  cases (show u = Value.bool b from ry)
  exact wpAny_isNot_plain rfl (fin_bl I q (by cases a <;> cases b <;> rfl))
end
end Ky

namespace Ky
open PySem PySem.Spec PyProof.Rows L2
/-! ### loops and comprehensions, one step each; what is told of the walk stands in one word -/
def FrJ (g : TG) (tb : TS) (D : Ends) (σ : L2.St) (J : It) (H1 : Hp) : Prop := ∃ W : Nat → Nat → L2.St → Hp → Prop, (∃ m, W 0 m σ H1) ∧ ∀ i m σ H, W i m σ H →
  (J.stop i H ∧ D.nx σ H) ∨ (J.go i H ∧ ∃ N : L2.St → Hp → Prop, (∀ σ' H', N σ' H' → ∃ m', m' < m ∧ W (i + 1) m' σ' H') ∧ ∀ x H', J.yld i H x H' → g x σ H' fun σ2 H2 => tb { D with nx := N, ct := N, bk := D.nx } σ2 H2)
def Fr1 (g : TG) (tb : TS) (D : Ends) (σ : L2.St) (vs : List V) (H1 : Hp) : Prop := ∃ j : Int, vs = [.int j] ∧ -(2 ^ 62) ≤ j ∧ j < 2 ^ 62 ∧ FrJ g tb D σ (Itr 0 j.toNat) H1
def Fr2 (g : TG) (tb : TS) (D : Ends) (σ : L2.St) (vs : List V) (H1 : Hp) : Prop := ∃ i j : Int, vs = [.int i, .int j] ∧ (-(2 ^ 62) ≤ i ∧ i < 2 ^ 62 ∧ -(2 ^ 62) ≤ j ∧ j < 2 ^ 62) ∧ FrJ g tb D σ (Itr i (j - i).toNat) H1
def FrL (K : PySem.W.Frag) (g : TG) (tb : TS) (D : Ends) (σ : L2.St) (x : V) (H1 : Hp) : Prop := ∃ a, x = .ref a ∧ (∃ xs, SqL K H1 a xs) ∧ FrJ g tb D σ (Itl K a) H1
def FrT (K : PySem.W.Frag) (g : TG) (tb : TS) (D : Ends) (σ : L2.St) (x : V) (H1 : Hp) : Prop := ∃ a, x = .ref a ∧ (∃ xs, SqT K H1 a xs) ∧ FrJ g tb D σ (Itt K a) H1
def LcJ (g : TG) (tt : TT) (te : TE) (vs : List Nat) (σ : L2.St) (Q : VK) (J : It) (H1 : Hp) : Prop := ∀ D, H1 D = none → ∃ W : Nat → Nat → Hp → Prop, (∃ m, W 0 m (upd H1 D (.lst []))) ∧ ∀ i m H, W i m H →
  (J.stop i H ∧ Q (.ref D) H) ∨ (J.go i H ∧ ∃ Nx : Hp → Prop, (∀ H', Nx H' → ∃ m', m' < m ∧ W (i + 1) m' H') ∧ ∀ x H', J.yld i H x H' → g x (wipe σ vs) H' fun σ2 H2 => wipe σ2 vs = wipe σ vs ∧ tt σ2 H2 fun b H3 =>
    if b = true then te σ2 H3 fun y H4 => ∃ acc, H4 D = some (.lst acc) ∧ acc.length < sizeLine ∧ Nx (upd H4 D (.lst (acc ++ [y]))) else Nx H3)
def Lc1 (g : TG) (tt : TT) (te : TE) (vs : List Nat) (σ : L2.St) (Q : VK) (ws : List V) (H1 : Hp) : Prop := ∃ j : Int, ws = [.int j] ∧ -(2 ^ 62) ≤ j ∧ j < 2 ^ 62 ∧ LcJ g tt te vs σ Q (Itr 0 j.toNat) H1
def LcL (K : PySem.W.Frag) (g : TG) (tt : TT) (te : TE) (vs : List Nat) (σ : L2.St) (Q : VK) (x : V) (H1 : Hp) : Prop := ∃ a, x = .ref a ∧ (∃ xs, SqL K H1 a xs) ∧ LcJ g tt te vs σ Q (Itl K a) H1
def LcT (K : PySem.W.Frag) (g : TG) (tt : TT) (te : TE) (vs : List Nat) (σ : L2.St) (Q : VK) (x : V) (H1 : Hp) : Prop := ∃ a, x = .ref a ∧ (∃ xs, SqT K H1 a xs) ∧ LcJ g tt te vs σ Q (Itt K a) H1
section
variable {K : PySem.W.Frag} {σ : L2.St} {H H1 : Hp} {Q : VK} {D : Ends} {g : TG} {tb : TS} {ta : TA} {te te2 : TE} {tt : TT} {vs : List Nat} {J : It}
theorem w_for1 (q : ta σ H (Fr1 g tb D σ)) : tFor (iRng1 ta) g tb D σ H := q
theorem w_for2 (q : ta σ H (Fr2 g tb D σ)) : tFor (iRng2 ta) g tb D σ H := q
theorem w_forL (q : te σ H (FrL K g tb D σ)) : tFor (iList K te) g tb D σ H := q
theorem w_forT (q : te σ H (FrT K g tb D σ)) : tFor (iTup K te) g tb D σ H := q
theorem w_lc1 (q : ta σ H (Lc1 g tt te vs σ Q)) : tLc (iRng1 ta) g tt te vs σ H Q := q
theorem w_lcL (q : te2 σ H (LcL K g tt te vs σ Q)) : tLc (iList K te2) g tt te vs σ H Q := q
theorem w_lcT (q : te2 σ H (LcT K g tt te vs σ Q)) : tLc (iTup K te2) g tt te vs σ H Q := q
theorem FrJ.range {lo : Int} {n : Nat} (Pv : Nat → L2.St → Hp → Prop) (h0 : Pv 0 σ H) (hs : ∀ i σ H, i < n → Pv i σ H → g (.int (lo + i)) σ H fun σ2 H2 => tb { D with nx := Pv (i + 1), ct := Pv (i + 1), bk := D.nx } σ2 H2) (hd : ∀ σ H, Pv n σ H → D.nx σ H) : FrJ g tb D σ (Itr lo n) H := for_range Pv h0 hs hd
theorem Fr1.mk {m : Nat} (hm : (m : Int) < 2 ^ 62) (Pv : Nat → L2.St → Hp → Prop) (h0 : Pv 0 σ H) (hs : ∀ i σ H, i < m → Pv i σ H → g (.int (i : Int)) σ H fun σ2 H2 => tb { D with nx := Pv (i + 1), ct := Pv (i + 1), bk := D.nx } σ2 H2) (hd : ∀ σ H, Pv m σ H → D.nx σ H) : Fr1 g tb D σ [.int (m : Int)] H := by
  refine ⟨_, rfl, by omega, hm, ?_⟩
  rw [Int.toNat_natCast]
  refine for_range Pv h0 (fun i σ H hi p => ?_) hd
  rw [Int.zero_add]
  exact hs i σ H hi p
theorem FrL.mk {a : Addr} {xs : List V} (Pv : Nat → L2.St → Hp → Prop) (h0 : Pv 0 σ H) (hl : ∀ i σ H, i ≤ xs.length → Pv i σ H → SqL K H a xs) (hs : ∀ i x σ H, xs[i]? = some x → Pv i σ H → g x σ H fun σ2 H2 => tb { D with nx := Pv (i + 1), ct := Pv (i + 1), bk := D.nx } σ2 H2) (hd : ∀ σ H, Pv xs.length σ H → D.nx σ H) : FrL K g tb D σ (.ref a) H :=
  ⟨a, rfl, ⟨xs, hl 0 σ H (Nat.zero_le _) h0⟩, for_list Pv h0 hl hs hd⟩
theorem FrT.mk {a : Addr} {xs : List V} (Pv : Nat → L2.St → Hp → Prop) (h0 : Pv 0 σ H) (hl : ∀ i σ H, i ≤ xs.length → Pv i σ H → SqT K H a xs) (hs : ∀ i x σ H, xs[i]? = some x → Pv i σ H → g x σ H fun σ2 H2 => tb { D with nx := Pv (i + 1), ct := Pv (i + 1), bk := D.nx } σ2 H2) (hd : ∀ σ H, Pv xs.length σ H → D.nx σ H) : FrT K g tb D σ (.ref a) H :=
  ⟨a, rfl, ⟨xs, hl 0 σ H (Nat.zero_le _) h0⟩, for_tup Pv h0 hl hs hd⟩
/-- a comprehension's walk: what it appends is told, and the heap only grows -/
theorem LcJ.run {n : Nat} {xv : Nat → V} {j : Nat} {H0 : Hp} {Q : VK} (p : Nat → Bool) (f : Nat → V) (hn : n ≤ sizeLine) (hgo : ∀ i H, i < n → Kept H0 H → J.go i H) (hy : ∀ i H x H', i < n → Kept H0 H → J.yld i H x H' → H' = H ∧ x = xv i) (hstop : ∀ H, Kept H0 H → J.stop n H)
    (step : ∀ i H (k : Hp → Prop) (k2 : VK), i < n → Kept H0 H → (∀ H4, Kept H H4 → p i = true → k2 (f i) H4) → (∀ H4, Kept H H4 → p i = false → k H4) → tt ((wipe σ [j]).set j (some (xv i))) H fun b H3 => if b = true then te ((wipe σ [j]).set j (some (xv i))) H3 k2 else k H3)
    (fin : ∀ D H, H0 D = none → Kept H0 H → H D = some (.lst (((List.range n).filter p).map f)) → Q (.ref D) H) : LcJ (gName j) tt te [j] σ Q J H0 := by
  intro D hD
  refine c_walk (xv := xv) (fun i H => Kept H0 H ∧ H D = some (.lst (((List.range i).filter p).map f))) ⟨Kept.new hD, upd_same⟩ (fun i H h s => hgo i H h s.1) (fun i H x H' h s => hy i H x H' h s.1) (fun H s => hstop H s.1) (fun i H hi s => ?_) fun H s => fin D H hD s.1 s.2
  refine ⟨wipe_one, ?_⟩
  refine step i H _ _ hi s.1 (fun H4 k4 hp => ?_) fun H4 k4 hp => ?_
  · refine ⟨_, k4.lst s.2, ?_, Kept.mut (s.1.trans k4) hD, ?_⟩
    · rw [List.length_map]
      have h1 := List.length_filter_le p (List.range i)
      rw [List.length_range] at h1
      omega
    · rw [List.range_succ, List.filter_append, List.map_append, List.filter_cons_of_pos hp]
      exact upd_same
  · refine ⟨s.1.trans k4, ?_⟩
    rw [List.range_succ, List.filter_append, List.filter_cons_of_neg (by rw [hp]; exact Bool.false_ne_true), List.filter_nil, List.append_nil]
    exact k4.lst s.2
theorem Lc1.run {n : Nat} {j : Nat} {H0 : Hp} {Q : VK} (p : Nat → Bool) (f : Nat → V) (hn : n ≤ sizeLine)
    (step : ∀ i H (k : Hp → Prop) (k2 : VK), i < n → Kept H0 H → (∀ H4, Kept H H4 → p i = true → k2 (f i) H4) → (∀ H4, Kept H H4 → p i = false → k H4) → tt ((wipe σ [j]).set j (some (.int (i : Int)))) H fun b H3 => if b = true then te ((wipe σ [j]).set j (some (.int (i : Int)))) H3 k2 else k H3)
    (fin : ∀ D H, H0 D = none → Kept H0 H → H D = some (.lst (((List.range n).filter p).map f)) → Q (.ref D) H) : Lc1 (gName j) tt te [j] σ Q [.int (n : Int)] H0 := by
  have hz : sizeLine < 2 ^ 62 := by decide
  refine ⟨_, rfl, by omega, by omega, ?_⟩
  rw [Int.toNat_natCast]
  exact LcJ.run (xv := fun i => .int (i : Int)) p f hn (fun i H h _ => h) (fun i H x H' _ _ h => by
    obtain ⟨h1, h2⟩ := h
    rw [Int.zero_add] at h2
    exact ⟨h1, h2⟩) (fun H _ => Nat.le_refl n) step fin
theorem LcL.run {a : Addr} {xs : List V} {j : Nat} {H0 : Hp} {Q : VK} (p : Nat → Bool) (f : Nat → V) (hn : xs.length ≤ sizeLine) (ha : H0 a = some (.lst xs))
    (step : ∀ i x H (k : Hp → Prop) (k2 : VK), xs[i]? = some x → Kept H0 H → (∀ H4, Kept H H4 → p i = true → k2 (f i) H4) → (∀ H4, Kept H H4 → p i = false → k H4) → tt ((wipe σ [j]).set j (some x)) H fun b H3 => if b = true then te ((wipe σ [j]).set j (some x)) H3 k2 else k H3)
    (fin : ∀ D H, H0 D = none → Kept H0 H → H D = some (.lst (((List.range xs.length).filter p).map f)) → Q (.ref D) H) : LcL K (gName j) tt te [j] σ Q (.ref a) H0 := by
  refine ⟨a, rfl, ⟨_, SqL.of ha⟩, LcJ.run (xv := fun i => xs.getD i .non) p f hn (fun i H h kp => ⟨xs, xs[i], SqL.of (kp.lst ha), List.getElem?_eq_getElem h⟩) (fun i H x H' h kp q => ?_) (fun H kp => ⟨xs, SqL.of (kp.lst ha), Nat.le_refl _⟩) (fun i H k k2 h kp => step i _ H k k2 (by rw [List.getD_eq_getElem?_getD, List.getElem?_eq_getElem h] <;> rfl) kp) fin⟩
  obtain ⟨e, q⟩ := q
  subst e
  refine ⟨rfl, ?_⟩
  rw [List.getD_eq_getElem?_getD, q xs (SqL.of (kp.lst ha))] <;> rfl
theorem LcT.run {a : Addr} {xs : List V} {j : Nat} {H0 : Hp} {Q : VK} (p : Nat → Bool) (f : Nat → V) (hn : xs.length ≤ sizeLine) (ha : H0 a = some (.tup xs))
    (step : ∀ i x H (k : Hp → Prop) (k2 : VK), xs[i]? = some x → Kept H0 H → (∀ H4, Kept H H4 → p i = true → k2 (f i) H4) → (∀ H4, Kept H H4 → p i = false → k H4) → tt ((wipe σ [j]).set j (some x)) H fun b H3 => if b = true then te ((wipe σ [j]).set j (some x)) H3 k2 else k H3)
    (fin : ∀ D H, H0 D = none → Kept H0 H → H D = some (.lst (((List.range xs.length).filter p).map f)) → Q (.ref D) H) : LcT K (gName j) tt te [j] σ Q (.ref a) H0 := by
  refine ⟨a, rfl, ⟨_, SqT.of ha⟩, LcJ.run (xv := fun i => xs.getD i .non) p f hn (fun i H h kp => ⟨xs, xs[i], SqT.of (kp.tup ha), List.getElem?_eq_getElem h⟩) (fun i H x H' h kp q => ?_) (fun H kp => ⟨xs, SqT.of (kp.tup ha), Nat.le_refl _⟩) (fun i H k k2 h kp => step i _ H k k2 (by rw [List.getD_eq_getElem?_getD, List.getElem?_eq_getElem h] <;> rfl) kp) fin⟩
  obtain ⟨e, q⟩ := q
  subst e
  refine ⟨rfl, ?_⟩
  rw [List.getD_eq_getElem?_getD, q xs (SqT.of (kp.tup ha))] <;> rfl
end
/-! ### what the walks leave, as lists -/
theorem range_filter {α β : Type} (d : α) (p : α → Bool) (f : α → β) : ∀ xs : List α, ((List.range xs.length).filter fun i => p (xs.getD i d)).map (fun i => f (xs.getD i d)) = (xs.filter p).map f := by
  intro xs
  have h : ∀ m, m ≤ xs.length → ((List.range m).filter fun i => p (xs.getD i d)).map (fun i => f (xs.getD i d)) = ((xs.take m).filter p).map f := by
    intro m
    induction m with
    | zero => intro _; rfl
    | succ m ih =>
      intro hm
      have hx : xs[m]? = some xs[m] := List.getElem?_eq_getElem hm
      rw [List.range_succ, List.filter_append, List.map_append, ih (by omega), List.take_add_one, hx, List.filter_append, List.map_append]
      congr 1
      have e : xs.getD m d = xs[m] := by rw [List.getD_eq_getElem?_getD, hx] <;> rfl
      show (List.filter _ [m]).map _ = (List.filter p [xs[m]]).map f
      cases hp : p xs[m] with
      | true => rw [List.filter_cons_of_pos (by rw [e]; exact hp), List.filter_cons_of_pos hp, List.filter_nil, List.filter_nil, List.map_cons, List.map_cons, e] <;> rfl
      | false => rw [List.filter_cons_of_neg (by rw [e, hp]; exact Bool.false_ne_true), List.filter_cons_of_neg (by rw [hp]; exact Bool.false_ne_true)] <;> rfl
  rw [h _ (Nat.le_refl _), List.take_length]
theorem range_map {α β : Type} (d : α) (f : α → β) (xs : List α) : (List.range xs.length).map (fun i => f (xs.getD i d)) = xs.map f := by
  have h := range_filter d (fun _ => true) f xs
  rw [List.filter_eq_self.mpr (fun _ _ => rfl), List.filter_eq_self.mpr (fun _ _ => rfl)] at h
  exact h
section
variable {K : PySem.W.Frag} {σ : L2.St} {Q : VK} {te : TE} {tt : TT} {a : Addr} {ns : List Int} {j : Nat} {H0 : Hp}
/-- a comprehension over numbers -/
theorem LcL.ints (p : Int → Bool) (f : Int → V) (hn : ns.length ≤ sizeLine) (ha : H0 a = some (.lst (ns.map V.int)))
    (step : ∀ n H (k : Hp → Prop) (k2 : VK), n ∈ ns → Kept H0 H → (∀ H4, Kept H H4 → p n = true → k2 (f n) H4) → (∀ H4, Kept H H4 → p n = false → k H4) → tt ((wipe σ [j]).set j (some (.int n))) H fun b H3 => if b = true then te ((wipe σ [j]).set j (some (.int n))) H3 k2 else k H3)
    (fin : ∀ D H, H0 D = none → Kept H0 H → H D = some (.lst ((ns.filter p).map f)) → Q (.ref D) H) : LcL K (gName j) tt te [j] σ Q (.ref a) H0 := by
  refine LcL.run (fun i => p (ns.getD i 0)) (fun i => f (ns.getD i 0)) (by rw [List.length_map]; exact hn) ha (fun i x H k k2 hx kp h1 h2 => ?_) fun D H hD kp h => fin D H hD kp ?_
  · obtain ⟨n, rfl, hn⟩ := map_int hx
    have e : ns.getD i 0 = n := by rw [List.getD_eq_getElem?_getD, hn] <;> rfl
    refine step n H k k2 (List.mem_of_getElem? hn) kp (fun H4 k4 hp => ?_) fun H4 k4 hp => ?_
    · have q := h1 H4 k4 (by rw [e]; exact hp)
      rw [e] at q
      exact q
    · exact h2 H4 k4 (by rw [e]; exact hp)
  · rw [h, List.length_map]
    exact congrArg (fun z => some (HO.lst z)) (range_filter 0 p f ns)
theorem LcT.ints (p : Int → Bool) (f : Int → V) (hn : ns.length ≤ sizeLine) (ha : H0 a = some (.tup (ns.map V.int)))
    (step : ∀ n H (k : Hp → Prop) (k2 : VK), n ∈ ns → Kept H0 H → (∀ H4, Kept H H4 → p n = true → k2 (f n) H4) → (∀ H4, Kept H H4 → p n = false → k H4) → tt ((wipe σ [j]).set j (some (.int n))) H fun b H3 => if b = true then te ((wipe σ [j]).set j (some (.int n))) H3 k2 else k H3)
    (fin : ∀ D H, H0 D = none → Kept H0 H → H D = some (.lst ((ns.filter p).map f)) → Q (.ref D) H) : LcT K (gName j) tt te [j] σ Q (.ref a) H0 := by
  refine LcT.run (fun i => p (ns.getD i 0)) (fun i => f (ns.getD i 0)) (by rw [List.length_map]; exact hn) ha (fun i x H k k2 hx kp h1 h2 => ?_) fun D H hD kp h => fin D H hD kp ?_
  · obtain ⟨n, rfl, hn⟩ := map_int hx
    have e : ns.getD i 0 = n := by rw [List.getD_eq_getElem?_getD, hn] <;> rfl
    refine step n H k k2 (List.mem_of_getElem? hn) kp (fun H4 k4 hp => ?_) fun H4 k4 hp => ?_
    · have q := h1 H4 k4 (by rw [e]; exact hp)
      rw [e] at q
      exact q
    · exact h2 H4 k4 (by rw [e]; exact hp)
  · rw [h, List.length_map]
    exact congrArg (fun z => some (HO.lst z)) (range_filter 0 p f ns)
end
section
variable {K : PySem.W.Frag} {σ : L2.St} {te : TE} {J : It}
theorem tupUpd {H : Hp} {D q : Addr} {xs ys : List V} {o : HO} (hD : H D = some (.lst xs)) (h : H q = some (.tup ys)) : upd H D o q = some (.tup ys) := by
  rw [upd_ne (fun z => by
    rw [z, hD] at h
    cases h)]
  exact h
/-- a comprehension whose elements are tuples of told contents -/
theorem LcJ.tups {n : Nat} {xv : Nat → V} {j : Nat} {H0 : Hp} {Q : VK} (T : Nat → List V) (hn : n ≤ sizeLine) (hgo : ∀ i H, i < n → Kept H0 H → J.go i H) (hy : ∀ i H x H', i < n → Kept H0 H → J.yld i H x H' → H' = H ∧ x = xv i) (hstop : ∀ H, Kept H0 H → J.stop n H)
    (step : ∀ i H (k2 : VK), i < n → Kept H0 H → (∀ H4 q, Kept H H4 → H4 q = some (.tup (T i)) → k2 (.ref q) H4) → te ((wipe σ [j]).set j (some (xv i))) H k2)
    (fin : ∀ D H (qs : List Addr), H0 D = none → Kept H0 H → H D = some (.lst (qs.map V.ref)) → qs.length = n → (∀ i q, qs[i]? = some q → H q = some (.tup (T i))) → Q (.ref D) H) : LcJ (gName j) tYes te [j] σ Q J H0 := by
  intro D hD
  refine c_walk (xv := xv) (fun i H => Kept H0 H ∧ ∃ qs : List Addr, H D = some (.lst (qs.map V.ref)) ∧ qs.length = i ∧ ∀ i q, qs[i]? = some q → H q = some (.tup (T i))) ⟨Kept.new hD, [], upd_same, rfl, fun i q h => by simp at h⟩ (fun i H h s => hgo i H h s.1) (fun i H x H' h s => hy i H x H' h s.1) (fun H s => hstop H s.1) (fun i H hi s => ?_) fun H s => ?_
  · obtain ⟨kp, qs, h1, h2, h3⟩ := s
    refine ⟨wipe_one, w_yes (if_t rfl ?_)⟩
    refine step i H _ hi kp fun H4 q k4 hq => ⟨_, k4.lst h1, ?_, Kept.mut (kp.trans k4) hD, qs ++ [q], ?_, ?_, fun m r hr => ?_⟩
    · rw [List.length_map, h2]
      omega
    · rw [List.map_append]
      exact upd_same
    · rw [List.length_append, h2] <;> rfl
    · by_cases hm : m < qs.length
      · rw [List.getElem?_append_left hm] at hr
        exact tupUpd (k4.lst h1) (k4.tup (h3 m r hr))
      · rw [List.getElem?_append_right (by omega)] at hr
        cases z : m - qs.length with
        | zero =>
          rw [z] at hr
          cases hr
          have e : m = i := by omega
          rw [e]
          exact tupUpd (k4.lst h1) hq
        | succ m =>
          rw [z] at hr
          simp at hr
  · obtain ⟨kp, qs, h1, h2, h3⟩ := s
    exact fin D H qs hD kp h1 h2 h3
theorem LcL.tups {a : Addr} {xs : List V} {j : Nat} {H0 : Hp} {Q : VK} (T : Nat → List V) (hn : xs.length ≤ sizeLine) (ha : H0 a = some (.lst xs))
    (step : ∀ i x H (k2 : VK), xs[i]? = some x → Kept H0 H → (∀ H4 q, Kept H H4 → H4 q = some (.tup (T i)) → k2 (.ref q) H4) → te ((wipe σ [j]).set j (some x)) H k2)
    (fin : ∀ D H (qs : List Addr), H0 D = none → Kept H0 H → H D = some (.lst (qs.map V.ref)) → qs.length = xs.length → (∀ i q, qs[i]? = some q → H q = some (.tup (T i))) → Q (.ref D) H) : LcL K (gName j) tYes te [j] σ Q (.ref a) H0 := by
  refine ⟨a, rfl, ⟨_, SqL.of ha⟩, LcJ.tups (xv := fun i => xs.getD i .non) T hn (fun i H h kp => ⟨xs, xs[i], SqL.of (kp.lst ha), List.getElem?_eq_getElem h⟩) (fun i H x H' h kp q => ?_) (fun H kp => ⟨xs, SqL.of (kp.lst ha), Nat.le_refl _⟩) (fun i H k2 h kp => step i _ H k2 (by rw [List.getD_eq_getElem?_getD, List.getElem?_eq_getElem h] <;> rfl) kp) fin⟩
  obtain ⟨e, q⟩ := q
  subst e
  refine ⟨rfl, ?_⟩
  rw [List.getD_eq_getElem?_getD, q xs (SqL.of (kp.lst ha))] <;> rfl
theorem LcT.tups {a : Addr} {xs : List V} {j : Nat} {H0 : Hp} {Q : VK} (T : Nat → List V) (hn : xs.length ≤ sizeLine) (ha : H0 a = some (.tup xs))
    (step : ∀ i x H (k2 : VK), xs[i]? = some x → Kept H0 H → (∀ H4 q, Kept H H4 → H4 q = some (.tup (T i)) → k2 (.ref q) H4) → te ((wipe σ [j]).set j (some x)) H k2)
    (fin : ∀ D H (qs : List Addr), H0 D = none → Kept H0 H → H D = some (.lst (qs.map V.ref)) → qs.length = xs.length → (∀ i q, qs[i]? = some q → H q = some (.tup (T i))) → Q (.ref D) H) : LcT K (gName j) tYes te [j] σ Q (.ref a) H0 := by
  refine ⟨a, rfl, ⟨_, SqT.of ha⟩, LcJ.tups (xv := fun i => xs.getD i .non) T hn (fun i H h kp => ⟨xs, xs[i], SqT.of (kp.tup ha), List.getElem?_eq_getElem h⟩) (fun i H x H' h kp q => ?_) (fun H kp => ⟨xs, SqT.of (kp.tup ha), Nat.le_refl _⟩) (fun i H k2 h kp => step i _ H k2 (by rw [List.getD_eq_getElem?_getD, List.getElem?_eq_getElem h] <;> rfl) kp) fin⟩
  obtain ⟨e, q⟩ := q
  subst e
  refine ⟨rfl, ?_⟩
  rw [List.getD_eq_getElem?_getD, q xs (SqT.of (kp.tup ha))] <;> rfl
end
theorem pg_tupK {X : Cx} {K : PySem.W.Frag} {pos : Pos} (hK : X.K = K) {es : List Expr} {k : Nat} {t : TGs} {n : Nat} (hc : X.calm = true) (h : PGs X es t)
    (hn : (assignEach es X.env).length = n := by rfl) (hst : (assignEach es X.env).findIdx? (·.1) = none := by rfl) : PG X (.Tuple es k pos) (gTup K n t) := by
  subst hK
  exact pg_tup hc h hn hst
end Ky

namespace Ky
open PySem PySem.Spec PyProof.Rows L2
/-! ### an index of a list or a tuple; >= of data; the whole of a tuple's slice; isinstance, the frame told -/
def rIxE (K : PySem.W.Frag) : R2 := fun x y H Q => rIxL K x y H Q ∨ rIxT K x y H Q
def rGeD (K : PySem.W.Frag) : R2 := fun x y H Q => ∃ d e, Dp K H x d ∧ Dp K H y e ∧ PySem.W.alike d e = true ∧ d ≠ .none ∧ d.depth ≤ 60 ∧ Q (.bl (!PySem.W.dataLt d e)) H
section
variable {X : Cx} {K : PySem.W.Frag}
theorem ix_either : IxR X (rIxE X.K) := by
  intro value slice pins s σ H x y v u Q I rx ry h hs
  rcases h with h | h
  · exact ix_list value slice pins s σ H x y v u Q I rx ry h hs
  · exact ix_tup value slice pins s σ H x y v u Q I rx ry h hs
theorem ix_eitherK (hK : X.K = K) : IxR X (rIxE K) := by subst hK; exact ix_either
theorem op_geD (hu : X.A.units + 64 < cLine) : OpR X (compareOp .GtE) (rGeD X.K) := by
  intro pins s σ H x y v u Q I rx ry h
  obtain ⟨d, e, hd, he, ha, hn, hz, q⟩ := h
  obtain ⟨as, r1⟩ := Dp.reads I d x v hd rx
  obtain ⟨bs, r2⟩ := Dp.reads I e y u he ry
  exact PySem.W.ge_data r1 r2 ha hn (by have := Nat.min_le_left d.depth e.depth; omega) ⟨.bl _, H, I, rfl, q⟩
theorem sl_tupAK (hK : X.K = K) : SlR X (rSlA K) := by subst hK; exact sl_tupA
theorem call_isiK (hK : X.K = K) : CallR X (.builtin "isinstance") (rIsi K) := by subst hK; exact call_isi
end
section
variable {σ : L2.St} {H : Hp} {Q : VK} {K : PySem.W.Frag} {x y : V}
theorem w_isi_bi {b : Bool} (q : Q (.bl true) H) : rIsi K [.bl b, .ty "int"] H Q := ⟨_, _, _, _, true, rfl, .ty _, .base (.bl b), kit_ty (by decide +kernel), q⟩
theorem w_isi_bb {b : Bool} (q : Q (.bl true) H) : rIsi K [.bl b, .ty "bool"] H Q := ⟨_, _, _, _, true, rfl, .ty _, .base (.bl b), kit_ty (by decide +kernel), q⟩
theorem w_isi_bt {b : Bool} (q : Q (.bl false) H) : rIsi K [.bl b, .ty "tuple"] H Q := ⟨_, _, _, _, false, rfl, .ty _, .base (.bl b), kit_ty (by decide +kernel), q⟩
theorem w_isi_si {z : Str} (q : Q (.bl false) H) : rIsi K [.str z, .ty "int"] H Q := ⟨_, _, _, _, false, rfl, .ty _, .base (.str z), kit_ty (by decide +kernel), q⟩
theorem w_isi_nt (q : Q (.bl false) H) : rIsi K [.non, .ty "tuple"] H Q := ⟨_, _, _, _, false, rfl, .ty _, .base .non, kit_ty (by decide +kernel), q⟩
theorem w_isi_ll {a : Addr} {xs : List V} (h : H a = some (.lst xs)) (q : Q (.bl true) H) : rIsi K [.ref a, .ty "list"] H Q := ⟨_, _, _, _, true, rfl, .ty _, .base (.lst h), kit_ty (by decide +kernel), q⟩
end
/-! ### values that a display makes: what is told of them stays true while the heap grows -/
def TupW (xs : List V) : V → Hp → Prop := fun v H => ∃ p, v = .ref p ∧ H p = some (.tup xs)
structure MkE (σ : L2.St) (H0 : Hp) (te : TE) (W : V → Hp → Prop) : Prop where
  up : ∀ v H H', Kept H H' → W v H → W v H'
  run : ∀ H Q, Kept H0 H → (∀ v H', Kept H H' → W v H' → Q v H') → te σ H Q
structure MkA (σ : L2.St) (H0 : Hp) (ta : TA) (W : List V → Hp → Prop) : Prop where
  up : ∀ v H H', Kept H H' → W v H → W v H'
  run : ∀ H Q, Kept H0 H → (∀ v H', Kept H H' → W v H' → Q v H') → ta σ H Q
section
variable {σ : L2.St} {H0 : Hp} {te ta tb : TE} {tq : TA} {K : PySem.W.Frag}
theorem mk_c {v : V} : MkE σ H0 (tC v) (fun x _ => x = v) := ⟨fun _ _ _ _ h => h, fun H Q k0 k => k v H (Kept.refl _) rfl⟩
theorem mk_var {i : Nat} {v : V} (h : σ[i]? = some (some v)) : MkE σ H0 (tVar i) (fun x _ => x = v) := ⟨fun _ _ _ _ h => h, fun H Q k0 k => ⟨v, h, k v H (Kept.refl _) rfl⟩⟩
theorem mk_varT {i : Nat} {a : Addr} {xs : List V} (h : σ[i]? = some (some (.ref a))) (ha : H0 a = some (.tup xs)) : MkE σ H0 (tVar i) (TupW xs) := ⟨fun v H H' k q => by
    obtain ⟨p, e, h⟩ := q
    exact ⟨p, e, k.tup h⟩, fun H Q k0 k => ⟨_, h, k _ H (Kept.refl _) ⟨a, rfl, k0.tup ha⟩⟩⟩
theorem mk_neg {n : Int} {te : TE} (h : MkE σ H0 te (fun x _ => x = .int n)) : MkE σ H0 (tUn (rU fun i => V.int (-i)) te) (fun x _ => x = .int (-n)) := ⟨fun _ _ _ _ h => h, fun H Q k0 k => h.run H _ k0 fun v H' k1 e => ⟨n, e, k _ H' k1 rfl⟩⟩
theorem mk_nil : MkA σ H0 tNil (fun vs _ => vs = []) := ⟨fun _ _ _ _ h => h, fun H Q k0 k => k [] H (Kept.refl _) rfl⟩
theorem mk_cons {W : V → Hp → Prop} {Ws : List V → Hp → Prop} (h : MkE σ H0 te W) (hs : MkA σ H0 tq Ws) : MkA σ H0 (tCons te tq) (fun vs H => ∃ v r, vs = v :: r ∧ W v H ∧ Ws r H) :=
  ⟨fun vs H H' k q => by
    obtain ⟨v, r, e, a, b⟩ := q
    exact ⟨v, r, e, h.up v H H' k a, hs.up r H H' k b⟩, fun H Q k0 k => h.run H _ k0 fun v H1 k1 w1 => hs.run H1 _ (k0.trans k1) fun r H2 k2 w2 => k _ H2 (k1.trans k2) ⟨v, r, rfl, h.up v H1 H2 k2 w1, w2⟩⟩
theorem mk_tup {Ws : List V → Hp → Prop} (h : MkA σ H0 tq Ws) (hl : ∀ vs H, Ws vs H → vs.length ≤ 1000) : MkE σ H0 (tTup tq) (fun v H => ∃ p xs, v = .ref p ∧ H p = some (.tup xs) ∧ Ws xs H) :=
  ⟨fun v H H' k q => by
    obtain ⟨p, xs, e, a, b⟩ := q
    exact ⟨p, xs, e, k.tup a, h.up xs H H' k b⟩, fun H Q k0 k => h.run H _ k0 fun vs H1 k1 w => ⟨Nat.le_trans (hl vs H1 w) (by decide), fun p hp => k _ _ (k1.trans (Kept.new hp)) ⟨p, vs, rfl, upd_same, h.up _ _ _ (Kept.new hp) w⟩⟩⟩
theorem MkE.weak {W W' : V → Hp → Prop} (h : MkE σ H0 te W) (hw : ∀ v H, W v H → W' v H) (hu : ∀ v H H', Kept H H' → W' v H → W' v H') : MkE σ H0 te W' := ⟨hu, fun H Q k0 k => h.run H Q k0 fun v H' k1 w => k v H' k1 (hw v H' w)⟩
theorem tupW_up {xs : List V} : ∀ v H H', Kept H H' → TupW xs v H → TupW xs v H' := fun v H H' k h => by
  obtain ⟨p, e, h⟩ := h
  exact ⟨p, e, k.tup h⟩
theorem mk_tupW {xs : List V} {Ws : List V → Hp → Prop} (h : MkA σ H0 tq Ws) (hw : ∀ vs H, Ws vs H → vs = xs) (hl : xs.length ≤ 1000) : MkE σ H0 (tTup tq) (TupW xs) :=
  (mk_tup h fun vs H w => by rw [hw vs H w]; exact hl).weak (fun v H q => by
    obtain ⟨p, ys, e, a, b⟩ := q
    rw [hw ys H b] at a
    exact ⟨p, e, a⟩) tupW_up
/-- a variable that holds a tuple -/
theorem mk_catW {xs ys : List V} (ha : MkE σ H0 ta (TupW xs)) (hb : MkE σ H0 tb (TupW ys)) (hl : xs.length + ys.length ≤ 1000) : MkE σ H0 (tOp (rCatA K) ta tb) (TupW (xs ++ ys)) :=
  ⟨tupW_up, fun H Q k0 k => ha.run H _ k0 fun v H1 k1 w1 => hb.run H1 _ (k0.trans k1) fun u H2 k2 w2 => by
    obtain ⟨a, rfl, h1⟩ := tupW_up v H1 H2 k2 w1
    obtain ⟨b, rfl, h2⟩ := w2
    have hz : 1000 ≤ sizeLine := by decide
    refine ⟨a, b, xs, ys, rfl, rfl, SqT.of h1, SqT.of h2, by omega, fun e => ?_, fun _ e => ?_, fun _ _ p hp => ?_⟩
    · subst e
      exact k _ H2 (k1.trans k2) ⟨b, rfl, h2⟩
    · subst e
      exact k _ H2 (k1.trans k2) ⟨a, rfl, by rw [List.append_nil]; exact h1⟩
    · exact k _ _ ((k1.trans k2).trans (Kept.new hp)) ⟨p, rfl, upd_same⟩⟩
theorem mk_to1 {xs : List V} (ha : MkE σ H0 ta (TupW xs)) : MkE σ H0 (tSl (rSlA K) ta tNoPart (tPart (tC (.int 1)))) (TupW (xs.take 1)) :=
  ⟨tupW_up, fun H Q k0 k => ha.run H _ k0 fun v H1 k1 w1 => by
    obtain ⟨a, rfl, h1⟩ := w1
    refine ⟨1, rfl, a, xs, rfl, SqT.of h1, fun e => ?_, fun e p hp => ?_⟩
    · have e2 := e.2
      rw [show HT.sIx xs.length xs.length (some 1) = min 1 xs.length from HT.sIx_nat _ _ 1] at e2
      refine k _ H1 k1 ⟨a, rfl, ?_⟩
      rw [List.take_of_length_le (by omega)]
      exact h1
    · refine k _ _ (k1.trans (Kept.new hp)) ⟨p, rfl, ?_⟩
      have ec : cutV xs none (some 1) = xs.take 1 := by
        unfold cutV
        rw [HT.sIx_none, show HT.sIx xs.length xs.length (some 1) = min 1 xs.length from HT.sIx_nat _ _ 1, Nat.sub_zero, List.drop_zero]
        by_cases h : 1 ≤ xs.length
        · rw [Nat.min_eq_left h]
        · have e0 : xs = [] := List.length_eq_zero_iff.mp (by omega)
          rw [e0] <;> rfl
      rw [← ec]
      exact upd_same⟩
theorem mk_of1 {xs : List V} (ha : MkE σ H0 ta (TupW xs)) : MkE σ H0 (tSl (rSlA K) ta (tPart (tC (.int 1))) tNoPart) (TupW (xs.drop 1)) :=
  ⟨tupW_up, fun H Q k0 k => ha.run H _ k0 fun v H1 k1 w1 => by
    obtain ⟨a, rfl, h1⟩ := w1
    refine ⟨1, rfl, a, xs, rfl, SqT.of h1, fun e => ?_, fun e p hp => ?_⟩
    · have e2 := e.1
      rw [show HT.sIx xs.length 0 (some 1) = min 1 xs.length from HT.sIx_nat _ _ 1] at e2
      have e0 : xs = [] := List.length_eq_zero_iff.mp (by omega)
      refine k _ H1 k1 ⟨a, rfl, ?_⟩
      rw [e0] at h1 ⊢
      exact h1
    · refine k _ _ (k1.trans (Kept.new hp)) ⟨p, rfl, ?_⟩
      have ec : cutV xs (some 1) none = xs.drop 1 := by
        unfold cutV
        rw [HT.sIx_none, show HT.sIx xs.length 0 (some 1) = min 1 xs.length from HT.sIx_nat _ _ 1]
        by_cases h : 1 ≤ xs.length
        · rw [Nat.min_eq_left h]
          exact List.take_of_length_le (by rw [List.length_drop]; exact Nat.le_refl _)
        · have e0 : xs = [] := List.length_eq_zero_iff.mp (by omega)
          rw [e0] <;> rfl
      rw [← ec]
      exact upd_same⟩
end
end Ky


namespace Ky
open PySem PySem.Spec PyProof.Rows L2
local macro_rules | `(tactic| walk_at "rd") => `(tactic| repeat (first
  | with_reducible refine w_seq ?_
  | with_reducible refine w_asg ?_
  | with_reducible refine w_ret ?_
  | with_reducible refine w_drop ?_
  | with_reducible refine w_ifs ?_
  | ((with_reducible refine' w_var ?hh ?_); (case hh => exact rfl))
  | with_reducible refine w_c ?_
  | with_reducible refine w_op ?_
  | with_reducible refine w_un ?_
  | with_reducible refine w_I0 ?_
  | with_reducible refine w_U ?_
  | with_reducible refine w_nil ?_
  | with_reducible refine w_cons ?_
  | with_reducible refine w_call ?_
  | with_reducible refine w_cb ?_
  | with_reducible refine w_test ?_
  | with_reducible refine w_B ?_
  | with_reducible refine w_bl ?_
  | with_reducible refine w_and ?_
  | with_reducible refine w_or ?_
  | with_reducible refine w_not ?_
  | with_reducible refine w_ife ?_
  | with_reducible refine w_gRd ?_
  | with_reducible refine w_andV ?_
  | with_reducible refine w_orV ?_
  | with_reducible refine w_notV ?_
  | with_reducible refine w_chain ?_
  | with_reducible refine w_din ?_
  | with_reducible refine w_isi_ii ?_
  | with_reducible refine w_isi_ib ?_
  | with_reducible refine w_isi_it ?_
  | with_reducible refine w_isi_st ?_
  | ((with_reducible refine w_isi_tt ?h1 ?_); (case h1 => first | assumption | exact upd_same))
  | with_reducible refine if_t rfl ?_
  | with_reducible refine if_f rfl ?_
  | with_reducible refine w_tup ?_
  | with_reducible refine w_lst ?_
  | with_reducible refine w_next ?_
  | with_reducible refine w_bm ?_
  | with_reducible refine w_sl ?_
  | with_reducible refine w_part ?_
  | with_reducible refine w_nop ?_
  | with_reducible refine w_isI ?_
  | with_reducible refine w_yes ?_
  | with_reducible refine w_gn ?_
  | with_reducible refine w_gsub ?_
  | ((with_reducible refine' w_setL ?h1 ?h2 ?_); (case h1 => first | assumption | exact upd_same); (case h2 => exact rfl))
  | with_reducible refine w_asgG ?_
  | with_reducible refine w_m1 ?_
  | with_reducible refine w_isS ?_
  | with_reducible refine w_tyS ?_
  | ((with_reducible refine' w_tyL ?h1 ?_); (case h1 => first | assumption | exact upd_same))
  | ((with_reducible refine' w_ixT ?h1 ?h2 ?_); (case h1 => first | assumption | exact upd_same); (case h2 => exact rfl))
  | ((with_reducible refine' w_ixL ?h1 ?h2 ?_); (case h1 => first | assumption | exact upd_same); (case h2 => exact rfl))
  | ((with_reducible refine w_eq ?h1 ?_); (case h1 => exact rfl))
  | ((with_reducible refine w_ne ?h1 ?_); (case h1 => exact rfl))
  | dsimp only [List.set_cons_zero, List.set_cons_succ, List.append_nil, List.cons_append, List.nil_append, cxOf]))

def absI (n : Int) : Int := if n < 0 then -n else n
def sgI (n : Int) : Int := if n > 0 then 1 else 0
def isVar (n : Int) : Bool := decide (1 ≤ n) && decide (n ≤ 999)
def isLit (n : Int) : Bool := isVar (absI n)
def keyV (n : Int) : List V := [.int (absI n), .int (sgI n)]
def spKey : Sp := fun vs H Q _ => ∃ n, vs = [.int n] ∧ ∀ p, H p = none → Q (.ref p) (upd H p (.tup (keyV n)))
section
variable {P : Program} {w : World} {K : PySem.W.Frag} {mg : Str → Option Value} {base : Heap} {uG : Value} {f : Addr} {fd : FuncData}
end
/-! ### keys as data -/
def keyD (n : Int) : PyData := .tuple [.int (absI n), .int (sgI n)]
def ckD (ls : List Int) : PyData := .tuple (ls.map keyD)
/-- a new tuple whose data are the keys of a clause -/
def spCKey : Sp := fun vs H Q _ => ∃ (a : Addr) (ls : List Int), vs = [.ref a] ∧ H a = some (.tup (ls.map V.int)) ∧ ls.length ≤ sizeLine ∧ ∀ (ps : List Addr) (p : Addr) (H' : Hp), Kept H H' → H p = none → H' p = some (.tup (ps.map V.ref)) → ps.length = ls.length → (∀ (i : Nat) (q : Addr) (n : Int), ps[i]? = some q → ls[i]? = some n → H' q = some (.tup (keyV n))) → Q (.ref p) H'
theorem dp_key {K : PySem.W.Frag} {H : Hp} {q : Addr} {n : Int} (h : H q = some (.tup (keyV n))) : Dp K H (.ref q) (keyD n) := .tup (SqT.of h) (.cons (.int _) (.cons (.int _) .nil))
theorem dpAll_of {K : PySem.W.Frag} {H : Hp} : ∀ {xs : List V} {ds : List PyData}, xs.length = ds.length → (∀ (i : Nat) (x : V) (d : PyData), xs[i]? = some x → ds[i]? = some d → Dp K H x d) → DpAll K H xs ds
  | [], [], _, _ => .nil
  | x :: xs, d :: ds, hl, h => .cons (h 0 x d rfl rfl) (dpAll_of (Nat.succ.inj hl) fun i y e h1 h2 => h (i + 1) y e h1 h2)
  | [], _ :: _, hl, _ => by cases hl
  | _ :: _, [], hl, _ => by cases hl
theorem dp_ckey {K : PySem.W.Frag} {H : Hp} {p : Addr} {ps : List Addr} {ls : List Int} (hp : H p = some (.tup (ps.map V.ref))) (hl : ps.length = ls.length) (h : ∀ (i : Nat) (q : Addr) (n : Int), ps[i]? = some q → ls[i]? = some n → H q = some (.tup (keyV n))) : Dp K H (.ref p) (ckD ls) :=
  .tup (SqT.of hp) (dpAll_of (by rw [List.length_map, List.length_map, hl]) fun i x d hx hd => by
    rw [List.getElem?_map] at hx hd
    obtain ⟨q, hq, rfl⟩ := Option.map_eq_some_iff.mp hx
    obtain ⟨n, hn, rfl⟩ := Option.map_eq_some_iff.mp hd
    exact dp_key (h i q n hq hn))
section
variable {P : Program} {w : World} {K : PySem.W.Frag} {mg : Str → Option Value} {base : Heap} {uG : Value} {f : Addr} {fd : FuncData}
theorem atI_eq {α : Type} {xs : List α} {i : Int} {j : Nat} {v : α} (e : i = (j : Int)) (h : xs[j]? = some v) : atI xs i = some v := by
  rw [e]
  exact atI_nat h
/-- each item is below the next -/
def ascD (ds : List PyData) : Bool := (List.range (ds.length - 1)).all fun j => PySem.W.dataLt (ds.getD j .none) (ds.getD (j + 1) .none)
theorem dpAll_at {K : PySem.W.Frag} {H : Hp} : ∀ {xs : List V} {ds : List PyData} {i : Nat} {x : V}, DpAll K H xs ds → xs[i]? = some x → ∃ d, ds[i]? = some d ∧ Dp K H x d
  | _, _, 0, _, .cons h _, e => by
    cases e
    exact ⟨_, rfl, h⟩
  | _, _, i + 1, _, .cons _ t, e => dpAll_at (i := i) t (by simpa using e)
end
end Ky

namespace Ky
open PySem PySem.Spec PyProof.Rows L2
local macro_rules | `(tactic| walk_at "rd") => `(tactic| repeat (first
  | with_reducible refine w_seq ?_
  | with_reducible refine w_asg ?_
  | with_reducible refine w_ret ?_
  | with_reducible refine w_drop ?_
  | with_reducible refine w_ifs ?_
  | ((with_reducible refine' w_var ?hh ?_); (case hh => exact rfl))
  | with_reducible refine w_c ?_
  | with_reducible refine w_op ?_
  | with_reducible refine w_un ?_
  | with_reducible refine w_I0 ?_
  | with_reducible refine w_U ?_
  | with_reducible refine w_nil ?_
  | with_reducible refine w_cons ?_
  | with_reducible refine w_call ?_
  | with_reducible refine w_cb ?_
  | with_reducible refine w_test ?_
  | with_reducible refine w_B ?_
  | with_reducible refine w_bl ?_
  | with_reducible refine w_and ?_
  | with_reducible refine w_or ?_
  | with_reducible refine w_not ?_
  | with_reducible refine w_ife ?_
  | with_reducible refine w_gRd ?_
  | with_reducible refine w_andV ?_
  | with_reducible refine w_orV ?_
  | with_reducible refine w_notV ?_
  | with_reducible refine w_chain ?_
  | with_reducible refine w_din ?_
  | with_reducible refine w_isi_ii ?_
  | with_reducible refine w_isi_ib ?_
  | with_reducible refine w_isi_it ?_
  | with_reducible refine w_isi_st ?_
  | ((with_reducible refine w_isi_tt ?h1 ?_); (case h1 => first | assumption | exact upd_same))
  | with_reducible refine if_t rfl ?_
  | with_reducible refine if_f rfl ?_
  | with_reducible refine w_tup ?_
  | with_reducible refine w_lst ?_
  | with_reducible refine w_next ?_
  | with_reducible refine w_bm ?_
  | with_reducible refine w_sl ?_
  | with_reducible refine w_part ?_
  | with_reducible refine w_nop ?_
  | with_reducible refine w_isI ?_
  | with_reducible refine w_yes ?_
  | with_reducible refine w_gn ?_
  | with_reducible refine w_gsub ?_
  | ((with_reducible refine' w_setL ?h1 ?h2 ?_); (case h1 => first | assumption | exact upd_same); (case h2 => exact rfl))
  | with_reducible refine w_asgG ?_
  | with_reducible refine w_m1 ?_
  | with_reducible refine w_isS ?_
  | with_reducible refine w_tyS ?_
  | ((with_reducible refine' w_tyL ?h1 ?_); (case h1 => first | assumption | exact upd_same))
  | ((with_reducible refine' w_ixT ?h1 ?h2 ?_); (case h1 => first | assumption | exact upd_same); (case h2 => exact rfl))
  | ((with_reducible refine' w_ixL ?h1 ?h2 ?_); (case h1 => first | assumption | exact upd_same); (case h2 => exact rfl))
  | ((with_reducible refine w_eq ?h1 ?_); (case h1 => exact rfl))
  | ((with_reducible refine w_ne ?h1 ?_); (case h1 => exact rfl))
  | dsimp only [List.set_cons_zero, List.set_cons_succ, List.append_nil, List.cons_append, List.nil_append, cxOf]))

theorem keyD_alike (a b : Int) : PySem.W.alike (keyD a) (keyD b) = true := by simp [keyD, PySem.W.alike, PySem.W.alikeAll]
theorem keyD_depth (a : Int) : (keyD a).depth ≤ 60 := by simp [keyD, PyData.depth, PyData.depthAll]
def bothS (ls : List Int) : Bool := (List.range (ls.map V.int).length).any fun i => decide (-(ls.getD i 0) ∈ ls)
def clauseF (ls : List Int) : List Int := srtBy keyD (dd ls)
def spClauseOf (P0 : Addr) : Sp := fun vs H Q _ => ∃ (a : Addr) (ls : List Int), vs = [.ref a] ∧ H a = some (.lst (ls.map V.int)) ∧ ls.length ≤ 1000 ∧ GxR.TabG H P0 ∧ (bothS ls = true → ∀ H', Kept H H' → Q .non H') ∧
  (bothS ls = false → ∀ p H', Kept H H' → H p = none → H' p = some (.tup ((clauseF ls).map V.int)) → Q (.ref p) H')
section
variable {P : Program} {w : World} {K : PySem.W.Frag} {mg : Str → Option Value} {base : Heap} {uG : Value} {f : Addr} {fd : FuncData}
end
end Ky

namespace Ky
open PySem PySem.Spec PyProof.Rows L2
local macro_rules | `(tactic| walk_at "rd") => `(tactic| repeat (first
  | with_reducible refine w_seq ?_
  | with_reducible refine w_asg ?_
  | with_reducible refine w_ret ?_
  | with_reducible refine w_drop ?_
  | with_reducible refine w_ifs ?_
  | ((with_reducible refine' w_var ?hh ?_); (case hh => exact rfl))
  | with_reducible refine w_c ?_
  | with_reducible refine w_op ?_
  | with_reducible refine w_un ?_
  | with_reducible refine w_I0 ?_
  | with_reducible refine w_U ?_
  | with_reducible refine w_nil ?_
  | with_reducible refine w_cons ?_
  | with_reducible refine w_call ?_
  | with_reducible refine w_cb ?_
  | with_reducible refine w_test ?_
  | with_reducible refine w_B ?_
  | with_reducible refine w_bl ?_
  | with_reducible refine w_and ?_
  | with_reducible refine w_or ?_
  | with_reducible refine w_not ?_
  | with_reducible refine w_ife ?_
  | with_reducible refine w_gRd ?_
  | with_reducible refine w_andV ?_
  | with_reducible refine w_orV ?_
  | with_reducible refine w_notV ?_
  | with_reducible refine w_chain ?_
  | with_reducible refine w_din ?_
  | with_reducible refine w_isi_ii ?_
  | with_reducible refine w_isi_ib ?_
  | with_reducible refine w_isi_it ?_
  | with_reducible refine w_isi_st ?_
  | ((with_reducible refine w_isi_tt ?h1 ?_); (case h1 => first | assumption | exact upd_same))
  | with_reducible refine if_t rfl ?_
  | with_reducible refine if_f rfl ?_
  | with_reducible refine w_tup ?_
  | with_reducible refine w_lst ?_
  | with_reducible refine w_next ?_
  | with_reducible refine w_bm ?_
  | with_reducible refine w_sl ?_
  | with_reducible refine w_part ?_
  | with_reducible refine w_nop ?_
  | with_reducible refine w_isI ?_
  | with_reducible refine w_yes ?_
  | with_reducible refine w_gn ?_
  | with_reducible refine w_gsub ?_
  | ((with_reducible refine' w_setL ?h1 ?h2 ?_); (case h1 => first | assumption | exact upd_same); (case h2 => exact rfl))
  | with_reducible refine w_asgG ?_
  | with_reducible refine w_m1 ?_
  | with_reducible refine w_isS ?_
  | with_reducible refine w_tyS ?_
  | ((with_reducible refine' w_tyL ?h1 ?_); (case h1 => first | assumption | exact upd_same))
  | ((with_reducible refine' w_ixT ?h1 ?h2 ?_); (case h1 => first | assumption | exact upd_same); (case h2 => exact rfl))
  | ((with_reducible refine' w_ixL ?h1 ?h2 ?_); (case h1 => first | assumption | exact upd_same); (case h2 => exact rfl))
  | ((with_reducible refine w_eq ?h1 ?_); (case h1 => exact rfl))
  | ((with_reducible refine w_ne ?h1 ?_); (case h1 => exact rfl))
  | dsimp only [List.set_cons_zero, List.set_cons_succ, List.append_nil, List.cons_append, List.nil_append, cxOf]))

theorem ckD_alike : ∀ (a b : List Int), PySem.W.alike (ckD a) (ckD b) = true := by
  have aux : ∀ (a b : List Int), PySem.W.alikeAll (a.map keyD) (b.map keyD) = true := by
    intro a
    induction a with
    | nil => intro b; simp [PySem.W.alikeAll]
    | cons x a ih =>
      intro b
      cases b with
      | nil => simp [PySem.W.alikeAll]
      | cons y b =>
        rw [List.map_cons, List.map_cons, PySem.W.alikeAll, keyD_alike, ih]
        rfl
  intro a b
  unfold ckD
  simp only [PySem.W.alike]
  exact aux a b
theorem ckD_depth (a : List Int) : (ckD a).depth ≤ 60 := by
  have aux : ∀ a : List Int, PyData.depthAll (a.map keyD) ≤ 2 := by
    intro a
    induction a with
    | nil => simp [PyData.depthAll]
    | cons x a ih =>
      rw [List.map_cons, PyData.depthAll]
      have h1 : (keyD x).depth ≤ 2 := by simp [keyD, PyData.depth, PyData.depthAll]
      omega
  unfold ckD
  simp only [PyData.depth]
  have := aux a
  omega
/-- rows of clauses at these places -/
def ClsAt (H : Hp) (bs : List Addr) (cs : List (List Int)) : Prop := bs.length = cs.length ∧ ∀ (i : Nat) (b : Addr) (c : List Int), bs[i]? = some b → cs[i]? = some c → H b = some (.tup (c.map V.int))
theorem ClsAt.kept {H H' : Hp} {bs : List Addr} {cs : List (List Int)} (h : ClsAt H bs cs) (k : Kept H H') : ClsAt H' bs cs := ⟨h.1, fun i b c h1 h2 => k.tup (h.2 i b c h1 h2)⟩
def residueF (cs : List (List Int)) : List (List Int) := srtBy ckD (dd cs)
theorem clsAt_zip {H : Hp} {bs : List Addr} {cs : List (List Int)} (h : ClsAt H bs cs) : ∀ p ∈ bs.zip cs, H p.1 = some (.tup (p.2.map V.int)) := fun p hp => by
  obtain ⟨i, hi⟩ := List.mem_iff_getElem?.mp hp
  rw [List.getElem?_zip_eq_some] at hi
  exact h.2 i _ _ hi.1 hi.2
theorem clsAt_of {H : Hp} {zs : List (Addr × List Int)} (h : ∀ p ∈ zs, H p.1 = some (.tup (p.2.map V.int))) : ClsAt H (zs.map (·.1)) (zs.map (·.2)) := by
  refine ⟨by rw [List.length_map, List.length_map], fun i b c h1 h2 => ?_⟩
  rw [List.getElem?_map] at h1 h2
  obtain ⟨p, hp, rfl⟩ := Option.map_eq_some_iff.mp h1
  rw [hp] at h2
  cases h2
  exact h p (List.mem_of_getElem? hp)
theorem sort_cls {H : Hp} {bs : List Addr} {cs : List (List Int)} (h : ClsAt H bs cs) : ∃ bs', sortD (bs.map V.ref) (cs.map ckD) = bs'.map V.ref ∧ ClsAt H bs' (srtBy ckD cs) := by
  have e1 : bs = (bs.zip cs).map (·.1) := (List.map_fst_zip (by rw [h.1]; exact Nat.le_refl _)).symm
  have e2 : cs = (bs.zip cs).map (·.2) := (List.map_snd_zip (by rw [h.1]; exact Nat.le_refl _)).symm
  refine ⟨(srtBy (fun p : Addr × List Int => ckD p.2) (bs.zip cs)).map (·.1), ?_, ?_⟩
  · have q := sortD_map (fun p : Addr × List Int => V.ref p.1) (fun p : Addr × List Int => ckD p.2) (bs.zip cs)
    have a1 : (bs.zip cs).map (fun p : Addr × List Int => V.ref p.1) = bs.map V.ref := by
      conv => rhs; rw [e1]
      rw [List.map_map] <;> rfl
    have a2 : (bs.zip cs).map (fun p : Addr × List Int => ckD p.2) = cs.map ckD := by
      conv => rhs; rw [e2]
      rw [List.map_map] <;> rfl
    rw [a1, a2] at q
    rw [q, List.map_map] <;> rfl
  · have q := srtBy_map (fun p : Addr × List Int => p.2) ckD (bs.zip cs)
    rw [← e2] at q
    rw [← q]
    exact clsAt_of fun p hp => clsAt_zip h p (mem_srtBy.mp hp)
theorem isKeys_cls {H : Hp} {cs : List (List Int)} {bs : List Addr} (h : IsKeys H (setDict (cs.map keysI)) bs) : ClsAt H bs cs := by
  induction cs generalizing bs with
  | nil =>
    cases h
    exact ⟨rfl, fun i b c h1 _ => by simp at h1⟩
  | cons c cs ih =>
    cases h with
    | cons h1 h2 =>
      obtain ⟨l1, l2⟩ := ih h2
      refine ⟨by rw [List.length_cons, List.length_cons, l1], fun i b d e1 e2 => ?_⟩
      cases i with
      | zero =>
        cases e1
        cases e2
        have z := h1
        rw [keysI_kV] at z
        exact z
      | succ i => exact l2 i b d (by simpa using e1) (by simpa using e2)
def spResidueOf : Sp := fun vs H Q _ => ∃ (a : Addr) (bs : List Addr) (cs : List (List Int)), vs = [.ref a] ∧ H a = some (.lst (bs.map V.ref)) ∧ ClsAt H bs cs ∧ cs.length ≤ 1000 ∧ (∀ c ∈ cs, c.length ≤ 1000) ∧
  ∀ p H' bs', Kept H H' → H p = none → H' p = some (.tup (bs'.map V.ref)) → ClsAt H' bs' (residueF cs) → Q (.ref p) H'
section
variable {P : Program} {w : World} {K : PySem.W.Frag} {mg : Str → Option Value} {base : Heap} {uG : Value} {f : Addr} {fd : FuncData}
end
end Ky

namespace Ky
open PySem PySem.Spec PyProof.Rows L2
local macro_rules | `(tactic| walk_at "rd") => `(tactic| repeat (first
  | with_reducible refine w_seq ?_
  | with_reducible refine w_asg ?_
  | with_reducible refine w_ret ?_
  | with_reducible refine w_drop ?_
  | with_reducible refine w_ifs ?_
  | ((with_reducible refine' w_var ?hh ?_); (case hh => exact rfl))
  | with_reducible refine w_c ?_
  | with_reducible refine w_op ?_
  | with_reducible refine w_un ?_
  | with_reducible refine w_I0 ?_
  | with_reducible refine w_U ?_
  | with_reducible refine w_nil ?_
  | with_reducible refine w_cons ?_
  | with_reducible refine w_call ?_
  | with_reducible refine w_cb ?_
  | with_reducible refine w_test ?_
  | with_reducible refine w_B ?_
  | with_reducible refine w_bl ?_
  | with_reducible refine w_and ?_
  | with_reducible refine w_or ?_
  | with_reducible refine w_not ?_
  | with_reducible refine w_ife ?_
  | with_reducible refine w_gRd ?_
  | with_reducible refine w_andV ?_
  | with_reducible refine w_orV ?_
  | with_reducible refine w_notV ?_
  | with_reducible refine w_chain ?_
  | with_reducible refine w_din ?_
  | with_reducible refine w_isi_ii ?_
  | with_reducible refine w_isi_ib ?_
  | with_reducible refine w_isi_it ?_
  | with_reducible refine w_isi_st ?_
  | ((with_reducible refine w_isi_tt ?h1 ?_); (case h1 => first | assumption | exact upd_same))
  | with_reducible refine if_t rfl ?_
  | with_reducible refine if_f rfl ?_
  | with_reducible refine w_tup ?_
  | with_reducible refine w_lst ?_
  | with_reducible refine w_next ?_
  | with_reducible refine w_bm ?_
  | with_reducible refine w_sl ?_
  | with_reducible refine w_part ?_
  | with_reducible refine w_nop ?_
  | with_reducible refine w_isI ?_
  | with_reducible refine w_yes ?_
  | with_reducible refine w_gn ?_
  | with_reducible refine w_gsub ?_
  | ((with_reducible refine' w_setL ?h1 ?h2 ?_); (case h1 => first | assumption | exact upd_same); (case h2 => exact rfl))
  | with_reducible refine w_asgG ?_
  | with_reducible refine w_m1 ?_
  | with_reducible refine w_isS ?_
  | with_reducible refine w_tyS ?_
  | ((with_reducible refine' w_tyL ?h1 ?_); (case h1 => first | assumption | exact upd_same))
  | ((with_reducible refine' w_ixT ?h1 ?h2 ?_); (case h1 => first | assumption | exact upd_same); (case h2 => exact rfl))
  | ((with_reducible refine' w_ixL ?h1 ?h2 ?_); (case h1 => first | assumption | exact upd_same); (case h2 => exact rfl))
  | ((with_reducible refine w_eq ?h1 ?_); (case h1 => exact rfl))
  | ((with_reducible refine w_ne ?h1 ?_); (case h1 => exact rfl))
  | dsimp only [List.set_cons_zero, List.set_cons_succ, List.append_nil, List.cons_append, List.nil_append, cxOf]))

theorem dpAll_ints {K : PySem.W.Frag} {H : Hp} : ∀ ls : List Int, DpAll K H (ls.map V.int) (ls.map PyData.int)
  | [] => .nil
  | n :: ls => .cons (.int n) (dpAll_ints ls)
def absAll (cs : List (List Int)) : List Int := cs.flatten.map absI
def isClauseF (ls : List Int) : Bool := (List.range (ls.map V.int).length).all (fun i => isLit (ls.getD i 0)) && ascD (ls.map fun n => .int (absI n))
section
variable {P : Program} {w : World} {K : PySem.W.Frag} {mg : Str → Option Value} {base : Heap} {uG : Value} {f : Addr} {fd : FuncData}
/-- the keys of the clause d stand at p -/
def CkAt (H : Hp) (p : Addr) (d : List Int) : Prop := ∃ qs : List Addr, H p = some (.tup (qs.map V.ref)) ∧ qs.length = d.length ∧ ∀ (i : Nat) (q : Addr) (n : Int), qs[i]? = some q → d[i]? = some n → H q = some (.tup (keyV n))
theorem CkAt.kept {H H' : Hp} {p : Addr} {d : List Int} (h : CkAt H p d) (k : Kept H H') : CkAt H' p d := by
  obtain ⟨qs, h1, h2, h3⟩ := h
  exact ⟨qs, k.tup h1, h2, fun i q n a b => k.tup (h3 i q n a b)⟩
theorem tup_upd {H : Hp} {D q : Addr} {xs ys : List V} {o : HO} (hD : H D = some (.lst xs)) (h : H q = some (.tup ys)) : upd H D o q = some (.tup ys) := by
  rw [upd_ne (fun z => by
    rw [z, hD] at h
    cases h)]
  exact h
theorem CkAt.updL {H : Hp} {p D : Addr} {d : List Int} {xs : List V} {o : HO} (h : CkAt H p d) (hD : H D = some (.lst xs)) : CkAt (upd H D o) p d := by
  obtain ⟨qs, h1, h2, h3⟩ := h
  exact ⟨qs, tup_upd hD h1, h2, fun i q n a b => tup_upd hD (h3 i q n a b)⟩
theorem CkAt.dp {K : PySem.W.Frag} {H : Hp} {p : Addr} {d : List Int} (h : CkAt H p d) : Dp K H (.ref p) (ckD d) := by
  obtain ⟨qs, h1, h2, h3⟩ := h
  exact dp_ckey h1 h2 h3
def isResidueF (cs : List (List Int)) : Bool := (List.range cs.length).all (fun i => isClauseF (cs.getD i [])) && ascD (cs.map ckD)
end
end Ky

namespace Ky
open PySem PySem.Spec PyProof.Rows L2
local macro_rules | `(tactic| walk_at "rd") => `(tactic| repeat (first
  | with_reducible refine w_seq ?_
  | with_reducible refine w_asg ?_
  | with_reducible refine w_ret ?_
  | with_reducible refine w_drop ?_
  | with_reducible refine w_ifs ?_
  | ((with_reducible refine' w_var ?hh ?_); (case hh => exact rfl))
  | with_reducible refine w_c ?_
  | with_reducible refine w_op ?_
  | with_reducible refine w_un ?_
  | with_reducible refine w_I0 ?_
  | with_reducible refine w_U ?_
  | with_reducible refine w_nil ?_
  | with_reducible refine w_cons ?_
  | with_reducible refine w_call ?_
  | with_reducible refine w_cb ?_
  | with_reducible refine w_test ?_
  | with_reducible refine w_B ?_
  | with_reducible refine w_bl ?_
  | with_reducible refine w_and ?_
  | with_reducible refine w_or ?_
  | with_reducible refine w_not ?_
  | with_reducible refine w_ife ?_
  | with_reducible refine w_gRd ?_
  | with_reducible refine w_andV ?_
  | with_reducible refine w_orV ?_
  | with_reducible refine w_notV ?_
  | with_reducible refine w_chain ?_
  | with_reducible refine w_din ?_
  | with_reducible refine w_isi_ii ?_
  | with_reducible refine w_isi_ib ?_
  | with_reducible refine w_isi_it ?_
  | with_reducible refine w_isi_st ?_
  | ((with_reducible refine w_isi_tt ?h1 ?_); (case h1 => first | assumption | exact upd_same))
  | with_reducible refine if_t rfl ?_
  | with_reducible refine if_f rfl ?_
  | with_reducible refine w_tup ?_
  | with_reducible refine w_lst ?_
  | with_reducible refine w_next ?_
  | with_reducible refine w_bm ?_
  | with_reducible refine w_sl ?_
  | with_reducible refine w_part ?_
  | with_reducible refine w_nop ?_
  | with_reducible refine w_isI ?_
  | with_reducible refine w_yes ?_
  | with_reducible refine w_gn ?_
  | with_reducible refine w_gsub ?_
  | ((with_reducible refine' w_setL ?h1 ?h2 ?_); (case h1 => first | assumption | exact upd_same); (case h2 => exact rfl))
  | with_reducible refine w_asgG ?_
  | with_reducible refine w_m1 ?_
  | with_reducible refine w_isS ?_
  | with_reducible refine w_tyS ?_
  | ((with_reducible refine' w_tyL ?h1 ?_); (case h1 => first | assumption | exact upd_same))
  | ((with_reducible refine' w_ixT ?h1 ?h2 ?_); (case h1 => first | assumption | exact upd_same); (case h2 => exact rfl))
  | ((with_reducible refine' w_ixL ?h1 ?h2 ?_); (case h1 => first | assumption | exact upd_same); (case h2 => exact rfl))
  | ((with_reducible refine w_eq ?h1 ?_); (case h1 => exact rfl))
  | ((with_reducible refine w_ne ?h1 ?_); (case h1 => exact rfl))
  | dsimp only [List.set_cons_zero, List.set_cons_succ, List.append_nil, List.cons_append, List.nil_append, cxOf]))

def keep1 (fs c : List Int) : Bool := (List.range (c.map V.int).length).any fun i => decide (c.getD i 0 ∈ fs)
def keepsF (cs : List (List Int)) (fs : List Int) : Bool := (List.range cs.length).all fun i => keep1 fs (cs.getD i [])
def spKeeps (P0 : Addr) : Sp := fun vs H Q _ => ∃ (a b : Addr) (bs : List Addr) (cs : List (List Int)) (fs : List Int), vs = [.ref a, .ref b] ∧ H a = some (.tup (bs.map V.ref)) ∧ ClsAt H bs cs ∧ H b = some (.tup (fs.map V.int)) ∧ fs.length ≤ 1000 ∧ GxR.TabG H P0 ∧ ∀ H', Kept H H' → Q (.bl (keepsF cs fs)) H'
section
variable {P : Program} {w : World} {K : PySem.W.Frag} {mg : Str → Option Value} {base : Heap} {uG : Value} {f : Addr} {fd : FuncData}
theorem dataLt_asym {x y : PyData} (h : PySem.W.dataLt x y = true) : PySem.W.dataLt y x = false := by
  have t := (PySem.W.sortLe_total (PyProof.Rows.listOrd PyProof.Rows.itemOrd) false fun d : PyData => PySem.W.keyToks d).total x y
  have e1 : PySem.W.sortLe (PyProof.Rows.listOrd PyProof.Rows.itemOrd) false (fun d : PyData => PySem.W.keyToks d) x y = !PySem.W.dataLt y x := rfl
  have e2 : PySem.W.sortLe (PyProof.Rows.listOrd PyProof.Rows.itemOrd) false (fun d : PyData => PySem.W.keyToks d) y x = !PySem.W.dataLt x y := rfl
  rw [e1, e2, h] at t
  cases z : PySem.W.dataLt y x with
  | false => rfl
  | true =>
    rw [z] at t
    rcases t with t | t <;> cases t
theorem dataLe_trans {x y z : PyData} (h1 : PySem.W.dataLt y x = false) (h2 : PySem.W.dataLt z y = false) : PySem.W.dataLt z x = false := by
  have t := (PySem.W.sortLe_total (PyProof.Rows.listOrd PyProof.Rows.itemOrd) false fun d : PyData => PySem.W.keyToks d).trans x y z
  have e1 : PySem.W.sortLe (PyProof.Rows.listOrd PyProof.Rows.itemOrd) false (fun d : PyData => PySem.W.keyToks d) x y = !PySem.W.dataLt y x := rfl
  have e2 : PySem.W.sortLe (PyProof.Rows.listOrd PyProof.Rows.itemOrd) false (fun d : PyData => PySem.W.keyToks d) y z = !PySem.W.dataLt z y := rfl
  have e3 : PySem.W.sortLe (PyProof.Rows.listOrd PyProof.Rows.itemOrd) false (fun d : PyData => PySem.W.keyToks d) x z = !PySem.W.dataLt z x := rfl
  rw [e1, e2, e3, h1, h2] at t
  have q := t rfl rfl
  cases w : PySem.W.dataLt z x with
  | false => rfl
  | true =>
    rw [w] at q
    cases q
theorem dataLt_trans {x y z : PyData} (h1 : PySem.W.dataLt x y = true) (h2 : PySem.W.dataLt y z = true) : PySem.W.dataLt x z = true := by
  cases w : PySem.W.dataLt x z with
  | true => rfl
  | false =>
    have q := dataLe_trans (dataLt_asym h2) w
    rw [h1] at q
    cases q
/-- the place where a clause would stand -/
def isPlace (c : List Int) (cs : List (List Int)) (n : Nat) : Prop := n ≤ cs.length ∧ (∀ i, i < n → PySem.W.dataLt (ckD (cs.getD i [])) (ckD c) = true) ∧ (∀ i, n ≤ i → i < cs.length → PySem.W.dataLt (ckD (cs.getD i [])) (ckD c) = false)
/-- the list ascends -/
def ascC (cs : List (List Int)) : Prop := cs.Pairwise fun x y => PySem.W.dataLt (ckD x) (ckD y) = true
def spPlace : Sp := fun vs H Q _ => ∃ (a b : Addr) (bs : List Addr) (cs : List (List Int)) (c : List Int), vs = [.ref a, .ref b] ∧ H a = some (.tup (c.map V.int)) ∧ c.length ≤ 1000 ∧ H b = some (.lst (bs.map V.ref)) ∧ ClsAt H bs cs ∧ ascC cs ∧ cs.length ≤ 1000 ∧ (∀ d ∈ cs, d.length ≤ 1000) ∧
  ∀ n H', Kept H H' → isPlace c cs n → Q (.int (n : Nat)) H'
end
end Ky

namespace Ky
open PySem PySem.Spec PyProof.Rows L2
theorem key_inj {n m : Int} (h1 : absI n = absI m) (h2 : sgI n = sgI m) : n = m := by
  unfold absI at h1
  unfold sgI at h2
  by_cases a : n < 0 <;> by_cases b : m < 0 <;> by_cases c : n > 0 <;> by_cases d : m > 0 <;> simp [a, b, c, d] at h1 h2 <;> omega
theorem ck_inj : ∀ a b : List Int, PySem.W.keyToksAll (a.map keyD) = PySem.W.keyToksAll (b.map keyD) → a = b
  | [], [], _ => rfl
  | [], y :: b, h => by
    simp [PySem.W.keyToksAll] at h
  | x :: a, [], h => by
    simp [PySem.W.keyToksAll] at h
  | x :: a, y :: b, h => by
    rw [List.map_cons, List.map_cons, PySem.W.keyToksAll, PySem.W.keyToksAll] at h
    simp only [keyD, PySem.W.keyToks, PySem.W.keyToksAll, List.cons_append, List.nil_append, List.append_assoc] at h
    simp only [List.cons.injEq, Sum.inl.injEq, true_and] at h
    obtain ⟨h1, h2, h3⟩ := h
    rw [key_inj h1 h2, ck_inj a b h3]
theorem ck_total {a b : List Int} (h1 : PySem.W.dataLt (ckD a) (ckD b) = false) (h2 : PySem.W.dataLt (ckD b) (ckD a) = false) : a = b := by
  have e := (PyProof.Rows.listOrd PyProof.Rows.itemOrd).total (PySem.W.keyToks (ckD a)) (PySem.W.keyToks (ckD b)) h1 h2
  unfold ckD at e
  simp only [PySem.W.keyToks] at e
  exact ck_inj a b e
theorem lt_irr (x : PyData) : PySem.W.dataLt x x = false := (PyProof.Rows.listOrd PyProof.Rows.itemOrd).irrefl _
theorem lt_or {a b : List Int} (h : a ≠ b) (h2 : PySem.W.dataLt (ckD a) (ckD b) = false) : PySem.W.dataLt (ckD b) (ckD a) = true := by
  cases w : PySem.W.dataLt (ckD b) (ckD a) with
  | true => rfl
  | false => exact absurd (ck_total h2 w) h
theorem asc_unique : ∀ {xs ys : List (List Int)}, ascC xs → ascC ys → (∀ d, d ∈ xs ↔ d ∈ ys) → xs = ys
  | [], [], _, _, _ => rfl
  | [], y :: ys, _, _, h => absurd ((h y).mpr List.mem_cons_self) (by simp)
  | x :: xs, [], _, _, h => absurd ((h x).mp List.mem_cons_self) (by simp)
  | x :: xs, y :: ys, hx, hy, h => by
    obtain ⟨x1, x2⟩ := List.pairwise_cons.mp hx
    obtain ⟨y1, y2⟩ := List.pairwise_cons.mp hy
    have e : x = y := by
      rcases List.mem_cons.mp ((h x).mp List.mem_cons_self) with e | e
      · exact e
      · rcases List.mem_cons.mp ((h y).mpr List.mem_cons_self) with e2 | e2
        · exact e2.symm
        · have a := dataLt_asym (y1 x e)
          rw [x1 y e2] at a
          cases a
    subst e
    have nx : x ∉ xs := fun z => by
      have := x1 x z
      rw [lt_irr] at this
      cases this
    have ny : x ∉ ys := fun z => by
      have := y1 x z
      rw [lt_irr] at this
      cases this
    rw [asc_unique x2 y2 fun d => ⟨fun z => ((List.mem_cons.mp ((h d).mp (List.mem_cons_of_mem _ z))).resolve_left fun e => nx (e ▸ z)), fun z => ((List.mem_cons.mp ((h d).mpr (List.mem_cons_of_mem _ z))).resolve_left fun e => ny (e ▸ z))⟩]
theorem getD_mem {ds : List (List Int)} {i : Nat} (h : i < ds.length) : ds.getD i [] = ds[i] := by rw [List.getD_eq_getElem?_getD, List.getElem?_eq_getElem h] <;> rfl
theorem place_has {s : List Int} {ds : List (List Int)} {n : Nat} (hp : isPlace s ds n) (ha : ascC ds) (hn : n < ds.length → ds[n]? ≠ some s) : s ∉ ds := fun hm => by
  obtain ⟨j, hj, e⟩ := List.getElem_of_mem hm
  obtain ⟨p1, p2, p3⟩ := hp
  by_cases h : j < n
  · have q := p2 j h
    rw [getD_mem hj, e, lt_irr] at q
    cases q
  · by_cases h2 : j = n
    · subst h2
      exact hn hj (by rw [List.getElem?_eq_getElem hj, e])
    · have hnl : n < ds.length := by omega
      have q := List.pairwise_iff_getElem.mp ha n j hnl hj (by omega)
      rw [e] at q
      have y := p3 n (Nat.le_refl _) hnl
      rw [getD_mem hnl, q] at y
      cases y
theorem place_ins {s : List Int} {ds : List (List Int)} {n : Nat} (hp : isPlace s ds n) (ha : ascC ds) (hs : s ∉ ds) : ascC (ds.take n ++ [s] ++ ds.drop n) ∧ ∀ d, d ∈ ds.take n ++ [s] ++ ds.drop n ↔ d ∈ ds ∨ d = s := by
  obtain ⟨p1, p2, p3⟩ := hp
  have t1 : ∀ d ∈ ds.take n, PySem.W.dataLt (ckD d) (ckD s) = true := fun d hd => by
    obtain ⟨i, hi, e⟩ := List.getElem_of_mem hd
    have hi2 : i < n := by rw [List.length_take] at hi; omega
    have hi3 : i < ds.length := by omega
    have q := p2 i hi2
    rw [getD_mem hi3] at q
    rw [← e, List.getElem_take]
    exact q
  have t2 : ∀ d ∈ ds.drop n, PySem.W.dataLt (ckD s) (ckD d) = true := fun d hd => by
    obtain ⟨i, hi, e⟩ := List.getElem_of_mem hd
    rw [List.length_drop] at hi
    have hi3 : n + i < ds.length := by omega
    have q := p3 (n + i) (by omega) hi3
    rw [getD_mem hi3] at q
    rw [← e, List.getElem_drop]
    exact lt_or (fun z => hs (z ▸ List.getElem_mem hi3)) q
  have hsplit : ds.take n ++ ds.drop n = ds := List.take_append_drop n ds
  refine ⟨?_, fun d => ?_⟩
  · have ha2 : ascC (ds.take n ++ ds.drop n) := by rw [hsplit]; exact ha
    obtain ⟨a1, a2, a3⟩ := List.pairwise_append.mp ha2
    refine List.pairwise_append.mpr ⟨List.pairwise_append.mpr ⟨a1, List.pairwise_singleton _ _, fun x hx y hy => ?_⟩, a2, fun x hx y hy => ?_⟩
    · rw [List.mem_singleton.mp hy]; exact t1 x hx
    · rcases List.mem_append.mp hx with hx | hx
      · exact a3 x hx y hy
      · rw [List.mem_singleton.mp hx]; exact t2 y hy
  · rw [List.mem_append, List.mem_append, List.mem_singleton]
    constructor
    · rintro ((h | h) | h)
      · exact .inl (List.mem_of_mem_take h)
      · exact .inr h
      · exact .inl (List.mem_of_mem_drop h)
    · rintro (h | h)
      · rw [← hsplit] at h
        rcases List.mem_append.mp h with h | h
        · exact .inl (.inl h)
        · exact .inr h
      · exact .inl (.inr h)
/-- sorted, without repeats: it ascends -/
theorem asc_srt (cs : List (List Int)) : ascC (residueF cs) := by
  unfold residueF
  have h1 := srtBy_pair ckD (dd cs)
  have h2 : (srtBy ckD (dd cs)).Nodup := (srtBy_perm ckD (dd cs)).nodup_iff.mpr (nodup_dd cs)
  refine List.pairwise_iff_getElem.mpr fun i j hi hj hij => ?_
  have a := List.pairwise_iff_getElem.mp h1 i j hi hj hij
  have b := List.pairwise_iff_getElem.mp h2 i j hi hj hij
  have a' : PySem.W.dataLt (ckD (srtBy ckD (dd cs))[j]) (ckD (srtBy ckD (dd cs))[i]) = false := by
    have z : (!PySem.W.dataLt (ckD (srtBy ckD (dd cs))[j]) (ckD (srtBy ckD (dd cs))[i])) = true := a
    cases w : PySem.W.dataLt (ckD (srtBy ckD (dd cs))[j]) (ckD (srtBy ckD (dd cs))[i]) with
    | false => rfl
    | true => rw [w] at z; cases z
  exact lt_or (Ne.symm b) a'
theorem mem_residueF {cs : List (List Int)} {d : List Int} : d ∈ residueF cs ↔ d ∈ cs := by unfold residueF; rw [mem_srtBy, mem_dd]
theorem asc_is {cs ds : List (List Int)} (h : ascC ds) (hm : ∀ d, d ∈ ds ↔ d ∈ cs) : ds = residueF cs := asc_unique h (asc_srt cs) fun d => by rw [hm, mem_residueF]
end Ky

namespace Ky
open PySem PySem.Spec PyProof.Rows L2
local macro_rules | `(tactic| walk_at "rd") => `(tactic| repeat (first
  | with_reducible refine w_seq ?_
  | with_reducible refine w_asg ?_
  | with_reducible refine w_ret ?_
  | with_reducible refine w_drop ?_
  | with_reducible refine w_ifs ?_
  | ((with_reducible refine' w_var ?hh ?_); (case hh => exact rfl))
  | with_reducible refine w_c ?_
  | with_reducible refine w_op ?_
  | with_reducible refine w_un ?_
  | with_reducible refine w_I0 ?_
  | with_reducible refine w_U ?_
  | with_reducible refine w_nil ?_
  | with_reducible refine w_cons ?_
  | with_reducible refine w_call ?_
  | with_reducible refine w_cb ?_
  | with_reducible refine w_test ?_
  | with_reducible refine w_B ?_
  | with_reducible refine w_bl ?_
  | with_reducible refine w_and ?_
  | with_reducible refine w_or ?_
  | with_reducible refine w_not ?_
  | with_reducible refine w_ife ?_
  | with_reducible refine w_gRd ?_
  | with_reducible refine w_andV ?_
  | with_reducible refine w_orV ?_
  | with_reducible refine w_notV ?_
  | with_reducible refine w_chain ?_
  | with_reducible refine w_din ?_
  | with_reducible refine w_isi_ii ?_
  | with_reducible refine w_isi_ib ?_
  | with_reducible refine w_isi_it ?_
  | with_reducible refine w_isi_st ?_
  | ((with_reducible refine w_isi_tt ?h1 ?_); (case h1 => first | assumption | exact upd_same))
  | with_reducible refine if_t rfl ?_
  | with_reducible refine if_f rfl ?_
  | with_reducible refine w_tup ?_
  | with_reducible refine w_lst ?_
  | with_reducible refine w_next ?_
  | with_reducible refine w_bm ?_
  | with_reducible refine w_sl ?_
  | with_reducible refine w_part ?_
  | with_reducible refine w_nop ?_
  | with_reducible refine w_isI ?_
  | with_reducible refine w_yes ?_
  | with_reducible refine w_gn ?_
  | with_reducible refine w_gsub ?_
  | ((with_reducible refine' w_setL ?h1 ?h2 ?_); (case h1 => first | assumption | exact upd_same); (case h2 => exact rfl))
  | with_reducible refine w_asgG ?_
  | with_reducible refine w_m1 ?_
  | with_reducible refine w_isS ?_
  | with_reducible refine w_tyS ?_
  | ((with_reducible refine' w_tyL ?h1 ?_); (case h1 => first | assumption | exact upd_same))
  | ((with_reducible refine' w_ixT ?h1 ?h2 ?_); (case h1 => first | assumption | exact upd_same); (case h2 => exact rfl))
  | ((with_reducible refine' w_ixL ?h1 ?h2 ?_); (case h1 => first | assumption | exact upd_same); (case h2 => exact rfl))
  | ((with_reducible refine w_eq ?h1 ?_); (case h1 => exact rfl))
  | ((with_reducible refine w_ne ?h1 ?_); (case h1 => exact rfl))
  | dsimp only [List.set_cons_zero, List.set_cons_succ, List.append_nil, List.cons_append, List.nil_append, cxOf]))

theorem inV_ints (n : Int) (ls : List Int) : inV (.int n) (ls.map V.int) = decide (n ∈ ls) := by
  unfold inV
  rw [List.any_map, Bool.eq_iff_iff, List.any_eq_true, decide_eq_true_eq]
  constructor
  · rintro ⟨y, hy, e⟩
    have e : y = n := by simpa [eqV] using e
    rw [← e]
    exact hy
  · intro h
    exact ⟨n, h, by simp [eqV]⟩
theorem flat_ints (ls : List Int) : (ls.map V.int).all flatV = true := by
  rw [List.all_map]
  exact List.all_eq_true.mpr fun x _ => rfl
section
variable {K : PySem.W.Frag} {H : Hp} {Q : VK} {b : Addr} {n : Int} {ls : List Int}
theorem w_inT (h : H b = some (.tup (ls.map V.int))) (q : Q (.bl (decide (n ∈ ls))) H) : rIn K false (.int n) (.ref b) H Q := ⟨b, _, rfl, .inr (SqT.of h), rfl, flat_ints ls, by rw [inV_ints, if_neg Bool.false_ne_true]; exact q⟩
theorem w_ninT (h : H b = some (.tup (ls.map V.int))) (q : Q (.bl (decide (n ∉ ls))) H) : rIn K true (.int n) (.ref b) H Q := ⟨b, _, rfl, .inr (SqT.of h), rfl, flat_ints ls, by rw [inV_ints, if_pos rfl]; rw [decide_not] at q; exact q⟩
end
theorem canLay_ints : ∀ ls : List Int, PyData.canLayAll0 (ls.map PyData.int) = true
  | [] => by simp [PyData.canLayAll0]
  | x :: xs => by
    rw [List.map_cons, PyData.canLayAll0, canLay_ints xs]
    simp [PyData.canLay0]
theorem shT_ints (ls : List Int) : SeqAt.shaped (.tuple (ls.map PyData.int)) = true := by
  unfold SeqAt.shaped
  simp only [PyData.canLay0, canLay_ints, Bool.true_and, PyData.depth, PySem.W.depth_ints]
  rfl
theorem eqvAll_ints : ∀ xs ys : List Int, PyData.eqvAll (xs.map PyData.int) (ys.map PyData.int) = decide (xs = ys)
  | [], [] => by simp [PyData.eqvAll]
  | [], y :: ys => by simp [PyData.eqvAll]
  | x :: xs, [] => by simp [PyData.eqvAll]
  | x :: xs, y :: ys => by
    rw [List.map_cons, List.map_cons, PyData.eqvAll, eqvAll_ints xs ys]
    simp only [PyData.eqv]
    by_cases h : x = y <;> by_cases h2 : xs = ys <;> simp [h, h2]
theorem eqv_ints (xs ys : List Int) : PyData.eqv (.tuple (xs.map PyData.int)) (.tuple (ys.map PyData.int)) = decide (xs = ys) := by
  simp only [PyData.eqv]
  exact eqvAll_ints xs ys
theorem dp_ints {K : PySem.W.Frag} {H : Hp} {b : Addr} {ls : List Int} (h : H b = some (.tup (ls.map V.int))) : Dp K H (.ref b) (.tuple (ls.map PyData.int)) := .tup (SqT.of h) (dpAll_ints ls)
theorem clsAt_upd {H : Hp} {D : Addr} {xs : List V} {o : HO} {ps : List Addr} {ds : List (List Int)} (h : ClsAt H ps ds) (hD : H D = some (.lst xs)) : ClsAt (upd H D o) ps ds := ⟨h.1, fun i b c h1 h2 => tup_upd hD (h.2 i b c h1 h2)⟩
theorem clsAt_ins {H : Hp} {ps : List Addr} {ds : List (List Int)} {s : Addr} {sh : List Int} (h : ClsAt H ps ds) (hs : H s = some (.tup (sh.map V.int))) (n : Nat) : ClsAt H (ps.take n ++ [s] ++ ps.drop n) (ds.take n ++ [sh] ++ ds.drop n) := by
  have e1 : ps = (ps.zip ds).map (·.1) := (List.map_fst_zip (by rw [h.1]; exact Nat.le_refl _)).symm
  have e2 : ds = (ps.zip ds).map (·.2) := (List.map_snd_zip (by rw [h.1]; exact Nat.le_refl _)).symm
  have q := clsAt_of (H := H) (zs := (ps.zip ds).take n ++ [(s, sh)] ++ (ps.zip ds).drop n) fun p hp => by
    rcases List.mem_append.mp hp with hp | hp
    · rcases List.mem_append.mp hp with hp | hp
      · exact clsAt_zip h p (List.mem_of_mem_take hp)
      · rw [List.mem_singleton.mp hp]; exact hs
    · exact clsAt_zip h p (List.mem_of_mem_drop hp)
  rw [List.map_append, List.map_append, List.map_append, List.map_append, List.map_take, List.map_drop, List.map_take, List.map_drop, ← e1, ← e2] at q
  exact q
/-- the clauses of a residue under a literal -/
def inUnder (cs : List (List Int)) (l : Int) (d : List Int) : Prop := ∃ c ∈ cs, l ∉ c ∧ c.filter (fun x => decide (x ≠ -l)) = d
def noBoth (c : List Int) : Prop := ∀ l, l ∈ c → -l ∉ c
def spUnder : Sp := fun vs H Q _ => ∃ (a : Addr) (bs : List Addr) (cs : List (List Int)) (l : Int), vs = [.ref a, .int l] ∧ H a = some (.tup (bs.map V.ref)) ∧ ClsAt H bs cs ∧ ascC cs ∧ cs.length ≤ 400 ∧ (∀ c ∈ cs, c.length ≤ 400 ∧ noBoth c) ∧
  ∀ p H' (bs' : List Addr) (ds : List (List Int)), ascC ds → (∀ d, d ∈ ds ↔ inUnder cs l d) → Kept H H' → H p = none → H' p = some (.tup (bs'.map V.ref)) → ClsAt H' bs' ds → Q (.ref p) H'
section
variable {P : Program} {w : World} {K : PySem.W.Frag} {mg : Str → Option Value} {base : Heap} {uG : Value} {f : Addr} {fd : FuncData}
end
end Ky

namespace Ky
open PySem PySem.Spec PyProof.Rows L2
local macro_rules | `(tactic| walk_at "rd") => `(tactic| repeat (first
  | with_reducible refine w_seq ?_
  | with_reducible refine w_asg ?_
  | with_reducible refine w_ret ?_
  | with_reducible refine w_drop ?_
  | with_reducible refine w_ifs ?_
  | ((with_reducible refine' w_var ?hh ?_); (case hh => exact rfl))
  | with_reducible refine w_c ?_
  | with_reducible refine w_op ?_
  | with_reducible refine w_un ?_
  | with_reducible refine w_I0 ?_
  | with_reducible refine w_U ?_
  | with_reducible refine w_nil ?_
  | with_reducible refine w_cons ?_
  | with_reducible refine w_call ?_
  | with_reducible refine w_cb ?_
  | with_reducible refine w_test ?_
  | with_reducible refine w_B ?_
  | with_reducible refine w_bl ?_
  | with_reducible refine w_and ?_
  | with_reducible refine w_or ?_
  | with_reducible refine w_not ?_
  | with_reducible refine w_ife ?_
  | with_reducible refine w_gRd ?_
  | with_reducible refine w_andV ?_
  | with_reducible refine w_orV ?_
  | with_reducible refine w_notV ?_
  | with_reducible refine w_chain ?_
  | with_reducible refine w_din ?_
  | with_reducible refine w_isi_ii ?_
  | with_reducible refine w_isi_ib ?_
  | with_reducible refine w_isi_it ?_
  | with_reducible refine w_isi_st ?_
  | ((with_reducible refine w_isi_tt ?h1 ?_); (case h1 => first | assumption | exact upd_same))
  | with_reducible refine if_t rfl ?_
  | with_reducible refine if_f rfl ?_
  | with_reducible refine w_tup ?_
  | with_reducible refine w_lst ?_
  | with_reducible refine w_next ?_
  | with_reducible refine w_bm ?_
  | with_reducible refine w_sl ?_
  | with_reducible refine w_part ?_
  | with_reducible refine w_nop ?_
  | with_reducible refine w_isI ?_
  | with_reducible refine w_yes ?_
  | with_reducible refine w_gn ?_
  | with_reducible refine w_gsub ?_
  | ((with_reducible refine' w_setL ?h1 ?h2 ?_); (case h1 => first | assumption | exact upd_same); (case h2 => exact rfl))
  | with_reducible refine w_asgG ?_
  | with_reducible refine w_m1 ?_
  | with_reducible refine w_isS ?_
  | with_reducible refine w_tyS ?_
  | ((with_reducible refine' w_tyL ?h1 ?_); (case h1 => first | assumption | exact upd_same))
  | ((with_reducible refine' w_ixT ?h1 ?h2 ?_); (case h1 => first | assumption | exact upd_same); (case h2 => exact rfl))
  | ((with_reducible refine' w_ixL ?h1 ?h2 ?_); (case h1 => first | assumption | exact upd_same); (case h2 => exact rfl))
  | ((with_reducible refine w_eq ?h1 ?_); (case h1 => exact rfl))
  | ((with_reducible refine w_ne ?h1 ?_); (case h1 => exact rfl))
  | dsimp only [List.set_cons_zero, List.set_cons_succ, List.append_nil, List.cons_append, List.nil_append, cxOf]))

def underF (cs : List (List Int)) (l : Int) : List (List Int) := residueF ((cs.filter fun c => decide (l ∉ c)).map fun c => c.filter fun x => decide (x ≠ -l))
theorem mem_underF {cs : List (List Int)} {l : Int} {d : List Int} : d ∈ underF cs l ↔ inUnder cs l d := by
  unfold underF inUnder
  rw [mem_residueF, List.mem_map]
  constructor
  · rintro ⟨c, h1, h2⟩
    obtain ⟨h1, h3⟩ := List.mem_filter.mp h1
    exact ⟨c, h1, of_decide_eq_true h3, h2⟩
  · rintro ⟨c, h1, h2, h3⟩
    exact ⟨c, List.mem_filter.mpr ⟨h1, decide_eq_true h2⟩, h3⟩
theorem underF_asc (cs : List (List Int)) (l : Int) : ascC (underF cs l) := asc_srt _
/-- a residue of small clauses -/
structure Small3 (cs : List (List Int)) : Prop where
  asc : ascC cs
  len : cs.length ≤ 400
  cl : ∀ c ∈ cs, c.length ≤ 400 ∧ noBoth c
theorem Small3.under {cs : List (List Int)} (h : Small3 cs) (l : Int) : Small3 (underF cs l) := by
  refine ⟨underF_asc cs l, ?_, fun d hd => ?_⟩
  · have h1 : (underF cs l).length ≤ cs.length := by
      unfold underF residueF
      rw [(srtBy_perm _ _).length_eq]
      refine Nat.le_trans (len_dd _) ?_
      rw [List.length_map]
      exact List.length_filter_le _ _
    exact Nat.le_trans h1 h.len
  · obtain ⟨c, h1, _, h3⟩ := mem_underF.mp hd
    obtain ⟨h4, h5⟩ := h.cl c h1
    rw [← h3]
    exact ⟨Nat.le_trans (List.length_filter_le _ _) h4, fun k hk hk2 => h5 k (List.mem_filter.mp hk).1 (List.mem_filter.mp hk2).1⟩
def spUnderAll : Sp := fun vs H Q _ => ∃ (a b : Addr) (bs : List Addr) (cs : List (List Int)) (ls : List Int), vs = [.ref a, .ref b] ∧ H a = some (.tup (bs.map V.ref)) ∧ ClsAt H bs cs ∧ Small3 cs ∧ H b = some (.lst (ls.map V.int)) ∧
  ∀ p H' (bs' : List Addr), Kept H H' → H' p = some (.tup (bs'.map V.ref)) → ClsAt H' bs' (ls.foldl underF cs) → Q (.ref p) H'
section
variable {P : Program} {w : World} {K : PySem.W.Frag} {mg : Str → Option Value} {base : Heap} {uG : Value} {f : Addr} {fd : FuncData}
/-! ### the law's own -/
/-- rows in the order of their data, each still what it was -/
theorem sort_at {γ : Type} (g : γ → PyData) (R : Addr → γ → Prop) {bs : List Addr} {cs : List γ} (hl : bs.length = cs.length) (h : ∀ (i : Nat) (b : Addr) (c : γ), bs[i]? = some b → cs[i]? = some c → R b c) :
    ∃ bs' : List Addr, sortD (bs.map V.ref) (cs.map g) = bs'.map V.ref ∧ bs'.length = (srtBy g cs).length ∧ ∀ (i : Nat) (b : Addr) (c : γ), bs'[i]? = some b → (srtBy g cs)[i]? = some c → R b c := by
  have e1 : bs = (bs.zip cs).map (·.1) := (List.map_fst_zip (by omega)).symm
  have e2 : cs = (bs.zip cs).map (·.2) := (List.map_snd_zip (by omega)).symm
  have hz : ∀ p ∈ bs.zip cs, R p.1 p.2 := fun p hp => by
    obtain ⟨i, hi⟩ := List.mem_iff_getElem?.mp hp
    rw [List.getElem?_zip_eq_some] at hi
    exact h i _ _ hi.1 hi.2
  have q2 := srtBy_map (fun p : Addr × γ => p.2) g (bs.zip cs)
  rw [← e2] at q2
  refine ⟨(srtBy (fun p : Addr × γ => g p.2) (bs.zip cs)).map (·.1), ?_, by rw [← q2, List.length_map, List.length_map], fun i b c h1 h2 => ?_⟩
  · have q := sortD_map (fun p : Addr × γ => V.ref p.1) (fun p : Addr × γ => g p.2) (bs.zip cs)
    have a1 : (bs.zip cs).map (fun p : Addr × γ => V.ref p.1) = bs.map V.ref := by
      conv => rhs; rw [e1]
      rw [List.map_map] <;> rfl
    have a2 : (bs.zip cs).map (fun p : Addr × γ => g p.2) = cs.map g := by
      conv => rhs; rw [e2]
      rw [List.map_map] <;> rfl
    rw [a1, a2] at q
    rw [q, List.map_map] <;> rfl
  · rw [← q2] at h2
    rw [List.getElem?_map] at h1 h2
    obtain ⟨p, hp, rfl⟩ := Option.map_eq_some_iff.mp h1
    rw [hp] at h2
    cases h2
    exact hz p (mem_srtBy.mp (List.mem_of_getElem? hp))
theorem mulW {i j : Int} (hi : i.natAbs < 2 ^ 64) (hj : j.natAbs < 2 ^ 64) : CMulW i j := by
  have h1 := PySem.Flt.log2_lt_of (by decide) hi
  have h2 := PySem.Flt.log2_lt_of (by decide) hj
  unfold CMulW
  omega
def spLClause : Sp := fun vs H Q _ => ∃ (a : Addr) (ls : List Int), vs = [.ref a] ∧ H a = some (.lst (ls.map V.int)) ∧ ls.length ≤ 1000 ∧ (∀ n ∈ ls, n.natAbs < 2 ^ 60) ∧ ∀ p H', Kept H H' → H p = none → H' p = some (.tup ((srtBy keyD ls).map V.int)) → Q (.ref p) H'
theorem sgn_back (n : Int) : absI n * (2 * sgI n - 1) = n := by
  unfold absI sgI
  by_cases h : n < 0
  · rw [if_pos h, if_neg (by omega)]
    omega
  · rw [if_neg h]
    by_cases h2 : n > 0
    · rw [if_pos h2]; omega
    · rw [if_neg h2]
      have : n = 0 := by omega
      subst this
      rfl
end
def pairD (c : List Int) : PyData := .tuple [.list (c.map keyD), .tuple (c.map .int)]
theorem ck_listL (a b : List Int) : PySem.W.dataLt (.list (a.map keyD)) (.list (b.map keyD)) = PySem.W.dataLt (ckD a) (ckD b) := by
  unfold ckD
  rw [PySem.W.dataLt_list, PySem.W.dataLt_tuple]
theorem key_eqv : ∀ a b : List Int, PyData.eqvAll (a.map keyD) (b.map keyD) = decide (a = b)
  | [], [] => by simp [PyData.eqvAll]
  | [], y :: ys => by simp [PyData.eqvAll]
  | x :: xs, [] => by simp [PyData.eqvAll]
  | x :: xs, y :: ys => by
    rw [List.map_cons, List.map_cons, PyData.eqvAll, key_eqv xs ys]
    have e : PyData.eqv (keyD x) (keyD y) = decide (x = y) := by
      by_cases h : x = y
      · subst h
        simp [keyD, PyData.eqv, PyData.eqvAll]
      · rw [decide_eq_false h]
        simp only [keyD, PyData.eqv, PyData.eqvAll, Bool.and_true]
        refine Bool.eq_false_iff.mpr fun z => h ?_
        rw [Bool.and_eq_true] at z
        exact key_inj (by simpa using z.1) (by simpa using z.2)
    rw [e]
    by_cases h : x = y <;> by_cases h2 : xs = ys <;> simp [h, h2]
theorem ints_alike : ∀ a b : List Int, PySem.W.alike (.tuple (a.map PyData.int)) (.tuple (b.map PyData.int)) = true := fun a b => by
  simp only [PySem.W.alike]
  exact PySem.W.alike_ints a b
theorem keysL_alike (a b : List Int) : PySem.W.alike (.list (a.map keyD)) (.list (b.map keyD)) = true := by
  have q := ckD_alike a b
  unfold ckD at q
  simp only [PySem.W.alike] at q ⊢
  exact q
theorem pair_lt (a b : List Int) : PySem.W.dataLt (pairD a) (pairD b) = PySem.W.dataLt (ckD a) (ckD b) := by
  unfold pairD
  rw [PySem.W.dataLt_pair (keysL_alike a b) (ints_alike a b), ck_listL]
  have e : PyData.eqv (.list (a.map keyD)) (.list (b.map keyD)) = decide (a = b) := by
    simp only [PyData.eqv]
    exact key_eqv a b
  rw [e, eqv_ints]
  by_cases h : a = b
  · subst h
    simp [lt_irr]
  · simp [h]
theorem pair_alike (a b : List Int) : PySem.W.alike (pairD a) (pairD b) = true := by
  unfold pairD
  simp only [PySem.W.alike, PySem.W.alikeAll]
  have q1 := keysL_alike a b
  have q2 := ints_alike a b
  simp only [PySem.W.alike] at q1 q2
  rw [q1, q2]
  rfl
theorem pair_depth (a : List Int) : (pairD a).depth ≤ 60 := by
  have h1 : (ckD a).depth ≤ 4 := by
    have aux : ∀ a : List Int, PyData.depthAll (a.map keyD) ≤ 2 := by
      intro a
      induction a with
      | nil => simp [PyData.depthAll]
      | cons x a ih =>
        rw [List.map_cons, PyData.depthAll]
        have h1 : (keyD x).depth ≤ 2 := by simp [keyD, PyData.depth, PyData.depthAll]
        omega
    unfold ckD
    simp only [PyData.depth]
    have := aux a
    omega
  unfold ckD at h1
  unfold pairD
  simp only [PyData.depth, PyData.depthAll, PySem.W.depth_ints] at h1 ⊢
  omega
theorem srt_pair (cs : List (List Int)) : srtBy pairD cs = srtBy ckD cs := srtBy_congr fun a _ b _ => pair_lt a b
end Ky

namespace Ky
open PySem PySem.Spec PyProof.Rows L2
local macro_rules | `(tactic| walk_at "rd") => `(tactic| repeat (first
  | with_reducible refine w_seq ?_
  | with_reducible refine w_asg ?_
  | with_reducible refine w_ret ?_
  | with_reducible refine w_drop ?_
  | with_reducible refine w_ifs ?_
  | ((with_reducible refine' w_var ?hh ?_); (case hh => exact rfl))
  | with_reducible refine w_c ?_
  | with_reducible refine w_op ?_
  | with_reducible refine w_un ?_
  | with_reducible refine w_I0 ?_
  | with_reducible refine w_U ?_
  | with_reducible refine w_nil ?_
  | with_reducible refine w_cons ?_
  | with_reducible refine w_call ?_
  | with_reducible refine w_cb ?_
  | with_reducible refine w_test ?_
  | with_reducible refine w_B ?_
  | with_reducible refine w_bl ?_
  | with_reducible refine w_and ?_
  | with_reducible refine w_or ?_
  | with_reducible refine w_not ?_
  | with_reducible refine w_ife ?_
  | with_reducible refine w_gRd ?_
  | with_reducible refine w_andV ?_
  | with_reducible refine w_orV ?_
  | with_reducible refine w_notV ?_
  | with_reducible refine w_chain ?_
  | with_reducible refine w_din ?_
  | with_reducible refine w_isi_ii ?_
  | with_reducible refine w_isi_ib ?_
  | with_reducible refine w_isi_it ?_
  | with_reducible refine w_isi_st ?_
  | ((with_reducible refine w_isi_tt ?h1 ?_); (case h1 => first | assumption | exact upd_same))
  | with_reducible refine if_t rfl ?_
  | with_reducible refine if_f rfl ?_
  | with_reducible refine w_tup ?_
  | with_reducible refine w_lst ?_
  | with_reducible refine w_next ?_
  | with_reducible refine w_bm ?_
  | with_reducible refine w_sl ?_
  | with_reducible refine w_part ?_
  | with_reducible refine w_nop ?_
  | with_reducible refine w_isI ?_
  | with_reducible refine w_yes ?_
  | with_reducible refine w_gn ?_
  | with_reducible refine w_gsub ?_
  | ((with_reducible refine' w_setL ?h1 ?h2 ?_); (case h1 => first | assumption | exact upd_same); (case h2 => exact rfl))
  | with_reducible refine w_asgG ?_
  | with_reducible refine w_m1 ?_
  | with_reducible refine w_isS ?_
  | with_reducible refine w_tyS ?_
  | ((with_reducible refine' w_tyL ?h1 ?_); (case h1 => first | assumption | exact upd_same))
  | ((with_reducible refine' w_ixT ?h1 ?h2 ?_); (case h1 => first | assumption | exact upd_same); (case h2 => exact rfl))
  | ((with_reducible refine' w_ixL ?h1 ?h2 ?_); (case h1 => first | assumption | exact upd_same); (case h2 => exact rfl))
  | ((with_reducible refine w_eq ?h1 ?_); (case h1 => exact rfl))
  | ((with_reducible refine w_ne ?h1 ?_); (case h1 => exact rfl))
  | dsimp only [List.set_cons_zero, List.set_cons_succ, List.append_nil, List.cons_append, List.nil_append, cxOf]))

section
variable {K : PySem.W.Frag} {a : Addr} {σ : L2.St} {H : Hp} {Q : VK} {i0 j : Nat}
/-- [key(x) for x in e], e a tuple of numbers -/
theorem rd_keys {ls : List Int} (hσ : σ[i0]? = some (some (.ref a))) (hj : j < σ.length) (ha : H a = some (.tup (ls.map V.int))) (hz : ls.length < sizeLine)
    (k : ∀ D (qs : List Addr) H', Kept H H' → H D = none → H' D = some (.lst (qs.map V.ref)) → qs.length = ls.length → (∀ (i : Nat) (q : Addr) (n : Int), qs[i]? = some q → ls[i]? = some n → H' q = some (.tup (keyV n))) → Q (.ref D) H') :
    tLc (iTup K (tVar i0)) (gName j) tYes (tCall spKey [] E0 (tCons (tVar j) tNil)) [j] σ H Q := by
  refine ⟨_, hσ, a, rfl, ⟨_, SqT.of ha⟩, fun D hD => ?_⟩
  refine c_tup (xs := ls.map V.int) (fun i H1 => ∃ qs : List Addr, H1 D = some (.lst (qs.map V.ref)) ∧ Kept H H1 ∧ qs.length = i ∧ ∀ (j : Nat) (q : Addr) (n : Int), qs[j]? = some q → ls[j]? = some n → H1 q = some (.tup (keyV n))) ⟨[], upd_same, Kept.new hD, rfl, fun j q n h => by simp at h⟩ (fun i H1 _ h => by
    obtain ⟨_, _, k1, _⟩ := h
    exact SqT.of (k1.tup ha)) (fun i x H1 hx h => ?_) fun H1 h => ?_
  · obtain ⟨qs, h1, h2, h3, h4⟩ := h
    obtain ⟨n, rfl, hn⟩ := map_int hx
    have hi : i < ls.length := (List.getElem?_eq_some_iff.mp hn).1
    refine ⟨wipe_one, w_yes (if_t rfl (w_call (w_cons ⟨_, var_set hj, w_nil ?_⟩)))⟩
    refine ⟨n, rfl, fun p hp => ?_⟩
    have kN := Kept.new (o := .tup (keyV n)) hp
    have hD4 := kN.lst h1
    refine ⟨qs.map V.ref, hD4, by rw [List.length_map, h3]; omega, qs ++ [p], by rw [List.map_append]; exact upd_same, Kept.mut (h2.trans kN) hD, by rw [List.length_append, h3] <;> rfl, fun j q m hq hm => ?_⟩
    by_cases hj : j < qs.length
    · rw [List.getElem?_append_left hj] at hq
      exact tup_upd hD4 (kN.tup (h4 j q m hq hm))
    · have hj2 : j < (qs ++ [p]).length := (List.getElem?_eq_some_iff.mp hq).1
      rw [List.length_append] at hj2
      have ej : j = qs.length := by
        have : j < qs.length + 1 := hj2
        omega
      subst ej
      have eq : q = p := by simpa using hq.symm
      subst eq
      rw [h3, hn] at hm
      cases hm
      exact tup_upd hD4 upd_same
  · obtain ⟨qs, h1, h2, h3, h4⟩ := h
    rw [List.length_map] at h3
    exact k D qs H1 h2 hD h1 h3 h4
end
/-- a pair (list of keys, clause) at t -/
def PairAt (H : Hp) (D b t : Addr) (c : List Int) : Prop := ∃ (q : Addr) (qs : List Addr), q ≠ D ∧ H t = some (.tup [.ref q, .ref b]) ∧ H q = some (.lst (qs.map V.ref)) ∧ qs.length = c.length ∧ (∀ (i : Nat) (r : Addr) (n : Int), qs[i]? = some r → c[i]? = some n → H r = some (.tup (keyV n))) ∧ H b = some (.tup (c.map V.int))
theorem PairAt.kept {H H' : Hp} {D b t : Addr} {c : List Int} (h : PairAt H D b t c) (k : Kept H H') : PairAt H' D b t c := by
  obtain ⟨q, qs, n, h1, h2, h3, h4, h5⟩ := h
  exact ⟨q, qs, n, k.tup h1, k.lst h2, h3, fun i r m a b => k.tup (h4 i r m a b), k.tup h5⟩
theorem PairAt.updL {H : Hp} {D b t : Addr} {c : List Int} {xs : List V} {o : HO} (h : PairAt H D b t c) (hD : H D = some (.lst xs)) : PairAt (upd H D o) D b t c := by
  obtain ⟨q, qs, n, h1, h2, h3, h4, h5⟩ := h
  exact ⟨q, qs, n, tup_upd hD h1, by rw [upd_ne n]; exact h2, h3, fun i r m a b => tup_upd hD (h4 i r m a b), tup_upd hD h5⟩
theorem PairAt.dp {K : PySem.W.Frag} {H : Hp} {D b t : Addr} {c : List Int} (h : PairAt H D b t c) : Dp K H (.ref t) (pairD c) := by
  obtain ⟨q, qs, n, h1, h2, h3, h4, h5⟩ := h
  refine .tup (SqT.of h1) (.cons (.lst (SqL.of h2) (dpAll_of (by rw [List.length_map, List.length_map, h3]) fun i x d hx hd => ?_)) (.cons (dp_ints h5) .nil))
  rw [List.getElem?_map] at hx hd
  obtain ⟨r, hr, rfl⟩ := Option.map_eq_some_iff.mp hx
  obtain ⟨m, hm, rfl⟩ := Option.map_eq_some_iff.mp hd
  exact dp_key (h4 i r m hr hm)
def spLSorted : Sp := fun vs H Q _ => ∃ (a : Addr) (bs : List Addr) (cs : List (List Int)), vs = [.ref a] ∧ H a = some (.lst (bs.map V.ref)) ∧ ClsAt H bs cs ∧ cs.length ≤ 1000 ∧ (∀ c ∈ cs, c.length ≤ 1000) ∧
  ∀ p H' bs', Kept H H' → H p = none → H' p = some (.lst (bs'.map V.ref)) → ClsAt H' bs' (srtBy ckD cs) → Q (.ref p) H'
section
variable {P : Program} {w : World} {K : PySem.W.Frag} {mg : Str → Option Value} {base : Heap} {uG : Value} {f : Addr} {fd : FuncData}
theorem asc_srtN {ds : List (List Int)} (h0 : ds.Nodup) : ascC (srtBy ckD ds) := by
  have h1 := srtBy_pair ckD ds
  have h2 : (srtBy ckD ds).Nodup := (srtBy_perm ckD ds).nodup_iff.mpr h0
  refine List.pairwise_iff_getElem.mpr fun i j hi hj hij => ?_
  have a := List.pairwise_iff_getElem.mp h1 i j hi hj hij
  have b := List.pairwise_iff_getElem.mp h2 i j hi hj hij
  have a' : PySem.W.dataLt (ckD (srtBy ckD ds)[j]) (ckD (srtBy ckD ds)[i]) = false := by
    have z : (!PySem.W.dataLt (ckD (srtBy ckD ds)[j]) (ckD (srtBy ckD ds)[i])) = true := a
    cases w : PySem.W.dataLt (ckD (srtBy ckD ds)[j]) (ckD (srtBy ckD ds)[i]) with
    | false => rfl
    | true => rw [w] at z; cases z
  exact lt_or (Ne.symm b) a'
def rowD (c : List Int) : PyData := .tuple (c.map .int)
theorem canLay_rows : ∀ ds : List (List Int), PyData.canLayAll0 (ds.map rowD) = true
  | [] => by simp [PyData.canLayAll0]
  | x :: xs => by
    rw [List.map_cons, PyData.canLayAll0, canLay_rows xs]
    simp only [rowD, PyData.canLay0, canLay_ints, Bool.and_self]
theorem depth_rows : ∀ ds : List (List Int), PyData.depthAll (ds.map rowD) ≤ 2
  | [] => by simp [PyData.depthAll]
  | x :: xs => by
    rw [List.map_cons, PyData.depthAll]
    have h1 := depth_rows xs
    have h2 : (rowD x).depth ≤ 2 := by
      simp only [rowD, PyData.depth, PySem.W.depth_ints]
      omega
    omega
theorem shL_rows (ds : List (List Int)) : SeqAt.shaped (.list (ds.map rowD)) = true := by
  have h1 := depth_rows ds
  have h2 : PyData.depth (.list (ds.map rowD)) ≤ 64 := by
    simp only [PyData.depth]
    omega
  show (PyData.canLay0 (.list (ds.map rowD)) && decide (PyData.depth (.list (ds.map rowD)) ≤ 64)) = true
  rw [Bool.and_eq_true]
  exact ⟨by simp only [PyData.canLay0]; exact canLay_rows ds, decide_eq_true h2⟩
theorem any_rows (s : List Int) (ds : List (List Int)) : ((ds.map rowD).any fun z => PyData.eqv z (.tuple (s.map PyData.int))) = decide (s ∈ ds) := by
  rw [List.any_map, Bool.eq_iff_iff, List.any_eq_true, decide_eq_true_eq]
  constructor
  · rintro ⟨y, hy, e⟩
    have e : PyData.eqv (.tuple (y.map PyData.int)) (.tuple (s.map PyData.int)) = true := e
    rw [eqv_ints, decide_eq_true_eq] at e
    rw [← e]
    exact hy
  · intro h
    refine ⟨s, h, ?_⟩
    show PyData.eqv (.tuple (s.map PyData.int)) (.tuple (s.map PyData.int)) = true
    rw [eqv_ints]
    exact decide_eq_true rfl
theorem w_ninL {K : PySem.W.Frag} {H : Hp} {Q : VK} {D s : Addr} {ps : List Addr} {ds : List (List Int)} {sh : List Int} (hD : H D = some (.lst (ps.map V.ref))) (hp : ClsAt H ps ds) (hs : H s = some (.tup (sh.map V.int))) (q : Q (.bl (decide (sh ∉ ds))) H) : rNotInD K (.ref s) (.ref D) H Q := by
  refine ⟨_, ds.map rowD, dp_ints hs, .lst (SqL.of hD) (dpAll_of (by rw [List.length_map, List.length_map, hp.1]) fun i x d hx hd => ?_), shT_ints sh, shL_rows ds, by rw [any_rows]; rw [decide_not] at q; exact q⟩
  rw [List.getElem?_map] at hx hd
  obtain ⟨b, hb, rfl⟩ := Option.map_eq_some_iff.mp hx
  obtain ⟨c, hc, rfl⟩ := Option.map_eq_some_iff.mp hd
  exact dp_ints (hp.2 i b c hb hc)
def spLGiven : Sp := fun vs H Q _ => ∃ (a : Addr) (bs : List Addr) (cs : List (List Int)) (l : Int), vs = [.ref a, .int l] ∧ H a = some (.tup (bs.map V.ref)) ∧ ClsAt H bs cs ∧ cs.length ≤ 400 ∧ (∀ c ∈ cs, c.length ≤ 400) ∧
  ∀ p H' bs', Kept H H' → H p = none → H' p = some (.tup (bs'.map V.ref)) → ClsAt H' bs' (underF cs l) → Q (.ref p) H'
end
end Ky

namespace Ky
open PySem PySem.Spec PyProof.Rows L2
local macro_rules | `(tactic| walk_at "rd") => `(tactic| repeat (first
  | with_reducible refine w_seq ?_
  | with_reducible refine w_asg ?_
  | with_reducible refine w_ret ?_
  | with_reducible refine w_drop ?_
  | with_reducible refine w_ifs ?_
  | ((with_reducible refine' w_var ?hh ?_); (case hh => exact rfl))
  | with_reducible refine w_c ?_
  | with_reducible refine w_op ?_
  | with_reducible refine w_un ?_
  | with_reducible refine w_I0 ?_
  | with_reducible refine w_U ?_
  | with_reducible refine w_nil ?_
  | with_reducible refine w_cons ?_
  | with_reducible refine w_call ?_
  | with_reducible refine w_cb ?_
  | with_reducible refine w_test ?_
  | with_reducible refine w_B ?_
  | with_reducible refine w_bl ?_
  | with_reducible refine w_and ?_
  | with_reducible refine w_or ?_
  | with_reducible refine w_not ?_
  | with_reducible refine w_ife ?_
  | with_reducible refine w_gRd ?_
  | with_reducible refine w_andV ?_
  | with_reducible refine w_orV ?_
  | with_reducible refine w_notV ?_
  | with_reducible refine w_chain ?_
  | with_reducible refine w_din ?_
  | with_reducible refine w_isi_ii ?_
  | with_reducible refine w_isi_ib ?_
  | with_reducible refine w_isi_it ?_
  | with_reducible refine w_isi_st ?_
  | ((with_reducible refine w_isi_tt ?h1 ?_); (case h1 => first | assumption | exact upd_same))
  | with_reducible refine if_t rfl ?_
  | with_reducible refine if_f rfl ?_
  | with_reducible refine w_tup ?_
  | with_reducible refine w_lst ?_
  | with_reducible refine w_next ?_
  | with_reducible refine w_bm ?_
  | with_reducible refine w_sl ?_
  | with_reducible refine w_part ?_
  | with_reducible refine w_nop ?_
  | with_reducible refine w_isI ?_
  | with_reducible refine w_yes ?_
  | with_reducible refine w_gn ?_
  | with_reducible refine w_gsub ?_
  | ((with_reducible refine' w_setL ?h1 ?h2 ?_); (case h1 => first | assumption | exact upd_same); (case h2 => exact rfl))
  | with_reducible refine w_asgG ?_
  | with_reducible refine w_m1 ?_
  | with_reducible refine w_isS ?_
  | with_reducible refine w_tyS ?_
  | ((with_reducible refine' w_tyL ?h1 ?_); (case h1 => first | assumption | exact upd_same))
  | ((with_reducible refine' w_ixT ?h1 ?h2 ?_); (case h1 => first | assumption | exact upd_same); (case h2 => exact rfl))
  | ((with_reducible refine' w_ixL ?h1 ?h2 ?_); (case h1 => first | assumption | exact upd_same); (case h2 => exact rfl))
  | ((with_reducible refine w_eq ?h1 ?_); (case h1 => exact rfl))
  | ((with_reducible refine w_ne ?h1 ?_); (case h1 => exact rfl))
  | dsimp only [List.set_cons_zero, List.set_cons_succ, List.append_nil, List.cons_append, List.nil_append, cxOf]))

section
variable {P : Program} {w : World} {K : PySem.W.Frag} {mg : Str → Option Value} {base : Heap} {uG : Value} {f : Addr} {fd : FuncData}
theorem shLi (ls : List Int) : SeqAt.shaped (.list (ls.map PyData.int)) = true := by
  unfold SeqAt.shaped
  simp only [PyData.canLay0, canLay_ints, Bool.true_and, PyData.depth, PySem.W.depth_ints]
  rfl
def spLKeeps : Sp := fun vs H Q _ => ∃ (a b : Addr) (bs : List Addr) (cs : List (List Int)) (fs : List Int), vs = [.ref a, .ref b] ∧ H a = some (.tup (bs.map V.ref)) ∧ ClsAt H bs cs ∧ (∀ c ∈ cs, c.length ≤ 1000) ∧ H b = some (.tup (fs.map V.int)) ∧ ∀ H', Kept H H' → Q (.bl (cs.all fun c => c.any fun x => decide (x ∈ fs))) H'
def spLLits : Sp := fun vs H Q _ => ∃ (d c : Addr), vs = [.ref d] ∧ DrwC d c H ∧ ∀ (p : Addr) H' (ls : List Int), H p = none → KeptC d c H H' → H' p = some (.lst (ls.map V.int)) → ls.length ≤ 4 → (∀ n ∈ ls, isLit n = true) → Q (.ref p) H'
end
end Ky

namespace Ky
open PySem PySem.Spec PyProof.Rows L2
/-! ### mathematics for the law -/
theorem range_all {α : Type} (d : α) (p : α → Bool) (xs : List α) : ((List.range xs.length).all fun i => p (xs.getD i d)) = xs.all p := by
  rw [Bool.eq_iff_iff, List.all_eq_true, List.all_eq_true]
  constructor
  · intro h x hx
    obtain ⟨i, hi, e⟩ := List.getElem_of_mem hx
    have q := h i (List.mem_range.mpr hi)
    rw [List.getD_eq_getElem?_getD, List.getElem?_eq_getElem hi, e] at q
    exact q
  · intro h i hi
    have hi := List.mem_range.mp hi
    rw [List.getD_eq_getElem?_getD, List.getElem?_eq_getElem hi]
    exact h _ (List.getElem_mem hi)
theorem range_any {α : Type} (d : α) (p : α → Bool) (xs : List α) : ((List.range xs.length).any fun i => p (xs.getD i d)) = xs.any p := by
  have h := range_all d (fun x => !p x) xs
  rw [← Bool.not_inj_iff, List.not_any_eq_all_not, List.not_any_eq_all_not]
  exact h
theorem keep1_any (fs c : List Int) : keep1 fs c = c.any fun x => decide (x ∈ fs) := by
  unfold keep1
  rw [List.length_map]
  exact range_any 0 (fun x => decide (x ∈ fs)) c
theorem keepsF_all (cs : List (List Int)) (fs : List Int) : keepsF cs fs = cs.all fun c => c.any fun x => decide (x ∈ fs) := by
  unfold keepsF
  rw [range_all [] (keep1 fs) cs]
  congr 1
  funext c
  exact keep1_any fs c
theorem ascD_pair {ds : List PyData} (h : ds.Pairwise fun a b => PySem.W.dataLt a b = true) : ascD ds = true := by
  unfold ascD
  refine List.all_eq_true.mpr fun j hj => ?_
  have hj := List.mem_range.mp hj
  have h1 : j < ds.length := by omega
  have h2 : j + 1 < ds.length := by omega
  rw [List.getD_eq_getElem?_getD, List.getElem?_eq_getElem h1, List.getD_eq_getElem?_getD, List.getElem?_eq_getElem h2]
  exact List.pairwise_iff_getElem.mp h j (j + 1) h1 h2 (by omega)
theorem ascD_not {ds : List PyData} {j : Nat} (h2 : j + 1 < ds.length) (h : PySem.W.dataLt (ds.getD j .none) (ds.getD (j + 1) .none) = false) : ascD ds = false := by
  unfold ascD
  exact List.all_eq_false.mpr ⟨j, List.mem_range.mpr (by omega), by rw [h]; exact Bool.false_ne_true⟩
theorem isClauseF_all (ls : List Int) : isClauseF ls = (ls.all isLit && ascD (ls.map fun n => .int (absI n))) := by
  unfold isClauseF
  rw [List.length_map, range_all 0 isLit ls]
theorem isResidueF_all (cs : List (List Int)) : isResidueF cs = (cs.all isClauseF && ascD (cs.map ckD)) := by
  unfold isResidueF
  rw [range_all [] isClauseF cs]
/-- a residue that ascends, of clauses, is one -/
theorem isResidueF_asc {cs : List (List Int)} (h : ascC cs) (hc : ∀ c ∈ cs, isClauseF c = true) : isResidueF cs = true := by
  rw [isResidueF_all, List.all_eq_true.mpr hc, Bool.true_and]
  exact ascD_pair (List.pairwise_map.mpr h)
/-- + 1000 is no clause -/
theorem isClauseF_big (ls : List Int) : isClauseF (ls ++ [1000]) = false := by
  rw [isClauseF_all, List.all_append]
  have e : List.all [(1000 : Int)] isLit = false := by decide
  rw [e, Bool.and_false, Bool.false_and]
theorem bothS_no {ls : List Int} (h : bothS ls = false) : noBoth ls := by
  unfold bothS at h
  rw [List.length_map, range_any 0 (fun x => decide (-x ∈ ls)) ls, List.any_eq_false] at h
  intro l hl hl2
  exact h l hl (decide_eq_true hl2)
theorem keyD_lt (a b : Int) : PySem.W.dataLt (keyD a) (keyD b) = if absI a = absI b then decide (sgI a < sgI b) else decide (absI a < absI b) := by
  unfold keyD
  rw [PySem.W.dataLt_pair (by simp [PySem.W.alike]) (by simp [PySem.W.alike]), PySem.W.dataLt_int, PySem.W.dataLt_int]
  simp only [PyData.eqv, beq_iff_eq]
  by_cases h : absI a = absI b
  · rw [if_pos h, if_pos h]
    by_cases h2 : sgI a = sgI b
    · rw [if_pos h2, h2]
      simp
    · rw [if_neg h2]
  · rw [if_neg h, if_neg h]
theorem absI_eq {a b : Int} (h : absI a = absI b) : a = b ∨ a = -b := by
  unfold absI at h
  split at h <;> split at h <;> omega
/-- sorted by key, without repeats and without both signs: it ascends in size -/
theorem clause_asc {ls : List Int} (hn : ls.Nodup) (hb : noBoth ls) : (srtBy keyD ls).Pairwise fun a b => absI a < absI b := by
  have h1 := srtBy_pair keyD ls
  have h2 : (srtBy keyD ls).Nodup := (srtBy_perm keyD ls).nodup_iff.mpr hn
  refine List.pairwise_iff_getElem.mpr fun i j hi hj hij => ?_
  have a := List.pairwise_iff_getElem.mp h1 i j hi hj hij
  have b := List.pairwise_iff_getElem.mp h2 i j hi hj hij
  have m1 : (srtBy keyD ls)[i] ∈ ls := mem_srtBy.mp (List.getElem_mem hi)
  have m2 : (srtBy keyD ls)[j] ∈ ls := mem_srtBy.mp (List.getElem_mem hj)
  generalize (srtBy keyD ls)[i] = x at a b m1 ⊢
  generalize (srtBy keyD ls)[j] = y at a b m2 ⊢
  have a : (!PySem.W.dataLt (keyD y) (keyD x)) = true := a
  rw [keyD_lt] at a
  have ne : absI y ≠ absI x := fun e => by
    rcases absI_eq e with e | e
    · exact b e.symm
    · exact hb x m1 (e ▸ m2)
  rw [if_neg ne] at a
  have a' : ¬ absI y < absI x := by simpa using a
  omega
theorem abs_asc {ls : List Int} (h : ls.Pairwise fun a b => absI a < absI b) : ascD (ls.map fun n => .int (absI n)) = true :=
  ascD_pair (List.pairwise_map.mpr (h.imp fun {a b} q => by rw [PySem.W.dataLt_int, decide_eq_true q]))
/-- what the law makes of literals is a clause -/
theorem isClauseF_srt {ls : List Int} (hn : ls.Nodup) (hb : noBoth ls) (hl : ∀ n ∈ ls, isLit n = true) : isClauseF (srtBy keyD ls) = true := by
  rw [isClauseF_all, abs_asc (clause_asc hn hb), Bool.and_true]
  exact List.all_eq_true.mpr fun n hn => hl n (mem_srtBy.mp hn)
/-- and backward it is none, if it has two -/
theorem isClauseF_rev {ls : List Int} (h : ls.Pairwise fun a b => absI a < absI b) (h2 : 2 ≤ ls.length) : isClauseF ls.reverse = false := by
  rw [isClauseF_all]
  have q : ascD (ls.reverse.map fun n => .int (absI n)) = false := by
    refine ascD_not (j := 0) (by rw [List.length_map, List.length_reverse]; omega) ?_
    have l1 : 0 < (ls.reverse.map fun n => PyData.int (absI n)).length := by rw [List.length_map, List.length_reverse]; omega
    have l2 : 0 + 1 < (ls.reverse.map fun n => PyData.int (absI n)).length := by rw [List.length_map, List.length_reverse]; omega
    rw [List.getD_eq_getElem?_getD, List.getElem?_eq_getElem l1, List.getD_eq_getElem?_getD, List.getElem?_eq_getElem l2]
    simp only [Option.getD_some, List.getElem_map, List.getElem_reverse, PySem.W.dataLt_int]
    have q := List.pairwise_iff_getElem.mp h (ls.length - 1 - 1) (ls.length - 1 - 0) (by omega) (by omega) (by omega)
    refine decide_eq_false ?_
    have e : ls.length - 1 - (0 + 1) = ls.length - 1 - 1 := by omega
    simp only [e]
    omega
  rw [q, Bool.and_false]
theorem isResidueF_end {ys : List (List Int)} {u v : List Int} (h : PySem.W.dataLt (ckD u) (ckD v) = false) : isResidueF (ys ++ [u, v]) = false := by
  rw [isResidueF_all]
  have q : ascD ((ys ++ [u, v]).map ckD) = false := by
    have e : (ys ++ [u, v]).map ckD = ys.map ckD ++ [ckD u, ckD v] := by rw [List.map_append] <;> rfl
    rw [e]
    refine ascD_not (j := (ys.map ckD).length) (by rw [List.length_append]; simp) ?_
    rw [List.getD_eq_getElem?_getD, List.getD_eq_getElem?_getD, List.getElem?_append_right (Nat.le_refl _), List.getElem?_append_right (Nat.le_succ _), Nat.sub_self, Nat.succ_sub (Nat.le_refl _), Nat.sub_self]
    exact h
  rw [q, Bool.and_false]
theorem last_of {α : Type} : ∀ {xs : List α}, 0 < xs.length → ∃ ys u, xs = ys ++ [u]
  | [], h => by simp at h
  | x :: xs, _ => by
    cases xs with
    | nil => exact ⟨[], x, rfl⟩
    | cons y t =>
      obtain ⟨ys, u, e⟩ := last_of (xs := y :: t) (by simp)
      exact ⟨x :: ys, u, by rw [e] <;> rfl⟩
/-- the last doubled -/
theorem isResidueF_dbl {cs : List (List Int)} (h : 0 < cs.length) : isResidueF (cs ++ cs.drop (cs.length - 1)) = false := by
  obtain ⟨ys, u, rfl⟩ := last_of h
  have e : (ys ++ [u]).drop ((ys ++ [u]).length - 1) = [u] := by
    rw [List.length_append]
    show List.drop (ys.length + 1 - 1) _ = _
    rw [Nat.add_sub_cancel, List.drop_left]
  rw [e, List.append_assoc]
  exact isResidueF_end (lt_irr _)
/-- the first at the end -/
theorem isResidueF_rot {cs : List (List Int)} (ha : ascC cs) (h : 1 < cs.length) : isResidueF (cs.drop 1 ++ cs.take 1) = false := by
  cases cs with
  | nil => simp at h
  | cons a t =>
    obtain ⟨ys, u, rfl⟩ := last_of (xs := t) (by simpa using h)
    obtain ⟨p1, _⟩ := List.pairwise_cons.mp ha
    have q := p1 u (List.mem_append_right _ List.mem_cons_self)
    show isResidueF ((ys ++ [u]) ++ [a]) = false
    rw [List.append_assoc]
    exact isResidueF_end (dataLt_asym q)
/-- two lists that ascend with the same members are one -/
theorem intAsc_unique : ∀ {xs ys : List Int}, xs.Pairwise (· < ·) → ys.Pairwise (· < ·) → (∀ d, d ∈ xs ↔ d ∈ ys) → xs = ys
  | [], [], _, _, _ => rfl
  | [], y :: ys, _, _, h => absurd ((h y).mpr List.mem_cons_self) (by simp)
  | x :: xs, [], _, _, h => absurd ((h x).mp List.mem_cons_self) (by simp)
  | x :: xs, y :: ys, hx, hy, h => by
    obtain ⟨x1, x2⟩ := List.pairwise_cons.mp hx
    obtain ⟨y1, y2⟩ := List.pairwise_cons.mp hy
    have e : x = y := by
      rcases List.mem_cons.mp ((h x).mp List.mem_cons_self) with e | e
      · exact e
      · rcases List.mem_cons.mp ((h y).mpr List.mem_cons_self) with e2 | e2
        · exact e2.symm
        · have a := y1 x e
          have b := x1 y e2
          omega
    subst e
    have nx : x ∉ xs := fun z => by
      have := x1 x z
      omega
    have ny : x ∉ ys := fun z => by
      have := y1 x z
      omega
    rw [intAsc_unique x2 y2 fun d => ⟨fun z => ((List.mem_cons.mp ((h d).mp (List.mem_cons_of_mem _ z))).resolve_left fun e => nx (e ▸ z)), fun z => ((List.mem_cons.mp ((h d).mpr (List.mem_cons_of_mem _ z))).resolve_left fun e => ny (e ▸ z))⟩]
theorem noBoth_srt {ls : List Int} (h : noBoth ls) : noBoth (srtBy keyD ls) := fun l h1 h2 => h l (mem_srtBy.mp h1) (mem_srtBy.mp h2)
theorem small3_res {cs : List (List Int)} (hl : cs.length ≤ 400) (hc : ∀ c ∈ cs, c.length ≤ 400 ∧ noBoth c) : Small3 (residueF cs) := by
  refine ⟨asc_srt cs, ?_, fun c h => hc c (mem_residueF.mp h)⟩
  unfold residueF
  rw [(srtBy_perm _ _).length_eq]
  exact Nat.le_trans (len_dd _) hl
theorem isResidueF_res {cs : List (List Int)} (h : ∀ c ∈ cs, isClauseF c = true) : isResidueF (residueF cs) = true := isResidueF_asc (asc_srt cs) fun c hc => h c (mem_residueF.mp hc)
/-- a list's own without repeats, in any order, sorted: the residue -/
theorem srt_once {cs ds : List (List Int)} (hn : ds.Nodup) (hm : ∀ d, d ∈ ds ↔ d ∈ cs) : srtBy ckD ds = residueF cs := asc_is (asc_srtN hn) fun d => by rw [mem_srtBy, hm]
/-- one more of `[xs[j] for j .. if xs[j] not in xs[:j]]` -/
theorem once_step {α : Type} [DecidableEq α] {xs ds : List α} {j : Nat} {x : α} (hx : xs[j]? = some x) (hn : ds.Nodup) (hm : ∀ d, d ∈ ds ↔ d ∈ xs.take j) :
    (x ∉ xs.take j → (ds ++ [x]).Nodup ∧ ∀ d, d ∈ ds ++ [x] ↔ d ∈ xs.take (j + 1)) ∧ (x ∈ xs.take j → ∀ d, d ∈ ds ↔ d ∈ xs.take (j + 1)) := by
  have et : xs.take (j + 1) = xs.take j ++ [x] := by rw [List.take_add_one, hx]; rfl
  refine ⟨fun h => ⟨?_, fun d => ?_⟩, fun h d => ?_⟩
  · exact List.nodup_append.mpr ⟨hn, by simp, fun y hy z hz => by rw [List.mem_singleton.mp hz]; exact fun e => h ((hm x).mp (e ▸ hy))⟩
  · rw [et, List.mem_append, List.mem_append, hm]
  · rw [et, List.mem_append, hm, List.mem_singleton]
    exact ⟨.inl, fun h2 => h2.elim id fun e => e ▸ h⟩
/-- two lists that ascend by size with the same members are one -/
theorem absAsc_unique {m : Int → Int} : ∀ {xs ys : List Int}, (xs.Pairwise fun a b => m a < m b) → (ys.Pairwise fun a b => m a < m b) → (∀ d, d ∈ xs ↔ d ∈ ys) → xs = ys
  | [], [], _, _, _ => rfl
  | [], y :: ys, _, _, h => absurd ((h y).mpr List.mem_cons_self) (by simp)
  | x :: xs, [], _, _, h => absurd ((h x).mp List.mem_cons_self) (by simp)
  | x :: xs, y :: ys, hx, hy, h => by
    obtain ⟨x1, x2⟩ := List.pairwise_cons.mp hx
    obtain ⟨y1, y2⟩ := List.pairwise_cons.mp hy
    have e : x = y := by
      rcases List.mem_cons.mp ((h x).mp List.mem_cons_self) with e | e
      · exact e
      · rcases List.mem_cons.mp ((h y).mpr List.mem_cons_self) with e2 | e2
        · exact e2.symm
        · have a := y1 x e
          have b := x1 y e2
          omega
    subst e
    have nx : x ∉ xs := fun z => by
      have := x1 x z
      omega
    have ny : x ∉ ys := fun z => by
      have := y1 x z
      omega
    rw [absAsc_unique x2 y2 fun d => ⟨fun z => ((List.mem_cons.mp ((h d).mp (List.mem_cons_of_mem _ z))).resolve_left fun e => nx (e ▸ z)), fun z => ((List.mem_cons.mp ((h d).mpr (List.mem_cons_of_mem _ z))).resolve_left fun e => ny (e ▸ z))⟩]
/-- the clause of literals, from any list of them without repeats -/
theorem clauseF_once {ls ds : List Int} (hb : noBoth ls) (hn : ds.Nodup) (hm : ∀ d, d ∈ ds ↔ d ∈ ls) : srtBy keyD ds = clauseF ls := by
  unfold clauseF
  have hb1 : noBoth ds := fun l h1 h2 => hb l ((hm l).mp h1) ((hm _).mp h2)
  have hb2 : noBoth (dd ls) := fun l h1 h2 => hb l (mem_dd.mp h1) (mem_dd.mp h2)
  exact absAsc_unique (m := absI) (clause_asc hn hb1) (clause_asc (nodup_dd ls) hb2) fun d => by rw [mem_srtBy, mem_srtBy, mem_dd, hm]
end Ky

namespace Ky
open PySem PySem.Spec PyProof.Rows L2
/-! ### steps for the law's walk -/
theorem c_rangeU {lo : Int} {n : Nat} {Body : V → Hp → (Hp → Prop) → Prop} {Qd : Hp → Prop} {H0 : Hp} (Pv : Nat → Hp → Prop) (h0 : Pv 0 H0) (step : ∀ i H, i < n → Pv i H → Body (.int (lo + i)) H (Pv (i + 1))) (fin : ∀ H, Pv n H → Qd H) :
    ∃ W : Nat → Nat → Hp → Prop, (∃ m, W 0 m H0) ∧ ∀ i m H, W i m H → ((Itr lo n).stop i H ∧ Qd H) ∨ ((Itr lo n).go i H ∧ ∃ Nx : Hp → Prop, (∀ H', Nx H' → ∃ m', m' < m ∧ W (i + 1) m' H') ∧ ∀ x H', (Itr lo n).yld i H x H' → Body x H' Nx) :=
  c_walk (xv := fun i => .int (lo + i)) Pv h0 (fun i H h _ => h) (fun i H x H' _ _ h => h) (fun H _ => Nat.le_refl n) step fin
theorem cut_to (xs : List V) (j : Nat) (h : j ≤ xs.length) : cutV xs none (some (j : Int)) = xs.take j := by
  unfold cutV
  rw [HT.sIx_none, HT.sIx_nat, Nat.min_eq_left h, Nat.sub_zero]
  rfl
theorem cut_of (xs : List V) (j : Nat) (h : j ≤ xs.length) : cutV xs (some (j : Int)) none = xs.drop j := by
  unfold cutV
  rw [HT.sIx_none, HT.sIx_nat, Nat.min_eq_left h]
  exact List.take_of_length_le (by rw [List.length_drop]; exact Nat.le_refl _)
theorem any_ints (n : Int) (ls : List Int) : ((ls.map PyData.int).any fun z => PyData.eqv z (.int n)) = decide (n ∈ ls) := by
  rw [List.any_map, Bool.eq_iff_iff, List.any_eq_true, decide_eq_true_eq]
  constructor
  · rintro ⟨y, hy, e⟩
    have e : PyData.eqv (.int y) (.int n) = true := e
    have e : y = n := by simpa [PyData.eqv] using e
    rw [← e]
    exact hy
  · intro h
    refine ⟨n, h, ?_⟩
    show PyData.eqv (.int n) (.int n) = true
    simp [PyData.eqv]
section
variable {K : PySem.W.Frag} {H : Hp} {Q : VK} {D s a b : Addr} {n : Int} {xs ys : List Int}
theorem dl_ints (h : H b = some (.lst (xs.map V.int))) : Dp K H (.ref b) (.list (xs.map PyData.int)) := .lst (SqL.of h) (dpAll_ints xs)
theorem sh_int (n : Int) : SeqAt.shaped (.int n) = true := by
  unfold SeqAt.shaped
  simp only [PyData.canLay0, PyData.depth, Bool.true_and]
  rfl
theorem sh_none : SeqAt.shaped .none = true := by
  unfold SeqAt.shaped
  simp only [PyData.canLay0, PyData.depth, Bool.true_and]
  rfl
theorem w_ninLI (hD : H D = some (.lst (xs.map V.int))) (q : Q (.bl (decide (n ∉ xs))) H) : rNotInD K (.int n) (.ref D) H Q :=
  ⟨_, _, .int n, dl_ints hD, sh_int n, shLi xs, by rw [any_ints]; rw [decide_not] at q; exact q⟩
theorem w_neLL (ha : H a = some (.lst (xs.map V.int))) (hb : H b = some (.lst (ys.map V.int))) (q : Q (.bl (!decide (xs = ys))) H) : rNeD K (.ref a) (.ref b) H Q := by
  refine ⟨_, _, dl_ints ha, dl_ints hb, shLi xs, shLi ys, ?_⟩
  have e : PyData.eqv (.list (xs.map PyData.int)) (.list (ys.map PyData.int)) = decide (xs = ys) := by
    simp only [PyData.eqv]
    exact eqvAll_ints xs ys
  rw [e]
  exact q
theorem w_neTT (ha : H a = some (.tup (xs.map V.int))) (hb : H b = some (.tup (ys.map V.int))) (q : Q (.bl (!decide (xs = ys))) H) : rNeD K (.ref a) (.ref b) H Q :=
  ⟨_, _, dp_ints ha, dp_ints hb, shT_ints xs, shT_ints ys, by rw [eqv_ints]; exact q⟩
theorem w_neNN (q : Q (.bl false) H) : rNeD K .non .non H Q := ⟨_, _, .non, .non, sh_none, sh_none, by rw [show PyData.eqv .none .none = true by simp [PyData.eqv]]; exact q⟩
/-- keys, in a tuple of pairs -/
def KeysAt (H : Hp) (ps : List Addr) (ls : List Int) : Prop := ps.length = ls.length ∧ ∀ (i : Nat) (q : Addr) (n : Int), ps[i]? = some q → ls[i]? = some n → H q = some (.tup (keyV n))
theorem dp_keys {ps : List Addr} (hp : KeysAt H ps xs) (h : H a = some (.tup (ps.map V.ref))) : Dp K H (.ref a) (ckD xs) := by
  refine .tup (SqT.of h) (dpAll_of (by rw [List.length_map, List.length_map, hp.1]) fun i x d hx hd => ?_)
  rw [List.getElem?_map] at hx hd
  obtain ⟨q, hq, rfl⟩ := Option.map_eq_some_iff.mp hx
  obtain ⟨n, hn, rfl⟩ := Option.map_eq_some_iff.mp hd
  exact dp_key (hp.2 i q n hq hn)
end
theorem canLay_keys : ∀ ls : List Int, PyData.canLayAll0 (ls.map keyD) = true
  | [] => by simp [PyData.canLayAll0]
  | x :: xs => by
    rw [List.map_cons, PyData.canLayAll0, canLay_keys xs]
    simp [keyD, PyData.canLay0, PyData.canLayAll0]
theorem depth_keys : ∀ ls : List Int, PyData.depthAll (ls.map keyD) ≤ 2
  | [] => by simp [PyData.depthAll]
  | x :: xs => by
    rw [List.map_cons, PyData.depthAll]
    have h1 := depth_keys xs
    have h2 : (keyD x).depth ≤ 2 := by
      simp [keyD, PyData.depth, PyData.depthAll]
    omega
theorem sh_keys (ls : List Int) : SeqAt.shaped (ckD ls) = true := by
  have h1 := depth_keys ls
  have h2 : PyData.depth (ckD ls) ≤ 64 := by
    simp only [ckD, PyData.depth]
    omega
  show (PyData.canLay0 (ckD ls) && decide (PyData.depth (ckD ls) ≤ 64)) = true
  rw [Bool.and_eq_true]
  exact ⟨by simp only [ckD, PyData.canLay0]; exact canLay_keys ls, decide_eq_true h2⟩
theorem shT_rows (ds : List (List Int)) : SeqAt.shaped (.tuple (ds.map rowD)) = true := by
  have h1 := depth_rows ds
  have h2 : PyData.depth (.tuple (ds.map rowD)) ≤ 64 := by
    simp only [PyData.depth]
    omega
  show (PyData.canLay0 (.tuple (ds.map rowD)) && decide (PyData.depth (.tuple (ds.map rowD)) ≤ 64)) = true
  rw [Bool.and_eq_true]
  exact ⟨by simp only [PyData.canLay0]; exact canLay_rows ds, decide_eq_true h2⟩
theorem eqvAll_rows : ∀ xs ys : List (List Int), PyData.eqvAll (xs.map rowD) (ys.map rowD) = decide (xs = ys)
  | [], [] => by simp [PyData.eqvAll]
  | [], y :: ys => by simp [PyData.eqvAll]
  | x :: xs, [] => by simp [PyData.eqvAll]
  | x :: xs, y :: ys => by
    rw [List.map_cons, List.map_cons, PyData.eqvAll, eqvAll_rows xs ys]
    have e : PyData.eqv (rowD x) (rowD y) = decide (x = y) := eqv_ints x y
    rw [e]
    by_cases h : x = y <;> by_cases h2 : xs = ys <;> simp [h, h2]
section
variable {K : PySem.W.Frag} {H : Hp} {Q : VK} {a b : Addr} {n : Int} {xs ys : List Int} {cs ds : List (List Int)} {ps qs : List Addr}
theorem w_neKK {xs ys : List Int} (h1 : KeysAt H ps xs) (ha : H a = some (.tup (ps.map V.ref))) (h2 : KeysAt H qs ys) (hb : H b = some (.tup (qs.map V.ref))) (q : Q (.bl (!decide (xs = ys))) H) : rNeD K (.ref a) (.ref b) H Q := by
  refine ⟨_, _, dp_keys h1 ha, dp_keys h2 hb, sh_keys xs, sh_keys ys, ?_⟩
  have e : PyData.eqv (ckD xs) (ckD ys) = decide (xs = ys) := by
    simp only [ckD, PyData.eqv]
    exact key_eqv xs ys
  rw [e]
  exact q
theorem w_neK {n m : Int} (ha : H a = some (.tup (keyV n))) (hb : H b = some (.tup (keyV m))) (q : Q (.bl (!decide (n = m))) H) : rNeD K (.ref a) (.ref b) H Q := by
  refine ⟨_, _, dp_key ha, dp_key hb, ?_, ?_, ?_⟩
  · exact shT_ints [absI n, sgI n]
  · exact shT_ints [absI m, sgI m]
  · have e := key_eqv [n] [m]
    simp only [List.map_cons, List.map_nil, PyData.eqvAll, Bool.and_true, List.cons.injEq, and_true] at e
    rw [e]
    exact q
theorem dp_rows (h1 : ClsAt H ps cs) (ha : H a = some (.tup (ps.map V.ref))) : Dp K H (.ref a) (.tuple (cs.map rowD)) := by
  refine .tup (SqT.of ha) (dpAll_of (by rw [List.length_map, List.length_map, h1.1]) fun i x d hx hd => ?_)
  rw [List.getElem?_map] at hx hd
  obtain ⟨b, hb, rfl⟩ := Option.map_eq_some_iff.mp hx
  obtain ⟨c, hc, rfl⟩ := Option.map_eq_some_iff.mp hd
  exact dp_ints (h1.2 i b c hb hc)
theorem w_neCC (h1 : ClsAt H ps cs) (ha : H a = some (.tup (ps.map V.ref))) (h2 : ClsAt H qs ds) (hb : H b = some (.tup (qs.map V.ref))) (q : Q (.bl (!decide (cs = ds))) H) : rNeD K (.ref a) (.ref b) H Q := by
  refine ⟨_, _, dp_rows h1 ha, dp_rows h2 hb, shT_rows cs, shT_rows ds, ?_⟩
  have e : PyData.eqv (.tuple (cs.map rowD)) (.tuple (ds.map rowD)) = decide (cs = ds) := by
    simp only [PyData.eqv]
    exact eqvAll_rows cs ds
  rw [e]
  exact q
end
theorem filt_one {α : Type} (p : α → Bool) (xs : List α) (j : Nat) (x : α) (hx : xs[j]? = some x) : (xs.take (j + 1)).filter p = (xs.take j).filter p ++ if p x = true then [x] else [] := by
  rw [List.take_add_one, hx, List.filter_append]
  by_cases h : p x = true
  · rw [if_pos h]
    show _ ++ List.filter p [x] = _
    rw [List.filter_cons_of_pos h] <;> rfl
  · rw [if_neg h]
    show _ ++ List.filter p [x] = _
    rw [List.filter_cons_of_neg h] <;> rfl
theorem bothS_filter (ls : List Int) : (!decide (ls.filter (fun x => decide (-x ∈ ls)) = [])) = bothS ls := by
  unfold bothS
  rw [List.length_map, range_any 0 (fun x => decide (-x ∈ ls)) ls]
  cases e : ls.any fun x => decide (-x ∈ ls) with
  | true =>
    obtain ⟨x, h1, h2⟩ := List.any_eq_true.mp e
    have hne : ls.filter (fun x => decide (-x ∈ ls)) ≠ [] := List.ne_nil_of_mem (List.mem_filter.mpr ⟨h1, h2⟩)
    rw [decide_eq_false hne] <;> rfl
  | false =>
    have hn : ls.filter (fun x => decide (-x ∈ ls)) = [] := List.filter_eq_nil_iff.mpr fun x hx hy => by
      rw [List.any_eq_false] at e
      exact e x hx hy
    rw [decide_eq_true hn] <;> rfl
theorem dd_len_le (ls : List Int) : (dd ls).length ≤ ls.length := len_dd ls
section
variable {K : PySem.W.Frag} {H : Hp} {Q : VK} {D s a b : Addr} {n : Int} {xs ys : List Int} {cs ds : List (List Int)} {ps qs : List Addr}
theorem w_inL (h : H b = some (.lst (xs.map V.int))) (q : Q (.bl (decide (n ∈ xs))) H) : rIn K false (.int n) (.ref b) H Q := ⟨b, _, rfl, .inl (SqL.of h), rfl, flat_ints xs, by rw [inV_ints, if_neg Bool.false_ne_true]; exact q⟩
theorem w_ninLn (h : H b = some (.lst (xs.map V.int))) (q : Q (.bl (decide (n ∉ xs))) H) : rIn K true (.int n) (.ref b) H Q := ⟨b, _, rfl, .inl (SqL.of h), rfl, flat_ints xs, by rw [inV_ints, if_pos rfl]; rw [decide_not] at q; exact q⟩
theorem w_sLL (ha : H a = some (.lst (xs.map V.int))) (hb : H b = some (.lst (xs.map V.int))) (q : Q (.bl false) H) : rNeD K (.ref a) (.ref b) H Q := w_neLL ha hb (by rw [decide_eq_true rfl]; exact q)
theorem w_sTT (ha : H a = some (.tup (xs.map V.int))) (hb : H b = some (.tup (xs.map V.int))) (q : Q (.bl false) H) : rNeD K (.ref a) (.ref b) H Q := w_neTT ha hb (by rw [decide_eq_true rfl]; exact q)
theorem w_sKK (h1 : KeysAt H ps xs) (ha : H a = some (.tup (ps.map V.ref))) (h2 : KeysAt H qs xs) (hb : H b = some (.tup (qs.map V.ref))) (q : Q (.bl false) H) : rNeD K (.ref a) (.ref b) H Q := w_neKK h1 ha h2 hb (by rw [decide_eq_true rfl]; exact q)
theorem w_sK (ha : H a = some (.tup (keyV n))) (hb : H b = some (.tup (keyV n))) (q : Q (.bl false) H) : rNeD K (.ref a) (.ref b) H Q := w_neK ha hb (by rw [decide_eq_true rfl]; exact q)
theorem w_sCC (h1 : ClsAt H ps cs) (ha : H a = some (.tup (ps.map V.ref))) (h2 : ClsAt H qs cs) (hb : H b = some (.tup (qs.map V.ref))) (q : Q (.bl false) H) : rNeD K (.ref a) (.ref b) H Q := w_neCC h1 ha h2 hb (by rw [decide_eq_true rfl]; exact q)
end
theorem ClsAt.keptC {d c : Addr} {H H' : Hp} {bs : List Addr} {cs : List (List Int)} (h : ClsAt H bs cs) (k : KeptC d c H H') (hd : DrwC d c H) : ClsAt H' bs cs := ⟨h.1, fun i b x h1 h2 => k.tup hd (h.2 i b x h1 h2)⟩
theorem clsAt_snoc {H : Hp} {bs : List Addr} {cs : List (List Int)} {b : Addr} {x : List Int} (h : ClsAt H bs cs) (hb : H b = some (.tup (x.map V.int))) : ClsAt H (bs ++ [b]) (cs ++ [x]) := by
  refine ⟨by rw [List.length_append, List.length_append, h.1] <;> rfl, fun j q d hq hd => ?_⟩
  by_cases hj : j < bs.length
  · rw [List.getElem?_append_left hj] at hq
    rw [List.getElem?_append_left (by rw [← h.1]; exact hj)] at hd
    exact h.2 j q d hq hd
  · rw [List.getElem?_append_right (by omega)] at hq
    rw [List.getElem?_append_right (by rw [← h.1]; omega)] at hd
    rw [← h.1] at hd
    cases z : j - bs.length with
    | zero =>
      rw [z] at hq hd
      cases hq
      cases hd
      exact hb
    | succ m =>
      rw [z] at hq
      simp at hq
theorem clsAt_pick {H : Hp} {bs : List Addr} {cs : List (List Int)} (h : ClsAt H bs cs) {L : List Nat} (hL : ∀ i ∈ L, i < cs.length) : ClsAt H (L.map fun i => bs.getD i 0) (L.map fun i => cs.getD i []) := by
  refine ⟨by rw [List.length_map, List.length_map], fun j q d hq hd => ?_⟩
  rw [List.getElem?_map] at hq hd
  obtain ⟨i, hi, rfl⟩ := Option.map_eq_some_iff.mp hq
  rw [hi] at hd
  cases hd
  have hlt := hL i (List.mem_of_getElem? hi)
  refine h.2 i _ _ (?_ : bs[i]? = some (bs.getD i 0)) (?_ : cs[i]? = some (cs.getD i []))
  · rw [List.getD_eq_getElem?_getD, List.getElem?_eq_getElem (by rw [h.1]; exact hlt)] <;> rfl
  · rw [List.getD_eq_getElem?_getD, List.getElem?_eq_getElem hlt] <;> rfl
/-- the places that are first -/
def onceIx {α : Type} [DecidableEq α] (d : α) (xs : List α) : List Nat := (List.range xs.length).filter fun i => decide (xs.getD i d ∉ xs.take i)
theorem once_all {α : Type} [DecidableEq α] (d : α) (xs : List α) : ((onceIx d xs).map fun i => xs.getD i d).Nodup ∧ ∀ x, x ∈ ((onceIx d xs).map fun i => xs.getD i d) ↔ x ∈ xs := by
  have h : ∀ m, m ≤ xs.length → ((((List.range m).filter fun i => decide (xs.getD i d ∉ xs.take i))).map fun i => xs.getD i d).Nodup ∧ ∀ x, x ∈ ((((List.range m).filter fun i => decide (xs.getD i d ∉ xs.take i))).map fun i => xs.getD i d) ↔ x ∈ xs.take m := by
    intro m
    induction m with
    | zero => intro _; exact ⟨List.nodup_nil, fun x => by simp⟩
    | succ m ih =>
      intro hm
      obtain ⟨i1, i2⟩ := ih (by omega)
      have hx : xs[m]? = some xs[m] := List.getElem?_eq_getElem hm
      have e : xs.getD m d = xs[m] := by rw [List.getD_eq_getElem?_getD, hx] <;> rfl
      obtain ⟨s1, s2⟩ := once_step hx i1 i2
      rw [List.range_succ, List.filter_append, List.map_append]
      by_cases hp : xs[m] ∉ xs.take m
      · rw [List.filter_cons_of_pos (by rw [e]; exact decide_eq_true hp), List.filter_nil, List.map_cons, List.map_nil, e]
        exact s1 hp
      · rw [List.filter_cons_of_neg (by rw [e, decide_eq_false hp]; exact Bool.false_ne_true), List.filter_nil, List.map_nil, List.append_nil]
        exact ⟨i1, s2 (Classical.not_not.mp hp)⟩
  obtain ⟨h1, h2⟩ := h _ (Nat.le_refl _)
  rw [List.take_length] at h2
  exact ⟨h1, h2⟩
theorem onceIx_len {α : Type} [DecidableEq α] (d : α) (xs : List α) : (onceIx d xs).length ≤ xs.length := by
  have h := List.length_filter_le (fun i => decide (xs.getD i d ∉ xs.take i)) (List.range xs.length)
  rw [List.length_range] at h
  exact h
theorem onceIx_lt {α : Type} [DecidableEq α] (d : α) (xs : List α) : ∀ i ∈ onceIx d xs, i < xs.length := fun i hi => List.mem_range.mp (List.mem_filter.mp hi).1
/-- a clause that the law makes -/
def GoodC (x : List Int) : Prop := ∃ ls : List Int, ls.Nodup ∧ noBoth ls ∧ (∀ n ∈ ls, isLit n = true) ∧ ls.length ≤ 4 ∧ x = srtBy keyD ls
theorem GoodC.clause {x : List Int} (h : GoodC x) : isClauseF x = true := by
  obtain ⟨ls, h1, h2, h3, _, rfl⟩ := h
  exact isClauseF_srt h1 h2 h3
theorem GoodC.len {x : List Int} (h : GoodC x) : x.length ≤ 4 := by
  obtain ⟨ls, _, _, _, h4, rfl⟩ := h
  rw [(srtBy_perm keyD ls).length_eq]
  exact h4
theorem GoodC.nob {x : List Int} (h : GoodC x) : noBoth x := by
  obtain ⟨ls, _, h2, _, _, rfl⟩ := h
  exact noBoth_srt h2
theorem GoodC.asc {x : List Int} (h : GoodC x) : x.Pairwise fun a b => absI a < absI b := by
  obtain ⟨ls, h1, h2, _, _, rfl⟩ := h
  exact clause_asc h1 h2
theorem GoodC.lit {x : List Int} (h : GoodC x) : ∀ n ∈ x, isLit n = true := by
  obtain ⟨ls, _, _, h3, _, rfl⟩ := h
  exact fun n hn => h3 n (mem_srtBy.mp hn)
theorem GoodC.back {x : List Int} (h : GoodC x) : isClauseF x.reverse = decide (x.length < 2) := by
  by_cases hl : x.length < 2
  · rw [decide_eq_true hl]
    have e : x.reverse = x := by
      match x, hl with
      | [], _ => rfl
      | [a], _ => rfl
      | a :: b :: t, hl => exact absurd hl (by simp only [List.length_cons]; omega)
    rw [e]
    exact h.clause
  · rw [decide_eq_false hl]
    exact isClauseF_rev h.asc (by omega)
theorem back_range (x : List Int) : (List.range x.length).map (fun i => x.getD (x.length - 1 - i) 0) = x.reverse := by
  refine List.ext_getElem (by simp) fun i h1 h2 => ?_
  rw [List.getElem_map, List.getElem_range, List.getElem_reverse]
  have h3 : i < x.length := by simpa using h2
  rw [List.getD_eq_getElem?_getD, List.getElem?_eq_getElem (by omega)] <;> rfl
theorem lit_small {n : Int} (h : isLit n = true) : n.natAbs < 2 ^ 60 := by
  unfold isLit isVar absI at h
  rw [Bool.and_eq_true, decide_eq_true_eq, decide_eq_true_eq] at h
  split at h <;> omega
theorem srt_ints {ns : List Int} (h : ns.Nodup) : (srtBy PyData.int ns).Pairwise (· < ·) := by
  have h1 := srtBy_pair PyData.int ns
  have h2 : (srtBy PyData.int ns).Nodup := (srtBy_perm PyData.int ns).nodup_iff.mpr h
  refine List.pairwise_iff_getElem.mpr fun i j hi hj hij => ?_
  have a := List.pairwise_iff_getElem.mp h1 i j hi hj hij
  have b := List.pairwise_iff_getElem.mp h2 i j hi hj hij
  have a : (!PySem.W.dataLt (.int (srtBy PyData.int ns)[j]) (.int (srtBy PyData.int ns)[i])) = true := a
  rw [PySem.W.dataLt_int] at a
  have a : ¬ (srtBy PyData.int ns)[j] < (srtBy PyData.int ns)[i] := by simpa using a
  omega
theorem clsAt_zipOf {H : Hp} {bs : List Addr} {cs : List (List Int)} (zs : List (Addr × List Int)) (hb : zs.map (·.1) = bs) (hc : zs.map (·.2) = cs) (h : ∀ p ∈ zs, H p.1 = some (.tup (p.2.map V.int))) : ClsAt H bs cs := by
  subst hb hc
  exact clsAt_of h
theorem ClsAt.fst {H : Hp} {bs : List Addr} {cs : List (List Int)} (h : ClsAt H bs cs) : (bs.zip cs).map (·.1) = bs := List.map_fst_zip (by rw [h.1]; exact Nat.le_refl _)
theorem ClsAt.snd {H : Hp} {bs : List Addr} {cs : List (List Int)} (h : ClsAt H bs cs) : (bs.zip cs).map (·.2) = cs := List.map_snd_zip (by rw [h.1]; exact Nat.le_refl _)
theorem ClsAt.take {H : Hp} {bs : List Addr} {cs : List (List Int)} (h : ClsAt H bs cs) (n : Nat) : ClsAt H (bs.take n) (cs.take n) :=
  clsAt_zipOf ((bs.zip cs).take n) (by rw [List.map_take, h.fst]) (by rw [List.map_take, h.snd]) fun p hp => clsAt_zip h p (List.mem_of_mem_take hp)
theorem ClsAt.drop {H : Hp} {bs : List Addr} {cs : List (List Int)} (h : ClsAt H bs cs) (n : Nat) : ClsAt H (bs.drop n) (cs.drop n) :=
  clsAt_zipOf ((bs.zip cs).drop n) (by rw [List.map_drop, h.fst]) (by rw [List.map_drop, h.snd]) fun p hp => clsAt_zip h p (List.mem_of_mem_drop hp)
theorem ClsAt.app {H : Hp} {bs bs2 : List Addr} {cs cs2 : List (List Int)} (h : ClsAt H bs cs) (h2 : ClsAt H bs2 cs2) : ClsAt H (bs ++ bs2) (cs ++ cs2) :=
  clsAt_zipOf (bs.zip cs ++ bs2.zip cs2) (by rw [List.map_append, h.fst, h2.fst]) (by rw [List.map_append, h.snd, h2.snd]) fun p hp => (List.mem_append.mp hp).elim (clsAt_zip h p) (clsAt_zip h2 p)
theorem flat_len : ∀ {cs : List (List Int)} {n : Nat}, (∀ c ∈ cs, c.length ≤ n) → cs.flatten.length ≤ n * cs.length
  | [], n, _ => by simp
  | c :: cs, n, h => by
    rw [List.flatten_cons, List.length_append, List.length_cons, Nat.mul_succ]
    have h1 := h c List.mem_cons_self
    have h2 := flat_len (cs := cs) fun d hd => h d (List.mem_cons_of_mem _ hd)
    omega
theorem absAll_app (cs ds : List (List Int)) : absAll (cs ++ ds) = absAll cs ++ absAll ds := by
  unfold absAll
  rw [List.flatten_append, List.map_append]
theorem absAll_one (c : List Int) : absAll [c] = c.map absI := by
  unfold absAll
  simp
theorem onceC_eq (cs : List (List Int)) : (List.range cs.length).filter (fun j => decide (cs.getD j [] ∉ cs.take j)) = onceIx [] cs := by
  unfold onceIx
  congr 1
  funext j
  exact decide_eq_decide.mpr Iff.rfl
theorem allAlike_ints (ns : List Int) : PySem.W.AllAlike (ns.map PyData.int) := by
  intro d hd d' hd'
  obtain ⟨a, _, rfl⟩ := List.mem_map.mp hd
  obtain ⟨b, _, rfl⟩ := List.mem_map.mp hd'
  simp [PySem.W.alike]
theorem srt_intsS (ns : List Int) : Srt (ns.map PyData.int) := .inr fun d hd => by
  obtain ⟨a, _, rfl⟩ := List.mem_map.mp hd
  exact ⟨by simp, by simp⟩
theorem depth_intsS (ns : List Int) : ∀ d ∈ ns.map PyData.int, d.depth ≤ 60 := fun d hd => by
  obtain ⟨a, _, rfl⟩ := List.mem_map.mp hd
  simp [PyData.depth]
theorem absAll_small {cs : List (List Int)} (h : ∀ c ∈ cs, ∀ n ∈ c, isLit n = true) : ∀ k ∈ absAll cs, k.natAbs < 2 ^ 60 := fun k hk => by
  unfold absAll at hk
  obtain ⟨n, hn, rfl⟩ := List.mem_map.mp hk
  obtain ⟨c, hc, hn⟩ := List.mem_flatten.mp hn
  have := lit_small (h c hc n hn)
  unfold absI
  split <;> omega
end Ky

namespace Ky
open PySem PySem.Spec PyProof.Rows L2 TL PySem.Builtin.Str
/-! ### numbers as texts -/
def numS (i : Int) : Str := toString i
def numI (i : Int) : List Nat := if i < 0 then 45 :: numL i.natAbs else numL i.natAbs
theorem tl_numS (i : Int) : tl (numS i) = numI i := by
  cases i with
  | ofNat n =>
    unfold numI
    rw [if_neg (show ¬ (Int.ofNat n < 0) from by have := Int.natCast_nonneg n; exact Int.not_lt.mpr this)]
    exact tl_num n
  | negSucc n =>
    unfold numI
    rw [if_pos (Int.negSucc_lt_zero n)]
    show tl (Str.ofString (toString (Int.negSucc n))) = 45 :: numL (n + 1)
    rw [tl_ofString]
    have e : (toString (Int.negSucc n)).toList = '-' :: (toString ((n + 1 : Nat) : Int)).toList := by
      show ("-" ++ toString (n + 1)).toList = _
      rw [String.toList_append]
      rfl
    rw [e, List.map_cons]
    have h := tl_num (n + 1)
    rw [tl_ofString] at h
    rw [h]
    rfl
theorem tl_nat (n : Nat) : tl (numS (n : Int)) = numL n := tl_num n
theorem numL_head {n : Nat} (h : 0 < n) : ∃ c r, numL n = c :: r ∧ 49 ≤ c ∧ c ≤ 57 := by
  induction n using Nat.strongRecOn with
  | _ n ih =>
    by_cases hn : n < 10
    · exact ⟨48 + n, [], numL_lt hn, by omega, by omega⟩
    · obtain ⟨c, r, e, h1, h2⟩ := ih (n / 10) (by omega) (by omega)
      exact ⟨c, r ++ [48 + n % 10], by rw [numL_step (by omega), e]; rfl, h1, h2⟩
theorem numL_zero : numL 0 = [48] := numL_lt (by decide)
theorem numI_ne (i : Int) : numI i ≠ [] := by
  unfold numI
  split
  · intro h
    cases h
  · exact numL_ne _
theorem numI_free {i : Int} {s : Nat} (h : s < 48 ∨ 57 < s) (h2 : s ≠ 45) : s ∉ numI i := by
  unfold numI
  split
  · intro hm
    rcases List.mem_cons.mp hm with z | z
    · exact h2 z
    · exact numL_free h z
  · exact numL_free h
/-! ### methods of texts, on their signs -/
theorem tl_one {s : String} {c : Nat} (h : s.toList.map Char.toNat = [c]) : tl (Str.ofString s) = [c] := by
  rw [tl_ofString, h]
theorem subAt0 (x y : Str) : subAt x y 0 = ((tl x).take (tl y).length == tl y) := by
  rw [StrLaws.subAt_eq]
  rfl
theorem startswith_one {x y : Str} {c : Nat} (hy : tl y = [c]) : Txt.startswith x y = decide ((tl x).head? = some c) := by
  unfold Txt.startswith
  rw [subAt0, hy, len_tl x, len_tl y, hy]
  cases tl x with
  | nil => rfl
  | cons a r =>
    show (decide (0 + 1 ≤ (a :: r).length) && ([a] == [c])) = decide (some a = some c)
    rw [List.length_cons, decide_eq_true (by omega), Bool.true_and]
    by_cases h : a = c
    · subst h; simp
    · simp [h]
theorem removeprefix_one {x y : Str} {c : Nat} (hy : tl y = [c]) : tl (Txt.removeprefix x y) = (match tl x with | a :: r => if a = c then r else a :: r | [] => []) := by
  unfold Txt.removeprefix
  rw [subAt0, hy]
  cases h : tl x with
  | nil =>
    show tl (Txt.affix x none) = []
    exact h
  | cons a r =>
    by_cases e : a = c
    · subst e
      have e1 : ((a :: r).take ([a] : List Nat).length == [a]) = true := by simp
      rw [if_pos e1]
      show _ = (if a = a then r else a :: r)
      rw [if_pos rfl]
      unfold Txt.affix
      have hx : x.length = r.length + 1 := by rw [len_tl, h]; rfl
      have hy1 : y.length = 1 := by rw [len_tl, hy]; rfl
      show tl (if (x.length - y.length == x.length) = true then x else strSub x y.length x.length) = r
      rw [if_neg (by rw [hx, hy1, beq_iff_eq]; omega), hy1, tl_strSub_end, h]
      rfl
    · have e1 : ((a :: r).take ([c] : List Nat).length == [c]) = false := by simp [e]
      rw [if_neg (by rw [e1]; decide)]
      show _ = (if a = c then r else a :: r)
      rw [if_neg e]
      exact h
theorem zfill_plain {x : Str} {i : Int} (h : ∀ c, (tl x).head? = some c → c ≠ 43 ∧ c ≠ 45) : tl (Txt.zfill x i) = List.replicate (i.toNat - (tl x).length) 48 ++ tl x := by
  unfold Txt.zfill
  by_cases hi : i ≤ x.length
  · rw [if_pos hi]
    have : i.toNat - (tl x).length = 0 := by
      rw [len_tl] at hi
      omega
    rw [this]
    rfl
  · rw [if_neg hi]
    have e : zfilled x (i.toNat - x.length) = padded x (i.toNat - x.length) 0 48 := by
      unfold zfilled
      have hh : x.cps[0]? = (tl x).head? := by
        rw [← Array.getElem?_toList, List.head?_eq_getElem?]
      rw [hh]
      cases q : (tl x).head? with
      | none => rfl
      | some c =>
        obtain ⟨h1, h2⟩ := h c q
        split
        · rename_i z
          exact absurd (Option.some.inj z) h1
        · rename_i z
          exact absurd (Option.some.inj z) h2
        · rfl
    rw [e]
    unfold padded
    show (Array.replicate (i.toNat - x.length) 48 ++ x.cps ++ Array.replicate 0 48).toList = _
    simp [len_tl]
theorem tl_cut (z : Str) (lo hi : Option Int) : tl (cutS z lo hi) = ((tl z).drop (HT.sIx (tl z).length 0 lo)).take (HT.sIx (tl z).length (tl z).length hi - HT.sIx (tl z).length 0 lo) := by
  unfold cutS
  rw [tl_mk, len_tl]
/-! ### fractions as texts -/
def shL (a : Int × Int) : List Nat := if a.2 = 1 then numI a.1 else numI a.1 ++ 47 :: numI a.2
def slash : Str := Str.ofString "/"
theorem tl_slash : tl slash = [47] := by
  unfold slash
  rw [tl_ofString]
  rfl
def shF (a : Int × Int) : Str := if a.2 = 1 then numS a.1 else numS a.1 ++ slash ++ numS a.2
theorem tl_shF (a : Int × Int) : tl (shF a) = shL a := by
  unfold shF shL
  split
  · exact tl_numS _
  · rw [tl_append, tl_append, tl_numS, tl_numS, tl_slash, List.append_assoc]
    rfl
theorem join_one (e x : Str) : Txt.join e [x] = x := by
  rw [join_eq]
  apply ext_tl
  rw [tl_join]
  rfl
theorem join_two (e x y : Str) (he : tl e = []) : Txt.join e [x, y] = x ++ y := by
  rw [join_eq]
  apply ext_tl
  rw [tl_join, he, tl_append]
  rfl
theorem numI_len {i : Int} {k : Nat} (hk : 0 < k) (h : i.natAbs < 10 ^ k) : (numI i).length ≤ k + 1 := by
  have := numL_len hk h
  unfold numI
  split
  · rw [List.length_cons]
    omega
  · omega
/-! ### a text read as a number, as a fraction -/
def dig (c : Nat) : Bool := decide (48 ≤ c) && decide (c ≤ 57)
def rdN (l : List Nat) : Option Nat := if l = [] then none else if l.head? = some 48 ∧ l ≠ [48] then none else if l.all dig = true then some (NumText.digitsVal l) else none
theorem all_dig {l : List Nat} (h : NumText.AllDigits l) : l.all dig = true := List.all_eq_true.mpr fun c hc => by
  have := h c hc
  unfold dig
  rw [decide_eq_true this.1, decide_eq_true this.2]
  rfl
theorem dig_all {l : List Nat} (h : l.all dig = true) : NumText.AllDigits l := fun c hc => by
  have := List.all_eq_true.mp h c hc
  unfold dig at this
  rw [Bool.and_eq_true, decide_eq_true_eq, decide_eq_true_eq] at this
  exact this
theorem rdN_numL (n : Nat) : rdN (numL n) = some n := by
  unfold rdN
  rw [if_neg (numL_ne n)]
  have e : ¬ ((numL n).head? = some 48 ∧ numL n ≠ [48]) := by
    rintro ⟨h1, h2⟩
    rcases Nat.eq_zero_or_pos n with h | h
    · subst h
      exact h2 numL_zero
    · obtain ⟨c, r, e, h3, _⟩ := numL_head h
      rw [e] at h1
      have : c = 48 := Option.some.inj h1
      omega
  rw [if_neg e, if_pos (all_dig (numL_digits n)), numL_val]
/-- what stands ahead of the first /, whether there is one, what stands behind -/
def partL (l : List Nat) : List Nat × Bool × List Nat := match par [47] [] l with | some (a, b) => (a, true, b) | none => (l, false, [])
def unsign (l : List Nat) : List Nat := match l with | a :: r => if a = 45 then r else a :: r | [] => []
def rdF (l : List Nat) : Option (Int × Int) :=
  match rdN (unsign (partL l).1), (if (partL l).2.1 = true then rdN (partL l).2.2 else some 1) with
  | some n, some d => if d = 0 then none else
      if shL (frc (if (partL l).1.head? = some 45 then -(n : Int) else (n : Int)) (d : Int)) = l then some (frc (if (partL l).1.head? = some 45 then -(n : Int) else (n : Int)) (d : Int)) else none
  | _, _ => none
end Ky

namespace Ky
open PySem PySem.Spec PyProof.Rows L2 TL
/-! ### fractions, reckoned -/
theorem frc_spec {n d : Int} (hd : d ≠ 0) : ∃ c : Int, c ≠ 0 ∧ n = (frc n d).1 * c ∧ d = (frc n d).2 * c ∧ 0 < (frc n d).2 ∧ Nat.gcd (frc n d).1.natAbs (frc n d).2.natAbs = 1 := by
  have g0 : Nat.gcd n.natAbs d.natAbs ≠ 0 := by
    intro h
    have := Nat.eq_zero_of_gcd_eq_zero_right h
    omega
  generalize hg : Nat.gcd n.natAbs d.natAbs = g at g0
  have dn : (g : Int) ∣ n := Int.ofNat_dvd_left.mpr (hg ▸ Nat.gcd_dvd_left _ _)
  have dd : (g : Int) ∣ d := Int.ofNat_dvd_left.mpr (hg ▸ Nat.gcd_dvd_right _ _)
  obtain ⟨c, hc, hcs⟩ : ∃ c : Int, (if d < 0 then -(g : Int) else (g : Int)) = c ∧ c.natAbs = g := ⟨_, rfl, by split <;> omega⟩
  have c0 : c ≠ 0 := by omega
  have cn : c ∣ n := by
    rw [← hc]
    split
    · exact Int.neg_dvd.mpr dn
    · exact dn
  have cd : c ∣ d := by
    rw [← hc]
    split
    · exact Int.neg_dvd.mpr dd
    · exact dd
  have e1 : (frc n d).1 = n / c := by
    unfold frc
    rw [hg, hc]
    exact Int.fdiv_eq_ediv_of_dvd cn
  have e2 : (frc n d).2 = d / c := by
    unfold frc
    rw [hg, hc]
    exact Int.fdiv_eq_ediv_of_dvd cd
  have f1 : n = (frc n d).1 * c := by rw [e1, Int.ediv_mul_cancel cn]
  have f2 : d = (frc n d).2 * c := by rw [e2, Int.ediv_mul_cancel cd]
  refine ⟨c, c0, f1, f2, ?_, ?_⟩
  · have hx := f2
    generalize (frc n d).2 = y at hx
    have hs : (d < 0 ∧ c < 0) ∨ (0 < d ∧ 0 < c) := by
      by_cases h : d < 0
      · left
        refine ⟨h, ?_⟩
        rw [if_pos h] at hc
        omega
      · right
        rw [if_neg h] at hc
        omega
    rcases hs with ⟨h1, h2⟩ | ⟨h1, h2⟩
    · by_cases hy : 0 < y
      · exact hy
      · have := Int.mul_nonneg_of_nonpos_of_nonpos (a := y) (b := c) (by omega) (by omega)
        omega
    · by_cases hy : 0 < y
      · exact hy
      · have := Int.mul_nonpos_of_nonpos_of_nonneg (a := y) (b := c) (by omega) (by omega)
        omega
  · have h3 : Nat.gcd ((frc n d).1 * c).natAbs ((frc n d).2 * c).natAbs = g := by
      rw [← f1, ← f2]
      exact hg
    rw [Int.natAbs_mul, Int.natAbs_mul, Nat.gcd_mul_right, hcs] at h3
    exact Nat.eq_of_mul_eq_mul_right (show 0 < g by omega) (by rw [h3, Nat.one_mul])
theorem frc_pos {n d : Int} (hd : d ≠ 0) : 0 < (frc n d).2 := by
  obtain ⟨_, _, _, _, h, _⟩ := frc_spec (n := n) hd
  exact h
theorem natAbs_le_mul {x c : Int} (h : c ≠ 0) : x.natAbs ≤ (x * c).natAbs := by
  rw [Int.natAbs_mul]
  exact Nat.le_mul_of_pos_right _ (by omega)
theorem frc_le {n d : Int} (hd : d ≠ 0) : (frc n d).1.natAbs ≤ n.natAbs ∧ (frc n d).2.natAbs ≤ d.natAbs := by
  obtain ⟨c, c0, h1, h2, _⟩ := frc_spec (n := n) hd
  constructor
  · have := natAbs_le_mul (x := (frc n d).1) c0
    rw [← h1] at this
    exact this
  · have := natAbs_le_mul (x := (frc n d).2) c0
    rw [← h2] at this
    exact this
theorem frc_small {n d : Int} {b : Nat} (hd : d ≠ 0) (bn : n.natAbs < 2 ^ b) (bd : d.natAbs < 2 ^ b) : Small b (frc n d) :=
  ⟨Nat.lt_of_le_of_lt (frc_le hd).1 bn, Nat.lt_of_le_of_lt (frc_le hd).2 bd⟩
/-- two reduced pairs with the same cross products are one -/
theorem red_eq {a b x y : Int} (hb : 0 < b) (hy : 0 < y) (g1 : Nat.gcd a.natAbs b.natAbs = 1) (g2 : Nat.gcd x.natAbs y.natAbs = 1) (h : a * y = x * b) : a = x ∧ b = y := by
  have hn : a.natAbs * y.natAbs = x.natAbs * b.natAbs := by
    rw [← Int.natAbs_mul, ← Int.natAbs_mul, h]
  have d1 : b.natAbs ∣ y.natAbs := Nat.Coprime.dvd_of_dvd_mul_left (show Nat.Coprime b.natAbs a.natAbs by rw [Nat.Coprime, Nat.gcd_comm]; exact g1) ⟨x.natAbs, by rw [hn, Nat.mul_comm]⟩
  have d2 : y.natAbs ∣ b.natAbs := Nat.Coprime.dvd_of_dvd_mul_left (show Nat.Coprime y.natAbs x.natAbs by rw [Nat.Coprime, Nat.gcd_comm]; exact g2) ⟨a.natAbs, by rw [← hn, Nat.mul_comm]⟩
  have e : b = y := by
    have := Nat.dvd_antisymm d1 d2
    omega
  subst e
  exact ⟨Int.eq_of_mul_eq_mul_right (by omega) h, rfl⟩
theorem frc_eq {n d m e : Int} (hd : d ≠ 0) (he : e ≠ 0) (h : n * e = m * d) : frc n d = frc m e := by
  obtain ⟨c, c0, h1, h2, h3, h4⟩ := frc_spec (n := n) hd
  obtain ⟨k, k0, j1, j2, j3, j4⟩ := frc_spec (n := m) he
  have hx : (frc n d).1 * (frc m e).2 = (frc m e).1 * (frc n d).2 := by
    have : ((frc n d).1 * (frc m e).2) * (c * k) = ((frc m e).1 * (frc n d).2) * (c * k) := by
      calc ((frc n d).1 * (frc m e).2) * (c * k) = ((frc n d).1 * c) * ((frc m e).2 * k) := by
            rw [Int.mul_assoc, Int.mul_assoc, Int.mul_left_comm (frc m e).2 c k]
        _ = n * e := by rw [← h1, ← j2]
        _ = m * d := h
        _ = ((frc m e).1 * k) * ((frc n d).2 * c) := by rw [← j1, ← h2]
        _ = ((frc m e).1 * (frc n d).2) * (c * k) := by
            rw [Int.mul_assoc, Int.mul_assoc, Int.mul_left_comm k (frc n d).2 c, Int.mul_comm k c]
    exact Int.eq_of_mul_eq_mul_right (Int.mul_ne_zero c0 k0) this
  obtain ⟨r1, r2⟩ := red_eq h3 j3 h4 j4 hx
  exact Prod.ext r1 r2
/-- a reduced pair -/
def Red (a : Int × Int) : Prop := 0 < a.2 ∧ Nat.gcd a.1.natAbs a.2.natAbs = 1
theorem frc_red {n d : Int} (hd : d ≠ 0) : Red (frc n d) := by
  obtain ⟨_, _, _, _, h, g⟩ := frc_spec (n := n) hd
  exact ⟨h, g⟩
theorem frc_self {a : Int × Int} (h : Red a) : frc a.1 a.2 = a := by
  obtain ⟨p, g⟩ := h
  obtain ⟨c, c0, h1, h2, h3, h4⟩ := frc_spec (n := a.1) (d := a.2) (by omega)
  have hx : (frc a.1 a.2).1 * a.2 = a.1 * (frc a.1 a.2).2 := by
    calc (frc a.1 a.2).1 * a.2 = (frc a.1 a.2).1 * ((frc a.1 a.2).2 * c) := by rw [← h2]
      _ = ((frc a.1 a.2).1 * c) * (frc a.1 a.2).2 := by rw [Int.mul_assoc, Int.mul_comm (frc a.1 a.2).2 c]
      _ = a.1 * (frc a.1 a.2).2 := by rw [← h1]
  obtain ⟨r1, r2⟩ := red_eq h3 p h4 g hx
  exact Prod.ext r1 r2
/-! sums, products of several -/
def plusF (a b : Int × Int) : Int × Int := frc (a.1 * b.2 + b.1 * a.2) (a.2 * b.2)
def timesF (a b : Int × Int) : Int × Int := frc (a.1 * b.1) (a.2 * b.2)
def totN (as : List (Int × Int)) : Int × Int := as.foldl (fun f r => (f.1 * r.2 + r.1 * f.2, f.2 * r.2)) (0, 1)
def totF (as : List (Int × Int)) : Int × Int := as.foldl plusF (0, 1)
def prN (as : List (Int × Int)) : Int × Int := as.foldl (fun f r => (f.1 * r.1, f.2 * r.2)) (1, 1)
def prF (as : List (Int × Int)) : Int × Int := as.foldl timesF (1, 1)
theorem frc_cross {n d : Int} (hd : d ≠ 0) : (frc n d).1 * d = n * (frc n d).2 := by
  obtain ⟨c, c0, h1, h2, h3, h4⟩ := frc_spec (n := n) hd
  calc (frc n d).1 * d = (frc n d).1 * ((frc n d).2 * c) := by rw [← h2]
    _ = ((frc n d).1 * c) * (frc n d).2 := by rw [Int.mul_assoc, Int.mul_comm (frc n d).2 c]
    _ = n * (frc n d).2 := by rw [← h1]
theorem plus_step {n d x y : Int} (hd : 0 < d) (hy : 0 < y) : plusF (frc n d) (x, y) = frc (n * y + x * d) (d * y) := by
  have p := frc_pos (n := n) (d := d) (by omega)
  refine frc_eq (Int.mul_ne_zero (by omega) (by omega)) (Int.mul_ne_zero (by omega) (by omega)) ?_
  have c := frc_cross (n := n) (d := d) (by omega)
  generalize (frc n d).1 = u at c ⊢
  generalize (frc n d).2 = v at c p ⊢
  show (u * y + x * v) * (d * y) = (n * y + x * d) * (v * y)
  have e1 : (u * y + x * v) * (d * y) = (u * d) * (y * y) + (x * v) * (d * y) := by
    rw [Int.add_mul]
    congr 1
    rw [Int.mul_assoc, Int.mul_assoc, Int.mul_left_comm y d y]
  have e2 : (n * y + x * d) * (v * y) = (n * v) * (y * y) + (x * v) * (d * y) := by
    rw [Int.add_mul]
    congr 1
    · rw [Int.mul_assoc, Int.mul_assoc, Int.mul_left_comm y v y]
    · rw [Int.mul_assoc, Int.mul_assoc, Int.mul_left_comm d v y]
  rw [e1, e2, c]
theorem times_step {n d x y : Int} (hd : 0 < d) (hy : 0 < y) : timesF (frc n d) (x, y) = frc (n * x) (d * y) := by
  have p := frc_pos (n := n) (d := d) (by omega)
  refine frc_eq (Int.mul_ne_zero (by omega) (by omega)) (Int.mul_ne_zero (by omega) (by omega)) ?_
  have c := frc_cross (n := n) (d := d) (by omega)
  generalize (frc n d).1 = u at c ⊢
  generalize (frc n d).2 = v at c p ⊢
  show (u * x) * (d * y) = (n * x) * (v * y)
  calc (u * x) * (d * y) = (u * d) * (x * y) := by rw [Int.mul_assoc, Int.mul_assoc, Int.mul_left_comm x d y]
    _ = (n * v) * (x * y) := by rw [c]
    _ = (n * x) * (v * y) := by rw [Int.mul_assoc, Int.mul_assoc, Int.mul_left_comm v x y]
theorem tot_fold : ∀ (as : List (Int × Int)) (n d : Int), 0 < d → (∀ a ∈ as, 0 < a.2) → as.foldl plusF (frc n d) = frc (as.foldl (fun f r => (f.1 * r.2 + r.1 * f.2, f.2 * r.2)) (n, d)).1 (as.foldl (fun f r => (f.1 * r.2 + r.1 * f.2, f.2 * r.2)) (n, d)).2
  | [], n, d, _, _ => rfl
  | a :: r, n, d, hd, h => by
    have ha := h a (.head _)
    rw [List.foldl_cons, List.foldl_cons, plus_step (x := a.1) (y := a.2) hd ha]
    exact tot_fold r _ _ (Int.mul_pos hd ha) fun b hb => h b (.tail _ hb)
theorem pr_fold : ∀ (as : List (Int × Int)) (n d : Int), 0 < d → (∀ a ∈ as, 0 < a.2) → as.foldl timesF (frc n d) = frc (as.foldl (fun f r => (f.1 * r.1, f.2 * r.2)) (n, d)).1 (as.foldl (fun f r => (f.1 * r.1, f.2 * r.2)) (n, d)).2
  | [], n, d, _, _ => rfl
  | a :: r, n, d, hd, h => by
    have ha := h a (.head _)
    rw [List.foldl_cons, List.foldl_cons, times_step (x := a.1) (y := a.2) hd ha]
    exact pr_fold r _ _ (Int.mul_pos hd ha) fun b hb => h b (.tail _ hb)
theorem frc_01 : frc 0 1 = (0, 1) := by decide
theorem frc_11 : frc 1 1 = (1, 1) := by decide
theorem totF_eq {as : List (Int × Int)} (h : ∀ a ∈ as, 0 < a.2) : totF as = frc (totN as).1 (totN as).2 := by
  have := tot_fold as 0 1 (by decide) h
  rw [frc_01] at this
  exact this
theorem prF_eq {as : List (Int × Int)} (h : ∀ a ∈ as, 0 < a.2) : prF as = frc (prN as).1 (prN as).2 := by
  have := pr_fold as 1 1 (by decide) h
  rw [frc_11] at this
  exact this
end Ky

namespace Ky
open PySem PySem.Spec PyProof.Rows L2
local macro_rules | `(tactic| walk_at "rd") => `(tactic| repeat (first
  | with_reducible refine w_seq ?_
  | with_reducible refine w_asg ?_
  | with_reducible refine w_ret ?_
  | with_reducible refine w_drop ?_
  | with_reducible refine w_ifs ?_
  | ((with_reducible refine' w_var ?hh ?_); (case hh => exact rfl))
  | with_reducible refine w_c ?_
  | with_reducible refine w_op ?_
  | with_reducible refine w_un ?_
  | with_reducible refine w_I0 ?_
  | with_reducible refine w_U ?_
  | with_reducible refine w_nil ?_
  | with_reducible refine w_cons ?_
  | with_reducible refine w_call ?_
  | with_reducible refine w_cb ?_
  | with_reducible refine w_test ?_
  | with_reducible refine w_B ?_
  | with_reducible refine w_bl ?_
  | with_reducible refine w_and ?_
  | with_reducible refine w_or ?_
  | with_reducible refine w_not ?_
  | with_reducible refine w_ife ?_
  | with_reducible refine w_gRd ?_
  | with_reducible refine w_andV ?_
  | with_reducible refine w_orV ?_
  | with_reducible refine w_notV ?_
  | with_reducible refine w_chain ?_
  | with_reducible refine w_din ?_
  | with_reducible refine w_isi_ii ?_
  | with_reducible refine w_isi_ib ?_
  | with_reducible refine w_isi_it ?_
  | with_reducible refine w_isi_st ?_
  | ((with_reducible refine w_isi_tt ?h1 ?_); (case h1 => first | assumption | exact upd_same))
  | with_reducible refine if_t rfl ?_
  | with_reducible refine if_f rfl ?_
  | with_reducible refine w_tup ?_
  | with_reducible refine w_lst ?_
  | with_reducible refine w_next ?_
  | with_reducible refine w_bm ?_
  | with_reducible refine w_sl ?_
  | with_reducible refine w_part ?_
  | with_reducible refine w_nop ?_
  | with_reducible refine w_isI ?_
  | with_reducible refine w_yes ?_
  | with_reducible refine w_gn ?_
  | with_reducible refine w_gsub ?_
  | ((with_reducible refine' w_setL ?h1 ?h2 ?_); (case h1 => first | assumption | exact upd_same); (case h2 => exact rfl))
  | with_reducible refine w_asgG ?_
  | with_reducible refine w_m1 ?_
  | with_reducible refine w_isS ?_
  | with_reducible refine w_tyS ?_
  | ((with_reducible refine' w_tyL ?h1 ?_); (case h1 => first | assumption | exact upd_same))
  | ((with_reducible refine' w_ixT ?h1 ?h2 ?_); (case h1 => first | assumption | exact upd_same); (case h2 => exact rfl))
  | ((with_reducible refine' w_ixL ?h1 ?h2 ?_); (case h1 => first | assumption | exact upd_same); (case h2 => exact rfl))
  | ((with_reducible refine w_eq ?h1 ?_); (case h1 => exact rfl))
  | ((with_reducible refine w_ne ?h1 ?_); (case h1 => exact rfl))
  | dsimp only [List.set_cons_zero, List.set_cons_succ, List.append_nil, List.cons_append, List.nil_append, cxOf]))

section
variable {P : Program} {w : World} {K : PySem.W.Frag} {mg : Str → Option Value} {base : Heap} {uG : Value} {f : Addr} {fd : FuncData}
def spFrac8 : Sp := fun vs H Q _ => ∃ n d : Int, vs = [.int n, .int d] ∧ d ≠ 0 ∧ n.natAbs < 2 ^ 8010 ∧ d.natAbs < 2 ^ 8010 ∧
  ∀ p H', H p = none → Kept H H' → FrAt H' p (frc n d) → Q (.ref p) H'
theorem log_of {i : Int} {b : Nat} (h : i.natAbs < 2 ^ b) (h0 : 0 < b) : i.natAbs.log2 < b := PySem.Flt.log2_lt_of h0 h
theorem frc_ne {n d : Int} (hd : d ≠ 0) : Nat.gcd n.natAbs d.natAbs ≠ 0 := by
  intro h
  have := Nat.eq_zero_of_gcd_eq_zero_right h
  omega
theorem gcd_le_r {n d : Int} (hd : d ≠ 0) : Nat.gcd n.natAbs d.natAbs ≤ d.natAbs := Nat.gcd_le_right _ (by omega)
/-- the promise of an operation on two fractions -/
def spTwo (C : (Int × Int) → (Int × Int) → Prop) (g : (Int × Int) → (Int × Int) → Int × Int) : Sp := fun vs H Q _ => ∃ (p q : Addr) (a b : Int × Int), vs = [.ref p, .ref q] ∧ FrAt H p a ∧ FrAt H q b ∧ Small 4000 a ∧ Small 4000 b ∧ C a b ∧
  ∀ r H', H r = none → Kept H H' → FrAt H' r (g a b) → Q (.ref r) H'
def minusF (a b : Int × Int) : Int × Int := frc (a.1 * b.2 - b.1 * a.2) (a.2 * b.2)
def overF (a b : Int × Int) : Int × Int := frc (a.1 * b.2) (a.2 * b.1)
abbrev Pos2 (a b : Int × Int) : Prop := 0 < a.2 ∧ 0 < b.2
theorem mul_small {x y : Int} (hx : x.natAbs < 2 ^ 4000) (hy : y.natAbs < 2 ^ 4000) : (x * y).natAbs < 2 ^ 8000 := wide_lt hx hy
theorem mul_ok {x y : Int} (hx : x.natAbs < 2 ^ 4000) (hy : y.natAbs < 2 ^ 4000) : CMulW x y := wide_mul hx hy (by decide) (by decide) (by decide)
theorem pow_up {x : Nat} (h : x < 2 ^ 8000) : x < 2 ^ 8010 := Nat.lt_of_lt_of_le h (Nat.pow_le_pow_right (by decide) (by decide))
theorem add_small {x y : Int} (hx : x.natAbs < 2 ^ 8000) (hy : y.natAbs < 2 ^ 8000) : (x + y).natAbs < 2 ^ 8010 := by
  have h : (2 : Nat) ^ 800 + 2 ^ 8000 ≤ 2 ^ 8010 := by decide
  omega
theorem sub_small {x y : Int} (hx : x.natAbs < 2 ^ 8000) (hy : y.natAbs < 2 ^ 8000) : (x - y).natAbs < 2 ^ 8010 := by
  have h : (2 : Nat) ^ 800 + 2 ^ 8000 ≤ 2 ^ 8010 := by decide
  omega
theorem mul_ne {x y : Int} (hx : 0 < x) (hy : 0 < y) : x * y ≠ 0 := Int.mul_ne_zero (by omega) (by omega)
def lessF (a b : Int × Int) : Bool := decide (a.1 * b.2 < b.1 * a.2)
def spLess : Sp := fun vs H Q _ => ∃ (p q : Addr) (a b : Int × Int), vs = [.ref p, .ref q] ∧ FrAt H p a ∧ FrAt H q b ∧ Small 4000 a ∧ Small 4000 b ∧ Q (.bl (lessF a b)) H
def spGreatest : Sp := fun vs H Q _ => ∃ (p q : Addr) (a b : Int × Int), vs = [.ref p, .ref q] ∧ FrAt H p a ∧ FrAt H q b ∧ Small 4000 a ∧ Small 4000 b ∧ Q (.ref (if lessF a b = true then q else p)) H
end
end Ky

namespace Ky
open PySem PySem.Spec PyProof.Rows L2
local macro_rules | `(tactic| walk_at "rd") => `(tactic| repeat (first
  | with_reducible refine w_seq ?_
  | with_reducible refine w_asg ?_
  | with_reducible refine w_ret ?_
  | with_reducible refine w_drop ?_
  | with_reducible refine w_ifs ?_
  | ((with_reducible refine' w_var ?hh ?_); (case hh => exact rfl))
  | with_reducible refine w_c ?_
  | with_reducible refine w_op ?_
  | with_reducible refine w_un ?_
  | with_reducible refine w_I0 ?_
  | with_reducible refine w_U ?_
  | with_reducible refine w_nil ?_
  | with_reducible refine w_cons ?_
  | with_reducible refine w_call ?_
  | with_reducible refine w_cb ?_
  | with_reducible refine w_test ?_
  | with_reducible refine w_B ?_
  | with_reducible refine w_bl ?_
  | with_reducible refine w_and ?_
  | with_reducible refine w_or ?_
  | with_reducible refine w_not ?_
  | with_reducible refine w_ife ?_
  | with_reducible refine w_gRd ?_
  | with_reducible refine w_andV ?_
  | with_reducible refine w_orV ?_
  | with_reducible refine w_notV ?_
  | with_reducible refine w_chain ?_
  | with_reducible refine w_din ?_
  | with_reducible refine w_isi_ii ?_
  | with_reducible refine w_isi_ib ?_
  | with_reducible refine w_isi_it ?_
  | with_reducible refine w_isi_st ?_
  | ((with_reducible refine w_isi_tt ?h1 ?_); (case h1 => first | assumption | exact upd_same))
  | with_reducible refine if_t rfl ?_
  | with_reducible refine if_f rfl ?_
  | with_reducible refine w_tup ?_
  | with_reducible refine w_lst ?_
  | with_reducible refine w_next ?_
  | with_reducible refine w_bm ?_
  | with_reducible refine w_sl ?_
  | with_reducible refine w_part ?_
  | with_reducible refine w_nop ?_
  | with_reducible refine w_isI ?_
  | with_reducible refine w_yes ?_
  | with_reducible refine w_gn ?_
  | with_reducible refine w_gsub ?_
  | ((with_reducible refine' w_setL ?h1 ?h2 ?_); (case h1 => first | assumption | exact upd_same); (case h2 => exact rfl))
  | with_reducible refine w_asgG ?_
  | with_reducible refine w_m1 ?_
  | with_reducible refine w_isS ?_
  | with_reducible refine w_tyS ?_
  | ((with_reducible refine' w_tyL ?h1 ?_); (case h1 => first | assumption | exact upd_same))
  | ((with_reducible refine' w_ixT ?h1 ?h2 ?_); (case h1 => first | assumption | exact upd_same); (case h2 => exact rfl))
  | ((with_reducible refine' w_ixL ?h1 ?h2 ?_); (case h1 => first | assumption | exact upd_same); (case h2 => exact rfl))
  | ((with_reducible refine w_eq ?h1 ?_); (case h1 => exact rfl))
  | ((with_reducible refine w_ne ?h1 ?_); (case h1 => exact rfl))
  | dsimp only [List.set_cons_zero, List.set_cons_succ, List.append_nil, List.cons_append, List.nil_append, cxOf]))

section
variable {P : Program} {w : World} {K : PySem.W.Frag} {mg : Str → Option Value} {base : Heap} {uG : Value} {f : Addr} {fd : FuncData}
theorem abs_natI (n : Int) : (if n < 0 then -n else n) = ((n.natAbs : Nat) : Int) := by split <;> omega
def spGcd : Sp := fun vs H Q _ => ∃ a b : Nat, vs = [.int (a : Int), .int (b : Int)] ∧ a < 2 ^ 8010 ∧ b < 2 ^ 8010 ∧ Q (.int ((Nat.gcd a b : Nat) : Int)) H
/-! sums and products of up to three -/
/-- the list at l holds the fractions as -/
def FrsAt (K : PySem.W.Frag) (H : Hp) (l : Addr) (as : List (Int × Int)) : Prop := ∃ ps : List Addr, SqL K H l (ps.map V.ref) ∧ ps.length = as.length ∧ ∀ (i : Nat) p, ps[i]? = some p → ∃ a, as[i]? = some a ∧ FrAt H p a
def spRow (K : PySem.W.Frag) (g : List (Int × Int) → Int × Int) : Sp := fun vs H Q _ => ∃ (l : Addr) (as : List (Int × Int)), vs = [.ref l] ∧ FrsAt K H l as ∧ as.length ≤ 64 ∧ (∀ a ∈ as, 0 < a.2 ∧ Small 50 a) ∧
  ∀ r H', H r = none → Kept H H' → FrAt H' r (g as) → Q (.ref r) H'
theorem Kept.fr {H H' : Hp} {p : Addr} {a : Int × Int} (e : Kept H H') (h : FrAt H p a) : FrAt H' p a := Kept.tup e h
theorem map_ref {ps : List Addr} {i : Nat} {y : V} (h : (ps.map V.ref)[i]? = some y) : ∃ p, y = V.ref p ∧ ps[i]? = some p := by
  rw [List.getElem?_map] at h
  cases e : ps[i]? with
  | none =>
    rw [e] at h
    cases h
  | some u =>
    rw [e] at h
    exact ⟨u, (Option.some.inj h).symm, rfl⟩
theorem foldl_take {α β : Type} (g : β → α → β) (b : β) (as : List α) {i : Nat} {a : α} (h : as[i]? = some a) : (as.take (i + 1)).foldl g b = g ((as.take i).foldl g b) a := by
  rw [List.take_add_one, h, List.foldl_append]
  rfl
theorem lt_mul {x y : Int} {a b : Nat} (hx : x.natAbs < 2 ^ a) (hy : y.natAbs < 2 ^ b) {c : Nat} (h : a + b ≤ c) : (x * y).natAbs < 2 ^ c := Nat.lt_of_lt_of_le (wide_lt hx hy) (Nat.pow_le_pow_right (by decide) h)
theorem lt_add {x y : Int} {a : Nat} (hx : x.natAbs < 2 ^ a) (hy : y.natAbs < 2 ^ a) {c : Nat} (h : a + 1 ≤ c) : (x + y).natAbs < 2 ^ c := by
  have h2 : 2 ^ (a + 1) ≤ 2 ^ c := Nat.pow_le_pow_right (by decide) h
  rw [Nat.pow_succ] at h2
  omega
theorem lt_up {x : Nat} {a b : Nat} (hx : x < 2 ^ a) (h : a ≤ b) : x < 2 ^ b := Nat.lt_of_lt_of_le hx (Nat.pow_le_pow_right (by decide) h)
theorem plus_small {x y : Int × Int} {s : Nat} (h1 : Small s x) (h2 : Small 50 y) (p1 : 0 < x.2) (p2 : 0 < y.2) : Small (s + 60) (plusF x y) :=
  frc_small (mul_ne p1 p2) (lt_add (lt_mul h1.1 h2.2 (c := s + 50) (by omega)) (lt_mul h2.1 h1.2 (c := s + 50) (by omega)) (by omega)) (lt_mul h1.2 h2.2 (by omega))
theorem times_small {x y : Int × Int} {s : Nat} (h1 : Small s x) (h2 : Small 50 y) (p1 : 0 < x.2) (p2 : 0 < y.2) : Small (s + 60) (timesF x y) :=
  frc_small (mul_ne p1 p2) (lt_mul h1.1 h2.1 (by omega)) (lt_mul h1.2 h2.2 (by omega))
theorem small_one {z : Int} (h : z.natAbs ≤ 1 := by decide) : Small (60 * 0 + 1) (z, 1) := ⟨Nat.lt_of_le_of_lt h (by decide), show (1 : Int).natAbs < 2 ^ (60 * 0 + 1) by decide⟩
theorem Small.up {a : Int × Int} {m n : Nat} (h : Small m a) (l : m ≤ n) : Small n a := ⟨lt_up h.1 l, lt_up h.2 l⟩
end
end Ky

namespace Ky
open PySem PySem.Spec PyProof.Rows L2
local macro_rules | `(tactic| walk_at "rd") => `(tactic| repeat (first
  | with_reducible refine w_for1 ?_
  | with_reducible refine w_for2 ?_
  | with_reducible refine w_forL ?_
  | with_reducible refine w_forT ?_
  | with_reducible refine w_lc1 ?_
  | with_reducible refine w_lcL ?_
  | with_reducible refine w_lcT ?_
  | with_reducible refine w_seq ?_
  | with_reducible refine w_asg ?_
  | with_reducible refine w_ret ?_
  | with_reducible refine w_drop ?_
  | with_reducible refine w_ifs ?_
  | ((with_reducible refine' w_var ?hh ?_); (case hh => exact rfl))
  | with_reducible refine w_c ?_
  | with_reducible refine w_op ?_
  | with_reducible refine w_un ?_
  | with_reducible refine w_I0 ?_
  | with_reducible refine w_U ?_
  | with_reducible refine w_nil ?_
  | with_reducible refine w_cons ?_
  | with_reducible refine w_call ?_
  | with_reducible refine w_cb ?_
  | with_reducible refine w_test ?_
  | with_reducible refine w_B ?_
  | with_reducible refine w_bl ?_
  | with_reducible refine w_and ?_
  | with_reducible refine w_or ?_
  | with_reducible refine w_not ?_
  | with_reducible refine w_ife ?_
  | with_reducible refine w_gRd ?_
  | with_reducible refine w_andV ?_
  | with_reducible refine w_orV ?_
  | with_reducible refine w_notV ?_
  | with_reducible refine w_chain ?_
  | with_reducible refine w_din ?_
  | with_reducible refine w_isi_ii ?_
  | with_reducible refine w_isi_ib ?_
  | with_reducible refine w_isi_it ?_
  | with_reducible refine w_isi_st ?_
  | ((with_reducible refine w_isi_tt ?h1 ?_); (case h1 => first | assumption | exact upd_same))
  | with_reducible refine if_t rfl ?_
  | with_reducible refine if_f rfl ?_
  | with_reducible refine w_tup ?_
  | with_reducible refine w_lst ?_
  | with_reducible refine w_next ?_
  | with_reducible refine w_bm ?_
  | with_reducible refine w_sl ?_
  | with_reducible refine w_part ?_
  | with_reducible refine w_nop ?_
  | with_reducible refine w_isI ?_
  | with_reducible refine w_yes ?_
  | with_reducible refine w_gn ?_
  | with_reducible refine w_gsub ?_
  | ((with_reducible refine' w_setL ?h1 ?h2 ?_); (case h1 => first | assumption | exact upd_same); (case h2 => exact rfl))
  | with_reducible refine w_asgG ?_
  | with_reducible refine w_m1 ?_
  | with_reducible refine w_isS ?_
  | with_reducible refine w_tyS ?_
  | ((with_reducible refine' w_tyL ?h1 ?_); (case h1 => first | assumption | exact upd_same))
  | ((with_reducible refine' w_ixT ?h1 ?h2 ?_); (case h1 => first | assumption | exact upd_same); (case h2 => exact rfl))
  | ((with_reducible refine' w_ixL ?h1 ?h2 ?_); (case h1 => first | assumption | exact upd_same); (case h2 => exact rfl))
  | ((with_reducible refine w_eq ?h1 ?_); (case h1 => exact rfl))
  | ((with_reducible refine w_ne ?h1 ?_); (case h1 => exact rfl))
  | dsimp only [List.set_cons_zero, List.set_cons_succ, List.append_nil, List.cons_append, List.nil_append, cxOf]))

/-! ### fillings -/
def longF (cs : List (List Int)) (v : Int) : List (List Int) := cs.flatMap fun c => [c ++ [-v], c ++ [v]]
def fillF (vs : List Int) : List (List Int) := vs.foldl longF [[]]
theorem longF_len (cs : List (List Int)) (v : Int) : (longF cs v).length = 2 * cs.length := by
  unfold longF
  induction cs with
  | nil => rfl
  | cons c cs ih =>
    rw [List.flatMap_cons, List.length_append, ih, List.length_cons]
    show 2 + 2 * cs.length = 2 * (cs.length + 1)
    omega
theorem longF_app (cs ds : List (List Int)) (v : Int) : longF (cs ++ ds) v = longF cs v ++ longF ds v := by
  unfold longF
  rw [List.flatMap_append]
theorem longF_one (c : List Int) (v : Int) : longF [c] v = [c ++ [-v], c ++ [v]] := rfl
theorem fillF_snoc (vs : List Int) (v : Int) : fillF (vs ++ [v]) = longF (fillF vs) v := by
  unfold fillF
  rw [List.foldl_append]
  rfl
theorem fillF_len : ∀ vs : List Int, (fillF vs).length = 2 ^ vs.length := by
  intro vs
  unfold fillF
  have h : ∀ (vs : List Int) (cs : List (List Int)), (vs.foldl longF cs).length = 2 ^ vs.length * cs.length := by
    intro vs
    induction vs with
    | nil => intro cs; simp
    | cons v vs ih =>
      intro cs
      rw [List.foldl_cons, ih, longF_len, List.length_cons, Nat.pow_succ, Nat.mul_assoc]
  rw [h]
  simp
/-- what a filling is: for each variable the one or the other literal -/
def IsFill : List Int → List Int → Prop
  | [], f => f = []
  | v :: vs, f => ∃ g, IsFill vs g ∧ (f = -v :: g ∨ f = v :: g)
theorem isFill_snoc : ∀ {vs f : List Int} {v l : Int}, IsFill vs f → (l = -v ∨ l = v) → IsFill (vs ++ [v]) (f ++ [l])
  | [], f, v, l, h, hl => by
    have h : f = [] := h
    subst h
    exact ⟨[], rfl, hl.elim (fun e => .inl (by rw [e]; rfl)) (fun e => .inr (by rw [e]; rfl))⟩
  | u :: us, f, v, l, h, hl => by
    obtain ⟨g, hg, e⟩ := h
    exact ⟨g ++ [l], isFill_snoc hg hl, e.elim (fun e => .inl (by rw [e]; rfl)) (fun e => .inr (by rw [e]; rfl))⟩
theorem isFill_fold : ∀ (vs us : List Int) (cs : List (List Int)), (∀ c ∈ cs, IsFill us c) → ∀ f ∈ vs.foldl longF cs, IsFill (us ++ vs) f
  | [], us, cs, h, f, hf => by
    rw [List.append_nil]
    exact h f hf
  | v :: vs, us, cs, h, f, hf => by
    rw [List.foldl_cons] at hf
    have q := isFill_fold vs (us ++ [v]) (longF cs v) (fun c hc => by
      obtain ⟨d, hd, hc⟩ := List.mem_flatMap.mp hc
      simp only [List.mem_cons, List.not_mem_nil, or_false] at hc
      rcases hc with rfl | rfl
      · exact isFill_snoc (h d hd) (.inl rfl)
      · exact isFill_snoc (h d hd) (.inr rfl)) f hf
    rw [List.append_assoc] at q
    exact q
theorem fillF_is {vs f : List Int} (h : f ∈ fillF vs) : IsFill vs f := by
  have q := isFill_fold vs [] [[]] (fun c hc => List.mem_singleton.mp hc) f h
  exact q
theorem isFill_len : ∀ {vs f : List Int}, IsFill vs f → f.length = vs.length
  | [], f, h => by
    have h : f = [] := h
    rw [h] <;> rfl
  | v :: vs, f, h => by
    obtain ⟨g, hg, e⟩ := h
    rcases e with rfl | rfl <;> rw [List.length_cons, List.length_cons, isFill_len hg]
theorem w_catA {K : PySem.W.Frag} {H : Hp} {Q : VK} {a b : Addr} {xs ys : List Int} (ha : H a = some (.tup (xs.map V.int))) (hb : H b = some (.tup (ys.map V.int))) (hl : xs.length + ys.length ≤ 1000) (q : ∀ p H', Kept H H' → H' p = some (.tup ((xs ++ ys).map V.int)) → Q (.ref p) H') : rCatA K (.ref a) (.ref b) H Q := by
  have hz : 1000 ≤ sizeLine := by decide
  refine ⟨a, b, _, _, rfl, rfl, SqT.of ha, SqT.of hb, by rw [List.length_map, List.length_map]; omega, fun h => ?_, fun _ h => ?_, fun _ _ p hp => ?_⟩
  · have e : xs = [] := List.map_eq_nil_iff.mp h
    subst e
    exact q b H (Kept.refl _) hb
  · have e : ys = [] := List.map_eq_nil_iff.mp h
    subst e
    exact q a H (Kept.refl _) (by rw [List.append_nil]; exact ha)
  · exact q p _ (Kept.new hp) (by rw [List.map_append]; exact upd_same)
theorem w_iT {K : PySem.W.Frag} {te : TE} {σ : L2.St} {H : Hp} {R : It → Hp → Prop} (q : te σ H fun x H1 => ∃ a, x = .ref a ∧ (∃ xs, SqT K H1 a xs) ∧ R (Itt K a) H1) : iTup K te σ H R := q
theorem ClsAt.nil {H : Hp} : ClsAt H [] [] := ⟨rfl, fun i b c h => by simp at h⟩
def spLLonger : Sp := fun vs H Q _ => ∃ (a : Addr) (bs : List Addr) (cs : List (List Int)) (v : Int), vs = [.ref a, .int v] ∧ H a = some (.lst (bs.map V.ref)) ∧ ClsAt H bs cs ∧ cs.length ≤ 256 ∧ (∀ c ∈ cs, c.length ≤ 20) ∧
  ∀ p H' bs', Kept H H' → H p = none → H' p = some (.lst (bs'.map V.ref)) → ClsAt H' bs' (longF cs v) → Q (.ref p) H'
def spFill : Sp := fun vs H Q _ => ∃ (a : Addr) (ns : List Int), vs = [.ref a] ∧ H a = some (.tup (ns.map V.int)) ∧ ns.length ≤ 8 ∧
  ∀ p H' bs', Kept H H' → H p = none → H' p = some (.lst (bs'.map V.ref)) → ClsAt H' bs' (fillF ns) → Q (.ref p) H'
section
variable {P : Program} {w : World} {K : PySem.W.Frag} {mg : Str → Option Value} {base : Heap} {uG : Value} {f : Addr} {fd : FuncData}
end
end Ky

namespace Ky
open PySem PySem.Spec PyProof.Rows L2
local macro_rules | `(tactic| walk_at "rd") => `(tactic| repeat (first
  | with_reducible refine w_for1 ?_
  | with_reducible refine w_for2 ?_
  | with_reducible refine w_forL ?_
  | with_reducible refine w_forT ?_
  | with_reducible refine w_lc1 ?_
  | with_reducible refine w_lcL ?_
  | with_reducible refine w_lcT ?_
  | with_reducible refine w_seq ?_
  | with_reducible refine w_asg ?_
  | with_reducible refine w_ret ?_
  | with_reducible refine w_drop ?_
  | with_reducible refine w_ifs ?_
  | ((with_reducible refine' w_var ?hh ?_); (case hh => exact rfl))
  | with_reducible refine w_c ?_
  | with_reducible refine w_op ?_
  | with_reducible refine w_un ?_
  | with_reducible refine w_I0 ?_
  | with_reducible refine w_U ?_
  | with_reducible refine w_nil ?_
  | with_reducible refine w_cons ?_
  | with_reducible refine w_call ?_
  | with_reducible refine w_cb ?_
  | with_reducible refine w_test ?_
  | with_reducible refine w_B ?_
  | with_reducible refine w_bl ?_
  | with_reducible refine w_and ?_
  | with_reducible refine w_or ?_
  | with_reducible refine w_not ?_
  | with_reducible refine w_ife ?_
  | with_reducible refine w_gRd ?_
  | with_reducible refine w_andV ?_
  | with_reducible refine w_orV ?_
  | with_reducible refine w_notV ?_
  | with_reducible refine w_chain ?_
  | with_reducible refine w_din ?_
  | with_reducible refine w_isi_ii ?_
  | with_reducible refine w_isi_ib ?_
  | with_reducible refine w_isi_it ?_
  | with_reducible refine w_isi_st ?_
  | ((with_reducible refine w_isi_tt ?h1 ?_); (case h1 => first | assumption | exact upd_same))
  | with_reducible refine if_t rfl ?_
  | with_reducible refine if_f rfl ?_
  | with_reducible refine w_tup ?_
  | with_reducible refine w_lst ?_
  | with_reducible refine w_next ?_
  | with_reducible refine w_bm ?_
  | with_reducible refine w_sl ?_
  | with_reducible refine w_part ?_
  | with_reducible refine w_nop ?_
  | with_reducible refine w_isI ?_
  | with_reducible refine w_yes ?_
  | with_reducible refine w_gn ?_
  | with_reducible refine w_gsub ?_
  | ((with_reducible refine' w_setL ?h1 ?h2 ?_); (case h1 => first | assumption | exact upd_same); (case h2 => exact rfl))
  | with_reducible refine w_asgG ?_
  | with_reducible refine w_m1 ?_
  | with_reducible refine w_isS ?_
  | with_reducible refine w_tyS ?_
  | ((with_reducible refine' w_tyL ?h1 ?_); (case h1 => first | assumption | exact upd_same))
  | ((with_reducible refine' w_ixT ?h1 ?h2 ?_); (case h1 => first | assumption | exact upd_same); (case h2 => exact rfl))
  | ((with_reducible refine' w_ixL ?h1 ?h2 ?_); (case h1 => first | assumption | exact upd_same); (case h2 => exact rfl))
  | ((with_reducible refine w_eq ?h1 ?_); (case h1 => exact rfl))
  | ((with_reducible refine w_ne ?h1 ?_); (case h1 => exact rfl))
  | dsimp only [List.set_cons_zero, List.set_cons_succ, List.append_nil, List.cons_append, List.nil_append, cxOf]))

/-! ### a formula drawn -/
structure FormF (most hm cl : Nat) (S Hd : List Int) (rc : List (List Int)) : Prop where
  sAsc : S.Pairwise (· < ·)
  hAsc : Hd.Pairwise (· < ·)
  dis : ∀ v ∈ S, v ∉ Hd
  sVar : ∀ v ∈ S, 1 ≤ v ∧ v ≤ 999
  hVar : ∀ v ∈ Hd, 1 ≤ v ∧ v ≤ 999
  sPos : 1 ≤ S.length
  sLen : S.length ≤ most
  hLen : Hd.length ≤ hm
  rLen : rc.length ≤ cl
  rAsc : ascC rc
  cls : ∀ c ∈ rc, isClauseF c = true ∧ c.length ≤ 5 ∧ ∀ n ∈ c, absI n ∈ S ∨ absI n ∈ Hd
/-- a formula in the heap -/
structure FormAt (H : Hp) (p : Addr) (S Hd : List Int) (rc : List (List Int)) : Prop where
  ex : ∃ (s h r : Addr) (bs : List Addr), H p = some (.tup [.ref s, .ref h, .ref r]) ∧ H s = some (.tup (S.map V.int)) ∧ H h = some (.tup (Hd.map V.int)) ∧ H r = some (.tup (bs.map V.ref)) ∧ ClsAt H bs rc
theorem FormAt.kept {H H' : Hp} {p : Addr} {S Hd : List Int} {rc : List (List Int)} (h : FormAt H p S Hd rc) (k : Kept H H') : FormAt H' p S Hd rc := by
  obtain ⟨s, t, r, bs, h1, h2, h3, h4, h5⟩ := h.ex
  exact ⟨s, t, r, bs, k.tup h1, k.tup h2, k.tup h3, k.tup h4, h5.kept k⟩
theorem FormAt.keptC {d c : Addr} {H H' : Hp} {p : Addr} {S Hd : List Int} {rc : List (List Int)} (h : FormAt H p S Hd rc) (k : KeptC d c H H') (hd : DrwC d c H) : FormAt H' p S Hd rc := by
  obtain ⟨s, t, r, bs, h1, h2, h3, h4, h5⟩ := h.ex
  exact ⟨s, t, r, bs, k.tup hd h1, k.tup hd h2, k.tup hd h3, k.tup hd h4, h5.keptC k hd⟩
def spLFormula : Sp := fun vs H Q _ => ∃ (d c : Addr) (most hm cl : Nat), vs = [.ref d, .int most, .int hm, .int cl] ∧ 1 ≤ most ∧ most + hm ≤ 11 ∧ cl ≤ 60 ∧ DrwC d c H ∧
  ∀ p H' S Hd rc, KeptC d c H H' → FormAt H' p S Hd rc → FormF most hm cl S Hd rc → Q (.ref p) H'
theorem isLit_of {u z : Int} (h : 1 ≤ u ∧ u ≤ 999) (hz : z = 1 ∨ z = -1) : isLit (u * z) = true ∧ absI (u * z) = u := by
  have e : absI (u * z) = u := by
    unfold absI
    rcases hz with rfl | rfl
    · rw [Int.mul_one, if_neg (by omega)]
    · rw [Int.mul_neg, Int.mul_one, if_pos (by omega)]
      omega
  refine ⟨?_, e⟩
  unfold isLit isVar
  rw [e]
  simp [h.1, h.2]
theorem erase_map {α β : Type} (g : α → β) : ∀ (xs : List α) (k : Nat), (xs.map g).eraseIdx k = (xs.eraseIdx k).map g
  | [], _ => rfl
  | _ :: _, 0 => rfl
  | x :: xs, k + 1 => by
    rw [List.map_cons, List.eraseIdx_cons_succ, List.eraseIdx_cons_succ, List.map_cons, erase_map g xs k]
theorem erase_perm {α : Type} : ∀ {xs : List α} {k : Nat} {y : α}, xs[k]? = some y → (y :: xs.eraseIdx k).Perm xs
  | [], _, _, h => by simp at h
  | x :: xs, 0, y, h => by
    have e : x = y := by simpa using h
    subst e
    exact List.Perm.refl _
  | x :: xs, k + 1, y, h => by
    rw [List.eraseIdx_cons_succ]
    have q := erase_perm (xs := xs) (k := k) (y := y) (by simpa using h)
    exact (List.Perm.swap x y _).trans (q.cons x)
theorem lit_ne {x : Int} (h : isLit x = true) : x ≠ 0 := fun e => by
  subst e
  exact absurd h (by decide)
theorem noBoth_snoc {row : List Int} {x : Int} (h : noBoth row) (h2 : -x ∉ row) (h3 : x ≠ 0) : noBoth (row ++ [x]) := fun l hl hn => by
  rcases List.mem_append.mp hl with a | a
  · rcases List.mem_append.mp hn with b | b
    · exact h l a b
    · have e : -l = x := List.mem_singleton.mp b
      exact h2 (by rw [← e, Int.neg_neg]; exact a)
  · have e : l = x := List.mem_singleton.mp a
    subst e
    rcases List.mem_append.mp hn with b | b
    · exact h2 b
    · have e : -l = l := List.mem_singleton.mp b
      omega
theorem lit_all {ls : List Int} (h : ∀ n ∈ ls, isLit n = true) : ∀ n ∈ ls, n.natAbs < 2 ^ 60 := fun n hn => lit_small (h n hn)
section
variable {P : Program} {w : World} {K : PySem.W.Frag} {mg : Str → Option Value} {base : Heap} {uG : Value} {f : Addr} {fd : FuncData}
end
end Ky

namespace Ky
open PySem PySem.Spec PyProof.Rows L2
local macro_rules | `(tactic| walk_at "rd") => `(tactic| repeat (first
  | with_reducible refine w_for1 ?_
  | with_reducible refine w_for2 ?_
  | with_reducible refine w_forL ?_
  | with_reducible refine w_forT ?_
  | with_reducible refine w_lc1 ?_
  | with_reducible refine w_lcL ?_
  | with_reducible refine w_lcT ?_
  | with_reducible refine w_seq ?_
  | with_reducible refine w_asg ?_
  | with_reducible refine w_ret ?_
  | with_reducible refine w_drop ?_
  | with_reducible refine w_ifs ?_
  | ((with_reducible refine' w_var ?hh ?_); (case hh => exact rfl))
  | with_reducible refine w_c ?_
  | with_reducible refine w_op ?_
  | with_reducible refine w_un ?_
  | with_reducible refine w_I0 ?_
  | with_reducible refine w_U ?_
  | with_reducible refine w_nil ?_
  | with_reducible refine w_cons ?_
  | with_reducible refine w_call ?_
  | with_reducible refine w_cb ?_
  | with_reducible refine w_test ?_
  | with_reducible refine w_B ?_
  | with_reducible refine w_bl ?_
  | with_reducible refine w_and ?_
  | with_reducible refine w_or ?_
  | with_reducible refine w_not ?_
  | with_reducible refine w_ife ?_
  | with_reducible refine w_gRd ?_
  | with_reducible refine w_andV ?_
  | with_reducible refine w_orV ?_
  | with_reducible refine w_notV ?_
  | with_reducible refine w_chain ?_
  | with_reducible refine w_din ?_
  | with_reducible refine w_isi_ii ?_
  | with_reducible refine w_isi_ib ?_
  | with_reducible refine w_isi_it ?_
  | with_reducible refine w_isi_st ?_
  | ((with_reducible refine w_isi_tt ?h1 ?_); (case h1 => first | assumption | exact upd_same))
  | with_reducible refine if_t rfl ?_
  | with_reducible refine if_f rfl ?_
  | with_reducible refine w_tup ?_
  | with_reducible refine w_lst ?_
  | with_reducible refine w_next ?_
  | with_reducible refine w_bm ?_
  | with_reducible refine w_sl ?_
  | with_reducible refine w_part ?_
  | with_reducible refine w_nop ?_
  | with_reducible refine w_isI ?_
  | with_reducible refine w_yes ?_
  | with_reducible refine w_gn ?_
  | with_reducible refine w_gsub ?_
  | ((with_reducible refine' w_setL ?h1 ?h2 ?_); (case h1 => first | assumption | exact upd_same); (case h2 => exact rfl))
  | with_reducible refine w_asgG ?_
  | with_reducible refine w_m1 ?_
  | with_reducible refine w_isS ?_
  | with_reducible refine w_tyS ?_
  | ((with_reducible refine' w_tyL ?h1 ?_); (case h1 => first | assumption | exact upd_same))
  | ((with_reducible refine' w_ixT ?h1 ?h2 ?_); (case h1 => first | assumption | exact upd_same); (case h2 => exact rfl))
  | ((with_reducible refine' w_ixL ?h1 ?h2 ?_); (case h1 => first | assumption | exact upd_same); (case h2 => exact rfl))
  | ((with_reducible refine w_eq ?h1 ?_); (case h1 => exact rfl))
  | ((with_reducible refine w_ne ?h1 ?_); (case h1 => exact rfl))
  | dsimp only [List.set_cons_zero, List.set_cons_succ, List.append_nil, List.cons_append, List.nil_append, cxOf]))

/-! ### weights drawn -/
structure WtAt (H : Hp) (q : Addr) (x : Int × (Int × Int)) : Prop where
  ex : ∃ fq : Addr, H q = some (.tup [.int x.1, .ref fq]) ∧ FrAt H fq x.2
theorem WtAt.kept {H H' : Hp} {q : Addr} {x : Int × (Int × Int)} (h : WtAt H q x) (k : Kept H H') : WtAt H' q x := by
  obtain ⟨fq, h1, h2⟩ := h.ex
  exact ⟨fq, k.tup h1, k.tup h2⟩
theorem WtAt.keptC {d c : Addr} {H H' : Hp} {q : Addr} {x : Int × (Int × Int)} (h : WtAt H q x) (k : KeptC d c H H') (hd : DrwC d c H) : WtAt H' q x := by
  obtain ⟨fq, h1, h2⟩ := h.ex
  exact ⟨fq, k.tup hd h1, k.tup hd h2⟩
theorem WtAt.upd {H : Hp} {D q : Addr} {xs : List V} {o : HO} {x : Int × (Int × Int)} (h : WtAt H q x) (hD : H D = some (.lst xs)) : WtAt (upd H D o) q x := by
  obtain ⟨fq, h1, h2⟩ := h.ex
  exact ⟨fq, tup_upd hD h1, tup_upd hD h2⟩
def WtsAt (H : Hp) (qs : List Addr) (ws : List (Int × (Int × Int))) : Prop := qs.length = ws.length ∧ ∀ (i : Nat) (q : Addr) (x : Int × (Int × Int)), qs[i]? = some q → ws[i]? = some x → WtAt H q x
theorem WtsAt.kept {H H' : Hp} {qs : List Addr} {ws : List (Int × (Int × Int))} (h : WtsAt H qs ws) (k : Kept H H') : WtsAt H' qs ws := ⟨h.1, fun i q x h1 h2 => (h.2 i q x h1 h2).kept k⟩
theorem WtsAt.keptC {d c : Addr} {H H' : Hp} {qs : List Addr} {ws : List (Int × (Int × Int))} (h : WtsAt H qs ws) (k : KeptC d c H H') (hd : DrwC d c H) : WtsAt H' qs ws := ⟨h.1, fun i q x h1 h2 => (h.2 i q x h1 h2).keptC k hd⟩
theorem WtsAt.upd {H : Hp} {D : Addr} {xs : List V} {o : HO} {qs : List Addr} {ws : List (Int × (Int × Int))} (h : WtsAt H qs ws) (hD : H D = some (.lst xs)) : WtsAt (upd H D o) qs ws := ⟨h.1, fun i q x h1 h2 => (h.2 i q x h1 h2).upd hD⟩
theorem WtsAt.snoc {H : Hp} {qs : List Addr} {ws : List (Int × (Int × Int))} {b : Addr} {x : Int × (Int × Int)} (h : WtsAt H qs ws) (hb : WtAt H b x) : WtsAt H (qs ++ [b]) (ws ++ [x]) := by
  refine ⟨by rw [List.length_append, List.length_append, h.1] <;> rfl, fun j q d hq hd => ?_⟩
  by_cases hj : j < qs.length
  · rw [List.getElem?_append_left hj] at hq
    rw [List.getElem?_append_left (by rw [← h.1]; exact hj)] at hd
    exact h.2 j q d hq hd
  · rw [List.getElem?_append_right (by omega)] at hq
    rw [List.getElem?_append_right (by rw [← h.1]; omega)] at hd
    rw [← h.1] at hd
    cases z : j - qs.length with
    | zero =>
      rw [z] at hq hd
      cases hq
      cases hd
      exact hb
    | succ m =>
      rw [z] at hq
      simp at hq
def litsF (S : List Int) : List Int := S.flatMap fun u => [-u, u]
theorem litsF_snoc (S : List Int) (v : Int) : litsF (S ++ [v]) = litsF S ++ [-v, v] := by
  unfold litsF
  rw [List.flatMap_append]
  rfl
theorem litsF_len (S : List Int) : (litsF S).length = 2 * S.length := by
  unfold litsF
  induction S with
  | nil => rfl
  | cons c cs ih =>
    rw [List.flatMap_cons, List.length_append, ih, List.length_cons]
    show 2 + 2 * cs.length = 2 * (cs.length + 1)
    omega
/-- a weight that is a fraction, small -/
def WtOk (x : Int × (Int × Int)) : Prop := 0 < x.2.2 ∧ Small 6 x.2 ∧ 0 ≤ x.2.1 ∧ Red x.2
structure WtF (S : List Int) (ws : List (Int × (Int × Int))) : Prop where
  sub : (ws.map (·.1)).Sublist (litsF S)
  ok : ∀ x ∈ ws, WtOk x
theorem WtF.len {S : List Int} {ws : List (Int × (Int × Int))} (h : WtF S ws) : ws.length ≤ 2 * S.length := by
  have q := h.sub.length_le
  rw [List.length_map, litsF_len] at q
  exact q
def spLWeights : Sp := fun vs H Q _ => ∃ (d c p : Addr) (S Hd : List Int) (rc : List (List Int)), vs = [.ref d, .ref p] ∧ DrwC d c H ∧ FormAt H p S Hd rc ∧ S.length ≤ 10 ∧
  ∀ q H' qs ws, KeptC d c H H' → H' q = some (.tup (qs.map V.ref)) → WtsAt H' qs ws → WtF S ws → Q (.ref q) H'
theorem frc_nn {n d : Int} (hd : 0 < d) (h : 0 ≤ n) : 0 ≤ (frc n d).1 := by
  have h1 := frc_cross (n := n) (d := d) (by omega)
  have h2 := frc_pos (n := n) (d := d) (by omega)
  have h3 : 0 ≤ (frc n d).1 * d := by
    rw [h1]
    exact Int.mul_nonneg h (by omega)
  exact Int.nonneg_of_mul_nonneg_left h3 hd
theorem wt_ok {n d l : Int} (h0 : 0 ≤ n) (h1 : n < 50) (h2 : 0 < d) (h3 : d ≤ 10) : WtOk (l, frc n d) :=
  ⟨frc_pos (by omega), frc_small (by omega) (by show n.natAbs < 64; omega) (by show d.natAbs < 64; omega), frc_nn h2 h0, frc_red (by omega)⟩
theorem w_gTup2 {K : PySem.W.Frag} {H : Hp} {b : Addr} {x y : V} {i j : Nat} {σ : L2.St} {R : L2.St → Hp → Prop} (h : H b = some (.tup [x, y])) (q : R ((σ.set i (some x)).set j (some y)) H) : gTup K 2 (gCons (gName i) (gCons (gName j) gNil)) (.ref b) σ H R :=
  ⟨b, _, rfl, SqT.of h, rfl, _, _, rfl, _, _, rfl, rfl, q⟩
/-- the weights that a filling has -/
def selF (fs : List Int) (ws : List (Int × (Int × Int))) : List (Int × Int) := (ws.filter fun x => decide (x.1 ∈ fs)).map (·.2)
def spLWeight : Sp := fun vs H Q _ => ∃ (q f : Addr) (qs : List Addr) (ws : List (Int × (Int × Int))) (fs : List Int), vs = [.ref q, .ref f] ∧ H q = some (.tup (qs.map V.ref)) ∧ WtsAt H qs ws ∧ H f = some (.tup (fs.map V.int)) ∧ (∀ x ∈ ws, WtOk x) ∧ ws.length ≤ 20 ∧
  ∀ p H', H p = none → Kept H H' → FrAt H' p (frc (prN (selF fs ws)).1 (prN (selF fs ws)).2) → Q (.ref p) H'
theorem prN_snoc (as : List (Int × Int)) (a : Int × Int) : prN (as ++ [a]) = ((prN as).1 * a.1, (prN as).2 * a.2) := by
  unfold prN
  rw [List.foldl_append]
  rfl
section
variable {P : Program} {w : World} {K : PySem.W.Frag} {mg : Str → Option Value} {base : Heap} {uG : Value} {f : Addr} {fd : FuncData}
end
end Ky

namespace Ky
open PySem PySem.Spec PyProof.Rows L2
local macro_rules | `(tactic| walk_at "rd") => `(tactic| repeat (first
  | with_reducible refine w_for1 ?_
  | with_reducible refine w_for2 ?_
  | with_reducible refine w_forL ?_
  | with_reducible refine w_forT ?_
  | with_reducible refine w_lc1 ?_
  | with_reducible refine w_lcL ?_
  | with_reducible refine w_lcT ?_
  | with_reducible refine w_seq ?_
  | with_reducible refine w_asg ?_
  | with_reducible refine w_ret ?_
  | with_reducible refine w_drop ?_
  | with_reducible refine w_ifs ?_
  | ((with_reducible refine' w_var ?hh ?_); (case hh => exact rfl))
  | with_reducible refine w_c ?_
  | with_reducible refine w_op ?_
  | with_reducible refine w_un ?_
  | with_reducible refine w_I0 ?_
  | with_reducible refine w_U ?_
  | with_reducible refine w_nil ?_
  | with_reducible refine w_cons ?_
  | with_reducible refine w_call ?_
  | with_reducible refine w_cb ?_
  | with_reducible refine w_test ?_
  | with_reducible refine w_B ?_
  | with_reducible refine w_bl ?_
  | with_reducible refine w_and ?_
  | with_reducible refine w_or ?_
  | with_reducible refine w_not ?_
  | with_reducible refine w_ife ?_
  | with_reducible refine w_gRd ?_
  | with_reducible refine w_andV ?_
  | with_reducible refine w_orV ?_
  | with_reducible refine w_notV ?_
  | with_reducible refine w_chain ?_
  | with_reducible refine w_din ?_
  | with_reducible refine w_isi_ii ?_
  | with_reducible refine w_isi_bi ?_
  | with_reducible refine w_isi_bb ?_
  | with_reducible refine w_isi_bt ?_
  | with_reducible refine w_isi_si ?_
  | with_reducible refine w_isi_nt ?_
  | with_reducible refine w_isi_ib ?_
  | with_reducible refine w_isi_it ?_
  | with_reducible refine w_isi_st ?_
  | ((with_reducible refine w_isi_tt ?h1 ?_); (case h1 => first | assumption | exact upd_same))
  | with_reducible refine if_t rfl ?_
  | with_reducible refine if_f rfl ?_
  | with_reducible refine w_tup ?_
  | with_reducible refine w_lst ?_
  | with_reducible refine w_next ?_
  | with_reducible refine w_bm ?_
  | with_reducible refine w_sl ?_
  | with_reducible refine w_part ?_
  | with_reducible refine w_nop ?_
  | with_reducible refine w_isI ?_
  | with_reducible refine w_yes ?_
  | with_reducible refine w_gn ?_
  | with_reducible refine w_gsub ?_
  | ((with_reducible refine' w_setL ?h1 ?h2 ?_); (case h1 => first | assumption | exact upd_same); (case h2 => exact rfl))
  | with_reducible refine w_asgG ?_
  | with_reducible refine w_m1 ?_
  | with_reducible refine w_isS ?_
  | with_reducible refine w_tyS ?_
  | ((with_reducible refine' w_tyL ?h1 ?_); (case h1 => first | assumption | exact upd_same))
  | ((with_reducible refine' w_ixT ?h1 ?h2 ?_); (case h1 => first | assumption | exact upd_same); (case h2 => exact rfl))
  | ((with_reducible refine' w_ixL ?h1 ?h2 ?_); (case h1 => first | assumption | exact upd_same); (case h2 => exact rfl))
  | ((with_reducible refine w_eq ?h1 ?_); (case h1 => exact rfl))
  | ((with_reducible refine w_ne ?h1 ?_); (case h1 => exact rfl))
  | dsimp only [List.set_cons_zero, List.set_cons_succ, List.append_nil, List.cons_append, List.nil_append, cxOf]))

/-! ### values of any kind, as far as the law makes them -/
inductive At where
  | i (n : Int)
  | b (x : Bool)
  | s (z : Str)
deriving DecidableEq
def At.v : At → V
  | .i n => .int n
  | .b x => .bl x
  | .s z => .str z
def At.dat : At → PyData
  | .i n => .int n
  | .b x => .bool x
  | .s z => .str z
def At.whole : At → Bool
  | .i _ => true
  | _ => false
def At.vr : At → Bool
  | .i n => isVar n
  | _ => false
inductive Fv where
  | n (k : Int)
  | p (n d : Int)
def FvAt (H : Hp) (v : V) : Fv → Prop
  | .n k => v = .int k
  | .p n d => ∃ q, v = .ref q ∧ H q = some (.tup [.int n, .int d])
def isFracF : Fv → Bool
  | .n _ => false
  | .p n d => decide (1 ≤ d) && decide ((Nat.gcd n.natAbs d.natAbs : Int) = 1)
def spWhole : Sp := fun vs H Q _ => ∃ x : At, vs = [x.v] ∧ Q (.bl x.whole) H
def spVar : Sp := fun vs H Q _ => ∃ x : At, vs = [x.v] ∧ Q (.bl x.vr) H
def spLit : Sp := fun vs H Q _ => ∃ n, vs = [.int n] ∧ Q (.bl (isLit n)) H
def spIsFrac : Sp := fun vs H Q _ => ∃ (v : V) (x : Fv), vs = [v] ∧ FvAt H v x ∧ Q (.bl (isFracF x)) H
def spAsc (K : PySem.W.Frag) (P0 : Addr) : Sp := fun vs H Q _ => ∃ (a : Addr) (xs : List V) (ds : List PyData), vs = [.ref a] ∧ (H a = some (.lst xs) ∨ H a = some (.tup xs)) ∧ xs.length ≤ sizeLine ∧ DpAll K H xs ds ∧ PySem.W.AllAlike ds ∧ (∀ d ∈ ds, d ≠ .none ∧ d.depth ≤ 60) ∧ GxR.TabG H P0 ∧ ∀ H', Kept H H' → Q (.bl (ascD ds)) H'
def spVarsOf : Sp := fun vs H Q _ => ∃ (a : Addr) (bs : List Addr) (cs : List (List Int)), vs = [.ref a] ∧ H a = some (.lst (bs.map V.ref)) ∧ ClsAt H bs cs ∧ cs.flatten.length ≤ 60 ∧
  ∀ (ns : List Int) p H', ns.Pairwise (· < ·) → (∀ k, k ∈ ns ↔ k ∈ absAll cs) → Kept H H' → H p = none → H' p = some (.tup (ns.map V.int)) → Q (.ref p) H'
def spIsClause (K : PySem.W.Frag) (P1 P2 : Addr) : Sp := fun vs H Q _ => (∃ x : At, vs = [x.v] ∧ Q (.bl false) H) ∨
  ∃ (a : Addr) (ls : List Int), vs = [.ref a] ∧ H a = some (.tup (ls.map V.int)) ∧ ls.length ≤ 1000 ∧ GxR.TabG H P1 ∧ GxR.TabG H P2 ∧ ∀ H', Kept H H' → Q (.bl (isClauseF ls)) H'
def spIsResidue (K : PySem.W.Frag) (P1 P2 P3 : Addr) : Sp := fun vs H Q _ => ∃ (a : Addr) (bs : List Addr) (cs : List (List Int)), vs = [.ref a] ∧ H a = some (.tup (bs.map V.ref)) ∧ ClsAt H bs cs ∧ cs.length ≤ 1000 ∧ (∀ c ∈ cs, c.length ≤ 1000) ∧ GxR.TabG H P1 ∧ GxR.TabG H P2 ∧ GxR.TabG H P3 ∧ ∀ H', Kept H H' → Q (.bl (isResidueF cs)) H'
section
variable {P : Program} {w : World} {K : PySem.W.Frag} {mg : Str → Option Value} {base : Heap} {uG : Value} {f : Addr} {fd : FuncData}
end
end Ky

namespace Ky
open PySem PySem.Spec PyProof.Rows L2
local macro_rules | `(tactic| walk_at "rd") => `(tactic| repeat (first
  | with_reducible refine w_for1 ?_
  | with_reducible refine w_for2 ?_
  | with_reducible refine w_forL ?_
  | with_reducible refine w_forT ?_
  | with_reducible refine w_lc1 ?_
  | with_reducible refine w_lcL ?_
  | with_reducible refine w_lcT ?_
  | with_reducible refine w_seq ?_
  | with_reducible refine w_asg ?_
  | with_reducible refine w_ret ?_
  | with_reducible refine w_drop ?_
  | with_reducible refine w_ifs ?_
  | ((with_reducible refine' w_var ?hh ?_); (case hh => exact rfl))
  | with_reducible refine w_c ?_
  | with_reducible refine w_op ?_
  | with_reducible refine w_un ?_
  | with_reducible refine w_I0 ?_
  | with_reducible refine w_U ?_
  | with_reducible refine w_nil ?_
  | with_reducible refine w_cons ?_
  | with_reducible refine w_call ?_
  | with_reducible refine w_cb ?_
  | with_reducible refine w_test ?_
  | with_reducible refine w_B ?_
  | with_reducible refine w_bl ?_
  | with_reducible refine w_and ?_
  | with_reducible refine w_or ?_
  | with_reducible refine w_not ?_
  | with_reducible refine w_ife ?_
  | with_reducible refine w_gRd ?_
  | with_reducible refine w_andV ?_
  | with_reducible refine w_orV ?_
  | with_reducible refine w_notV ?_
  | with_reducible refine w_chain ?_
  | with_reducible refine w_din ?_
  | with_reducible refine w_isi_ii ?_
  | with_reducible refine w_isi_bi ?_
  | with_reducible refine w_isi_bb ?_
  | with_reducible refine w_isi_bt ?_
  | with_reducible refine w_isi_si ?_
  | with_reducible refine w_isi_nt ?_
  | with_reducible refine w_isi_ib ?_
  | with_reducible refine w_isi_it ?_
  | with_reducible refine w_isi_st ?_
  | ((with_reducible refine w_isi_tt ?h1 ?_); (case h1 => first | assumption | exact upd_same))
  | with_reducible refine if_t rfl ?_
  | with_reducible refine if_f rfl ?_
  | with_reducible refine w_tup ?_
  | with_reducible refine w_lst ?_
  | with_reducible refine w_next ?_
  | with_reducible refine w_bm ?_
  | with_reducible refine w_sl ?_
  | with_reducible refine w_part ?_
  | with_reducible refine w_nop ?_
  | with_reducible refine w_isI ?_
  | with_reducible refine w_yes ?_
  | with_reducible refine w_gn ?_
  | with_reducible refine w_gsub ?_
  | ((with_reducible refine' w_setL ?h1 ?h2 ?_); (case h1 => first | assumption | exact upd_same); (case h2 => exact rfl))
  | with_reducible refine w_asgG ?_
  | with_reducible refine w_m1 ?_
  | with_reducible refine w_isS ?_
  | with_reducible refine w_tyS ?_
  | ((with_reducible refine' w_tyL ?h1 ?_); (case h1 => first | assumption | exact upd_same))
  | ((with_reducible refine' w_ixT ?h1 ?h2 ?_); (case h1 => first | assumption | exact upd_same); (case h2 => exact rfl))
  | ((with_reducible refine' w_ixL ?h1 ?h2 ?_); (case h1 => first | assumption | exact upd_same); (case h2 => exact rfl))
  | ((with_reducible refine w_eq ?h1 ?_); (case h1 => exact rfl))
  | ((with_reducible refine w_ne ?h1 ?_); (case h1 => exact rfl))
  | dsimp only [List.set_cons_zero, List.set_cons_succ, List.append_nil, List.cons_append, List.nil_append, cxOf]))

def varsF (S : List At) : Bool := (List.range (S.map At.v).length).all (fun i => (S.getD i (.i 0)).vr) && ascD (S.map At.dat)
def comF (S Hd : List At) : Bool := Hd.any fun x => x.vr && decide (x ∈ S)
def knownF (cs : List (List Int)) (vs : List Int) : Bool := (absAll cs).all fun v => decide (v ∈ vs)
def spVars (K : PySem.W.Frag) (P1 P2 : Addr) : Sp := fun vs H Q _ => ∃ (a : Addr) (S : List At), vs = [.ref a] ∧ H a = some (.tup (S.map At.v)) ∧ S.length ≤ 1000 ∧ GxR.TabG H P1 ∧ GxR.TabG H P2 ∧ ∀ H', Kept H H' → Q (.bl (varsF S)) H'
def spCommon (P1 : Addr) : Sp := fun vs H Q _ => ∃ (a b : Addr) (S Hd : List At), vs = [.ref a, .ref b] ∧ H a = some (.tup (S.map At.v)) ∧ H b = some (.tup (Hd.map At.v)) ∧ S.length ≤ 1000 ∧ Hd.length ≤ 1000 ∧ GxR.TabG H P1 ∧ ∀ H', Kept H H' → Q (.bl (comF S Hd)) H'
def spKnown (P1 : Addr) : Sp := fun vs H Q _ => ∃ (a b : Addr) (bs : List Addr) (cs : List (List Int)) (ns : List Int), vs = [.ref a, .ref b] ∧ H a = some (.lst (bs.map V.ref)) ∧ ClsAt H bs cs ∧ cs.flatten.length ≤ 60 ∧ H b = some (.tup (ns.map V.int)) ∧ ns.length ≤ 1000 ∧ GxR.TabG H P1 ∧ ∀ H', Kept H H' → Q (.bl (knownF cs ns)) H'
theorem putK_le (c : List (L2.Key × V)) (k : L2.Key) (x : V) : (putK c k x).length ≤ c.length + 1 := by
  unfold putK
  by_cases e : (c.any fun kv => decide (kv.1 = k)) = true
  · rw [if_pos e, List.length_map]
    omega
  · rw [if_neg e, List.length_append]
    exact Nat.le_refl _
theorem map_at {S : List At} {i : Nat} {y : V} (h : (S.map At.v)[i]? = some y) : ∃ x, y = At.v x ∧ S[i]? = some x := by
  rw [List.getElem?_map] at h
  obtain ⟨x, hx, rfl⟩ := Option.map_eq_some_iff.mp h
  exact ⟨x, rfl, hx⟩
theorem dpAll_at0 {K : PySem.W.Frag} {H : Hp} : ∀ S : List At, DpAll K H (S.map At.v) (S.map At.dat)
  | [] => .nil
  | .i n :: S => .cons (.int n) (dpAll_at0 S)
  | .b x :: S => .cons (.bl x) (dpAll_at0 S)
  | .s z :: S => .cons (.str z) (dpAll_at0 S)
theorem all_vr {S : List At} (h : S.all At.vr = true) : ∃ ns : List Int, S = ns.map At.i ∧ ∀ n ∈ ns, isVar n = true := by
  induction S with
  | nil => exact ⟨[], rfl, fun n hn => by simp at hn⟩
  | cons x S ih =>
    rw [List.all_cons, Bool.and_eq_true] at h
    obtain ⟨ns, e, hn⟩ := ih h.2
    cases x with
    | i n =>
      refine ⟨n :: ns, by rw [e]; rfl, fun m hm => ?_⟩
      rcases List.mem_cons.mp hm with rfl | hm
      · exact h.1
      · exact hn m hm
    | b x => exact absurd h.1 Bool.false_ne_true
    | s z => exact absurd h.1 Bool.false_ne_true
section
variable {P : Program} {w : World} {K : PySem.W.Frag} {mg : Str → Option Value} {base : Heap} {uG : Value} {f : Addr} {fd : FuncData}
end
end Ky

namespace Ky
open PySem PySem.Spec PyProof.Rows L2
/-! ### sets of keys of one kind, whose table rises: set(xs) of a list, sorted of it -/
/-- a set at its beginning -/
abbrev so0 (w : World) : Obj := { cls := .type "set", dict := none, data := .set #[] 0 (.fresh 0 0 (!w.params.followText "set-order")) }
section
variable {P : Program} {w : World} {T : Type} [DecidableEq T]
/-- rd reads the key of a value -/
def RdKey (kd : PySem.KeyKind P w T) (rd : Value → T) : Prop := ∀ k v, kd.is k v = true → rd v = k
structure RKey (kd : PySem.KeyKind P w T) (rd : Value → T) (xs : List (Int × Value)) (ks : List T) : Prop where
  els : ElemsOf kd xs
  nd : (xs.map fun e => rd e.2).Nodup
  mem : ∀ k, k ∈ ks ↔ k ∈ xs.map fun e => rd e.2
variable {kd : PySem.KeyKind P w T} {rd : Value → T} {xs ys : List (Int × Value)} {ks : List T} {k : T} {x : Value}
theorem RKey.nil : RKey kd rd [] [] := ⟨fun e he => (by cases he), List.nodup_nil, fun k => (by simp)⟩
theorem RKey.perm (R : RKey kd rd xs ks) (p : ys.Perm xs) : RKey kd rd ys ks :=
  ⟨R.els.perm p, (p.map fun e => rd e.2).nodup_iff.mpr R.nd, fun k => (R.mem k).trans (p.map fun e => rd e.2).mem_iff.symm⟩
theorem RKey.iff (hr : RdKey kd rd) (R : RKey kd rd xs ks) (k : T) : k ∈ ks ↔ ∃ e ∈ xs, kd.is k e.2 = true := by
  rw [R.mem k, List.mem_map]
  constructor
  · rintro ⟨e, he, q⟩
    obtain ⟨⟨k2, h1, _⟩, _⟩ := R.els e he
    have z := hr k2 _ h1
    rw [q] at z
    exact ⟨e, he, by rw [z]; exact h1⟩
  · rintro ⟨e, he, q⟩
    exact ⟨e, he, hr k _ q⟩
theorem RKey.same (R : RKey kd rd xs ks) (h : k ∈ ks) : RKey kd rd xs (ks ++ [k]) :=
  ⟨R.els, R.nd, fun j => by
    rw [List.mem_append, List.mem_singleton, ← R.mem j]
    exact ⟨fun z => z.elim id fun e => e ▸ h, .inl⟩⟩
theorem RKey.more (hr : RdKey kd rd) (R : RKey kd rd xs ks) (h : k ∉ ks) (hk : kd.is k x = true) (hs : x.scannable = true) (p : ys.Perm (xs ++ [(kd.hash k, x)])) : RKey kd rd ys (ks ++ [k]) := by
  have pk : (ys.map fun e => rd e.2).Perm ((xs.map fun e => rd e.2) ++ [k]) := by
    have z := p.map fun e : Int × Value => rd e.2
    rw [List.map_append, List.map_cons, List.map_nil, hr k x hk] at z
    exact z
  refine ⟨(R.els.push hk hs).perm p, pk.nodup_iff.mpr ?_, fun j => ?_⟩
  · rw [(List.perm_append_singleton k _).nodup_iff]
    exact List.nodup_cons.mpr ⟨fun z => h ((R.mem k).mpr z), R.nd⟩
  · rw [pk.mem_iff, List.mem_append, List.mem_append, R.mem j]
def SetK (kd : PySem.KeyKind P w T) (rd : Value → T) (h : Heap) (a : Addr) (ks : List T) : Prop :=
  ∃ o es ep t, h.get? a = some o ∧ o.ExactSet ∧ o.data = .set es ep t ∧ RKey kd rd es.toList ks ∧ t.fits es.size = true ∧ es.size ≤ ks.length ∧ Ris t.place.toList ∧ (w.params.followText "set-order" = true ∨ t.led = true)
theorem SetK.at {h h' : Heap} {a : Addr} (S : SetK kd rd h a ks) (q : ∀ o, h.get? a = some o → h'.get? a = some o) : SetK kd rd h' a ks := by
  obtain ⟨o, es, ep, t, ho, r⟩ := S
  exact ⟨o, es, ep, t, q o ho, r⟩
theorem SetK.new {h : Heap} {a : Addr} (ho : h.get? a = some (so0 w)) : SetK kd rd h a [] :=
  ⟨_, #[], 0, _, ho, ⟨rfl, rfl, rfl⟩, rfl, RKey.nil, rfl, Nat.zero_le _, List.Pairwise.nil, by
    show _ ∨ (!w.params.followText "set-order") = true
    cases w.params.followText "set-order"
    · exact .inr rfl
    · exact .inl rfl⟩
theorem SetK.lay {h : Heap} {a : Addr} {o : Obj} {es es' : Array (Int × Value)} {ep : Nat} {t t' : SetTable} (ho : h.get? a = some o) (hex : o.ExactSet) (hd : o.data = .set es ep t) (R : RKey kd rd es'.toList ks) (hf : t'.fits es'.size = true) (hz : es'.size ≤ ks.length) (hr : Ris t'.place.toList) (hl : w.params.followText "set-order" = true ∨ t'.led = true) :
    SetK kd rd (h.update a (Obj.putSet es' t')) a ks := ⟨_, es', ep + 1, t', store_at ho hd, hex, rfl, R, hf, hz, hr, hl⟩
variable {A : Around} {E : Value → Shared → Prop} {s : Shared} {a : Addr}
/-- the end of an add: the table is stored, and laid anew where it is too full -/
theorem setK_end {g : Bool → Sem Unit} (hg : ∀ (b : Bool) (s1 : Shared) (Q' : Unit → Shared → Prop), Q' () s1 → wpAny (model P w) A (g b) Q' E s1) {o : Obj} {es e1 : Array (Int × Value)} {ep : Nat} {t t2 : SetTable} {D : Bool} {R : Option Bool → Shared → Prop}
    (ho : s.heap.get? a = some o) (hex : o.ExactSet) (hd : o.data = .set es ep t) (K1 : RKey kd rd e1.toList ks) (hf : t2.fits e1.size = true) (hz : e1.size ≤ ks.length) (hb : ks.length < scanBound) (hr : Ris t2.place.toList) (hl : w.params.followText "set-order" = true ∨ t2.led = true)
    (q : ∀ h', Heap.SameBut a s.heap h' → SetK kd rd h' a ks → R (some true) { s with heap := h' }) :
    wpAny (model P w) A (storeSet a e1 t2 >>= fun _ => if (!D && t2.tooFull) = true then g (relayAll t2 e1 (SetTable.grown e1.size)).2.2 >>= fun _ => storeSet a (relayAll t2 e1 (SetTable.grown e1.size)).1 (relayAll t2 e1 (SetTable.grown e1.size)).2.1 >>= fun _ => pure (some true) else pure (some true)) R E s := by
  have b1 : e1.size < scanBound := Nat.lt_of_le_of_lt hz hb
  refine wpAny_bind (wpAny_storeSet_of ho hd ?_ (fits_of_scanBound b1))
  have sb := Heap.SameBut.update s.heap a (Obj.putSet e1 t2)
  by_cases c : (!D && t2.tooFull) = true
  · rw [if_pos c]
    obtain ⟨e2, he2⟩ : ∃ z, z = relayAll t2 e1 (SetTable.grown e1.size) := ⟨_, rfl⟩
    have pm : e2.1.toList.Perm e1.toList := by rw [he2]; exact relayAll_perm t2 e1 _
    have hz2 : e2.1.size = e1.size := by
      have z := pm.length_eq
      rwa [Array.length_toList, Array.length_toList] at z
    rw [← he2]
    refine wpAny_bind (hg _ _ _ (wpAny_bind (wpAny_storeSet_of (store_at ho hd) rfl ?_ (fits_of_scanBound (by rw [hz2]; exact b1)))))
    refine wpAny_pure (q _ (sb.trans (Heap.SameBut.update _ a _)) (SetK.lay (store_at ho hd) hex rfl (K1.perm pm) ?_ (by rw [hz2]; exact hz) ?_ ?_))
    · rw [he2]; exact relayAll_fits t2 e1 _
    · rw [he2]; exact relayAll_ris t2 e1 _
    · rw [he2]; exact hl.imp id fun z => (relayAll_led t2 e1 _).trans z
  · rw [if_neg c]
    exact wpAny_pure (q _ sb (SetK.lay ho hex hd K1 hf hz hr hl))
theorem gone_way (b : Bool) {s1 : Shared} {Q' : Unit → Shared → Prop} (q : Q' () s1) : wpAny (model P w) A (match b with | true => rule "set.scan.the-table-gave-way" | false => pure ()) Q' E s1 := by
  cases b
  · exact wpAny_pure q
  · exact wpAny_rule q
theorem SetK.add (hr : RdKey kd rd) {Q : Bool → Shared → Prop} (hk : kd.is k x = true) (hs : x.scannable = true) (S : SetK kd rd s.heap a ks) (room : ks.length + 1 < scanBound)
    (q : ∀ b h', Heap.SameBut a s.heap h' → SetK kd rd h' a (ks ++ [k]) → Q b { s with heap := h' }) : wpAny (model P w) A (setAddHashed a x (kd.hash k)) Q E s := by
  obtain ⟨o, es, ep, t, ho, hex, hd, R, hf, hz, hri, hl⟩ := S
  have hb : es.size < scanBound := by omega
  have hln : (ks ++ [k]).length = ks.length + 1 := List.length_append
  unfold setAddHashed setAddHashedIn
  refine wpAny_holding (wpAny_bind (wpAny_setState_of ho hd hf ?_))
  dsimp only
  rw [show byScan x es = true from byScan_of hs hb R.els]
  simp only [↓reduceIte]
  unfold setAddByScan
  refine wpAny_bind (wpAny_bind (wpAny_rule (wpAny_bind (wpAny_setScan_of hk ho hd hf R.els ?_))))
  cases hi : List.findIdx? (fun e => kd.is k e.2) es.toList with
  | some j =>
    obtain ⟨hj, pj, _⟩ := List.findIdx?_eq_some_iff_getElem.mp hi
    have hm : k ∈ ks := (R.iff hr k).mpr ⟨_, List.getElem_mem hj, pj⟩
    exact wpAny_pure (wpAny_pure (q _ s.heap (Heap.SameBut.refl a _) ⟨o, es, ep, t, ho, hex, hd, R.same hm, hf, by omega, hri, hl⟩))
  | none =>
    have hm : k ∉ ks := fun z => by
      obtain ⟨e, he, c⟩ := (R.iff hr k).mp z
      rw [List.findIdx?_eq_none_iff.mp hi e he] at c
      cases c
    dsimp only
    have pm := layNew_perm t es (kd.hash k) x
    have f1 := layNew_fits t es (kd.hash k) x
    have r1 := layNew_ris t es (kd.hash k) x hri
    have l1 := layNew_led t es (kd.hash k) x
    generalize layNew t es (kd.hash k) x = Z at pm f1 r1 l1 ⊢
    obtain ⟨e1, t1, D, G⟩ := Z
    dsimp only at pm f1 r1 l1 ⊢
    rw [Array.toList_push] at pm
    have K1 := R.more hr hm hk hs pm
    have hz1 : e1.size ≤ (ks ++ [k]).length := by
      have z := pm.length_eq
      rw [Array.length_toList, List.length_append, Array.length_toList] at z
      rw [hln]
      have z : e1.size = es.size + 1 := z
      omega
    have hl1 : w.params.followText "set-order" = true ∨ t1.led = true := hl.imp id fun z => l1.trans z
    have hb1 : (ks ++ [k]).length < scanBound := by omega
    refine wpAny_bind (gone_way _ ?_)
    split
    · refine wpAny_bind ?_
      rw [hashByValue_scannable 8 hs]
      refine wpAny_pure (setK_end (fun b s1 Q' z => gone_way b z) ho hex hd K1 ?_ hz1 hb1 ?_ ?_ fun h' sb z => wpAny_pure (q _ h' sb z))
      · split
        · exact f1
        · exact SetTable.fits_plain_off f1
      · split <;> exact r1
      · split <;> exact hl1
    · refine wpAny_bind (wpAny_pure ?_)
      simp only [↓reduceIte]
      exact setK_end (fun b s1 Q' z => gone_way b z) ho hex hd K1 f1 hz1 hb1 r1 hl1 fun h' sb z => wpAny_pure (q _ h' sb z)
/-- the loop that puts in what comes -/
theorem SetK.fill (hr : RdKey kd rd) {I : Addr} {fp wr : List Addr} {G : Array GenState → Array GenState → Prop} {n : Nat} {Pv : Nat → Value → Prop} {St : Nat → Shared → Prop} {R : Result → Shared → Prop} (W : WalksS P w A.in1 I fp wr G n Pv St) {S : Addr} (hS : S ∉ fp) {ks : List T} (hn : n = ks.length) (hb : ks.length + 1 < scanBound)
    (hv : ∀ i v, Pv i v → ∃ k, ks[i]? = some k ∧ kd.is k v = true ∧ v.scannable = true) : ∀ (m i : Nat) (s : Shared), n - i = m → i ≤ n → St i s → SetK kd rd s.heap S (ks.take i) → (∀ s', Moved (S :: wr) G s s' → SetK kd rd s'.heap S ks → R (.ok (.ret .none)) s') →
      codeAny (model P w) A (.builtin "set.update.loop" ⟨[.ref S, .ref I], []⟩) R s
  | 0, i, s, hm, hi, st, K1, q => by
    have e : i = n := by omega
    rw [show ks.take i = ks from List.take_of_length_le (by omega)] at K1
    refine codeAny_builtin F.entry_set_update_loop (by rw [Around.under_plainId F.plain_set_update_loop _]; show wpAny _ A.in1 (pyNext (.ref I) >>= _) _ _ s; exact wpAny_bind (W.done s _ _ (e ▸ st) fun s' mv => wpAny_pure (q s' (mv.mono fun b z => List.mem_cons_of_mem _ z) (K1.at fun o z => mv.heap S o (fun z => hS (W.sub _ z)) z))))
  | m + 1, i, s, hm, hi, st, K1, q => by
    refine codeAny_builtin F.entry_set_update_loop ?_; rw [Around.under_plainId F.plain_set_update_loop _]; show wpAny _ A.in1 (pyNext (.ref I) >>= _) _ _ s
    refine wpAny_bind (W.item i s _ _ (by omega) st fun v s' pv st' mv => ?_)
    obtain ⟨k, hk, h1, h2⟩ := hv i v pv
    have K2 : SetK kd rd s'.heap S (ks.take i) := K1.at fun o z => mv.heap S o (fun z => hS (W.sub _ z)) z
    refine wpAny_bind (m := holding [v] (setAdd S v)) (wpAny_holding ?_)
    unfold setAdd
    refine wpAny_holding (wpAny_bind (kd.pyHash h1 (SetK.add (s := { s' with toks := s'.toks + 1 }) hr h1 h2 K2 ?_ fun b h' sb K3 => ?_)))
    · rw [List.length_take]; omega
    · have K4 : SetK kd rd h' S (ks.take (i + 1)) := by rw [List.take_add_one, hk]; exact K3
      have old : ∀ b, b ≠ S → ∀ o, s'.heap.get? b = some o → h'.get? b = some o := fun b z o e => by rw [sb.2 b z]; exact e
      refine wpAny_pure ⟨plainId_quiet F.plain_set_update_loop _, SetK.fill hr W hS hn hb hv m (i + 1) _ (by omega) (by omega) (W.frame _ s' _ _ st' (Nat.le_succ _) fun b z o e => old b (fun c => hS (by rw [← c]; exact z)) o e) K4 fun s2 mv2 K5 => q s2 (Moved.trans W.gtrans ((mv.mono fun b z => List.mem_cons_of_mem _ z).then_heap (Nat.le_succ _) fun b o z e => old b (fun c => z (by rw [c]; exact List.mem_cons_self)) o e) mv2) K5⟩
theorem sz1 (h : Heap) (o : Obj) : (h.push o).objs.size = h.objs.size + 1 := Heap.size_push ..
/-- set(l), as the object is filled -/
theorem SetK.init (hr : RdKey kd rd) {l : Addr} {its : Array Value} {ks : List T} {Q : Value → Shared → Prop} (hh : A.handled = none) (hl : s.heap.IsList l its) (hz : its.size = ks.length) (hb : ks.length + 1 < scanBound) (hv : ∀ (i : Nat) (v : Value), its[i]? = some v → ∃ k, ks[i]? = some k ∧ kd.is k v = true ∧ v.scannable = true)
    (q : ∀ h' tk, SetK kd rd h' s.heap.objs.size ks → (∀ b o, s.heap.get? b = some o → h'.get? b = some o) → Q (.ref s.heap.objs.size) { s with heap := h', toks := tk }) : wpAny (model P w) A (call (.type "set") [.ref l]) Q E s := by
  obtain ⟨c, tl, hmro⟩ := F.called_set.mro
  have c1 := F.called_set.made
  have c2 := F.called_set.sub
  have c3 := F.called_set.notType
  have c4 := F.called_set.canCreate
  have c5 := F.typeCall_set_1 (.ref l)
  have c6 := F.called_set.init.lookup
  have c7 := F.called_set.init.bind (.ref s.heap.objs.size)
  have hlt : l < s.heap.objs.size := by obtain ⟨o, ho, _⟩ := hl; exact Heap.lt_size ho
  refine wpAny_call (codeAny_of_tree ?_); show wpAny _ _ (callAny (.type "set") _) _ _ _
  refine wpAny_pure ⟨Code.quiet_builtin _ (by decide +kernel), codeAny_builtin F.entry_type_call ?_⟩; rw [Around.under_plain (weight_type_call_type "set" [.ref l] []) rfl]
  repeat (any_goals (first | assumption | wp_step))
  refine codeAny_mono (code_set_led1 (.ref l) (E := E) (Q₁ := fun ob s1 => ob = .ref s.heap.objs.size ∧ s1 = { s with heap := s.heap.push (so0 w) }) ⟨rfl, rfl⟩) fun r s1 hr1 => ?_
  rcases r with e | fl
  · exact hr1
  cases fl <;> try exact hr1.elim
  obtain ⟨rfl, rfl⟩ := hr1
  have g0 : (s.heap.push (so0 w)).get? s.heap.objs.size = some (so0 w) := Heap.get?_push_size _ rfl
  have ty : Shared.TypeIs { s with heap := s.heap.push (so0 w) } (.ref s.heap.objs.size) "set" := ⟨_, g0, rfl⟩
  repeat (any_goals (first | assumption | wp_step))
  refine codeAny_mono (codeAny_call_builtin (R := wants (fun r s2 => r = .none ∧ ∃ h' tk, s2 = { s with heap := h', toks := tk } ∧ SetK kd rd h' s.heap.objs.size ks ∧ ∀ b o, s.heap.get? b = some o → h'.get? b = some o) E) F.called_set.init.plain F.entry_set_init (check_set_init_1 ty ?_)) fun r s2 hr2 => ?_
  · have hl1 : (s.heap.push (so0 w)).IsList l its := hl.push _
    obtain ⟨⟨oc, od, ob, os⟩, ho, hc, nl, hd⟩ := hl
    simp only at hc hd
    subst hc; subst hd
    have ho1 : (s.heap.push (so0 w)).get? l = some { cls := .type "list", dict := od, data := .seq its nl, slots := os } := Heap.get?_push_of_some _ ho
    have n1 := F.sub_list_set
    have n2 := F.sub_list_frozenset
    have n3 : (Value.type "list" == Value.type "dict") = false := by decide
    unfold Builtin.«set.__init__» noKeywords Builtin.Frozenset.updateFrom; generalize hPI : pyIter = PI
    wp_walk
    subst hPI
    refine wpAny_pyIter_list hl1 (wpAny_bind (wpAny_runValue ?_))
    have hh3 : A.in1.in1.in1.handled = none := by simp [hh]
    have hI : l ≠ (s.heap.push (so0 w)).objs.size := by rw [sz1]; exact Nat.ne_of_lt (Nat.lt_succ_of_lt hlt)
    have hS : s.heap.objs.size ∉ [(s.heap.push (so0 w)).objs.size, l] := by
      rw [sz1, List.mem_cons, List.mem_singleton]
      exact fun z => z.elim (fun z => Nat.ne_of_lt (Nat.lt_succ_self _) z) fun z => Nat.ne_of_gt hlt z
    refine SetK.fill hr ((Walks.list hh3 _ l hI its).toS) hS hz hb hv (its.size - 0) 0 _ rfl (Nat.zero_le _) ⟨⟨_, Heap.get?_push_size _ rfl, rfl, rfl⟩, hl1.push _⟩ (SetK.new (Heap.get?_push_of_some _ g0)) fun s3 mv K3 => ?_
    obtain ⟨h3, g3, d3, t3, o3⟩ := s3
    cases (mv.gens : g3 = s.gens)
    cases (mv.drawn : d3 = s.drawn)
    cases (mv.os : o3 = s.os)
    show wpAny _ _ _ _ _ _
    refine wpAny_pure ?_
    show wpAny _ _ (ret Value.none) _ _ _
    refine wpAny_pure ⟨rfl, h3, t3, rfl, K3, fun b o e => mv.heap b o ?_ (Heap.get?_push_of_some _ (Heap.get?_push_of_some _ e))⟩
    have hb0 := Heap.lt_size e
    rw [sz1, List.mem_cons, List.mem_singleton]
    exact fun z => z.elim (fun z => Nat.ne_of_lt hb0 z) fun z => Nat.ne_of_lt (Nat.lt_succ_of_lt hb0) z
  · rcases r with e | fl
    · exact hr2
    cases fl <;> try exact hr2.elim
    obtain ⟨rfl, h', tk, rfl, K3, kp⟩ := hr2
    repeat (any_goals (first | assumption | wp_step))
    exact q h' tk K3 kp
end
end Ky

namespace Ky
open PySem PySem.Spec PyProof.Rows L2
/-! ### sorted(set(xs)), ints and texts -/
section
variable {P : Program} {w : World} {T : Type} [DecidableEq T] {kd : PySem.KeyKind P w T} {rd : Value → T} {ks : List T}
/-- list.sort sorts values of the kind -/
def Sorts (kd : PySem.KeyKind P w T) (rd : Value → T) (sr : List T → Prop) : Prop := ∀ {A : Around} {E : Value → Shared → Prop} {s : Shared} {a : Addr} {vs : List Value} {R : PySem.Fin → Shared → Prop}, s.heap.get? a = some (seqObj "list" vs.toArray 0) → vs.length ≤ sizeLine → (∀ v ∈ vs, ∃ k, kd.is k v = true) →
  (∀ out : Array Value, (∀ v ∈ out.toList, ∃ k, kd.is k v = true) → (out.toList.map rd).Perm (vs.map rd) → sr (out.toList.map rd) → R (.done (.ret .none)) { s with heap := sortedHeap s.heap a vs out }) → wpAny (model P w) A (Builtin.«list.sort» ⟨[.ref a], []⟩) R E s
variable {A : Around} {E : Value → Shared → Prop} {s : Shared} {a : Addr}
theorem SetK.sorted {sr : List T → Prop} (hso : Sorts kd rd sr) {Q : Value → Shared → Prop} (S : SetK kd rd s.heap a ks) (hb : ks.length < scanBound) (hh : A.handled = none)
    (q : ∀ s' p (out : Array Value) (c : Nat), (∀ b o, s.heap.get? b = some o → s'.heap.get? b = some o) → s'.gens = s.gens → s'.os = s.os → s.heap.objs.size ≤ p → s'.heap.get? p = some (seqObj "list" out c) → (∀ v ∈ out.toList, ∃ k, kd.is k v = true) → sr (out.toList.map rd) → (out.toList.map rd).Nodup → (∀ k, k ∈ out.toList.map rd ↔ k ∈ ks) → Q (.ref p) s') :
    wpAny (model P w) A (call (.builtin "sorted") [.ref a]) Q E s := by
  obtain ⟨o, es, ep, t, ho, hex, hd, R, hf, hz, hr, hl⟩ := S
  have he : es.size < scanBound := by omega
  refine Calls.call_function_entry kind_sorted plain_sorted entry_sorted (args_sorted1 _) ?_; unfold Builtin.«sorted»
  refine wpAny_bind (m := checkCount "sorted" 1 1 _) (wpAny_pure (wpAny_bind (collect_set (A := A.in1) hh ⟨o, ho, hex.1, hd⟩ hf he hr hl fun s1 vs k1 z1 g1 o1 pm => ?_)))
  have hv : ∀ v ∈ vs, ∃ k, kd.is k v = true := fun v hv => by
    obtain ⟨e, h1, h2⟩ := List.mem_map.mp (pm.mem_iff.mp hv)
    obtain ⟨⟨k, h3, _⟩, _⟩ := R.els e h1
    exact ⟨k, by rw [← h2]; exact h3⟩
  have hvl : vs.length ≤ sizeLine := by
    rw [pm.length_eq, List.length_map, Array.length_toList]
    exact fits_of_scanBound he
  have pk : (vs.map rd).Perm (es.toList.map fun e => rd e.2) := by
    have z := pm.map rd
    rw [List.map_map] at z
    exact z
  have g2 : (s1.heap.push (seqObj "list" vs.toArray 0)).get? s1.heap.objs.size = some (seqObj "list" vs.toArray 0) := Heap.get?_push_size _ rfl
  refine wpAny_bind (wpAny_newList (wpAny_bind (wpAny_holding (wpAny_call_entry slot_list_sort ⟨_, g2, rfl⟩ entry_list_sort (hso g2 hvl hv fun out h1 h2 h3 => ⟨_, rfl, ?_⟩) (args_list_sort _)))) hvl)
  obtain ⟨c, hc⟩ := sortedHeap_at (vs := vs) (out := out) g2
  have p2 := h2.trans pk
  refine wpAny_pure ⟨_, rfl, q _ s1.heap.objs.size out c (fun b u e => ?_) g1 o1 z1 hc h1 h3 (p2.nodup_iff.mpr R.nd) fun k => p2.mem_iff.trans (R.mem k).symm⟩
  have e1 := k1 b u e
  have lt := Heap.lt_size e1
  exact (sortedHeap_old (Nat.ne_of_lt lt) (by rw [size_push']; exact Nat.lt_succ_of_lt lt)).trans (Heap.get?_push_of_some _ e1)
end
section
variable {P : Program} {w : World}
theorem rd_int : RdKey (PySem.intKind P w) L2.vInt := fun k v h => by
  obtain ⟨t, rfl⟩ := Value.isInt_shape h
  rfl
theorem rd_str : RdKey (PySem.strKind P w) strOf := fun k v h => by
  obtain ⟨t, rfl⟩ := Value.isStrOf_shape h
  rfl
theorem ints_rd : ∀ {vs : List Value}, (∀ v ∈ vs, ∃ k, (PySem.intKind P w).is k v = true) → IntsAre vs (vs.map L2.vInt)
  | [], _ => .nil
  | v :: vs, h => by
    obtain ⟨k, hk⟩ := h v List.mem_cons_self
    obtain ⟨t, rfl⟩ := Value.isInt_shape hk
    exact .cons k t (ints_rd (vs := vs) fun u hu => h u (List.mem_cons_of_mem _ hu))
theorem ints_back : ∀ {vs : List Value} {ns : List Int}, IntsAre vs ns → vs.map L2.vInt = ns ∧ ∀ v ∈ vs, ∃ k, (PySem.intKind P w).is k v = true
  | _, _, .nil => ⟨rfl, fun v h => by cases h⟩
  | _, _, .cons n t r => by
    obtain ⟨h1, h2⟩ := ints_back r
    refine ⟨congrArg (n :: ·) h1, fun v h => ?_⟩
    rcases List.mem_cons.mp h with e | e
    · exact ⟨n, by rw [e]; exact intKind_is P w n t⟩
    · exact h2 v e
theorem sorts_int : Sorts (PySem.intKind P w) L2.vInt fun ns => ns.Pairwise (· ≤ ·) := fun ho hl hv q => by
  refine list_sort_treeAny ho (ints_rd hv) hl fun out ns h1 h2 h3 => ?_
  obtain ⟨e, h4⟩ := ints_back (P := P) (w := w) h1
  exact q out h4 (by rw [e]; exact h2) (by rw [e]; exact h3)
theorem strs_rd : ∀ {vs : List Value}, (∀ v ∈ vs, ∃ k, (PySem.strKind P w).is k v = true) → StrsAre vs (vs.map strOf)
  | [], _ => .nil
  | v :: vs, h => by
    obtain ⟨k, hk⟩ := h v List.mem_cons_self
    obtain ⟨t, rfl⟩ := Value.isStrOf_shape hk
    exact .cons k t (strs_rd (vs := vs) fun u hu => h u (List.mem_cons_of_mem _ hu))
theorem strs_back : ∀ {vs : List Value} {ns : List Str}, StrsAre vs ns → ∀ v ∈ vs, ∃ k, (PySem.strKind P w).is k v = true
  | _, _, .nil, v, h => by cases h
  | _, _, .cons n t r, v, h => by
    rcases List.mem_cons.mp h with e | e
    · exact ⟨n, by rw [e]; exact strKind_is P w n t⟩
    · exact strs_back r v e
theorem sorts_str : Sorts (PySem.strKind P w) strOf fun ns => sortedS ns = true := fun ho hl hv q => by
  have hS := strs_rd hv
  refine list_sort_treeKAny strKind_oneLt ho hS.keysOf (fun v1 v2 rest e => keyKind_strs (by rw [← e]; exact hS)) hl fun st' hp hs => ?_
  obtain ⟨ss, h1, h2, h3⟩ := sorted_out_str hS hp hs
  have e := h1.strs
  exact q _ (strs_back h1) (by rw [e]; exact h2) (by rw [e]; exact h3)
end
/-- the values of keys -/
structure Vk {P : Program} {w : World} {T : Type} [DecidableEq T] (kd : PySem.KeyKind P w T) (rd : Value → T) (tv : T → V) : Prop where
  rd : RdKey kd rd
  of : ∀ k v, kd.is k v = true → RelV (tv k) v
  to : ∀ k v, RelV (tv k) v → kd.is k v = true ∧ v.scannable = true
theorem vk_int {P : Program} {w : World} : Vk (PySem.intKind P w) L2.vInt V.int := ⟨rd_int, fun k v h => by
    obtain ⟨t, rfl⟩ := Value.isInt_shape h
    exact ⟨t, rfl⟩, fun k v h => by
    obtain ⟨t, rfl⟩ := h
    exact ⟨intKind_is P w k t, rfl⟩⟩
theorem vk_str {P : Program} {w : World} : Vk (PySem.strKind P w) strOf V.str := ⟨rd_str, fun k v h => by
    obtain ⟨t, rfl⟩ := Value.isStrOf_shape h
    exact ⟨t, rfl⟩, fun k v h => by
    obtain ⟨t, rfl⟩ := h
    exact ⟨strKind_is P w k t, rfl⟩⟩
section
variable {P : Program} {w : World} {T : Type} [DecidableEq T] {kd : PySem.KeyKind P w T} {rd : Value → T} {tv : T → V} {ks : List T}
theorem vals_get : ∀ {ks : List T} {us : List Value}, Vals (ks.map tv) us → ∀ (i : Nat) (v : Value), us[i]? = some v → ∃ k, ks[i]? = some k ∧ RelV (tv k) v
  | [], _, .nil, i, v, h => by simp at h
  | k :: ks, _, .cons r t, 0, v, h => by
    rw [List.getElem?_cons_zero] at h
    cases h
    exact ⟨k, rfl, r⟩
  | k :: ks, _, .cons r t, i + 1, v, h => by
    rw [List.getElem?_cons_succ] at h
    exact vals_get t i v h
theorem vals_rd (hk : Vk kd rd tv) : ∀ {us : List Value}, (∀ v ∈ us, ∃ k, kd.is k v = true) → Vals ((us.map rd).map tv) us
  | [], _ => .nil
  | v :: us, h => by
    obtain ⟨k, z⟩ := h v List.mem_cons_self
    refine .cons ?_ (vals_rd hk fun u hu => h u (List.mem_cons_of_mem _ hu))
    rw [hk.rd k v z]
    exact hk.of k v z
def SetKO (kd : PySem.KeyKind P w T) (rd : Value → T) (a : Addr) (ks : List T) : HO := .ext fun h => SetK kd rd h a ks
theorem setKO_new {H : Hp} {h : Heap} {a : Addr} (S : SetK kd rd h a ks) : ObjOk P w H h a (SetKO kd rd a ks) := by
  have ⟨o, es, ep, t, ho, _⟩ := S
  exact ⟨S, ⟨o, ho⟩, fun h1 h2 p k => SetK.at p k⟩
end
section
variable {X : Cx} {T : Type} [DecidableEq T] {kd : PySem.KeyKind X.prog X.w T} {rd : Value → T} {tv : T → V} {sr : List T → Prop}
/-- set(xs) of a list -/
def rSetK (K : PySem.W.Frag) (kd : PySem.KeyKind X.prog X.w T) (rd : Value → T) (tv : T → V) : List V → Hp → VK → Prop := fun xs H Q => ∃ (l : Addr) (ks : List T), xs = [V.ref l] ∧ SqL K H l (ks.map tv) ∧ ks.length ≤ 4000 ∧ ∀ a, H a = none → Q (.ref a) (upd H a (SetKO kd rd a ks))
theorem cr_setK (hk : Vk kd rd tv) (hc : X.calm = true) : CallR X (.type "set") (rSetK X.K kd rd tv) := by
  intro pins s σ H xs us Q I r h
  obtain ⟨l, ks, rfl, hl, hn, q⟩ := h
  rw [Vals.ref1 r]
  obtain ⟨its, rv, pl, hz⟩ := I.list hl
  have hf : H s.heap.objs.size = none := I.hok.fresh (Nat.le_refl _)
  have hsz : its.length = ks.length := by
    have z := rv.length
    rw [List.length_map] at z
    exact z.symm
  refine SetK.init hk.rd (I.ok.hd hc) pl.isList (by rw [List.size_toArray]; exact hsz) (by show ks.length + 1 < 4096; omega) (fun i v hv => ?_) fun h' tk S kp => ?_
  · obtain ⟨k, h1, h2⟩ := vals_get rv i v (by simpa using hv)
    exact ⟨k, h1, hk.to k v h2⟩
  · exact ⟨.ref s.heap.objs.size, upd H s.heap.objs.size (SetKO kd rd s.heap.objs.size ks), I.laid (t' := tk) kp (Nat.le_refl _) (setKO_new S), rfl, q _ hf⟩
/-- sorted of such a set -/
def rSortK (kd : PySem.KeyKind X.prog X.w T) (rd : Value → T) (tv : T → V) (sr : List T → Prop) : List V → Hp → VK → Prop := fun xs H Q => ∃ (a : Addr) (ks : List T), xs = [V.ref a] ∧ H a = some (SetKO kd rd a ks) ∧ ks.length ≤ 4000 ∧ ∀ (ds : List T) (p : Addr), sr ds → ds.Nodup → (∀ k, k ∈ ds ↔ k ∈ ks) → H p = none → Q (.ref p) (upd H p (.lst (ds.map tv)))
theorem nodup_len {ks : List T} : ∀ {ds : List T}, ds.Nodup → (∀ k ∈ ds, k ∈ ks) → ds.length ≤ ks.length := fun h1 h2 => List.Nodup.length_le_of_subset h1 h2
theorem cr_sortK (hk : Vk kd rd tv) (hso : Sorts kd rd sr) (hc : X.calm = true) : CallR X (.builtin "sorted") (rSortK kd rd tv sr) := by
  intro pins s σ H xs us Q I r h
  obtain ⟨a, ks, rfl, ha, hn, q⟩ := h
  have S : SetK kd rd s.heap a ks := (I.hok a _ ha).1
  rw [Vals.ref1 r]
  refine SetK.sorted hso S (by show ks.length < 4096; omega) (I.ok.hd hc) fun s' p out c kp g o hp hg h1 h2 h3 h4 => ?_
  have hl : ((out.toList.map rd).map tv).length ≤ sizeLine := by
    rw [List.length_map, sizeLine_eq]
    have := nodup_len h3 fun k z => (h4 k).mp z
    omega
  have hf : H p = none := I.hok.fresh hp
  have J : Inv X pins σ (upd H p (.lst ((out.toList.map rd).map tv))) { s with heap := s'.heap, gens := s'.gens, drawn := s'.drawn, toks := s'.toks } :=
    I.call (ch := []) (Un.laid kp hp hf) (I.hok.laid kp hp ⟨hl, out.toList, c, vals_rd hk h1, hg⟩) (by rw [g]; exact I.bare) (fun _ z => nomatch z)
  obtain ⟨h9, g9, d9, t9, o9⟩ := s'
  cases o
  exact ⟨.ref p, _, J, rfl, q _ p h2 h3 h4 hf⟩
variable {ta : TE} {a : Expr} {p p2 q pos : Pos}
/-- sorted(set(x)), x a list -/
def SrtSet (K : PySem.W.Frag) (kd : PySem.KeyKind X.prog X.w T) (rd : Value → T) (tv : T → V) (sr : List T → Prop) (x : V) (H : Hp) (Q : VK) : Prop := rSetK K kd rd tv [x] H fun y H2 => rSortK kd rd tv sr [y] H2 Q
def tSortSet (K : PySem.W.Frag) (kd : PySem.KeyKind X.prog X.w T) (rd : Value → T) (tv : T → V) (sr : List T → Prop) (ta : TE) : TE := fun σ H Q => ta σ H fun x H1 => SrtSet K kd rd tv sr x H1 Q
theorem SrtSet.mk {K : PySem.W.Frag} {H : Hp} {Q : VK} {l : Addr} {ks : List T} (hl : SqL K H l (ks.map tv)) (hn : ks.length ≤ 4000)
    (q : ∀ (ds : List T) (p : Addr) (H2 : Hp), sr ds → ds.Nodup → (∀ k, k ∈ ds ↔ k ∈ ks) → H p = none → Kept H H2 → H2 p = some (.lst (ds.map tv)) → Q (.ref p) H2) : SrtSet K kd rd tv sr (.ref l) H Q :=
  ⟨l, ks, rfl, hl, hn, fun a ha => ⟨a, ks, rfl, upd_same, hn, fun ds p h1 h2 h3 h4 => by
    have k1 := Kept.new (o := SetKO kd rd a ks) ha
    have hp : H p = none := by
      by_cases e : p = a
      · rw [e]; exact ha
      · rw [upd_ne e] at h4; exact h4
    exact q ds p _ h1 h2 h3 hp (k1.trans (Kept.new h4)) upd_same⟩⟩
theorem pe_sortSet (hk : Vk kd rd tv) (hso : Sorts kd rd sr) (hc : X.calm = true) (hg : Gl X "sorted") (hm : X.mg "sorted" = none) (hg2 : Gl X "set") (hm2 : X.mg "set" = none) (ha : PE X a ta) (hs : starEach [a] X.env = (false, eval a X.env) :: starEach [] X.env) :
    PE X (.Call (.Name "sorted" p) [.Call (.Name "set" p2) [a] [] q] [] pos) (tSortSet X.K kd rd tv sr ta) :=
  pe_callB (p := p) (pos := pos) (cr_sortK hk hso hc) hg hm boot_sorted (pa_cons (pe_callTy (p := p2) (pos := q) (cr_setK hk hc) hg2 hm2 PyProof.Rows.boot_set (pa_cons ha pa_nil hs) (he := hs)) pa_nil)
/-- of ints -/
theorem pe_setInts {K : PySem.W.Frag} (hK : X.K = K) (hc : X.calm = true) (hg : Gl X "sorted") (hm : X.mg "sorted" = none) (hg2 : Gl X "set") (hm2 : X.mg "set" = none) (ha : PE X a ta) (hs : starEach [a] X.env = (false, eval a X.env) :: starEach [] X.env) :
    PE X (.Call (.Name "sorted" p) [.Call (.Name "set" p2) [a] [] q] [] pos) (tSortSet K (PySem.intKind X.prog X.w) L2.vInt V.int (fun ns => ns.Pairwise (· ≤ ·)) ta) := by
  subst hK
  exact pe_sortSet vk_int sorts_int hc hg hm hg2 hm2 ha hs
/-- of texts -/
theorem pe_setStrs {K : PySem.W.Frag} (hK : X.K = K) (hc : X.calm = true) (hg : Gl X "sorted") (hm : X.mg "sorted" = none) (hg2 : Gl X "set") (hm2 : X.mg "set" = none) (ha : PE X a ta) (hs : starEach [a] X.env = (false, eval a X.env) :: starEach [] X.env) :
    PE X (.Call (.Name "sorted" p) [.Call (.Name "set" p2) [a] [] q] [] pos) (tSortSet K (PySem.strKind X.prog X.w) strOf V.str (fun ns => sortedS ns = true) ta) := by
  subst hK
  exact pe_sortSet vk_str sorts_str hc hg hm hg2 hm2 ha hs
end
/-! ### ascending lists of the same members are the same -/
theorem perm_mem {T : Type} [DecidableEq T] {xs ys : List T} (h1 : xs.Nodup) (h2 : ys.Nodup) (h : ∀ k, k ∈ xs ↔ k ∈ ys) : xs.Perm ys := by
  refine List.perm_iff_count.mpr fun k => ?_
  rw [h1.count, h2.count]
  by_cases e : k ∈ xs
  · rw [if_pos e, if_pos ((h k).mp e)]
  · rw [if_neg e, if_neg fun z => e ((h k).mpr z)]
theorem str_ext {x y : Str} (h : x.cps.toList = y.cps.toList) : x = y := by
  obtain ⟨a⟩ := x
  obtain ⟨b⟩ := y
  have e : a = b := Array.toList_inj.mp h
  rw [e]
theorem rising_all : ∀ (l : List Str) (p : Str), risingS p l = true → (∀ x ∈ l, ¬ x.cps.toList < p.cps.toList) ∧ l.Pairwise fun a b => ¬ b.cps.toList < a.cps.toList
  | [], p, _ => ⟨fun x h => (by cases h), List.Pairwise.nil⟩
  | y :: l, p, h => by
    have h : (!ltCps y.cps.toList p.cps.toList && risingS y l) = true := h
    rw [Bool.and_eq_true, ltCps_eq] at h
    have h1 : ¬ y.cps.toList < p.cps.toList := by simpa using h.1
    obtain ⟨g1, g2⟩ := rising_all l y h.2
    refine ⟨fun x hx => ?_, List.pairwise_cons.mpr ⟨g1, g2⟩⟩
    rcases List.mem_cons.mp hx with e | e
    · rw [e]; exact h1
    · intro z
      have a1 : p.cps.toList ≤ y.cps.toList := List.not_lt.mp h1
      have a2 : y.cps.toList ≤ x.cps.toList := List.not_lt.mp (g1 x e)
      exact List.not_lt.mpr (List.le_trans a1 a2) z
theorem sortedS_pair {l : List Str} (h : sortedS l = true) : l.Pairwise fun a b => ¬ b.cps.toList < a.cps.toList := by
  cases l with
  | nil => exact List.Pairwise.nil
  | cons x l => exact List.pairwise_cons.mpr (rising_all l x h)
theorem strs_srt {xs ds : List Str} (h1 : sortedS xs = true) (h2 : xs.Nodup) (h3 : ds.Nodup) (h : ∀ k, k ∈ xs ↔ k ∈ ds) : xs = srtBy PyData.str ds := by
  refine List.Perm.eq_of_pairwise (le := fun a b : Str => ¬ b.cps.toList < a.cps.toList) (fun a b _ _ u v => str_ext (List.le_antisymm (List.not_lt.mp u) (List.not_lt.mp v))) (sortedS_pair h1) ?_ ((perm_mem h2 h3 h).trans (srtBy_perm _ _).symm)
  refine (srtBy_pair PyData.str ds).imp fun {a b} z => ?_
  have z : (!PySem.W.dataLt (.str b) (.str a)) = true := z
  rw [PySem.W.dataLt_str] at z
  simpa using z
theorem ints_lt {ns : List Int} (h : ns.Pairwise (· ≤ ·)) (h2 : ns.Nodup) : ns.Pairwise (· < ·) := lt_of_le_nodup ns h h2
end Ky

namespace Ky
open PySem PySem.Spec PyProof.Rows L2
/-! ### a, *b = t, t a tuple of at least one -/
def gStar (K : PySem.W.Frag) (t : TGs) : TG := fun v σ H Q => ∃ a x xs, v = .ref a ∧ SqT K H a (x :: xs) ∧ ∀ l, H l = none → t [x, .ref l] σ (upd H l (.lst xs)) Q
section
variable {X : Cx} {a b : Expr} {k : Nat} {p pos : Pos} {t : TGs}
/-- the walk of a tuple's iterator that stands behind its first item -/
theorem walks_rest {P : Program} {w : World} {A : Around} (hh : A.handled = none) {I ax : Addr} (hne : ax ≠ I) {x : Value} {items : Array Value} {its : List Value} (hi : items.toList = x :: its) :
    Walks P w A I [I, ax] [I] its.length (fun i v => its[i]? = some v) (fun i h => h.IsTupleIter I ax (i + 1) ∧ h.IsTuple ax items) := by
  have W := Walks.tuple (prog := P) (w := w) hh I ax hne items
  have hz : items.size = its.length + 1 := by
    have z := congrArg List.length hi
    rw [Array.length_toList] at z
    exact z
  have hg : ∀ i : Nat, items[i + 1]? = its[i]? := fun i => by rw [← Array.getElem?_toList, hi, List.getElem?_cons_succ]
  exact ⟨W.sub, fun i h h' st q => W.frame (i + 1) h h' st q, fun i s Q E h st q => W.item (i + 1) s Q E (by omega) st fun v h' tk hv st' kk => q v h' tk (by rw [← hg]; exact hv) st' kk,
    fun s Q E st q => W.done s Q E (by rw [hz]; exact st) q, fun i s Q E st q => W.self (i + 1) s Q E st q⟩
theorem pg_star {K : PySem.W.Frag} (hK : X.K = K) (hc : X.calm = true) (h : PGs X [a, b] t) (hn : assignEach [a, .Starred b p] X.env = [(false, assign a X.env), (true, assign b X.env)] := by rfl) (hm : (assignEach [a, b] X.env).map (·.2) = [assign a X.env, assign b X.env] := by rfl) :
    PG X (.Tuple [a, .Starred b p] k pos) (gStar K t) := by
  subst hK
  refine ⟨fun pins s σ H v u Q I r hw => ?_⟩
  obtain ⟨ax, x, xs, rfl, hq, q⟩ := hw
  cases r
  obtain ⟨its, rv, ht, hz⟩ := I.tuple hq
  have hd := I.ok.hd hc
  obtain ⟨y, ys, rfl⟩ : ∃ y ys, its = y :: ys := by
    cases rv with
    | cons r rr => exact ⟨_, _, rfl⟩
  have ry : RelV x y ∧ Vals xs ys := by
    cases rv with
    | cons r rr => exact ⟨r, rr⟩
  have hlt : ax < s.heap.objs.size := by
    obtain ⟨o, ho, _⟩ := ht
    exact Heap.lt_size ho
  have ht : s.heap.IsTuple ax (y :: ys).toArray := ht
  have hyl : ys.length ≤ sizeLine := by
    have : (y :: ys).length ≤ sizeLine := by rw [← rv.length]; exact hz
    rw [List.length_cons] at this
    omega
  rw [assign_Tuple, hn]
  refine wpAny_bind (wpAny_standAt (wpAny_bind (m := holding [Value.ref ax] (unpackItems (Value.ref ax) 2 (some 1))) (wpAny_holding ?_)))
  unfold unpackItems notIterableAtAll
  refine wpAny_bind (wpAny_bind (wpAny_specialOf ht.typeIs PySem.F.slot_tuple_iter.lookup (wpAny_pure ?_)))
  simp only [Bool.false_eq_true, if_false]
  refine wpAny_bind (wpAny_holding (wpAny_pyIter_tuple ht ?_))
  refine wpAny_bind (wpAny_holding (wpAny_draw_tuple (Nat.ne_of_lt hlt) 1 0 _ _ ⟨_, Heap.get?_push_size _ rfl, rfl, rfl⟩ (ht.push _) (by simp) fun h1 i1 sb => ?_))
  have ed : List.take 1 (List.drop 0 (y :: ys).toArray.toList) = [y] := rfl
  rw [ed, if_neg (by simp)]
  have k1 : ∀ b o, s.heap.get? b = some o → h1.get? b = some o := fun b o e => sb.extBut b o (Nat.ne_of_lt (Heap.lt_size e)) (Heap.get?_push_of_some _ e)
  have hs1 : h1.objs.size = s.heap.objs.size + 1 := by rw [sb.1, sz1]
  have t1 : h1.IsTuple ax (y :: ys).toArray := by
    obtain ⟨o, ho, r⟩ := ht
    exact ⟨o, k1 _ _ ho, r⟩
  refine wpAny_bind (wpAny_holding (wpAny_collect_iter (T := "tuple_iterator") (.inr (.inr (.inr rfl))) (walks_rest (A := X.A.in1) hd (Nat.ne_of_lt hlt) (items := (y :: ys).toArray) (x := y) rfl).toS (fun i s2 st => st.1.typeIs) ⟨i1, t1⟩ (fun b hb => ?_) List.mem_cons_self (fun s2 acc mv ha => ?_) hyl))
  · rw [hs1]
    rcases List.mem_cons.mp hb with e | e
    · rw [e]; exact Nat.lt_succ_self _
    · rw [List.mem_singleton.mp e]; exact Nat.lt_succ_of_lt hlt
  have ea : acc.toList = ys := items_out ha fun j v e => e
  have k2 : ∀ b o, s.heap.get? b = some o → s2.heap.get? b = some o := fun b o e => mv.heap b o (fun z => by
    rw [List.mem_singleton.mp z] at e
    exact absurd (Heap.lt_size e) (Nat.lt_irrefl _)) (k1 b o e)
  rw [ea, if_neg (by omega)]
  refine wpAny_bind (wpAny_newList ?_ (by rw [List.length_take]; omega))
  have et : List.take (ys.length - (2 - 1 - 1)) ys = ys := List.take_of_length_le (by omega)
  have edr : List.drop (ys.length - (2 - 1 - 1)) ys = [] := List.drop_of_length_le (by omega)
  rw [et, edr]
  refine wpAny_pure ?_
  obtain ⟨h2, g2, d2, tk2, o2⟩ := s2
  cases (mv.gens : g2 = s.gens)
  cases (mv.drawn : d2 = s.drawn)
  cases (mv.os : o2 = s.os)
  have hl : H h2.objs.size = none := (I.hok.kept k2).fresh (Nat.le_refl _)
  have hg : s.heap.get? h2.objs.size = none := by
    cases e : s.heap.get? h2.objs.size with
    | none => rfl
    | some o => exact absurd (Heap.lt_size (k2 _ _ e)) (Nat.lt_irrefl _)
  have hxl : xs.length ≤ sizeLine := by rw [ry.2.length]; exact hyl
  have J : Inv X pins σ (upd H h2.objs.size (.lst xs)) { s with heap := h2.push (seqObj "list" ys.toArray 0), toks := tk2 } :=
    I.laidN (t' := tk2) (fun b o e => Heap.get?_push_of_some _ (k2 b o e)) hg hl ⟨hxl, ys, 0, ry.2, Heap.get?_push_size _ rfl⟩
  have z := h.run pins _ σ _ _ [y, .ref h2.objs.size] Q J (.cons ry.1 (.cons (show RelV (.ref h2.objs.size) (.ref h2.objs.size) from rfl) .nil)) (q _ hl)
  rw [hm] at z
  exact z
end
end Ky

namespace Ky
open PySem PySem.Spec PyProof.Rows L2
/-! ### x is True, x a value that is no place -/
def bareV : V → Bool
  | .bl _ => true
  | .int _ => true
  | .non => true
  | _ => false
def rIsBl : R2 := fun x y H Q => ∃ b : Bool, bareV x = true ∧ y = .bl b ∧ Q (.bl (decide (x = .bl b))) H
section
variable {X : Cx} {K : PySem.W.Frag}
theorem op_isAny : OpR X (compareOp .Is) rIsBl := by
  intro pins s σ H x y v u Q I rx ry h
  obtain ⟨b, hx, rfl, q⟩ := h
  cases (show u = Value.bool b from ry)
  cases x with
  | bl a =>
    cases (show v = Value.bool a from rx)
    by_cases e : a = b
    · subst e
      exact wpAny_is_self rfl ⟨.bl true, H, I, rfl, by simpa using q⟩
    · exact wpAny_is_other rfl (fun z => e (Value.bool.inj z)) ⟨.bl false, H, I, rfl, by simpa [e] using q⟩
  | int n =>
    obtain ⟨t, rfl⟩ := rx
    exact wpAny_is_other rfl (fun z => by cases z) ⟨.bl false, H, I, rfl, by simpa using q⟩
  | non =>
    cases (show v = Value.none from rx)
    exact wpAny_is_other rfl (fun z => by cases z) ⟨.bl false, H, I, rfl, by simpa using q⟩
  | _ => cases hx
theorem cr_maxK (hK : X.K = K) (hc : X.calm = true) : CallR X (.builtin "max") (rMax K) := by subst hK; exact cr_max hc
theorem cr_minK (hK : X.K = K) (hc : X.calm = true) : CallR X (.builtin "min") (rMin K) := by subst hK; exact cr_min hc
end
section
variable {H : Hp} {Q : VK} {K : PySem.W.Frag}
theorem w_isi_ts {a : Addr} {xs : List V} (h : H a = some (.tup xs)) (q : Q (.bl false) H) : rIsi K [.ref a, .ty "str"] H Q := ⟨_, _, _, _, false, rfl, .ty _, .base (.tup h), kit_ty (by decide +kernel), q⟩
theorem w_isi_ss {z : Str} (q : Q (.bl true) H) : rIsi K [.str z, .ty "str"] H Q := ⟨_, _, _, _, true, rfl, .ty _, .base (.str z), kit_ty (by decide +kernel), q⟩
theorem w_isi_is {n : Int} (q : Q (.bl false) H) : rIsi K [.int n, .ty "str"] H Q := ⟨_, _, _, _, false, rfl, .ty _, .base (.int n), kit_ty (by decide +kernel), q⟩
theorem w_max {a : Addr} {ns : List Int} (h : SqL K H a (ns.map V.int)) (hn : 0 < ns.length) (q : ∀ m, m ∈ ns → (∀ y, y ∈ ns → y ≤ m) → Q (.int m) H) : rMax K [V.ref a] H Q := ⟨a, ns, rfl, h, hn, q⟩
theorem w_min {a : Addr} {ns : List Int} (h : SqL K H a (ns.map V.int)) (hn : 0 < ns.length) (q : ∀ m, m ∈ ns → (∀ y, y ∈ ns → m ≤ y) → Q (.int m) H) : rMin K [V.ref a] H Q := ⟨a, ns, rfl, h, hn, q⟩
end
end Ky

namespace Ky
open PySem PySem.Spec PyProof.Rows L2
theorem asc_eq : ∀ {xs ys : List Int}, xs.Pairwise (· < ·) → ys.Pairwise (· < ·) → (∀ x, x ∈ xs ↔ x ∈ ys) → xs = ys
  | [], [], _, _, _ => rfl
  | [], y :: ys, _, _, h => absurd ((h y).mpr List.mem_cons_self) (by simp)
  | x :: xs, [], _, _, h => absurd ((h x).mp List.mem_cons_self) (by simp)
  | x :: xs, y :: ys, hx, hy, h => by
    obtain ⟨hx1, hx2⟩ := List.pairwise_cons.mp hx
    obtain ⟨hy1, hy2⟩ := List.pairwise_cons.mp hy
    have e : x = y := by
      rcases List.mem_cons.mp ((h x).mp List.mem_cons_self) with e | q
      · exact e
      · rcases List.mem_cons.mp ((h y).mpr List.mem_cons_self) with e | r
        · exact e.symm
        · have := hx1 y r
          have := hy1 x q
          omega
    subst e
    rw [asc_eq hx2 hy2 fun z => ?_]
    constructor
    · intro hz
      rcases List.mem_cons.mp ((h z).mp (List.mem_cons_of_mem _ hz)) with e | q
      · have := hx1 z hz
        omega
      · exact q
    · intro hz
      rcases List.mem_cons.mp ((h z).mpr (List.mem_cons_of_mem _ hz)) with e | q
      · have := hy1 z hz
        omega
      · exact q
/-! ### the variables of clauses, those that are shown -/
def varF (cs : List (List Int)) : List Int := srtBy PyData.int (dd (absAll cs))
theorem varF_asc (cs : List (List Int)) : (varF cs).Pairwise (· < ·) := srt_ints (nodup_dd _)
theorem mem_varF {cs : List (List Int)} {k : Int} : k ∈ varF cs ↔ k ∈ absAll cs := by
  unfold varF
  rw [mem_srtBy, mem_dd]
theorem varF_is {cs : List (List Int)} {ns : List Int} (h1 : ns.Pairwise (· < ·)) (h2 : ∀ k, k ∈ ns ↔ k ∈ absAll cs) : ns = varF cs := asc_eq h1 (varF_asc cs) fun k => (h2 k).trans mem_varF.symm
theorem len_varF (cs : List (List Int)) : (varF cs).length ≤ cs.flatten.length := by
  unfold varF
  rw [(srtBy_perm _ _).length_eq]
  have := len_dd (absAll cs)
  unfold absAll at this ⊢
  rw [List.length_map] at this
  exact this
def shownF (S : List Int) (cs : List (List Int)) : List Int := (varF cs).filter fun k => decide (k ∈ S)
theorem shownF_asc (S : List Int) (cs : List (List Int)) : (shownF S cs).Pairwise (· < ·) := (varF_asc cs).filter _
theorem mem_shownF {S : List Int} {cs : List (List Int)} {k : Int} : k ∈ shownF S cs ↔ k ∈ absAll cs ∧ k ∈ S := by
  unfold shownF
  rw [List.mem_filter, mem_varF, decide_eq_true_eq]
theorem len_shownF (S : List Int) (cs : List (List Int)) : (shownF S cs).length ≤ cs.flatten.length := Nat.le_trans (List.length_filter_le _ _) (len_varF cs)
theorem asc_nodup {ns : List Int} (h : ns.Pairwise (· < ·)) : ns.Nodup := h.imp fun {a b} z e => by omega
end Ky

namespace Ky
open PySem PySem.Spec PyProof.Rows L2
/-! ### dict comprehensions over numbers with one value, as words -/
def DcJ (j : Nat) (v : V) (vs : List Nat) (σ : L2.St) (Q : VK) (J : It) (H1 : Hp) : Prop := ∀ D, H1 D = none → ∃ W : Nat → Nat → Hp → Prop, (∃ m, W 0 m (upd H1 D (.dK []))) ∧ ∀ i m H, W i m H →
  (J.stop i H ∧ Q (.ref D) H) ∨ (J.go i H ∧ ∃ Nx : Hp → Prop, (∀ H', Nx H' → ∃ m', m' < m ∧ W (i + 1) m' H') ∧ ∀ x H', J.yld i H x H' → gName j x (wipe σ vs) H' fun σ2 H2 => wipe σ2 vs = wipe σ vs ∧ tYes σ2 H2 fun b H3 =>
    if b = true then tVar j σ2 H3 fun y H4 => tC v σ2 H4 fun z H5 => ∃ kvs k, y = kV k ∧ H5 D = some (.dK kvs) ∧ kvs.length < sizeLine ∧ Nx (upd H5 D (.dK (putK kvs k z))) else Nx H3)
def DcL (K : PySem.W.Frag) (j : Nat) (v : V) (vs : List Nat) (σ : L2.St) (Q : VK) (x : V) (H1 : Hp) : Prop := ∃ a, x = .ref a ∧ (∃ xs, SqL K H1 a xs) ∧ DcJ j v vs σ Q (Itl K a) H1
def DcT (K : PySem.W.Frag) (j : Nat) (v : V) (vs : List Nat) (σ : L2.St) (Q : VK) (x : V) (H1 : Hp) : Prop := ∃ a, x = .ref a ∧ (∃ xs, SqT K H1 a xs) ∧ DcJ j v vs σ Q (Itt K a) H1
/-- a dict of numbers with one value -/
structure OneV (ns : List Int) (v : V) (kvs : List (L2.Key × V)) : Prop where
  len : kvs.length ≤ ns.length
  val : ∀ k, valV kvs (.inl k) = if k ∈ ns then some v else none
theorem OneV.snoc {ns : List Int} {v : V} {kvs : List (L2.Key × V)} (h : OneV ns v kvs) (n : Int) : OneV (ns ++ [n]) v (putK kvs (.inl n) v) := by
  refine ⟨?_, fun k => ?_⟩
  · have := length_putK kvs (.inl n) v
    have := h.len
    rw [List.length_append, List.length_singleton]
    omega
  · rw [valV_put, h.val k]
    by_cases e : k = n
    · rw [if_pos (by rw [e]), if_pos (List.mem_append_right _ (List.mem_singleton.mpr e))]
    · rw [if_neg (fun z => e (Sum.inl.inj z))]
      by_cases m : k ∈ ns
      · rw [if_pos m, if_pos (List.mem_append_left _ m)]
      · rw [if_neg m, if_neg fun z => (List.mem_append.mp z).elim m fun z => e (List.mem_singleton.mp z)]
section
variable {K : PySem.W.Frag} {σ : L2.St} {H H1 : Hp} {Q : VK} {te : TE} {j : Nat} {v : V} {vs : List Nat} {a : Addr} {ns : List Int}
theorem w_dcL (q : te σ H (DcL K j v vs σ Q)) : tDc (iList K te) (gName j) tYes (tVar j) (tC v) vs σ H Q := q
theorem w_dcT (q : te σ H (DcT K j v vs σ Q)) : tDc (iTup K te) (gName j) tYes (tVar j) (tC v) vs σ H Q := q
theorem dc_step {i : Nat} {n : Int} {D : Addr} {kvs : List (L2.Key × V)} (hj : j < σ.length) (hn : ns[i]? = some n) (hz : ns.length ≤ 1000) (h0 : H1 D = none) (k1 : Kept H1 H) (hD : H D = some (.dK kvs)) (ho : OneV (ns.take i) v kvs) :
    gName j (.int n) (wipe σ [j]) H fun σ2 H2 => wipe σ2 [j] = wipe σ [j] ∧ tYes σ2 H2 fun b H3 => if b = true then tVar j σ2 H3 fun y H4 => tC v σ2 H4 fun z H5 => ∃ kvs k, y = kV k ∧ H5 D = some (.dK kvs) ∧ kvs.length < sizeLine ∧
      (Kept H1 (upd H5 D (.dK (putK kvs k z))) ∧ ∃ kv2, (upd H5 D (.dK (putK kvs k z))) D = some (.dK kv2) ∧ OneV (ns.take (i + 1)) v kv2) else (Kept H1 H3 ∧ ∃ kv2, H3 D = some (.dK kv2) ∧ OneV (ns.take (i + 1)) v kv2) := by
  refine ⟨wipe_one, w_yes (if_t rfl ⟨_, var_set hj, kvs, Sum.inl n, rfl, hD, ?_, Kept.mut k1 h0, _, upd_same, ?_⟩)⟩
  · have h1 := ho.len
    rw [List.length_take] at h1
    have h2 : 1001 ≤ sizeLine := by decide
    omega
  · rw [List.take_add_one, hn]
    exact ho.snoc n
theorem DcT.ints (hj : j < σ.length) (ha : H1 a = some (.tup (ns.map V.int))) (hz : ns.length ≤ 1000) (fin : ∀ D H2 kvs, H1 D = none → Kept H1 H2 → H2 D = some (.dK kvs) → OneV ns v kvs → Q (.ref D) H2) : DcT K j v [j] σ Q (.ref a) H1 := by
  refine ⟨a, rfl, ⟨_, SqT.of ha⟩, fun D hD => ?_⟩
  refine c_tup (xs := ns.map V.int) (fun i H => Kept H1 H ∧ ∃ kvs, H D = some (.dK kvs) ∧ OneV (ns.take i) v kvs) ⟨Kept.new hD, [], upd_same, by rw [List.take_zero]; exact ⟨Nat.le_refl _, fun k => (by simp; rfl)⟩⟩ (fun i H _ h => SqT.of (h.1.tup ha)) (fun i x H hx h => ?_) fun H h => ?_
  · obtain ⟨n, rfl, hn⟩ := map_int hx
    obtain ⟨k1, kvs, h1, h2⟩ := h
    exact dc_step hj hn hz hD k1 h1 h2
  · obtain ⟨k1, kvs, h1, h2⟩ := h
    rw [List.length_map, List.take_length] at h2
    exact fin D H kvs hD k1 h1 h2
theorem DcL.ints (hj : j < σ.length) (ha : H1 a = some (.lst (ns.map V.int))) (hz : ns.length ≤ 1000) (fin : ∀ D H2 kvs, H1 D = none → Kept H1 H2 → H2 D = some (.dK kvs) → OneV ns v kvs → Q (.ref D) H2) : DcL K j v [j] σ Q (.ref a) H1 := by
  refine ⟨a, rfl, ⟨_, SqL.of ha⟩, fun D hD => ?_⟩
  refine c_list (xs := ns.map V.int) (fun i H => Kept H1 H ∧ ∃ kvs, H D = some (.dK kvs) ∧ OneV (ns.take i) v kvs) ⟨Kept.new hD, [], upd_same, by rw [List.take_zero]; exact ⟨Nat.le_refl _, fun k => (by simp; rfl)⟩⟩ (fun i H _ h => SqL.of (h.1.lst ha)) (fun i x H hx h => ?_) fun H h => ?_
  · obtain ⟨n, rfl, hn⟩ := map_int hx
    obtain ⟨k1, kvs, h1, h2⟩ := h
    exact dc_step hj hn hz hD k1 h1 h2
  · obtain ⟨k1, kvs, h1, h2⟩ := h
    rw [List.length_map, List.take_length] at h2
    exact fin D H kvs hD k1 h1 h2
theorem OneV.has {kvs : List (L2.Key × V)} (h : OneV ns v kvs) (k : Int) : (valV kvs (.inl k)).isSome = decide (k ∈ ns) := by
  rw [h.val k]
  by_cases m : k ∈ ns
  · rw [if_pos m, decide_eq_true m] <;> rfl
  · rw [if_neg m, decide_eq_false m] <;> rfl
end
/-- name = {..} on one line, the name a local, the keys numbers or texts -/
theorem ps_setDc {X : Cx} {i : Nat} {y : Str} {py : Pos} {kx vx tg iter : Expr} {ifs : List Expr} {scope : Scope} {own : List (Str × Nat)} {pos spos : Pos} {wi : TI} {g : TG} {tt : TT} {tk tv : TE} (hy : X.N[i]? = some y) (hyl : X.env.scope.names.lookup y = some .local)
    (hsw : swapsWith (.DictComp kx vx [⟨tg, iter, ifs, 0⟩] scope pos) (some (.Name y py)) spos.line X.env = pure true) (hc : X.calm = true) (hN : X.N.Nodup) (hi : PI X tg iter wi) (ok : BlkOk X.N X.env.scope scope own)
    (hg : ∀ (s : Shared) (H : Hp) (C : Addr) (cl : List (Str × Addr)) (fp : List Addr), PG (X.blk s H scope (compEnvC scope cl C X.env) fp) tg g) (ht : ∀ (s : Shared) (H : Hp) (C : Addr) (cl : List (Str × Addr)) (fp : List Addr), PTs (X.blk s H scope (compEnvC scope cl C X.env) fp) ifs tt)
    (hk : ∀ (s : Shared) (H : Hp) (C : Addr) (cl : List (Str × Addr)) (fp : List Addr), PE (X.blk s H scope (compEnvC scope cl C X.env) fp) kx tk)
    (he : ∀ (s : Shared) (H : Hp) (C : Addr) (cl : List (Str × Addr)) (fp : List Addr), PE (X.blk s H scope (compEnvC scope cl C X.env) fp) vx tv) (hs : ∀ x, foldedSetIterable iter X.env x = pure x := by intro _; rfl) :
    PS X (.Assign [.Name y py] (.DictComp kx vx [⟨tg, iter, ifs, 0⟩] scope pos) spos) (tAsg (tDc wi g tt tk tv (own.map (·.2))) (gName i)) := by
  refine ⟨fun pins s σ H D I h => ?_⟩
  rw [exec_Assign_Name_used _ _ _ _ hsw]
  refine wpAny_bind (wpAny_standAt (wpAny_bind ?_))
  show wpAny _ X.A (do let _ ← comprehension (.DictComp kx vx [⟨tg, iter, ifs, 0⟩] scope pos) scope X.env (firstIterPos [⟨tg, iter, ifs, 0⟩] pos) newDict false (eval iter X.env) (some (assign (.Name y py) X.env))) _ _ s
  have h : tDc wi g tt tk tv (own.map (·.2)) σ H (fun x H1 => gName i x σ H1 D.nx) := h
  refine wpAny_bind (thn (dc_core (Qf := fun _ s' => SP X pins D .next s') hc hN I hi ok hg ht hk he hs h fun L C s' m H' I' q hn f => ?_) fun _ s' hq => wpAny_pure (wpAny_pure hq))
  show wpAny _ _ (assign (.Name y py) X.env (.ref L)) _ _ _
  refine wpAny_assign_Name (store_ok2 (v := V.ref L) I' hN hy (.inl hyl) rfl (fun s2 I2 ⟨a, sb, ha⟩ => ?_) (.inr hyl))
  obtain ⟨f0, f1, f2, f3, f4, f5⟩ := f
  have haC : C ≠ a := by
    rcases ha with z | z
    · rw [z]; exact f1
    · exact fun e => f4 y a z e.symm
  refine ⟨m, hn.sameBut sb haC, fun h3 sb3 => ?_⟩
  exact ⟨_, H', I2.turned (t' := s2.toks) (fun b o hb e => (sb3.2 b hb).trans e) f0 f1 f3 f4 f5, q⟩
end Ky

namespace Ky
open PySem PySem.Spec PyProof.Rows L2
/-! ### rows of values that stand for keys; each once -/
/-- e writes keys as data; the same data are the same keys -/
structure KeyD {α : Type} [DecidableEq α] (e : α → PyData) : Prop where
  same : ∀ a b, PyData.eqv (e a) (e b) = decide (a = b)
  lay : ∀ a, (e a).canLay0 = true
  dep : ∀ a, (e a).depth ≤ 40
def onceP {α : Type} [DecidableEq α] (L : List (V × α)) : List (V × α) := L.foldl (fun acc p => if p.2 ∈ acc.map (·.2) then acc else acc ++ [p]) []
section
variable {α : Type} [DecidableEq α]
theorem once_keys (L : List (V × α)) : (onceP L).map (·.2) = dd (L.map (·.2)) := by
  have aux : ∀ (L : List (V × α)) (acc : List (V × α)), (L.foldl (fun acc p => if p.2 ∈ acc.map (·.2) then acc else acc ++ [p]) acc).map (·.2) = (L.map (·.2)).foldl dstep (acc.map (·.2)) := by
    intro L
    induction L with
    | nil => exact fun acc => rfl
    | cons p L ih =>
      intro acc
      rw [List.foldl_cons, List.map_cons, List.foldl_cons, ih]
      congr 1
      unfold dstep
      by_cases h : p.2 ∈ acc.map (·.2)
      · rw [if_pos h, if_pos h]
      · rw [if_neg h, if_neg h, List.map_append] <;> rfl
  exact aux L []
theorem once_sub {L : List (V × α)} : ∀ p ∈ onceP L, p ∈ L := by
  have aux : ∀ (L acc M : List (V × α)), (∀ p ∈ acc, p ∈ M) → (∀ p ∈ L, p ∈ M) → ∀ p ∈ L.foldl (fun acc p => if p.2 ∈ acc.map (·.2) then acc else acc ++ [p]) acc, p ∈ M := by
    intro L
    induction L with
    | nil => exact fun acc M h _ => h
    | cons q L ih =>
      intro acc M h1 h2
      refine ih _ M ?_ fun p hp => h2 p (List.mem_cons_of_mem _ hp)
      by_cases hq : q.2 ∈ acc.map (·.2)
      · show ∀ p ∈ (if q.2 ∈ acc.map (·.2) then acc else acc ++ [q]), p ∈ M
        rw [if_pos hq]; exact h1
      · show ∀ p ∈ (if q.2 ∈ acc.map (·.2) then acc else acc ++ [q]), p ∈ M
        rw [if_neg hq]
        intro p hp
        rcases List.mem_append.mp hp with z | z
        · exact h1 p z
        · rw [List.mem_singleton.mp z]; exact h2 q List.mem_cons_self
  exact fun p hp => aux L [] L (fun _ h => by cases h) (fun _ h => h) p hp
theorem once_snoc (L : List (V × α)) (p : V × α) : onceP (L ++ [p]) = if p.2 ∈ (onceP L).map (·.2) then onceP L else onceP L ++ [p] := by
  unfold onceP
  rw [List.foldl_append] <;> rfl
theorem once_len (L : List (V × α)) : (onceP L).length ≤ L.length := by
  have h := congrArg List.length (once_keys L)
  rw [List.length_map] at h
  have := len_dd (L.map (·.2))
  rw [List.length_map] at this
  omega
theorem canLay_kd {e : α → PyData} (h : KeyD e) : ∀ as : List α, PyData.canLayAll0 (as.map e) = true
  | [] => by simp [PyData.canLayAll0]
  | a :: as => by rw [List.map_cons, PyData.canLayAll0, canLay_kd h as, h.lay] <;> rfl
theorem depth_kd {e : α → PyData} (h : KeyD e) : ∀ as : List α, PyData.depthAll (as.map e) ≤ 40
  | [] => by simp [PyData.depthAll]
  | a :: as => by
    have h1 := depth_kd h as
    have h2 := h.dep a
    rw [List.map_cons, PyData.depthAll]
    omega
theorem shL_keys {e : α → PyData} (h : KeyD e) (as : List α) : SeqAt.shaped (.list (as.map e)) = true := by
  have h1 := depth_kd h as
  unfold SeqAt.shaped
  simp only [PyData.canLay0, canLay_kd h, Bool.true_and, PyData.depth]
  exact decide_eq_true (by omega)
theorem sh_key {e : α → PyData} (h : KeyD e) (a : α) : SeqAt.shaped (e a) = true := by
  have h1 := h.dep a
  unfold SeqAt.shaped
  rw [h.lay, Bool.true_and]
  exact decide_eq_true (by omega)
theorem any_keys {e : α → PyData} (h : KeyD e) (as : List α) (a : α) : ((as.map e).any fun z => PyData.eqv z (e a)) = decide (a ∈ as) := by
  rw [List.any_map, Bool.eq_iff_iff, List.any_eq_true, decide_eq_true_eq]
  constructor
  · rintro ⟨x, hx, q⟩
    have q : PyData.eqv (e x) (e a) = true := q
    rw [h.same, decide_eq_true_eq] at q
    rw [← q]; exact hx
  · exact fun hm => ⟨a, hm, by show PyData.eqv (e a) (e a) = true; rw [h.same, decide_eq_true rfl]⟩
end
theorem keyD_ints : KeyD (fun n : Int => PyData.int n) := ⟨fun a b => by
    have := eqvAll_ints [a] [b]
    simp only [List.map_cons, List.map_nil, PyData.eqvAll, Bool.and_true] at this
    rw [this]
    exact decide_eq_decide.mpr ⟨fun z => by cases z; rfl, fun z => by rw [z]⟩, fun a => by simp [PyData.canLay0], fun a => by simp [PyData.depth]⟩
def tupD (ls : List Int) : PyData := .tuple (ls.map PyData.int)
theorem keyD_tups : KeyD tupD := ⟨fun a b => eqv_ints a b, fun a => by simp only [tupD, PyData.canLay0, canLay_ints], fun a => by
    simp only [tupD, PyData.depth, PySem.W.depth_ints]
    omega⟩
def spOnce (K : PySem.W.Frag) : Sp := fun vs H Q _ => ∃ (α : Type) (_ : DecidableEq α) (e : α → PyData) (a : Addr) (L : List (V × α)), KeyD e ∧ vs = [.ref a] ∧ H a = some (.lst (L.map (·.1))) ∧ (∀ p ∈ L, Dp K H p.1 (e p.2)) ∧ L.length ≤ 1000 ∧
  ∀ q H', Kept H H' → H q = none → H' q = some (.lst ((onceP L).map (·.1))) → Q (.ref q) H'
theorem once_ints {K : PySem.W.Frag} {H : Hp} {Q : VK} {E : XK} {a : Addr} {ns : List Int} (ha : H a = some (.lst (ns.map V.int))) (hz : ns.length ≤ 1000) (k : ∀ q H', Kept H H' → H q = none → H' q = some (.lst ((dd ns).map V.int)) → Q (.ref q) H') : spOnce K [.ref a] H Q E := by
  refine ⟨Int, inferInstance, _, a, ns.map fun n => (V.int n, n), keyD_ints, rfl, by rw [List.map_map]; exact ha, fun p hp => ?_, by rw [List.length_map]; exact hz, fun q H' k1 hq h => k q H' k1 hq ?_⟩
  · obtain ⟨n, _, rfl⟩ := List.mem_map.mp hp
    exact .int n
  · have e1 : (onceP (ns.map fun n => (V.int n, n))).map (·.2) = dd ns := by
      rw [once_keys, List.map_map]
      congr 1
      exact List.map_id _
    have e2 : (onceP (ns.map fun n => (V.int n, n))).map (·.1) = ((onceP (ns.map fun n => (V.int n, n))).map (·.2)).map V.int := by
      rw [List.map_map]
      refine List.map_congr_left fun p hp => ?_
      obtain ⟨n, _, rfl⟩ := List.mem_map.mp (once_sub p hp)
      rfl
    rw [e2, e1] at h
    exact h
theorem once_cls {K : PySem.W.Frag} {H : Hp} {Q : VK} {E : XK} {a : Addr} {bs : List Addr} {cs : List (List Int)} (ha : H a = some (.lst (bs.map V.ref))) (hc : ClsAt H bs cs) (hz : cs.length ≤ 1000) (k : ∀ q H' bs', Kept H H' → H q = none → H' q = some (.lst (bs'.map V.ref)) → ClsAt H' bs' (dd cs) → Q (.ref q) H') : spOnce K [.ref a] H Q E := by
  have e1 : (bs.zip cs).map (·.1) = bs := List.map_fst_zip (by rw [hc.1]; exact Nat.le_refl _)
  have e2 : (bs.zip cs).map (·.2) = cs := List.map_snd_zip (by rw [hc.1]; exact Nat.le_refl _)
  refine ⟨List Int, inferInstance, tupD, a, (bs.zip cs).map fun p => (V.ref p.1, p.2), keyD_tups, rfl, ?_, fun p hp => ?_, ?_, fun q H' k1 hq h => ?_⟩
  · rw [List.map_map]
    have : (bs.zip cs).map ((fun x : V × List Int => x.1) ∘ fun p => (V.ref p.1, p.2)) = ((bs.zip cs).map (·.1)).map V.ref := by rw [List.map_map] <;> rfl
    rw [this, e1]
    exact ha
  · obtain ⟨p, hp2, rfl⟩ := List.mem_map.mp hp
    exact dp_ints (clsAt_zip hc p hp2)
  · rw [List.length_map, List.length_zip, hc.1, Nat.min_self]
    exact hz
  · have hin : ∀ p ∈ onceP ((bs.zip cs).map fun p => (V.ref p.1, p.2)), ∃ b, p.1 = V.ref b ∧ H b = some (.tup (p.2.map V.int)) := fun p hp => by
      obtain ⟨p, hp2, rfl⟩ := List.mem_map.mp (once_sub p hp)
      exact ⟨_, rfl, clsAt_zip hc p hp2⟩
    have hk := once_keys ((bs.zip cs).map fun p => (V.ref p.1, p.2))
    have e3 : ((bs.zip cs).map fun p => (V.ref p.1, p.2)).map (·.2) = cs := by
      rw [List.map_map]
      exact e2
    rw [e3] at hk
    generalize onceP ((bs.zip cs).map fun p => (V.ref p.1, p.2)) = L at hin hk h
    have aux : ∀ L : List (V × List Int), (∀ p ∈ L, ∃ b, p.1 = V.ref b ∧ H b = some (.tup (p.2.map V.int))) → ∃ zs : List (Addr × List Int), L.map (·.1) = (zs.map (·.1)).map V.ref ∧ L.map (·.2) = zs.map (·.2) ∧ ∀ z ∈ zs, H z.1 = some (.tup (z.2.map V.int)) := by
      intro L
      induction L with
      | nil => exact fun _ => ⟨[], rfl, rfl, fun _ h => by cases h⟩
      | cons p L ih =>
        intro hL
        obtain ⟨b, h1, h2⟩ := hL p List.mem_cons_self
        obtain ⟨zs, g1, g2, g3⟩ := ih fun q hq => hL q (List.mem_cons_of_mem _ hq)
        refine ⟨(b, p.2) :: zs, ?_, ?_, fun z hz => ?_⟩
        · rw [List.map_cons, List.map_cons, List.map_cons, g1, h1]
        · rw [List.map_cons, List.map_cons, g2]
        · rcases List.mem_cons.mp hz with e | e
          · rw [e]; exact h2
          · exact g3 z e
    obtain ⟨zs, g1, g2, g3⟩ := aux L hin
    rw [g1] at h
    rw [g2] at hk
    refine k q H' _ k1 hq h ?_
    rw [← hk]
    exact (clsAt_of g3).kept k1
end Ky

namespace Ky
open PySem PySem.Spec PyProof.Rows L2
/-! ### comprehensions whose element draws: lists of numbers with a promise -/
section
variable {te : TE} {σ : L2.St}
theorem LcJ.drawsP {d c : Addr} (W : Int → Prop) {n : Nat} {j : Nat} {H0 : Hp} {Q : VK} (hd : DrwC d c H0) (hn : n ≤ sizeLine)
    (step : ∀ i H (k2 : VK), i < n → KeptC d c H0 H → (∀ r H4, KeptC d c H H4 → W r → k2 (.int r) H4) → te ((wipe σ [j]).set j (some (.int (i : Int)))) H k2)
    (fin : ∀ D H (ns : List Int), H0 D = none → KeptC d c H0 H → H D = some (.lst (ns.map V.int)) → ns.length = n → (∀ x ∈ ns, W x) → Q (.ref D) H) : LcJ (gName j) tYes te [j] σ Q (Itr 0 n) H0 := by
  intro D hD
  have nd := (hd.old hD).1
  refine c_walk (xv := fun i => .int (i : Int)) (n := n) (fun i H => KeptC d c H0 H ∧ ∃ ns : List Int, H D = some (.lst (ns.map V.int)) ∧ ns.length = i ∧ ∀ x ∈ ns, W x) ⟨(Kept.new hD).toC, [], upd_same, rfl, fun x h => (by cases h)⟩ (fun i H h s => h) (fun i H x H' h s q => ?_) (fun H s => Nat.le_refl n) (fun i H hi s => ?_) fun H s => ?_
  · obtain ⟨h1, h2⟩ := q
    rw [Int.zero_add] at h2
    exact ⟨h1, h2⟩
  · obtain ⟨kp, ns, h1, h2, h3⟩ := s
    refine ⟨wipe_one, w_yes (if_t rfl ?_)⟩
    refine step i H _ hi kp fun r H4 k4 r0 => ⟨_, k4.lst nd h1, ?_, (kp.trans k4).mut hD, ns ++ [r], ?_, ?_, fun x hx => ?_⟩
    · rw [List.length_map, h2]
      omega
    · rw [List.map_append]
      exact upd_same
    · rw [List.length_append, h2] <;> rfl
    · rcases List.mem_append.mp hx with q | q
      · exact h3 x q
      · rw [List.mem_singleton.mp q]
        exact r0
  · obtain ⟨kp, ns, h1, h2, h3⟩ := s
    exact fin D H ns hD kp h1 h2 h3
theorem Lc1.drawsP {d c : Addr} (W : Int → Prop) {n : Nat} {j : Nat} {H0 : Hp} {Q : VK} (hd : DrwC d c H0) (hn : n ≤ 1000)
    (step : ∀ i H (k2 : VK), i < n → KeptC d c H0 H → (∀ r H4, KeptC d c H H4 → W r → k2 (.int r) H4) → te ((wipe σ [j]).set j (some (.int (i : Int)))) H k2)
    (fin : ∀ D H (ns : List Int), H0 D = none → KeptC d c H0 H → H D = some (.lst (ns.map V.int)) → ns.length = n → (∀ x ∈ ns, W x) → Q (.ref D) H) : Lc1 (gName j) tYes te [j] σ Q [.int (n : Int)] H0 := by
  have hz : 1001 ≤ sizeLine := by decide
  refine ⟨_, rfl, by omega, by omega, ?_⟩
  rw [Int.toNat_natCast]
  exact LcJ.drawsP W hd (by omega) step fin
end
/-! ### the drawn clauses and formulas of the later laws -/
/-- the place of a list or a tuple that the draws leave alone -/
def Away (d c a : Addr) (H : Hp) (xs : List V) : Prop := a ≠ d ∧ a ≠ c ∧ (H a = some (.lst xs) ∨ H a = some (.tup xs))
theorem Away.keptC {d c a : Addr} {H H' : Hp} {xs : List V} (h : Away d c a H xs) (k : KeptC d c H H') : Away d c a H' xs := by
  obtain ⟨h1, h2, h3⟩ := h
  refine ⟨h1, h2, h3.imp (fun z => k.lst h1 z) fun z => k.keep _ _ h1 noTab_tup z⟩
theorem Away.tup {d c a : Addr} {H : Hp} {xs : List V} (hd : DrwC d c H) (h : H a = some (.tup xs)) : Away d c a H xs := by
  obtain ⟨ns, i, u, z, n, h1, h2, _⟩ := hd
  refine ⟨fun e => ?_, fun e => ?_, .inr h⟩
  · rw [e, h1] at h
    cases h
  · rw [e, h2] at h
    cases h
theorem Away.seq {d c a : Addr} {K : PySem.W.Frag} {H : Hp} {xs : List V} (h : Away d c a H xs) : SqL K H a xs ∨ SqT K H a xs := h.2.2.imp (fun z => SqL.of z) fun z => SqT.of z
def spLLit : Sp := fun vs H Q _ => ∃ (d c a : Addr) (ns : List Int), vs = [.ref d, .ref a] ∧ DrwC d c H ∧ Away d c a H (ns.map V.int) ∧ 0 < ns.length ∧ ns.length ≤ 1000 ∧ (∀ v ∈ ns, 1 ≤ v ∧ v ≤ 999) ∧ ∀ n H', KeptC d c H H' → isLit n = true → absI n ∈ ns → Q (.int n) H'
structure ClsF (ns : List Int) (many : Nat) (rc : List (List Int)) : Prop where
  len : rc.length ≤ many
  asc : ascC rc
  cls : ∀ c ∈ rc, isClauseF c = true ∧ c.length ≤ 4 ∧ ∀ n ∈ c, absI n ∈ ns
def spLClauses : Sp := fun vs H Q _ => ∃ (d c a : Addr) (ns : List Int) (many : Nat), vs = [.ref d, .ref a, .int many] ∧ many ≤ 60 ∧ DrwC d c H ∧ Away d c a H (ns.map V.int) ∧ 0 < ns.length ∧ ns.length ≤ 1000 ∧ (∀ v ∈ ns, 1 ≤ v ∧ v ≤ 999) ∧
  ∀ p H' bs rc, KeptC d c H H' → H' p = some (.tup (bs.map V.ref)) → ClsAt H' bs rc → ClsF ns many rc → Q (.ref p) H'
theorem ClsF.flat {ns : List Int} {many : Nat} {rc : List (List Int)} (h : ClsF ns many rc) : rc.flatten.length ≤ 4 * many := by
  have aux : ∀ rc : List (List Int), (∀ c ∈ rc, c.length ≤ 4) → rc.flatten.length ≤ 4 * rc.length := by
    intro rc
    induction rc with
    | nil => exact fun _ => Nat.zero_le _
    | cons c rc ih =>
      intro hc
      have h1 := hc c List.mem_cons_self
      have h2 := ih fun x hx => hc x (List.mem_cons_of_mem _ hx)
      rw [List.flatten_cons, List.length_append, List.length_cons]
      omega
  have h1 := aux rc fun c hc => (h.cls c hc).2.1
  have h2 := h.len
  omega
structure Form2 (most : Nat) (S Hd : List Int) (rc : List (List Int)) : Prop where
  sAsc : S.Pairwise (· < ·)
  hAsc : Hd.Pairwise (· < ·)
  dis : ∀ v ∈ S, v ∉ Hd
  vars : ∀ v, v ∈ S ∨ v ∈ Hd → 1 ≤ v ∧ v ≤ 999
  sPos : 1 ≤ S.length
  sum : S.length + Hd.length ≤ most + 3
  hLen : Hd.length ≤ 3
  len : rc.length ≤ most + 7
  asc : ascC rc
  cls : ∀ c ∈ rc, isClauseF c = true ∧ c.length ≤ 4 ∧ ∀ n ∈ c, absI n ∈ S ∨ absI n ∈ Hd
def spLFormula2 : Sp := fun vs H Q _ => ∃ (d c : Addr) (most : Nat), vs = [.ref d, .int most] ∧ 1 ≤ most ∧ most ≤ 8 ∧ DrwC d c H ∧ ∀ p H' S Hd rc, KeptC d c H H' → FormAt H' p S Hd rc → Form2 most S Hd rc → Q (.ref p) H'
theorem mem_clauseF {ls : List Int} {n : Int} : n ∈ clauseF ls ↔ n ∈ ls := by
  unfold clauseF
  rw [mem_srtBy, mem_dd]
theorem len_clauseF (ls : List Int) : (clauseF ls).length ≤ ls.length := by
  unfold clauseF
  rw [(srtBy_perm _ _).length_eq]
  exact len_dd _
theorem clauseF_ok {ls : List Int} (h : noBoth ls) (hl : ∀ n ∈ ls, isLit n = true) : isClauseF (clauseF ls) = true := by
  unfold clauseF
  exact isClauseF_srt (nodup_dd _) (fun l h1 h2 => h l (mem_dd.mp h1) (mem_dd.mp h2)) fun n hn => hl n (mem_dd.mp hn)
theorem residueF_asc (cs : List (List Int)) : ascC (residueF cs) := asc_srtN (nodup_dd _)
theorem len_residueF (cs : List (List Int)) : (residueF cs).length ≤ cs.length := by
  unfold residueF
  rw [(srtBy_perm _ _).length_eq]
  exact len_dd _
end Ky

namespace Ky
open PySem PySem.Spec PyProof.Rows L2
/-! ### plain values as trees: displays of nested tuples -/
inductive Tr where
  | i (n : Int)
  | b (x : Bool)
  | s (z : Str)
  | n
  | t (l : List Tr)
mutual
def TrAt (H : Hp) : Tr → V → Prop
  | .i k, v => v = .int k
  | .b x, v => v = .bl x
  | .s z, v => v = .str z
  | .n, v => v = .non
  | .t l, v => ∃ p xs, v = .ref p ∧ H p = some (.tup xs) ∧ TrsAt H l xs
def TrsAt (H : Hp) : List Tr → List V → Prop
  | [], xs => xs = []
  | a :: l, xs => ∃ x r, xs = x :: r ∧ TrAt H a x ∧ TrsAt H l r
end
mutual
def trD : Tr → PyData
  | .i k => .int k
  | .b x => .bool x
  | .s z => .str z
  | .n => .none
  | .t l => .tuple (trsD l)
def trsD : List Tr → List PyData
  | [] => []
  | a :: l => trD a :: trsD l
end
mutual
theorem TrAt.upH {H H' : Hp} (k : ∀ p xs, H p = some (.tup xs) → H' p = some (.tup xs)) : ∀ (a : Tr) (v : V), TrAt H a v → TrAt H' a v
  | .i n, v, h => by unfold TrAt at h ⊢; exact h
  | .b x, v, h => by unfold TrAt at h ⊢; exact h
  | .s z, v, h => by unfold TrAt at h ⊢; exact h
  | .n, v, h => by unfold TrAt at h ⊢; exact h
  | .t l, v, h => by
    unfold TrAt at h ⊢
    obtain ⟨p, xs, e, h1, h2⟩ := h
    exact ⟨p, xs, e, k p xs h1, TrsAt.upH k l xs h2⟩
theorem TrsAt.upH {H H' : Hp} (k : ∀ p xs, H p = some (.tup xs) → H' p = some (.tup xs)) : ∀ (l : List Tr) (xs : List V), TrsAt H l xs → TrsAt H' l xs
  | [], xs, h => by unfold TrsAt at h ⊢; exact h
  | a :: l, xs, h => by
    unfold TrsAt at h ⊢
    obtain ⟨x, r, e, h1, h2⟩ := h
    exact ⟨x, r, e, TrAt.upH k a x h1, TrsAt.upH k l r h2⟩
end
theorem TrAt.kept {H H' : Hp} {a : Tr} {v : V} (h : TrAt H a v) (k : Kept H H') : TrAt H' a v := TrAt.upH (fun p xs h => k.tup h) a v h
theorem TrsAt.kept {H H' : Hp} {l : List Tr} {xs : List V} (h : TrsAt H l xs) (k : Kept H H') : TrsAt H' l xs := TrsAt.upH (fun p xs h => k.tup h) l xs h
theorem TrAt.keptC {d c : Addr} {H H' : Hp} {a : Tr} {v : V} (h : TrAt H a v) (k : KeptC d c H H') (hd : DrwC d c H) : TrAt H' a v := TrAt.upH (fun p xs h => k.tup hd h) a v h
theorem TrsAt.keptC {d c : Addr} {H H' : Hp} {l : List Tr} {xs : List V} (h : TrsAt H l xs) (k : KeptC d c H H') (hd : DrwC d c H) : TrsAt H' l xs := TrsAt.upH (fun p xs h => k.tup hd h) l xs h
theorem TrsAt.nil {H : Hp} : TrsAt H [] [] := by unfold TrsAt; rfl
theorem TrsAt.cons {H : Hp} {a : Tr} {l : List Tr} {x : V} {xs : List V} (h : TrAt H a x) (hl : TrsAt H l xs) : TrsAt H (a :: l) (x :: xs) := by unfold TrsAt; exact ⟨x, xs, rfl, h, hl⟩
theorem TrsAt.len {H : Hp} : ∀ {l : List Tr} {xs : List V}, TrsAt H l xs → xs.length = l.length
  | [], xs, h => by unfold TrsAt at h; rw [h] <;> rfl
  | a :: l, xs, h => by
    unfold TrsAt at h
    obtain ⟨x, r, rfl, _, h2⟩ := h
    rw [List.length_cons, List.length_cons, TrsAt.len h2]
theorem TrsAt.get {H : Hp} : ∀ {l : List Tr} {xs : List V}, TrsAt H l xs → ∀ (i : Nat) (x : V) (a : Tr), xs[i]? = some x → l[i]? = some a → TrAt H a x
  | [], xs, h, i, x, a, h1, h2 => by cases h2
  | b :: l, xs, h, i, x, a, h1, h2 => by
    unfold TrsAt at h
    obtain ⟨y, r, rfl, g1, g2⟩ := h
    cases i with
    | zero =>
      cases h1
      cases h2
      exact g1
    | succ i =>
      rw [List.getElem?_cons_succ] at h1 h2
      exact TrsAt.get g2 i x a h1 h2
theorem TrsAt.app {H : Hp} : ∀ {l m : List Tr} {xs ys : List V}, TrsAt H l xs → TrsAt H m ys → TrsAt H (l ++ m) (xs ++ ys)
  | [], m, xs, ys, h1, h2 => by
    unfold TrsAt at h1
    rw [h1]
    exact h2
  | a :: l, m, xs, ys, h1, h2 => by
    unfold TrsAt at h1
    obtain ⟨x, r, rfl, g1, g2⟩ := h1
    exact TrsAt.cons g1 (TrsAt.app g2 h2)
mutual
theorem TrAt.dp {K : PySem.W.Frag} {H : Hp} : ∀ {a : Tr} {v : V}, TrAt H a v → Dp K H v (trD a)
  | .i n, v, h => by unfold TrAt at h; rw [h]; exact .int n
  | .b x, v, h => by unfold TrAt at h; rw [h]; exact .bl x
  | .s z, v, h => by unfold TrAt at h; rw [h]; exact .str z
  | .n, v, h => by unfold TrAt at h; rw [h]; exact .non
  | .t l, v, h => by
    unfold TrAt at h
    obtain ⟨p, xs, rfl, h1, h2⟩ := h
    exact .tup (SqT.of h1) (TrsAt.dp h2)
theorem TrsAt.dp {K : PySem.W.Frag} {H : Hp} : ∀ {l : List Tr} {xs : List V}, TrsAt H l xs → DpAll K H xs (trsD l)
  | [], xs, h => by unfold TrsAt at h; rw [h]; exact .nil
  | a :: l, xs, h => by
    unfold TrsAt at h
    obtain ⟨x, r, rfl, g1, g2⟩ := h
    exact .cons (TrAt.dp g1) (TrsAt.dp g2)
end
def TrW (a : Tr) : V → Hp → Prop := fun v H => TrAt H a v
def TrsW (l : List Tr) : List V → Hp → Prop := fun xs H => TrsAt H l xs
section
variable {σ : L2.St} {H0 : Hp} {te ta tb : TE} {tq : TA} {K : PySem.W.Frag}
theorem mkT_nil : MkA σ H0 tNil (TrsW []) := ⟨fun v H H' k q => TrsAt.kept (l := []) q k, fun H Q k0 k => k [] H (Kept.refl _) TrsAt.nil⟩
theorem mkT_cons {a : Tr} {l : List Tr} (h : MkE σ H0 te (TrW a)) (hs : MkA σ H0 tq (TrsW l)) : MkA σ H0 (tCons te tq) (TrsW (a :: l)) :=
  ⟨fun v H H' k q => TrsAt.kept (l := a :: l) q k, fun H Q k0 k => h.run H _ k0 fun v H1 k1 w1 => hs.run H1 _ (k0.trans k1) fun r H2 k2 w2 => k _ H2 (k1.trans k2) (TrsAt.cons (TrAt.kept w1 k2) w2)⟩
theorem mkT_tup {l : List Tr} (h : MkA σ H0 tq (TrsW l)) (hl : l.length ≤ 1000) : MkE σ H0 (tTup tq) (TrW (.t l)) :=
  ⟨fun v H H' k q => TrAt.kept (a := .t l) q k, fun H Q k0 k => h.run H _ k0 fun vs H1 k1 w => ⟨Nat.le_trans (by rw [TrsAt.len w]; exact hl) (by decide), fun p hp => k _ _ (k1.trans (Kept.new hp)) (by
    show TrAt _ _ _
    unfold TrAt
    exact ⟨p, vs, rfl, upd_same, TrsAt.kept w (Kept.new hp)⟩)⟩⟩
theorem mkT_int {n : Int} : MkE σ H0 (tC (.int n)) (TrW (.i n)) := ⟨fun v H H' k q => TrAt.kept (a := .i n) q k, fun H Q k0 k => k _ H (Kept.refl _) (by show TrAt _ _ _; unfold TrAt; rfl)⟩
theorem mkT_bl {x : Bool} : MkE σ H0 (tC (.bl x)) (TrW (.b x)) := ⟨fun v H H' k q => TrAt.kept (a := .b x) q k, fun H Q k0 k => k _ H (Kept.refl _) (by show TrAt _ _ _; unfold TrAt; rfl)⟩
theorem mkT_str {z : Str} : MkE σ H0 (tC (.str z)) (TrW (.s z)) := ⟨fun v H H' k q => TrAt.kept (a := .s z) q k, fun H Q k0 k => k _ H (Kept.refl _) (by show TrAt _ _ _; unfold TrAt; rfl)⟩
theorem mkT_non : MkE σ H0 (tC .non) (TrW .n) := ⟨fun v H H' k q => TrAt.kept (a := .n) q k, fun H Q k0 k => k _ H (Kept.refl _) (by show TrAt _ _ _; unfold TrAt; rfl)⟩
theorem mkT_neg {n : Int} (h : MkE σ H0 te (TrW (.i n))) : MkE σ H0 (tUn (rU fun i => V.int (-i)) te) (TrW (.i (-n))) := ⟨fun v H H' k q => TrAt.kept (a := .i (-n)) q k, fun H Q k0 k => h.run H _ k0 fun v H1 k1 w => by
    have w : TrAt H1 (.i n) v := w
    unfold TrAt at w
    exact ⟨n, w, k _ H1 k1 (by show TrAt _ _ _; unfold TrAt; rfl)⟩⟩
theorem mkT_var {i : Nat} {v : V} {a : Tr} (h : σ[i]? = some (some v)) (ha : TrAt H0 a v) : MkE σ H0 (tVar i) (TrW a) := ⟨fun v H H' k q => TrAt.kept (a := a) q k, fun H Q k0 k => ⟨v, h, k v H (Kept.refl _) (TrAt.kept ha k0)⟩⟩
end
end Ky

namespace Ky
open PySem PySem.Spec PyProof.Rows L2
/-! ### comprehensions whose element draws: lists of values that are no places -/
section
variable {te : TE} {σ : L2.St}
theorem LcJ.drawsV {d c : Addr} (W : V → Prop) {n : Nat} {j : Nat} {H0 : Hp} {Q : VK} (hd : DrwC d c H0) (hn : n ≤ sizeLine)
    (step : ∀ i H (k2 : VK), i < n → KeptC d c H0 H → (∀ r H4, KeptC d c H H4 → W r → k2 r H4) → te ((wipe σ [j]).set j (some (.int (i : Int)))) H k2)
    (fin : ∀ D H (ns : List V), H0 D = none → KeptC d c H0 H → H D = some (.lst ns) → ns.length = n → (∀ x ∈ ns, W x) → Q (.ref D) H) : LcJ (gName j) tYes te [j] σ Q (Itr 0 n) H0 := by
  intro D hD
  have nd := (hd.old hD).1
  refine c_walk (xv := fun i => .int (i : Int)) (n := n) (fun i H => KeptC d c H0 H ∧ ∃ ns : List V, H D = some (.lst ns) ∧ ns.length = i ∧ ∀ x ∈ ns, W x) ⟨(Kept.new hD).toC, [], upd_same, rfl, fun x h => (by cases h)⟩ (fun i H h s => h) (fun i H x H' h s q => ?_) (fun H s => Nat.le_refl n) (fun i H hi s => ?_) fun H s => ?_
  · obtain ⟨h1, h2⟩ := q
    rw [Int.zero_add] at h2
    exact ⟨h1, h2⟩
  · obtain ⟨kp, ns, h1, h2, h3⟩ := s
    refine ⟨wipe_one, w_yes (if_t rfl ?_)⟩
    refine step i H _ hi kp fun r H4 k4 r0 => ⟨_, k4.lst nd h1, ?_, (kp.trans k4).mut hD, ns ++ [r], ?_, ?_, fun x hx => ?_⟩
    · rw [h2]
      omega
    · exact upd_same
    · rw [List.length_append, h2] <;> rfl
    · rcases List.mem_append.mp hx with q | q
      · exact h3 x q
      · rw [List.mem_singleton.mp q]
        exact r0
  · obtain ⟨kp, ns, h1, h2, h3⟩ := s
    exact fin D H ns hD kp h1 h2 h3
theorem Lc1.drawsV {d c : Addr} (W : V → Prop) {n : Nat} {j : Nat} {H0 : Hp} {Q : VK} (hd : DrwC d c H0) (hn : n ≤ 1000)
    (step : ∀ i H (k2 : VK), i < n → KeptC d c H0 H → (∀ r H4, KeptC d c H H4 → W r → k2 r H4) → te ((wipe σ [j]).set j (some (.int (i : Int)))) H k2)
    (fin : ∀ D H (ns : List V), H0 D = none → KeptC d c H0 H → H D = some (.lst ns) → ns.length = n → (∀ x ∈ ns, W x) → Q (.ref D) H) : Lc1 (gName j) tYes te [j] σ Q [.int (n : Int)] H0 := by
  have hz : 1001 ≤ sizeLine := by decide
  refine ⟨_, rfl, by omega, by omega, ?_⟩
  rw [Int.toNat_natCast]
  exact LcJ.drawsV W hd (by omega) step fin
end
end Ky

namespace Ky
open PySem PySem.Spec PyProof.Rows L2
/-! ### a dict of the module, keys texts: in, [..]; the sum of a list of truths -/
def KHas (K : PySem.W.Frag) (w : World) (a : Addr) (x : Str) (b : Bool) : Prop :=
  ∃ es n u, K.lookup a = some ⟨.type "dict", none, .dict es n, #[]⟩ ∧ PySem.W.KeysLit w.params es.toList ∧ (a == sysModules) = false ∧ PySem.W.nsIn K a x = some u ∧ b = u.isSome
def tKIn (K : PySem.W.Frag) (w : World) (ty td : TE) : TE := fun σ H Q => ty σ H fun y H1 => td σ H1 fun x H2 => ∃ p z b, x = .ref p ∧ y = .str z ∧ KHas K w p z b ∧ Q (.bl b) H2
section
variable {X : Cx} {i o : Expr} {ty td : TE} {K : PySem.W.Frag} {w : World}
theorem pc_kin (hK : X.K = K) (hw : X.w = w) (hi : PE X i ty) (ho : PE X o td) : PC X .In i o (tKIn K w ty td) := by
  subst hK
  subst hw
  refine ⟨fun pins s σ H Q I h => ?_⟩
  refine thn (hi.run pins s σ H _ I h) fun iv s1 ⟨y, H1, I1, ry, q1⟩ => thn (ho.run pins s1 σ H1 _ I1 q1) fun u s2 ⟨x, H2, I2, rx, p, z, b, ex, ey, ⟨es, n, u0, hl, hk, low, e, hb⟩, q2⟩ => ?_
  subst ex
  subst ey
  obtain rfl : u = Value.ref p := rx
  obtain ⟨t, rfl⟩ := ry
  have hm := PySem.W.mapOf_K (prog := X.prog) (w := X.w) I2.kIn hl hk
  refine wpAny_in_of (strKind_is X.prog X.w z t) low hm ?_
  refine ⟨.bl b, H2, I2.tok _, ?_, q2⟩
  show Value.bool _ = Value.bool _
  rw [PySem.W.find_K hl e, hb]
theorem ix_kdictK (hK : X.K = K) (hw : X.w = w) : IxR X (rIxD K w) := by
  subst hK
  subst hw
  exact ix_kdict
/-- sum(l), l a list of truths -/
def rSumB (K : PySem.W.Frag) : List V → Hp → VK → Prop := fun vs H Q => ∃ (a : Addr) (bs : List Bool), vs = [V.ref a] ∧ SqL K H a (bs.map V.bl) ∧ Q (.int (bs.filter id).length) H
theorem preSum_bools (bs : List Bool) : ∀ j, j ≤ bs.length → preSum (fun i => if bs.getD i false = true then 1 else 0) j = ((bs.take j).filter id).length
  | 0, _ => rfl
  | j + 1, h => by
    rw [preSum, preSum_bools bs j (by omega)]
    have hj : j < bs.length := by omega
    rw [List.take_add_one, List.getElem?_eq_getElem hj, List.filter_append, List.length_append, List.getD_eq_getElem?_getD, List.getElem?_eq_getElem hj]
    cases bs[j] <;> simp
theorem cr_sumB (hc : X.calm = true) : CallR X (.builtin "sum") (rSumB X.K) := by
  intro pins s σ H vs us Q I r h
  obtain ⟨a, bs, rfl, hs, q⟩ := h
  obtain ⟨its, rv, hl, _⟩ := I.list hs
  rw [Vals.ref1 r]
  have hb := rv.bls
  refine call_sum_walkAnyB (iter_any hl.isList fun s₂ e2 st hne => ?_)
  subst e2
  refine ⟨_, _, _, _, _, _, _, fun i => if bs.getD i false = true then 1 else 0, rfl, (Walks.list (A := X.A.in1) (I.ok.hd hc) _ a hne its.toArray).toS, st, ?_, fun i v hv => ?_, fun s' t' mv => ?_⟩
  · intro b hb2
    have hlt : a < s.heap.objs.size := by obtain ⟨_, e, _⟩ := hl.isList; exact Heap.lt_size e
    show b < (s.heap.push _).objs.size
    rw [Heap.size_push]
    rcases List.mem_cons.mp hb2 with e | hb2
    · exact e ▸ Nat.lt_succ_self _
    · exact (List.mem_singleton.mp hb2) ▸ Nat.lt_succ_of_lt hlt
  · have hv' : its[i]? = some v := by simpa using hv
    rw [hb, List.getElem?_map] at hv'
    obtain ⟨b, hb3, rfl⟩ := Option.map_eq_some_iff.mp hv'
    refine .inr ⟨b, rfl, ?_⟩
    show (if bs.getD i false = true then (1 : Int) else 0) = _
    have hg : bs.getD i false = b := by rw [List.getD_eq_getElem?_getD, hb3] <;> rfl
    rw [hg]
  · have hz : its.toArray.size = bs.length := by rw [hb, List.size_toArray, List.length_map]
    rw [hz, preSum_bools bs _ (Nat.le_refl _), List.take_length]
    obtain ⟨h3, g3, d3, t3, o3⟩ := s'
    cases (mv.gens : g3 = s.gens)
    cases (mv.drawn : d3 = s.drawn)
    cases (mv.os : o3 = s.os)
    refine ⟨.int _, H, I.kept fun b o eo => mv.heap b o (fun hmem => ?_) (Heap.get?_push_of_some _ eo), ⟨_, rfl⟩, q⟩
    rcases List.mem_cons.mp hmem with e1 | hmem
    · exact absurd (e1 ▸ Heap.lt_size eo) (Nat.lt_irrefl _)
    · cases hmem
end
end Ky
namespace Ky
open PySem PySem.Spec PyProof.Rows L2
section
variable {X : Cx} {K : PySem.W.Frag}
theorem cr_allK (hK : X.K = K) (hc : X.calm = true) : CallR X (.builtin "all") (rAll K) := by subst hK; exact cr_all hc
theorem cr_anyK (hK : X.K = K) (hc : X.calm = true) : CallR X (.builtin "any") (rAny K) := by subst hK; exact cr_any hc
theorem cr_sumBK (hK : X.K = K) (hc : X.calm = true) : CallR X (.builtin "sum") (rSumB K) := by subst hK; exact cr_sumB hc
end
end Ky

namespace Ky
open PySem PySem.Spec PyProof.Rows L2
/-! ### comprehensions whose element draws a tree -/
section
variable {te : TE} {σ : L2.St}
theorem LcJ.drawsT {d c : Addr} (W : Tr → Prop) {n : Nat} {j : Nat} {H0 : Hp} {Q : VK} (hd : DrwC d c H0) (hn : n ≤ sizeLine)
    (step : ∀ i H (k2 : VK), i < n → KeptC d c H0 H → (∀ r H4 t, KeptC d c H H4 → TrAt H4 t r → W t → k2 r H4) → te ((wipe σ [j]).set j (some (.int (i : Int)))) H k2)
    (fin : ∀ D H xs ts, H0 D = none → KeptC d c H0 H → H D = some (.lst xs) → TrsAt H ts xs → ts.length = n → (∀ t ∈ ts, W t) → Q (.ref D) H) : LcJ (gName j) tYes te [j] σ Q (Itr 0 n) H0 := by
  intro D hD
  have nd := (hd.old hD).1
  refine c_walk (xv := fun i => .int (i : Int)) (n := n) (fun i H => KeptC d c H0 H ∧ ∃ xs ts, H D = some (.lst xs) ∧ TrsAt H ts xs ∧ ts.length = i ∧ ∀ t ∈ ts, W t) ⟨(Kept.new hD).toC, [], [], upd_same, TrsAt.nil, rfl, fun x h => (by cases h)⟩ (fun i H h s => h) (fun i H x H' h s q => ?_) (fun H s => Nat.le_refl n) (fun i H hi s => ?_) fun H s => ?_
  · obtain ⟨h1, h2⟩ := q
    rw [Int.zero_add] at h2
    exact ⟨h1, h2⟩
  · obtain ⟨kp, xs, ts, h1, hx, h2, h3⟩ := s
    refine ⟨wipe_one, w_yes (if_t rfl ?_)⟩
    refine step i H _ hi kp fun r H4 t k4 r0 w0 => ⟨_, k4.lst nd h1, ?_, (kp.trans k4).mut hD, xs ++ [r], ts ++ [t], ?_, ?_, ?_, fun x hx => ?_⟩
    · rw [hx.len, h2]
      omega
    · exact upd_same
    · exact TrsAt.upH (fun p zs h => tup_upd (k4.lst nd h1) h) _ _ ((hx.keptC k4 (kp.drw hd)).app (TrsAt.cons r0 TrsAt.nil))
    · rw [List.length_append, h2] <;> rfl
    · rcases List.mem_append.mp hx with q | q
      · exact h3 x q
      · rw [List.mem_singleton.mp q]
        exact w0
  · obtain ⟨kp, xs, ts, h1, hx, h2, h3⟩ := s
    exact fin D H xs ts hD kp h1 hx h2 h3
theorem Lc1.drawsT {d c : Addr} (W : Tr → Prop) {n : Nat} {j : Nat} {H0 : Hp} {Q : VK} (hd : DrwC d c H0) (hn : n ≤ 1000)
    (step : ∀ i H (k2 : VK), i < n → KeptC d c H0 H → (∀ r H4 t, KeptC d c H H4 → TrAt H4 t r → W t → k2 r H4) → te ((wipe σ [j]).set j (some (.int (i : Int)))) H k2)
    (fin : ∀ D H xs ts, H0 D = none → KeptC d c H0 H → H D = some (.lst xs) → TrsAt H ts xs → ts.length = n → (∀ t ∈ ts, W t) → Q (.ref D) H) : Lc1 (gName j) tYes te [j] σ Q [.int (n : Int)] H0 := by
  have hz : 1001 ≤ sizeLine := by decide
  refine ⟨_, rfl, by omega, by omega, ?_⟩
  rw [Int.toNat_natCast]
  exact LcJ.drawsT W hd (by omega) step fin
end
end Ky

namespace Ky
open PySem PySem.Spec PyProof.Rows L2
/-! ### list(d.values()), d a dict whose keys are ints and texts -/
def valsO (p d : Addr) : HO := .ext fun h => h.IsValuesView p d
theorem valsO_ok {P : Program} {w : World} {H : Hp} {h : Heap} {p d : Addr} (e : h.get? p = some { cls := .type "dict_values", data := .fields #[.ref d] }) : ObjOk P w H h p (valsO p d) :=
  ⟨⟨_, e, rfl, rfl⟩, ⟨_, e⟩, fun h1 h2 x k => let ⟨o, ho, r⟩ := x; ⟨o, k o ho, r⟩⟩
section
variable {X : Cx}
def rValsK : V → List V → Hp → VK → Prop := fun x xs H Q => ∃ (a : Addr) (kvs : List (L2.Key × V)), x = .ref a ∧ xs = [] ∧ H a = some (.dK kvs) ∧ ∀ p, H p = none → Q (.ref p) (upd H p (valsO p a))
theorem mt_valsK : MtR X "dict.values" rValsK := by
  intro pins s σ H x xs v us Q I rx rxs h
  obtain ⟨a, kvs, rfl, rfl, ha, q⟩ := h
  cases rx
  cases rxs
  obtain ⟨_, hsys, vs, rel, dof⟩ := dk_of I.hok ha
  refine call_meetsIn F.slot_dict_values dof.typeIs F.entry_dict_values (F.args_dict_values_1 _) (meets_dict_values (mixKind X.prog X.w) a hsys) ⟨⟨vs, dof⟩, ?_⟩
  have hf : H s.heap.objs.size = none := I.hok.fresh (Nat.le_refl _)
  exact ⟨.ref s.heap.objs.size, upd H s.heap.objs.size (valsO s.heap.objs.size a), I.laid (t' := s.toks) (fun b u e => Heap.get?_push_of_some _ e) (Nat.le_refl _) (valsO_ok (Heap.get?_push_size _ rfl)), rfl, q _ hf⟩
def rListVals : List V → Hp → VK → Prop := fun xs H Q => ∃ (p a : Addr) (kvs : List (L2.Key × V)), xs = [V.ref p] ∧ H p = some (valsO p a) ∧ H a = some (.dK kvs) ∧ ∀ q, H q = none → Q (.ref q) (upd H q (.lst (kvs.map (·.2))))
theorem call_list_vals (hc : X.calm = true) : CallR X (.type "list") rListVals := by
  intro pins s σ H xs us Q I r h
  obtain ⟨p, a, kvs, e, hp, hk, q⟩ := h
  subst e
  obtain ⟨u, eu, rx⟩ := vals1 r
  subst eu
  obtain rfl : u = Value.ref p := rx
  obtain ⟨z, lo, vs, rk, hd⟩ := (show ObjOk X.prog X.w H s.heap a (.dK kvs) from I.hok a _ hk)
  obtain ⟨ep, hat⟩ := hd.dictAt
  have hl : kvs.length = vs.length := Paired.length rk
  have hvw : s.heap.IsValuesView p a := (I.hok p _ hp).1
  refine PySem.W.kdl_call (PySem.W.kdl_values (knd := mixKind X.prog X.w) (kvs := vs) (ep := ep)) (I.ok.hd hc) ⟨hvw, hat⟩ (by rw [← hl]; exact z) fun h' tk acc' c' hkeep hS hacc => ?_
  refine ⟨.ref s.heap.objs.size, upd H s.heap.objs.size (.lst (kvs.map (·.2))), I.laid hkeep (Nat.le_refl _) (show ObjOk X.prog X.w _ _ _ (.lst (kvs.map (·.2))) from ⟨?_, acc'.toList, c', ?_, ?_⟩), rfl, q _ (I.hok.fresh (Nat.le_refl _))⟩
  · rw [List.length_map]; exact z
  · have el : acc'.toList.length = acc'.size := by simp
    refine vals_of_at (by rw [List.length_map, el, hacc.1, hl]) fun j x w h1 h2 => ?_
    obtain ⟨k, hky⟩ := hacc.2 j w (by rw [← Array.getElem?_toList]; exact h2)
    obtain ⟨y, e1, e2⟩ := KV.at' rk hky
    have e3 : (kvs.map (·.2))[j]? = some y := by rw [List.getElem?_map, e1] <;> rfl
    rw [e3] at h1
    cases h1
    exact e2
  · rw [Array.toArray_toList]; exact hS
end
/-! ### x in t, x not in t, t a tuple of data -/
section
variable {X : Cx}
def rInTD (K : PySem.W.Frag) : R2 := fun x y H Q => ∃ d ds, Dp K H x d ∧ Dp K H y (.tuple ds) ∧ SeqAt.shaped d = true ∧ SeqAt.shaped (.list ds) = true ∧ Q (.bl (ds.any fun z => PyData.eqv z d)) H
def rNotInTD (K : PySem.W.Frag) : R2 := fun x y H Q => ∃ d ds, Dp K H x d ∧ Dp K H y (.tuple ds) ∧ SeqAt.shaped d = true ∧ SeqAt.shaped (.list ds) = true ∧ Q (.bl (!ds.any fun z => PyData.eqv z d)) H
theorem op_inTD (hu : X.A.units + 65 < cLine) : OpR X (compareOp .In) (rInTD X.K) := by
  intro pins s σ H x y v u Q I rx ry h
  obtain ⟨d, ds, hd, he, sd, se, q⟩ := h
  obtain ⟨as, r1⟩ := Dp.reads I d x v hd rx
  obtain ⟨bs, r2⟩ := Dp.reads I (.tuple ds) y u he ry
  exact SeqAt.in_tuple_reads r2 r1 (SeqAt.canLay_of_shaped se) (SeqAt.canLay_of_shaped sd) (room_in_shaped sd hu) ⟨.bl _, H, I, rfl, q⟩
theorem op_notInTD (hu : X.A.units + 65 < cLine) : OpR X (compareOp .NotIn) (rNotInTD X.K) := by
  intro pins s σ H x y v u Q I rx ry h
  obtain ⟨d, ds, hd, he, sd, se, q⟩ := h
  obtain ⟨as, r1⟩ := Dp.reads I d x v hd rx
  obtain ⟨bs, r2⟩ := Dp.reads I (.tuple ds) y u he ry
  exact SeqAt.notIn_tuple_reads r2 r1 (SeqAt.canLay_of_shaped se) (SeqAt.canLay_of_shaped sd) (room_in_shaped sd hu) ⟨.bl _, H, I, rfl, q⟩
end
/-! ### defs that raise -/
structure DfX (P : Program) (w : World) (K : PySem.W.Frag) (mg : Str → Option Value) (base : Heap) (k : Nat) (x : Str) (ps : List Str) (sp : Sp) : Prop where
  ex : ∃ f fd, FnOk P w K mg base (L2.CX P w) k f fd ps sp ∧ mg x = some (.ref f) ∧ PySem.W.keepIn K (.ref f) = true ∧ Binds K fd ps []
section
variable {X : Cx} {k : Nat} {ps : List Str} {sp : Sp} {x : Str} {p pos : Pos} {e : Expr} {es : List Expr} {t : TA} {E : L2.St → XK}
theorem pe_dfX (D : DfX X.prog X.w X.K X.mg X.base k x ps sp) (hr : Room k X.A) (hx : ∀ σ, PassesAt (L2.CX X.prog X.w) X σ (E σ)) (hg : Gl X x) (ha : PA X (e :: es) t) (hdb : (x == ("__debug__" : Str)) = false := by decide)
    (he : starEach (e :: es) X.env = (false, eval e X.env) :: starEach es X.env := by rfl) (hpl : (backTo pos (starEach es X.env)).any (·.1) = false := by rfl) :
    PE X (.Call (.Name x p) (e :: es) [] pos) (tCallS sp E t) := by
  obtain ⟨f, fd, F, hm, hk, hb⟩ := D.ex
  exact pe_callS F hr hg hm hk hb hx ha hdb he hpl
end
/-- a class of the program over a class over ValueError, without __init__ -/
structure ExC (K : PySem.W.Frag) (mg : Str → Option Value) (x : Str) (C : Addr) : Prop where
  g : mg x = some (.ref C)
  x : PySem.W.excIn K C [.type "ValueError", .type "Exception", .type "BaseException", .type "object"] "ValueError.__new__" = true
  k : PySem.W.keepIn K (.ref C) = true
  b : PySem.W.subIn K (.ref C) (.type "BaseException") = some true
  t : PySem.W.typeIn K (.ref C) = some (.type "type")
  e : PySem.W.exmOne K (.ref C) (.ref C) = some true
theorem exm_self {K : PySem.W.Frag} {S : Addr} (h1 : PySem.W.subIn K (.ref S) (.type "BaseException") = some true) (h2 : PySem.W.isClsIn K S = true) (h3 : PySem.W.typeIn K (.ref S) = some (.type "type")) (h4 : PySem.W.subIn K (.ref S) (.ref S) = some true) :
    PySem.W.exmOne K (.ref S) (.ref S) = some true := by
  have e1 : (PySem.W.subIn K (.ref S) (.type "BaseException") == some true) = true := by rw [h1] <;> rfl
  have e2 : ((PySem.W.clsIn K S).isSome && PySem.W.typeIn K (.ref S) == some (.type "type")) = true := by
    have h2' : (PySem.W.clsIn K S).isSome = true := h2
    rw [h2', h3] <;> rfl
  show (if (PySem.W.subIn K (.ref S) (.type "BaseException") == some true) = true then (if ((PySem.W.clsIn K S).isSome && PySem.W.typeIn K (.ref S) == some (.type "type")) = true then PySem.W.subIn K (.ref S) (.ref S) else none) else none) = some true
  rw [if_pos e1, if_pos e2]
  exact h4
/-- as FunC.ok, for a def that may raise -/
theorem FunC.okX {P : Program} {w : World} {K : PySem.W.Frag} {mg : Str → Option Value} {base : Heap} {x : Str} {st : Stmt} {f c : Addr} {fd : FuncData} {N ps : List Str} {k : Nat} {sp : Sp} (F : FunC K x st f fd c) (S : FnScope N ps (defScope st)) (len : ∀ vs H Q E, sp vs H Q E → vs.length = ps.length)
    (body : ∀ (A : Around) (outer : List Env) (s : Shared) (H : Hp) (vs : List V) (Q : VK) (E : XK), Room k (A.deeper (envOfC x (defScope st) s.heap.objs.size f (.ref c))) → sp vs H Q E →
      ∃ t, PSs (cxOf (L2.CX P w) P w K mg base N x (defScope st) f (.ref c) A outer s H E) (defBody st) t ∧ t { nx := fun _ H' => Q .non H', rt := Q } (start N vs) H) : FnOk P w K mg base (L2.CX P w) (k + 1) f fd ps sp := by
  obtain ⟨oc, od, kV, doc, pm, an, ct, osl, e, lk, hcd⟩ := F.ex
  subst e
  exact fn_of lk hcd S len fun A outer s H vs Q E hr hsp => body A outer s H vs Q E hr hsp
theorem w_callS {sp : Sp} {E : L2.St → XK} {tq : TA} {σ : L2.St} {H : Hp} {Q : VK} (q : tq σ H fun vs H1 => sp vs H1 Q (E σ)) : tCallS sp E tq σ H Q := q
theorem w_bm0 {K : PySem.W.Frag} {σ : L2.St} {H : Hp} {Q : VK} {T : String} {r : V → List V → Hp → VK → Prop} {te : TE} (q : te σ H fun x H1 => tyV K T x H1 ∧ r x [] H1 Q) : tBM0 K T r te σ H Q := q
end Ky

/-! ### an own exception: class C(B), B(ValueError), __init__(self, x): super().__init__(f'word {x}'); self.x = x -/
namespace PySem
namespace Xi
open PySem.W PySem.Calls PyProof.Rows PySem.HandSPX
abbrev xA (x : Str) (p1 p2 : Pos) : Arguments := { posonlyargs := [], args := [{ arg := "self", annotation := none, pos := p1 }, { arg := x, annotation := none, pos := p2 }], vararg := none, kwonlyargs := [], kw_defaults := [], kwarg := none, defaults := [] }
abbrev xB (x z : Str) (a b c d e f g h i j k l m : Pos) : List Stmt :=
  [.Expr (.Call (.Attribute (.Call (.Name "super" a) [] [] b) "__init__" c) [.JoinedStr [.Constant (.str z) 0 d, .FormattedValue (.Name x e) (-1) none f] g] [] h) i,
   .Assign [.Attribute (.Name "self" j) x k] (.Name x l) m]
abbrev xS (x : Str) : Scope := { kind := .function, names := [(PySem.Str.ofString "self", .local), (x, .local), (PySem.Str.ofString "__class__", .free), (PySem.Str.ofString "super", .globalImplicit)], isGenerator := false, isCoroutine := false, more := [] }
/-- how super().__init__(f'word {x}') is walked (its parts stand on one line) -/
def EvSup (x z : Str) (a b c d e f g h : Pos) : Prop := ∃ pl : Sem Bool, ∀ env : Env,
  eval (.Call (.Attribute (.Call (.Name "super" a) [] [] b) "__init__" c) [.JoinedStr [.Constant (.str z) 0 d, .FormattedValue (.Name x e) (-1) none f] g] [] h) env =
    (attributeBase (.Call (.Name "super" a) [] [] b) "__init__" env (eval (.Call (.Name "super" a) [] [] b) env) >>= fun ov => standAt c.atName >>= fun _ =>
      holding [ov] (getMethod ov "__init__" pl) >>= fun m => callWith h m.1 m.2 (backTo h (starEach [.JoinedStr [.Constant (.str z) 0 d, .FormattedValue (.Name x e) (-1) none f] g] env)) [])
/-- what the written part says of the class at C and of its __init__ at fI; x: the field, z: the word, nm: the class's name -/
structure XTxt (P : Program) (K : Frag) (mg : Str → Option Value) (nm x z : Str) (C fI : Addr) : Prop where
  gC : mg nm = some (.ref C)
  cls : ∃ n q N bs bm sn sub ab col dd k0 k1 k2 k3 k5, K.lookup C = some (excClassObj n q C N bs bm true sn sub ab col dd k0 k1 k2 k3 k5 "ValueError.__new__") ∧ refsVE bm = true
  sa : findIn K (.ref C) "__setattr__" = some (some (.builtin "object.__setattr__"))
  ga : findIn K (.ref C) "__getattribute__" = some (some (.builtin "BaseException.__getattribute__"))
  gg : findIn K (.ref C) "__getattr__" = some none
  noN : findIn K (.ref C) x = some none
  iC : findIn K (.ref C) "__init__" = some (some (.ref fI))
  tC : typeIn K (.ref fI) = some (.type "function")
  kC : keepIn K (.ref C) = true
  exC : subIn K (.ref C) (.type "BaseException") = some true
  veC : subIn K (.ref C) (.type "ValueError") = some true
  tyC : typeIn K (.ref C) = some (.type "type")
  hdC : hasDictIn K C = true
  te : exmOne K (.ref C) (.ref C) = some true
  up : ks_superIn K C C "__init__" = some (some (.builtin "ValueError.__init__"))
  own : mroIn K C (.ref C) = some true
  op : nsIn K cStatics "thirdparty.any" = some none
  zS : mg "super" = none
  top : (P.main.scope.names.lookup ("super" : Str)).isSome = false
  fn : ∃ (oc : Value) (od : Option Addr) (q : Str) (doc pm : Value) (an : Option Addr) (cda cc : Addr) (ct : Value) (osl : Array (Option Value)) (p1 p2 a b c d e f g h i j k l m : Pos) (ccl : Value) (cdd : Option Addr) (vs : Array Value) (ccs : Array (Option Value)) (file : Str) (tf : Tok) (cl : Value) (cld : Option Addr) (csl : Array (Option Value)),
    K.lookup fI = some ⟨oc, od, .func (ksFn "__init__" q (xA x p1 p2) (xB x z a b c d e f g h i j k l m) (xS x) .none .none doc pm an (.ref cda) ct cc), osl⟩ ∧ codeIn K (.ref cda) q = true ∧
    K.lookup cda = some ⟨ccl, cdd, .fields vs, ccs⟩ ∧ vs[2]? = some (.str file tf) ∧ ((P.main.file : Str) == file) = true ∧ K.lookup cc = some ⟨cl, cld, .cell (some (.ref C)), csl⟩ ∧ EvSup x z a b c d e f g h
  short : z.length ≤ 40
theorem kept_but {K : Frag} {h h' : Heap} {x : Addr} (X : K.In h) (hx : K.lookup x = none) (k : ∀ b o, b ≠ x → h.get? b = some o → h'.get? b = some o) : K.In h' := fun y o z => by
  by_cases e : y = x
  · rw [e, hx] at z
    cases z
  · exact k y o e (X y o z)
structure XEnd (h h' : Heap) (x C dx t1 : Addr) (nx : Str) (v : Value) : Prop where
  keep : ∀ b o, b ≠ x → h.get? b = some o → h'.get? b = some o
  obj : h'.get? x = some { cls := .ref C, dict := some dx, data := .fields #[.ref t1, .none, .none, .none, .bool false, .none] }
  dbig : h.objs.size ≤ dx
  dne : dx ≠ x
  ns : h'.Ns1 dx (fun y => if y = nx then some v else none)
section
variable {prog : Program} {w : World} {A : Around} {E : Value → Shared → Prop} {R : Result → Shared → Prop} {s : Shared} {K : Frag} {mg : Str → Option Value} {nm fx z : Str} {C fI : Addr}
/-- the wrapper of ValueError.__init__, called -/
theorem wrap_call {h : Heap} {g : Array GenState} {d : Drawn} {t : Nat} {os : OsState} {n q : Str} {N : Addr} {bs bm : List Value} {hdct : Bool} {sn : List Str} {sub : List Value} {ab : Bool} {col : Option Bool} {dd : Option Addr} {k0 k1 k2 k3 k5 : Option Value} {u e t0 : Addr} {more : List Value} {Q : Value → Shared → Prop}
    (hC : h.get? C = some (excClassObj n q C N bs bm hdct sn sub ab col dd k0 k1 k2 k3 k5 "ValueError.__new__")) (he : h.get? e = some (excO C t0)) (hu : h.get? u = some (kxs_mw "ValueError.__init__" e)) (hz : more.length ≤ sizeLine)
    (hq : ∀ h' t1, (∀ b o, b ≠ e → h.get? b = some o → h'.get? b = some o) → h'.get? e = some (excO C t1) → Q .none ⟨h', g, d, t, os⟩) : wpAny (model prog w) A (call (.ref u) more) Q E ⟨h, g, d, t, os⟩ := by
  refine wpAny_call (codeAny_of_tree ?_)
  show wpAny _ A.in1 (callAny (.ref u) { pos := more, kw := [] }) _ _ _
  unfold callAny
  refine wpAny_bind (wpAny_load hu ?_)
  have c1 : (Value.type "method-wrapper" == Value.type "method" || Value.type "method-wrapper" == Value.type "builtin_function_or_method" || Value.type "method-wrapper" == Value.type "method-wrapper") = true := by decide
  simp only [kxs_mw, c1, if_true]
  refine KFB.if_so (by decide) (wpAny_bind (check_bound_init PySem.F.excBase_ValueError.toExcCallFacts hC he rfl ?_))
  refine wpAny_bind (wpAny_pure (wpAny_pure ⟨plainId_quiet PySem.F.excBase_ValueError.init.plain _, codeAny_builtin PySem.F.excBase_ValueError.initEntry ?_⟩))
  exact exc_init_tree (cls := .ref C) (t0 := t0) (dv := none) (c2 := .none) (c3 := .none) (b4 := .bool false) he hz fun h' k e' _ => hq h' _ k e'
theorem xi_init (T : XTxt prog K mg nm "at" z C fI) {e t0 : Addr} {n : Int} {tn : Tok} (X : K.In s.heap) (hg : s.heap.Ns mainGlobals mg) (hb : ∃ mb, s.heap.Ns builtinsNs mb ∧ ∀ y : Str, y ≠ "__name__" → mb y = bootBuiltins y) (hlim : s.heap.NoLimit)
    (hx : s.heap.get? e = some (excO C t0)) (hnx : K.lookup e = none) (hroom : A.depth < recursionLimit) (hn : n.natAbs.log2 < 1000)
    (hq : ∀ h' tk dx t1, XEnd s.heap h' e C dx t1 "at" (.int n tn) → R (.ok (.ret .none)) { s with heap := h', toks := tk }) :
    codeAny (model prog w) A (.call (.ref fI) ⟨[.ref e, .int n tn], []⟩) R s := by
  obtain ⟨oc, od, q, doc, pm, an, cda, cc, ct, osl, p1, p2, a, b, c, d, e1, f, g, h, i, j, k, l, m, ccl, cdd, vs, ccs, file, tf, cl, cld, csl, lf, hcd, lc, hvs, hfile, lcc, pl, hev⟩ := T.fn
  obtain ⟨cn, cq, N, bs, bm, sn, sub, ab, col, dd, k0, k1, k2, k3, k5, hC, hbm⟩ := T.cls
  obtain ⟨mb, hmb, hboot⟩ := hb
  have hcl : clsIn K C = some { name := cn, bases := bs, mro := .ref C :: bm, ns := N, qualname := cq, hasDict := true, slotNames := sn, subclasses := sub, abstract := ab, collection := col, hasDel := false } := by unfold clsIn; rw [hC] <;> rfl
  refine ks_codeAny_call_defAt (fd := ksFn "__init__" q (xA "at" p1 p2) (xB "at" z a b c d e1 f g h i j k l m) (xS "at") .none .none doc pm an (.ref cda) ct cc) (body := xB "at" z a b c d e1 f g h i j k l m) (binds := [("self", .ref e), ("at", .int n tn)]) hroom (X _ _ lf) rfl hlim (codeRec_of X hcd) rfl
    (BindsTo.of_eq (by first | rfl | with_unfolding_all rfl)) (show ∀ y ∈ (xS "at").names, y.2 ≠ .cell by decide) (fun y hy => ?_) (fun h0 hns hk => ?_)
  · rcases List.mem_cons.mp hy with e1 | hy
    · rw [e1]
      rfl
    · rw [List.mem_singleton.mp hy]
      rfl
  have X0 : K.In h0 := X.keeps hk
  have hx0 := hk _ _ hx
  have hCD : ∃ oD, h0.get? C = some oD ∧ oD.data = .cls { name := cn, bases := bs, mro := .ref C :: bm, ns := N, qualname := cq, hasDict := true, slotNames := sn, subclasses := sub, abstract := ab, collection := col, hasDel := false } := ⟨_, X0 _ _ hC, rfl⟩
  obtain ⟨oD, hD1, hD2⟩ := hCD
  have I0 : InstAt h0 e (excO C t0) C none := ⟨hx0, rfl, rfl, trivial⟩
  have hself : (fun y : Str => ([("self", Value.ref e), ("at", Value.int n tn)] : List (Str × Value)).reverse.lookup y) "self" = some (.ref e) := by first | rfl | decide
  have hat : (fun y : Str => ([("self", Value.ref e), ("at", Value.int n tn)] : List (Str × Value)).reverse.lookup y) "at" = some (.int n tn) := by first | rfl | decide
  show _root_.PySem.wpAt (model prog w) (A.deeper (ksEnv q (xS "at") s.heap.objs.size fI (.ref cda) cc)) (.func (xB "at" z a b c d e1 f g h i j k l m) (ksEnv q (xS "at") s.heap.objs.size fI (.ref cda) cc)) (execs (xB "at" z a b c d e1 f g h i j k l m) (ksEnv q (xS "at") s.heap.objs.size fI (.ref cda) cc)) _ _ _
  refine ks_wpAt_execs_cons ?_
  refine ks_wpAt_Expr_any ?_
  refine ks_wpAt_MethodCall ?_ (hev _)
  refine ks_wpAt_super_base (env := ksEnv q (xS "at") s.heap.objs.size fI (.ref cda) cc) rfl rfl (by decide) rfl (X0 _ _ lf) rfl rfl rfl (X0 _ _ lc) rfl hvs hfile T.top ?_
  refine ks_loadName_global rfl rfl (loadGlobal_builtin (env := ksEnv q (xS "at") s.heap.objs.size fI (.ref cda) cc) (hg.keeps hk) T.zS (hmb.keeps hk) ((hboot _ (by decide)).trans (by first | rfl | decide +kernel)) ⟨rfl, ?_⟩)
  refine wpAny_loadName_free rfl rfl rfl ⟨_, X0 _ _ lcc, rfl⟩ ?_
  refine wpAny_loadName_local rfl rfl hns hself ?_
  refine ks_wpAny_isType_cls hD1 hD2 ⟨rfl, ?_⟩
  refine ks_wpAny_call_super hD1 hD2 hx0 rfl (fun c ec => by cases ec) (looks_mroIn X0 T.own) (fun h1 es1 ks1 => ?_)
  have X1 : K.In h1 := X0.keeps ks1
  have k01 : ∀ b o, s.heap.get? b = some o → h1.get? b = some o := fun b o z => ks1 b o (hk b o z)
  have I1 : InstAt h1 e (excO C t0) C none := ⟨k01 _ _ hx, rfl, rfl, trivial⟩
  have hlong : alongIn K "__init__" ((((Value.ref C :: bm) : List Value).dropWhile (· != .ref C)).drop 1) = some (some (.builtin "ValueError.__init__")) := by
    have u := T.up
    unfold ks_superIn at u
    rw [hcl] at u
    exact u
  have hne : e ≠ C := fun z => by
    rw [z, X _ _ hC] at hx
    have := congrArg Obj.data (Option.some.inj hx)
    cases this
  refine kxs_getMethod kxs_ValueError es1 (looks_opaque X1 T.op) (l₀ := .ref C :: bm) ?_ rfl X1 hlong (I1.type.andThen (looks_subIn X1 T.veC)) hne (by decide) ?_
  · exact fun A' Q' E' s' ks' q' => wpAny_bind ((looks_clsIn X1 hcl) A' _ E' s' ks' (wpAny_pure q'))
  have hz1 : z.length ≤ sizeLine := Nat.le_trans T.short (by decide)
  have hz2 : (Str.empty ++ z).length ≤ sizeLine := by
    rw [Str.empty_append]
    exact hz1
  have hn2 : n.natAbs.log2 < 1920 := by omega
  have hz3 : (Str.empty ++ z ++ Str.ofString (toString n)).length ≤ sizeLine := by
    rw [Str.empty_append, Str.length_append]
    have q1 := int_text_len_1921 hn2
    have q2 := T.short
    have q3 : 1961 ≤ sizeLine := by decide
    omega
  refine kxs_callWith (i := "ValueError.__init__") (x := e) (by rfl) (evalArgs_plain (Calls.spliced_cons ?_))
  refine wpAny_JoinedStr (pos := g) ?_
  refine Calls.Constant_str (k := 0) (pos := d) ⟨z, _, rfl, hz2, ?_⟩
  refine wpAny_FormattedValue_plain (pos := f) ?_
  have k12 : ∀ b o, h1.get? b = some o → (h1.push (kxs_mw "ValueError.__init__" e)).get? b = some o := fun b o z => Heap.get?_push_of_some _ z
  have hmw : (h1.push (kxs_mw "ValueError.__init__" e)).get? h1.objs.size = some (kxs_mw "ValueError.__init__" e) := Heap.get?_push_size _ rfl
  have hns2 := (hns.keeps ks1).keeps k12
  have hx2 := k12 _ _ (k01 _ _ hx)
  have X2 : K.In (h1.push (kxs_mw "ValueError.__init__" e)) := X1.keeps k12
  generalize h1.push (kxs_mw "ValueError.__init__" e) = h2 at k12 hmw hns2 hx2 X2
  have k02 : ∀ b o, s.heap.get? b = some o → h2.get? b = some o := fun b o z => k12 b o (k01 b o z)
  refine wpAny_Name (pos := e1) (wpAny_loadName_local rfl rfl hns2 hat ?_) (by decide)
  refine wpAny_formatField_int hn2 ⟨Str.ofString (toString n), _, rfl, hz3, hz3, ?_⟩
  refine Calls.spliced_nil ⟨hmw, ?_⟩
  refine wrap_call (X2 _ _ hC) hx2 hmw (by show 1 ≤ sizeLine; decide) (fun h3 t1 k3 hx3 => ?_)
  have X3 : K.In h3 := kept_but X2 hnx k3
  have hLe : s.heap.objs.size ≠ e := fun z => by
    have := Heap.lt_size hx
    rw [z] at this
    exact Nat.lt_irrefl _ this
  obtain ⟨oL, esL, epL, eL, rL⟩ := hns2
  have hns3 : h3.Ns s.heap.objs.size (fun y : Str => ([("self", Value.ref e), ("at", Value.int n tn)] : List (Str × Value)).reverse.lookup y) := ⟨oL, esL, epL, k3 _ _ hLe eL, rL⟩
  refine ks_wpAt_execs_cons (wpAt_of_wpAny (plainObj_wpAny_Assign_Attribute ?_))
  refine wpAny_Name (wpAny_loadName_local rfl rfl hns3 hat ?_) (by decide)
  refine wpAny_Name (wpAny_loadName_local rfl rfl hns3 hself ?_) (by decide)
  refine set_plain X3 (ox := excO C t1) (od := none) ⟨hx3, rfl, rfl, trivial⟩ T.sa ?_
  refine exc_osa X3 hx3 hcl (show refsVE (.ref C :: bm) = true from hbm) rfl T.noN (fun h4 tk4 dx k4 dn dne hx4 hn4 => ?_)
  refine wpAt_of_wpAny (wpAny_execs_nil ?_)
  have z0 : s.heap.objs.size ≤ h3.objs.size := Nat.le_of_lt (Heap.lt_size (k3 _ _ hLe eL))
  exact hq h4 tk4 dx t1 ⟨fun b o hb z => k4 b o hb (k3 b o hb (k02 b o z)), hx4, Nat.le_trans z0 dn, dne, hn4⟩
/-- a made one -/
structure XMade (h h' : Heap) (e C d : Addr) (v : Value) : Prop where
  keep : ∀ b o, h.get? b = some o → h'.get? b = some o
  new : h.objs.size ≤ e
  obj : ∃ oe vs, h'.get? e = some oe ∧ oe.cls = .ref C ∧ oe.dict = some d ∧ oe.data = .fields vs ∧ vs[1]? = some .none
  dbig : h.objs.size ≤ d
  dne : d ≠ e
  ns : h'.Ns1 d (fun y => if y = "at" then some v else none)
theorem xi_made (T : XTxt prog K mg nm "at" z C fI) {n : Int} {tn : Tok} (X : K.In s.heap) (hg : s.heap.Ns mainGlobals mg) (hb : ∃ mb, s.heap.Ns builtinsNs mb ∧ ∀ y : Str, y ≠ "__name__" → mb y = bootBuiltins y) (hlim : s.heap.NoLimit) (hroom : A.depth + 1 < recursionLimit) (hn : n.natAbs.log2 < 1000)
    (hq : ∀ h' tk e d, XMade s.heap h' e C d (.int n tn) → R (.ok (.ret (.ref e))) { s with heap := h', toks := tk }) : codeAny (model prog w) A (.call (.ref C) ⟨[.int n tn], []⟩) R s := by
  obtain ⟨cn, cq, N, bs, bm, sn, sub, ab, col, dd, k0, k1, k2, k3, k5, hC, hbm⟩ := T.cls
  obtain ⟨hp, g, dr, tk, os⟩ := s
  obtain ⟨mb, hmb, hboot⟩ := hb
  have up : ∀ b o, hp.get? b = some o → ((hp.push (kdv_tup [.int n tn])).push (excO C hp.objs.size)).get? b = some o := fun b o q => Heap.get?_push_of_some _ (Heap.get?_push_of_some _ q)
  have here : ((hp.push (kdv_tup [.int n tn])).push (excO C hp.objs.size)).get? (hp.objs.size + 1) = some (excO C hp.objs.size) := by heap_get
  have noK : K.lookup (hp.objs.size + 1) = none := by
    cases q : K.lookup (hp.objs.size + 1) with
    | none => rfl
    | some o =>
      exact absurd (Nat.lt_of_succ_lt (Heap.lt_size (show hp.get? (hp.objs.size + 1) = some o from X _ _ q))) (Nat.lt_irrefl _)
  refine PySem.HandSPX.call_own PySem.F.excBase_ValueError (fun Y => PySem.HandSPX.refsVE_contains Y bm hbm) (X _ _ hC) (looks_findIn X T.iC) (fun self => bind_fn X self T.tC) (by show 1 ≤ sizeLine; decide) ?_
  refine xi_init (s := ⟨(hp.push (kdv_tup [.int n tn])).push (excO C hp.objs.size), g, dr, tk, os⟩) T (X.keeps up) (hg.keeps up) ⟨mb, hmb.keeps up, hboot⟩ (hlim.keeps up) here noK (show A.depth + 1 < recursionLimit from hroom) hn fun h' tk' dx t1 W => ?_
  have big : hp.objs.size + 1 + 1 ≤ dx := by
    have q := W.dbig
    first
      | (simpa only [Heap.size_push] using q)
      | exact q
  exact ⟨rfl, hq h' tk' (hp.objs.size + 1) dx ⟨fun b o q => W.keep b o (Nat.ne_of_lt (Nat.lt_succ_of_lt (Heap.lt_size q))) (up b o q), Nat.le_succ _, ⟨_, _, W.obj, rfl, rfl, rfl, rfl⟩, Nat.le_trans (Nat.le_trans (Nat.le_succ _) (Nat.le_succ _)) big, W.dne, W.ns⟩⟩
end
end Xi
end PySem

namespace Ky
open PySem PySem.Spec PyProof.Rows L2
theorem relO_at {v : V} {v' : Value} (r : RelV v v') (f : Str) : RelO (List.lookup f [(("at" : Str), v)]) (if f = "at" then some v' else none) := by
  by_cases e : f = "at"
  · rw [if_pos e, e, show List.lookup ("at" : Str) [(("at" : Str), v)] = some v from by simp [List.lookup]]
    exact r
  · have e2 : (f == ("at" : Str)) = false := by simpa using e
    rw [if_neg e, show List.lookup f [(("at" : Str), v)] = none from by simp [List.lookup, e2]]
    trivial
/-- X(e), e a number -/
def tMkX (C : Addr) (ta : TA) : L2.St → Hp → XK → Prop := fun σ H Q => ta σ H fun vs H1 => ∃ n : Int, vs = [.int n] ∧ n.natAbs.log2 < 1000 ∧ ∀ d, H1 d = none → Q (.ref C) (some d) (upd H1 d (.xd [(("at" : Str), .int n)]))
section
variable {X : Cx} {C fI : Addr} {nm z : Str}
theorem pmk_x {a : Expr} {ta : TA} {p pos : Pos} {k : Nat} (T : PySem.Xi.XTxt X.prog X.K X.mg nm "at" z C fI) (hr : Room k X.A) (ha : PA X [a] ta) (hg : Gl X nm) (hdb : (nm == ("__debug__" : Str)) = false)
    (he : starEach (a :: []) X.env = (false, eval a X.env) :: starEach [] X.env := by rfl) (hpl : (backTo pos (starEach [] X.env)).any (·.1) = false := by rfl) : PMk X (.Call (.Name nm p) [a] [] pos) (tMkX C ta) := by
  intro pins s σ H Q I h
  refine wpAny_Call_Name_kw (ld_glob I hg T.gC ?_ hdb)
  refine PySem.W.callWith_K (h₀ := X.base) I.ok.mod.kin T.kC (thn (ha.run pos pins s σ H _ I h) fun us s1 hh => ?_) he hpl
  obtain ⟨vs, H1, I1, r1, n, ev, hn, q1⟩ := hh
  subst ev
  refine ⟨I1.kIn, ?_⟩
  obtain ⟨u, rfl, ru⟩ := vals1 r1
  obtain ⟨tn, rfl⟩ := ru
  show wpAny _ _ (call (.ref C) [.int n tn]) _ _ _
  have hlim := I1.nolimit
  obtain ⟨mb, b1, b2⟩ := I1.mod.blt
  have hgl : s1.heap.Ns mainGlobals X.mg := I1.mod.glob.keeps I1.bk
  have hbl : s1.heap.Ns builtinsNs mb := b1.keeps I1.bk
  obtain ⟨hp, g, dr, tk, os⟩ := s1
  refine wpAny_call (PySem.Xi.xi_made T I1.kIn hgl ⟨mb, hbl, b2⟩ hlim (by have := hr.dp; omega) hn fun h' tk' e d M => ?_)
  show MkP X pins σ Q (.ref e) ⟨h', g, dr, tk', os⟩
  obtain ⟨oe, fv, hoe, hc, hd, hdat, h1⟩ := M.obj
  have hns := M.ns
  obtain ⟨G, g1, g2⟩ := restrict h' fun b => decide (b ≠ e)
  have gk : ∀ b, b ≠ e → G.get? b = h'.get? b := fun b hb => g1 b (decide_eq_true hb)
  have ge : G.get? e = none := g2 e (by simp)
  have old : ∀ b o, hp.get? b = some o → G.get? b = some o := fun b o q => (gk b (Nat.ne_of_lt (Nat.lt_of_lt_of_le (Heap.lt_size q) M.new))).trans (M.keep b o q)
  have ob : ObjOk X.prog X.w (upd H1 d (.xd [(("at" : Str), .int n)])) G d (.xd [(("at" : Str), .int n)]) := ⟨_, hns.at (fun o q => (gk d M.dne).trans q), fun f => relO_at (v := .int n) (show RelV (.int n) (.int n tn) from ⟨tn, rfl⟩) f⟩
  have J : Inv X pins σ (upd H1 d (.xd [(("at" : Str), .int n)])) ⟨G, g, dr, tk', os⟩ := I1.laid (t' := tk') old M.dbig ob
  refine ⟨e, oe, fv, ⟨G, g, dr, tk', os⟩, _, .ref C, some d, rfl, J, fun b o q => ?_, ge, hoe, ⟨hc, hd⟩, hdat, h1, ?_, rfl, I1.bare, raises_own T.exC T.tyC, q1 d (I1.hok.fresh M.dbig)⟩
  · by_cases hb : b = e
    · have q' : G.get? b = some o := q
      rw [hb, ge] at q'
      cases q'
    · exact (gk b hb).symm.trans q
  · rw [upd_ne (Ne.symm M.dne)]
    exact I1.hok.fresh M.new
end
end Ky

namespace Ky
open PySem PySem.Spec PyProof.Rows L2
/-! ### classes: methods, instances -/
structure Mf (P : Program) (w : World) (K : PySem.W.Frag) (mg : Str → Option Value) (base : Heap) (CX : CXT) (k : Nat) (C : Addr) (m : Str) (ps : List Str) (sp : Sp) : Prop where
  ex : ∃ f fd, FnOk P w K mg base CX k f fd ps sp ∧ Meth K C m f ∧ Binds K fd ps []
structure MkF (P : Program) (w : World) (K : PySem.W.Frag) (mg : Str → Option Value) (base : Heap) (CX : CXT) (k : Nat) (x : Str) (C : Addr) (ps : List Str) (sp : Sp) : Prop where
  g : mg x = some (.ref C)
  ex : ∃ f fd, FnOk P w K mg base CX k f fd ps sp ∧ Mk K C f ∧ Binds K fd ps []
section
variable {X : Cx} {CX : CXT} {k : Nat} {C : Addr} {ps : List Str} {sp : Sp} {E : XK} {x m : Str} {p pos apos : Pos} {e o : Expr} {es : List Expr} {ta : TE} {t : TA}
theorem pe_mf {pl : Sem Bool} (c : Cls X.K C) (D : Mf X.prog X.w X.K X.mg X.base CX k C m ps sp) (he : PE X o ta) (hr : Room k X.A) (hx : Passes CX X E) (ha : PA X (e :: es) t)
    (hst : starEach (e :: es) X.env = (false, eval e X.env) :: starEach es X.env := by rfl) (hpl : (backTo pos (starEach es X.env)).any (·.1) = false := by rfl)
    (ht : eval (.Call (.Attribute o m apos) (e :: es) [] pos) X.env = (do
      let ov ← eval o X.env
      standAt apos.atName
      let (f, first) ← holding [ov] (getMethod ov m pl)
      callWith pos f first (backTo pos (starEach (e :: es) X.env)) (backToKw pos (keywordEach [] X.env))) := by rfl) :
    PE X (.Call (.Attribute o m apos) (e :: es) [] pos) (tMeth C m sp [] E ta t) := by
  obtain ⟨f, fd, F, M, B⟩ := D.ex
  exact pe_meth he c M F hr B .nil hx ha hst hpl ht
theorem pe_mf0 {pl : Sem Bool} (c : Cls X.K C) (D : Mf X.prog X.w X.K X.mg X.base CX k C m ps sp) (he : PE X o ta) (hr : Room k X.A) (hx : Passes CX X E)
    (ht : eval (.Call (.Attribute o m apos) [] [] pos) X.env = (do
      let ov ← eval o X.env
      standAt apos.atName
      let (f, first) ← holding [ov] (getMethod ov m pl)
      callWith pos f first (backTo pos (starEach [] X.env)) (backToKw pos (keywordEach [] X.env))) := by rfl) :
    PE X (.Call (.Attribute o m apos) [] [] pos) (tMeth C m sp [] E ta tNil) := by
  obtain ⟨f, fd, F, M, B⟩ := D.ex
  exact pe_meth0 he c M F hr B .nil hx ht
theorem pe_mk (D : MkF X.prog X.w X.K X.mg X.base CX k x C ps sp) (hr : Room (k + 1) X.A) (hg : Gl X x) (hx : Passes CX X E) (ha : PA X (e :: es) t) (hdb : (x == ("__debug__" : Str)) = false := by decide)
    (he : starEach (e :: es) X.env = (false, eval e X.env) :: starEach es X.env := by rfl) (hpl : (backTo pos (starEach es X.env)).any (·.1) = false := by rfl) :
    PE X (.Call (.Name x p) (e :: es) [] pos) (tMake C sp [] E t) := by
  obtain ⟨f, fd, F, M, B⟩ := D.ex
  exact pe_make M F hr hg D.g B .nil hx ha hdb he hpl
/-- a def that raises, called by a def that raises -/
theorem pe_dfP (D : DfX X.prog X.w X.K X.mg X.base k x ps sp) (hr : Room k X.A) (hx : Passes (L2.CX X.prog X.w) X E) (hg : Gl X x) (ha : PA X (e :: es) t) (hdb : (x == ("__debug__" : Str)) = false := by decide)
    (he : starEach (e :: es) X.env = (false, eval e X.env) :: starEach es X.env := by rfl) (hpl : (backTo pos (starEach es X.env)).any (·.1) = false := by rfl) :
    PE X (.Call (.Name x p) (e :: es) [] pos) (tCall sp [] E t) := by
  obtain ⟨f, fd, F, hm, hk, hb⟩ := D.ex
  exact pe_call F hr hg hm hk hb .nil hx ha hdb he hpl
theorem pass_e (tk : Takes X (fun cls d _ H => E cls d H)) : Passes (L2.CX X.prog X.w) X E := passes_call tk fun _ _ _ _ h => h
end
/-! ### the steps -/
section
variable {K : PySem.W.Frag} {σ : L2.St} {H : Hp} {Q : VK} {D : Ends} {i : Nat} {a C dx : Addr} {fs : List (Str × V)} {v : V} {te : TE} {sp : Sp} {E : XK} {m f : Str} {tq : TA}
theorem w_fld (c : Cls K C) (n : NoAttr K C f) (hs : σ[i]? = some (some (.ref a))) (h : H a = some (.ins C dx fs)) (l : fs.lookup f = some v) (q : Q v H) : tFld K (tVar i) f σ H Q :=
  ⟨_, hs, a, C, dx, fs, v, rfl, h, c, n, l, q⟩
theorem w_sfld (c : Cls K C) (n : NoAttr K C f) (hs : σ[i]? = some (some (.ref a))) (q : te σ H fun y H2 => ∃ dx fs, H2 a = some (.ins C dx fs) ∧ fs.length < 1000 ∧ D.nx σ (upd H2 a (.ins C dx (putF f y fs))))
    (mono : ∀ Q Q' : VK, (∀ v H1, Q v H1 → Q' v H1) → te σ H Q → te σ H Q') : sFld K (tVar i) te f D σ H :=
  mono _ _ (fun y H2 ⟨dx, fs, h, l, q⟩ => ⟨_, hs, a, C, dx, fs, rfl, h, c, n, l, q⟩) q
theorem w_meth (hs : σ[i]? = some (some (.ref a))) (h : H a = some (.ins C dx fs)) (l : fs.lookup m = none) (q : tq σ H fun vs H2 => sp (.ref a :: (vs ++ [])) H2 Q E) : tMeth C m sp [] E (tVar i) tq σ H Q :=
  ⟨_, hs, a, dx, fs, rfl, h, l, q⟩
end
/-! ### texts -/
def repS (x : Str) (n : Int) : Str := if n < 1 then Str.empty else ⟨(List.replicate n.toNat x.cps).foldl (· ++ ·) #[]⟩
def rRepS : R2 := fun x y H Q => ∃ z n, x = .str z ∧ y = .int n ∧ z.length = 1 ∧ 0 ≤ n ∧ n < 1000 ∧ Q (.str (repS z n)) H
theorem op_repS {X : Cx} : OpR X (binaryOp .Mult) rRepS := by
  intro pins s σ H x y v u Q I rx ry h
  obtain ⟨z, n, rfl, rfl, hz, h0, h1, q⟩ := h
  obtain ⟨t, rfl⟩ := rx
  obtain ⟨t', rfl⟩ := ry
  have hr : (decide (n < -(2 ^ 63 : Int)) || decide (n ≥ 2 ^ 63)) = false := by
    rw [decide_eq_false (by omega), decide_eq_false (by omega)] <;> rfl
  refine PySem.P.mul_str hr (fun a b => ?_) (fun a b => ?_) ?_
  · rw [hz]
    have : (1 : Int) ≤ (2 ^ 63 - 1) / n := (Int.le_ediv_iff_mul_le (by omega)).mpr (by omega)
    omega
  · rw [hz, Nat.one_mul]
    exact PyProof.Rows.short24 (by omega)
  · have e1 : (z.length == 0) = false := by rw [hz] <;> rfl
    by_cases c0 : n < 1
    · rw [if_pos c0]
      refine ⟨by decide, .str _, H, I.tok _, ⟨_, rfl⟩, ?_⟩
      have q : Q (.str (repS z n)) H := q
      rwa [repS, if_pos c0] at q
    · have q : Q (.str (repS z n)) H := q
      rw [repS, if_neg c0] at q
      rw [if_neg c0]
      by_cases c1 : n = 1
      · rw [if_pos (by rw [c1] <;> rfl)]
        refine ⟨.str z, H, I, ⟨t, rfl⟩, ?_⟩
        rw [c1] at q
        have e : (⟨(List.replicate (1 : Int).toNat z.cps).foldl (· ++ ·) #[]⟩ : Str) = z := by
          show (⟨#[] ++ z.cps⟩ : Str) = z
          rw [Array.empty_append]
        rwa [e] at q
      · rw [if_neg (by rw [beq_eq_false_iff_ne.mpr c1, e1] <;> decide)]
        exact ⟨PySem.fits_reps (PyProof.Rows.short24 (by rw [hz, Nat.one_mul]; omega)), .str _, H, I.tok _, ⟨_, rfl⟩, q⟩
end Ky

namespace Ky
open PySem PySem.Spec PyProof.Rows L2
/-! ### a, *b = l, l a list or a tuple of at least one -/
def gStarL (K : PySem.W.Frag) (t : TGs) : TG := fun v σ H Q => ∃ a x xs, v = .ref a ∧ SqL K H a (x :: xs) ∧ ∀ l, H l = none → t [x, .ref l] σ (upd H l (.lst xs)) Q
section
variable {X : Cx} {a b : Expr} {k : Nat} {p pos : Pos} {t : TGs}
/-- the walk of a tuple's iterator that stands behind its first item -/
theorem walks_restL {P : Program} {w : World} {A : Around} (hh : A.handled = none) {I ax : Addr} (hne : ax ≠ I) {x : Value} {items : Array Value} {its : List Value} (hi : items.toList = x :: its) :
    Walks P w A I [I, ax] [I] its.length (fun i v => its[i]? = some v) (fun i h => h.IsListIter I ax (i + 1) ∧ h.IsList ax items) := by
  have W := Walks.list (prog := P) (w := w) hh I ax hne items
  have hz : items.size = its.length + 1 := by
    have z := congrArg List.length hi
    rw [Array.length_toList] at z
    exact z
  have hg : ∀ i : Nat, items[i + 1]? = its[i]? := fun i => by rw [← Array.getElem?_toList, hi, List.getElem?_cons_succ]
  exact ⟨W.sub, fun i h h' st q => W.frame (i + 1) h h' st q, fun i s Q E h st q => W.item (i + 1) s Q E (by omega) st fun v h' tk hv st' kk => q v h' tk (by rw [← hg]; exact hv) st' kk,
    fun s Q E st q => W.done s Q E (by rw [hz]; exact st) q, fun i s Q E st q => W.self (i + 1) s Q E st q⟩
theorem pg_starL {K : PySem.W.Frag} (hK : X.K = K) (hc : X.calm = true) (h : PGs X [a, b] t) (hn : assignEach [a, .Starred b p] X.env = [(false, assign a X.env), (true, assign b X.env)] := by rfl) (hm : (assignEach [a, b] X.env).map (·.2) = [assign a X.env, assign b X.env] := by rfl) :
    PG X (.Tuple [a, .Starred b p] k pos) (gStarL K t) := by
  subst hK
  refine ⟨fun pins s σ H v u Q I r hw => ?_⟩
  obtain ⟨ax, x, xs, rfl, hq, q⟩ := hw
  cases r
  obtain ⟨its, rv, hp, hz⟩ := I.list hq
  have hd := I.ok.hd hc
  obtain ⟨y, ys, rfl⟩ : ∃ y ys, its = y :: ys := by
    cases rv with
    | cons r rr => exact ⟨_, _, rfl⟩
  have ry : RelV x y ∧ Vals xs ys := by
    cases rv with
    | cons r rr => exact ⟨r, rr⟩
  have hlt : ax < s.heap.objs.size := hp.lt
  have ht : s.heap.IsList ax (y :: ys).toArray := hp.isList
  have hyl : ys.length ≤ sizeLine := by
    have : (y :: ys).length ≤ sizeLine := by rw [← rv.length]; exact hz
    rw [List.length_cons] at this
    omega
  rw [assign_Tuple, hn]
  refine wpAny_bind (wpAny_standAt (wpAny_bind (m := holding [Value.ref ax] (unpackItems (Value.ref ax) 2 (some 1))) (wpAny_holding ?_)))
  unfold unpackItems notIterableAtAll
  refine wpAny_bind (wpAny_bind (wpAny_specialOf ht.typeIs slot_list_iter.lookup (wpAny_pure ?_)))
  simp only [Bool.false_eq_true, if_false]
  refine wpAny_bind (wpAny_holding (wpAny_pyIter_list ht ?_))
  refine wpAny_bind (wpAny_holding (PySem.W.kun_draw (Nat.ne_of_lt hlt) 1 0 _ _ ⟨_, Heap.get?_push_size _ rfl, rfl, rfl⟩ (ht.push _) (by simp) fun h1 i1 sb => ?_))
  have ed : List.take 1 (List.drop 0 (y :: ys).toArray.toList) = [y] := rfl
  rw [ed, if_neg (by simp)]
  have k1 : ∀ b o, s.heap.get? b = some o → h1.get? b = some o := fun b o e => sb.extBut b o (Nat.ne_of_lt (Heap.lt_size e)) (Heap.get?_push_of_some _ e)
  have hs1 : h1.objs.size = s.heap.objs.size + 1 := by rw [sb.1, sz1]
  have t1 : h1.IsList ax (y :: ys).toArray := by
    obtain ⟨o, ho, r⟩ := ht
    exact ⟨o, k1 _ _ ho, r⟩
  refine wpAny_bind (wpAny_holding (wpAny_collect_iter (T := "list_iterator") (.inr (.inr (.inl rfl))) (walks_restL (A := X.A.in1) hd (Nat.ne_of_lt hlt) (items := (y :: ys).toArray) (x := y) rfl).toS (fun i s2 st => st.1.typeIs) ⟨i1, t1⟩ (fun b hb => ?_) List.mem_cons_self (fun s2 acc mv ha => ?_) hyl))
  · rw [hs1]
    rcases List.mem_cons.mp hb with e | e
    · rw [e]; exact Nat.lt_succ_self _
    · rw [List.mem_singleton.mp e]; exact Nat.lt_succ_of_lt hlt
  have ea : acc.toList = ys := items_out ha fun j v e => e
  have k2 : ∀ b o, s.heap.get? b = some o → s2.heap.get? b = some o := fun b o e => mv.heap b o (fun z => by
    rw [List.mem_singleton.mp z] at e
    exact absurd (Heap.lt_size e) (Nat.lt_irrefl _)) (k1 b o e)
  rw [ea, if_neg (by omega)]
  refine wpAny_bind (wpAny_newList ?_ (by rw [List.length_take]; omega))
  have et : List.take (ys.length - (2 - 1 - 1)) ys = ys := List.take_of_length_le (by omega)
  have edr : List.drop (ys.length - (2 - 1 - 1)) ys = [] := List.drop_of_length_le (by omega)
  rw [et, edr]
  refine wpAny_pure ?_
  obtain ⟨h2, g2, d2, tk2, o2⟩ := s2
  cases (mv.gens : g2 = s.gens)
  cases (mv.drawn : d2 = s.drawn)
  cases (mv.os : o2 = s.os)
  have hl : H h2.objs.size = none := (I.hok.kept k2).fresh (Nat.le_refl _)
  have hg : s.heap.get? h2.objs.size = none := by
    cases e : s.heap.get? h2.objs.size with
    | none => rfl
    | some o => exact absurd (Heap.lt_size (k2 _ _ e)) (Nat.lt_irrefl _)
  have hxl : xs.length ≤ sizeLine := by rw [ry.2.length]; exact hyl
  have J : Inv X pins σ (upd H h2.objs.size (.lst xs)) { s with heap := h2.push (seqObj "list" ys.toArray 0), toks := tk2 } :=
    I.laidN (t' := tk2) (fun b o e => Heap.get?_push_of_some _ (k2 b o e)) hg hl ⟨hxl, ys, 0, ry.2, Heap.get?_push_size _ rfl⟩
  have z := h.run pins _ σ _ _ [y, .ref h2.objs.size] Q J (.cons ry.1 (.cons (show RelV (.ref h2.objs.size) (.ref h2.objs.size) from rfl) .nil)) (q _ hl)
  rw [hm] at z
  exact z
/-- either -/
def gStarE (K : PySem.W.Frag) (t : TGs) : TG := fun v σ H Q => gStar K t v σ H Q ∨ gStarL K t v σ H Q
theorem pg_starE {K : PySem.W.Frag} (hK : X.K = K) (hc : X.calm = true) (h : PGs X [a, b] t) (hn : assignEach [a, .Starred b p] X.env = [(false, assign a X.env), (true, assign b X.env)] := by rfl) (hm : (assignEach [a, b] X.env).map (·.2) = [assign a X.env, assign b X.env] := by rfl) :
    PG X (.Tuple [a, .Starred b p] k pos) (gStarE K t) := by
  refine ⟨fun pins s σ H v u Q I r hw => ?_⟩
  rcases hw with hw | hw
  · exact (pg_star hK hc h hn hm).run pins s σ H v u Q I r hw
  · exact (pg_starL hK hc h hn hm).run pins s σ H v u Q I r hw
end
end Ky

namespace Ky
open PySem PySem.Spec PyProof.Rows L2 TL
/-! ### rounding -/
def rndL (q m : Nat) : List Nat := if m = 0 then List.replicate (m + 1 - (numL q).length) 48 ++ numL q else
  (List.replicate (m + 1 - (numL q).length) 48 ++ numL q).take ((List.replicate (m + 1 - (numL q).length) 48 ++ numL q).length - m) ++ 46 ::
  (List.replicate (m + 1 - (numL q).length) 48 ++ numL q).drop ((List.replicate (m + 1 - (numL q).length) 48 ++ numL q).length - m)
theorem sIx_neg {n d m : Nat} (h0 : 0 < m) (h : m ≤ n) : HT.sIx n d (some (-(m : Int))) = n - m := by
  unfold HT.sIx
  show (if -(m : Int) < 0 then (-(m : Int) + (n : Int)).toNat else _) = n - m
  rw [if_pos (by omega)]
  omega
theorem sIx_sub {n d m : Nat} (h : m ≤ n) : HT.sIx n d (some ((n : Int) - (m : Int))) = n - m := by
  unfold HT.sIx
  show (if (n : Int) - (m : Int) < 0 then _ else min ((n : Int) - (m : Int)).toNat n) = n - m
  rw [if_neg (by omega)]
  omega
theorem cut_left {z : Str} {o : Option Int} {k : Nat} (h : HT.sIx (tl z).length (tl z).length o = k) : tl (cutS z none o) = (tl z).take k := by
  rw [tl_cut, h]
  rfl
theorem cut_right {z : Str} {o : Option Int} {k : Nat} (h : HT.sIx (tl z).length 0 o = k) : tl (cutS z o none) = (tl z).drop k := by
  rw [tl_cut, h]
  show List.take ((tl z).length - k) _ = _
  rw [List.take_of_length_le]
  rw [List.length_drop]
  exact Nat.le_refl _
/-! ### reading -/
theorem digitsVal_lt : ∀ (l : List Nat) (a b : Nat), NumText.AllDigits l → a < b → l.foldl (fun acc c => acc * 10 + (c - 48)) a < b * 10 ^ l.length
  | [], a, b, _, h => by simpa using h
  | c :: r, a, b, hd, h => by
    have hc := hd c (.head _)
    have := digitsVal_lt r (a * 10 + (c - 48)) (b * 10) (fun x hx => hd x (.tail _ hx)) (by omega)
    rw [List.foldl_cons, List.length_cons, Nat.pow_succ, Nat.mul_comm (10 ^ r.length) 10, ← Nat.mul_assoc]
    exact this
theorem dval_lt {l : List Nat} {k : Nat} (h : NumText.AllDigits l) (hl : l.length ≤ k) : NumText.digitsVal l < 10 ^ k := by
  have := digitsVal_lt l 0 1 h (by decide)
  rw [Nat.one_mul] at this
  exact Nat.lt_of_lt_of_le this (Nat.pow_le_pow_right (by decide) hl)
theorem dval_zeros (k : Nat) (l : List Nat) : NumText.digitsVal (List.replicate k 48 ++ l) = NumText.digitsVal l := by
  induction k with
  | zero => rfl
  | succ k ih =>
    rw [List.replicate_succ, List.cons_append]
    exact ih
theorem shL_free {a : Int × Int} {s : Nat} (h : s < 48 ∨ 57 < s) (h2 : s ≠ 45) (h3 : s ≠ 47) : s ∉ shL a := by
  unfold shL
  split
  · exact numI_free h h2
  · intro hm
    rcases List.mem_append.mp hm with z | z
    · exact numI_free h h2 z
    · rcases List.mem_cons.mp z with z | z
      · exact h3 z
      · exact numI_free h h2 z
theorem no_slash (i : Int) : (47 : Nat) ∉ numI i := numI_free (by decide) (by decide)
theorem last_split {c : Nat} : ∀ {x x' y y' : List Nat}, x ++ c :: y = x' ++ c :: y' → c ∉ y → c ∉ y' → y = y' := by
  intro x x' y y' h hy hy'
  have h2 := congrArg List.reverse h
  simp only [List.reverse_append, List.reverse_cons, List.append_assoc, List.singleton_append] at h2
  have key : ∀ (a b s t : List Nat), c ∉ a → c ∉ b → a ++ c :: s = b ++ c :: t → a = b := by
    intro a
    induction a with
    | nil =>
      intro b s t _ hb e
      cases b with
      | nil => rfl
      | cons z r =>
        rw [List.nil_append, List.cons_append] at e
        injection e with e1 _
        exact absurd (e1 ▸ List.mem_cons_self) hb
    | cons z r ih =>
      intro b s t ha hb e
      cases b with
      | nil =>
        rw [List.nil_append, List.cons_append] at e
        injection e with e1 _
        exact absurd (e1 ▸ List.mem_cons_self) ha
      | cons z' r' =>
        rw [List.cons_append, List.cons_append] at e
        injection e with e1 e2
        rw [e1, ih r' s t (fun h => ha (.tail _ h)) (fun h => hb (.tail _ h)) e2]
  have := key _ _ _ _ (by simpa using hy) (by simpa using hy') h2
  simpa using congrArg List.reverse this
theorem rdF_no1 {l : List Nat} (h : rdN (unsign (partL l).1) = none) : rdF l = none := by
  unfold rdF
  rw [h]
theorem rdF_no2 {l : List Nat} (h : (if (partL l).2.1 = true then rdN (partL l).2.2 else some 1) = none) : rdF l = none := by
  unfold rdF
  rw [h]
  cases rdN (unsign (partL l).1) <;> rfl
theorem rdF_yes {l : List Nat} {n d : Nat} (h1 : rdN (unsign (partL l).1) = some n) (h2 : (if (partL l).2.1 = true then rdN (partL l).2.2 else some 1) = some d) :
    rdF l = if d = 0 then none else if shL (frc (if (partL l).1.head? = some 45 then -(n : Int) else (n : Int)) (d : Int)) = l then some (frc (if (partL l).1.head? = some 45 then -(n : Int) else (n : Int)) (d : Int)) else none := by
  unfold rdF
  rw [h1, h2]
theorem rdF_some {l : List Nat} {a : Int × Int} (h : rdF l = some a) : Red a ∧ shL a = l := by
  unfold rdF at h
  split at h
  · rename_i n d _ _
    split at h
    · cases h
    · rename_i hd
      have hr : Red (frc (if (partL l).1.head? = some 45 then -(n : Int) else (n : Int)) (d : Int)) := frc_red (by omega)
      generalize frc (if (partL l).1.head? = some 45 then -(n : Int) else (n : Int)) (d : Int) = g at h hr
      split at h
      · rename_i hs
        have e := Option.some.inj h
        rw [← e]
        exact ⟨hr, hs⟩
      · cases h
  · cases h
theorem rdF_none {l : List Nat} (h : ∀ a, Red a → shL a ≠ l) : rdF l = none := by
  cases e : rdF l with
  | none => rfl
  | some a =>
    obtain ⟨h1, h2⟩ := rdF_some e
    exact absurd h2 (h a h1)
theorem numI_pos {i : Int} (h : 0 < i) : ∃ c r, numI i = c :: r ∧ 49 ≤ c := by
  unfold numI
  rw [if_neg (by omega)]
  obtain ⟨c, r, e, h1, _⟩ := numL_head (n := i.natAbs) (by omega)
  exact ⟨c, r, e, h1⟩
theorem bad_free {l : List Nat} {s : Nat} (hs : s ∈ l) (h : s < 48 ∨ 57 < s) (h2 : s ≠ 45) (h3 : s ≠ 47) : rdF l = none :=
  rdF_none fun a _ e => shL_free h h2 h3 (e ▸ hs)
theorem bad_zero_below (a : Int × Int) : rdF (shL a ++ [47, 48]) = none := rdF_none fun b hb e => by
  unfold shL at e
  split at e
  · have : (47 : Nat) ∈ numI b.1 := by
      rw [e]
      exact List.mem_append_right _ (.head _)
    exact no_slash _ this
  · have e2 := last_split (c := 47) (y' := [48]) e (no_slash _) (by decide)
    obtain ⟨c, r, e3, h3⟩ := numI_pos hb.1
    rw [e3] at e2
    injection e2 with e4 _
    omega
theorem shL_ne (a : Int × Int) : shL a ≠ [] := by
  unfold shL
  split
  · exact numI_ne _
  · intro h
    have := congrArg List.length h
    simp at this
theorem bad_zero_ahead (a : Int × Int) : rdF (48 :: shL a) = none := rdF_none fun b hb e => by
  have hh : (shL b).head? = some 48 := by rw [e]; rfl
  have hd : ∀ t : List Nat, (numI b.1 ++ t).head? = some 48 → b.1 = 0 := fun t ht => by
    rcases Int.lt_trichotomy b.1 0 with h | h | h
    · unfold numI at ht
      rw [if_pos h] at ht
      cases ht
    · exact h
    · obtain ⟨c, r, e3, h3⟩ := numI_pos h
      rw [e3] at ht
      have : c = 48 := Option.some.inj ht
      omega
  have b0 : b.1 = 0 := by
    unfold shL at hh
    split at hh
    · exact hd [] (by rw [List.append_nil]; exact hh)
    · exact hd _ hh
  have b1 : b.2 = 1 := by
    obtain ⟨p, g⟩ := hb
    rw [b0] at g
    have : Nat.gcd (0 : Int).natAbs b.2.natAbs = b.2.natAbs := Nat.gcd_zero_left _
    omega
  unfold shL at e
  rw [if_pos b1, b0] at e
  have : numI 0 = [48] := numL_zero
  rw [this] at e
  injection e with _ e2
  exact shL_ne a (by unfold shL; exact e2.symm)
theorem unsign_numI (i : Int) : unsign (numI i) = numL i.natAbs := by
  unfold numI
  split
  · rfl
  · unfold unsign
    cases h : numL i.natAbs with
    | nil => exact absurd h (numL_ne _)
    | cons a r =>
      have := numL_digits i.natAbs a (by rw [h]; exact .head _)
      show (if a = 45 then r else a :: r) = a :: r
      rw [if_neg (by omega)]
theorem sign_numI (i : Int) : (if (numI i).head? = some 45 then -((i.natAbs : Nat) : Int) else ((i.natAbs : Nat) : Int)) = i := by
  unfold numI
  split
  · rename_i h
    rw [if_pos (show (45 :: numL i.natAbs).head? = some 45 from rfl)]
    omega
  · rename_i h
    have : ¬ (numL i.natAbs).head? = some 45 := by
      cases h : numL i.natAbs with
      | nil => exact absurd h (numL_ne _)
      | cons a r =>
        have := numL_digits i.natAbs a (by rw [h]; exact .head _)
        intro e
        have : a = 45 := Option.some.inj e
        omega
    rw [if_neg this]
    omega
theorem partL_no {l : List Nat} (h : 47 ∉ l) : partL l = (l, false, []) := by
  unfold partL
  rw [par_none1 h]
theorem partL_yes {l r : List Nat} (h : 47 ∉ l) : partL (l ++ 47 :: r) = (l, true, r) := by
  unfold partL
  have := par_part1 (s := 47) (S := []) (p := l) (rest := r) (acc := []) h
  rw [show l ++ 47 :: r = l ++ ([47] ++ r) from rfl, this]
  rfl
theorem rdF_shL {a : Int × Int} (h : Red a) : rdF (shL a) = some a := by
  have hs := frc_self h
  have p := h.1
  have n2 : ((a.2.natAbs : Nat) : Int) = a.2 := by omega
  by_cases e : a.2 = 1
  · have e1 : shL a = numI a.1 := by
      unfold shL
      rw [if_pos e]
    have e2 : partL (shL a) = (numI a.1, false, []) := by
      rw [e1]
      exact partL_no (no_slash _)
    unfold rdF
    rw [e2]
    show (match rdN (unsign (numI a.1)), (if false = true then rdN [] else some 1) with | some n, some d => _ | _, _ => none) = some a
    rw [unsign_numI, rdN_numL]
    show (if (1 : Nat) = 0 then none else if shL (frc (if (numI a.1).head? = some 45 then -((a.1.natAbs : Nat) : Int) else ((a.1.natAbs : Nat) : Int)) ((1 : Nat) : Int)) = shL a then some (frc (if (numI a.1).head? = some 45 then -((a.1.natAbs : Nat) : Int) else ((a.1.natAbs : Nat) : Int)) ((1 : Nat) : Int)) else none) = some a
    rw [sign_numI, if_neg (by decide), show ((1 : Nat) : Int) = a.2 by omega, hs, if_pos rfl]
  · have e1 : shL a = numI a.1 ++ 47 :: numI a.2 := by
      unfold shL
      rw [if_neg e]
    have e2 : partL (shL a) = (numI a.1, true, numI a.2) := by
      rw [e1]
      exact partL_yes (no_slash _)
    have e3 : numI a.2 = numL a.2.natAbs := by
      unfold numI
      rw [if_neg (by omega)]
    unfold rdF
    rw [e2]
    show (match rdN (unsign (numI a.1)), (if true = true then rdN (numI a.2) else some 1) with | some n, some d => _ | _, _ => none) = some a
    rw [unsign_numI, rdN_numL, e3, if_pos rfl, rdN_numL]
    show (if a.2.natAbs = 0 then none else if shL (frc (if (numI a.1).head? = some 45 then -((a.1.natAbs : Nat) : Int) else ((a.1.natAbs : Nat) : Int)) ((a.2.natAbs : Nat) : Int)) = shL a then some (frc (if (numI a.1).head? = some 45 then -((a.1.natAbs : Nat) : Int) else ((a.1.natAbs : Nat) : Int)) ((a.2.natAbs : Nat) : Int)) else none) = some a
    rw [sign_numI, if_neg (by omega), n2, hs, if_pos rfl]
theorem bad_fixed : ∀ l ∈ [[45, 48], [], [49, 47, 49], [50, 47, 52], [49, 47, 45, 50], [49, 47, 48], [120], [45], [51, 47]], rdF l = none := by decide +kernel
end Ky

namespace Ky
open PySem PySem.Spec PyProof.Rows L2
local macro_rules | `(tactic| walk_at "rd") => `(tactic| repeat (first
  | with_reducible refine w_for1 ?_
  | with_reducible refine w_for2 ?_
  | with_reducible refine w_forL ?_
  | with_reducible refine w_forT ?_
  | with_reducible refine w_lc1 ?_
  | with_reducible refine w_lcL ?_
  | with_reducible refine w_lcT ?_
  | with_reducible refine w_dcL ?_
  | with_reducible refine w_dcT ?_
  | with_reducible refine w_seq ?_
  | with_reducible refine w_asg ?_
  | with_reducible refine w_ret ?_
  | with_reducible refine w_drop ?_
  | with_reducible refine w_ifs ?_
  | ((with_reducible refine' w_var ?hh ?_); (case hh => exact rfl))
  | with_reducible refine w_c ?_
  | with_reducible refine w_op ?_
  | with_reducible refine w_un ?_
  | with_reducible refine w_I0 ?_
  | with_reducible refine w_U ?_
  | with_reducible refine w_nil ?_
  | with_reducible refine w_cons ?_
  | with_reducible refine w_call ?_
  | with_reducible refine w_cb ?_
  | with_reducible refine w_test ?_
  | with_reducible refine w_B ?_
  | with_reducible refine w_bl ?_
  | with_reducible refine w_and ?_
  | with_reducible refine w_or ?_
  | with_reducible refine w_not ?_
  | with_reducible refine w_ife ?_
  | with_reducible refine w_gRd ?_
  | with_reducible refine w_andV ?_
  | with_reducible refine w_orV ?_
  | with_reducible refine w_notV ?_
  | with_reducible refine w_chain ?_
  | with_reducible refine w_din ?_
  | with_reducible refine w_isi_ii ?_
  | with_reducible refine w_isi_bi ?_
  | with_reducible refine w_isi_bb ?_
  | with_reducible refine w_isi_bt ?_
  | with_reducible refine w_isi_si ?_
  | with_reducible refine w_isi_nt ?_
  | with_reducible refine w_isi_ib ?_
  | with_reducible refine w_isi_it ?_
  | with_reducible refine w_isi_st ?_
  | ((with_reducible refine w_isi_tt ?h1 ?_); (case h1 => first | assumption | exact upd_same))
  | with_reducible refine if_t rfl ?_
  | with_reducible refine if_f rfl ?_
  | with_reducible refine w_tup ?_
  | with_reducible refine w_lst ?_
  | with_reducible refine w_next ?_
  | with_reducible refine w_bm ?_
  | with_reducible refine w_sl ?_
  | with_reducible refine w_part ?_
  | with_reducible refine w_nop ?_
  | with_reducible refine w_isI ?_
  | with_reducible refine w_yes ?_
  | with_reducible refine w_gn ?_
  | with_reducible refine w_gsub ?_
  | ((with_reducible refine' w_setL ?h1 ?h2 ?_); (case h1 => first | assumption | exact upd_same); (case h2 => exact rfl))
  | with_reducible refine w_asgG ?_
  | with_reducible refine w_m1 ?_
  | with_reducible refine w_isS ?_
  | with_reducible refine w_tyS ?_
  | ((with_reducible refine' w_tyL ?h1 ?_); (case h1 => first | assumption | exact upd_same))
  | ((with_reducible refine' w_ixT ?h1 ?h2 ?_); (case h1 => first | assumption | exact upd_same); (case h2 => exact rfl))
  | ((with_reducible refine' w_ixL ?h1 ?h2 ?_); (case h1 => first | assumption | exact upd_same); (case h2 => exact rfl))
  | ((with_reducible refine w_eq ?h1 ?_); (case h1 => exact rfl))
  | ((with_reducible refine w_ne ?h1 ?_); (case h1 => exact rfl))
  | dsimp only [List.set_cons_zero, List.set_cons_succ, List.append_nil, List.cons_append, List.nil_append, cxOf]))

open TL
structure Tx (K : PySem.W.Frag) (mg : Str → Option Value) (uG uP uD : Value) : Prop where
  z_isinstance : mg "isinstance" = none
  z_int : mg "int" = none
  z_bool : mg "bool" = none
  z_tuple : mg "tuple" = none
  z_str : mg "str" = none
  z_abs : mg "abs" = none
  z_all : mg "all" = none
  z_len : mg "len" = none
  z_list : mg "list" = none
  z_range : mg "range" = none
  z_max : mg "max" = none
  z_divmod : mg "divmod" = none
  g_GREATEST_VARIABLE : mg "_GREATEST_VARIABLE" = some uG
  v_GREATEST_VARIABLE : RelV (.int 999) uG
  g_PART : mg "_PART" = some uP
  v_PART : RelV (.int 1000000000000000000000000000000000000000000000000000000000000) uP
  g_PART_DIGITS : mg "_PART_DIGITS" = some uD
  v_PART_DIGITS : RelV (.int 60) uD
/-! ### the words -/
inductive Wd where
  | var | yes | no | not | and | or | xor | iff | implies | ite | atmost | nor
  deriving DecidableEq
def Wd.txt : Wd → Str
  | .var => Str.ofString "var"
  | .yes => Str.ofString "yes"
  | .no => Str.ofString "no"
  | .not => Str.ofString "not"
  | .and => Str.ofString "and"
  | .or => Str.ofString "or"
  | .xor => Str.ofString "xor"
  | .iff => Str.ofString "iff"
  | .implies => Str.ofString "implies"
  | .ite => Str.ofString "if"
  | .atmost => Str.ofString "atmost"
  | .nor => Str.ofString "nor"
def Wd.isW : Wd → Bool
  | .var => false
  | .nor => false
  | _ => true
/-- how many parts a word wants: none of no word, some none of any many -/
def Wd.want : Wd → Option (Option Nat)
  | .yes => some (some 0)
  | .no => some (some 0)
  | .not => some (some 1)
  | .and => some none
  | .or => some none
  | .xor => some (some 2)
  | .iff => some (some 2)
  | .implies => some (some 2)
  | .ite => some (some 3)
  | .atmost => some none
  | _ => none
def wantV : Option Nat → V
  | none => .non
  | some n => .int n
/-- other texts that are asked for -/
def nonW : List Str := [Str.ofString "x0", Str.ofString "x1000", Str.ofString "x", Str.ofString "x01", Str.ofString ")", Str.ofString ",", Str.ofString "", Str.ofString ";", Str.ofString "X1"]
def Wd.cs : Wd → List Nat
  | .var => [118, 97, 114]
  | .yes => [121, 101, 115]
  | .no => [110, 111]
  | .not => [110, 111, 116]
  | .and => [97, 110, 100]
  | .or => [111, 114]
  | .xor => [120, 111, 114]
  | .iff => [105, 102, 102]
  | .implies => [105, 109, 112, 108, 105, 101, 115]
  | .ite => [105, 102]
  | .atmost => [97, 116, 109, 111, 115, 116]
  | .nor => [110, 111, 114]
theorem tl_wd (z : Wd) : tl z.txt = z.cs := by
  cases z <;> (show tl (Str.ofString _) = _; rw [tl_ofString]; rfl)
def wds : List Wd := [.var, .yes, .no, .not, .and, .or, .xor, .iff, .implies, .ite, .atmost, .nor]
def wdL (l : List Nat) : Option Wd := wds.find? fun z => z.cs == l
theorem wdL_cs (z : Wd) : wdL z.cs = some z := by cases z <;> decide
theorem wdL_eq {l : List Nat} {z : Wd} (h : wdL l = some z) : l = z.cs := by
  have e := List.find?_some (p := fun z : Wd => z.cs == l) h
  exact (beq_iff_eq.mp e).symm
def nonL : List (List Nat) := [[120, 48], [120, 49, 48, 48, 48], [120], [120, 48, 49], [41], [44], [], [59], [88, 49]]
theorem nonL_txt {l : List Nat} (h : l ∈ nonL) : ∃ z ∈ nonW, tl z = l := by
  have e : ∀ s : String, tl (Str.ofString s) = s.toList.map Char.toNat := fun s => tl_ofString s
  simp only [nonL, List.mem_cons, List.not_mem_nil, or_false] at h
  rcases h with rfl | rfl | rfl | rfl | rfl | rfl | rfl | rfl | rfl
  · exact ⟨Str.ofString "x0", by simp [nonW], by rw [e] <;> rfl⟩
  · exact ⟨Str.ofString "x1000", by simp [nonW], by rw [e] <;> rfl⟩
  · exact ⟨Str.ofString "x", by simp [nonW], by rw [e] <;> rfl⟩
  · exact ⟨Str.ofString "x01", by simp [nonW], by rw [e] <;> rfl⟩
  · exact ⟨Str.ofString ")", by simp [nonW], by rw [e] <;> rfl⟩
  · exact ⟨Str.ofString ",", by simp [nonW], by rw [e] <;> rfl⟩
  · exact ⟨Str.ofString "", by simp [nonW], by rw [e] <;> rfl⟩
  · exact ⟨Str.ofString ";", by simp [nonW], by rw [e] <;> rfl⟩
  · exact ⟨Str.ofString "X1", by simp [nonW], by rw [e] <;> rfl⟩
/-- whether a text is a word, where that is told -/
def wordB (l : List Nat) : Option Bool := match wdL l with
  | some z => some z.isW
  | none => if l ∈ nonL then some false else none
/-- the dict of the words -/
structure Tk (K : PySem.W.Frag) (w : World) (mg : Str → Option Value) (aK : Addr) : Prop where
  g : mg "_PARTS" = some (.ref aK)
  r : RelV (.ref aK) (.ref aK)
  has : ∀ z : Wd, KHas K w aK z.txt z.isW
  hasN : ∀ z ∈ nonW, KHas K w aK z false
  val : ∀ (z : Wd) (o : Option Nat), z.want = some o → KDct K w aK z.txt (wantV o)
theorem txt_eq (a b : Wd) : decide (V.str a.txt = V.str b.txt) = decide (a = b) := by
  cases a <;> cases b <;> decide
theorem cut_one (xs : List V) : cutV xs (some 1) none = xs.drop 1 := by
  cases xs with
  | nil => rfl
  | cons x xs => exact cut_of (x :: xs) 1 (by simp)
theorem w_starE {K : PySem.W.Frag} {H : Hp} {a : Addr} {x : V} {xs : List V} {i j : Nat} {σ : L2.St} {R : L2.St → Hp → Prop} (h : H a = some (.tup (x :: xs)) ∨ H a = some (.lst (x :: xs))) (q : ∀ l H', Kept H H' → H' l = some (.lst xs) → R ((σ.set i (some x)).set j (some (.ref l))) H') : gStarE K (gCons (gName i) (gCons (gName j) gNil)) (.ref a) σ H R := by
  rcases h with h | h
  · exact .inl ⟨a, x, xs, rfl, SqT.of h, fun l hl => ⟨x, _, rfl, _, _, rfl, rfl, q l _ (Kept.new hl) upd_same⟩⟩
  · exact .inr ⟨a, x, xs, rfl, SqL.of h, fun l hl => ⟨x, _, rfl, _, _, rfl, rfl, q l _ (Kept.new hl) upd_same⟩⟩
theorem w_star2 {K : PySem.W.Frag} {H : Hp} {a : Addr} {x : V} {xs : List V} {i j : Nat} {σ : L2.St} {R : L2.St → Hp → Prop} (h : H a = some (.tup (x :: xs))) (q : ∀ l H', Kept H H' → H' l = some (.lst xs) → R ((σ.set i (some x)).set j (some (.ref l))) H') : gStar K (gCons (gName i) (gCons (gName j) gNil)) (.ref a) σ H R :=
  ⟨a, x, xs, rfl, SqT.of h, fun l hl => ⟨x, _, rfl, _, _, rfl, rfl, q l _ (Kept.new hl) upd_same⟩⟩
def spWholeT : Sp := fun vs H Q _ => ∃ (v : V) (t : Tr), vs = [v] ∧ TrAt H t v ∧ Q (.bl (match t with | .i _ => true | _ => false)) H
def varT : Tr → Bool
  | .i n => isVar n
  | _ => false
def spVarT : Sp := fun vs H Q _ => ∃ (v : V) (t : Tr), vs = [v] ∧ TrAt H t v ∧ Q (.bl (varT t)) H
def spIsWord : Sp := fun vs H Q _ => ∃ (t : Str) (b : Bool), vs = [.str t] ∧ wordB (tl t) = some b ∧ Q (.bl b) H
def spWanted : Sp := fun vs H Q _ => ∃ (z : Wd) (o : Option Nat), vs = [.str z.txt] ∧ z.want = some o ∧ Q (wantV o) H
/-- the parts of an expression's row -/
def ownX {α : Type} (z : Wd) (xs : List α) : List α := if z = .var then [] else if z = .atmost then xs.drop 1 else xs
def spPartsIn : Sp := fun vs H Q _ => ∃ (a : Addr) (z : Wd) (xs : List V), vs = [.ref a] ∧ (H a = some (.tup (.str z.txt :: xs)) ∨ H a = some (.lst (.str z.txt :: xs))) ∧ xs.length ≤ 1000 ∧ ∀ p H', Kept H H' → H' p = some (.lst (ownX z xs)) → Q (.ref p) H'
section
variable {K : PySem.W.Frag} {H : Hp} {Q : VK} {v : V} {t : Tr}
theorem w_isiT_int (h : TrAt H t v) (q : Q (.bl (match t with | .i _ => true | .b _ => true | _ => false)) H) : rIsi K [v, .ty "int"] H Q := by
  cases t with
  | i n => unfold TrAt at h; rw [h]; exact w_isi_ii q
  | b x => unfold TrAt at h; rw [h]; exact w_isi_bi q
  | s z => unfold TrAt at h; rw [h]; exact w_isi_si q
  | n => unfold TrAt at h; rw [h]; exact ⟨_, _, _, _, false, rfl, .ty _, .base .non, kit_ty (by decide +kernel), q⟩
  | t l =>
    unfold TrAt at h
    obtain ⟨p, xs, rfl, h1, _⟩ := h
    exact ⟨_, _, _, _, false, rfl, .ty _, .base (.tup h1), kit_ty (by decide +kernel), q⟩
theorem w_isiT_tup (h : TrAt H t v) (q : Q (.bl (match t with | .t _ => true | _ => false)) H) : rIsi K [v, .ty "tuple"] H Q := by
  cases t with
  | i n => unfold TrAt at h; rw [h]; exact w_isi_it q
  | b x => unfold TrAt at h; rw [h]; exact w_isi_bt q
  | s z => unfold TrAt at h; rw [h]; exact w_isi_st q
  | n => unfold TrAt at h; rw [h]; exact w_isi_nt q
  | t l =>
    unfold TrAt at h
    obtain ⟨p, xs, rfl, h1, _⟩ := h
    exact w_isi_tt h1 q
theorem w_isiT_str (h : TrAt H t v) (q : Q (.bl (match t with | .s _ => true | _ => false)) H) : rIsi K [v, .ty "str"] H Q := by
  cases t with
  | i n => unfold TrAt at h; rw [h]; exact w_isi_is q
  | b x => unfold TrAt at h; rw [h]; exact ⟨_, _, _, _, false, rfl, .ty _, .base (.bl x), kit_ty (by decide +kernel), q⟩
  | s z => unfold TrAt at h; rw [h]; exact w_isi_ss q
  | n => unfold TrAt at h; rw [h]; exact ⟨_, _, _, _, false, rfl, .ty _, .base .non, kit_ty (by decide +kernel), q⟩
  | t l =>
    unfold TrAt at h
    obtain ⟨p, xs, rfl, h1, _⟩ := h
    exact w_isi_ts h1 q
end
section
variable {P : Program} {w : World} {K : PySem.W.Frag} {mg : Str → Option Value} {base : Heap} {uG uP uD : Value} {f aK : Addr} {fd : FuncData}
theorem ok_is_whole (F : Fun K "is_whole" "is_whole" s_is_whole f fd) (T : Tx K mg uG uP uD) : FnOk P w K mg base CX0 1 f fd ["value"] spWholeT := by
  refine F.ok sc_is_whole (fun vs H Q E h => ?_) (fun cdv A outer s H vs Q E hr h => ?_)
  · obtain ⟨v, t, rfl, _⟩ := h
    rfl
  · obtain ⟨v, t, rfl, ht, k⟩ := h
    refine ⟨_, (pss_one (ps_ret (pe_and (pe_callB (call_isiK (K := K) rfl) (by rfl) T.z_isinstance (by decide +kernel) (pa_cons (pv 0) (pa_cons (pe_bltn (by rfl) T.z_int (by decide +kernel) (show RelV (.ty "int") _ from rfl)) pa_nil))) (pe_one (pe_not (pe_callB (call_isiK (K := K) rfl) (by rfl) T.z_isinstance (by decide +kernel) (pa_cons (pv 0) (pa_cons (pe_bltn (by rfl) T.z_bool (by decide +kernel) (show RelV (.ty "bool") _ from rfl)) pa_nil)))))))), ?_⟩
    rw [show start n_is_whole [(v : V)] = ([some (v)] : List (Option V)) from rfl]
    cases t with
    | i n =>
      unfold TrAt at ht
      subst ht
      walk_at "rd"
      exact k
    | b x =>
      unfold TrAt at ht
      subst ht
      walk_at "rd"
      exact k
    | s z =>
      unfold TrAt at ht
      subst ht
      walk_at "rd"
      exact k
    | n =>
      have ht0 := ht
      unfold TrAt at ht
      subst ht
      walk_at "rd"
      refine w_isiT_int ht0 ?_
      walk_at "rd"
      exact k
    | t l =>
      have ht0 := ht
      unfold TrAt at ht
      obtain ⟨p, xs, rfl, h1, _⟩ := ht
      walk_at "rd"
      refine w_isiT_int ht0 ?_
      walk_at "rd"
      exact k
theorem ok_is_variable (F : Fun K "is_variable" "is_variable" s_is_variable f fd) (T : Tx K mg uG uP uD) (D_is_whole : Df P w K mg base 1 "is_whole" ["value"] spWholeT) : FnOk P w K mg base CX0 2 f fd ["value"] spVarT := by
  refine F.ok sc_is_variable (fun vs H Q E h => ?_) (fun cdv A outer s H vs Q E hr h => ?_)
  · obtain ⟨v, t, rfl, _⟩ := h
    rfl
  · obtain ⟨v, t, rfl, ht, k⟩ := h
    refine ⟨_, (pss_one (ps_ret (pe_and (pe_df D_is_whole (hr.mono (by decide)) (by rfl) (pa_cons (pv 0) pa_nil)) (pe_one (pe_chain op_le op_le pe_int (pv 0) (pe_glob (by rfl) T.g_GREATEST_VARIABLE T.v_GREATEST_VARIABLE)))))), ?_⟩
    rw [show start n_is_variable [(v : V)] = ([some (v)] : List (Option V)) from rfl]
    walk_at "rd"
    refine ⟨v, t, rfl, ht, _, rfl, ?_⟩
    cases t with
    | i n =>
      unfold TrAt at ht
      subst ht
      refine if_t rfl ?_
      refine w_chain ?_
      walk_at "rd"
      by_cases h1 : (1 : Int) ≤ n
      · refine if_t (decide_eq_true h1) ?_
        walk_at "rd"
        have e : varT (.i n) = decide (n ≤ 999) := by show isVar n = _; unfold isVar; rw [decide_eq_true h1, Bool.true_and]
        rw [e] at k
        exact k
      · refine if_f (decide_eq_false h1) ?_
        have e : varT (.i n) = false := by show isVar n = _; unfold isVar; rw [decide_eq_false h1, Bool.false_and]
        rw [e] at k
        exact k
    | _ => exact if_f rfl k
theorem ok_is_word (F : Fun K "is_word" "is_word" s_is_word f fd) (T : Tx K mg uG uP uD) (TK : Tk K w mg aK) : FnOk P w K mg base CX0 1 f fd ["text"] spIsWord := by
  refine F.ok sc_is_word (fun vs H Q E h => ?_) (fun cdv A outer s H vs Q E hr h => ?_)
  · obtain ⟨t, b, rfl, _⟩ := h
    rfl
  · obtain ⟨t, b, rfl, hb, k⟩ := h
    refine ⟨_, (pss_one (ps_ret (pe_cmp (pc_kin (K := K) (w := w) rfl rfl (pv 0) (pe_glob (by rfl) TK.g TK.r))))), ?_⟩
    rw [show start n_is_word [(.str t : V)] = ([some (.str t)] : List (Option V)) from rfl]
    walk_at "rd"
    refine w_var rfl (w_c ⟨aK, t, b, rfl, rfl, ?_, k⟩)
    unfold wordB at hb
    cases e : wdL (tl t) with
    | some z =>
      rw [e] at hb
      have e1 : t = z.txt := ext_tl (by rw [wdL_eq e, tl_wd])
      rw [e1, ← Option.some.inj hb]
      exact TK.has z
    | none =>
      rw [e] at hb
      dsimp only at hb
      by_cases e1 : tl t ∈ nonL
      · rw [if_pos e1] at hb
        obtain ⟨z, hz, e2⟩ := nonL_txt e1
        rw [← Option.some.inj hb, show t = z from ext_tl e2.symm]
        exact TK.hasN z hz
      · rw [if_neg e1] at hb
        cases hb
theorem ok_wanted_parts (F : Fun K "wanted_parts" "wanted_parts" s_wanted_parts f fd) (T : Tx K mg uG uP uD) (TK : Tk K w mg aK) : FnOk P w K mg base CX0 1 f fd ["word"] spWanted := by
  refine F.ok sc_wanted_parts (fun vs H Q E h => ?_) (fun cdv A outer s H vs Q E hr h => ?_)
  · obtain ⟨z, o, rfl, _⟩ := h
    rfl
  · obtain ⟨z, o, rfl, ho, k⟩ := h
    refine ⟨_, (pss_one (ps_ret (pe_ix (ix_kdictK (K := K) (w := w) rfl rfl) (pe_glob (by rfl) TK.g TK.r) (pv 0) (fun _ _ => rfl)))), ?_⟩
    rw [show start n_wanted_parts [(.str z.txt : V)] = ([some (.str z.txt)] : List (Option V)) from rfl]
    walk_at "rd"
    exact ⟨aK, z.txt, _, rfl, rfl, TK.val z o ho, k⟩
theorem ok_parts_in (F : Fun K "parts_in" "parts_in" s_parts_in f fd) (T : Tx K mg uG uP uD) : FnOk P w K mg base CX0 1 f fd ["expression"] spPartsIn := by
  refine F.ok sc_parts_in (fun vs H Q E h => ?_) (fun cdv A outer s H vs Q E hr h => ?_)
  · obtain ⟨a, z, xs, rfl, _⟩ := h
    rfl
  · obtain ⟨a, z, xs, rfl, ha, hz, k⟩ := h
    refine ⟨_, (pss_cons (ps_asg (pv 0) (pg_starE (K := K) rfl rfl (pgs_cons (pg_name (i := 1) sc_parts_in.nd rfl (.inl rfl)) (pgs_cons (pg_name (i := 2) sc_parts_in.nd rfl (.inl rfl)) pgs_nil))))
    (pss_cons (ps_if (pt_cmpR op_eq (pv 1) pe_str (nomark _))
      (pss_one (ps_ret (pe_lst pa_nil)))
      pss_nil)
    (pss_one (ps_ret (pe_ifExp (pt_cmpR op_eq (pv 1) pe_str (nomark _)) (pe_slice (sl_listK (K := K) rfl) (pv 2) (po_some pe_int) po_none) (pv 2)))))), ?_⟩
    rw [show start n_parts_in [(.ref a : V)] = ([some (.ref a), none, none] : List (Option V)) from rfl]
    walk_at "rd"
    refine w_starE ha fun l H1 kl el => ?_
    walk_at "rd"
    rw [show V.str (Str.ofString "var") = V.str Wd.var.txt from rfl, txt_eq]
    by_cases h1 : z = .var
    · refine if_t (decide_eq_true h1) ?_
      walk_at "rd"
      refine ⟨Nat.zero_le _, fun q hq => ?_⟩
      refine k q _ (kl.trans (Kept.new hq)) ?_
      rw [upd_same, ownX, if_pos h1]
    · refine if_f (decide_eq_false h1) ?_
      walk_at "rd"
      rw [show V.str (Str.ofString "atmost") = V.str Wd.atmost.txt from rfl, txt_eq]
      by_cases h2 : z = .atmost
      · refine if_t (decide_eq_true h2) ?_
        walk_at "rd"
        refine ⟨l, xs, rfl, SqL.of el, fun q hq => ?_⟩
        refine k q _ (kl.trans (Kept.new hq)) ?_
        rw [upd_same, cut_one, ownX, if_neg h1, if_pos h2]
      · refine if_f (decide_eq_false h2) ?_
        walk_at "rd"
        refine k l _ kl ?_
        rw [el, ownX, if_neg h1, if_neg h2]
end
end Ky

namespace Ky
open PySem PySem.Spec PyProof.Rows L2
local macro_rules | `(tactic| walk_at "rd") => `(tactic| repeat (first
  | with_reducible refine w_seq ?_
  | with_reducible refine w_asg ?_
  | with_reducible refine w_ret ?_
  | with_reducible refine w_drop ?_
  | with_reducible refine w_ifs ?_
  | ((with_reducible refine' w_var ?hh ?_); (case hh => exact rfl))
  | with_reducible refine w_c ?_
  | with_reducible refine w_op ?_
  | with_reducible refine w_un ?_
  | with_reducible refine w_I0 ?_
  | with_reducible refine w_U ?_
  | with_reducible refine w_nil ?_
  | with_reducible refine w_cons ?_
  | with_reducible refine w_call ?_
  | with_reducible refine w_cb ?_
  | with_reducible refine w_test ?_
  | with_reducible refine w_B ?_
  | with_reducible refine w_bl ?_
  | with_reducible refine w_and ?_
  | with_reducible refine w_or ?_
  | with_reducible refine w_not ?_
  | with_reducible refine w_ife ?_
  | with_reducible refine w_gRd ?_
  | with_reducible refine w_andV ?_
  | with_reducible refine w_orV ?_
  | with_reducible refine w_notV ?_
  | with_reducible refine w_chain ?_
  | with_reducible refine w_din ?_
  | with_reducible refine w_isi_ii ?_
  | with_reducible refine w_isi_ib ?_
  | with_reducible refine w_isi_it ?_
  | with_reducible refine w_isi_st ?_
  | ((with_reducible refine w_isi_tt ?h1 ?_); (case h1 => first | assumption | exact upd_same))
  | with_reducible refine if_t rfl ?_
  | with_reducible refine if_f rfl ?_
  | with_reducible refine w_tup ?_
  | with_reducible refine w_lst ?_
  | with_reducible refine w_next ?_
  | with_reducible refine w_bm ?_
  | with_reducible refine w_sl ?_
  | with_reducible refine w_part ?_
  | with_reducible refine w_nop ?_
  | with_reducible refine w_isI ?_
  | with_reducible refine w_yes ?_
  | with_reducible refine w_gn ?_
  | with_reducible refine w_gsub ?_
  | ((with_reducible refine' w_setL ?h1 ?h2 ?_); (case h1 => first | assumption | exact upd_same); (case h2 => exact rfl))
  | with_reducible refine w_asgG ?_
  | with_reducible refine w_m1 ?_
  | with_reducible refine w_isS ?_
  | with_reducible refine w_tyS ?_
  | ((with_reducible refine' w_tyL ?h1 ?_); (case h1 => first | assumption | exact upd_same))
  | ((with_reducible refine' w_ixT ?h1 ?h2 ?_); (case h1 => first | assumption | exact upd_same); (case h2 => exact rfl))
  | ((with_reducible refine' w_ixL ?h1 ?h2 ?_); (case h1 => first | assumption | exact upd_same); (case h2 => exact rfl))
  | ((with_reducible refine w_eq ?h1 ?_); (case h1 => exact rfl))
  | ((with_reducible refine w_ne ?h1 ?_); (case h1 => exact rfl))
  | dsimp only [List.set_cons_zero, List.set_cons_succ, List.append_nil, List.cons_append, List.nil_append, cxOf]))

open TL
section
variable {P : Program} {w : World} {K : PySem.W.Frag} {mg : Str → Option Value} {base : Heap} {uG uP uD : Value} {f c Pt : Addr} {fd : FuncData}
def ten60 : Nat := 1000000000000000000000000000000000000000000000000000000000000
theorem ten60_lt : ten60 < 2 ^ 200 := by decide
theorem ten60_pow : ten60 = 10 ^ 60 := by decide
theorem numS_len {i : Int} (h : i.natAbs < ten60) : (numS i).length ≤ 61 := by
  rw [len_tl, tl_numS]
  exact numI_len (k := 60) (by decide) (by rw [← ten60_pow]; exact h)
theorem log_60 {i : Int} (h : i.natAbs < ten60) : i.natAbs.log2 < 1920 := Nat.lt_of_lt_of_le (PySem.Flt.log2_lt_of (show 0 < 200 by decide) (Nat.lt_trans h ten60_lt)) (by decide)
theorem abs_nat (n : Int) : (if n < 0 then -n else n) = ((n.natAbs : Nat) : Int) := by split <;> omega
def minusT : Str := Str.ofString "-"
theorem tl_minus : tl minusT = [45] := by
  unfold minusT
  rw [tl_ofString]
  rfl
theorem empty_tl : tl (Str.ofString "") = [] := by
  rw [tl_ofString]
  rfl
theorem join_neg {n : Int} (h : n < 0) : Txt.join (Str.ofString "") [minusT, numS ((n.natAbs : Nat) : Int)] = numS n := by
  rw [join_two _ _ _ empty_tl]
  apply ext_tl
  rw [tl_append, tl_minus, tl_nat, tl_numS]
  unfold numI
  rw [if_pos h]
  rfl
def spShowN : Sp := fun vs H Q _ => ∃ n : Int, vs = [.int n] ∧ n.natAbs < ten60 ∧ ∀ H', Kept H H' → Q (.str (numS n)) H'
theorem ok_show_number (F : Fun K "show_number" "show_number" s_show_number f fd) (T : Tx K mg uG uP uD) : FnOk P w K mg base CX0 1 f fd ["n"] spShowN := by
  refine F.ok sc_show_number (fun vs H Q E h => ?_) (fun cdv A outer s H vs Q E hr h => ?_)
  · obtain ⟨n, rfl, _⟩ := h
    rfl
  · obtain ⟨n, rfl, hn, k⟩ := h
    have hn' : ((n.natAbs : Nat) : Int).natAbs < ten60 := by omega
    have hl : ((n.natAbs : Nat) : Int) < 1000000000000000000000000000000000000000000000000000000000000 := by
      unfold ten60 at hn
      omega
    refine ⟨_, (pss_cons (ps_set (i := 1) sc_show_number.nd rfl (.inl rfl) (pe_callB call_abs (by rfl) T.z_abs (by decide +kernel) (pa_cons (pv 0) pa_nil)))
    (pss_cons (ps_set (i := 2) sc_show_number.nd rfl (.inl rfl) (pe_lst pa_nil))
    (pss_cons (ps_while PassesOwn.never (pt_cmpR op_ge (pv 1) (pe_glob (by rfl) T.g_PART T.v_PART) (nomark _)) pss_never)
    (pss_cons (ps_expr (pe_bm PySem.F.plainAttrs_list PySem.F.slot_list_append PySem.F.type_list_append mt_append (pv 2) (pa_cons (pe_callTy call_str_int (by rfl) T.z_str (by decide +kernel) (pa_cons (pv 1) pa_nil)) pa_nil)))
    (pss_cons (ps_if (pt_cmpR op_lt (pv 0) pe_int (nomark _))
      (pss_one (ps_expr (pe_bm PySem.F.plainAttrs_list PySem.F.slot_list_append PySem.F.type_list_append mt_append (pv 2) (pa_cons pe_str pa_nil))))
      pss_nil)
    (pss_one (ps_ret (pe_join pe_str (pe_revL (pv 2)))))))))), ?_⟩
    rw [show start n_show_number [(.int n : V)] = ([some (.int n), none, none, none] : List (Option V)) from rfl]
    walk_at "rd"
    refine ⟨n, rfl, ?_⟩
    walk_at "rd"
    rw [abs_nat]
    refine ⟨Nat.zero_le _, fun p hp => ?_⟩
    refine w_seq ?_
    refine ⟨fun m σ' H' => σ' = [some (.int n), some (.int ((n.natAbs : Nat) : Int)), some (.ref p), none] ∧ H' = upd H p (.lst []), ⟨0, rfl, rfl⟩, fun m σ' H' hW => ?_⟩
    obtain ⟨rfl, rfl⟩ := hW
    walk_at "rd"
    refine if_f (decide_eq_false (by omega)) ?_
    walk_at "rd"
    refine ⟨_, rfl, log_60 hn', ?_⟩
    walk_at "rd"
    refine w_app upd_same (by decide) ?_
    walk_at "rd"
    have e1 : Kept H (upd (upd H p (.lst [])) p (.lst [V.str (numS ((n.natAbs : Nat) : Int))])) := Kept.mut (Kept.new hp) hp
    have ln := numS_len hn'
    refine ite2 (fun e => ?_) (fun e => ?_)
    · have e' := of_decide_eq_true e
      walk_at "rd"
      refine w_app upd_same (by show 1 < sizeLine; decide) ?_
      walk_at "rd"
      have e2 : Kept H (upd (upd (upd H p (.lst [])) p (.lst [V.str (numS ((n.natAbs : Nat) : Int))])) p (.lst [V.str (numS ((n.natAbs : Nat) : Int)), V.str minusT])) := Kept.mut e1 hp
      refine ⟨_, rfl, p, _, rfl, SqL.of upd_same, fun r hr => ?_⟩
      refine ⟨_, r, [minusT, numS ((n.natAbs : Nat) : Int)], rfl, rfl, .inl (SqL.of upd_same), ?_, ?_⟩
      · show minusT.length + ((numS ((n.natAbs : Nat) : Int)).length + 0) + 2 * (Str.ofString "").length ≤ 16777216
        rw [len_tl minusT, tl_minus, len_tl (Str.ofString ""), empty_tl, List.length_singleton, List.length_nil]
        omega
      · show Q (.str (Txt.join (Str.ofString "") [minusT, numS ((n.natAbs : Nat) : Int)])) _
        rw [join_neg e']
        exact k _ (Kept.mut e2 (e2.free _ hr))
    · have e' : ¬ n < 0 := fun z => e (decide_eq_true z)
      walk_at "rd"
      refine ⟨_, rfl, p, _, rfl, SqL.of upd_same, fun r hr => ?_⟩
      refine ⟨_, r, [numS ((n.natAbs : Nat) : Int)], rfl, rfl, .inl (SqL.of upd_same), ?_, ?_⟩
      · show ((numS ((n.natAbs : Nat) : Int)).length + 0) + 1 * (Str.ofString "").length ≤ 16777216
        rw [len_tl (Str.ofString ""), empty_tl, List.length_nil]
        omega
      · show Q (.str (Txt.join (Str.ofString "") [numS ((n.natAbs : Nat) : Int)])) _
        have en : numS ((n.natAbs : Nat) : Int) = numS n := congrArg numS (show ((n.natAbs : Nat) : Int) = n by omega)
        rw [join_one, en]
        exact k _ (Kept.mut e1 (e1.free _ hr))
theorem tl_zero1 : tl (Str.ofString "0") = [48] := by
  rw [tl_ofString]
  rfl
theorem str_eq_iff {x y : Str} : (V.str x = V.str y) ↔ tl x = tl y := ⟨fun h => by rw [V.str.inj h], fun h => by rw [ext_tl h]⟩
theorem digs_tl : tl (Str.ofString "0123456789") = [48, 49, 50, 51, 52, 53, 54, 55, 56, 57] := by
  rw [tl_ofString]
  rfl
theorem dig_mem (c : Nat) : decide (c ∈ (Str.ofString "0123456789").cps.toList) = dig c := by
  show decide (c ∈ tl (Str.ofString "0123456789")) = dig c
  rw [digs_tl]
  unfold dig
  rw [Bool.eq_iff_iff, Bool.and_eq_true, decide_eq_true_eq, decide_eq_true_eq, decide_eq_true_eq]
  simp only [List.mem_cons, List.not_mem_nil, or_false]
  omega
def spReadN (Pt : Addr) : Sp := fun vs H Q _ => ∃ t : Str, vs = [.str t] ∧ (tl t).length ≤ 60 ∧ GxR.TabG H Pt ∧
  (∀ H', Kept H H' → rdN (tl t) = none → Q .non H') ∧ ∀ H' (n : Nat), Kept H H' → rdN (tl t) = some n → n < ten60 → Q (.int (n : Int)) H'
theorem ok_read_number (F : FunC K "read_number" s_read_number f fd c) (T : Tx K mg uG uP uD) (TB : GxR.TabB base mg c Pt) : FnOk P w K mg base CX0 1 f fd ["text"] (spReadN Pt) := by
  refine F.ok sc_read_number (fun vs H Q E h => ?_) (fun A outer s H vs Q E hr h => ?_)
  · obtain ⟨t, rfl, _⟩ := h
    rfl
  · obtain ⟨t, rfl, ht, hT, kn, ks⟩ := h
    have tlen : t.length = (tl t).length := len_tl t
    have tsz : t.length ≤ sizeLine := by
      rw [tlen]
      exact Nat.le_trans ht (by decide)
    refine ⟨_, (Evl.pss_cut (ps_if (PW.pt (pw_or (pt_cmpR op_eq (pv 0) pe_str (nomark _)) (pw_or1 (PW.pt (pw_and (pt_cmpR op_eq (pe_ix ix_str (pv 0) pe_int (fun _ _ => rfl)) pe_str (nomark _)) (pw_and1 (pt_cmpR op_ne (pv 0) pe_str (nomark _))))))))
      (pss_one (ps_ret pe_non))
      pss_nil)
    (Evl.pss_cut (ps_if (pt_not (pt_val (GxR.pe_allS hr (by rfl) T.z_all (by decide +kernel) TB rfl ⟨rfl, rfl, by decide +kernel, rfl, rfl, fun y hy h => absurd h ((by decide +kernel : ∀ y ∈ _, y.2 ≠ NameKind.free) y hy)⟩ (pv 0) (elt_in rfl rfl) (fun _ => rfl))))
      (pss_one (ps_ret pe_non))
      pss_nil)
    (pss_cons (ps_set (i := 1) sc_read_number.nd rfl (.inl rfl) pe_int)
    (pss_cons (ps_set (i := 2) sc_read_number.nd rfl (.inl rfl) (pe_bm PySem.F.plainAttrs_str PySem.F.slot_str_zfill PySem.F.type_str_zfill mt_zfill (pv 0) (pa_cons (pe_op op_add (pe_callB call_len_str (by rfl) T.z_len (by decide +kernel) (pa_cons (pv 0) pa_nil)) (pe_op op_mod (pe_un un_neg (pe_callB call_len_str (by rfl) T.z_len (by decide +kernel) (pa_cons (pv 0) pa_nil))) (pe_glob (by rfl) T.g_PART_DIGITS T.v_PART_DIGITS))) pa_nil)))
    (pss_cons (ps_for PassesOwn.never rfl (pi_range3 (by rfl) T.z_range (pa_cons pe_int (pa_cons (pe_callB call_len_str (by rfl) T.z_len (by decide +kernel) (pa_cons (pv 2) pa_nil)) (pa_cons (pe_glob (by rfl) T.g_PART_DIGITS T.v_PART_DIGITS) pa_nil)))) (pg_name (i := 3) sc_read_number.nd rfl (.inl rfl))
      (pss_one (ps_set (i := 1) sc_read_number.nd rfl (.inl rfl) (pe_op op_add (pe_op op_mulW (pv 1) (pe_glob (by rfl) T.g_PART T.v_PART)) (pe_callTy call_int_str (by rfl) T.z_int (by decide +kernel) (pa_cons (pe_slice sl_str (pv 2) (po_some (pv 3)) (po_some (pe_op op_add (pv 3) (pe_glob (by rfl) T.g_PART_DIGITS T.v_PART_DIGITS)))) pa_nil))))))
    (pss_one (ps_ret (pv 1)))))))), ?_⟩
    rw [show start n_read_number [(.str t : V)] = ([some (.str t), none, none, none] : List (Option V)) from rfl]
    refine ⟨fun σ' H' => σ' = [some (.str t), none, none, none] ∧ H' = H ∧ tl t ≠ [] ∧ ¬ ((tl t).head? = some 48 ∧ tl t ≠ [48]), ?_, ?_⟩
    · walk_at "rd"
      by_cases e0 : tl t = []
      · refine if_t (decide_eq_true (str_eq_iff.mpr (by rw [e0, empty_tl]))) ?_
        refine if_t rfl ?_
        walk_at "rd"
        refine kn _ (Kept.refl _) ?_
        unfold rdN
        rw [if_pos e0]
      · refine if_f (decide_eq_false (fun z => e0 (by rw [str_eq_iff.mp z, empty_tl]))) ?_
        obtain ⟨a, r, ea⟩ : ∃ a r, tl t = a :: r := by
          cases h : tl t with
          | nil => exact absurd h e0
          | cons a r => exact ⟨a, r, rfl⟩
        walk_at "rd"
        refine ⟨t, 0, a, rfl, rfl, tsz, atI_nat (j := 0) (by rw [show t.cps.toList = a :: r from ea]; rfl), ?_⟩
        walk_at "rd"
        have sa : ∀ x : Nat, tl (⟨#[x]⟩ : Str) = [x] := fun _ => rfl
        by_cases e2 : a = 48
        · refine if_t (decide_eq_true (str_eq_iff.mpr (by rw [sa, tl_zero1, e2]))) ?_
          walk_at "rd"
          by_cases e1 : tl t = [48]
          · refine if_f (by rw [decide_eq_true (str_eq_iff.mpr (by rw [e1, tl_zero1]))]; rfl) ?_
            exact ⟨rfl, rfl, e0, fun z => z.2 e1⟩
          · refine if_t (by rw [decide_eq_false (fun z => e1 (by rw [str_eq_iff.mp z, tl_zero1]))]; rfl) ?_
            walk_at "rd"
            refine kn _ (Kept.refl _) ?_
            unfold rdN
            rw [if_neg e0, if_pos ⟨by rw [ea, e2]; rfl, e1⟩]
        · refine if_f (decide_eq_false (fun z => e2 (by have := str_eq_iff.mp z; rw [sa, tl_zero1] at this; injection this))) ?_
          refine ⟨rfl, rfl, e0, fun z => e2 ?_⟩
          have := z.1
          rw [ea] at this
          exact Option.some.inj this
    · rintro σ' H' ⟨rfl, rfl, e0, hcut⟩
      refine ⟨fun σ' H2 => σ' = [some (.str t), none, none, none] ∧ Kept H' H2 ∧ (tl t).all dig = true, ?_, ?_⟩
      · walk_at "rd"
        refine ⟨_, rfl, t, rfl, hT, fun H2 hH => ?_⟩
        have k2 := Kept.tabbed hT hH
        have ed : (t.cps.toList.all fun c => decide (c ∈ (Str.ofString "0123456789").cps.toList)) = (tl t).all dig := by
          congr 1
          funext c
          exact dig_mem c
        rw [ed]
        walk_at "rd"
        cases e : (tl t).all dig with
        | true =>
          refine if_f rfl ?_
          exact ⟨rfl, k2, rfl⟩
        | false =>
          refine if_t rfl ?_
          walk_at "rd"
          refine kn _ k2 ?_
          unfold rdN
          rw [if_neg e0, if_neg hcut, if_neg (by rw [e]; decide)]
      · rintro σ' H2 ⟨rfl, k2, ea⟩
        have hd := dig_all ea
        have ev : rdN (tl t) = some (NumText.digitsVal (tl t)) := by
          unfold rdN
          rw [if_neg e0, if_neg hcut, if_pos ea]
        have l0 : 0 < (tl t).length := by
          cases h : tl t with
          | nil => exact absurd h e0
          | cons a r => exact Nat.succ_pos _
        walk_at "rd"
        refine ⟨_, rfl, tsz, ?_⟩
        walk_at "rd"
        refine ⟨_, rfl, tsz, ?_⟩
        walk_at "rd"
        refine w_I (by show (0 : Int) < 60; decide) ?_
        walk_at "rd"
        have e60 : (t.length : Int) + -(t.length : Int) % 60 = 60 := by omega
        rw [e60]
        refine ⟨_, _, rfl, rfl, by decide, ?_⟩
        walk_at "rd"
        have hh : ∀ c, (tl t).head? = some c → c ≠ 43 ∧ c ≠ 45 := fun c hc => by
          have := hd c (List.mem_of_mem_head? hc)
          omega
        have ez : tl (Txt.zfill t 60) = List.replicate (60 - (tl t).length) 48 ++ tl t := zfill_plain hh
        generalize Txt.zfill t 60 = z at ez
        have zl : z.length = 60 := by
          rw [len_tl, ez, List.length_append, List.length_replicate]
          omega
        have zsz : z.length ≤ sizeLine := by
          rw [zl]
          decide
        have zd : NumText.AllDigits (tl z) := by
          rw [ez]
          intro c hc
          rcases List.mem_append.mp hc with q | q
          · have := List.eq_of_mem_replicate q
            omega
          · exact hd c q
        refine ⟨_, rfl, _, rfl, zsz, ?_⟩
        rw [zl]
        refine ⟨0, 60, 60, 1, rfl, ⟨by decide, by decide, by decide, by decide⟩, for_rangeC (lo := 0) (c := 60) (n := 1) (fun i σ' H3 => ∃ v, σ' = [some (.str t), some (.int (if i = 0 then 0 else (NumText.digitsVal (tl t) : Nat))), some (.str z), v] ∧ H3 = H2) ⟨none, rfl, rfl⟩ ?_ ?_⟩
        · rintro i σ' H3 hi ⟨v, rfl, rfl⟩
          have hi0 : i = 0 := by omega
          subst hi0
          walk_at "rd"
          refine w_I (wide_mul (a := 2) (b := 200) (by show (0 : Int).natAbs < 2 ^ 2; decide) (by decide) (by decide) (by decide) (by decide)) ?_
          walk_at "rd"
          refine ⟨z, rfl, zsz, ?_⟩
          walk_at "rd"
          have ec : tl (cutS z (some (0 + ((0 : Nat) : Int) * 60)) (some (0 + ((0 : Nat) : Int) * 60 + 60))) = tl z := by
            rw [tl_cut]
            have hz : (tl z).length = 60 := by rw [← len_tl]; exact zl
            rw [hz]
            show (List.drop 0 (tl z)).take (60 - 0) = tl z
            rw [List.drop_zero, List.take_of_length_le (by rw [hz]; exact Nat.le_refl _)]
          rw [ext_tl ec]
          have ei := PySem.intText_digits (x := z) zd (fun h => by
            have : z.length = 0 := by rw [len_tl]; show (z.cps.toList).length = 0; rw [h]; rfl
            omega) (by rw [zl]; decide)
          refine ⟨z, _, rfl, ei, by rw [zl]; decide, ?_⟩
          refine w_I0 ?_
          refine ⟨some (V.int (0 + ((0 : Nat) : Int) * 60)), ?_, rfl⟩
          show [some (V.str t), some (V.int (0 * 1000000000000000000000000000000000000000000000000000000000000 + ((NumText.digitsVal (tl z) : Nat) : Int))), some (V.str z), some (V.int (0 + ((0 : Nat) : Int) * 60))] = [some (V.str t), some (V.int (((NumText.digitsVal (tl t) : Nat) : Int))), some (V.str z), some (V.int (0 + ((0 : Nat) : Int) * 60))]
          rw [ez, dval_zeros, Int.zero_mul, Int.zero_add]
        · rintro σ' H3 ⟨v, rfl, rfl⟩
          walk_at "rd"
          refine ks _ _ k2 ev ?_
          have := dval_lt (k := 60) hd ht
          rw [ten60_pow]
          exact this
/-! ### read_fraction -/
end
end Ky

namespace Ky
open PySem PySem.Spec PyProof.Rows L2
local macro_rules | `(tactic| walk_at "rd") => `(tactic| repeat (first
  | with_reducible refine w_for1 ?_
  | with_reducible refine w_for2 ?_
  | with_reducible refine w_forL ?_
  | with_reducible refine w_forT ?_
  | with_reducible refine w_lc1 ?_
  | with_reducible refine w_lcL ?_
  | with_reducible refine w_lcT ?_
  | with_reducible refine w_dcL ?_
  | with_reducible refine w_dcT ?_
  | with_reducible refine w_seq ?_
  | with_reducible refine w_asg ?_
  | with_reducible refine w_ret ?_
  | with_reducible refine w_drop ?_
  | with_reducible refine w_ifs ?_
  | ((with_reducible refine' w_var ?hh ?_); (case hh => exact rfl))
  | with_reducible refine w_c ?_
  | with_reducible refine w_op ?_
  | with_reducible refine w_un ?_
  | with_reducible refine w_I0 ?_
  | with_reducible refine w_U ?_
  | with_reducible refine w_nil ?_
  | with_reducible refine w_cons ?_
  | with_reducible refine w_call ?_
  | with_reducible refine w_cb ?_
  | with_reducible refine w_test ?_
  | with_reducible refine w_B ?_
  | with_reducible refine w_bl ?_
  | with_reducible refine w_and ?_
  | with_reducible refine w_or ?_
  | with_reducible refine w_not ?_
  | with_reducible refine w_ife ?_
  | with_reducible refine w_gRd ?_
  | with_reducible refine w_andV ?_
  | with_reducible refine w_orV ?_
  | with_reducible refine w_notV ?_
  | with_reducible refine w_chain ?_
  | with_reducible refine w_din ?_
  | with_reducible refine w_isi_ii ?_
  | with_reducible refine w_isi_bi ?_
  | with_reducible refine w_isi_bb ?_
  | with_reducible refine w_isi_bt ?_
  | with_reducible refine w_isi_si ?_
  | with_reducible refine w_isi_nt ?_
  | with_reducible refine w_isi_ib ?_
  | with_reducible refine w_isi_it ?_
  | with_reducible refine w_isi_st ?_
  | ((with_reducible refine w_isi_tt ?h1 ?_); (case h1 => first | assumption | exact upd_same))
  | with_reducible refine if_t rfl ?_
  | with_reducible refine if_f rfl ?_
  | with_reducible refine w_tup ?_
  | with_reducible refine w_lst ?_
  | with_reducible refine w_next ?_
  | with_reducible refine w_bm ?_
  | with_reducible refine w_sl ?_
  | with_reducible refine w_part ?_
  | with_reducible refine w_nop ?_
  | with_reducible refine w_isI ?_
  | with_reducible refine w_yes ?_
  | with_reducible refine w_gn ?_
  | with_reducible refine w_gsub ?_
  | ((with_reducible refine' w_setL ?h1 ?h2 ?_); (case h1 => first | assumption | exact upd_same); (case h2 => exact rfl))
  | with_reducible refine w_asgG ?_
  | with_reducible refine w_m1 ?_
  | with_reducible refine w_isS ?_
  | with_reducible refine w_tyS ?_
  | ((with_reducible refine' w_tyL ?h1 ?_); (case h1 => first | assumption | exact upd_same))
  | ((with_reducible refine' w_ixT ?h1 ?h2 ?_); (case h1 => first | assumption | exact upd_same); (case h2 => exact rfl))
  | ((with_reducible refine' w_ixL ?h1 ?h2 ?_); (case h1 => first | assumption | exact upd_same); (case h2 => exact rfl))
  | ((with_reducible refine w_eq ?h1 ?_); (case h1 => exact rfl))
  | ((with_reducible refine w_ne ?h1 ?_); (case h1 => exact rfl))
  | dsimp only [List.set_cons_zero, List.set_cons_succ, List.append_nil, List.cons_append, List.nil_append, cxOf]))

open TL
/-! ### the reader on codes -/
def al (c : Nat) : Bool := Unicode.isAlnum c
@[irreducible] def strip : List Nat → List Nat
  | [] => []
  | c :: s => if c = 32 then strip s else c :: s
def alR (s : List Nat) : List Nat := s.takeWhile al
@[irreducible] def tok (s : List Nat) : List Nat := s.take (max (alR s).length 1)
@[irreducible] def adv (s : List Nat) : List Nat := strip (s.drop (tok s).length)
abbrev Row := Wd × List Tr
inductive BA where
  | err (m : Nat)
  | fnd (s : List Nat) (e : Tr)
  | psh (s : List Nat) (z : Wd) (xs : List Tr)
inductive GA where
  | err (m : Nat)
  | fnd (s : List Nat)
  | psh (s : List Nat)
def rdVar (l : List Nat) : Option (Option Nat) := if l.length ≤ 60 then some (match rdN l with | some n => if 1 ≤ n ∧ n ≤ 999 then some n else none | none => none) else none
/-- behind a word and its bracket -/
def begN (s2 : List Nat) (z : Wd) : Option BA :=
  if (tok s2).length ≤ 60 then
    (match rdN (tok s2) with
    | none => some (.err s2.length)
    | some n => if tok (adv s2) = [41] then some (.fnd (adv (adv s2)) (.t [.s z.txt, .i n]))
      else if tok (adv s2) = [44] then some (.psh (adv (adv s2)) z [.i n])
      else some (.err (adv s2).length))
  else none
def begW (s : List Nat) (z : Wd) : Option BA :=
  if z = .yes ∨ z = .no then some (.fnd (adv s) (.t [.s z.txt]))
  else if tok (adv s) ≠ [40] then some (.err (adv s).length)
  else if z = .atmost then begN (adv (adv s)) z
  else if tok (adv (adv s)) = [41] ∧ z.want = some none then some (.fnd (adv (adv (adv s))) (.t [.s z.txt]))
  else some (.psh (adv (adv s)) z [])
@[irreducible] def begA (s : List Nat) : Option BA :=
  match (if (tok s).head? = some 120 then rdVar ((tok s).drop 1) else some none) with
  | none => none
  | some (some v) => some (.fnd (adv s) (.t [.s Wd.var.txt, .i v]))
  | some none => match wordB (tok s) with
    | none => none
    | some false => some (.err s.length)
    | some true => match wdL (tok s) with
      | some z => begW s z
      | none => none
def okE (o : Option Nat) (c : Nat) : Bool := match o with | none => true | some k => decide (c = k)
def okL (o : Option Nat) (c : Nat) : Bool := match o with | none => true | some k => decide (c < k)
def cntz (z : Wd) (n : Nat) : Nat := if z = .var then 0 else if z = .atmost then n - 1 else n
theorem ownX_len {α : Type} (z : Wd) (xs : List α) : (ownX z xs).length = cntz z xs.length := by
  unfold ownX cntz
  by_cases h1 : z = .var
  · rw [if_pos h1, if_pos h1] <;> rfl
  · rw [if_neg h1, if_neg h1]
    by_cases h2 : z = .atmost
    · rw [if_pos h2, if_pos h2, List.length_drop]
    · rw [if_neg h2, if_neg h2]
@[irreducible] def goA (s : List Nat) (z : Wd) (c : Nat) : Option GA :=
  match z.want with
  | none => none
  | some o => if tok s = [41] ∧ okE o c = true then some (.fnd (adv s))
    else if tok s = [44] ∧ okL o c = true then some (.psh (adv s))
    else some (.err s.length)
inductive Out where
  | ok (e : Tr)
  | err (m : Nat)
inductive Run : Nat → List Nat → List Row → Option Tr → Out → Prop
  | begE {n s p m} (h : begA s = some (.err m)) : Run (n + 1) s p none (.err m)
  | begF {n s p s' e o} (h : begA s = some (.fnd s' e)) (r : Run n s' p (some e) o) : Run (n + 1) s p none o
  | begP {n s p s' z xs o} (h : begA s = some (.psh s' z xs)) (r : Run n s' ((z, xs) :: p) none o) : Run (n + 1) s p none o
  | goE {n s z xs p e m} (h : goA s z (cntz z (xs.length + 1)) = some (.err m)) : Run (n + 1) s ((z, xs) :: p) (some e) (.err m)
  | goF {n s z xs p e s' o} (h : goA s z (cntz z (xs.length + 1)) = some (.fnd s')) (r : Run n s' p (some (.t (.s z.txt :: (xs ++ [e])))) o) : Run (n + 1) s ((z, xs) :: p) (some e) o
  | goP {n s z xs p e s' o} (h : goA s z (cntz z (xs.length + 1)) = some (.psh s')) (r : Run n s' ((z, xs ++ [e]) :: p) none o) : Run (n + 1) s ((z, xs) :: p) (some e) o
  | done {n s e} (h : tok s = []) : Run n s [] (some e) (.ok e)
  | doneE {n s e} (h : tok s ≠ []) : Run n s [] (some e) (.err s.length)
theorem Run.up {n : Nat} {s : List Nat} {p : List Row} {f : Option Tr} {o : Out} (h : Run n s p f o) : Run (n + 1) s p f o := by
  induction h with
  | begE h => exact .begE h
  | begF h r ih => exact .begF h ih
  | begP h r ih => exact .begP h ih
  | goE h => exact .goE h
  | goF h r ih => exact .goF h ih
  | goP h r ih => exact .goP h ih
  | done h => exact .done h
  | doneE h => exact .doneE h
theorem Run.mono {n m : Nat} {s : List Nat} {p : List Row} {f : Option Tr} {o : Out} (h : Run n s p f o) (l : n ≤ m) : Run m s p f o := by
  induction l with
  | refl => exact h
  | step _ ih => exact ih.up
/-! ### tokens -/
def Cl : List Nat → Prop
  | [] => True
  | c :: _ => al c = false
theorem al32 : al 32 = false := by decide +kernel
theorem al40 : al 40 = false := by decide +kernel
theorem al41 : al 41 = false := by decide +kernel
theorem al44 : al 44 = false := by decide +kernel
theorem al59 : al 59 = false := by decide +kernel
theorem alR_word {s : List Nat} (hs : Cl s) : ∀ {t : List Nat}, (∀ c ∈ t, al c = true) → alR (t ++ s) = t
  | [], _ => by
    show s.takeWhile al = []
    cases s with
    | nil => rfl
    | cons c s => rw [List.takeWhile_cons, show al c = false from hs] <;> rfl
  | c :: t, h => by
    show (c :: (t ++ s)).takeWhile al = c :: t
    rw [List.takeWhile_cons, h c List.mem_cons_self, if_pos rfl]
    exact congrArg (c :: ·) (alR_word hs fun d hd => h d (List.mem_cons_of_mem _ hd))
theorem tok_word {t s : List Nat} (h0 : t ≠ []) (h : ∀ c ∈ t, al c = true) (hs : Cl s) : tok (t ++ s) = t := by
  have : 1 ≤ t.length := by cases t with | nil => exact absurd rfl h0 | cons a b => simp
  unfold tok
  rw [alR_word hs h, Nat.max_eq_left this, List.take_left]
theorem tok_sign {c : Nat} {s : List Nat} (h : al c = false) : tok (c :: s) = [c] := by
  unfold tok alR
  rw [List.takeWhile_cons, h] <;> rfl
theorem tok_nil : tok [] = [] := by
  unfold tok alR
  rfl
theorem strip_nil : strip [] = [] := by rw [strip]
theorem strip_c (c : Nat) (s : List Nat) : strip (c :: s) = if c = 32 then strip s else c :: s := by rw [strip]
theorem adv_eq {t s : List Nat} (h : tok (t ++ s) = t) : adv (t ++ s) = strip s := by
  unfold adv
  rw [h, List.drop_left]
theorem adv_sign {c : Nat} {s : List Nat} (h : al c = false) : adv (c :: s) = strip s := adv_eq (t := [c]) (tok_sign h)
theorem strip_rep {s : List Nat} : ∀ k : Nat, strip (List.replicate k 32 ++ s) = strip s
  | 0 => rfl
  | k + 1 => by
    rw [List.replicate_succ, List.cons_append]
    rw [strip_c, if_pos rfl]
    exact strip_rep k
theorem strip_cons {c : Nat} {s : List Nat} (h : c ≠ 32) : strip (c :: s) = c :: s := by
  rw [strip_c, if_neg h]
theorem strip_al {t s : List Nat} (h0 : t ≠ []) (h : ∀ c ∈ t, al c = true) : strip (t ++ s) = t ++ s := by
  cases t with
  | nil => exact absurd rfl h0
  | cons a b =>
    refine strip_cons fun e => ?_
    have := h a List.mem_cons_self
    rw [e, al32] at this
    cases this
/-! ### layouts -/
def Lay : List (List Nat) → List Nat → List Nat → Prop
  | [], s, r => s = r
  | t :: ts, s, r => ∃ k s', s = List.replicate k 32 ++ (t ++ s') ∧ Lay ts s' r
theorem Lay.app : ∀ {a b : List (List Nat)} {s r : List Nat}, Lay (a ++ b) s r ↔ ∃ m, Lay a s m ∧ Lay b m r
  | [], b, s, r => ⟨fun h => ⟨s, rfl, h⟩, fun ⟨m, h1, h2⟩ => by
      cases (show s = m from h1)
      exact h2⟩
  | t :: a, b, s, r => ⟨fun ⟨k, s', e, h⟩ => by
      obtain ⟨m, h1, h2⟩ := Lay.app.mp h
      exact ⟨m, ⟨k, s', e, h1⟩, h2⟩, fun ⟨m, ⟨k, s', e, h1⟩, h2⟩ => ⟨k, s', e, Lay.app.mpr ⟨m, h1, h2⟩⟩⟩
theorem cl_rep {s : List Nat} (h : Cl s) : ∀ k, Cl (List.replicate k 32 ++ s)
  | 0 => h
  | k + 1 => by
    rw [List.replicate_succ]
    exact al32
theorem Lay.cl {t : List Nat} {ts : List (List Nat)} {s r : List Nat} {c : Nat} (h : Lay ([c] :: ts) s r) (hc : al c = false) : Cl s := by
  obtain ⟨k, s', rfl, _⟩ := h
  exact cl_rep (s := [c] ++ s') hc k
/-! ### expressions and their tokens -/
def sep : List (List (List Nat)) → List (List Nat)
  | [] => []
  | [a] => a
  | a :: b :: r => a ++ [44] :: sep (b :: r)
def All2 {α β : Type} (R : α → β → Prop) : List α → List β → Prop
  | [], [] => True
  | a :: as, b :: bs => R a b ∧ All2 R as bs
  | _, _ => False
def Leaf (e : Tr) (t : List (List Nat)) : Prop := (∃ k : Nat, 1 ≤ k ∧ k ≤ 999 ∧ e = .t [.s Wd.var.txt, .i k] ∧ t = [120 :: numL k]) ∨ (∃ z : Wd, (z = .yes ∨ z = .no) ∧ e = .t [.s z.txt] ∧ t = [z.cs])
def isOp (z : Wd) : Bool := match z with | .not => true | .and => true | .or => true | .xor => true | .iff => true | .implies => true | .ite => true | _ => false
def Ex : Nat → Tr → List (List Nat) → Prop
  | 0, e, t => Leaf e t
  | d + 1, e, t => Leaf e t ∨
    (∃ (z : Wd) (o : Option Nat) (ps : List Tr) (ts : List (List (List Nat))), isOp z = true ∧ z.want = some o ∧ okE o ps.length = true ∧ ps.length ≤ 3 ∧ All2 (Ex d) ps ts ∧ e = .t (.s z.txt :: ps) ∧ t = z.cs :: [40] :: (sep ts ++ [[41]])) ∨
    (∃ (k : Nat) (ps : List Tr) (ts : List (List (List Nat))), k ≤ 3 ∧ ps.length ≤ 3 ∧ All2 (Ex d) ps ts ∧ e = .t (.s Wd.atmost.txt :: .i k :: ps) ∧ t = Wd.atmost.cs :: [40] :: (sep ([numL k] :: ts) ++ [[41]]))
def Bz : Nat → Nat
  | 0 => 1
  | d + 1 => 1 + 3 * (Bz d + 1)
theorem cs_al (z : Wd) : ∀ c ∈ z.cs, al c = true := by cases z <;> decide +kernel
theorem cs_ne (z : Wd) : z.cs ≠ [] := by cases z <;> decide
theorem dig_al {c : Nat} (h : 48 ≤ c ∧ c ≤ 57) : al c = true := by
  have : c = 48 ∨ c = 49 ∨ c = 50 ∨ c = 51 ∨ c = 52 ∨ c = 53 ∨ c = 54 ∨ c = 55 ∨ c = 56 ∨ c = 57 := by omega
  rcases this with h | h | h | h | h | h | h | h | h | h <;> (rw [h]; decide +kernel)
theorem numL_al (n : Nat) : ∀ c ∈ numL n, al c = true := fun c hc => by
  have h := List.all_eq_true.mp (all_dig (numL_digits n)) c hc
  unfold dig at h
  rw [Bool.and_eq_true, decide_eq_true_eq, decide_eq_true_eq] at h
  exact dig_al h
theorem numL_ne (n : Nat) : numL n ≠ [] := by
  have h := rdN_numL n
  intro e
  rw [e] at h
  cases h
theorem numL_60 {n : Nat} (h : n ≤ 999) : (numL n).length ≤ 60 := by
  have e := numI_len (i := (n : Int)) (k := 3) (by decide) (by show n < 1000; omega)
  unfold numI at e
  rw [if_neg (by omega)] at e
  have e : (numL n).length ≤ 4 := e
  omega
/-! ### an abstract run, to be computed -/
def absRun : Nat → List Nat → List (Wd × Nat) → Bool → Option (Option Nat)
  | 0, _, _, _ => none
  | n + 1, s, p, false => match begA s with
    | none => none
    | some (.err m) => some (some m)
    | some (.fnd s' _) => absRun n s' p true
    | some (.psh s' z xs) => absRun n s' ((z, xs.length) :: p) false
  | _ + 1, s, [], true => if tok s = [] then some none else some (some s.length)
  | n + 1, s, (z, c) :: p, true => match goA s z (cntz z (c + 1)) with
    | none => none
    | some (.err m) => some (some m)
    | some (.fnd s') => absRun n s' p true
    | some (.psh s') => absRun n s' ((z, c + 1) :: p) false
def shp (r : Row) : Wd × Nat := (r.1, r.2.length)
theorem abs_run : ∀ (n : Nat) (s : List Nat) (p : List Row) (f : Option Tr) (m : Nat), absRun n s (p.map shp) f.isSome = some (some m) → Run n s p f (.err m)
  | 0, s, p, f, m, h => by
    unfold absRun at h
    cases h
  | n + 1, s, p, none, m, h => by
    rw [show (none : Option Tr).isSome = false from rfl, absRun.eq_def] at h
    dsimp only at h
    cases e : begA s with
    | none => rw [e] at h; cases h
    | some b =>
      rw [e] at h
      cases b with
      | err k => cases h; exact .begE e
      | fnd s' e' => exact .begF e (abs_run n s' p (some e') m h)
      | psh s' z xs => exact .begP e (abs_run n s' ((z, xs) :: p) none m h)
  | n + 1, s, [], some x, m, h => by
    rw [show (some x : Option Tr).isSome = true from rfl, absRun.eq_def] at h
    have h : (if tok s = [] then some none else some (some s.length)) = some (some m) := h
    by_cases e : tok s = []
    · rw [if_pos e] at h; cases h
    · rw [if_neg e] at h; cases h; exact .doneE e
  | n + 1, s, (z, xs) :: p, some x, m, h => by
    rw [show (some x : Option Tr).isSome = true from rfl, absRun.eq_def] at h
    have h : (match goA s z (cntz z (xs.length + 1)) with
      | none => none
      | some (.err m) => some (some m)
      | some (.fnd s') => absRun n s' (p.map shp) true
      | some (.psh s') => absRun n s' ((z, xs.length + 1) :: p.map shp) false) = some (some m) := h
    cases e : goA s z (cntz z (xs.length + 1)) with
    | none => rw [e] at h; cases h
    | some b =>
      rw [e] at h
      cases b with
      | err k => cases h; exact .goE e
      | fnd s' => exact .goF e (abs_run n s' p (some _) m h)
      | psh s' => exact .goP e (abs_run n s' ((z, xs ++ [x]) :: p) none m (by
          rw [List.map_cons, show shp (z, xs ++ [x]) = (z, xs.length + 1) from by unfold shp; rw [List.length_append] <;> rfl]
          exact h))
end Ky

namespace Ky
open PySem PySem.Spec PyProof.Rows L2
local macro_rules | `(tactic| walk_at "rd") => `(tactic| repeat (first
  | with_reducible refine w_for1 ?_
  | with_reducible refine w_for2 ?_
  | with_reducible refine w_forL ?_
  | with_reducible refine w_forT ?_
  | with_reducible refine w_lc1 ?_
  | with_reducible refine w_lcL ?_
  | with_reducible refine w_lcT ?_
  | with_reducible refine w_dcL ?_
  | with_reducible refine w_dcT ?_
  | with_reducible refine w_seq ?_
  | with_reducible refine w_asg ?_
  | with_reducible refine w_ret ?_
  | with_reducible refine w_drop ?_
  | with_reducible refine w_ifs ?_
  | ((with_reducible refine' w_var ?hh ?_); (case hh => exact rfl))
  | with_reducible refine w_c ?_
  | with_reducible refine w_op ?_
  | with_reducible refine w_un ?_
  | with_reducible refine w_I0 ?_
  | with_reducible refine w_U ?_
  | with_reducible refine w_nil ?_
  | with_reducible refine w_cons ?_
  | with_reducible refine w_call ?_
  | with_reducible refine w_cb ?_
  | with_reducible refine w_test ?_
  | with_reducible refine w_B ?_
  | with_reducible refine w_bl ?_
  | with_reducible refine w_and ?_
  | with_reducible refine w_or ?_
  | with_reducible refine w_not ?_
  | with_reducible refine w_ife ?_
  | with_reducible refine w_gRd ?_
  | with_reducible refine w_andV ?_
  | with_reducible refine w_orV ?_
  | with_reducible refine w_notV ?_
  | with_reducible refine w_chain ?_
  | with_reducible refine w_din ?_
  | with_reducible refine w_isi_ii ?_
  | with_reducible refine w_isi_bi ?_
  | with_reducible refine w_isi_bb ?_
  | with_reducible refine w_isi_bt ?_
  | with_reducible refine w_isi_si ?_
  | with_reducible refine w_isi_nt ?_
  | with_reducible refine w_isi_ib ?_
  | with_reducible refine w_isi_it ?_
  | with_reducible refine w_isi_st ?_
  | ((with_reducible refine w_isi_tt ?h1 ?_); (case h1 => first | assumption | exact upd_same))
  | with_reducible refine if_t rfl ?_
  | with_reducible refine if_f rfl ?_
  | with_reducible refine w_tup ?_
  | with_reducible refine w_lst ?_
  | with_reducible refine w_next ?_
  | with_reducible refine w_bm ?_
  | with_reducible refine w_sl ?_
  | with_reducible refine w_part ?_
  | with_reducible refine w_nop ?_
  | with_reducible refine w_isI ?_
  | with_reducible refine w_yes ?_
  | with_reducible refine w_gn ?_
  | with_reducible refine w_gsub ?_
  | ((with_reducible refine' w_setL ?h1 ?h2 ?_); (case h1 => first | assumption | exact upd_same); (case h2 => exact rfl))
  | with_reducible refine w_asgG ?_
  | with_reducible refine w_m1 ?_
  | with_reducible refine w_isS ?_
  | with_reducible refine w_tyS ?_
  | ((with_reducible refine' w_tyL ?h1 ?_); (case h1 => first | assumption | exact upd_same))
  | ((with_reducible refine' w_ixT ?h1 ?h2 ?_); (case h1 => first | assumption | exact upd_same); (case h2 => exact rfl))
  | ((with_reducible refine' w_ixL ?h1 ?h2 ?_); (case h1 => first | assumption | exact upd_same); (case h2 => exact rfl))
  | ((with_reducible refine w_eq ?h1 ?_); (case h1 => exact rfl))
  | ((with_reducible refine w_ne ?h1 ?_); (case h1 => exact rfl))
  | dsimp only [List.set_cons_zero, List.set_cons_succ, List.append_nil, List.cons_append, List.nil_append, cxOf]))

open TL
/-! ### the tokens of an expression are read -/
theorem begW_leaf {s : List Nat} {z : Wd} (h : z = .yes ∨ z = .no) : begW s z = some (.fnd (adv s) (.t [.s z.txt])) := by
  unfold begW
  rw [if_pos h]
theorem beg_word {s : List Nat} {z : Wd} (h : tok s = z.cs) (hz : z.isW = true) : begA s = begW s z := by
  unfold begA
  have e1 : (if (tok s).head? = some 120 then rdVar ((tok s).drop 1) else some none) = some none := by
    rw [h]
    cases z <;> decide +kernel
  have e2 : wordB (tok s) = some true := by
    rw [h]
    unfold wordB
    rw [wdL_cs]
    dsimp only
    rw [hz]
  rw [e1, e2, h, wdL_cs]
theorem beg_var {s : List Nat} {k : Nat} (h : tok s = 120 :: numL k) (h1 : 1 ≤ k) (h2 : k ≤ 999) : begA s = some (.fnd (adv s) (.t [.s Wd.var.txt, .i k])) := by
  unfold begA
  have e1 : (if (tok s).head? = some 120 then rdVar ((tok s).drop 1) else some none) = some (some k) := by
    rw [h, if_pos (by rfl)]
    show rdVar (numL k) = _
    unfold rdVar
    rw [if_pos (numL_60 h2), rdN_numL]
    dsimp only
    rw [if_pos ⟨h1, h2⟩]
  rw [e1]
theorem lay_word {t s1 s : List Nat} {k : Nat} (h0 : t ≠ []) (h : ∀ c ∈ t, al c = true) (hs : Cl s1) (e : s = List.replicate k 32 ++ (t ++ s1)) : strip s = t ++ s1 ∧ tok (strip s) = t ∧ adv (strip s) = strip s1 := by
  have e1 : strip s = t ++ s1 := by rw [e, strip_rep, strip_al h0 h]
  have e2 := tok_word h0 h hs
  exact ⟨e1, by rw [e1]; exact e2, by rw [e1]; exact adv_eq e2⟩
theorem lay_sign {c : Nat} {s1 s : List Nat} {k : Nat} (hc : al c = false) (h32 : c ≠ 32) (e : s = List.replicate k 32 ++ ([c] ++ s1)) : strip s = c :: s1 ∧ tok (strip s) = [c] ∧ adv (strip s) = strip s1 ∧ Cl s := by
  have e1 : strip s = c :: s1 := by rw [e, strip_rep]; exact strip_cons h32
  exact ⟨e1, by rw [e1]; exact tok_sign hc, by rw [e1]; exact adv_sign hc, by rw [e]; exact cl_rep (s := [c] ++ s1) hc k⟩
theorem ex_first : ∀ (d : Nat) {e : Tr} {t : List (List Nat)}, Ex d e t → ∃ w r, t = w :: r ∧ w ≠ [] ∧ ∀ c ∈ w, al c = true := by
  have lf : ∀ {e : Tr} {t : List (List Nat)}, Leaf e t → ∃ w r, t = w :: r ∧ w ≠ [] ∧ ∀ c ∈ w, al c = true := by
    intro e t h
    rcases h with ⟨k, h1, h2, _, rfl⟩ | ⟨z, hz, _, rfl⟩
    · refine ⟨_, _, rfl, by simp, fun c hc => ?_⟩
      rcases List.mem_cons.mp hc with rfl | hc
      · decide +kernel
      · exact numL_al k c hc
    · exact ⟨_, _, rfl, cs_ne z, cs_al z⟩
  intro d e t h
  cases d with
  | zero => exact lf h
  | succ d =>
    rcases h with h | ⟨z, o, ps, ts, _, _, _, _, _, _, rfl⟩ | ⟨k, ps, ts, _, _, _, _, rfl⟩
    · exact lf h
    · exact ⟨_, _, rfl, cs_ne z, cs_al z⟩
    · exact ⟨_, _, rfl, cs_ne _, cs_al _⟩
theorem tok_first {w s1 s : List Nat} {k : Nat} (h0 : w ≠ []) (h : ∀ c ∈ w, al c = true) (e : s = List.replicate k 32 ++ (w ++ s1)) : tok (strip s) ≠ [41] := by
  rw [e, strip_rep, strip_al h0 h]
  cases w with
  | nil => exact absurd rfl h0
  | cons a b =>
    intro z
    unfold tok at z
    have : 1 ≤ max (alR (a :: b ++ s1)).length 1 := Nat.le_max_right _ _
    obtain ⟨q, hq⟩ : ∃ q, max (alR (a :: b ++ s1)).length 1 = q + 1 := ⟨_, (Nat.succ_pred_eq_of_pos this).symm⟩
    rw [hq, List.cons_append, List.take_succ_cons] at z
    have ha := h a List.mem_cons_self
    rw [(List.cons.inj z).1, al41] at ha
    cases ha
def RT (d : Nat) : Prop := ∀ (e : Tr) (t : List (List Nat)) (s r : List Nat) (p : List Row) (o : Out) (n : Nat), Ex d e t → Lay t s r → Cl r → Run n (strip r) p (some e) o → Run (n + Bz d) (strip s) p none o
theorem bz_pos (d : Nat) : 1 ≤ Bz d := by cases d <;> (unfold Bz; omega)
theorem rt_leaf (d : Nat) {e : Tr} {t : List (List Nat)} {s r : List Nat} {p : List Row} {o : Out} {n : Nat} (h : Leaf e t) (hl : Lay t s r) (hr : Cl r) (q : Run n (strip r) p (some e) o) : Run (n + Bz d) (strip s) p none o := by
  refine Run.mono (n := n + 1) ?_ (by have := bz_pos d; omega)
  rcases h with ⟨k, h1, h2, rfl, rfl⟩ | ⟨z, hz, rfl, rfl⟩
  · obtain ⟨b, s', es, e2⟩ := hl
    cases (show s' = r from e2)
    obtain ⟨a1, a2, a3⟩ := lay_word (t := 120 :: numL k) (by simp) (fun c hc => by
      rcases List.mem_cons.mp hc with rfl | hc
      · decide +kernel
      · exact numL_al k c hc) hr es
    refine .begF (beg_var a2 h1 h2) ?_
    rw [a3]
    exact q
  · obtain ⟨b, s', es, e2⟩ := hl
    cases (show s' = r from e2)
    obtain ⟨a1, a2, a3⟩ := lay_word (cs_ne z) (cs_al z) hr es
    refine .begF ((beg_word a2 (by rcases hz with rfl | rfl <;> rfl)).trans (begW_leaf hz)) ?_
    rw [a3]
    exact q
theorem rts (d : Nat) (IH : RT d) : ∀ (ps : List Tr) (ts : List (List (List Nat))) (done : List Tr) (s r : List Nat) (z : Wd) (w : Option Nat) (p : List Row) (o : Out) (n : Nat), ps ≠ [] → All2 (Ex d) ps ts → z.want = some w → z ≠ .var → (z = .atmost → done ≠ []) →
    okE w (cntz z (done.length + ps.length)) = true → Lay (sep ts ++ [[41]]) s r → Run n (strip r) p (some (.t (.s z.txt :: (done ++ ps)))) o → Run (n + ps.length * (Bz d + 1)) (strip s) ((z, done) :: p) none o
  | [], ts, done, s, r, z, w, p, o, n, h, _, _, _, _, _, _, _ => absurd rfl h
  | [a], ts, done, s, r, z, w, p, o, n, _, h2, hw, hv, ha, hk, hl, q => by
    cases ts with
    | nil => exact h2.elim
    | cons ta ts =>
      cases ts with
      | cons _ _ => exact h2.2.elim
      | nil =>
        obtain ⟨m, l1, l2⟩ := Lay.app.mp hl
        obtain ⟨b, s', em, e2⟩ := l2
        have e2 : s' = r := e2
        subst s'
        obtain ⟨a1, a2, a3, a4⟩ := lay_sign al41 (by decide) em
        have g : goA (strip m) z (cntz z (done.length + 1)) = some (.fnd (strip r)) := by
          unfold goA
          rw [hw]
          dsimp only
          rw [if_pos ⟨a2, hk⟩, a3]
        have := IH _ _ _ _ _ _ _ h2.1 l1 a4 (Run.goF g q)
        rw [List.length_singleton, Nat.one_mul]
        exact this.mono (by omega)
  | a :: b :: ps, ts, done, s, r, z, w, p, o, n, _, h2, hw, hv, ha, hk, hl, q => by
    cases ts with
    | nil => exact h2.elim
    | cons ta ts =>
      cases ts with
      | nil => exact h2.2.elim
      | cons tb ts =>
        have e1 : sep (ta :: tb :: ts) ++ [[41]] = ta ++ ([44] :: (sep (tb :: ts) ++ [[41]])) := by
          show (ta ++ [44] :: sep (tb :: ts)) ++ [[41]] = _
          rw [List.append_assoc, List.cons_append]
        rw [e1] at hl
        obtain ⟨m, l1, l2⟩ := Lay.app.mp hl
        obtain ⟨b', m2, em, l3⟩ := l2
        obtain ⟨a1, a2, a3, a4⟩ := lay_sign al44 (by decide) em
        have hc : okL w (cntz z (done.length + 1)) = true := by
          unfold okL okE at *
          cases w with
          | none => rfl
          | some k =>
            dsimp only at hk ⊢
            have hk := of_decide_eq_true hk
            refine decide_eq_true ?_
            unfold cntz at hk ⊢
            rw [if_neg hv] at hk ⊢
            rw [List.length_cons, List.length_cons] at hk
            by_cases c : z = .atmost
            · rw [if_pos c] at hk ⊢
              have : 1 ≤ done.length := by
                cases done with
                | nil => exact absurd rfl (ha c)
                | cons _ _ => simp
              omega
            · rw [if_neg c] at hk ⊢
              omega
        have g : goA (strip m) z (cntz z (done.length + 1)) = some (.psh (strip m2)) := by
          unfold goA
          rw [hw]
          dsimp only
          rw [if_neg (by rw [a2]; exact fun e => by cases e.1), if_pos ⟨a2, hc⟩, a3]
        have R := rts d IH (b :: ps) (tb :: ts) (done ++ [a]) m2 r z w p o n (by simp) h2.2 hw hv (fun _ => by simp) (by
          rw [show (done ++ [a]).length + (b :: ps).length = done.length + (a :: b :: ps).length from by rw [List.length_append, List.length_singleton, List.length_cons, List.length_cons, List.length_cons]; omega]
          exact hk) l3 (by rw [List.append_assoc]; exact q)
        have := IH _ _ _ _ _ _ _ h2.1 l1 a4 (Run.goP g R)
        refine this.mono ?_
        have e9 : ((a :: b :: ps).length) * (Bz d + 1) = (b :: ps).length * (Bz d + 1) + (Bz d + 1) := by rw [List.length_cons, Nat.succ_mul]
        omega
theorem isOp_ne {z : Wd} (h : isOp z = true) : z ≠ .var ∧ z ≠ .atmost ∧ z.isW = true ∧ ¬ (z = .yes ∨ z = .no) := by
  cases z <;> first | exact (Bool.false_ne_true h).elim | exact ⟨by decide, by decide, rfl, by decide⟩
theorem rt : ∀ d : Nat, RT d
  | 0 => by
    intro e t s r p o n h hl hr q
    exact rt_leaf 0 h hl hr q
  | d + 1 => by
    intro e t s r p o n h hl hr q
    have IH := rt d
    rcases h with h | ⟨z, w, ps, ts, hz, hw, hk, h3, h2, rfl, rfl⟩ | ⟨k, ps, ts, hk, h3, h2, rfl, rfl⟩
    · exact rt_leaf (d + 1) h hl hr q
    · obtain ⟨c1, c2, c3, c4⟩ := isOp_ne hz
      obtain ⟨b1, s1, e1, l1⟩ := hl
      obtain ⟨b2, s2, e2, l2⟩ := l1
      obtain ⟨f1, f2, f3, f4⟩ := lay_sign al40 (by decide) e2
      obtain ⟨g1, g2, g3⟩ := lay_word (cs_ne z) (cs_al z) f4 e1
      have hb : begA (strip s) = if tok (strip s2) = [41] ∧ z.want = some none then some (.fnd (adv (strip s2)) (.t [.s z.txt])) else some (.psh (strip s2) z []) := by
        rw [beg_word g2 c3]
        unfold begW
        rw [if_neg c4, g3, if_neg (by rw [f2]; exact fun h => h rfl), if_neg c2, f3]
      cases ps with
      | nil =>
        cases ts with
        | cons _ _ => exact h2.elim
        | nil =>
          obtain ⟨b3, s3, e3, l3⟩ := l2
          cases (show s3 = r from l3)
          obtain ⟨u1, u2, u3, u4⟩ := lay_sign al41 (by decide) e3
          have hn : z.want = some none := by
            rw [hw]
            cases w with
            | none => rfl
            | some j =>
              have : 0 = j := of_decide_eq_true hk
              rw [← this] at hw
              cases z <;> first | (cases hz; done) | (cases hw; done)
          rw [if_pos ⟨u2, hn⟩, u3] at hb
          exact (Run.begF hb q).mono (by have := bz_pos (d + 1); omega)
      | cons a ps =>
        have hne : tok (strip s2) ≠ [41] := by
          cases ts with
          | nil => exact h2.elim
          | cons ta ts =>
            obtain ⟨fw, fr, rfl, w0, wa⟩ := ex_first d h2.1
            obtain ⟨rest, er⟩ : ∃ rest, sep ((fw :: fr) :: ts) ++ [[41]] = fw :: rest := by
              cases ts with
              | nil => exact ⟨_, rfl⟩
              | cons tb ts => exact ⟨_, rfl⟩
            rw [er] at l2
            obtain ⟨b3, s3, e3, _⟩ := l2
            exact tok_first w0 wa e3
        rw [if_neg fun h => hne h.1] at hb
        have R := rts d IH (a :: ps) ts [] s2 r z w p o n (by simp) h2 hw c1 (fun h => absurd h c2) (by
          unfold cntz
          rw [if_neg c1, if_neg c2, List.length_nil, Nat.zero_add]
          exact hk) l2 q
        refine (Run.begP hb R).mono ?_
        have := Nat.mul_le_mul_right (Bz d + 1) h3
        show n + _ + 1 ≤ n + (1 + 3 * (Bz d + 1))
        omega
    · obtain ⟨b1, s1, e1, l1⟩ := hl
      obtain ⟨b2, s2, e2, l2⟩ := l1
      obtain ⟨f1, f2, f3, f4⟩ := lay_sign al40 (by decide) e2
      obtain ⟨g1, g2, g3⟩ := lay_word (cs_ne .atmost) (cs_al .atmost) f4 e1
      have hb : begA (strip s) = begN (strip s2) .atmost := by
        rw [beg_word g2 rfl]
        unfold begW
        rw [if_neg (by decide), g3, if_neg (by rw [f2]; exact fun h => h rfl), if_pos rfl, f3]
      cases ps with
      | nil =>
        cases ts with
        | cons _ _ => exact h2.elim
        | nil =>
          obtain ⟨b3, s3, e3, l3⟩ := l2
          obtain ⟨b4, s4, e4, l4⟩ := l3
          have l4 : s4 = r := l4
          subst s4
          obtain ⟨u1, u2, u3, u4⟩ := lay_sign al41 (by decide) e4
          obtain ⟨v1, v2, v3⟩ := lay_word (numL_ne k) (numL_al k) u4 e3
          have hn : begN (strip s2) .atmost = some (.fnd (strip r) (.t [.s Wd.atmost.txt, .i k])) := by
            unfold begN
            rw [v2, if_pos (numL_60 (by omega)), rdN_numL]
            dsimp only
            rw [v3, if_pos u2, u3]
          exact (Run.begF (hb.trans hn) q).mono (by have := bz_pos (d + 1); omega)
      | cons a ps =>
        cases ts with
        | nil => exact h2.elim
        | cons ta ts =>
          have er : sep ([numL k] :: ta :: ts) ++ [[41]] = numL k :: [44] :: (sep (ta :: ts) ++ [[41]]) := rfl
          rw [er] at l2
          obtain ⟨b3, s3, e3, l3⟩ := l2
          obtain ⟨b4, s4, e4, l4⟩ := l3
          obtain ⟨u1, u2, u3, u4⟩ := lay_sign al44 (by decide) e4
          obtain ⟨v1, v2, v3⟩ := lay_word (numL_ne k) (numL_al k) u4 e3
          have hn : begN (strip s2) .atmost = some (.psh (strip s4) .atmost [.i k]) := by
            unfold begN
            rw [v2, if_pos (numL_60 (by omega)), rdN_numL]
            dsimp only
            rw [v3, if_neg (by rw [u2]; decide), if_pos u2, u3]
          have R := rts d IH (a :: ps) (ta :: ts) [.i k] s4 r .atmost none p o n (by simp) h2 rfl (by decide) (fun _ => by simp) rfl l4 q
          refine (Run.begP (hb.trans hn) R).mono ?_
          have := Nat.mul_le_mul_right (Bz d + 1) h3
          show n + _ + 1 ≤ n + (1 + 3 * (Bz d + 1))
          omega
/-! ### the texts -/
def plain : List (List Nat) → List Nat
  | [] => []
  | t :: ts => t ++ ((if t = [44] then [32] else []) ++ plain ts)
theorem lay_plain : ∀ (ts : List (List Nat)) (b : Bool) (r : List Nat), (b = true → ts ≠ []) → ts.getLast? ≠ some [44] → Lay ts ((if b = true then [32] else []) ++ (plain ts ++ r)) r
  | [], b, r, h, _ => by
    cases b with
    | true => exact absurd rfl (h rfl)
    | false => rfl
  | t :: ts, b, r, h, hl => by
    refine ⟨if b = true then 1 else 0, (if t = [44] then [32] else []) ++ (plain ts ++ r), ?_, ?_⟩
    · have e : plain (t :: ts) ++ r = t ++ ((if t = [44] then [32] else []) ++ (plain ts ++ r)) := by
        show (t ++ ((if t = [44] then [32] else []) ++ plain ts)) ++ r = _
        rw [List.append_assoc, List.append_assoc]
      rw [e]
      cases b <;> rfl
    · have q := lay_plain ts (decide (t = [44])) r (fun e => by
        intro hn
        rw [hn] at hl
        exact hl (congrArg some (of_decide_eq_true e))) (fun e => by
        cases ts with
        | nil => cases e
        | cons c ts => exact hl (by rw [List.getLast?_cons_cons]; exact e))
      by_cases c : t = [44]
      · rw [decide_eq_true c] at q
        rw [if_pos c]
        exact q
      · rw [decide_eq_false c] at q
        rw [if_neg c]
        exact q
theorem leaf_last {e : Tr} {t : List (List Nat)} (h : Leaf e t) : t.getLast? ≠ some [44] := by
  rcases h with ⟨k, _, _, _, rfl⟩ | ⟨z, hz, _, rfl⟩
  · intro e
    cases e
  · rcases hz with rfl | rfl <;> decide
theorem ex_last : ∀ (d : Nat) {e : Tr} {t : List (List Nat)}, Ex d e t → t.getLast? ≠ some [44] := by
  have aux : ∀ a b X, (a :: b :: (X ++ [[41]]) : List (List Nat)).getLast? ≠ some [44] := fun a b X e => by
    rw [← List.cons_append, ← List.cons_append, List.getLast?_append] at e
    cases e
  intro d e t h
  cases d with
  | zero => exact leaf_last h
  | succ d =>
    rcases h with h | ⟨z, o, ps, ts, _, _, _, _, _, _, rfl⟩ | ⟨k, ps, ts, _, _, _, _, rfl⟩
    · exact leaf_last h
    · exact aux _ _ _
    · exact aux _ _ _
theorem tok_empty {s : List Nat} (h : s = []) : tok s = [] := by rw [h, tok_nil]
theorem strip_blank (k : Nat) : strip (List.replicate k 32) = [] := by
  have := strip_rep (s := []) k
  rwa [List.append_nil, strip_nil] at this
/-- the text of an expression, loosely laid, is read -/
theorem read_lay {d : Nat} {e : Tr} {t : List (List Nat)} {s : List Nat} {k : Nat} (h : Ex d e t) (hl : Lay t s (List.replicate k 32)) : Run (Bz d) (strip s) [] none (.ok e) := by
  have := rt d e t s _ [] (.ok e) 0 h hl (by
    cases k with
    | zero => trivial
    | succ k => exact al32) (by rw [strip_blank]; exact .done tok_nil)
  rwa [Nat.zero_add] at this
theorem read_plain {d : Nat} {e : Tr} {t : List (List Nat)} (h : Ex d e t) : Run (Bz d) (strip (plain t)) [] none (.ok e) := by
  have := lay_plain t false (List.replicate 0 32) (fun h => by cases h) (ex_last d h)
  refine read_lay (k := 0) h ?_
  rw [show (if false = true then [32] else []) ++ (plain t ++ List.replicate 0 32) = plain t from by rw [List.replicate_zero, List.append_nil] <;> rfl] at this
  exact this
theorem lay_p {d : Nat} {e : Tr} {t : List (List Nat)} (h : Ex d e t) (r : List Nat) : Lay t (plain t ++ r) r := lay_plain t false r (fun h => by cases h) (ex_last d h)
/-- text + ' )' -/
theorem err_close {d : Nat} {e : Tr} {t : List (List Nat)} (h : Ex d e t) : Run (Bz d) (strip (plain t ++ [32, 41])) [] none (.err 1) := by
  have := rt d e t _ _ [] (.err 1) 0 h (lay_p h [32, 41]) al32 (by
    rw [show strip [32, 41] = [41] from by rw [strip_c, if_pos rfl, strip_c, if_neg (by decide)]]
    exact .doneE (s := [41]) (by decide +kernel))
  rwa [Nat.zero_add] at this
theorem first_ne {d : Nat} {e : Tr} {t : List (List Nat)} (h : Ex d e t) (r : List Nat) : tok (strip (plain t ++ r)) ≠ [41] := by
  obtain ⟨w, q, rfl, h0, ha⟩ := ex_first d h
  obtain ⟨k, s', e, _⟩ := lay_p h r
  exact tok_first h0 ha e
theorem beg_open {z : Wd} {s : List Nat} (hz : isOp z = true) (h : tok (strip s) ≠ [41]) : begA (strip (z.cs ++ 40 :: s)) = some (.psh (strip s) z []) := by
  obtain ⟨c1, c2, c3, c4⟩ := isOp_ne hz
  obtain ⟨f1, f2, f3, f4⟩ := lay_sign (c := 40) (s1 := s) (s := 40 :: s) (k := 0) al40 (by decide) rfl
  obtain ⟨g1, g2, g3⟩ := lay_word (s := z.cs ++ 40 :: s) (k := 0) (cs_ne z) (cs_al z) f4 rfl
  rw [beg_word g2 c3]
  unfold begW
  rw [if_neg c4, g3, if_neg (by rw [f2]; exact fun h => h rfl), if_neg c2, f3, if_neg fun e => h e.1]
/-- 'and(' + text -/
theorem err_open {d : Nat} {e : Tr} {t : List (List Nat)} (h : Ex d e t) : Run (Bz d + 2) (strip ([97, 110, 100, 40] ++ plain t)) [] none (.err 0) := by
  have hb : begA (strip ([97, 110, 100, 40] ++ plain t)) = some (.psh (strip (plain t)) .and []) := by
    have q := beg_open (z := .and) (s := plain t ++ []) rfl (first_ne h [])
    rw [List.append_nil] at q
    exact q
  refine .begP hb ?_
  have q := rt d e t (plain t ++ []) [] [(.and, [])] (.err 0) 1 h (lay_p h []) trivial (.goE (by
    have e0 : strip [] = [] := strip_nil
    unfold goA
    rw [e0]
    show (if _ then _ else if _ then _ else _) = _
    rw [tok_nil, if_neg (fun e => by cases e.1), if_neg (fun e => by cases e.1)] <;> rfl))
  rw [List.append_nil] at q
  exact q.mono (by omega)
/-! ### the wrong texts -/
def wrongs : List (List Nat × Nat) := [([120, 48], 0), ([120, 49, 48, 48, 48], 0), ([120], 0), ([120, 48, 49], 0), ([110, 111, 116, 40, 120, 49, 44, 32, 120, 50, 41], 6), ([110, 111, 116, 40, 41], 4), ([120, 111, 114, 40, 120, 49, 41], 6), ([120, 111, 114, 40, 120, 49, 44, 41], 7), ([105, 102, 40, 120, 49, 44, 32, 120, 50, 41], 9), ([97, 110, 100, 40, 120, 49], 6), ([97, 110, 100, 32, 120, 49], 4), ([121, 101, 115, 40, 41], 3), ([110, 111, 114, 40, 120, 49, 41], 0), ([], 0), ([120, 49, 32, 120, 50], 3), ([97, 110, 100, 40, 120, 49, 44, 44, 120, 50, 41], 7), ([97, 116, 109, 111, 115, 116, 40, 120, 49, 44, 32, 120, 50, 41], 7), ([97, 116, 109, 111, 115, 116, 40, 50, 32, 120, 49, 41], 9), ([97, 116, 109, 111, 115, 116, 40, 48, 49, 41], 7), ([105, 109, 112, 108, 105, 101, 115, 40, 120, 49, 44, 32, 120, 50, 44, 32, 120, 51, 41], 14), ([41], 0), ([105, 102, 102, 40, 120, 49, 59, 32, 120, 50, 41], 6), ([88, 49], 0), ([111, 114, 40, 120, 49, 41, 41], 6), ([97, 116, 109, 111, 115, 116, 40, 41], 7), ([105, 102, 40, 120, 49, 44, 32, 120, 50, 44, 32, 120, 51, 44, 32, 120, 52, 41], 13)]
theorem wrongs_ok : (wrongs.all fun w => match absRun 40 (strip w.1) [] false with | some (some m) => decide (m + w.2 = w.1.length) | _ => false) = true := by decide +kernel
theorem wrongs_in : (wrongs.all fun w => match absRun 40 (strip (32 :: (w.1 ++ [59]))) [(.or, 1)] false with | some (some m) => decide (m ≤ w.1.length + 1) | _ => false) = true := by decide +kernel
theorem wrong_run {w : List Nat × Nat} (h : w ∈ wrongs) : ∃ m, m + w.2 = w.1.length ∧ Run 40 (strip w.1) [] none (.err m) := by
  have q := List.all_eq_true.mp wrongs_ok w h
  cases e : absRun 40 (strip w.1) [] false with
  | none => rw [e] at q; cases q
  | some x =>
    cases x with
    | none => rw [e] at q; cases q
    | some m =>
      rw [e] at q
      exact ⟨m, of_decide_eq_true q, abs_run 40 _ [] none m e⟩
/-- 'or(' + text + ', ' + wrong + ';' -/
theorem err_in {d : Nat} {e : Tr} {t : List (List Nat)} {w : List Nat × Nat} (h : Ex d e t) (hw : w ∈ wrongs) : ∃ m, m ≤ w.1.length + 1 ∧ Run (Bz d + 42) (strip ([111, 114, 40] ++ (plain t ++ 44 :: 32 :: (w.1 ++ [59])))) [] none (.err m) := by
  have q := List.all_eq_true.mp wrongs_in w hw
  cases e1 : absRun 40 (strip (32 :: (w.1 ++ [59]))) [(.or, 1)] false with
  | none => rw [e1] at q; cases q
  | some x =>
    cases x with
    | none => rw [e1] at q; cases q
    | some m =>
      rw [e1] at q
      refine ⟨m, of_decide_eq_true q, ?_⟩
      have hb : begA (strip ([111, 114, 40] ++ (plain t ++ 44 :: 32 :: (w.1 ++ [59])))) = some (.psh (strip (plain t ++ 44 :: 32 :: (w.1 ++ [59]))) .or []) := beg_open (z := .or) rfl (first_ne h _)
      refine .begP hb ?_
      have R : Run 40 (strip (32 :: (w.1 ++ [59]))) [(.or, [e])] none (.err m) := abs_run 40 _ [(.or, [e])] none m e1
      obtain ⟨u1, u2, u3, u4⟩ := lay_sign (c := 44) (s1 := 32 :: (w.1 ++ [59])) (s := 44 :: 32 :: (w.1 ++ [59])) (k := 0) al44 (by decide) rfl
      have g : goA (strip (44 :: 32 :: (w.1 ++ [59]))) .or (cntz .or (([] : List Tr).length + 1)) = some (.psh (strip (32 :: (w.1 ++ [59])))) := by
        unfold goA
        show (if _ then _ else if _ then _ else _) = _
        rw [if_neg (by rw [u2]; exact fun e => by cases e.1), if_pos ⟨u2, rfl⟩, u3]
      have q2 := rt d e t _ _ [(.or, [])] (.err m) 41 h (lay_p h (44 :: 32 :: (w.1 ++ [59]))) (show Cl (44 :: _) from al44) (.goP g R)
      exact q2.mono (by omega)
end Ky

namespace Ky
open PySem PySem.Spec PyProof.Rows L2
/-! ### the heap is kept but at told places -/
structure KB (S : List Addr) (H H' : Hp) : Prop where
  keep : ∀ b o, b ∉ S → NoTab o → H b = some o → H' b = some o
  tup : ∀ b xs, H b = some (.tup xs) → H' b = some (.tup xs)
  tab : ∀ P, GxR.TabG H P → GxR.TabG H' P
  free : ∀ b, H' b = none → H b = none
theorem KB.refl (S : List Addr) (H : Hp) : KB S H H := ⟨fun _ _ _ _ h => h, fun _ _ h => h, fun _ h => h, fun _ h => h⟩
theorem KB.trans {S : List Addr} {H H1 H2 : Hp} (a : KB S H H1) (b : KB S H1 H2) : KB S H H2 := ⟨fun c o m n h => b.keep c o m n (a.keep c o m n h), fun c xs h => b.tup c xs (a.tup c xs h), fun P h => b.tab P (a.tab P h), fun c h => a.free c (b.free c h)⟩
theorem KB.mono {S T : List Addr} {H H1 : Hp} (a : KB S H H1) (h : ∀ b ∈ S, b ∈ T) : KB T H H1 := ⟨fun c o m n e => a.keep c o (fun z => m (h c z)) n e, a.tup, a.tab, a.free⟩
theorem Kept.kb {S : List Addr} {H H1 : Hp} (a : Kept H H1) : KB S H H1 := ⟨fun c o _ n e => a.keep c o n e, fun c xs e => a.tup e, a.tab, a.free⟩
theorem KB.kept {H H1 : Hp} (a : KB [] H H1) : Kept H H1 := ⟨fun c o n e => a.keep c o (List.not_mem_nil) n e, a.tab, a.free⟩
/-- a place that holds no tuple and no table is written anew -/
theorem KB.put {S : List Addr} {H : Hp} {a : Addr} {o o' : HO} (ha : a ∈ S) (h : H a = some o) (n : NoTab o) (nt : ∀ xs, o ≠ .tup xs) : KB S H (upd H a o') := ⟨fun b u m _ e => by
  rw [upd_ne (fun z => m (by rw [z]; exact ha))]
  exact e, fun b xs e => by
  rw [upd_ne (fun z => by
    rw [z, h] at e
    exact nt xs (Option.some.inj e))]
  exact e, fun P hP => by
  obtain ⟨ps, h1, h2⟩ := hP
  exact ⟨ps, by
    rw [upd_ne (fun z => by
      rw [z, h] at h1
      exact n ps (Option.some.inj h1))]
    exact h1, h2⟩, fun b hb => (upd_free hb).1⟩
theorem KB.mut {S : List Addr} {H H' : Hp} {p : Addr} {o : HO} (e : KB S H H') (h : H p = none) : KB S H (upd H' p o) := ⟨fun b u m n hb => by
  rw [upd_ne (ne_of_none hb h)]
  exact e.keep b u m n hb, fun b xs hb => by
  rw [upd_ne (ne_of_none hb h)]
  exact e.tup b xs hb, fun P hP => by
  obtain ⟨ps, h1, h2⟩ := hP
  obtain ⟨qs, g1, g2⟩ := e.tab P ⟨ps, h1, h2⟩
  exact ⟨qs, by rw [upd_ne (ne_of_none h1 h)]; exact g1, g2⟩, fun b hb => e.free b (upd_free hb).1⟩
/-- what was not there at the start may change -/
theorem KB.fresh {S : List Addr} {H H1 H2 : Hp} (a : Kept H H1) (b : KB S H1 H2) (f : ∀ c ∈ S, H c = none) : Kept H H2 := ⟨fun c o n e => b.keep c o (fun z => by rw [f c z] at e; cases e) n (a.keep c o n e), fun P h => b.tab P (a.tab P h), fun c h => a.free c (b.free c h)⟩
theorem KB.lst {S : List Addr} {H H1 : Hp} {b : Addr} {xs : List V} (a : KB S H H1) (m : b ∉ S) (h : H b = some (.lst xs)) : H1 b = some (.lst xs) := a.keep b _ m noTab_lst h
theorem noTab_ins {C dx : Addr} {fs : List (Str × V)} : NoTab (.ins C dx fs) := fun ps e => by cases e
theorem KB.ins {S : List Addr} {H H1 : Hp} {b C dx : Addr} {fs : List (Str × V)} (a : KB S H H1) (m : b ∉ S) (h : H b = some (.ins C dx fs)) : H1 b = some (.ins C dx fs) := a.keep b _ m noTab_ins h
theorem TrAt.kb {S : List Addr} {H H' : Hp} {a : Tr} {v : V} (h : TrAt H a v) (k : KB S H H') : TrAt H' a v := TrAt.upH (fun p xs h => k.tup p xs h) a v h
theorem TrsAt.kb {S : List Addr} {H H' : Hp} {l : List Tr} {xs : List V} (h : TrsAt H l xs) (k : KB S H H') : TrsAt H' l xs := TrsAt.upH (fun p xs h => k.tup p xs h) l xs h
/-! ### texts of codes -/
@[irreducible] def mkS (l : List Nat) : Str := ⟨l.toArray⟩
theorem tl_mkS (l : List Nat) : TL.tl (mkS l) = l := by
  unfold mkS
  show l.toArray.toList = l
  simp
theorem mkS_tl (z : Str) : mkS (TL.tl z) = z := TL.ext_tl (tl_mkS _)
theorem mkS_len (l : List Nat) : (mkS l).length = l.length := by rw [TL.len_tl, tl_mkS]
/-! ### instances with the fields text, at, token -/
abbrev fsO (x p t : V) : List (Str × V) := [(("text" : Str), x), (("at" : Str), p), (("token" : Str), t)]
abbrev tO (C dx : Addr) (z : Str) (p : Int) (t : Str) : HO := .ins C dx (fsO (.str z) (.int p) (.str t))
structure Tc (K : PySem.W.Frag) (C : Addr) : Prop where
  cl : Cls K C
  nT : NoAttr K C "text"
  nA : NoAttr K C "at"
  nK : NoAttr K C "token"
theorem lk_text {x p t : V} : (fsO x p t).lookup ("text" : Str) = some x := by simp [List.lookup]
theorem ne1 : (("at" : Str) == ("text" : Str)) = false := by decide
theorem ne2 : (("token" : Str) == ("text" : Str)) = false := by decide
theorem ne3 : (("token" : Str) == ("at" : Str)) = false := by decide
theorem lk_at {x p t : V} : (fsO x p t).lookup ("at" : Str) = some p := by simp [List.lookup, ne1]
theorem lk_token {x p t : V} : (fsO x p t).lookup ("token" : Str) = some t := by simp [List.lookup, ne2, ne3]
theorem put_text0 {x : V} : putF "text" x [] = [(("text" : Str), x)] := rfl
theorem put_at0 {x p : V} : putF "at" p [(("text" : Str), x)] = [(("text" : Str), x), (("at" : Str), p)] := by
  unfold putF
  rw [if_neg (by decide)] <;> rfl
theorem put_token0 {x p t : V} : putF "token" t [(("text" : Str), x), (("at" : Str), p)] = fsO x p t := by
  unfold putF
  rw [if_neg (by decide)]
  unfold putF
  rw [if_neg (by decide)] <;> rfl
theorem put_at {x p t q : V} : putF "at" q (fsO x p t) = fsO x q t := by
  unfold putF
  rw [if_neg (by decide)]
  unfold putF
  rw [if_pos rfl]
theorem put_token {x p t q : V} : putF "token" q (fsO x p t) = fsO x p q := by
  unfold putF
  rw [if_neg (by decide)]
  unfold putF
  rw [if_neg (by decide)]
  unfold putF
  rw [if_pos rfl]
def sPut (K : PySem.W.Frag) (f : Str) (y : V) (D : Ends) (σ : L2.St) (x : V) (H2 : Hp) : Prop := ∃ a C dx fs, x = .ref a ∧ H2 a = some (.ins C dx fs) ∧ Cls K C ∧ NoAttr K C f ∧ fs.length < 1000 ∧ D.nx σ (upd H2 a (.ins C dx (putF f y fs)))
section
variable {K : PySem.W.Frag} {σ : L2.St} {H : Hp} {Q : VK} {D : Ends} {i : Nat} {a C dx : Addr} {fs : List (Str × V)} {v x p t y : V} {te ta : TE} {f : Str}
theorem w_sfld0 (q : te σ H fun y H1 => ta σ H1 fun x H2 => sPut K f y D σ x H2) : sFld K ta te f D σ H := q
theorem w_text (T : Tc K C) (hs : σ[i]? = some (some (.ref a))) (h : H a = some (.ins C dx (fsO x p t))) (q : Q x H) : tFld K (tVar i) "text" σ H Q := w_fld T.cl T.nT hs h lk_text q
theorem w_at (T : Tc K C) (hs : σ[i]? = some (some (.ref a))) (h : H a = some (.ins C dx (fsO x p t))) (q : Q p H) : tFld K (tVar i) "at" σ H Q := w_fld T.cl T.nA hs h lk_at q
theorem w_token (T : Tc K C) (hs : σ[i]? = some (some (.ref a))) (h : H a = some (.ins C dx (fsO x p t))) (q : Q t H) : tFld K (tVar i) "token" σ H Q := w_fld T.cl T.nK hs h lk_token q
theorem w_putAt (T : Tc K C) (h : H a = some (.ins C dx (fsO x p t))) (q : D.nx σ (upd H a (.ins C dx (fsO x y t)))) : sPut K "at" y D σ (.ref a) H := ⟨a, C, dx, _, rfl, h, T.cl, T.nA, by show 3 < 1000; decide, by rw [put_at]; exact q⟩
theorem w_putToken (T : Tc K C) (h : H a = some (.ins C dx (fsO x p t))) (q : D.nx σ (upd H a (.ins C dx (fsO x p y)))) : sPut K "token" y D σ (.ref a) H := ⟨a, C, dx, _, rfl, h, T.cl, T.nK, by show 3 < 1000; decide, by rw [put_token]; exact q⟩
theorem w_putText0 (T : Tc K C) (h : H a = some (.ins C dx [])) (q : D.nx σ (upd H a (.ins C dx [(("text" : Str), y)]))) : sPut K "text" y D σ (.ref a) H := ⟨a, C, dx, _, rfl, h, T.cl, T.nT, by show 0 < 1000; decide, q⟩
theorem w_putAt0 (T : Tc K C) (h : H a = some (.ins C dx [(("text" : Str), x)])) (q : D.nx σ (upd H a (.ins C dx [(("text" : Str), x), (("at" : Str), y)]))) : sPut K "at" y D σ (.ref a) H := ⟨a, C, dx, _, rfl, h, T.cl, T.nA, by show 1 < 1000; decide, by rw [put_at0]; exact q⟩
theorem w_putToken0 (T : Tc K C) (h : H a = some (.ins C dx [(("text" : Str), x), (("at" : Str), p)])) (q : D.nx σ (upd H a (.ins C dx (fsO x p y)))) : sPut K "token" y D σ (.ref a) H := ⟨a, C, dx, _, rfl, h, T.cl, T.nK, by show 2 < 1000; decide, by rw [put_token0]; exact q⟩
end
theorem w_nonR {A : Prop} (q : A) : (V.non = V.non) ∧ A := ⟨rfl, q⟩
theorem w_mkx {C : Addr} {ta : TA} {σ : L2.St} {H : Hp} {Q : XK} (q : ta σ H fun vs H1 => ∃ n : Int, vs = [.int n] ∧ n.natAbs.log2 < 1000 ∧ ∀ d, H1 d = none → Q (.ref C) (some d) (upd H1 d (.xd [(("at" : Str), .int n)]))) : tMkX C ta σ H Q := q
end Ky

namespace Ky
open PySem PySem.Spec PyProof.Rows L2
local macro_rules | `(tactic| walk_at "rd") => `(tactic| repeat (first
  | with_reducible refine w_for1 ?_
  | with_reducible refine w_for2 ?_
  | with_reducible refine w_forL ?_
  | with_reducible refine w_forT ?_
  | with_reducible refine w_lc1 ?_
  | with_reducible refine w_lcL ?_
  | with_reducible refine w_lcT ?_
  | with_reducible refine w_dcL ?_
  | with_reducible refine w_dcT ?_
  | with_reducible refine w_seq ?_
  | with_reducible refine w_asg ?_
  | with_reducible refine w_ret ?_
  | with_reducible refine w_drop ?_
  | with_reducible refine w_ifs ?_
  | ((with_reducible refine' w_var ?hh ?_); (case hh => exact rfl))
  | with_reducible refine w_c ?_
  | with_reducible refine w_op ?_
  | with_reducible refine w_un ?_
  | with_reducible refine w_I0 ?_
  | with_reducible refine w_U ?_
  | with_reducible refine w_nil ?_
  | with_reducible refine w_cons ?_
  | with_reducible refine w_call ?_
  | with_reducible refine w_cb ?_
  | with_reducible refine w_test ?_
  | with_reducible refine w_B ?_
  | with_reducible refine w_bl ?_
  | with_reducible refine w_and ?_
  | with_reducible refine w_or ?_
  | with_reducible refine w_not ?_
  | with_reducible refine w_ife ?_
  | with_reducible refine w_gRd ?_
  | with_reducible refine w_andV ?_
  | with_reducible refine w_orV ?_
  | with_reducible refine w_notV ?_
  | with_reducible refine w_chain ?_
  | with_reducible refine w_din ?_
  | with_reducible refine w_isi_ii ?_
  | with_reducible refine w_isi_bi ?_
  | with_reducible refine w_isi_bb ?_
  | with_reducible refine w_isi_bt ?_
  | with_reducible refine w_isi_si ?_
  | with_reducible refine w_isi_nt ?_
  | with_reducible refine w_isi_ib ?_
  | with_reducible refine w_isi_it ?_
  | with_reducible refine w_isi_st ?_
  | ((with_reducible refine w_isi_tt ?h1 ?_); (case h1 => first | assumption | exact upd_same))
  | with_reducible refine if_t rfl ?_
  | with_reducible refine if_f rfl ?_
  | with_reducible refine w_tup ?_
  | with_reducible refine w_lst ?_
  | with_reducible refine w_next ?_
  | with_reducible refine w_bm ?_
  | with_reducible refine w_sl ?_
  | with_reducible refine w_part ?_
  | with_reducible refine w_nop ?_
  | with_reducible refine w_isI ?_
  | with_reducible refine w_yes ?_
  | with_reducible refine w_gn ?_
  | with_reducible refine w_gsub ?_
  | ((with_reducible refine' w_setL ?h1 ?h2 ?_); (case h1 => first | assumption | exact upd_same); (case h2 => exact rfl))
  | with_reducible refine w_asgG ?_
  | with_reducible refine w_m1 ?_
  | with_reducible refine w_isS ?_
  | with_reducible refine w_tyS ?_
  | ((with_reducible refine' w_tyL ?h1 ?_); (case h1 => first | assumption | exact upd_same))
  | ((with_reducible refine' w_ixT ?h1 ?h2 ?_); (case h1 => first | assumption | exact upd_same); (case h2 => exact rfl))
  | ((with_reducible refine' w_ixL ?h1 ?h2 ?_); (case h1 => first | assumption | exact upd_same); (case h2 => exact rfl))
  | ((with_reducible refine w_eq ?h1 ?_); (case h1 => exact rfl))
  | ((with_reducible refine w_ne ?h1 ?_); (case h1 => exact rfl))
  | ((with_reducible refine' w_text ?hT ?h1 ?h2 ?_); (case hT => assumption); (case h1 => exact rfl); (case h2 => first | assumption | exact upd_same))
  | ((with_reducible refine' w_at ?hT ?h1 ?h2 ?_); (case hT => assumption); (case h1 => exact rfl); (case h2 => first | assumption | exact upd_same))
  | ((with_reducible refine' w_token ?hT ?h1 ?h2 ?_); (case hT => assumption); (case h1 => exact rfl); (case h2 => first | assumption | exact upd_same))
  | with_reducible refine w_sfld0 ?_
  | with_reducible refine w_mkx ?_
  | with_reducible refine w_nonR ?_
  | with_reducible refine w_bm0 ?_
  | ((with_reducible refine' w_putAt ?hT ?h2 ?_); (case hT => assumption); (case h2 => first | assumption | exact upd_same))
  | ((with_reducible refine' w_putToken ?hT ?h2 ?_); (case hT => assumption); (case h2 => first | assumption | exact upd_same))
  | dsimp only [List.set_cons_zero, List.set_cons_succ, List.append_nil, List.cons_append, List.nil_append, cxOf]))

open TL
def optV : Option Nat → V
  | none => .non
  | some n => .int n
def spReadVar (Pt : Addr) : Sp := fun vs H Q _ => ∃ (t : Str) (o : Option Nat), vs = [.str t] ∧ rdVar (tl t) = some o ∧ GxR.TabG H Pt ∧ ∀ H', Kept H H' → Q (optV o) H'
/-- the object at a place of the text -/
abbrev stO (C dx : Addr) (z : Str) (s : List Nat) : HO := tO C dx z (((tl z).length : Int) - s.length) (mkS (tok s))
def Suf (s : List Nat) (z : Str) : Prop := ∃ pre, tl z = pre ++ s
def spStep (C : Addr) : Sp := fun vs H Q _ => ∃ (a dx : Addr) (z t : Str) (p : Nat), vs = [.ref a] ∧ H a = some (tO C dx z p t) ∧ p + (tl t).length ≤ (tl z).length ∧ (tl z).length ≤ 100000 ∧
  ∀ H', KB [a] H H' → H' a = some (stO C dx z (strip ((tl z).drop (p + (tl t).length)))) → Q .non H'
theorem strip_suf (s : List Nat) : ∃ k, s = List.replicate k 32 ++ strip s := by
  induction s with
  | nil => exact ⟨0, by rw [strip_nil] <;> rfl⟩
  | cons c s ih =>
    by_cases h : c = 32
    · obtain ⟨k, e⟩ := ih
      refine ⟨k + 1, ?_⟩
      rw [show strip (c :: s) = strip s from by rw [strip_c, if_pos h], List.replicate_succ, List.cons_append, ← e, h]
    · exact ⟨0, by rw [strip_cons h] <;> rfl⟩
theorem cut1 {z : Str} {i : Nat} : tl (cutS z (some (i : Int)) (some ((i : Int) + 1))) = ((tl z).drop i).take 1 := by
  rw [tl_cut]
  have e1 : ∀ d, HT.sIx (tl z).length d (some (i : Int)) = min i (tl z).length := fun d => by
    unfold HT.sIx
    show (if (i : Int) < 0 then _ else _) = _
    rw [if_neg (by omega)]
    omega
  have e2 : ∀ d, HT.sIx (tl z).length d (some ((i : Int) + 1)) = min (i + 1) (tl z).length := fun d => by
    unfold HT.sIx
    show (if (i : Int) + 1 < 0 then _ else _) = _
    rw [if_neg (by omega)]
    omega
  rw [e1, e2]
  by_cases h : i < (tl z).length
  · rw [Nat.min_eq_left (by omega), Nat.min_eq_left (by omega), show i + 1 - i = 1 from by omega]
  · rw [Nat.min_eq_right (by omega), Nat.min_eq_right (by omega), Nat.sub_self, List.drop_length, List.drop_of_length_le (by omega)] <;> rfl
theorem cutij {z : Str} {i j : Nat} : tl (cutS z (some (i : Int)) (some (j : Int))) = ((tl z).drop i).take (j - i) := by
  rw [tl_cut]
  have e1 : ∀ (i : Nat) d, HT.sIx (tl z).length d (some (i : Int)) = min i (tl z).length := fun i d => by
    unfold HT.sIx
    show (if (i : Int) < 0 then _ else _) = _
    rw [if_neg (by omega)]
    omega
  rw [e1, e1]
  by_cases h : i < (tl z).length
  · rw [Nat.min_eq_left (by omega : i ≤ (tl z).length)]
    by_cases h2 : j ≤ (tl z).length
    · rw [Nat.min_eq_left h2]
    · rw [Nat.min_eq_right (by omega), List.take_of_length_le (by rw [List.length_drop]; exact Nat.le_refl _), List.take_of_length_le (by rw [List.length_drop]; omega)]
  · rw [Nat.min_eq_right (by omega : (tl z).length ≤ i), List.drop_length, List.drop_of_length_le (by omega), List.take_nil, List.take_nil]
def hdAl : List Nat → Bool
  | [] => false
  | c :: _ => al c
theorem isalnum_one {z : Str} {l : List Nat} (h : tl z = l.take 1) : Txt.isalnum z = hdAl l := by
  have e : z = mkS (l.take 1) := ext_tl (by rw [h, tl_mkS])
  rw [e]
  unfold mkS
  cases l with
  | nil => rfl
  | cons c r =>
    show (decide ((#[c] : Array Nat).size > 0) && (#[c] : Array Nat).all Unicode.isAlnum) = Unicode.isAlnum c
    simp
theorem alR_hd {u : List Nat} (h : hdAl u = false) : alR u = [] := by
  cases u with
  | nil => rfl
  | cons c r =>
    show (c :: r).takeWhile al = []
    rw [List.takeWhile_cons, show al c = false from h] <;> rfl
theorem alR_cons {c : Nat} {r : List Nat} (h : al c = true) : alR (c :: r) = c :: alR r := by
  show (c :: r).takeWhile al = _
  rw [List.takeWhile_cons, h] <;> rfl
theorem tl_sp : tl (Str.ofString " ") = [32] := by
  rw [tl_ofString]
  rfl
section
variable {P : Program} {w : World} {K : PySem.W.Frag} {mg : Str → Option Value} {base : Heap} {uG uP uD : Value} {f c Pt C : Addr} {fd : FuncData}
theorem ok_read_variable (F : Fun K "read_variable" "read_variable" s_read_variable f fd) (T : Tx K mg uG uP uD) (D_read_number : Df P w K mg base 1 "read_number" ["text"] (spReadN Pt)) (D_is_variable : Df P w K mg base 2 "is_variable" ["value"] spVarT) : FnOk P w K mg base CX0 3 f fd ["item"] (spReadVar Pt) := by
  refine F.ok sc_read_variable (fun vs H Q E h => ?_) (fun cdv A outer s H vs Q E hr h => ?_)
  · obtain ⟨t, o, rfl, _⟩ := h
    rfl
  · obtain ⟨t, o, rfl, ho, hT, k⟩ := h
    unfold rdVar at ho
    by_cases h60 : (tl t).length ≤ 60
    · rw [if_pos h60] at ho
      have ho := Option.some.inj ho
      refine ⟨_, (pss_cons (ps_set (i := 1) sc_read_variable.nd rfl (.inl rfl) (pe_df D_read_number (hr.mono (by decide)) (by rfl) (pa_cons (pv 0) pa_nil)))
    (pss_one (ps_ret (pe_ifExp (pt_val (pe_df D_is_variable (hr.mono (by decide)) (by rfl) (pa_cons (pv 1) pa_nil))) (pv 1) pe_non)))), ?_⟩
      rw [show start n_read_variable [(.str t : V)] = ([some (.str t), none] : List (Option V)) from rfl]
      walk_at "rd"
      refine ⟨t, rfl, h60, hT, fun H1 k1 e => ?_, fun H1 n k1 e hn => ?_⟩
      · walk_at "rd"
        refine ⟨.non, .n, rfl, by unfold TrAt; rfl, ?_⟩
        walk_at "rd"
        rw [e] at ho
        rw [← ho] at k
        exact k _ k1
      · walk_at "rd"
        refine ⟨.int n, .i n, rfl, by unfold TrAt; rfl, ?_⟩
        rw [e] at ho
        dsimp only at ho
        walk_at "rd"
        have ev : varT (.i n) = decide (1 ≤ n ∧ n ≤ 999) := by
          show isVar _ = _
          unfold isVar
          rw [Bool.eq_iff_iff, Bool.and_eq_true, decide_eq_true_eq, decide_eq_true_eq, decide_eq_true_eq]
          omega
        rw [ev]
        by_cases c : 1 ≤ n ∧ n ≤ 999
        · rw [if_pos c] at ho
          refine if_t (decide_eq_true c) ?_
          walk_at "rd"
          rw [← ho] at k
          exact k _ k1
        · rw [if_neg c] at ho
          refine if_f (decide_eq_false c) ?_
          walk_at "rd"
          rw [← ho] at k
          exact k _ k1
    · rw [if_neg h60] at ho
      cases ho
theorem ok_step (F : Fun K "step" "Tokens.step" s_tok_step f fd) (T : Tx K mg uG uP uD) (TC : Tc K C) : FnOk P w K mg base CX0 1 f fd ["self"] (spStep C) := by
  refine F.ok sc_tok_step (fun vs H Q E h => ?_) (fun cdv A outer s H vs Q E hr h => ?_)
  · obtain ⟨a, dx, z, t, p, rfl, _⟩ := h
    rfl
  · obtain ⟨a, dx, z, t, p, rfl, hO, hp, hz, k⟩ := h
    refine ⟨_, (pss_cons (ps_set (i := 1) sc_tok_step.nd rfl (.inl rfl) (pe_op op_add (pe_fld (pv 0) rfl) (pe_callB call_len_str (by rfl) T.z_len (by decide +kernel) (pa_cons (pe_fld (pv 0) rfl) pa_nil))))
    (pss_cons (ps_while PassesOwn.never (pt_cmpR op_eq (pe_slice sl_str (pe_fld (pv 0) rfl) (po_some (pv 1)) (po_some (pe_op op_add (pv 1) pe_int))) pe_str (nomark _))
      (pss_one (ps_aug (i := 1) sc_tok_step.nd rfl (.inl rfl) pe_int ip_add)))
    (pss_cons (ps_set (i := 2) sc_tok_step.nd rfl (.inl rfl) (pv 1))
    (pss_cons (ps_while PassesOwn.never (pt_val (pe_bm0 PySem.F.plainAttrs_str PySem.F.slot_str_isalnum PySem.F.type_str_isalnum mt_isalnum (pe_slice sl_str (pe_fld (pv 0) rfl) (po_some (pv 2)) (po_some (pe_op op_add (pv 2) pe_int)))))
      (pss_one (ps_aug (i := 2) sc_tok_step.nd rfl (.inl rfl) pe_int ip_add)))
    (pss_cons (ps_fld (pv 0) (pv 1) rfl)
    (pss_one (ps_fld (pv 0) (pe_slice sl_str (pe_fld (pv 0) rfl) (po_some (pv 1)) (po_some (pe_callB (call_max2 rfl) (by rfl) T.z_max (by decide +kernel) (pa_cons (pv 2) (pa_cons (pe_op op_add (pv 1) pe_int) pa_nil))))) rfl))))))), ?_⟩
    rw [show start n_tok_step [(.ref a : V)] = ([some (.ref a), none, none] : List (Option V)) from rfl]
    walk_at "rd"
    have tz : z.length ≤ sizeLine := by rw [len_tl]; exact Nat.le_trans hz (by decide)
    refine ⟨t, rfl, by rw [len_tl]; exact Nat.le_trans (by omega) (show 100000 ≤ sizeLine by decide), ?_⟩
    rw [len_tl]
    walk_at "rd"
    have eq0 : ((p : Int) + ((tl t).length : Int)) = ((p + (tl t).length : Nat) : Int) := by omega
    rw [eq0]
    generalize hq : p + (tl t).length = q at hp k ⊢
    refine ⟨fun m σ' H' => ∃ i : Nat, m = (tl z).length - i ∧ i ≤ (tl z).length ∧ H' = H ∧ σ' = [some (.ref a), some (.int (i : Int)), none] ∧ strip ((tl z).drop q) = strip ((tl z).drop i), ⟨_, q, rfl, hp, rfl, rfl, rfl⟩, ?_⟩
    rintro m σ' H' ⟨i, rfl, hi, rfl, rfl, es⟩
    have step2 : ∀ i : Nat, i ≤ (tl z).length → strip ((tl z).drop q) = (tl z).drop i → (tWhile (tB (tBM0 K "str" (fun x xs H Q => ∃ a, x = V.str a ∧ xs = [] ∧ True ∧ Q (V.bl (Txt.isalnum a)) H) (tSl rSlS (tFld K (tVar 0) (Str.ofString "text")) (tPart (tVar 2)) (tPart (tOp (rI0 fun i j => V.int (i + j)) (tVar 2) (tC (V.int 1)))))))
          (tAug 2 (tC (V.int 1)) (ipI fun i j => i + j))) { nx := fun σ H => (tSeq (sFld K (tVar 0) (tVar 1) (Str.ofString "at")) (sFld K (tVar 0) (tSl rSlS (tFld K (tVar 0) (Str.ofString "text")) (tPart (tVar 1)) (tPart (tCB (fun xs H Q => ∃ i j, xs = [V.int i, V.int j] ∧ Q (V.int (if j > i then j else i)) H) (tCons (tVar 2) (tCons (tOp (rI0 fun i j => V.int (i + j)) (tVar 1) (tC (V.int 1))) tNil))))) (Str.ofString "token"))) { nx := fun _ H' => Q V.non H', rt := Q } σ H, rt := Q } [some (.ref a), some (.int (i : Int)), some (.int (i : Int))] H' := by
      intro i hi es
      refine ⟨fun m σ' H2 => ∃ j : Nat, m = (tl z).length - (i + j) ∧ i + j ≤ (tl z).length ∧ H2 = H' ∧ σ' = [some (.ref a), some (.int (i : Int)), some (.int ((i + j : Nat) : Int))] ∧ (alR ((tl z).drop i)).length = j + (alR ((tl z).drop (i + j))).length, ⟨_, 0, rfl, hi, rfl, rfl, by rw [Nat.add_zero, Nat.zero_add]⟩, ?_⟩
      rintro m σ' H2 ⟨j, rfl, hj, rfl, rfl, ej⟩
      walk_at "rd"
      refine ⟨z, rfl, tz, ?_⟩
      refine ⟨rfl, _, rfl, rfl, trivial, _, rfl, ?_⟩
      rw [isalnum_one (cut1 (z := z) (i := i + j))]
      cases hb : hdAl ((tl z).drop (i + j)) with
      | true =>
        refine if_t rfl ?_
        refine ⟨fun σ2 H3 => σ2 = [some (.ref a), some (.int (i : Int)), some (.int (((i + j : Nat) : Int) + 1))] ∧ H3 = H2, ?_, ⟨_, rfl, _, _, rfl, rfl, rfl, rfl⟩⟩
        rintro σ2 H3 ⟨rfl, rfl⟩
        cases hu : (tl z).drop (i + j) with
        | nil =>
          rw [hu] at hb
          cases hb
        | cons c r =>
          have hlt : i + j < (tl z).length := by
            have := congrArg List.length hu
            rw [List.length_drop, List.length_cons] at this
            omega
          rw [hu] at hb
          refine ⟨_, ?_, j + 1, rfl, hlt, rfl, by rw [show (((i + j : Nat) : Int) + 1) = ((i + (j + 1) : Nat) : Int) from by omega], ?_⟩
          · omega
          · have e2 : (tl z).drop (i + (j + 1)) = r := by rw [← Nat.add_assoc, ← List.drop_drop, hu]; rfl
            rw [e2, ej, hu, alR_cons hb, List.length_cons]
            omega
      | false =>
        refine if_f rfl ?_
        rw [alR_hd hb, List.length_nil, Nat.add_zero] at ej
        walk_at "rd"
        refine ⟨_, _, rfl, ?_⟩
        walk_at "rd"
        refine ⟨z, rfl, tz, ?_⟩
        walk_at "rd"
        have em : (if (i : Int) + 1 > ((i + j : Nat) : Int) then (i : Int) + 1 else ((i + j : Nat) : Int)) = ((i + max j 1 : Nat) : Int) := by
          by_cases c : (i : Int) + 1 > ((i + j : Nat) : Int)
          · rw [if_pos c]
            omega
          · rw [if_neg c]
            omega
        rw [em]
        have k1 : KB [a] H2 (upd H2 a (HO.ins C dx (fsO (V.str z) (V.int (i : Int)) (V.str t)))) := KB.put (List.mem_singleton.mpr rfl) hO noTab_ins (fun xs e => by cases e)
        have k2 : KB [a] (upd H2 a (HO.ins C dx (fsO (V.str z) (V.int (i : Int)) (V.str t)))) (upd (upd H2 a (HO.ins C dx (fsO (V.str z) (V.int (i : Int)) (V.str t)))) a (HO.ins C dx (fsO (V.str z) (V.int (i : Int)) (V.str (cutS z (some (i : Int)) (some ((i + max j 1 : Nat) : Int))))))) := KB.put (List.mem_singleton.mpr rfl) upd_same noTab_ins (fun xs e => by cases e)
        refine k _ (k1.trans k2) ?_
        rw [upd_same, es]
        have e4 : cutS z (some (i : Int)) (some ((i + max j 1 : Nat) : Int)) = mkS (tok ((tl z).drop i)) := ext_tl (by
          rw [cutij, tl_mkS, show i + max j 1 - i = max j 1 from by omega]
          unfold tok
          rw [ej])
        have e5 : (i : Int) = ((tl z).length : Int) - (((tl z).drop i).length : Int) := by
          rw [List.length_drop]
          omega
        rw [e4]
        show some (tO C dx z (i : Int) _) = some (tO C dx z (((tl z).length : Int) - (((tl z).drop i).length : Int)) _)
        rw [← e5]
    walk_at "rd"
    refine ⟨z, rfl, tz, ?_⟩
    walk_at "rd"
    have eu := cut1 (z := z) (i := i)
    cases hu : (tl z).drop i with
    | cons c r =>
      rw [hu] at eu es
      by_cases c32 : c = 32
      · refine if_t (decide_eq_true (str_eq_iff.mpr (by rw [eu, tl_sp, c32] <;> rfl))) ?_
        have hlt : i < (tl z).length := by
          have := congrArg List.length hu
          rw [List.length_drop, List.length_cons] at this
          omega
        refine ⟨fun σ2 H2 => σ2 = [some (.ref a), some (.int ((i : Int) + 1)), none] ∧ H2 = H', ?_, ⟨_, rfl, _, _, rfl, rfl, rfl, rfl⟩⟩
        rintro σ2 H2 ⟨rfl, rfl⟩
        refine ⟨_, ?_, i + 1, rfl, hlt, rfl, by rw [show ((i : Int) + 1) = ((i + 1 : Nat) : Int) from by omega], ?_⟩
        · omega
        · have e3 : (tl z).drop (i + 1) = r := by rw [← List.drop_drop, hu]; rfl
          rw [e3, es]
          rw [strip_c, if_pos c32]
      · refine if_f (decide_eq_false fun e => c32 (by
          have := str_eq_iff.mp e
          rw [eu, tl_sp] at this
          exact (List.cons.inj this).1)) ?_
        walk_at "rd"
        exact step2 i hi (by rw [es, hu, strip_cons c32])
    | nil =>
      rw [hu] at eu es
      refine if_f (decide_eq_false fun e => by
        have := str_eq_iff.mp e
        rw [eu, tl_sp] at this
        cases this) ?_
      walk_at "rd"
      exact step2 i hi (by rw [es, hu, strip_nil])
/-- __init__ -/
def spInit (C : Addr) : Sp := fun vs H Q _ => ∃ (a dx : Addr) (z : Str), vs = [.ref a, .str z] ∧ H a = some (.ins C dx []) ∧ (tl z).length ≤ 100000 ∧
  ∀ H', KB [a] H H' → H' a = some (stO C dx z (strip (tl z))) → Q .non H'
theorem ok_init (F : Fun K "__init__" "Tokens.__init__" s_tok_init f fd) (T : Tx K mg uG uP uD) (TC : Tc K C) (M_step : Mf P w K mg base CX0 1 C "step" ["self"] (spStep C)) : FnOk P w K mg base CX0 2 f fd ["self", "text"] (spInit C) := by
  refine F.ok sc_tok_init (fun vs H Q E h => ?_) (fun cdv A outer s H vs Q E hr h => ?_)
  · obtain ⟨a, dx, z, rfl, _⟩ := h
    rfl
  · obtain ⟨a, dx, z, rfl, hO, hz, k⟩ := h
    refine ⟨_, (pss_cons (ps_fld (pv 0) (pv 1) rfl)
    (pss_cons (ps_fld (pv 0) pe_int rfl)
    (pss_cons (ps_fld (pv 0) pe_str rfl)
    (pss_one (ps_expr (pe_mf0 TC.cl M_step (pv 0) (hr.mono (by decide)) pass0)))))), ?_⟩
    rw [show start n_tok_init [(.ref a : V), (.str z : V)] = ([some (.ref a), some (.str z)] : List (Option V)) from rfl]
    walk_at "rd"
    refine w_putText0 TC hO ?_
    walk_at "rd"
    refine w_putAt0 TC upd_same ?_
    walk_at "rd"
    refine w_putToken0 TC upd_same ?_
    have k0 := KB.put (S := [a]) (o' := HO.ins C dx [(("text" : Str), V.str z)]) (List.mem_singleton.mpr rfl) hO noTab_ins (fun xs e => by cases e)
    generalize hH1 : upd H a (HO.ins C dx [(("text" : Str), V.str z)]) = H1 at k0 ⊢
    have g1 : H1 a = some (HO.ins C dx [(("text" : Str), V.str z)]) := by rw [← hH1, upd_same]
    have k1 := KB.put (S := [a]) (o' := HO.ins C dx [(("text" : Str), V.str z), (("at" : Str), V.int 0)]) (List.mem_singleton.mpr rfl) g1 noTab_ins (fun xs e => by cases e)
    generalize hH2 : upd H1 a (HO.ins C dx [(("text" : Str), V.str z), (("at" : Str), V.int 0)]) = H2 at k1 ⊢
    have g2 : H2 a = some (HO.ins C dx [(("text" : Str), V.str z), (("at" : Str), V.int 0)]) := by rw [← hH2, upd_same]
    have k2 := KB.put (S := [a]) (o' := tO C dx z 0 (Str.ofString "")) (List.mem_singleton.mpr rfl) g2 noTab_ins (fun xs e => by cases e)
    have g3 : (upd H2 a (tO C dx z 0 (Str.ofString ""))) a = some (tO C dx z 0 (Str.ofString "")) := upd_same
    generalize upd H2 a (tO C dx z 0 (Str.ofString "")) = H3 at k2 g3 ⊢
    walk_at "rd"
    refine w_meth rfl g3 (by rfl) ?_
    walk_at "rd"
    refine ⟨a, dx, z, Str.ofString "", 0, rfl, g3, by rw [empty_tl]; exact Nat.zero_le _, hz, fun H4 k4 h4 => ?_⟩
    walk_at "rd"
    refine k _ (k0.trans (k1.trans (k2.trans k4))) ?_
    rw [h4, empty_tl] <;> rfl
/-- errors -/
def Err (E : XK) (CE : Addr) (S : List Addr) (H : Hp) (n : Int) : Prop := ∀ H1 d, KB S H H1 → H1 d = none → E (.ref CE) (some d) (upd H1 d (.xd [(("at" : Str), .int n)]))
theorem stO_adv {z : Str} {s : List Nat} (hs : Suf s z) : ∃ p : Nat, (p : Int) = ((tl z).length : Int) - s.length ∧ p + (tl (mkS (tok s))).length ≤ (tl z).length ∧ strip ((tl z).drop (p + (tl (mkS (tok s))).length)) = adv s := by
  obtain ⟨pre, e⟩ := hs
  refine ⟨pre.length, ?_, ?_, ?_⟩
  · rw [e, List.length_append]
    omega
  · rw [tl_mkS, e, List.length_append]
    have : (tok s).length ≤ s.length := by
      unfold tok
      rw [List.length_take]
      exact Nat.min_le_right _ _
    omega
  · rw [tl_mkS, e, ← List.drop_drop, List.drop_left]
    unfold Ky.adv
    rfl
theorem Suf.adv {s : List Nat} {z : Str} (h : Suf s z) : Suf (adv s) z := by
  obtain ⟨pre, e⟩ := h
  obtain ⟨k, e2⟩ := strip_suf (s.drop (tok s).length)
  refine ⟨pre ++ (s.take (tok s).length ++ List.replicate k 32), ?_⟩
  rw [List.append_assoc, List.append_assoc]
  unfold Ky.adv
  rw [← e2, List.take_append_drop]
  exact e
/-- step, from a place of the text -/
theorem call_step {a dx : Addr} {z : Str} {s : List Nat} {H : Hp} {Q : VK} {E : XK} (h : H a = some (stO C dx z s)) (hs : Suf s z) (hz : (tl z).length ≤ 100000) (k : ∀ H', KB [a] H H' → H' a = some (stO C dx z (adv s)) → Q .non H') : spStep C [.ref a] H Q E := by
  obtain ⟨p, e1, e2, e3⟩ := stO_adv hs
  refine ⟨a, dx, z, mkS (tok s), p, rfl, by rw [e1]; exact h, e2, hz, fun H' kb g => k H' kb ?_⟩
  rw [e3] at g
  exact g
def spSkip (C CE : Addr) : Sp := fun vs H Q E => ∃ (a dx : Addr) (z t : Str) (s : List Nat), vs = [.ref a, .str t] ∧ H a = some (stO C dx z s) ∧ Suf s z ∧ (tl z).length ≤ 100000 ∧
  (tok s = tl t → ∀ H', KB [a] H H' → H' a = some (stO C dx z (adv s)) → Q .non H') ∧ (tok s ≠ tl t → Err E CE [a] H (((tl z).length : Int) - s.length))
def spSkipN (C CE Pt : Addr) : Sp := fun vs H Q E => ∃ (a dx : Addr) (z : Str) (s : List Nat), vs = [.ref a] ∧ H a = some (stO C dx z s) ∧ Suf s z ∧ (tl z).length ≤ 100000 ∧ (tok s).length ≤ 60 ∧ GxR.TabG H Pt ∧
  (∀ n, rdN (tok s) = some n → ∀ H', KB [a] H H' → H' a = some (stO C dx z (adv s)) → Q (.int (n : Int)) H') ∧ (rdN (tok s) = none → Err E CE [a] H (((tl z).length : Int) - s.length))
variable {CE fI : Addr}
theorem log_at {z : Str} {s : List Nat} (hs : Suf s z) (hz : (tl z).length ≤ 100000) : (((tl z).length : Int) - s.length).natAbs.log2 < 1000 := by
  obtain ⟨pre, e⟩ := hs
  have e1 : (((tl z).length : Int) - s.length).natAbs = pre.length := by
    rw [e, List.length_append]
    omega
  rw [e1]
  refine Nat.lt_of_lt_of_le (PySem.Flt.log2_lt_of (show 0 < 20 by decide) ?_) (by decide)
  rw [e, List.length_append] at hz
  omega
theorem ok_skip (F : Fun K "skip" "Tokens.skip" s_tok_skip f fd) (T : Tx K mg uG uP uD) (TC : Tc K C) (TX : PySem.Xi.XTxt P K mg "ExpressionError" "at" "offset " CE fI) (M_step : Mf P w K mg base CX0 1 C "step" ["self"] (spStep C)) : FnOk P w K mg base (L2.CX P w) 3 f fd ["self", "token"] (spSkip C CE) := by
  refine F.okX sc_tok_skip (fun vs H Q E h => ?_) (fun cdv A outer s H vs Q E hr h => ?_)
  · obtain ⟨a, dx, z, t, s, rfl, _⟩ := h
    rfl
  · obtain ⟨a, dx, z, t, l, rfl, hO, hs, hz, k, kE⟩ := h
    refine ⟨_, (pss_cons (ps_if (pt_cmpR op_ne (pe_fld (pv 0) rfl) (pv 1) (nomark _))
      (pss_one (ps_raise rfl (takes_of rfl rfl rfl rfl) (pmk_x TX hr (pa_cons (pe_fld (pv 0) rfl) pa_nil) (by rfl) (by decide))))
      pss_nil)
    (pss_one (ps_expr (pe_mf0 TC.cl M_step (pv 0) (hr.mono (by decide)) pass0)))), ?_⟩
    rw [show start n_tok_skip [(.ref a : V), (.str t : V)] = ([some (.ref a), some (.str t)] : List (Option V)) from rfl]
    walk_at "rd"
    by_cases e : tok l = tl t
    · refine if_f (by rw [decide_eq_true (str_eq_iff.mpr (by rw [tl_mkS, e]))] <;> rfl) ?_
      walk_at "rd"
      refine w_meth rfl hO (by rfl) ?_
      walk_at "rd"
      refine call_step hO hs hz fun H1 k1 h1 => ?_
      walk_at "rd"
      exact k e _ k1 h1
    · refine if_t (by rw [decide_eq_false (fun q => e (by have := str_eq_iff.mp q; rwa [tl_mkS] at this))] <;> rfl) ?_
      walk_at "rd"
      refine ⟨_, rfl, log_at hs hz, fun d hd => ?_⟩
      exact kE e H d (KB.refl _ _) hd
theorem ok_skip_number (F : Fun K "skip_number" "Tokens.skip_number" s_tok_skip_number f fd) (T : Tx K mg uG uP uD) (TC : Tc K C) (TX : PySem.Xi.XTxt P K mg "ExpressionError" "at" "offset " CE fI) (M_step : Mf P w K mg base CX0 1 C "step" ["self"] (spStep C))
    (D_read_number : Df P w K mg base 1 "read_number" ["text"] (spReadN Pt)) : FnOk P w K mg base (L2.CX P w) 3 f fd ["self"] (spSkipN C CE Pt) := by
  refine F.okX sc_tok_skip_number (fun vs H Q E h => ?_) (fun cdv A outer s H vs Q E hr h => ?_)
  · obtain ⟨a, dx, z, s, rfl, _⟩ := h
    rfl
  · obtain ⟨a, dx, z, l, rfl, hO, hs, hz, h60, hT, k, kE⟩ := h
    refine ⟨_, (pss_cons (ps_set (i := 1) sc_tok_skip_number.nd rfl (.inl rfl) (pe_df D_read_number (hr.mono (by decide)) (by rfl) (pa_cons (pe_fld (pv 0) rfl) pa_nil)))
    (pss_cons (ps_if (pt_cmpR op_isN (pv 1) pe_non (nomark _))
      (pss_one (ps_raise rfl (takes_of rfl rfl rfl rfl) (pmk_x TX hr (pa_cons (pe_fld (pv 0) rfl) pa_nil) (by rfl) (by decide))))
      pss_nil)
    (pss_cons (ps_expr (pe_mf0 TC.cl M_step (pv 0) (hr.mono (by decide)) pass0))
    (pss_one (ps_ret (pv 1)))))), ?_⟩
    rw [show start n_tok_skip_number [(.ref a : V)] = ([some (.ref a), none] : List (Option V)) from rfl]
    walk_at "rd"
    refine ⟨_, rfl, by rw [tl_mkS]; exact h60, hT, fun H1 k1 e => ?_, fun H1 n k1 e hn => ?_⟩
    · rw [tl_mkS] at e
      have hO1 := (k1.kb (S := [])).ins List.not_mem_nil hO
      walk_at "rd"
      refine ⟨_, rfl, log_at hs hz, fun d hd => ?_⟩
      exact kE e H1 d k1.kb hd
    · rw [tl_mkS] at e
      have hO1 := (k1.kb (S := [])).ins List.not_mem_nil hO
      walk_at "rd"
      refine w_meth rfl hO1 (by rfl) ?_
      walk_at "rd"
      refine call_step hO1 hs hz fun H2 k2 h2 => ?_
      walk_at "rd"
      exact k n e _ (k1.kb.trans k2) h2
end
end Ky

namespace Ky
open PySem PySem.Spec PyProof.Rows L2
local macro_rules | `(tactic| walk_at "rd") => `(tactic| repeat (first
  | with_reducible refine w_for1 ?_
  | with_reducible refine w_for2 ?_
  | with_reducible refine w_forL ?_
  | with_reducible refine w_forT ?_
  | with_reducible refine w_lc1 ?_
  | with_reducible refine w_lcL ?_
  | with_reducible refine w_lcT ?_
  | with_reducible refine w_dcL ?_
  | with_reducible refine w_dcT ?_
  | with_reducible refine w_seq ?_
  | with_reducible refine w_asg ?_
  | with_reducible refine w_ret ?_
  | with_reducible refine w_drop ?_
  | with_reducible refine w_ifs ?_
  | ((with_reducible refine' w_var ?hh ?_); (case hh => exact rfl))
  | with_reducible refine w_c ?_
  | with_reducible refine w_op ?_
  | with_reducible refine w_un ?_
  | with_reducible refine w_I0 ?_
  | with_reducible refine w_U ?_
  | with_reducible refine w_nil ?_
  | with_reducible refine w_cons ?_
  | with_reducible refine w_call ?_
  | with_reducible refine w_cb ?_
  | with_reducible refine w_test ?_
  | with_reducible refine w_B ?_
  | with_reducible refine w_bl ?_
  | with_reducible refine w_and ?_
  | with_reducible refine w_or ?_
  | with_reducible refine w_not ?_
  | with_reducible refine w_ife ?_
  | with_reducible refine w_gRd ?_
  | with_reducible refine w_andV ?_
  | with_reducible refine w_orV ?_
  | with_reducible refine w_notV ?_
  | with_reducible refine w_chain ?_
  | with_reducible refine w_din ?_
  | with_reducible refine w_isi_ii ?_
  | with_reducible refine w_isi_bi ?_
  | with_reducible refine w_isi_bb ?_
  | with_reducible refine w_isi_bt ?_
  | with_reducible refine w_isi_si ?_
  | with_reducible refine w_isi_nt ?_
  | with_reducible refine w_isi_ib ?_
  | with_reducible refine w_isi_it ?_
  | with_reducible refine w_isi_st ?_
  | ((with_reducible refine w_isi_tt ?h1 ?_); (case h1 => first | assumption | exact upd_same))
  | with_reducible refine if_t rfl ?_
  | with_reducible refine if_f rfl ?_
  | with_reducible refine w_tup ?_
  | with_reducible refine w_lst ?_
  | with_reducible refine w_next ?_
  | with_reducible refine w_bm ?_
  | with_reducible refine w_sl ?_
  | with_reducible refine w_part ?_
  | with_reducible refine w_nop ?_
  | with_reducible refine w_isI ?_
  | with_reducible refine w_yes ?_
  | with_reducible refine w_gn ?_
  | with_reducible refine w_gsub ?_
  | ((with_reducible refine' w_setL ?h1 ?h2 ?_); (case h1 => first | assumption | exact upd_same); (case h2 => exact rfl))
  | with_reducible refine w_asgG ?_
  | with_reducible refine w_m1 ?_
  | with_reducible refine w_isS ?_
  | with_reducible refine w_tyS ?_
  | ((with_reducible refine' w_tyL ?h1 ?_); (case h1 => first | assumption | exact upd_same))
  | ((with_reducible refine' w_ixT ?h1 ?h2 ?_); (case h1 => first | assumption | exact upd_same); (case h2 => exact rfl))
  | ((with_reducible refine' w_ixL ?h1 ?h2 ?_); (case h1 => first | assumption | exact upd_same); (case h2 => exact rfl))
  | ((with_reducible refine w_eq ?h1 ?_); (case h1 => exact rfl))
  | ((with_reducible refine w_ne ?h1 ?_); (case h1 => exact rfl))
  | ((with_reducible refine' w_text ?hT ?h1 ?h2 ?_); (case hT => assumption); (case h1 => exact rfl); (case h2 => first | assumption | exact upd_same))
  | ((with_reducible refine' w_at ?hT ?h1 ?h2 ?_); (case hT => assumption); (case h1 => exact rfl); (case h2 => first | assumption | exact upd_same))
  | ((with_reducible refine' w_token ?hT ?h1 ?h2 ?_); (case hT => assumption); (case h1 => exact rfl); (case h2 => first | assumption | exact upd_same))
  | with_reducible refine w_sfld0 ?_
  | with_reducible refine w_mkx ?_
  | with_reducible refine w_nonR ?_
  | with_reducible refine w_bm0 ?_
  | ((with_reducible refine' w_putAt ?hT ?h2 ?_); (case hT => assumption); (case h2 => first | assumption | exact upd_same))
  | ((with_reducible refine' w_putToken ?hT ?h2 ?_); (case hT => assumption); (case h2 => first | assumption | exact upd_same))
  | dsimp only [List.set_cons_zero, List.set_cons_succ, List.append_nil, List.cons_append, List.nil_append, cxOf]))

open TL
theorem Err.fr {E : XK} {CE : Addr} {S T : List Addr} {H H1 : Hp} {n : Int} (h : Err E CE S H n) (k : KB S H H1) (hs : ∀ b ∈ T, b ∈ S) : Err E CE T H1 n := fun H2 d k2 hd => h H2 d (k.trans (k2.mono hs)) hd
def begV (s : List Nat) : Option (Option Nat) := if (tok s).head? = some 120 then rdVar ((tok s).drop 1) else some none
theorem begA_eq (s : List Nat) : begA s = match begV s with
  | none => none
  | some (some v) => some (.fnd (adv s) (.t [.s Wd.var.txt, .i v]))
  | some none => match wordB (tok s) with
    | none => none
    | some false => some (.err s.length)
    | some true => match wdL (tok s) with
      | some z => begW s z
      | none => none := by
  unfold begA
  rfl
def begPost (E : XK) (C CE a dx po : Addr) (z : Str) (ps : List V) (H : Hp) (Q : VK) : BA → Prop
  | .err m => Err E CE [a, po] H (((tl z).length : Int) - m)
  | .fnd s' e => ∀ q H', KB [a, po] H H' → H' a = some (stO C dx z s') → Suf s' z → H' po = some (.lst ps) → TrAt H' e (.ref q) → Q (.ref q) H'
  | .psh s' w xs => ∀ r vs H', KB [a, po] H H' → H' a = some (stO C dx z s') → Suf s' z → H' po = some (.lst (ps ++ [.ref r])) → H r = none → H' r = some (.lst (.str w.txt :: vs)) → TrsAt H' xs vs → Q .non H'
def spBegin (C CE Pt : Addr) : Sp := fun vs H Q E => ∃ (a dx po : Addr) (z : Str) (s : List Nat) (ps : List V) (b : BA), vs = [.ref a, .ref po] ∧ H a = some (stO C dx z s) ∧ Suf s z ∧ (tl z).length ≤ 100000 ∧ GxR.TabG H Pt ∧
  H po = some (.lst ps) ∧ ps.length ≤ 2000 ∧ a ≠ po ∧ begA s = some b ∧ begPost E C CE a dx po z ps H Q b
theorem tl_x : tl (Str.ofString "x") = [120] := tl_one rfl
theorem tl_op : tl (Str.ofString "(") = [40] := tl_one rfl
theorem tl_cl : tl (Str.ofString ")") = [41] := tl_one rfl
theorem tl_cm : tl (Str.ofString ",") = [44] := tl_one rfl
theorem tok_len {s : List Nat} {z : Str} (hs : Suf s z) (hz : (tl z).length ≤ 100000) : (mkS (tok s)).length ≤ sizeLine := by
  rw [mkS_len]
  refine Nat.le_trans ?_ (show 100000 ≤ sizeLine by decide)
  obtain ⟨pre, e⟩ := hs
  rw [e, List.length_append] at hz
  unfold tok
  rw [List.length_take]
  omega
theorem trAt_w {H : Hp} {p : Addr} {w : Wd} {xs : List V} {ps : List Tr} (hp : H p = some (.tup (.str w.txt :: xs))) (h : TrsAt H ps xs) : TrAt H (.t (.s w.txt :: ps)) (.ref p) := by
  unfold TrAt
  exact ⟨p, _, rfl, hp, TrsAt.cons (by unfold TrAt; rfl) h⟩
theorem begN_psh {s s' : List Nat} {z y : Wd} {xs : List Tr} (h : begN s y = some (.psh s' z xs)) : xs.length ≤ 1 := by
  unfold begN at h
  by_cases c1 : (tok s).length ≤ 60
  · rw [if_pos c1] at h
    cases e : rdN (tok s) with
    | none => rw [e] at h; cases h
    | some n =>
      rw [e] at h
      dsimp only at h
      by_cases c2 : tok (adv s) = [41]
      · rw [if_pos c2] at h; cases h
      · rw [if_neg c2] at h
        by_cases c3 : tok (adv s) = [44]
        · rw [if_pos c3] at h
          have h := Option.some.inj h
          injection h with _ _ h3
          rw [← h3]
          exact Nat.le_refl _
        · rw [if_neg c3] at h; cases h
  · rw [if_neg c1] at h; cases h
theorem begW_psh {s s' : List Nat} {z y : Wd} {xs : List Tr} (h : begW s y = some (.psh s' z xs)) : xs.length ≤ 1 := by
  unfold begW at h
  by_cases c1 : y = .yes ∨ y = .no
  · rw [if_pos c1] at h; cases h
  · rw [if_neg c1] at h
    by_cases c2 : tok (adv s) ≠ [40]
    · rw [if_pos c2] at h; cases h
    · rw [if_neg c2] at h
      by_cases c3 : y = .atmost
      · rw [if_pos c3] at h
        exact begN_psh h
      · rw [if_neg c3] at h
        by_cases c4 : tok (adv (adv s)) = [41] ∧ y.want = some none
        · rw [if_pos c4] at h; cases h
        · rw [if_neg c4] at h
          have h := Option.some.inj h
          injection h with _ _ h3
          rw [← h3]
          exact Nat.zero_le _
theorem begA_psh {s s' : List Nat} {z : Wd} {xs : List Tr} (h : begA s = some (.psh s' z xs)) : xs.length ≤ 1 := by
  rw [begA_eq] at h
  cases e1 : begV s with
  | none => rw [e1] at h; cases h
  | some ov =>
    rw [e1] at h
    cases ov with
    | some v => cases h
    | none =>
      dsimp only at h
      cases e2 : wordB (tok s) with
      | none => rw [e2] at h; cases h
      | some b =>
        rw [e2] at h
        cases b with
        | false => cases h
        | true =>
          dsimp only at h
          cases e3 : wdL (tok s) with
          | none => rw [e3] at h; cases h
          | some y =>
            rw [e3] at h
            dsimp only at h
            exact begW_psh h
section
variable {P : Program} {w : World} {K : PySem.W.Frag} {mg : Str → Option Value} {base : Heap} {uG uP uD : Value} {f c Pt C CE fI aK : Addr} {fd : FuncData}
theorem ok_begin (F : Fun K "begin" "begin" s_begin f fd) (T : Tx K mg uG uP uD) (TC : Tc K C) (TX : PySem.Xi.XTxt P K mg "ExpressionError" "at" "offset " CE fI) (M_step : Mf P w K mg base CX0 1 C "step" ["self"] (spStep C)) (M_skip : Mf P w K mg base (L2.CX P w) 3 C "skip" ["self", "token"] (spSkip C CE))
    (M_skip_number : Mf P w K mg base (L2.CX P w) 3 C "skip_number" ["self"] (spSkipN C CE Pt)) (D_read_variable : Df P w K mg base 3 "read_variable" ["item"] (spReadVar Pt)) (D_is_word : Df P w K mg base 1 "is_word" ["text"] spIsWord) (D_wanted_parts : Df P w K mg base 1 "wanted_parts" ["word"] spWanted) :
    FnOk P w K mg base (L2.CX P w) 4 f fd ["tokens", "pending"] (spBegin C CE Pt) := by
  refine F.okX sc_begin (fun vs H Q E h => ?_) (fun cdv A outer s H vs Q E hr h => ?_)
  · obtain ⟨a, dx, po, z, s, ps, b, rfl, _⟩ := h
    rfl
  · obtain ⟨a, dx, po, z, l, ps, b, rfl, hO, hs, hz, hT, hpo, hps, nap, hb, k⟩ := h
    refine ⟨_, (pss_cons (ps_set (i := 2) sc_begin.nd rfl (.inl rfl) (pe_fld (pv 0) rfl))
    (Evl.pss_cut (ps_set (i := 3) sc_begin.nd rfl (.inl rfl) (pe_ifExp (pt_val (pe_bm PySem.F.plainAttrs_str PySem.F.slot_str_startswith PySem.F.type_str_startswith mt_startswith (pv 2) (pa_cons pe_str pa_nil))) (pe_df D_read_variable (hr.mono (by decide)) (by rfl) (pa_cons (pe_bm PySem.F.plainAttrs_str PySem.F.slot_str_removeprefix PySem.F.type_str_removeprefix mt_removeprefix (pv 2) (pa_cons pe_str pa_nil)) pa_nil)) pe_non))
    (pss_cons (ps_if (PW.pt (pw_and (pt_cmpR op_isN (pv 3) pe_non (nomark _)) (pw_and1 (pt_not (pt_val (pe_df D_is_word (hr.mono (by decide)) (by rfl) (pa_cons (pv 2) pa_nil)))))))
      (pss_one (ps_raise rfl (takes_of rfl rfl rfl rfl) (pmk_x TX hr (pa_cons (pe_fld (pv 0) rfl) pa_nil) (by rfl) (by decide))))
      pss_nil)
    (pss_cons (ps_expr (pe_mf0 TC.cl M_step (pv 0) (hr.mono (by decide)) pass0))
    (pss_cons (ps_if (pt_cmpR op_notN (pv 3) pe_non (nomark _))
      (pss_one (ps_ret (pe_tup (pa_cons pe_str (pa_cons (pv 3) pa_nil)))))
      pss_nil)
    (pss_cons (ps_if (PW.pt (pw_or (pt_cmpR op_eq (pv 2) pe_str (nomark _)) (pw_or1 (pt_cmpR op_eq (pv 2) pe_str (nomark _)))))
      (pss_one (ps_ret (pe_tup (pa_cons (pv 2) pa_nil))))
      pss_nil)
    (pss_cons (ps_expr (pe_mf TC.cl M_skip (pv 0) (hr.mono (by decide)) (pass_e (takes_of rfl rfl rfl rfl)) (pa_cons pe_str pa_nil)))
    (pss_cons (ps_set (i := 4) sc_begin.nd rfl (.inl rfl) (pe_lst (pa_cons (pv 2) pa_nil)))
    (pss_cons (ps_if (pt_cmpR op_eq (pv 2) pe_str (nomark _))
      (pss_one (ps_expr (pe_bm PySem.F.plainAttrs_list PySem.F.slot_list_append PySem.F.type_list_append mt_append (pv 4) (pa_cons (pe_mf0 TC.cl M_skip_number (pv 0) (hr.mono (by decide)) (pass_e (takes_of rfl rfl rfl rfl))) pa_nil))))
      pss_nil)
    (pss_cons (ps_if (PW.pt (pw_and (pt_cmpR op_eq (pe_fld (pv 0) rfl) pe_str (nomark _)) (pw_and1 (pt_cmpR op_isN (pe_df D_wanted_parts (hr.mono (by decide)) (by rfl) (pa_cons (pv 2) pa_nil)) pe_non (nomark _)))))
      (pss_cons (ps_expr (pe_mf0 TC.cl M_step (pv 0) (hr.mono (by decide)) pass0))
    (pss_one (ps_ret (pe_callTy call_tuple_of (by rfl) T.z_tuple (by decide +kernel) (pa_cons (pv 4) pa_nil)))))
      pss_nil)
    (pss_cons (ps_if (pt_cmpR op_eq (pv 2) pe_str (nomark _))
      (pss_one (ps_expr (pe_mf TC.cl M_skip (pv 0) (hr.mono (by decide)) (pass_e (takes_of rfl rfl rfl rfl)) (pa_cons pe_str pa_nil))))
      pss_nil)
    (pss_cons (ps_expr (pe_bm PySem.F.plainAttrs_list PySem.F.slot_list_append PySem.F.type_list_append mt_append (pv 1) (pa_cons (pv 4) pa_nil)))
    (pss_one (ps_ret pe_non)))))))))))))), ?_⟩
    rw [show start n_begin [(.ref a : V), (.ref po : V)] = ([some (.ref a), some (.ref po), none, none, none] : List (Option V)) from rfl]
    walk_at "rd"
    refine ⟨fun σ' H' => ∃ ov, σ' = [some (.ref a), some (.ref po), some (.str (mkS (tok l))), some (optV ov), none] ∧ Kept H H' ∧ begV l = some ov, ?_, ?_⟩
    · walk_at "rd"
      refine ⟨_, _, rfl, rfl, _, rfl, ?_⟩
      rw [startswith_one tl_x, tl_mkS]
      unfold begV
      have htl := tok_len hs hz
      by_cases hx : (tok l).head? = some 120
      · refine if_t (decide_eq_true hx) ?_
        rw [if_pos hx]
        walk_at "rd"
        refine ⟨_, _, rfl, rfl, htl, ?_⟩
        walk_at "rd"
        cases hv : rdVar ((tok l).drop 1) with
        | none =>
          rw [begA_eq] at hb
          unfold begV at hb
          rw [if_pos hx, hv] at hb
          cases hb
        | some ov =>
          have er : tl (Txt.removeprefix (mkS (tok l)) (Str.ofString "x")) = (tok l).drop 1 := by
            rw [removeprefix_one tl_x, tl_mkS]
            cases e : tok l with
            | nil => rw [e] at hx; cases hx
            | cons c r =>
              rw [e] at hx
              have : c = 120 := Option.some.inj hx
              dsimp only
              rw [if_pos this] <;> rfl
          refine ⟨_, ov, rfl, by rw [er]; exact hv, hT, fun H1 k1 => ?_⟩
          exact ⟨ov, rfl, k1, rfl⟩
      · refine if_f (decide_eq_false hx) ?_
        walk_at "rd"
        rw [if_neg hx]
        exact ⟨none, rfl, Kept.refl _, rfl⟩
    · rintro σ' H1 ⟨ov, rfl, k1, hv⟩
      rw [begA_eq, hv] at hb
      have hO1 := (k1.kb (S := [])).ins List.not_mem_nil hO
      have hpo1 := k1.lst hpo
      cases ov with
      | some v =>
        cases hb
        walk_at "rd"
        refine w_meth rfl hO1 (by rfl) ?_
        walk_at "rd"
        refine call_step hO1 hs hz fun H2 k2 h2 => ?_
        walk_at "rd"
        refine ⟨by show 2 ≤ sizeLine; decide, fun q hq => ?_⟩
        have k3 := Kept.new (o := .tup [.str (Str.ofString "var"), .int v]) hq
        have k2' : KB [a, po] H1 H2 := k2.mono fun b hb => by rw [List.mem_singleton.mp hb]; exact List.mem_cons_self
        refine k q _ (k1.kb.trans (k2'.trans k3.kb)) ((k3.kb (S := [])).ins List.not_mem_nil h2) hs.adv (k3.lst (k2.lst (fun e => nap (List.mem_singleton.mp e).symm) hpo1)) ?_
        unfold TrAt
        exact ⟨q, _, rfl, upd_same, TrsAt.cons (by unfold TrAt; rfl) (TrsAt.cons (by unfold TrAt; rfl) TrsAt.nil)⟩
      | none =>
        dsimp only at hb
        have sub1 : ∀ b ∈ [a], b ∈ [a, po] := fun b hb => by rw [List.mem_singleton.mp hb]; exact List.mem_cons_self
        have npo : po ∉ [a] := fun e => nap (List.mem_singleton.mp e).symm
        cases hwB : wordB (tok l) with
        | none => rw [hwB] at hb; cases hb
        | some bb =>
          rw [hwB] at hb
          walk_at "rd"
          refine ⟨_, bb, rfl, by rw [tl_mkS]; exact hwB, ?_⟩
          refine ⟨_, rfl, ?_⟩
          cases bb with
          | false =>
            cases hb
            refine if_t rfl ?_
            walk_at "rd"
            refine ⟨_, rfl, log_at hs hz, fun d hd => ?_⟩
            exact k H1 d k1.kb hd
          | true =>
            refine if_f rfl ?_
            dsimp only at hb
            cases hwL : wdL (tok l) with
            | none => rw [hwL] at hb; cases hb
            | some y =>
              rw [hwL] at hb
              dsimp only at hb
              have ew : mkS (tok l) = y.txt := ext_tl (by rw [tl_mkS, wdL_eq hwL, tl_wd])
              rw [ew]
              walk_at "rd"
              refine w_meth rfl hO1 (by rfl) ?_
              walk_at "rd"
              refine call_step hO1 hs hz fun H2 k2 h2 => ?_
              have kA : KB [a, po] H H2 := k1.kb.trans (k2.mono sub1)
              have hpo2 := k2.lst npo hpo1
              have hs2 := hs.adv
              walk_at "rd"
              rw [show V.str (Str.ofString "yes") = V.str Wd.yes.txt from rfl, txt_eq]
              unfold begW at hb
              by_cases hyn : y = .yes ∨ y = .no
              · rw [if_pos hyn] at hb
                cases hb
                have fin : tRet (tTup (tCons (tVar 2) tNil)) { nx := fun _ H' => Q V.non H', rt := Q } [some (V.ref a), some (V.ref po), some (V.str y.txt), some (optV none), none] H2 := by
                  walk_at "rd"
                  refine ⟨by show 1 ≤ sizeLine; decide, fun q hq => ?_⟩
                  have k3 := Kept.new (o := .tup [.str y.txt]) hq
                  refine k q _ (kA.trans k3.kb) ((k3.kb (S := [])).ins List.not_mem_nil h2) hs2 (k3.lst hpo2) ?_
                  exact trAt_w upd_same TrsAt.nil
                by_cases hy : y = .yes
                · refine if_t (decide_eq_true hy) ?_
                  refine if_t rfl ?_
                  exact fin
                · refine if_f (decide_eq_false hy) ?_
                  walk_at "rd"
                  rw [show V.str (Str.ofString "no") = V.str Wd.no.txt from rfl, txt_eq]
                  refine if_t (decide_eq_true (hyn.resolve_left hy)) ?_
                  exact fin
              rw [if_neg hyn] at hb
              refine if_f (decide_eq_false fun e => hyn (.inl e)) ?_
              walk_at "rd"
              rw [show V.str (Str.ofString "no") = V.str Wd.no.txt from rfl, txt_eq]
              refine if_f (decide_eq_false fun e => hyn (.inr e)) ?_
              walk_at "rd"
              refine w_meth rfl h2 (by rfl) ?_
              walk_at "rd"
              refine ⟨a, dx, z, _, adv l, rfl, h2, hs2, hz, fun e40 H3 k3 h3 => ?_, fun e40 => ?_⟩
              · rw [tl_op] at e40
                rw [if_neg fun e => e e40] at hb
                have hpo3 := k3.lst npo hpo2
                have hs3 := hs2.adv
                have kB3 := kA.trans (k3.mono sub1)
                walk_at "rd"
                refine ⟨by show 1 ≤ sizeLine; decide, fun r hr => ?_⟩
                have k4 := Kept.new (o := .lst [.str y.txt]) hr
                have g4 : (upd H3 r (.lst [.str y.txt])) r = some (.lst [.str y.txt]) := upd_same
                have h4 := (k4.kb (S := [])).ins List.not_mem_nil h3
                have hpo4 := k4.lst hpo3
                have nra : r ≠ a := fun e => by rw [e, h3] at hr; cases hr
                have nrp : r ≠ po := fun e => by rw [e, hpo3] at hr; cases hr
                have hr0 : H r = none := kB3.free r hr
                have kC := kB3.trans (k4.kb (S := [a, po]))
                generalize upd H3 r (.lst [.str y.txt]) = H4 at k4 g4 h4 hpo4 kC ⊢
                walk_at "rd"
                rw [show V.str (Str.ofString "atmost") = V.str Wd.atmost.txt from rfl, txt_eq]
                have nrs : r ∉ [a] := fun e => nra (List.mem_singleton.mp e)
                have hT4 := kC.tab Pt hT
                by_cases hya : y = .atmost
                · subst hya
                  rw [if_pos rfl] at hb
                  unfold begN at hb
                  refine if_t rfl ?_
                  walk_at "rd"
                  refine w_meth rfl h4 (by rfl) ?_
                  walk_at "rd"
                  by_cases h60 : (tok (adv (adv l))).length ≤ 60
                  · rw [if_pos h60] at hb
                    refine ⟨a, dx, z, _, rfl, h4, hs3, hz, h60, hT4, fun n en H5 k5 h5 => ?_, fun en => ?_⟩
                    · rw [en] at hb
                      dsimp only at hb
                      have g5 := k5.lst nrs g4
                      have hs5 := hs3.adv
                      walk_at "rd"
                      refine w_app g5 (by show 1 < sizeLine; decide) ?_
                      have kD : KB [a, po] H (upd H5 r (.lst ([.str Wd.atmost.txt] ++ [.int n]))) := (kC.trans (k5.mono sub1)).mut hr0
                      have h6 : (upd H5 r (.lst ([.str Wd.atmost.txt] ++ [.int n]))) a = some (stO C dx z (adv (adv (adv l)))) := by rw [upd_ne nra.symm]; exact h5
                      have hpo6 : (upd H5 r (.lst ([.str Wd.atmost.txt] ++ [.int n]))) po = some (.lst ps) := by rw [upd_ne nrp.symm]; exact k5.lst npo hpo4
                      have g6 : (upd H5 r (.lst ([.str Wd.atmost.txt] ++ [.int n]))) r = some (.lst [.str Wd.atmost.txt, .int n]) := upd_same
                      generalize upd H5 r (.lst ([.str Wd.atmost.txt] ++ [.int n])) = H6 at kD h6 hpo6 g6 ⊢
                      walk_at "rd"
                      by_cases e41 : tok (adv (adv (adv l))) = [41]
                      · rw [if_pos e41] at hb
                        cases hb
                        refine if_t (decide_eq_true (str_eq_iff.mpr (by rw [tl_mkS, tl_cl, e41]))) ?_
                        walk_at "rd"
                        refine ⟨.atmost, none, rfl, rfl, ?_⟩
                        show V.non = V.non ∧ _
                        walk_at "rd"
                        refine w_meth rfl h6 (by rfl) ?_
                        walk_at "rd"
                        refine call_step h6 hs5 hz fun H7 k7 h7 => ?_
                        walk_at "rd"
                        refine ⟨r, _, rfl, .inl ⟨SqL.of (k7.lst nrs g6), fun q hq => ?_⟩⟩
                        have k8 := Kept.new (o := .tup [.str Wd.atmost.txt, .int n]) hq
                        refine k q _ ((kD.trans (k7.mono sub1)).trans k8.kb) ((k8.kb (S := [])).ins List.not_mem_nil h7) hs5.adv (k8.lst (k7.lst npo hpo6)) ?_
                        exact trAt_w upd_same (TrsAt.cons (by unfold TrAt; rfl) TrsAt.nil)
                      · rw [if_neg e41] at hb
                        refine if_f (decide_eq_false fun e => e41 (by have := str_eq_iff.mp e; rwa [tl_mkS, tl_cl] at this)) ?_
                        walk_at "rd"
                        refine w_meth rfl h6 (by rfl) ?_
                        walk_at "rd"
                        refine ⟨a, dx, z, _, _, rfl, h6, hs5, hz, fun e44 H7 k7 h7 => ?_, fun e44 => ?_⟩
                        · rw [tl_cm] at e44
                          rw [if_pos e44] at hb
                          cases hb
                          have hpo7 := k7.lst npo hpo6
                          walk_at "rd"
                          refine w_app hpo7 (by have : 2001 ≤ sizeLine := (by decide); omega) ?_
                          walk_at "rd"
                          have g7 := k7.lst nrs g6
                          have k8 : KB [a, po] H7 (upd H7 po (.lst (ps ++ [.ref r]))) := KB.put (List.mem_cons_of_mem _ List.mem_cons_self) (k7.lst npo hpo6) noTab_lst (fun xs e => by cases e)
                          exact k r [.int n] _ ((kD.trans (k7.mono sub1)).trans k8) (by rw [upd_ne nap]; exact h7) hs5.adv upd_same hr0 (by rw [upd_ne nrp]; exact g7) (TrsAt.cons (by unfold TrAt; rfl) TrsAt.nil)
                        · rw [tl_cm] at e44
                          rw [if_neg e44] at hb
                          cases hb
                          exact Err.fr k kD sub1
                    · rw [en] at hb
                      cases hb
                      exact Err.fr k kC sub1
                  · rw [if_neg h60] at hb
                    cases hb
                · rw [if_neg hya] at hb
                  refine if_f (decide_eq_false hya) ?_
                  walk_at "rd"
                  have push : b = .psh (adv (adv l)) y [] → tRet (tC V.non) { nx := fun _ H' => Q V.non H', rt := Q } [some (V.ref a), some (V.ref po), some (V.str y.txt), some (optV none), some (V.ref r)] (upd H4 po (.lst (ps ++ [.ref r]))) := fun eb => by
                    rw [eb] at k
                    walk_at "rd"
                    have k8 : KB [a, po] H4 (upd H4 po (.lst (ps ++ [.ref r]))) := KB.put (List.mem_cons_of_mem _ List.mem_cons_self) hpo4 noTab_lst (fun xs e => by cases e)
                    exact k r [] _ (kC.trans k8) (by rw [upd_ne nap]; exact h4) hs3 upd_same hr0 (by rw [upd_ne nrp]; exact g4) TrsAt.nil
                  by_cases e41 : tok (adv (adv l)) = [41]
                  · refine if_t (decide_eq_true (str_eq_iff.mpr (by rw [tl_mkS, tl_cl, e41]))) ?_
                    walk_at "rd"
                    obtain ⟨wo, hwo⟩ : ∃ wo, y.want = some wo := by
                      have : y.isW = true := by
                        have q := hwB
                        rw [wdL_eq hwL] at q
                        unfold wordB at q
                        rw [wdL_cs] at q
                        exact Option.some.inj q
                      cases y <;> first | exact ⟨_, rfl⟩ | (cases this)
                    refine ⟨y, wo, rfl, hwo, ?_⟩
                    cases wo with
                    | none =>
                      rw [if_pos ⟨e41, hwo⟩] at hb
                      cases hb
                      show V.non = V.non ∧ _
                      walk_at "rd"
                      refine w_meth rfl h4 (by rfl) ?_
                      walk_at "rd"
                      refine call_step h4 hs3 hz fun H7 k7 h7 => ?_
                      walk_at "rd"
                      refine ⟨r, _, rfl, .inl ⟨SqL.of (k7.lst nrs g4), fun q hq => ?_⟩⟩
                      have k8 := Kept.new (o := .tup [.str y.txt]) hq
                      refine k q _ ((kC.trans (k7.mono sub1)).trans k8.kb) ((k8.kb (S := [])).ins List.not_mem_nil h7) hs3.adv (k8.lst (k7.lst npo hpo4)) ?_
                      exact trAt_w upd_same TrsAt.nil
                    | some j =>
                      rw [if_neg (fun e => by rw [hwo] at e; cases e.2)] at hb
                      show V.non = V.non ∧ _
                      walk_at "rd"
                      rw [txt_eq]
                      refine if_f (decide_eq_false hya) ?_
                      walk_at "rd"
                      refine w_app hpo4 (by have : 2001 ≤ sizeLine := (by decide); omega) ?_
                      exact push (Option.some.inj hb).symm
                  · rw [if_neg fun e => e41 e.1] at hb
                    refine if_f (decide_eq_false fun e => e41 (by have := str_eq_iff.mp e; rwa [tl_mkS, tl_cl] at this)) ?_
                    walk_at "rd"
                    rw [txt_eq]
                    refine if_f (decide_eq_false hya) ?_
                    walk_at "rd"
                    refine w_app hpo4 (by have : 2001 ≤ sizeLine := (by decide); omega) ?_
                    exact push (Option.some.inj hb).symm
              · rw [tl_op] at e40
                rw [if_pos e40] at hb
                cases hb
                exact Err.fr k kA sub1
end
end Ky

namespace Ky
open PySem PySem.Spec PyProof.Rows L2
local macro_rules | `(tactic| walk_at "rd") => `(tactic| repeat (first
  | with_reducible refine w_for1 ?_
  | with_reducible refine w_for2 ?_
  | with_reducible refine w_forL ?_
  | with_reducible refine w_forT ?_
  | with_reducible refine w_lc1 ?_
  | with_reducible refine w_lcL ?_
  | with_reducible refine w_lcT ?_
  | with_reducible refine w_dcL ?_
  | with_reducible refine w_dcT ?_
  | with_reducible refine w_seq ?_
  | with_reducible refine w_asg ?_
  | with_reducible refine w_ret ?_
  | with_reducible refine w_drop ?_
  | with_reducible refine w_ifs ?_
  | ((with_reducible refine' w_var ?hh ?_); (case hh => exact rfl))
  | with_reducible refine w_c ?_
  | with_reducible refine w_op ?_
  | with_reducible refine w_un ?_
  | with_reducible refine w_I0 ?_
  | with_reducible refine w_U ?_
  | with_reducible refine w_nil ?_
  | with_reducible refine w_cons ?_
  | with_reducible refine w_call ?_
  | with_reducible refine w_cb ?_
  | with_reducible refine w_test ?_
  | with_reducible refine w_B ?_
  | with_reducible refine w_bl ?_
  | with_reducible refine w_and ?_
  | with_reducible refine w_or ?_
  | with_reducible refine w_not ?_
  | with_reducible refine w_ife ?_
  | with_reducible refine w_gRd ?_
  | with_reducible refine w_andV ?_
  | with_reducible refine w_orV ?_
  | with_reducible refine w_notV ?_
  | with_reducible refine w_chain ?_
  | with_reducible refine w_din ?_
  | with_reducible refine w_isi_ii ?_
  | with_reducible refine w_isi_bi ?_
  | with_reducible refine w_isi_bb ?_
  | with_reducible refine w_isi_bt ?_
  | with_reducible refine w_isi_si ?_
  | with_reducible refine w_isi_nt ?_
  | with_reducible refine w_isi_ib ?_
  | with_reducible refine w_isi_it ?_
  | with_reducible refine w_isi_st ?_
  | ((with_reducible refine w_isi_tt ?h1 ?_); (case h1 => first | assumption | exact upd_same))
  | with_reducible refine if_t rfl ?_
  | with_reducible refine if_f rfl ?_
  | with_reducible refine w_tup ?_
  | with_reducible refine w_lst ?_
  | with_reducible refine w_next ?_
  | with_reducible refine w_bm ?_
  | with_reducible refine w_sl ?_
  | with_reducible refine w_part ?_
  | with_reducible refine w_nop ?_
  | with_reducible refine w_isI ?_
  | with_reducible refine w_yes ?_
  | with_reducible refine w_gn ?_
  | with_reducible refine w_gsub ?_
  | ((with_reducible refine' w_setL ?h1 ?h2 ?_); (case h1 => first | assumption | exact upd_same); (case h2 => exact rfl))
  | with_reducible refine w_asgG ?_
  | with_reducible refine w_m1 ?_
  | with_reducible refine w_isS ?_
  | with_reducible refine w_tyS ?_
  | ((with_reducible refine' w_tyL ?h1 ?_); (case h1 => first | assumption | exact upd_same))
  | ((with_reducible refine' w_ixT ?h1 ?h2 ?_); (case h1 => first | assumption | exact upd_same); (case h2 => exact rfl))
  | ((with_reducible refine' w_ixL ?h1 ?h2 ?_); (case h1 => first | assumption | exact upd_same); (case h2 => exact rfl))
  | ((with_reducible refine w_eq ?h1 ?_); (case h1 => exact rfl))
  | ((with_reducible refine w_ne ?h1 ?_); (case h1 => exact rfl))
  | ((with_reducible refine' w_text ?hT ?h1 ?h2 ?_); (case hT => assumption); (case h1 => exact rfl); (case h2 => first | assumption | exact upd_same))
  | ((with_reducible refine' w_at ?hT ?h1 ?h2 ?_); (case hT => assumption); (case h1 => exact rfl); (case h2 => first | assumption | exact upd_same))
  | ((with_reducible refine' w_token ?hT ?h1 ?h2 ?_); (case hT => assumption); (case h1 => exact rfl); (case h2 => first | assumption | exact upd_same))
  | with_reducible refine w_sfld0 ?_
  | with_reducible refine w_mkx ?_
  | with_reducible refine w_nonR ?_
  | with_reducible refine w_bm0 ?_
  | ((with_reducible refine' w_putAt ?hT ?h2 ?_); (case hT => assumption); (case h2 => first | assumption | exact upd_same))
  | ((with_reducible refine' w_putToken ?hT ?h2 ?_); (case hT => assumption); (case h2 => first | assumption | exact upd_same))
  | dsimp only [List.set_cons_zero, List.set_cons_succ, List.append_nil, List.cons_append, List.nil_append, cxOf]))

open TL
def goPost (E : XK) (C CE a dx po r : Addr) (z : Str) (ps : List V) (y : Wd) (vs : List V) (v : V) (xs : List Tr) (e : Tr) (H : Hp) (Q : VK) : GA → Prop
  | .err m => Err E CE [a, po, r] H (((tl z).length : Int) - m)
  | .fnd s' => ∀ q H', KB [a, po, r] H H' → H' a = some (stO C dx z s') → Suf s' z → H' po = some (.lst ps) → TrAt H' (.t (.s y.txt :: (xs ++ [e]))) (.ref q) → Q (.ref q) H'
  | .psh s' => ∀ H', KB [a, po, r] H H' → H' a = some (stO C dx z s') → Suf s' z → H' po = some (.lst (ps ++ [.ref r])) → H' r = some (.lst (.str y.txt :: (vs ++ [v]))) → Q .non H'
def spGoOn (C CE : Addr) : Sp := fun us H Q E => ∃ (a dx po r : Addr) (z : Str) (s : List Nat) (ps : List V) (y : Wd) (vs : List V) (v : V) (xs : List Tr) (e : Tr) (b : GA), us = [.ref a, .ref po, v] ∧ H a = some (stO C dx z s) ∧ Suf s z ∧ (tl z).length ≤ 100000 ∧
  H po = some (.lst (ps ++ [.ref r])) ∧ ps.length ≤ 2000 ∧ H r = some (.lst (.str y.txt :: vs)) ∧ TrsAt H xs vs ∧ TrAt H e v ∧ vs.length ≤ 990 ∧ a ≠ po ∧ a ≠ r ∧ po ≠ r ∧ goA s y (cntz y (xs.length + 1)) = some b ∧ goPost E C CE a dx po r z ps y vs v xs e H Q b
section
variable {P : Program} {w : World} {K : PySem.W.Frag} {mg : Str → Option Value} {base : Heap} {uG uP uD : Value} {f c Pt C CE fI aK : Addr} {fd : FuncData}
theorem ok_go_on (F : Fun K "go_on" "go_on" s_go_on f fd) (T : Tx K mg uG uP uD) (TC : Tc K C) (TX : PySem.Xi.XTxt P K mg "ExpressionError" "at" "offset " CE fI) (M_step : Mf P w K mg base CX0 1 C "step" ["self"] (spStep C))
    (D_wanted_parts : Df P w K mg base 1 "wanted_parts" ["word"] spWanted) (D_parts_in : Df P w K mg base 1 "parts_in" ["expression"] spPartsIn) :
    FnOk P w K mg base (L2.CX P w) 2 f fd ["tokens", "pending", "part"] (spGoOn C CE) := by
  refine F.okX sc_go_on (fun vs H Q E h => ?_) (fun cdv A outer s H vs Q E hr h => ?_)
  · obtain ⟨a, dx, po, r, z, s, ps, y, vs, v, xs, e, b, rfl, _⟩ := h
    rfl
  · obtain ⟨a, dx, po, r, z, l, ps, y, vs, v, xs, e, b, rfl, hO, hs, hz, hpo, hps, hr1, hxs, he, hvl, nap, nar, npr, hb, k⟩ := h
    refine ⟨_, (pss_cons (ps_set (i := 3) sc_go_on.nd rfl (.inl rfl) (pe_ix (ix_listK (K := K) rfl) (pv 1) (pe_un un_neg pe_int) (fun _ _ => rfl)))
    (pss_cons (ps_expr (pe_bm PySem.F.plainAttrs_list PySem.F.slot_list_append PySem.F.type_list_append mt_append (pv 3) (pa_cons (pv 2) pa_nil)))
    (pss_cons (ps_set (i := 4) sc_go_on.nd rfl (.inl rfl) (pe_df D_wanted_parts (hr.mono (by decide)) (by rfl) (pa_cons (pe_ix (ix_listK (K := K) rfl) (pv 3) pe_int (fun _ _ => rfl)) pa_nil)))
    (pss_cons (ps_set (i := 5) sc_go_on.nd rfl (.inl rfl) (pe_callB call_len_seq (by rfl) T.z_len (by decide +kernel) (pa_cons (pe_df D_parts_in (hr.mono (by decide)) (by rfl) (pa_cons (pv 3) pa_nil)) pa_nil)))
    (pss_cons (ps_if (PW.pt (pw_and (pt_cmpR op_eq (pe_fld (pv 0) rfl) pe_str (nomark _)) (pw_and1 (PW.pt (pw_or (pt_cmpR op_isN (pv 4) pe_non (nomark _)) (pw_or1 (pt_cmpR op_eq (pv 5) (pv 4) (nomark _))))))))
      (pss_cons (ps_expr (pe_mf0 TC.cl M_step (pv 0) (hr.mono (by decide)) pass0))
    (pss_cons (ps_expr (pe_bm0 PySem.F.plainAttrs_list PySem.F.slot_list_pop PySem.F.type_list_pop mt_pop (pv 1)))
    (pss_one (ps_ret (pe_callTy call_tuple_of (by rfl) T.z_tuple (by decide +kernel) (pa_cons (pv 3) pa_nil))))))
      pss_nil)
    (pss_cons (ps_if (PW.pt (pw_and (pt_cmpR op_eq (pe_fld (pv 0) rfl) pe_str (nomark _)) (pw_and1 (PW.pt (pw_or (pt_cmpR op_isN (pv 4) pe_non (nomark _)) (pw_or1 (pt_cmpR op_lt (pv 5) (pv 4) (nomark _))))))))
      (pss_cons (ps_expr (pe_mf0 TC.cl M_step (pv 0) (hr.mono (by decide)) pass0))
    (pss_one (ps_ret pe_non)))
      pss_nil)
    (pss_one (ps_raise rfl (takes_of rfl rfl rfl rfl) (pmk_x TX hr (pa_cons (pe_fld (pv 0) rfl) pa_nil) (by rfl) (by decide)))))))))), ?_⟩
    rw [show start n_go_on [(.ref a : V), (.ref po : V), (v : V)] = ([some (.ref a), some (.ref po), some (v), none, none, none] : List (Option V)) from rfl]
    have hsl : 2010 ≤ sizeLine := by decide
    have npo : po ∉ [a] := fun e => nap (List.mem_singleton.mp e).symm
    have nrs : r ∉ [a] := fun e => nar (List.mem_singleton.mp e).symm
    have sub1 : ∀ b ∈ [a], b ∈ [a, po, r] := fun b hb => by rw [List.mem_singleton.mp hb]; exact List.mem_cons_self
    walk_at "rd"
    refine w_ixL hpo (v := .ref r) ?_ ?_
    · exact atI_last _ _
    walk_at "rd"
    refine w_app hr1 (by rw [List.length_cons]; omega) ?_
    have k1 : KB [a, po, r] H (upd H r (.lst (.str y.txt :: vs ++ [v]))) := KB.put (by simp) hr1 noTab_lst (fun xs e => by cases e)
    have h1 : (upd H r (.lst (.str y.txt :: vs ++ [v]))) a = some (stO C dx z l) := by rw [upd_ne nar]; exact hO
    have hpo1 : (upd H r (.lst (.str y.txt :: vs ++ [v]))) po = some (.lst (ps ++ [.ref r])) := by rw [upd_ne npr]; exact hpo
    have g1 : (upd H r (.lst (.str y.txt :: vs ++ [v]))) r = some (.lst (.str y.txt :: (vs ++ [v]))) := upd_same
    have hxs1 : TrsAt (upd H r (.lst (.str y.txt :: vs ++ [v]))) (xs ++ [e]) (vs ++ [v]) := TrsAt.app (hxs.kb k1) (TrsAt.cons (he.kb k1) TrsAt.nil)
    generalize upd H r (.lst (.str y.txt :: vs ++ [v])) = H1 at k1 h1 hpo1 g1 hxs1 ⊢
    walk_at "rd"
    unfold goA at hb
    cases hw : y.want with
    | none => rw [hw] at hb; cases hb
    | some wo =>
      rw [hw] at hb
      dsimp only at hb
      refine w_ixL g1 (v := .str y.txt) (atI_nat (j := 0) rfl) ?_
      walk_at "rd"
      refine ⟨y, wo, rfl, hw, ?_⟩
      walk_at "rd"
      refine ⟨r, y, vs ++ [v], rfl, .inr g1, by rw [List.length_append]; show vs.length + 1 ≤ 1000; omega, fun q H2 k2 g2 => ?_⟩
      have h2 := (k2.kb (S := [])).ins List.not_mem_nil h1
      have hpo2 := k2.lst hpo1
      have gr2 := k2.lst g1
      have hxs2 := hxs1.kept k2
      walk_at "rd"
      refine ⟨q, _, rfl, .inl (SqL.of g2), ?_⟩
      walk_at "rd"
      have ec : (ownX y (vs ++ [v])).length = cntz y (xs.length + 1) := by
        rw [ownX_len, List.length_append, TrsAt.len hxs] <;> rfl
      rw [ec]
      have k12 : KB [a, po, r] H H2 := k1.trans k2.kb
      have fin : Suf (adv l) z → ∀ H3, KB [a] H2 H3 → H3 a = some (stO C dx z (adv l)) → b = .fnd (adv l) → tSeq (tDrop (tBM0 K "list" rPop (tVar 1))) (tRet (tCB (fun xs H Q => ∃ p ys, xs = [V.ref p] ∧ ((SqL K H p ys ∧ ∀ (l : Addr), H l = none → Q (V.ref l) (upd H l (HO.tup ys))) ∨ SqT K H p ys ∧ Q (V.ref p) H)) (tCons (tVar 3) tNil)))
          { nx := fun _ H' => Q V.non H', rt := Q } [some (V.ref a), some (V.ref po), some v, some (V.ref r), some (wantV wo), some (V.int (cntz y (xs.length + 1)))] H3 := fun hs3 H3 k3 h3 eb => by
        rw [eb] at k
        have hpo3 := k3.lst npo hpo2
        have gr3 := k3.lst nrs gr2
        walk_at "rd"
        refine ⟨po, _, _, rfl, rfl, hpo3, by rw [List.length_append, List.length_singleton, Nat.add_sub_cancel, List.getElem?_append_right (Nat.le_refl _), Nat.sub_self] <;> rfl, ?_⟩
        rw [List.dropLast_concat]
        have k4 : KB [a, po, r] H3 (upd H3 po (.lst ps)) := KB.put (by simp) hpo3 noTab_lst (fun xs e => by cases e)
        have h4 : (upd H3 po (.lst ps)) a = some (stO C dx z (adv l)) := by rw [upd_ne nap]; exact h3
        have gr4 : (upd H3 po (.lst ps)) r = some (.lst (.str y.txt :: (vs ++ [v]))) := by rw [upd_ne (Ne.symm npr)]; exact gr3
        have hpo4 : (upd H3 po (.lst ps)) po = some (.lst ps) := upd_same
        generalize upd H3 po (.lst ps) = H4 at k4 h4 gr4 hpo4 ⊢
        walk_at "rd"
        refine ⟨r, _, rfl, .inl ⟨SqL.of gr4, fun q' hq' => ?_⟩⟩
        have k5 := Kept.new (o := .tup (.str y.txt :: (vs ++ [v]))) hq'
        have kZ := (k12.trans (k3.mono sub1)).trans k4
        refine k q' _ (kZ.trans k5.kb) ((k5.kb (S := [])).ins List.not_mem_nil h4) hs3 (k5.lst hpo4) ?_
        exact trAt_w upd_same (TrsAt.kb (((hxs2.kb (k3.mono sub1)).kb k4)) (k5.kb (S := [])))
      have rest : (¬ (tok l = [41] ∧ okE wo (cntz y (xs.length + 1)) = true)) → tSeq (tIfS (tAnd (tTest (tOp rEq (tFld K (tVar 0) (Str.ofString "token")) (tC (V.str (Str.ofString ",")))))
                (tOr (tTest (tOp (fun x y H Q => y = V.non ∧ Q (V.bl (decide (x = V.non))) H) (tVar 4) (tC V.non)))
                  (tTest (tOp (rI0 fun i j => V.bl (decide (i < j))) (tVar 5) (tVar 4)))))
              (tSeq (tDrop (tMeth C (Str.ofString "step") (spStep C) [] E0 (tVar 0) tNil)) (tRet (tC V.non))) tNext)
            (fun x σ H => tMkX CE (tCons (tFld K (tVar 0) (Str.ofString "at")) tNil) σ H fun cls d H' => E cls d H')
          { nx := fun _ H' => Q V.non H', rt := Q } [some (V.ref a), some (V.ref po), some v, some (V.ref r), some (wantV wo), some (V.int (cntz y (xs.length + 1)))] H2 := fun h41 => by
        rw [if_neg h41] at hb
        have bad : (¬ (tok l = [44] ∧ okL wo (cntz y (xs.length + 1)) = true)) → ∃ n : Int, [V.int (((tl z).length : Int) - (l.length : Int))] = [V.int n] ∧ n.natAbs.log2 < 1000 ∧ ∀ d, H2 d = none → E (Value.ref CE) (some d) (upd H2 d (HO.xd [(Str.ofString "at", V.int n)])) := fun h44 => by
          rw [if_neg h44] at hb
          cases hb
          exact ⟨_, rfl, log_at hs hz, fun d hd => k H2 d k12 hd⟩
        have good : tok l = [44] → okL wo (cntz y (xs.length + 1)) = true → tSeq (tDrop (tMeth C (Str.ofString "step") (spStep C) [] E0 (tVar 0) tNil)) (tRet (tC V.non)) { nx := fun σ H => tMkX CE (tCons (tFld K (tVar 0) (Str.ofString "at")) tNil) σ H fun cls d H' => E cls d H', rt := Q } [some (V.ref a), some (V.ref po), some v, some (V.ref r), some (wantV wo), some (V.int (cntz y (xs.length + 1)))] H2 := fun h1 h2' => by
          rw [if_pos ⟨h1, h2'⟩] at hb
          cases hb
          walk_at "rd"
          refine w_meth rfl h2 (by rfl) ?_
          walk_at "rd"
          refine call_step h2 hs hz fun H3 k3 h3 => ?_
          walk_at "rd"
          exact k _ (k12.trans (k3.mono sub1)) h3 hs.adv (k3.lst npo hpo2) (k3.lst nrs gr2)
        walk_at "rd"
        by_cases e44 : tok l = [44]
        · refine if_t (decide_eq_true (str_eq_iff.mpr (by rw [tl_mkS, tl_cm, e44]))) ?_
          walk_at "rd"
          cases wo with
          | none =>
            refine if_t rfl ?_
            refine if_t rfl ?_
            exact good e44 rfl
          | some j =>
            refine if_f (decide_eq_false fun h => by cases h) ?_
            walk_at "rd"
            refine ⟨_, (j : Int), rfl, rfl, _, rfl, ?_⟩
            by_cases cj : cntz y (xs.length + 1) < j
            · refine if_t (decide_eq_true (by omega)) ?_
              exact good e44 (decide_eq_true cj)
            · refine if_f (decide_eq_false (by omega)) ?_
              walk_at "rd"
              exact bad fun e => cj (of_decide_eq_true e.2)
        · refine if_f (decide_eq_false fun e => e44 (by have := str_eq_iff.mp e; rwa [tl_mkS, tl_cm] at this)) ?_
          walk_at "rd"
          exact bad fun e => e44 e.1
      by_cases e41 : tok l = [41]
      · refine if_t (decide_eq_true (str_eq_iff.mpr (by rw [tl_mkS, tl_cl, e41]))) ?_
        walk_at "rd"
        have done : okE wo (cntz y (xs.length + 1)) = true → tSeq (tDrop (tMeth C (Str.ofString "step") (spStep C) [] E0 (tVar 0) tNil)) (tSeq (tDrop (tBM0 K "list" rPop (tVar 1))) (tRet (tCB (fun xs H Q => ∃ p ys, xs = [V.ref p] ∧ ((SqL K H p ys ∧ ∀ (l : Addr), H l = none → Q (V.ref l) (upd H l (HO.tup ys))) ∨ SqT K H p ys ∧ Q (V.ref p) H)) (tCons (tVar 3) tNil))))
          { nx := fun _ H' => Q V.non H', rt := Q } [some (V.ref a), some (V.ref po), some v, some (V.ref r), some (wantV wo), some (V.int (cntz y (xs.length + 1)))] H2 := fun hE => by
          rw [if_pos ⟨e41, hE⟩] at hb
          walk_at "rd"
          refine w_meth rfl h2 (by rfl) ?_
          walk_at "rd"
          refine call_step h2 hs hz fun H3 k3 h3 => ?_
          exact fin hs.adv H3 k3 h3 (Option.some.inj hb).symm
        cases wo with
        | none =>
          refine if_t rfl ?_
          refine if_t rfl ?_
          exact done rfl
        | some j =>
          refine if_f (decide_eq_false fun h => by cases h) ?_
          walk_at "rd"
          show if decide (V.int ((cntz y (xs.length + 1) : Nat) : Int) = V.int (j : Int)) = true then _ else _
          by_cases cj : cntz y (xs.length + 1) = j
          · refine if_t (decide_eq_true (by rw [cj])) ?_
            exact done (decide_eq_true cj)
          · refine if_f (decide_eq_false fun e => cj (by have := V.int.inj e; omega)) ?_
            refine w_next ?_
            exact rest fun e => cj (of_decide_eq_true e.2)
      · refine if_f (decide_eq_false fun e => e41 (by have := str_eq_iff.mp e; rwa [tl_mkS, tl_cl] at this)) ?_
        refine if_f rfl ?_
        refine w_next ?_
        exact rest fun e => e41 e.1
end
end Ky

namespace Ky
open PySem PySem.Spec PyProof.Rows L2
local macro_rules | `(tactic| walk_at "rd") => `(tactic| repeat (first
  | with_reducible refine w_for1 ?_
  | with_reducible refine w_for2 ?_
  | with_reducible refine w_forL ?_
  | with_reducible refine w_forT ?_
  | with_reducible refine w_lc1 ?_
  | with_reducible refine w_lcL ?_
  | with_reducible refine w_lcT ?_
  | with_reducible refine w_dcL ?_
  | with_reducible refine w_dcT ?_
  | with_reducible refine w_seq ?_
  | with_reducible refine w_asg ?_
  | with_reducible refine w_ret ?_
  | with_reducible refine w_drop ?_
  | with_reducible refine w_ifs ?_
  | ((with_reducible refine' w_var ?hh ?_); (case hh => exact rfl))
  | with_reducible refine w_c ?_
  | with_reducible refine w_op ?_
  | with_reducible refine w_un ?_
  | with_reducible refine w_I0 ?_
  | with_reducible refine w_U ?_
  | with_reducible refine w_nil ?_
  | with_reducible refine w_cons ?_
  | with_reducible refine w_call ?_
  | with_reducible refine w_cb ?_
  | with_reducible refine w_test ?_
  | with_reducible refine w_B ?_
  | with_reducible refine w_bl ?_
  | with_reducible refine w_and ?_
  | with_reducible refine w_or ?_
  | with_reducible refine w_not ?_
  | with_reducible refine w_ife ?_
  | with_reducible refine w_gRd ?_
  | with_reducible refine w_andV ?_
  | with_reducible refine w_orV ?_
  | with_reducible refine w_notV ?_
  | with_reducible refine w_chain ?_
  | with_reducible refine w_din ?_
  | with_reducible refine w_isi_ii ?_
  | with_reducible refine w_isi_bi ?_
  | with_reducible refine w_isi_bb ?_
  | with_reducible refine w_isi_bt ?_
  | with_reducible refine w_isi_si ?_
  | with_reducible refine w_isi_nt ?_
  | with_reducible refine w_isi_ib ?_
  | with_reducible refine w_isi_it ?_
  | with_reducible refine w_isi_st ?_
  | ((with_reducible refine w_isi_tt ?h1 ?_); (case h1 => first | assumption | exact upd_same))
  | with_reducible refine if_t rfl ?_
  | with_reducible refine if_f rfl ?_
  | with_reducible refine w_tup ?_
  | with_reducible refine w_lst ?_
  | with_reducible refine w_next ?_
  | with_reducible refine w_bm ?_
  | with_reducible refine w_sl ?_
  | with_reducible refine w_part ?_
  | with_reducible refine w_nop ?_
  | with_reducible refine w_isI ?_
  | with_reducible refine w_yes ?_
  | with_reducible refine w_gn ?_
  | with_reducible refine w_gsub ?_
  | ((with_reducible refine' w_setL ?h1 ?h2 ?_); (case h1 => first | assumption | exact upd_same); (case h2 => exact rfl))
  | with_reducible refine w_asgG ?_
  | with_reducible refine w_m1 ?_
  | with_reducible refine w_isS ?_
  | with_reducible refine w_tyS ?_
  | ((with_reducible refine' w_tyL ?h1 ?_); (case h1 => first | assumption | exact upd_same))
  | ((with_reducible refine' w_ixT ?h1 ?h2 ?_); (case h1 => first | assumption | exact upd_same); (case h2 => exact rfl))
  | ((with_reducible refine' w_ixL ?h1 ?h2 ?_); (case h1 => first | assumption | exact upd_same); (case h2 => exact rfl))
  | ((with_reducible refine w_eq ?h1 ?_); (case h1 => exact rfl))
  | ((with_reducible refine w_ne ?h1 ?_); (case h1 => exact rfl))
  | ((with_reducible refine' w_text ?hT ?h1 ?h2 ?_); (case hT => assumption); (case h1 => exact rfl); (case h2 => first | assumption | exact upd_same))
  | ((with_reducible refine' w_at ?hT ?h1 ?h2 ?_); (case hT => assumption); (case h1 => exact rfl); (case h2 => first | assumption | exact upd_same))
  | ((with_reducible refine' w_token ?hT ?h1 ?h2 ?_); (case hT => assumption); (case h1 => exact rfl); (case h2 => first | assumption | exact upd_same))
  | with_reducible refine w_sfld0 ?_
  | with_reducible refine w_mkx ?_
  | with_reducible refine w_nonR ?_
  | with_reducible refine w_bm0 ?_
  | ((with_reducible refine' w_putAt ?hT ?h2 ?_); (case hT => assumption); (case h2 => first | assumption | exact upd_same))
  | ((with_reducible refine' w_putToken ?hT ?h2 ?_); (case hT => assumption); (case h2 => first | assumption | exact upd_same))
  | dsimp only [List.set_cons_zero, List.set_cons_succ, List.append_nil, List.cons_append, List.nil_append, cxOf]))

open TL
/-! ### the rows that wait -/
def RowsAt (H0 H : Hp) (x po : Addr) (b : Nat) : List Row → List V → Prop
  | [], vs => vs = []
  | r :: p, vs => ∃ a us rest, vs = .ref a :: rest ∧ H a = some (.lst (.str r.1.txt :: us)) ∧ TrsAt H r.2 us ∧ us.length ≤ b ∧ H0 a = none ∧ a ≠ x ∧ a ≠ po ∧ (∀ a', V.ref a' ∈ rest → a' ≠ a) ∧ RowsAt H0 H x po b p rest
theorem RowsAt.refs {H0 H : Hp} {x po : Addr} {b : Nat} : ∀ {p : List Row} {vs : List V}, RowsAt H0 H x po b p vs → ∀ a, V.ref a ∈ vs → a ≠ x ∧ a ≠ po ∧ H0 a = none
  | [], vs, h, a, ha => by
    cases (show vs = [] from h)
    cases ha
  | r :: p, vs, h, a, ha => by
    obtain ⟨c, us, rest, rfl, _, _, _, h0, h1, h2, _, h3⟩ := h
    rcases List.mem_cons.mp ha with e | ha
    · cases e
      exact ⟨h1, h2, h0⟩
    · exact RowsAt.refs h3 a ha
theorem RowsAt.kb {H0 H H' : Hp} {x po : Addr} {b b' : Nat} {S : List Addr} (k : KB S H H') (hb : b ≤ b') : ∀ {p : List Row} {vs : List V}, RowsAt H0 H x po b p vs → (∀ a, V.ref a ∈ vs → a ∉ S) → RowsAt H0 H' x po b' p vs
  | [], vs, h, _ => h
  | r :: p, vs, h, hn => by
    obtain ⟨c, us, rest, rfl, g, ht, hl, h0, h1, h2, h4, h3⟩ := h
    exact ⟨c, us, rest, rfl, k.lst (hn c List.mem_cons_self) g, ht.kb k, Nat.le_trans hl hb, h0, h1, h2, h4, RowsAt.kb k hb h3 fun a ha => hn a (List.mem_cons_of_mem _ ha)⟩
theorem RowsAt.len {H0 H : Hp} {x po : Addr} {b : Nat} : ∀ {p : List Row} {vs : List V}, RowsAt H0 H x po b p vs → vs.length = p.length
  | [], vs, h => by cases (show vs = [] from h) <;> rfl
  | r :: p, vs, h => by
    obtain ⟨c, us, rest, rfl, _, _, _, _, _, _, _, h3⟩ := h
    rw [List.length_cons, List.length_cons, RowsAt.len h3]
def fval (H : Hp) : Option Tr → V → Prop
  | none, v => v = .non
  | some e, v => ∃ q, v = .ref q ∧ TrAt H e v
/-- the reader's state -/
structure RdAt (H0 H : Hp) (C x dx po : Addr) (z : Str) (m : Nat) (s : List Nat) (p : List Row) (f : Option Tr) (v : V) : Prop where
  k : Kept H0 H
  o : H x = some (stO C dx z s)
  suf : Suf s z
  rows : ∃ vs, RowsAt H0 H x po (950 - m) p vs ∧ H po = some (.lst vs.reverse) ∧ vs.length + m ≤ 950
  fv : fval H f v
def rdPost (E : XK) (CE : Addr) (z : Str) (H : Hp) (Q : VK) : Out → Prop
  | .ok e => ∀ q H', Kept H H' → TrAt H' e (.ref q) → Q (.ref q) H'
  | .err m => Err E CE [] H (((tl z).length : Int) - m)
def spRead (CE Pt : Addr) : Sp := fun vs H Q E => ∃ (z : Str) (n : Nat) (o : Out), vs = [.str z] ∧ (tl z).length ≤ 100000 ∧ GxR.TabG H Pt ∧ n ≤ 900 ∧ Run n (strip (tl z)) [] none o ∧ rdPost E CE z H Q o
theorem RowsAt.here {H0 H : Hp} {x po : Addr} {b : Nat} : ∀ {p : List Row} {vs : List V}, RowsAt H0 H x po b p vs → ∀ a, V.ref a ∈ vs → ∃ o, H a = some o
  | [], vs, h, a, ha => by
    cases (show vs = [] from h)
    cases ha
  | r :: p, vs, h, a, ha => by
    obtain ⟨c, us, rest, rfl, g, _, _, _, _, _, _, h3⟩ := h
    rcases List.mem_cons.mp ha with e | ha
    · cases e
      exact ⟨_, g⟩
    · exact RowsAt.here h3 a ha
theorem tl_no : tl (Str.ofString "") = [] := by
  rw [tl_ofString]
  rfl
theorem Err.kept {E : XK} {CE : Addr} {S : List Addr} {H H1 : Hp} {n : Int} (h : Err E CE [] H n) (k : Kept H H1) (hs : ∀ b ∈ S, H b = none) : Err E CE S H1 n := fun H2 d k2 hd => h H2 d (KB.fresh k k2 hs).kb hd
section
variable {P : Program} {w : World} {K : PySem.W.Frag} {mg : Str → Option Value} {base : Heap} {uG uP uD : Value} {f c Pt C CE fI aK : Addr} {fd : FuncData}
theorem ok_read_expression (F : Fun K "read_expression" "read_expression" s_read_expression f fd) (T : Tx K mg uG uP uD) (TC : Tc K C) (TX : PySem.Xi.XTxt P K mg "ExpressionError" "at" "offset " CE fI) (KM : MkF P w K mg base CX0 2 "Tokens" C ["self", "text"] (spInit C))
    (D_begin : DfX P w K mg base 4 "begin" ["tokens", "pending"] (spBegin C CE Pt)) (D_go_on : DfX P w K mg base 2 "go_on" ["tokens", "pending", "part"] (spGoOn C CE)) :
    FnOk P w K mg base (L2.CX P w) 5 f fd ["text"] (spRead CE Pt) := by
  refine F.okX sc_read_expression (fun vs H Q E h => ?_) (fun cdv A outer s H vs Q E hr h => ?_)
  · obtain ⟨z, n, o, rfl, _⟩ := h
    rfl
  · obtain ⟨z, n, o, rfl, hz, hT, hn, hR, k⟩ := h
    refine ⟨_, (pss_cons (ps_set (i := 1) sc_read_expression.nd rfl (.inl rfl) (pe_mk KM (hr.mono (by decide)) (by rfl) pass0 (pa_cons (pv 0) pa_nil)))
    (pss_cons (ps_set (i := 2) sc_read_expression.nd rfl (.inl rfl) (pe_lst pa_nil))
    (pss_one (ps_while (passes_of rfl) (pt_val pe_bl)
      (Evl.pss_cut (ps_set (i := 3) sc_read_expression.nd rfl (.inl rfl) (pe_dfP D_begin (hr.mono (by decide)) (pass_e (takes_of rfl rfl rfl rfl)) (by rfl) (pa_cons (pv 1) (pa_cons (pv 2) pa_nil))))
    (pss_cons (ps_while (passes_of rfl) (PW.pt (pw_and (pt_cmpR op_notN (pv 3) pe_non (nomark _)) (pw_and1 (pt_truth (pv 2) (by intro _; rfl)))))
      (pss_one (ps_set (i := 3) sc_read_expression.nd rfl (.inl rfl) (pe_dfP D_go_on (hr.mono (by decide)) (pass_e (takes_of rfl rfl rfl rfl)) (by rfl) (pa_cons (pv 1) (pa_cons (pv 2) (pa_cons (pv 3) pa_nil)))))))
    (pss_one (ps_if (pt_cmpR op_notN (pv 3) pe_non (nomark _))
      (pss_cons (ps_if (pt_cmpR op_ne (pe_fld (pv 1) rfl) pe_str (nomark _))
      (pss_one (ps_raise rfl (takes_of rfl rfl rfl rfl) (pmk_x TX hr (pa_cons (pe_fld (pv 1) rfl) pa_nil) (by rfl) (by decide))))
      pss_nil)
    (pss_one (ps_ret (pv 3))))
      pss_nil)))))))), ?_⟩
    rw [show start n_read_expression [(.str z : V)] = ([some (.str z), none, none, none] : List (Option V)) from rfl]
    walk_at "rd"
    unfold tMake
    walk_at "rd"
    intro x dx nx nd ne
    refine ⟨x, dx, z, rfl, upd_same, hz, fun H1 k1 h1 => ⟨rfl, ?_⟩⟩
    have kK : Kept H H1 := KB.fresh (((Kept.new (o := .own x) nd).trans (Kept.new (by rw [upd_ne (Ne.symm ne)]; exact nx)))) k1 (fun c hc => by rw [List.mem_singleton.mp hc]; exact nx)
    walk_at "rd"
    refine ⟨Nat.zero_le _, fun po hpo => ?_⟩
    have k2 := Kept.new (o := .lst []) hpo
    have g2 : (upd H1 po (.lst [])) po = some (.lst []) := upd_same
    have h2 := (k2.kb (S := [])).ins List.not_mem_nil h1
    have npo : H po = none := kK.free po hpo
    have nxp : x ≠ po := fun e => by rw [← e, h1] at hpo; cases hpo
    have kK2 := kK.trans k2
    generalize upd H1 po (.lst []) = H2 at k2 g2 h2 kK2 ⊢
    walk_at "rd"
    refine ⟨fun m σ' H' => m ≤ 900 ∧ ∃ s p v, Run m s p none o ∧ σ' = [some (.str z), some (.ref x), some (.ref po), v] ∧ RdAt H H' C x dx po z m s p none .non, ⟨n, hn, _, _, none, hR, rfl, ⟨kK2, h2, ⟨_, (strip_suf _).choose_spec⟩, ⟨[], rfl, g2, by show 0 + n ≤ 950; omega⟩, rfl⟩⟩, ?_⟩
    rintro m σ' H' ⟨hm, s1, p, v, hR, rfl, I⟩
    walk_at "rd"
    obtain ⟨vs, rw, gpo, hvl⟩ := I.rows
    have hT2 := I.k.tab Pt hT
    have fxp : ∀ b ∈ [x, po], H b = none := fun b hb => by
      rcases List.mem_cons.mp hb with e | hb
      · rw [e]; exact nx
      · rw [List.mem_singleton.mp hb]; exact npo
    refine ⟨fun σ2 H3 => ∃ m' s2 p2 v2, m' < m ∧ Run m' s2 p2 none o ∧ σ2 = [some (.str z), some (.ref x), some (.ref po), v2] ∧ RdAt H H3 C x dx po z m' s2 p2 none .non, ?_, ?_⟩
    · rintro σ2 H3 ⟨m', s2, p2, v2, hlt, hR2, rfl, I2⟩
      exact ⟨m', hlt, by omega, s2, p2, v2, hR2, rfl, I2⟩
    refine ⟨fun σ2 H3 => ∃ m' s2 p2 f v, m' < m ∧ Run m' s2 p2 f o ∧ σ2 = [some (.str z), some (.ref x), some (.ref po), some v] ∧ RdAt H H3 C x dx po z m' s2 p2 f v, ?_, ?_⟩
    · walk_at "rd"
      have refs := RowsAt.refs rw
      have nrefs : ∀ a, V.ref a ∈ vs → a ∉ [x, po] := fun a ha hb => by
        obtain ⟨a1, a2, _⟩ := refs a ha
        rcases List.mem_cons.mp hb with e | hb
        · exact a1 e
        · exact a2 (List.mem_singleton.mp hb)
      have start : ∀ b, begA s1 = some b → begPost E C CE x dx po z vs.reverse H' (fun v H1 => ∃ m' s2 p2 f w, m' < m ∧ Run m' s2 p2 f o ∧ [some (V.str z), some (V.ref x), some (V.ref po), some v] = [some (.str z), some (.ref x), some (.ref po), some w] ∧ RdAt H H1 C x dx po z m' s2 p2 f w) b →
          spBegin C CE Pt [.ref x, .ref po] H' (fun v H1 => ∃ m' s2 p2 f w, m' < m ∧ Run m' s2 p2 f o ∧ [some (V.str z), some (V.ref x), some (V.ref po), some v] = [some (.str z), some (.ref x), some (.ref po), some w] ∧ RdAt H H1 C x dx po z m' s2 p2 f w) E := fun b hb hp =>
        ⟨x, dx, po, z, s1, vs.reverse, b, rfl, I.o, I.suf, hz, hT2, gpo, by rw [List.length_reverse]; omega, nxp, hb, hp⟩
      cases hR with
      | begE h => exact start _ h (Err.kept k I.k fxp)
      | @begF n' _ _ s' e' _ h r =>
        refine start _ h fun q H3 k3 h3 suf3 hpo3 he => ?_
        refine ⟨n', s', p, some e', .ref q, Nat.lt_succ_self _, r, rfl, ⟨KB.fresh I.k k3 fxp, h3, suf3, ⟨vs, RowsAt.kb k3 (by omega) rw nrefs, hpo3, by omega⟩, ⟨q, rfl, he⟩⟩⟩
      | @begP n' _ _ s' y xs _ h r =>
        refine start _ h fun a us H3 k3 h3 suf3 hpo3 ha hg hus => ?_
        have hxl := begA_psh h
        refine ⟨n', s', (y, xs) :: p, none, .non, Nat.lt_succ_self _, r, rfl, ⟨KB.fresh I.k k3 fxp, h3, suf3, ⟨.ref a :: vs, ?_, by rw [List.reverse_cons]; exact hpo3, by rw [List.length_cons]; omega⟩, rfl⟩⟩
        refine ⟨a, us, vs, rfl, hg, hus, by rw [TrsAt.len hus]; omega, I.k.free a ha, (fun e => by rw [e, I.o] at ha; cases ha), (fun e => by rw [e, gpo] at ha; cases ha), fun a' ha' e => ?_, RowsAt.kb k3 (by omega) rw nrefs⟩
        obtain ⟨o', ho'⟩ := RowsAt.here rw a' ha'
        rw [e, ha] at ho'
        cases ho'
    · rintro σ2 H3 ⟨m1, s2, p2, f, v, hlt, hR2, rfl, I2⟩
      walk_at "rd"
      refine ⟨fun j σ4 H4 => j < m ∧ ∃ s p f v, Run j s p f o ∧ σ4 = [some (.str z), some (.ref x), some (.ref po), some v] ∧ RdAt H H4 C x dx po z j s p f v, ⟨m1, hlt, _, _, _, _, hR2, rfl, I2⟩, ?_⟩
      rintro j σ4 H4 ⟨hj, s4, p4, f4, v4, hR4, rfl, I4⟩
      walk_at "rd"
      cases f4 with
      | none =>
        have ev : v4 = .non := I4.fv
        subst ev
        walk_at "rd"
        exact ⟨j, s4, p4, _, hj, hR4, rfl, I4⟩
      | some e =>
        obtain ⟨q, rfl, hq⟩ := I4.fv
        obtain ⟨us, rw4, gp4, hl4⟩ := I4.rows
        walk_at "rd"
        refine ⟨!us.reverse.isEmpty, .inl ⟨_, SqL.of gp4, rfl⟩, ?_⟩
        cases p4 with
        | nil =>
          have eus : us = [] := rw4
          subst eus
          refine if_f rfl ?_
          have ho4 := I4.o
          walk_at "rd"
          cases hR4 with
          | done h =>
            refine if_f (by rw [decide_eq_true (str_eq_iff.mpr (by rw [tl_mkS, tl_no, h]))] <;> rfl) ?_
            walk_at "rd"
            exact k q H4 I4.k hq
          | doneE h =>
            refine if_t (by rw [decide_eq_false (fun e => h (by have := str_eq_iff.mp e; rwa [tl_mkS, tl_no] at this))] <;> rfl) ?_
            walk_at "rd"
            exact ⟨_, rfl, log_at I4.suf hz, fun d hd => k H4 d I4.k.kb hd⟩
        | cons r p5 =>
          obtain ⟨a, ws, rest, rfl, ga, hws, hwl, ha0, hax, hapo, hap, hrest⟩ := rw4
          have refs := RowsAt.refs hrest
          have nrefs : ∀ b, V.ref b ∈ rest → b ∉ [x, po, a] := fun b hb hc => by
            obtain ⟨a1, a2, _⟩ := refs b hb
            rcases List.mem_cons.mp hc with e | hc
            · exact a1 e
            · rcases List.mem_cons.mp hc with e | hc
              · exact a2 e
              · exact hap b hb (List.mem_singleton.mp hc)
          have fx3 : ∀ b ∈ [x, po, a], H b = none := fun b hb => by
            rcases List.mem_cons.mp hb with e | hb
            · rw [e]; exact nx
            · rcases List.mem_cons.mp hb with e | hb
              · rw [e]; exact npo
              · rw [List.mem_singleton.mp hb]; exact ha0
          have hl4' : rest.length + 1 + j ≤ 950 := hl4
          rw [List.reverse_cons] at gp4
          refine if_t (by rw [List.reverse_cons]; simp) ?_
          refine ⟨fun σ5 H5 => ∃ j' s p f v, j' < j ∧ Run j' s p f o ∧ σ5 = [some (.str z), some (.ref x), some (.ref po), some v] ∧ RdAt H H5 C x dx po z j' s p f v, ?_, ?_⟩
          · rintro σ5 H5 ⟨j', s5, p5, f5, v5, hl5, hR5, rfl, I5⟩
            exact ⟨j', hl5, by omega, s5, p5, f5, v5, hR5, rfl, I5⟩
          walk_at "rd"
          cases hR4 with
          | @goE n' _ y xs _ _ m0 h =>
            exact ⟨x, dx, po, a, z, s4, rest.reverse, y, ws, .ref q, xs, e, _, rfl, I4.o, I4.suf, hz, gp4, by rw [List.length_reverse]; omega, ga, hws, hq, by omega, nxp, Ne.symm hax, Ne.symm hapo, h, Err.kept k I4.k fx3⟩
          | @goF n' _ y xs _ _ s' _ h r =>
            refine ⟨x, dx, po, a, z, s4, rest.reverse, y, ws, .ref q, xs, e, _, rfl, I4.o, I4.suf, hz, gp4, by rw [List.length_reverse]; omega, ga, hws, hq, by omega, nxp, Ne.symm hax, Ne.symm hapo, h, fun q' H6 k6 h6 suf6 hpo6 hq6 => ?_⟩
            exact ⟨n', s', p5, some _, .ref q', Nat.lt_succ_self _, r, rfl, ⟨KB.fresh I4.k k6 fx3, h6, suf6, ⟨rest, RowsAt.kb k6 (by omega) hrest nrefs, hpo6, by omega⟩, ⟨q', rfl, hq6⟩⟩⟩
          | @goP n' _ y xs _ _ s' _ h r =>
            refine ⟨x, dx, po, a, z, s4, rest.reverse, y, ws, .ref q, xs, e, _, rfl, I4.o, I4.suf, hz, gp4, by rw [List.length_reverse]; omega, ga, hws, hq, by omega, nxp, Ne.symm hax, Ne.symm hapo, h, fun H6 k6 h6 suf6 hpo6 hr6 => ?_⟩
            refine ⟨n', s', (y, xs ++ [e]) :: p5, none, .non, Nat.lt_succ_self _, r, rfl, ⟨KB.fresh I4.k k6 fx3, h6, suf6, ⟨.ref a :: rest, ?_, by rw [List.reverse_cons]; exact hpo6, by rw [List.length_cons]; omega⟩, rfl⟩⟩
            exact ⟨a, ws ++ [.ref q], rest, rfl, hr6, TrsAt.app (hws.kb k6) (TrsAt.cons (hq.kb k6) TrsAt.nil), by rw [List.length_append, List.length_singleton]; omega, ha0, hax, hapo, hap, RowsAt.kb k6 (by omega) hrest nrefs⟩
end
end Ky

namespace Ky
open PySem PySem.Spec PyProof.Rows L2
local macro_rules | `(tactic| walk_at "rd") => `(tactic| repeat (first
  | with_reducible refine w_for1 ?_
  | with_reducible refine w_for2 ?_
  | with_reducible refine w_forL ?_
  | with_reducible refine w_forT ?_
  | with_reducible refine w_lc1 ?_
  | with_reducible refine w_lcL ?_
  | with_reducible refine w_lcT ?_
  | with_reducible refine w_dcL ?_
  | with_reducible refine w_dcT ?_
  | with_reducible refine w_seq ?_
  | with_reducible refine w_asg ?_
  | with_reducible refine w_ret ?_
  | with_reducible refine w_drop ?_
  | with_reducible refine w_ifs ?_
  | ((with_reducible refine' w_var ?hh ?_); (case hh => exact rfl))
  | with_reducible refine w_c ?_
  | with_reducible refine w_op ?_
  | with_reducible refine w_un ?_
  | with_reducible refine w_I0 ?_
  | with_reducible refine w_U ?_
  | with_reducible refine w_nil ?_
  | with_reducible refine w_cons ?_
  | with_reducible refine w_call ?_
  | with_reducible refine w_cb ?_
  | with_reducible refine w_test ?_
  | with_reducible refine w_B ?_
  | with_reducible refine w_bl ?_
  | with_reducible refine w_and ?_
  | with_reducible refine w_or ?_
  | with_reducible refine w_not ?_
  | with_reducible refine w_ife ?_
  | with_reducible refine w_gRd ?_
  | with_reducible refine w_andV ?_
  | with_reducible refine w_orV ?_
  | with_reducible refine w_notV ?_
  | with_reducible refine w_chain ?_
  | with_reducible refine w_din ?_
  | with_reducible refine w_isi_ii ?_
  | with_reducible refine w_isi_bi ?_
  | with_reducible refine w_isi_bb ?_
  | with_reducible refine w_isi_bt ?_
  | with_reducible refine w_isi_si ?_
  | with_reducible refine w_isi_nt ?_
  | with_reducible refine w_isi_ib ?_
  | with_reducible refine w_isi_it ?_
  | with_reducible refine w_isi_st ?_
  | ((with_reducible refine w_isi_tt ?h1 ?_); (case h1 => first | assumption | exact upd_same))
  | with_reducible refine if_t rfl ?_
  | with_reducible refine if_f rfl ?_
  | with_reducible refine w_tup ?_
  | with_reducible refine w_lst ?_
  | with_reducible refine w_next ?_
  | with_reducible refine w_bm ?_
  | with_reducible refine w_sl ?_
  | with_reducible refine w_part ?_
  | with_reducible refine w_nop ?_
  | with_reducible refine w_isI ?_
  | with_reducible refine w_yes ?_
  | with_reducible refine w_gn ?_
  | with_reducible refine w_gsub ?_
  | ((with_reducible refine' w_setL ?h1 ?h2 ?_); (case h1 => first | assumption | exact upd_same); (case h2 => exact rfl))
  | with_reducible refine w_asgG ?_
  | with_reducible refine w_m1 ?_
  | with_reducible refine w_isS ?_
  | with_reducible refine w_tyS ?_
  | ((with_reducible refine' w_tyL ?h1 ?_); (case h1 => first | assumption | exact upd_same))
  | ((with_reducible refine' w_ixT ?h1 ?h2 ?_); (case h1 => first | assumption | exact upd_same); (case h2 => exact rfl))
  | ((with_reducible refine' w_ixL ?h1 ?h2 ?_); (case h1 => first | assumption | exact upd_same); (case h2 => exact rfl))
  | ((with_reducible refine w_eq ?h1 ?_); (case h1 => exact rfl))
  | ((with_reducible refine w_ne ?h1 ?_); (case h1 => exact rfl))
  | ((with_reducible refine' w_text ?hT ?h1 ?h2 ?_); (case hT => assumption); (case h1 => exact rfl); (case h2 => first | assumption | exact upd_same))
  | ((with_reducible refine' w_at ?hT ?h1 ?h2 ?_); (case hT => assumption); (case h1 => exact rfl); (case h2 => first | assumption | exact upd_same))
  | ((with_reducible refine' w_token ?hT ?h1 ?h2 ?_); (case hT => assumption); (case h1 => exact rfl); (case h2 => first | assumption | exact upd_same))
  | with_reducible refine w_sfld0 ?_
  | with_reducible refine w_mkx ?_
  | with_reducible refine w_nonR ?_
  | with_reducible refine w_bm0 ?_
  | ((with_reducible refine' w_putAt ?hT ?h2 ?_); (case hT => assumption); (case h2 => first | assumption | exact upd_same))
  | ((with_reducible refine' w_putToken ?hT ?h2 ?_); (case hT => assumption); (case h2 => first | assumption | exact upd_same))
  | dsimp only [List.set_cons_zero, List.set_cons_succ, List.append_nil, List.cons_append, List.nil_append, cxOf]))

open TL
theorem plain_app : ∀ (a b : List (List Nat)), plain (a ++ b) = plain a ++ plain b
  | [], b => rfl
  | t :: a, b => by
    show t ++ ((if t = [44] then [32] else []) ++ plain (a ++ b)) = (t ++ ((if t = [44] then [32] else []) ++ plain a)) ++ plain b
    rw [plain_app a b, List.append_assoc, List.append_assoc]
theorem plain_one {t : List Nat} (h : t ≠ [44]) : plain [t] = t := by
  show t ++ ((if t = [44] then [32] else []) ++ []) = t
  rw [if_neg h] <;> simp
theorem plain_cons {t : List Nat} (h : t ≠ [44]) (ts : List (List Nat)) : plain (t :: ts) = t ++ plain ts := by
  show t ++ ((if t = [44] then [32] else []) ++ plain ts) = t ++ plain ts
  rw [if_neg h] <;> rfl
theorem plain_sep : ∀ ts : List (List (List Nat)), plain (sep ts) = joinL [44, 32] (ts.map plain)
  | [] => rfl
  | [a] => rfl
  | a :: b :: r => by
    show plain (a ++ [44] :: sep (b :: r)) = plain a ++ ([44, 32] ++ joinL [44, 32] ((b :: r).map plain))
    rw [plain_app, ← plain_sep (b :: r)]
    rfl
theorem len_sep : ∀ ts : List (List (List Nat)), ((ts.map fun t => (plain t).length).sum) ≤ (plain (sep ts)).length
  | [] => Nat.le_refl _
  | [a] => by
    show (plain a).length + 0 ≤ (plain a).length
    omega
  | a :: b :: r => by
    have ih := len_sep (b :: r)
    have e : plain (sep (a :: b :: r)) = plain a ++ ([44, 32] ++ plain (sep (b :: r))) := by
      show plain (a ++ [44] :: sep (b :: r)) = _
      rw [plain_app]
      rfl
    rw [e, List.length_append, List.length_append, List.map_cons, List.sum_cons]
    show _ ≤ _ + (2 + _)
    omega
theorem mem_sep {ts : List (List (List Nat))} {t : List (List Nat)} (h : t ∈ ts) : (plain t).length ≤ (plain (sep ts)).length := by
  refine Nat.le_trans ?_ (len_sep ts)
  induction ts with
  | nil => cases h
  | cons a ts ih =>
    rw [List.map_cons, List.sum_cons]
    rcases List.mem_cons.mp h with rfl | h
    · omega
    · have := ih h
      omega
theorem All2.get {α β : Type} {R : α → β → Prop} : ∀ {as : List α} {bs : List β}, All2 R as bs → ∀ (i : Nat) (a : α), as[i]? = some a → ∃ b, bs[i]? = some b ∧ R a b
  | [], [], _, i, a, h => by cases h
  | x :: as, y :: bs, h, i, a, ha => by
    cases i with
    | zero => cases ha; exact ⟨y, rfl, h.1⟩
    | succ i => exact All2.get h.2 i a ha
  | [], _ :: _, h, _, _, _ => h.elim
  | _ :: _, [], h, _, _, _ => h.elim
theorem All2.len {α β : Type} {R : α → β → Prop} : ∀ {as : List α} {bs : List β}, All2 R as bs → as.length = bs.length
  | [], [], _ => rfl
  | x :: as, y :: bs, h => by rw [List.length_cons, List.length_cons, All2.len h.2]
  | [], _ :: _, h => h.elim
  | _ :: _, [], h => h.elim
theorem range_get {α : Type} {f : Nat → α} {l : List α} (h : ∀ i x, l[i]? = some x → f i = x) : ((List.range l.length).filter fun _ => true).map f = l := by
  rw [show ((List.range l.length).filter fun _ => true) = List.range l.length from by simp]
  refine List.ext_getElem? fun i => ?_
  rw [List.getElem?_map]
  by_cases c : i < l.length
  · rw [List.getElem?_range c]
    show some (f i) = _
    rw [h i l[i] (List.getElem?_eq_getElem c), List.getElem?_eq_getElem c]
  · rw [List.getElem?_eq_none (by rw [List.length_range]; omega), List.getElem?_eq_none (by omega)]
    rfl
theorem join_plain (ts : List (List (List Nat))) : Txt.join (Str.ofString ", ") (ts.map fun t => mkS (plain t)) = mkS (plain (sep ts)) := by
  rw [join_eq]
  apply ext_tl
  rw [tl_join, tl_mkS, plain_sep, show tl (Str.ofString ", ") = [44, 32] from by rw [tl_ofString] <;> rfl, List.map_map]
  congr 1
  exact List.map_congr_left fun t _ => tl_mkS _
theorem cs_44 (z : Wd) : z.cs ≠ [44] := by cases z <;> decide
theorem num_44 (n : Nat) : numL n ≠ [44] := fun e => by
  have := numL_al n 44 (by rw [e]; exact List.mem_singleton.mpr rfl)
  rw [al44] at this
  cases this
theorem plain_op (z : Wd) (ts : List (List (List Nat))) : plain (z.cs :: [40] :: (sep ts ++ [[41]])) = z.cs ++ ([40] ++ (plain (sep ts) ++ [41])) := by
  rw [plain_cons (cs_44 z), plain_cons (by decide), plain_app, plain_one (t := [41]) (by decide)]
theorem wd_mk (z : Wd) : mkS z.cs = z.txt := ext_tl (by rw [tl_mkS, tl_wd])
theorem mk_app (a b : List Nat) : mkS a ++ mkS b = mkS (a ++ b) := ext_tl (by rw [tl_append, tl_mkS, tl_mkS, tl_mkS])
theorem numS_mk (n : Nat) : numS (n : Int) = mkS (numL n) := ext_tl (by rw [tl_nat, tl_mkS])
theorem op_mk : Str.ofString "(" = mkS [40] := ext_tl (by rw [tl_op, tl_mkS])
theorem cl_mk : Str.ofString ")" = mkS [41] := ext_tl (by rw [tl_cl, tl_mkS])
def spShow (d : Nat) : Sp := fun vs H Q _ => ∃ (v : V) (n : Nat) (e : Tr) (t : List (List Nat)), vs = [v] ∧ n < d ∧ TrAt H e v ∧ Ex n e t ∧ (plain t).length ≤ 10000 ∧ ∀ H', Kept H H' → Q (.str (mkS (plain t))) H'
theorem tl_xq : tl (Str.ofString "x") = [120] := tl_one rfl
section
variable {P : Program} {w : World} {K : PySem.W.Frag} {mg : Str → Option Value} {base : Heap} {uG uP uD : Value} {f aK : Addr} {fd : FuncData}
theorem ok_show_step (d : Nat) (F : Fun K "show_expression" "show_expression" s_show_expression f fd) (T : Tx K mg uG uP uD) (D_parts_in : Df P w K mg base 1 "parts_in" ["expression"] spPartsIn) (D_show_number : Df P w K mg base 1 "show_number" ["n"] spShowN)
    (D_show_expression : Df P w K mg base (d + 2) "show_expression" ["expression"] (spShow d)) : FnOk P w K mg base CX0 (d + 3) f fd ["expression"] (spShow (d + 1)) := by
  refine F.ok sc_show_expression (fun vs H Q E h => ?_) (fun cdv A outer s H vs Q E hr h => ?_)
  · obtain ⟨v, n, e, t, rfl, _⟩ := h
    rfl
  · obtain ⟨v, n, e, t, rfl, hn, he, hx, hl, k⟩ := h
    have hsl : 16000000 ≤ sizeLine := by decide
    refine ⟨_, (pss_cons (ps_set (i := 1) sc_show_expression.nd rfl (.inl rfl) (pe_ix (ix_tupK (K := K) rfl) (pv 0) pe_int (fun _ _ => rfl)))
    (pss_cons (ps_if (pt_cmpR op_eq (pv 1) pe_str (nomark _))
      (pss_one (ps_ret (pe_joined (.cons pe_str (.cons (pe_fmt (pe_ix (ix_tupK (K := K) rfl) (pv 0) pe_int (fun _ _ => rfl))) .nil)))))
      pss_nil)
    (pss_cons (ps_if (PW.pt (pw_or (pt_cmpR op_eq (pv 1) pe_str (nomark _)) (pw_or1 (pt_cmpR op_eq (pv 1) pe_str (nomark _)))))
      (pss_one (ps_ret (pv 1)))
      pss_nil)
    (pss_cons (ps_setLc (i := 2) (own := [("part", 3)]) (g := gName 3) (by rfl) sc_show_expression.nd rfl rfl (sw_true rfl rfl rfl (by decide +kernel)) (pi_listK (K := K) rfl (pe_df D_parts_in (hr.mono (by omega)) (by rfl) (pa_cons (pv 0) pa_nil))) (blkOk_by (own := [("part", 3)]) (N := n_show_expression) (sc := defScope s_show_expression) (by decide +kernel)) (fun _ _ _ _ _ => pg_name (i := 3) sc_show_expression.nd rfl (Or.inl rfl)) (fun _ _ _ _ _ => pts_nil) (fun _ _ _ _ _ => (pe_df D_show_expression (hr.mono (by omega)) (by rfl) (pa_cons (pv 3) pa_nil))))
    (pss_cons (ps_if (pt_cmpR op_eq (pv 1) pe_str (nomark _))
      (pss_one (ps_set (i := 2) sc_show_expression.nd rfl (.inl rfl) (pe_op op_cat (pe_lst (pa_cons (pe_df D_show_number (hr.mono (by omega)) (by rfl) (pa_cons (pe_ix (ix_tupK (K := K) rfl) (pv 0) pe_int (fun _ _ => rfl)) pa_nil)) pa_nil)) (pv 2))))
      pss_nil)
    (pss_one (ps_ret (pe_op op_add_str (pe_op op_add_str (pe_op op_add_str (pv 1) pe_str) (pe_join pe_str (pv 2))) pe_str)))))))), ?_⟩
    rw [show start n_show_expression [(v : V)] = ([some (v), none, none, none] : List (Option V)) from rfl]
    have leaf : Leaf e t → _ := fun hL => hL
    have go : ∀ (z : Wd) (xs : List Tr), e = .t (.s z.txt :: xs) → ∃ (p : Addr) (us : List V), v = .ref p ∧ H p = some (.tup (.str z.txt :: us)) ∧ TrsAt H xs us := fun z xs ee => by
      rw [ee] at he
      unfold TrAt at he
      obtain ⟨p, ys, e1, h1, h2⟩ := he
      unfold TrsAt at h2
      obtain ⟨y, r, e2, h3, h4⟩ := h2
      unfold TrAt at h3
      exact ⟨p, r, e1, by rw [h1, e2, h3], h4⟩
    have kinds : Leaf e t ∨ (∃ m, n = m + 1 ∧ Ex (m + 1) e t ∧ ¬ Leaf e t) := by
      by_cases c : Leaf e t
      · exact .inl c
      · cases n with
        | zero => exact absurd hx c
        | succ m => exact .inr ⟨m, rfl, hx, c⟩
    rcases kinds with hL | ⟨m, rfl, hx2, hnL⟩
    · rcases hL with ⟨kn, h1, h2, e1, rfl⟩ | ⟨z, hz, e1, rfl⟩
      · obtain ⟨p, us, rfl, hp, hus⟩ := go .var _ e1
        have eus : us = [.int kn] := by
          unfold TrsAt at hus
          obtain ⟨y, r, e2, h3, h4⟩ := hus
          unfold TrAt at h3
          unfold TrsAt at h4
          rw [e2, h3, h4]
        subst eus
        walk_at "rd"
        have hkl : kn.log2 < 1920 := Nat.lt_of_lt_of_le (PySem.Flt.log2_lt_of (show 0 < 10 by decide) (by show kn < 1024; omega)) (by decide)
        have hlk := numL_60 h2
        refine ⟨_, rfl, by show (Str.empty ++ Str.ofString "x").length ≤ _; exact Nat.le_trans (show _ ≤ 1 by decide) (by omega), ?_⟩
        show tOp (rIxT K) (tVar 0) (tC (V.int 1)) _ H _
        walk_at "rd"
        refine .inr ⟨_, rfl, hkl, ?_⟩
        have es : Str.empty ++ Str.ofString "x" ++ toString (kn : Int) = mkS (120 :: numL kn) := ext_tl (by
          rw [tl_append, tl_append, tl_mkS, tl_xq]
          show tl Str.empty ++ [120] ++ tl (numS (kn : Int)) = _
          rw [tl_nat] <;> rfl)
        refine ⟨_, rfl, ?_, ?_⟩
        · rw [es, mkS_len, List.length_cons]
          omega
        · show Q (.str _) _
          rw [es]
          rw [plain_one (fun h => by cases h)] at k
          exact k H (Kept.refl _)
      · obtain ⟨p, us, rfl, hp, hus⟩ := go z _ e1
        walk_at "rd"
        refine w_ixT hp (v := .str z.txt) (atI_nat (j := 0) rfl) ?_
        rw [plain_one (cs_44 z), wd_mk] at k
        walk_at "rd"
        rw [show V.str (Str.ofString "var") = V.str Wd.var.txt from rfl, txt_eq]
        refine if_f (by rcases hz with rfl | rfl <;> rfl) ?_
        walk_at "rd"
        rw [show V.str (Str.ofString "yes") = V.str Wd.yes.txt from rfl, txt_eq]
        by_cases hy : z = .yes
        · refine if_t (decide_eq_true hy) ?_
          refine if_t rfl ?_
          walk_at "rd"
          exact k H (Kept.refl _)
        · refine if_f (decide_eq_false hy) ?_
          walk_at "rd"
          rw [show V.str (Str.ofString "no") = V.str Wd.no.txt from rfl, txt_eq]
          refine if_t (decide_eq_true (hz.resolve_left hy)) ?_
          walk_at "rd"
          exact k H (Kept.refl _)
    · have h3 : ∃ (z : Wd) (xs ps : List Tr) (ts : List (List (List Nat))), z ≠ .var ∧ z ≠ .yes ∧ z ≠ .no ∧ e = .t (.s z.txt :: xs) ∧ All2 (Ex m) ps ts ∧ ps.length ≤ 3 ∧ ((z ≠ .atmost ∧ xs = ps ∧ t = z.cs :: [40] :: (sep ts ++ [[41]])) ∨ (z = .atmost ∧ ∃ kn : Nat, kn ≤ 3 ∧ xs = .i kn :: ps ∧ t = z.cs :: [40] :: (sep ([numL kn] :: ts) ++ [[41]]))) := by
        rcases hx2 with h | ⟨z, o, ps, ts, hz, _, _, h3, h2, h4, h5⟩ | ⟨kn, ps, ts, hk, h3, h2, h4, h5⟩
        · exact absurd h hnL
        · have c := isOp_ne hz
          exact ⟨z, ps, ps, ts, c.1, fun h => c.2.2.2 (.inl h), fun h => c.2.2.2 (.inr h), h4, h2, h3, .inl ⟨c.2.1, rfl, h5⟩⟩
        · exact ⟨.atmost, _, ps, ts, by decide, by decide, by decide, h4, h2, h3, .inr ⟨rfl, kn, hk, rfl, h5⟩⟩
      obtain ⟨z, xs, ps, ts, c1, c2, c3, e1, hA, hp3, hform⟩ := h3
      obtain ⟨p, us, rfl, hp, hus⟩ := go z _ e1
      have hul := hus.len
      have hxl : xs.length ≤ 4 := by
        rcases hform with ⟨_, ex, _⟩ | ⟨_, kn, _, ex, _⟩
        · rw [ex]; omega
        · rw [ex, List.length_cons]; omega
      walk_at "rd"
      refine w_ixT hp (v := .str z.txt) (atI_nat (j := 0) rfl) ?_
      walk_at "rd"
      rw [show V.str (Str.ofString "var") = V.str Wd.var.txt from rfl, txt_eq]
      refine if_f (decide_eq_false c1) ?_
      walk_at "rd"
      rw [show V.str (Str.ofString "yes") = V.str Wd.yes.txt from rfl, txt_eq]
      refine if_f (decide_eq_false c2) ?_
      walk_at "rd"
      rw [show V.str (Str.ofString "no") = V.str Wd.no.txt from rfl, txt_eq]
      refine if_f (decide_eq_false c3) ?_
      walk_at "rd"
      refine ⟨p, z, us, rfl, .inl hp, by omega, fun q H1 k1 hq => ?_⟩
      have hps1 : TrsAt H1 ps (ownX z us) := by
        rcases hform with ⟨ca, ex, _⟩ | ⟨ca, kn, _, ex, _⟩
        · rw [ex] at hus
          unfold ownX
          rw [if_neg c1, if_neg ca]
          exact hus.kept k1
        · rw [ex] at hus
          unfold TrsAt at hus
          obtain ⟨y, r, e2, _, h4⟩ := hus
          rw [e2]
          unfold ownX
          rw [if_neg c1, if_pos ca]
          exact h4.kept k1
      have hpl := hps1.len
      have htl := hA.len
      have tlen : ∀ t' ∈ ts, (plain t').length ≤ 10000 := fun t' ht' => by
        have q1 := mem_sep ht'
        rcases hform with ⟨_, _, et⟩ | ⟨_, kn, _, _, et⟩
        · rw [et, plain_op, List.length_append, List.length_append, List.length_append] at hl
          omega
        · have q2 := mem_sep (List.mem_cons_of_mem [numL kn] ht')
          rw [et, plain_op, List.length_append, List.length_append, List.length_append] at hl
          omega
      refine LcL.run (xs := ownX z us) (fun i => true) (fun i => .str (mkS (plain (ts.getD i [])))) (by omega) hq (fun i x H3 kk kk2 hx k3 h5 h6 => ?_) fun D H3 hD k3 h3 => ?_
      · walk_at "rd"
        have hi : i < ps.length := by
          have := (List.getElem?_eq_some_iff.mp hx).1
          omega
        have hxa := TrsAt.get (hps1.kept k3) i x ps[i] hx (List.getElem?_eq_getElem hi)
        obtain ⟨ti, g1, g2⟩ := hA.get i ps[i] (List.getElem?_eq_getElem hi)
        refine ⟨x, m, ps[i], ti, rfl, by omega, hxa, g2, tlen ti (List.mem_of_getElem? g1), fun H4 k4 => ?_⟩
        have eg : ts.getD i [] = ti := by rw [List.getD_eq_getElem?_getD, g1] <;> rfl
        rw [eg] at h5
        exact h5 H4 k4 rfl
      · rw [show (ownX z us).length = (ts.map fun t => V.str (mkS (plain t))).length from by rw [hpl, htl, List.length_map], range_get (l := ts.map fun t => V.str (mkS (plain t))) (fun i x hx => by
          rw [List.getElem?_map] at hx
          rw [List.getD_eq_getElem?_getD]
          cases e : ts[i]? with
          | none => rw [e] at hx; cases hx
          | some y =>
            rw [e] at hx
            exact Option.some.inj hx)] at h3
        have fin : ∀ (D : Addr) (x4 : Option V) (H4 : Hp) (qs : List (List (List Nat))), Kept H H4 → H4 D = some (.lst (qs.map fun t => V.str (mkS (plain t)))) → t = z.cs :: [40] :: (sep qs ++ [[41]]) → qs.length ≤ 4 →
            tRet (tOp (fun x y H Q => ∃ i j, x = V.str i ∧ y = V.str j ∧ i.length + j.length ≤ sizeLine ∧ Q (V.str (i ++ j)) H) (tOp (fun x y H Q => ∃ i j, x = V.str i ∧ y = V.str j ∧ i.length + j.length ≤ sizeLine ∧ Q (V.str (i ++ j)) H) (tOp (fun x y H Q => ∃ i j, x = V.str i ∧ y = V.str j ∧ i.length + j.length ≤ sizeLine ∧ Q (V.str (i ++ j)) H) (tVar 1) (tC (V.str (Str.ofString "("))))
                (tM1 (fun x xs H Q => ∃ a p ys, x = V.str a ∧ xs = [V.ref p] ∧ (SqL K H p (List.map V.str ys) ∨ SqT K H p (List.map V.str ys)) ∧ (List.map (fun x => x.length) ys).sum + ys.length * a.length ≤ 16777216 ∧ Q (V.str (Txt.join a ys)) H)
                  (tC (V.str (Str.ofString ", "))) (tVar 2)))
              (tC (V.str (Str.ofString ")")))) { nx := fun _ H' => Q V.non H', rt := Q } [some (V.ref p), some (V.str z.txt), some (V.ref D), x4] H4 := fun D x4 H4 qs k4 h4 et hq4 => by
          have lz : z.txt.length ≤ 7 := by rw [len_tl, tl_wd]; cases z <;> decide
          rw [et, plain_op] at hl k
          rw [List.length_append, List.length_append, List.length_append] at hl
          have e1 : z.txt ++ Str.ofString "(" = mkS (z.cs ++ [40]) := by rw [op_mk, ← wd_mk, mk_app]
          have el1 : (mkS (z.cs ++ [40])).length = z.cs.length + 1 := by rw [mkS_len, List.length_append] <;> rfl
          have el2 : (mkS (plain (sep qs))).length = (plain (sep qs)).length := mkS_len _
          have e2 : mkS (z.cs ++ [40]) ++ mkS (plain (sep qs)) = mkS (z.cs ++ [40] ++ plain (sep qs)) := mk_app _ _
          have el3 : (mkS (z.cs ++ [40] ++ plain (sep qs))).length = z.cs.length + 1 + (plain (sep qs)).length := by rw [mkS_len, List.length_append, List.length_append] <;> rfl
          have e3 : mkS (z.cs ++ [40] ++ plain (sep qs)) ++ Str.ofString ")" = mkS (z.cs ++ ([40] ++ (plain (sep qs) ++ [41]))) := by rw [cl_mk, mk_app, List.append_assoc, List.append_assoc]
          have lcz : z.cs.length ≤ 7 := by rw [← tl_wd, ← len_tl]; exact lz
          have hs1 : (Str.ofString "(").length = 1 := by rw [len_tl, tl_op] <;> rfl
          have hs2 : (Str.ofString ")").length = 1 := by rw [len_tl, tl_cl] <;> rfl
          walk_at "rd"
          refine ⟨_, _, rfl, rfl, by rw [hs1]; omega, ?_⟩
          rw [e1]
          refine ⟨⟨_, rfl⟩, _, rfl, ?_⟩
          refine ⟨_, D, qs.map fun t => mkS (plain t), rfl, rfl, .inl (SqL.of (by rw [List.map_map]; exact h4)), ?_, ?_⟩
          · rw [List.map_map, List.length_map]
            have q1 := len_sep qs
            have q2 : (List.map ((fun x => x.length) ∘ fun t => mkS (plain t)) qs).sum = (List.map (fun t => (plain t).length) qs).sum := by
              congr 1
              refine List.map_congr_left fun t _ => ?_
              exact mkS_len _
            have q3 : (Str.ofString ", ").length = 2 := by rw [len_tl, tl_ofString] <;> rfl
            rw [q2, q3]
            omega
          · rw [join_plain]
            refine ⟨_, _, rfl, rfl, by rw [el1, el2]; omega, ?_⟩
            rw [e2]
            walk_at "rd"
            refine ⟨_, _, rfl, rfl, by rw [el3, hs2]; omega, ?_⟩
            rw [e3]
            exact k H4 k4
        walk_at "rd"
        rw [show V.str (Str.ofString "atmost") = V.str Wd.atmost.txt from rfl, txt_eq]
        rcases hform with ⟨ca, ex, et⟩ | ⟨ca, kn, hkn, ex, et⟩
        · refine if_f (decide_eq_false ca) ?_
          refine w_next ?_
          exact fin D _ H3 ts (k1.trans k3) h3 et (by omega)
        · refine if_t (decide_eq_true ca) ?_
          walk_at "rd"
          have hp3' := (k1.trans k3).tup hp
          have eu : us[0]? = some (.int kn) := by
            rw [ex] at hus
            unfold TrsAt at hus
            obtain ⟨y, r, e2, h3', _⟩ := hus
            unfold TrAt at h3'
            rw [e2, h3'] <;> rfl
          refine w_ixT hp3' (v := .int kn) (atI_nat (j := 1) (by rw [List.getElem?_cons_succ]; exact eu)) ?_
          walk_at "rd"
          refine ⟨kn, rfl, by unfold ten60; omega, fun H4 k4 => ?_⟩
          walk_at "rd"
          refine ⟨by show 1 ≤ sizeLine; omega, fun L hL => ?_⟩
          have m5 := Kept.new (o := .lst [.str (numS (kn : Int))]) hL
          have g5 : (upd H4 L (.lst [.str (numS (kn : Int))])) L = some (.lst [.str (numS (kn : Int))]) := upd_same
          have h35 := m5.lst (k4.lst h3)
          have k5 := (k1.trans (k3.trans k4)).trans m5
          generalize upd H4 L (.lst [.str (numS (kn : Int))]) = H5 at m5 g5 h35 k5 ⊢
          walk_at "rd"
          refine ⟨L, D, _, _, rfl, rfl, g5, h35, by rw [List.length_map]; show 1 + _ ≤ _; omega, fun M hM => ?_⟩
          have m6 := Kept.new (o := .lst ([.str (numS (kn : Int))] ++ ts.map fun t => V.str (mkS (plain t)))) hM
          refine fin M _ _ ([numL kn] :: ts) (k5.trans m6) ?_ et (by rw [List.length_cons]; omega)
          rw [upd_same, List.map_cons, plain_one (num_44 kn), numS_mk]
          rfl
end
end Ky

namespace Ky
open PySem PySem.Spec PyProof.Rows L2
local macro_rules | `(tactic| walk_at "rd") => `(tactic| repeat (first
  | with_reducible refine w_seq ?_
  | with_reducible refine w_asg ?_
  | with_reducible refine w_ret ?_
  | with_reducible refine w_drop ?_
  | with_reducible refine w_ifs ?_
  | ((with_reducible refine' w_var ?hh ?_); (case hh => exact rfl))
  | with_reducible refine w_c ?_
  | with_reducible refine w_op ?_
  | with_reducible refine w_un ?_
  | with_reducible refine w_I0 ?_
  | with_reducible refine w_U ?_
  | with_reducible refine w_nil ?_
  | with_reducible refine w_cons ?_
  | with_reducible refine w_call ?_
  | with_reducible refine w_cb ?_
  | with_reducible refine w_test ?_
  | with_reducible refine w_B ?_
  | with_reducible refine w_bl ?_
  | with_reducible refine w_and ?_
  | with_reducible refine w_or ?_
  | with_reducible refine w_not ?_
  | with_reducible refine w_ife ?_
  | with_reducible refine w_gRd ?_
  | with_reducible refine w_andV ?_
  | with_reducible refine w_orV ?_
  | with_reducible refine w_notV ?_
  | with_reducible refine w_chain ?_
  | with_reducible refine w_din ?_
  | with_reducible refine w_isi_ii ?_
  | with_reducible refine w_isi_ib ?_
  | with_reducible refine w_isi_it ?_
  | with_reducible refine w_isi_st ?_
  | ((with_reducible refine w_isi_tt ?h1 ?_); (case h1 => first | assumption | exact upd_same))
  | with_reducible refine if_t rfl ?_
  | with_reducible refine if_f rfl ?_
  | with_reducible refine w_tup ?_
  | with_reducible refine w_lst ?_
  | with_reducible refine w_next ?_
  | with_reducible refine w_bm ?_
  | with_reducible refine w_sl ?_
  | with_reducible refine w_part ?_
  | with_reducible refine w_nop ?_
  | with_reducible refine w_isI ?_
  | with_reducible refine w_yes ?_
  | with_reducible refine w_gn ?_
  | with_reducible refine w_gsub ?_
  | ((with_reducible refine' w_setL ?h1 ?h2 ?_); (case h1 => first | assumption | exact upd_same); (case h2 => exact rfl))
  | with_reducible refine w_asgG ?_
  | with_reducible refine w_m1 ?_
  | with_reducible refine w_isS ?_
  | with_reducible refine w_tyS ?_
  | ((with_reducible refine' w_tyL ?h1 ?_); (case h1 => first | assumption | exact upd_same))
  | ((with_reducible refine' w_ixT ?h1 ?h2 ?_); (case h1 => first | assumption | exact upd_same); (case h2 => exact rfl))
  | ((with_reducible refine' w_ixL ?h1 ?h2 ?_); (case h1 => first | assumption | exact upd_same); (case h2 => exact rfl))
  | ((with_reducible refine w_eq ?h1 ?_); (case h1 => exact rfl))
  | ((with_reducible refine w_ne ?h1 ?_); (case h1 => exact rfl))
  | dsimp only [List.set_cons_zero, List.set_cons_succ, List.append_nil, List.cons_append, List.nil_append, cxOf]))

section
variable {P : Program} {w : World} {K : PySem.W.Frag} {mg : Str → Option Value} {base : Heap} {uG uP uD : Value} {f : Addr} {fd : FuncData}
theorem ok_l_draw (F : Fun K "_law_draw" "_law_draw" s_l_draw f fd) (T : Tx K mg uG uP uD) : FnOk P w K mg base CX0 1 f fd ["script"] (spDrawC K) := by
  refine F.ok sc_l_draw (fun vs H Q E h => ?_) (fun cdv A outer s H vs Q E hr h => ?_)
  · obtain ⟨a, ns, rfl, _⟩ := h
    rfl
  · obtain ⟨a, ns, rfl, hS, hlen, k⟩ := h
    refine ⟨_, (pss_cons (ps_set (i := 1) sc_l_draw.nd rfl (.inl rfl) pe_int)
    (pss_cons (ps_for PassesOwn.never rfl (pi_listK (K := K) rfl (pv 0)) (pg_name (i := 2) sc_l_draw.nd rfl (.inl rfl))
      (pss_one (ps_set (i := 1) sc_l_draw.nd rfl (.inl rfl) (pe_op op_mod (pe_callTy call_int1 (by rfl) T.z_int (by decide +kernel) (pa_cons (pe_op op_add (pe_op op_add (pe_op op_mul (pv 1) pe_int) (pe_op op_mod (pe_callB call_abs (by rfl) T.z_abs (by decide +kernel) (pa_cons (pe_callTy call_int1 (by rfl) T.z_int (by decide +kernel) (pa_cons (pv 2) pa_nil)) pa_nil)) pe_int)) pe_int) pa_nil)) pe_int))))
    (pss_one (ps_ret (pe_lst (pa_cons (pe_lc (own := [("cell", 2)]) (g := gName 2) (by rfl) sc_l_draw.nd (pi_listK (K := K) rfl (pv 0)) (blkOk_by (own := [("cell", 2)]) (N := n_l_draw) (sc := defScope s_l_draw) (by decide +kernel)) (fun _ _ _ _ _ => pg_name (i := 2) sc_l_draw.nd rfl (Or.inl rfl)) (fun _ _ _ _ _ => pts_nil) (fun _ _ _ _ _ => (pe_callB call_abs (by rfl) T.z_abs (by decide +kernel) (pa_cons (pe_callTy call_int1 (by rfl) T.z_int (by decide +kernel) (pa_cons (pv 2) pa_nil)) pa_nil)))) (pa_cons (pe_un un_neg pe_int) (pa_cons pe_int (pa_cons (pv 1) pa_nil))))))))), ?_⟩
    rw [show start n_l_draw [(.ref a : V)] = ([some (.ref a), none, none] : List (Option V)) from rfl]
    walk_at "rd"
    refine ⟨_, rfl, a, rfl, ⟨_, hS⟩, for_list (K := K) (a := a) (xs := ns.map V.int) (fun i σ' H' => ∃ z v, σ' = [some (.ref a), some (.int z), v] ∧ H' = H) ⟨7, none, rfl, rfl⟩ (fun i σ' H' _ h => by
      obtain ⟨_, _, _, rfl⟩ := h
      exact hS) ?_ ?_⟩
    · rintro i y σ' H' hi ⟨z, v, rfl, rfl⟩
      obtain ⟨u, rfl, _⟩ := map_int hi
      walk_at "rd"
      refine w_I (.inr ⟨by decide, by decide⟩) ?_
      walk_at "rd"
      refine .inl ⟨_, rfl, ?_⟩
      walk_at "rd"
      refine ⟨_, rfl, ?_⟩
      walk_at "rd"
      refine w_I (by show (0 : Int) < 65521; decide) ?_
      walk_at "rd"
      refine .inl ⟨_, rfl, ?_⟩
      walk_at "rd"
      refine w_I (by show (0 : Int) < 2147483647; decide) ?_
      exact ⟨_, _, rfl, rfl⟩
    · rintro σ' H' ⟨z, v, rfl, rfl⟩
      walk_at "rd"
      refine ⟨_, rfl, a, rfl, ⟨_, hS⟩, fun D hD => lc_list (K := K) (xs := ns.map V.int) (fun i H1 => ∃ acc : List Int, H1 D = some (.lst (acc.map V.int)) ∧ acc.length = i ∧ Kept H' H1) ⟨[], upd_same, rfl, Kept.new hD⟩ (fun i H1 _ h => by
        obtain ⟨_, _, _, k1⟩ := h
        exact k1.sq hS) ?_ ?_⟩
      · rintro i y H1 hi ⟨acc, h1, h2, k1⟩
        obtain ⟨u, rfl, hu⟩ := map_int hi
        have hi2 : i < ns.length := (List.getElem?_eq_some_iff.mp hu).1
        refine ⟨rfl, w_yes (if_t rfl ?_)⟩
        walk_at "rd"
        refine .inl ⟨_, rfl, ?_⟩
        walk_at "rd"
        refine ⟨_, rfl, ?_⟩
        refine ⟨acc.map V.int, h1, ?_, acc ++ [if u < 0 then -u else u], ?_, ?_, Kept.mut k1 hD⟩
        · rw [List.length_map]
          exact small1000 (by omega)
        · rw [List.map_append]
          exact upd_same
        · rw [List.length_append, h2]
          rfl
      · rintro H1 ⟨acc, h1, h2, k1⟩
        walk_at "rd"
        refine ⟨by show 4 ≤ sizeLine; decide, fun d hd => ?_⟩
        refine k d D _ (k1.free _ hd) (k1.trans (Kept.new hd)) ⟨acc, -1, 0, z, ne_of_none h1 hd, upd_same, ?_, by decide⟩
        rw [upd_ne (ne_of_none h1 hd)]
        exact h1
theorem ok_l_take (F : Fun K "_law_take" "_law_take" s_l_take f fd) (T : Tx K mg uG uP uD) : FnOk P w K mg base CX0 1 f fd ["draw", "many"] spTakeC := by
  refine F.ok sc_l_take (fun vs H Q E h => ?_) (fun cdv A outer s H vs Q E hr h => ?_)
  · obtain ⟨d, c, m, rfl, _⟩ := h
    rfl
  · obtain ⟨d, c, m, rfl, m0, m1, hD, k⟩ := h
    have hD0 := hD
    obtain ⟨ns, a, u, z, ne, hd, hc, ha⟩ := hD
    have st0 : TakeSt H c d H := ⟨fun _ _ => rfl, a, u, z, hd, ha⟩
    refine ⟨_, (Evl.pss_cut (ps_if (pt_cmpR op_eq (pe_ix (ix_listK (K := K) rfl) (pv 0) pe_int (fun _ _ => rfl)) pe_int (nomark _))
      (pss_cons (ps_asg (pe_op op_add (pe_ix (ix_listK (K := K) rfl) (pv 0) pe_int (fun _ _ => rfl)) pe_int) (pg_sub (pv 0) pe_int set_list))
    (Evl.pss_cut (ps_if (pt_cmpR op_lt (pe_ix (ix_listK (K := K) rfl) (pv 0) pe_int (fun _ _ => rfl)) (pe_callB call_len_seq (by rfl) T.z_len (by decide +kernel) (pa_cons (pe_ix (ix_listK (K := K) rfl) (pv 0) pe_int (fun _ _ => rfl)) pa_nil)) (nomark _))
      (pss_one (ps_asg (pe_ix (ix_listK (K := K) rfl) (pe_ix (ix_listK (K := K) rfl) (pv 0) pe_int (fun _ _ => rfl)) (pe_ix (ix_listK (K := K) rfl) (pv 0) pe_int (fun _ _ => rfl)) (fun _ _ => rfl)) (pg_sub (pv 0) pe_int set_list)))
      pss_nil)
    (pss_one (ps_if (pt_cmpR op_eq (pe_ix (ix_listK (K := K) rfl) (pv 0) pe_int (fun _ _ => rfl)) pe_int (nomark _))
      (pss_cons (ps_asg (pe_op op_mod (pe_callTy call_int1 (by rfl) T.z_int (by decide +kernel) (pa_cons (pe_op op_add (pe_op op_mul (pe_ix (ix_listK (K := K) rfl) (pv 0) pe_int (fun _ _ => rfl)) pe_int) pe_int) pa_nil)) pe_int) (pg_sub (pv 0) pe_int set_list))
    (pss_one (ps_asg (pe_ix (ix_listK (K := K) rfl) (pv 0) pe_int (fun _ _ => rfl)) (pg_sub (pv 0) pe_int set_list))))
      pss_nil))))
      pss_nil)
    (pss_cons (ps_set (i := 2) sc_l_take.nd rfl (.inl rfl) (pe_op op_mod (pe_callTy call_int1 (by rfl) T.z_int (by decide +kernel) (pa_cons (pe_ix (ix_listK (K := K) rfl) (pv 0) pe_int (fun _ _ => rfl)) pa_nil)) (pv 1)))
    (pss_cons (ps_asg (pe_op op_fdivW (pe_ix (ix_listK (K := K) rfl) (pv 0) pe_int (fun _ _ => rfl)) (pv 1)) (pg_sub (pv 0) pe_int set_list))
    (pss_one (ps_ret (pv 2)))))), ?_⟩
    rw [show start n_l_take [(.ref d : V), (.int m : V)] = ([some (.ref d), some (.int m), none] : List (Option V)) from rfl]
    refine ⟨fun σ' H' => σ' = [some (.ref d), some (.int m), none] ∧ TakeSt H c d H', ?_, ?_⟩
    · walk_at "rd"
      refine ite2 (fun _ => ?_) (fun _ => ?_)
      · walk_at "rd"
        refine ⟨fun σ' H' => σ' = [some (.ref d), some (.int m), none] ∧ TakeSt H c d H', ?_, ?_⟩
        · have st1 : TakeSt H c d (upd H d (.lst [.ref c, .int (a + 1), .int u, .int z])) := st0.upd (by omega)
          have hc1 : (upd H d (.lst [.ref c, .int (a + 1), .int u, .int z])) c = some (.lst (ns.map V.int)) := by rw [st1.1 c ne]; exact hc
          walk_at "rd"
          refine ⟨c, ns.map V.int, rfl, .inl (SqL.of hc1), ?_⟩
          walk_at "rd"
          refine ite2 (fun e => ?_) (fun _ => ⟨rfl, st1⟩)
          have e' : a + 1 < (ns.length : Int) := by
            have := of_decide_eq_true e
            rw [List.length_map] at this
            exact this
          obtain ⟨v, _, hv⟩ := pick_int (ns := ns) (r := a + 1) (by omega) e'
          walk_at "rd"
          refine w_ixL hc1 hv ?_
          walk_at "rd"
          exact ⟨rfl, st1.upd (by omega)⟩
        · rintro σ' H' ⟨rfl, st1⟩
          have st2 := st1
          obtain ⟨_, a1, u1, z1, hd1, ha1⟩ := st2
          walk_at "rd"
          refine ite2 (fun _ => ?_) (fun _ => ⟨rfl, st1⟩)
          walk_at "rd"
          refine w_I (.inr ⟨by decide, by decide⟩) ?_
          walk_at "rd"
          refine .inl ⟨_, rfl, ?_⟩
          walk_at "rd"
          refine w_I (by show (0 : Int) < 2147483647; decide) ?_
          walk_at "rd"
          exact ⟨rfl, (st1.upd ha1).upd ha1⟩
      · exact ⟨rfl, st0⟩
    · rintro σ' H' ⟨rfl, st1⟩
      have st2 := st1
      obtain ⟨_, a1, u1, z1, hd1, ha1⟩ := st2
      walk_at "rd"
      refine .inl ⟨_, rfl, ?_⟩
      walk_at "rd"
      refine w_I m0 ?_
      walk_at "rd"
      refine w_I (wide_div (b := 62) m0 (by omega) (by decide) (by decide)) ?_
      walk_at "rd"
      exact k _ _ (Int.emod_nonneg _ (by omega)) (Int.emod_lt_of_pos _ m0) ((st1.upd ha1).keptC hd hc ne)
theorem ok_show (F : Fun K "show_expression" "show_expression" s_show_expression f fd) (T : Tx K mg uG uP uD) (D_parts_in : Df P w K mg base 1 "parts_in" ["expression"] spPartsIn) (D_show_number : Df P w K mg base 1 "show_number" ["n"] spShowN)
    (m : mg "show_expression" = some (.ref f)) (kp : PySem.W.keepIn K (.ref f) = true) (b : Binds K fd ["expression"] []) : ∀ d, FnOk P w K mg base CX0 (d + 2) f fd ["expression"] (spShow d)
  | 0 => ⟨fun vs H Q E h => by
    obtain ⟨v, n, e, t, _, hn, _⟩ := h
    omega, fun A outer s H args us vs Q E _ _ _ _ h => by
    obtain ⟨v, n, e, t, _, hn, _⟩ := h
    omega⟩
  | d + 1 => ok_show_step d F T D_parts_in D_show_number ⟨f, fd, ok_show F T D_parts_in D_show_number m kp b d, m, kp, b⟩
end
end Ky

namespace Ky
open PySem PySem.Spec PyProof.Rows L2
local macro_rules | `(tactic| walk_at "rd") => `(tactic| repeat (first
  | with_reducible refine w_for1 ?_
  | with_reducible refine w_for2 ?_
  | with_reducible refine w_forL ?_
  | with_reducible refine w_forT ?_
  | with_reducible refine w_lc1 ?_
  | with_reducible refine w_lcL ?_
  | with_reducible refine w_lcT ?_
  | with_reducible refine w_dcL ?_
  | with_reducible refine w_dcT ?_
  | with_reducible refine w_seq ?_
  | with_reducible refine w_asg ?_
  | with_reducible refine w_ret ?_
  | with_reducible refine w_drop ?_
  | with_reducible refine w_ifs ?_
  | ((with_reducible refine' w_var ?hh ?_); (case hh => exact rfl))
  | with_reducible refine w_c ?_
  | with_reducible refine w_op ?_
  | with_reducible refine w_un ?_
  | with_reducible refine w_I0 ?_
  | with_reducible refine w_U ?_
  | with_reducible refine w_nil ?_
  | with_reducible refine w_cons ?_
  | with_reducible refine w_call ?_
  | with_reducible refine w_cb ?_
  | with_reducible refine w_test ?_
  | with_reducible refine w_B ?_
  | with_reducible refine w_bl ?_
  | with_reducible refine w_and ?_
  | with_reducible refine w_or ?_
  | with_reducible refine w_not ?_
  | with_reducible refine w_ife ?_
  | with_reducible refine w_gRd ?_
  | with_reducible refine w_andV ?_
  | with_reducible refine w_orV ?_
  | with_reducible refine w_notV ?_
  | with_reducible refine w_chain ?_
  | with_reducible refine w_din ?_
  | with_reducible refine w_isi_ii ?_
  | with_reducible refine w_isi_bi ?_
  | with_reducible refine w_isi_bb ?_
  | with_reducible refine w_isi_bt ?_
  | with_reducible refine w_isi_si ?_
  | with_reducible refine w_isi_nt ?_
  | with_reducible refine w_isi_ib ?_
  | with_reducible refine w_isi_it ?_
  | with_reducible refine w_isi_st ?_
  | ((with_reducible refine w_isi_tt ?h1 ?_); (case h1 => first | assumption | exact upd_same))
  | with_reducible refine if_t rfl ?_
  | with_reducible refine if_f rfl ?_
  | with_reducible refine w_tup ?_
  | with_reducible refine w_lst ?_
  | with_reducible refine w_next ?_
  | with_reducible refine w_bm ?_
  | with_reducible refine w_sl ?_
  | with_reducible refine w_part ?_
  | with_reducible refine w_nop ?_
  | with_reducible refine w_isI ?_
  | with_reducible refine w_yes ?_
  | with_reducible refine w_gn ?_
  | with_reducible refine w_gsub ?_
  | ((with_reducible refine' w_setL ?h1 ?h2 ?_); (case h1 => first | assumption | exact upd_same); (case h2 => exact rfl))
  | with_reducible refine w_asgG ?_
  | with_reducible refine w_m1 ?_
  | with_reducible refine w_isS ?_
  | with_reducible refine w_tyS ?_
  | ((with_reducible refine' w_tyL ?h1 ?_); (case h1 => first | assumption | exact upd_same))
  | ((with_reducible refine' w_ixT ?h1 ?h2 ?_); (case h1 => first | assumption | exact upd_same); (case h2 => exact rfl))
  | ((with_reducible refine' w_ixL ?h1 ?h2 ?_); (case h1 => first | assumption | exact upd_same); (case h2 => exact rfl))
  | ((with_reducible refine w_eq ?h1 ?_); (case h1 => exact rfl))
  | ((with_reducible refine w_ne ?h1 ?_); (case h1 => exact rfl))
  | ((with_reducible refine' w_text ?hT ?h1 ?h2 ?_); (case hT => assumption); (case h1 => exact rfl); (case h2 => first | assumption | exact upd_same))
  | ((with_reducible refine' w_at ?hT ?h1 ?h2 ?_); (case hT => assumption); (case h1 => exact rfl); (case h2 => first | assumption | exact upd_same))
  | ((with_reducible refine' w_token ?hT ?h1 ?h2 ?_); (case hT => assumption); (case h1 => exact rfl); (case h2 => first | assumption | exact upd_same))
  | with_reducible refine w_sfld0 ?_
  | with_reducible refine w_mkx ?_
  | with_reducible refine w_nonR ?_
  | with_reducible refine w_bm0 ?_
  | ((with_reducible refine' w_putAt ?hT ?h2 ?_); (case hT => assumption); (case h2 => first | assumption | exact upd_same))
  | ((with_reducible refine' w_putToken ?hT ?h2 ?_); (case hT => assumption); (case h2 => first | assumption | exact upd_same))
  | dsimp only [List.set_cons_zero, List.set_cons_succ, List.append_nil, List.cons_append, List.nil_append, cxOf]))

open TL
def GoodE (n : Nat) (t : Tr) : Prop := ∃ l, Ex n t l
def okW (z : Wd) (n : Nat) : Bool := isOp z && (match z.want with | some o => okE o n | none => false)
theorem all2_of {α β : Type} {R : α → β → Prop} : ∀ {as : List α}, (∀ a ∈ as, ∃ b, R a b) → ∃ bs, All2 R as bs
  | [], _ => ⟨[], trivial⟩
  | a :: as, h => by
    obtain ⟨b, hb⟩ := h a List.mem_cons_self
    obtain ⟨bs, hbs⟩ := all2_of (as := as) fun c hc => h c (List.mem_cons_of_mem _ hc)
    exact ⟨b :: bs, hb, hbs⟩
theorem ex_leaf {n : Nat} {e : Tr} {t : List (List Nat)} (h : Leaf e t) : Ex n e t := by
  cases n with
  | zero => exact h
  | succ n => exact .inl h
theorem goodE_var (n : Nat) {k : Int} (h : isVar k = true) : GoodE n (.t [.s Wd.var.txt, .i k]) := by
  unfold isVar at h
  rw [Bool.and_eq_true, decide_eq_true_eq, decide_eq_true_eq] at h
  obtain ⟨m, rfl⟩ : ∃ m : Nat, k = (m : Int) := ⟨k.toNat, by omega⟩
  exact ⟨_, ex_leaf (.inl ⟨m, by omega, by omega, rfl, rfl⟩)⟩
theorem goodE_0 (n : Nat) {w : Wd} (h : w = .yes ∨ w = .no) : GoodE n (.t [.s w.txt]) := ⟨_, ex_leaf (.inr ⟨w, h, rfl, rfl⟩)⟩
theorem goodE_op {n : Nat} {w : Wd} {ps : List Tr} (h1 : w ≠ .var) (h2 : w ≠ .atmost) (h3 : okW w ps.length = true) (h5 : ps.length ≤ 3) (h4 : ∀ a ∈ ps, GoodE n a) : GoodE (n + 1) (.t (.s w.txt :: ps)) := by
  obtain ⟨ts, hts⟩ := all2_of h4
  unfold okW at h3
  rw [Bool.and_eq_true] at h3
  cases e : w.want with
  | none => rw [e] at h3; cases h3.2
  | some o =>
    rw [e] at h3
    exact ⟨_, .inr (.inl ⟨w, o, ps, ts, h3.1, e, h3.2, h5, hts, rfl, rfl⟩)⟩
theorem goodE_at {n : Nat} {k : Int} {ps : List Tr} (hk : 0 ≤ k ∧ k ≤ 3) (h5 : ps.length ≤ 3) (h4 : ∀ a ∈ ps, GoodE n a) : GoodE (n + 1) (.t (.s Wd.atmost.txt :: .i k :: ps)) := by
  obtain ⟨ts, hts⟩ := all2_of h4
  obtain ⟨m, rfl⟩ : ∃ m : Nat, k = (m : Int) := ⟨k.toNat, by omega⟩
  exact ⟨_, .inr (.inr ⟨m, ps, ts, by omega, h5, hts, rfl, rfl⟩)⟩
def NmAt (H : Hp) (na : Addr) : Prop := H na = some (.lst [.int 1, .int 2, .int 30, .int 999])
def spLE (d : Nat) : Sp := fun vs H Q _ => ∃ (da ca na : Addr) (n : Nat), vs = [.ref da, .int n, .ref na] ∧ n < d ∧ DrwC da ca H ∧ NmAt H na ∧ na ≠ da ∧ ∀ v H' t, KeptC da ca H H' → TrAt H' t v → GoodE n t → Q v H'
theorem te_var {K : PySem.W.Frag} {da ca na : Addr} {n0 : V} {σ : L2.St} {H : Hp} {Q : VK} {n : Nat} (hD : DrwC da ca H) (hN : NmAt H na) (nN : na ≠ da) (k : ∀ v H' t, KeptC da ca H H' → TrAt H' t v → GoodE n t → Q v H') :
    tTup (tCons (tC (V.str (Str.ofString "var"))) (tCons (tOp (rIxL K) (tVar 2) (tCall spTakeC [] E0 (tCons (tVar 0) (tCons (tCB (rLenK K) (tCons (tVar 2) tNil)) tNil)))) tNil)) (some (V.ref da) :: some n0 :: some (V.ref na) :: σ) H Q := by
  have hsl : 1001 ≤ sizeLine := by decide
  unfold NmAt at hN
  walk_at "rd"
  refine ⟨na, _, rfl, .inl (SqL.of hN), ?_⟩
  walk_at "rd"
  refine ⟨da, ca, 4, rfl, by decide, by decide, hD, fun r H2 l2 g2 k2 => ?_⟩
  obtain ⟨x, hx, ex⟩ := pick_int (ns := [1, 2, 30, 999]) l2 g2
  refine w_ixL (k2.lst nN hN) ex ?_
  walk_at "rd"
  refine ⟨by show 2 ≤ sizeLine; omega, fun p hp => ?_⟩
  refine k _ _ (.t [.s Wd.var.txt, .i x]) (k2.trans (Kept.new hp).toC) (trAt_w (w := .var) upd_same (TrsAt.cons (by unfold TrAt; rfl) TrsAt.nil)) (goodE_var n ?_)
  simp only [List.mem_cons, List.not_mem_nil, or_false] at hx
  rcases hx with rfl | rfl | rfl | rfl <;> decide
section
variable {P : Program} {w : World} {K : PySem.W.Frag} {mg : Str → Option Value} {base : Heap} {uG uP uD : Value} {f aK : Addr} {fd : FuncData}
theorem ok_le_step (d : Nat) (F : Fun K "_law_expression" "_law_expression" s_l_expression f fd) (T : Tx K mg uG uP uD) (D_l_take : Df P w K mg base 1 "_law_take" ["draw", "many"] spTakeC)
    (D_l_expression : Df P w K mg base (d + 2) "_law_expression" ["draw", "depth", "names"] (spLE d)) : FnOk P w K mg base CX0 (d + 3) f fd ["draw", "depth", "names"] (spLE (d + 1)) := by
  refine F.ok sc_l_expression (fun vs H Q E h => ?_) (fun cdv A outer s H vs Q E hr h => ?_)
  · obtain ⟨da, ca, na, n, rfl, _⟩ := h
    rfl
  · obtain ⟨da, ca, na, n, rfl, hn, hD, hN, nN, k⟩ := h
    have hsl : 1001 ≤ sizeLine := by decide
    refine ⟨_, (pss_cons (ps_set (i := 3) sc_l_expression.nd rfl (.inl rfl) (pe_df D_l_take (hr.mono (by omega)) (by rfl) (pa_cons (pv 0) (pa_cons pe_int pa_nil))))
    (pss_cons (ps_if (PW.pt (pw_or (pt_cmpR op_eq (pv 1) pe_int (nomark _)) (pw_or1 (pt_cmpR op_lt (pv 3) pe_int (nomark _)))))
      (pss_one (ps_ret (pe_tup (pa_cons pe_str (pa_cons (pe_ix (ix_listK (K := K) rfl) (pv 2) (pe_df D_l_take (hr.mono (by omega)) (by rfl) (pa_cons (pv 0) (pa_cons (pe_callB (call_lenK (K := K) rfl) (by rfl) T.z_len (by decide +kernel) (pa_cons (pv 2) pa_nil)) pa_nil))) (fun _ _ => rfl)) pa_nil)))))
      pss_nil)
    (pss_cons (ps_if (pt_cmpR op_eq (pv 3) pe_int (nomark _))
      (pss_one (ps_ret (pe_ix (ix_listK (K := K) rfl) (pe_lst (pa_cons (pe_tup (pa_cons pe_str pa_nil)) (pa_cons (pe_tup (pa_cons pe_str pa_nil)) pa_nil))) (pe_df D_l_take (hr.mono (by omega)) (by rfl) (pa_cons (pv 0) (pa_cons pe_int pa_nil))) (fun _ _ => rfl))))
      pss_nil)
    (pss_cons (ps_if (pt_cmpR op_lt (pv 3) pe_int (nomark _))
      (pss_one (ps_ret (pe_tup (pa_cons pe_str (pa_cons (pe_df D_l_expression (hr.mono (by omega)) (by rfl) (pa_cons (pv 0) (pa_cons (pe_op op_sub (pv 1) pe_int) (pa_cons (pv 2) pa_nil)))) pa_nil)))))
      pss_nil)
    (pss_cons (ps_if (pt_cmpR op_lt (pv 3) pe_int (nomark _))
      (pss_cons (ps_setLc (i := 4) (own := [("j", 5)]) (g := gName 5) (by rfl) sc_l_expression.nd rfl rfl (sw_true rfl rfl rfl (by decide +kernel)) (pi_range1 (by rfl) T.z_range (pa_cons (pe_df D_l_take (hr.mono (by omega)) (by rfl) (pa_cons (pv 0) (pa_cons pe_int pa_nil))) pa_nil)) (blkOk_by (own := [("j", 5)]) (N := n_l_expression) (sc := defScope s_l_expression) (by decide +kernel)) (fun _ _ _ _ _ => pg_name (i := 5) sc_l_expression.nd rfl (Or.inl rfl)) (fun _ _ _ _ _ => pts_nil) (fun _ _ _ _ _ => (pe_df D_l_expression (hr.mono (by omega)) (by rfl) (pa_cons (pv 0) (pa_cons (pe_op op_sub (pv 1) pe_int) (pa_cons (pv 2) pa_nil))))))
    (pss_one (ps_ret (pe_callTy call_tuple_of (by rfl) T.z_tuple (by decide +kernel) (pa_cons (pe_op op_cat (pe_lst (pa_cons (pe_ix (ix_listK (K := K) rfl) (pe_lst (pa_cons pe_str (pa_cons pe_str pa_nil))) (pe_df D_l_take (hr.mono (by omega)) (by rfl) (pa_cons (pv 0) (pa_cons pe_int pa_nil))) (fun _ _ => rfl)) pa_nil)) (pv 4)) pa_nil)))))
      pss_nil)
    (pss_cons (ps_if (pt_cmpR op_lt (pv 3) pe_int (nomark _))
      (pss_cons (ps_set (i := 6) sc_l_expression.nd rfl (.inl rfl) (pe_ix (ix_listK (K := K) rfl) (pe_lst (pa_cons pe_str (pa_cons pe_str (pa_cons pe_str pa_nil)))) (pe_op op_sub (pv 3) pe_int) (fun _ _ => rfl)))
    (pss_one (ps_ret (pe_tup (pa_cons (pv 6) (pa_cons (pe_df D_l_expression (hr.mono (by omega)) (by rfl) (pa_cons (pv 0) (pa_cons (pe_op op_sub (pv 1) pe_int) (pa_cons (pv 2) pa_nil)))) (pa_cons (pe_df D_l_expression (hr.mono (by omega)) (by rfl) (pa_cons (pv 0) (pa_cons (pe_op op_sub (pv 1) pe_int) (pa_cons (pv 2) pa_nil)))) pa_nil)))))))
      pss_nil)
    (pss_cons (ps_if (pt_cmpR op_eq (pv 3) pe_int (nomark _))
      (pss_cons (ps_setLc (i := 4) (own := [("j", 5)]) (g := gName 5) (by rfl) sc_l_expression.nd rfl rfl (sw_true rfl rfl rfl (by decide +kernel)) (pi_range1 (by rfl) T.z_range (pa_cons pe_int pa_nil)) (blkOk_by (own := [("j", 5)]) (N := n_l_expression) (sc := defScope s_l_expression) (by decide +kernel)) (fun _ _ _ _ _ => pg_name (i := 5) sc_l_expression.nd rfl (Or.inl rfl)) (fun _ _ _ _ _ => pts_nil) (fun _ _ _ _ _ => (pe_df D_l_expression (hr.mono (by omega)) (by rfl) (pa_cons (pv 0) (pa_cons (pe_op op_sub (pv 1) pe_int) (pa_cons (pv 2) pa_nil))))))
    (pss_one (ps_ret (pe_callTy call_tuple_of (by rfl) T.z_tuple (by decide +kernel) (pa_cons (pe_op op_cat (pe_lst (pa_cons pe_str pa_nil)) (pv 4)) pa_nil)))))
      pss_nil)
    (pss_cons (ps_setLc (i := 4) (own := [("j", 5)]) (g := gName 5) (by rfl) sc_l_expression.nd rfl rfl (sw_true rfl rfl rfl (by decide +kernel)) (pi_range1 (by rfl) T.z_range (pa_cons (pe_df D_l_take (hr.mono (by omega)) (by rfl) (pa_cons (pv 0) (pa_cons pe_int pa_nil))) pa_nil)) (blkOk_by (own := [("j", 5)]) (N := n_l_expression) (sc := defScope s_l_expression) (by decide +kernel)) (fun _ _ _ _ _ => pg_name (i := 5) sc_l_expression.nd rfl (Or.inl rfl)) (fun _ _ _ _ _ => pts_nil) (fun _ _ _ _ _ => (pe_df D_l_expression (hr.mono (by omega)) (by rfl) (pa_cons (pv 0) (pa_cons (pe_op op_sub (pv 1) pe_int) (pa_cons (pv 2) pa_nil))))))
    (pss_one (ps_ret (pe_callTy call_tuple_of (by rfl) T.z_tuple (by decide +kernel) (pa_cons (pe_op op_cat (pe_lst (pa_cons pe_str (pa_cons (pe_df D_l_take (hr.mono (by omega)) (by rfl) (pa_cons (pv 0) (pa_cons pe_int pa_nil))) pa_nil))) (pv 4)) pa_nil)))))))))))), ?_⟩
    rw [show start n_l_expression [(.ref da : V), (.int n : V), (.ref na : V)] = ([some (.ref da), some (.int n), some (.ref na), none, none, none, none] : List (Option V)) from rfl]
    walk_at "rd"
    refine ⟨da, ca, 16, rfl, by decide, by decide, hD, fun r H1 l1 g1 k1 => ?_⟩
    have hD1 := k1.drw hD
    walk_at "rd"
    cases n with
    | zero =>
      refine if_t rfl ?_
      refine if_t rfl ?_
      refine w_ret ?_
      exact te_var hD1 (k1.lst nN hN) nN fun v H' t k2 => k v H' t (k1.trans k2)
    | succ n =>
      refine if_f (decide_eq_false fun z => by have := V.int.inj z; omega) ?_
      walk_at "rd"
      by_cases c4 : r < 4
      · refine if_t (decide_eq_true c4) ?_
        refine w_ret ?_
        exact te_var hD1 (k1.lst nN hN) nN fun v H' t k2 => k v H' t (k1.trans k2)
      refine if_f (decide_eq_false c4) ?_
      walk_at "rd"
      have rcl : ∀ {H' : Hp} {Q' : VK} {E' : XK}, DrwC da ca H' → KeptC da ca H H' → (∀ v H'' t, KeptC da ca H' H'' → TrAt H'' t v → GoodE n t → Q' v H'') → spLE d [.ref da, .int (((n + 1 : Nat) : Int) - 1), .ref na] H' Q' E' := fun hD' kH k' => ⟨da, ca, na, n, by rw [show ((n + 1 : Nat) : Int) - 1 = (n : Int) from by omega], by omega, hD', kH.lst nN hN, nN, k'⟩
      by_cases c5 : r = 4
      · refine if_t (by rw [c5, decide_eq_true rfl]) ?_
        walk_at "rd"
        refine ⟨by show 1 ≤ sizeLine; omega, fun p1 hp1 => ?_⟩
        have m1 : KeptC da ca H1 (upd H1 p1 (.tup [.str (Str.ofString "yes")])) := (Kept.new hp1).toC
        have e1 : (upd H1 p1 (.tup [.str (Str.ofString "yes")])) p1 = some (.tup [.str (Str.ofString "yes")]) := upd_same
        generalize upd H1 p1 (.tup [.str (Str.ofString "yes")]) = H2 at m1 e1
        walk_at "rd"
        refine ⟨by show 1 ≤ sizeLine; omega, fun p2 hp2 => ?_⟩
        have m2k := Kept.new (o := .tup [.str (Str.ofString "no")]) hp2
        have e2 : (upd H2 p2 (.tup [.str (Str.ofString "no")])) p2 = some (.tup [.str (Str.ofString "no")]) := upd_same
        have e1 := m2k.tup e1
        generalize upd H2 p2 (.tup [.str (Str.ofString "no")]) = H3 at m2k e1 e2
        have hD3 := m2k.toC.drw (m1.drw hD1)
        walk_at "rd"
        refine ⟨by show 2 ≤ sizeLine; omega, fun L hL => ?_⟩
        have nL := hD3.old hL
        have m3 := Kept.new (o := .lst [.ref p1, .ref p2]) hL
        have e3 : (upd H3 L (.lst [.ref p1, .ref p2])) L = some (.lst [.ref p1, .ref p2]) := upd_same
        have e1 := m3.tup e1
        have e2 := m3.tup e2
        generalize upd H3 L (.lst [.ref p1, .ref p2]) = H4 at m3 e1 e2 e3
        have hD4 := m3.toC.drw hD3
        walk_at "rd"
        refine ⟨da, ca, 2, rfl, by decide, by decide, hD4, fun r2 H5 l2 g2 k2 => ?_⟩
        have kA := k1.trans (m1.trans (m2k.toC.trans (m3.toC.trans k2)))
        have e3 := k2.lst nL.1 e3
        have e1 := k2.tup hD4 e1
        have e2 := k2.tup hD4 e2
        rcases (show r2 = 0 ∨ r2 = 1 from by omega) with rfl | rfl
        · refine w_ixL e3 (v := .ref p1) (atI_nat (j := 0) rfl) ?_
          exact k _ _ (.t [.s Wd.yes.txt]) kA (trAt_w (w := .yes) e1 TrsAt.nil) (goodE_0 _ (.inl rfl))
        · refine w_ixL e3 (v := .ref p2) (atI_nat (j := 1) rfl) ?_
          exact k _ _ (.t [.s Wd.no.txt]) kA (trAt_w (w := .no) e2 TrsAt.nil) (goodE_0 _ (.inr rfl))
      refine if_f (decide_eq_false fun z => c5 (V.int.inj z)) ?_
      walk_at "rd"
      by_cases c7 : r < 7
      · refine if_t (decide_eq_true c7) ?_
        walk_at "rd"
        refine rcl hD1 k1 fun v1 H2 t1 k2 ht1 hg1 => ?_
        walk_at "rd"
        refine ⟨by show 2 ≤ sizeLine; omega, fun p hp => ?_⟩
        have m1 := Kept.new (o := .tup [.str (Str.ofString "not"), v1]) hp
        exact k _ _ (.t [.s Wd.not.txt, t1]) (k1.trans (k2.trans m1.toC)) (trAt_w (w := .not) upd_same (TrsAt.cons (TrAt.kept ht1 m1) TrsAt.nil)) (goodE_op (by decide) (by decide) rfl (by simp) fun a ha => by rw [List.mem_singleton.mp ha]; exact hg1)
      refine if_f (decide_eq_false c7) ?_
      walk_at "rd"
      by_cases c11 : r < 11
      · refine if_t (decide_eq_true c11) ?_
        walk_at "rd"
        refine ⟨da, ca, 4, rfl, by decide, by decide, hD1, fun r2 H2 l2 g2 k2 => ?_⟩
        obtain ⟨m, rfl⟩ : ∃ m : Nat, r2 = (m : Int) := ⟨r2.toNat, by omega⟩
        have hD2 := k2.drw hD1
        refine Lc1.drawsT (GoodE n) hD2 (by omega) (fun i H3 kk hi k3 step => ?_) fun D H3 xs ts hDn k3 hDl hxs htl hts => ?_
        · walk_at "rd"
          exact rcl (k3.drw hD2) (k1.trans (k2.trans k3)) fun v H4 t k4 ht hg => step v H4 t k4 ht hg
        · have hD3 := k3.drw hD2
          have nD : D ≠ da := (hD2.old hDn).1
          walk_at "rd"
          have htl3 : ts.length ≤ 3 := by omega
          have hxl := hxs.len
          refine ⟨by show 2 ≤ sizeLine; omega, fun L hL => ?_⟩
          have nL := hD3.old hL
          have m3 := Kept.new (o := .lst [.str (Str.ofString "and"), .str (Str.ofString "or")]) hL
          have e3 : (upd H3 L (.lst [.str (Str.ofString "and"), .str (Str.ofString "or")])) L = some (.lst [.str (Str.ofString "and"), .str (Str.ofString "or")]) := upd_same
          generalize upd H3 L (.lst [.str (Str.ofString "and"), .str (Str.ofString "or")]) = H4 at m3 e3
          have hD4 := m3.toC.drw hD3
          walk_at "rd"
          refine ⟨da, ca, 2, rfl, by decide, by decide, hD4, fun r3 H5 l3 g3 k4 => ?_⟩
          have e3 := k4.lst nL.1 e3
          have k35 := m3.toC.trans k4
          have hDl5 := k35.lst nD hDl
          have hxs5 := hxs.keptC k35 hD3
          obtain ⟨wd, hwd, ew⟩ : ∃ wd : Wd, (wd = .and ∨ wd = .or) ∧ atI [V.str (Str.ofString "and"), V.str (Str.ofString "or")] r3 = some (V.str wd.txt) := by
            rcases (show r3 = 0 ∨ r3 = 1 from by omega) with rfl | rfl
            · exact ⟨.and, .inl rfl, rfl⟩
            · exact ⟨.or, .inr rfl, rfl⟩
          refine w_ixL e3 ew ?_
          walk_at "rd"
          refine ⟨by show 1 ≤ sizeLine; omega, fun L2 hL2 => ?_⟩
          have m4 := Kept.new (o := .lst [.str wd.txt]) hL2
          have e4 : (upd H5 L2 (.lst [.str wd.txt])) L2 = some (.lst [.str wd.txt]) := upd_same
          generalize upd H5 L2 (.lst [.str wd.txt]) = H6 at m4 e4
          walk_at "rd"
          refine ⟨L2, D, _, _, rfl, rfl, e4, m4.lst hDl5, by rw [List.length_singleton]; omega, fun L3 hL3 => ?_⟩
          have m5 := Kept.new (o := .lst ([.str wd.txt] ++ xs)) hL3
          have e5 : (upd H6 L3 (.lst ([.str wd.txt] ++ xs))) L3 = some (.lst ([.str wd.txt] ++ xs)) := upd_same
          generalize upd H6 L3 (.lst ([.str wd.txt] ++ xs)) = H7 at m5 e5
          walk_at "rd"
          refine ⟨L3, _, rfl, .inl ⟨SqL.of e5, fun p hp => ?_⟩⟩
          have m6 := Kept.new (o := .tup ([.str wd.txt] ++ xs)) hp
          have m46 := m4.trans (m5.trans m6)
          exact k _ _ (.t (.s wd.txt :: ts)) (k1.trans (k2.trans (k3.trans (k35.trans m46.toC)))) (trAt_w (w := wd) upd_same (TrsAt.kept hxs5 m46)) (goodE_op (by rcases hwd with rfl | rfl <;> decide) (by rcases hwd with rfl | rfl <;> decide) (by rcases hwd with rfl | rfl <;> rfl) htl3 hts)
      refine if_f (decide_eq_false c11) ?_
      walk_at "rd"
      by_cases c14 : r < 14
      · refine if_t (decide_eq_true c14) ?_
        walk_at "rd"
        refine ⟨by show 3 ≤ sizeLine; omega, fun L hL => ?_⟩
        have m1 := Kept.new (o := .lst [.str (Str.ofString "xor"), .str (Str.ofString "iff"), .str (Str.ofString "implies")]) hL
        have e1 : (upd H1 L (.lst [.str (Str.ofString "xor"), .str (Str.ofString "iff"), .str (Str.ofString "implies")])) L = some (.lst [.str (Str.ofString "xor"), .str (Str.ofString "iff"), .str (Str.ofString "implies")]) := upd_same
        generalize upd H1 L (.lst [.str (Str.ofString "xor"), .str (Str.ofString "iff"), .str (Str.ofString "implies")]) = H2 at m1 e1
        have hD2 := m1.toC.drw hD1
        walk_at "rd"
        obtain ⟨wd, hwd, ew⟩ : ∃ wd : Wd, (wd = .xor ∨ wd = .iff ∨ wd = .implies) ∧ atI [V.str (Str.ofString "xor"), V.str (Str.ofString "iff"), V.str (Str.ofString "implies")] (r - 11) = some (V.str wd.txt) := by
          rcases (show r = 11 ∨ r = 12 ∨ r = 13 from by omega) with rfl | rfl | rfl
          · exact ⟨.xor, .inl rfl, rfl⟩
          · exact ⟨.iff, .inr (.inl rfl), rfl⟩
          · exact ⟨.implies, .inr (.inr rfl), rfl⟩
        refine w_ixL e1 ew ?_
        walk_at "rd"
        refine rcl hD2 (k1.trans m1.toC) fun v1 H3 t1 k2 ht1 hg1 => ?_
        have hD3 := k2.drw hD2
        walk_at "rd"
        refine rcl hD3 (k1.trans (m1.toC.trans k2)) fun v2 H4 t2 k3 ht2 hg2 => ?_
        walk_at "rd"
        refine ⟨by show 3 ≤ sizeLine; omega, fun p hp => ?_⟩
        have m2 := Kept.new (o := .tup [.str wd.txt, v1, v2]) hp
        refine k _ _ (.t [.s wd.txt, t1, t2]) (k1.trans (m1.toC.trans (k2.trans (k3.trans m2.toC)))) (trAt_w (w := wd) upd_same (TrsAt.cons (TrAt.kept (ht1.keptC k3 hD3) m2) (TrsAt.cons (TrAt.kept ht2 m2) TrsAt.nil))) (goodE_op (by rcases hwd with rfl | rfl | rfl <;> decide) (by rcases hwd with rfl | rfl | rfl <;> decide) (by rcases hwd with rfl | rfl | rfl <;> rfl) (by simp) fun a ha => ?_)
        simp only [List.mem_cons, List.not_mem_nil, or_false] at ha
        rcases ha with rfl | rfl <;> assumption
      refine if_f (decide_eq_false c14) ?_
      walk_at "rd"
      by_cases c15 : r = 14
      · refine if_t (by rw [c15, decide_eq_true rfl]) ?_
        walk_at "rd"
        refine Lc1.drawsT (n := 3) (GoodE n) hD1 (by omega) (fun i H3 kk hi k3 step => ?_) fun D H3 xs ts hDn k3 hDl hxs htl hts => ?_
        · walk_at "rd"
          exact rcl (k3.drw hD1) (k1.trans k3) fun v H4 t k4 ht hg => step v H4 t k4 ht hg
        · have nD : D ≠ da := (hD1.old hDn).1
          walk_at "rd"
          have hxl := hxs.len
          refine ⟨by show 1 ≤ sizeLine; omega, fun L2 hL2 => ?_⟩
          have m4 := Kept.new (o := .lst [.str (Str.ofString "if")]) hL2
          have e4 : (upd H3 L2 (.lst [.str (Str.ofString "if")])) L2 = some (.lst [.str (Str.ofString "if")]) := upd_same
          generalize upd H3 L2 (.lst [.str (Str.ofString "if")]) = H6 at m4 e4
          walk_at "rd"
          refine ⟨L2, D, _, _, rfl, rfl, e4, m4.lst hDl, by rw [List.length_singleton]; omega, fun L3 hL3 => ?_⟩
          have m5 := Kept.new (o := .lst ([.str (Str.ofString "if")] ++ xs)) hL3
          have e5 : (upd H6 L3 (.lst ([.str (Str.ofString "if")] ++ xs))) L3 = some (.lst ([.str (Str.ofString "if")] ++ xs)) := upd_same
          generalize upd H6 L3 (.lst ([.str (Str.ofString "if")] ++ xs)) = H7 at m5 e5
          walk_at "rd"
          refine ⟨L3, _, rfl, .inl ⟨SqL.of e5, fun p hp => ?_⟩⟩
          have m6 := Kept.new (o := .tup ([.str (Str.ofString "if")] ++ xs)) hp
          have m46 := m4.trans (m5.trans m6)
          exact k _ _ (.t (.s Wd.ite.txt :: ts)) (k1.trans (k3.trans m46.toC)) (trAt_w (w := .ite) upd_same (TrsAt.kept hxs m46)) (goodE_op (by decide) (by decide) (by rw [htl] <;> rfl) (by omega) hts)
      refine if_f (decide_eq_false fun z => c15 (V.int.inj z)) ?_
      walk_at "rd"
      refine ⟨da, ca, 4, rfl, by decide, by decide, hD1, fun r2 H2 l2 g2 k2 => ?_⟩
      obtain ⟨m, rfl⟩ : ∃ m : Nat, r2 = (m : Int) := ⟨r2.toNat, by omega⟩
      have hD2 := k2.drw hD1
      refine Lc1.drawsT (GoodE n) hD2 (by omega) (fun i H3 kk hi k3 step => ?_) fun D H3 xs ts hDn k3 hDl hxs htl hts => ?_
      · walk_at "rd"
        exact rcl (k3.drw hD2) (k1.trans (k2.trans k3)) fun v H4 t k4 ht hg => step v H4 t k4 ht hg
      · have hD3 := k3.drw hD2
        have nD : D ≠ da := (hD2.old hDn).1
        walk_at "rd"
        have htl3 : ts.length ≤ 3 := by omega
        have hxl := hxs.len
        refine ⟨da, ca, 4, rfl, by decide, by decide, hD3, fun r3 H5 l3 g3 k4 => ?_⟩
        have hDl5 := k4.lst nD hDl
        have hxs5 := hxs.keptC k4 hD3
        walk_at "rd"
        refine ⟨by show 2 ≤ sizeLine; omega, fun L2 hL2 => ?_⟩
        have m4 := Kept.new (o := .lst [.str (Str.ofString "atmost"), .int r3]) hL2
        have e4 : (upd H5 L2 (.lst [.str (Str.ofString "atmost"), .int r3])) L2 = some (.lst [.str (Str.ofString "atmost"), .int r3]) := upd_same
        generalize upd H5 L2 (.lst [.str (Str.ofString "atmost"), .int r3]) = H6 at m4 e4
        walk_at "rd"
        refine ⟨L2, D, _, _, rfl, rfl, e4, m4.lst hDl5, by show 2 + _ ≤ _; omega, fun L3 hL3 => ?_⟩
        have m5 := Kept.new (o := .lst ([.str (Str.ofString "atmost"), .int r3] ++ xs)) hL3
        have e5 : (upd H6 L3 (.lst ([.str (Str.ofString "atmost"), .int r3] ++ xs))) L3 = some (.lst ([.str (Str.ofString "atmost"), .int r3] ++ xs)) := upd_same
        generalize upd H6 L3 (.lst ([.str (Str.ofString "atmost"), .int r3] ++ xs)) = H7 at m5 e5
        walk_at "rd"
        refine ⟨L3, _, rfl, .inl ⟨SqL.of e5, fun p hp => ?_⟩⟩
        have m6 := Kept.new (o := .tup ([.str (Str.ofString "atmost"), .int r3] ++ xs)) hp
        have m46 := m4.trans (m5.trans m6)
        exact k _ _ (.t (.s Wd.atmost.txt :: .i r3 :: ts)) (k1.trans (k2.trans (k3.trans (k4.trans m46.toC)))) (trAt_w (w := .atmost) upd_same (TrsAt.cons (by unfold TrAt; rfl) (TrsAt.kept hxs5 m46))) (goodE_at (by omega) htl3 hts)
theorem ok_le (F : Fun K "_law_expression" "_law_expression" s_l_expression f fd) (T : Tx K mg uG uP uD) (D_l_take : Df P w K mg base 1 "_law_take" ["draw", "many"] spTakeC)
    (m : mg "_law_expression" = some (.ref f)) (kp : PySem.W.keepIn K (.ref f) = true) (b : Binds K fd ["draw", "depth", "names"] []) : ∀ d, FnOk P w K mg base CX0 (d + 2) f fd ["draw", "depth", "names"] (spLE d)
  | 0 => ⟨fun vs H Q E h => by
    obtain ⟨da, ca, na, n, _, hn, _⟩ := h
    omega, fun A outer s H args us vs Q E _ _ _ _ h => by
    obtain ⟨da, ca, na, n, _, hn, _⟩ := h
    omega⟩
  | d + 1 => ok_le_step d F T D_l_take ⟨f, fd, ok_le F T D_l_take m kp b d, m, kp, b⟩
end
end Ky

namespace Ky
open PySem PySem.Spec PyProof.Rows L2
local macro_rules | `(tactic| walk_at "rd") => `(tactic| repeat (first
  | with_reducible refine w_for1 ?_
  | with_reducible refine w_for2 ?_
  | with_reducible refine w_forL ?_
  | with_reducible refine w_forT ?_
  | with_reducible refine w_lc1 ?_
  | with_reducible refine w_lcL ?_
  | with_reducible refine w_lcT ?_
  | with_reducible refine w_dcL ?_
  | with_reducible refine w_dcT ?_
  | with_reducible refine w_seq ?_
  | with_reducible refine w_asg ?_
  | with_reducible refine w_ret ?_
  | with_reducible refine w_drop ?_
  | with_reducible refine w_ifs ?_
  | ((with_reducible refine' w_var ?hh ?_); (case hh => exact rfl))
  | with_reducible refine w_c ?_
  | with_reducible refine w_op ?_
  | with_reducible refine w_un ?_
  | with_reducible refine w_I0 ?_
  | with_reducible refine w_U ?_
  | with_reducible refine w_nil ?_
  | with_reducible refine w_cons ?_
  | with_reducible refine w_call ?_
  | with_reducible refine w_cb ?_
  | with_reducible refine w_test ?_
  | with_reducible refine w_B ?_
  | with_reducible refine w_bl ?_
  | with_reducible refine w_and ?_
  | with_reducible refine w_or ?_
  | with_reducible refine w_not ?_
  | with_reducible refine w_ife ?_
  | with_reducible refine w_gRd ?_
  | with_reducible refine w_andV ?_
  | with_reducible refine w_orV ?_
  | with_reducible refine w_notV ?_
  | with_reducible refine w_chain ?_
  | with_reducible refine w_din ?_
  | with_reducible refine w_isi_ii ?_
  | with_reducible refine w_isi_bi ?_
  | with_reducible refine w_isi_bb ?_
  | with_reducible refine w_isi_bt ?_
  | with_reducible refine w_isi_si ?_
  | with_reducible refine w_isi_nt ?_
  | with_reducible refine w_isi_ib ?_
  | with_reducible refine w_isi_it ?_
  | with_reducible refine w_isi_st ?_
  | ((with_reducible refine w_isi_tt ?h1 ?_); (case h1 => first | assumption | exact upd_same))
  | with_reducible refine if_t rfl ?_
  | with_reducible refine if_f rfl ?_
  | with_reducible refine w_tup ?_
  | with_reducible refine w_lst ?_
  | with_reducible refine w_next ?_
  | with_reducible refine w_bm ?_
  | with_reducible refine w_sl ?_
  | with_reducible refine w_part ?_
  | with_reducible refine w_nop ?_
  | with_reducible refine w_isI ?_
  | with_reducible refine w_yes ?_
  | with_reducible refine w_gn ?_
  | with_reducible refine w_gsub ?_
  | ((with_reducible refine' w_setL ?h1 ?h2 ?_); (case h1 => first | assumption | exact upd_same); (case h2 => exact rfl))
  | with_reducible refine w_asgG ?_
  | with_reducible refine w_m1 ?_
  | with_reducible refine w_isS ?_
  | with_reducible refine w_tyS ?_
  | ((with_reducible refine' w_tyL ?h1 ?_); (case h1 => first | assumption | exact upd_same))
  | ((with_reducible refine' w_ixT ?h1 ?h2 ?_); (case h1 => first | assumption | exact upd_same); (case h2 => exact rfl))
  | ((with_reducible refine' w_ixL ?h1 ?h2 ?_); (case h1 => first | assumption | exact upd_same); (case h2 => exact rfl))
  | ((with_reducible refine w_eq ?h1 ?_); (case h1 => exact rfl))
  | ((with_reducible refine w_ne ?h1 ?_); (case h1 => exact rfl))
  | ((with_reducible refine' w_text ?hT ?h1 ?h2 ?_); (case hT => assumption); (case h1 => exact rfl); (case h2 => first | assumption | exact upd_same))
  | ((with_reducible refine' w_at ?hT ?h1 ?h2 ?_); (case hT => assumption); (case h1 => exact rfl); (case h2 => first | assumption | exact upd_same))
  | ((with_reducible refine' w_token ?hT ?h1 ?h2 ?_); (case hT => assumption); (case h1 => exact rfl); (case h2 => first | assumption | exact upd_same))
  | with_reducible refine w_sfld0 ?_
  | with_reducible refine w_mkx ?_
  | with_reducible refine w_nonR ?_
  | with_reducible refine w_bm0 ?_
  | ((with_reducible refine' w_putAt ?hT ?h2 ?_); (case hT => assumption); (case h2 => first | assumption | exact upd_same))
  | ((with_reducible refine' w_putToken ?hT ?h2 ?_); (case hT => assumption); (case h2 => first | assumption | exact upd_same))
  | dsimp only [List.set_cons_zero, List.set_cons_succ, List.append_nil, List.cons_append, List.nil_append, cxOf]))

open TL
def strV (l : List Nat) : V := .str (mkS l)
theorem sep_snoc : ∀ (l : List (List (List Nat))) (a : List (List Nat)), sep (l ++ [a]) = if l = [] then a else sep l ++ ([44] :: a)
  | [], a => rfl
  | [x], a => rfl
  | x :: y :: l, a => by
    have ih := sep_snoc (y :: l) a
    rw [if_neg (by simp)] at ih ⊢
    show x ++ [44] :: sep ((y :: l) ++ [a]) = (x ++ [44] :: sep (y :: l)) ++ ([44] :: a)
    rw [ih, List.append_assoc, List.cons_append]
def It1 (m : Nat) (a : Tr) (t : List (List Nat)) : Prop := Ex m a t ∨ ∃ kn : Nat, kn ≤ 3 ∧ a = .i kn ∧ t = [numL kn]
theorem All2.imp {α β : Type} {R S : α → β → Prop} (h : ∀ a b, R a b → S a b) : ∀ {as : List α} {bs : List β}, All2 R as bs → All2 S as bs
  | [], [], _ => trivial
  | x :: as, y :: bs, q => ⟨h _ _ q.1, All2.imp h q.2⟩
  | [], _ :: _, q => q.elim
  | _ :: _, [], q => q.elim
theorem ex_tup : ∀ (m : Nat) {a : Tr} {t : List (List Nat)}, Ex m a t → ∃ l, a = .t l := by
  have lf : ∀ {a : Tr} {t : List (List Nat)}, Leaf a t → ∃ l, a = .t l := fun h => by
    rcases h with ⟨k, _, _, h, _⟩ | ⟨z, _, h, _⟩ <;> exact ⟨_, h⟩
  intro m a t h
  cases m with
  | zero => exact lf h
  | succ m =>
    rcases h with h | ⟨z, o, ps, ts, _, _, _, _, _, h, _⟩ | ⟨k, ps, ts, _, _, _, h, _⟩
    · exact lf h
    · exact ⟨_, h⟩
    · exact ⟨_, h⟩
/-- an expression that is no leaf -/
theorem ex_node {m : Nat} {e : Tr} {t : List (List Nat)} (h : Ex (m + 1) e t) (hn : ¬ Leaf e t) : ∃ (z : Wd) (xs : List Tr) (ts : List (List (List Nat))), z ≠ .var ∧ z ≠ .yes ∧ z ≠ .no ∧ e = .t (.s z.txt :: xs) ∧ All2 (It1 m) xs ts ∧ xs.length ≤ 4 ∧ t = z.cs :: [40] :: (sep ts ++ [[41]]) := by
  rcases h with h | ⟨z, o, ps, ts, hz, _, _, h3, h2, h4, h5⟩ | ⟨kn, ps, ts, hk, h3, h2, h4, h5⟩
  · exact absurd h hn
  · have c := isOp_ne hz
    exact ⟨z, ps, ts, c.1, fun h => c.2.2.2 (.inl h), fun h => c.2.2.2 (.inr h), h4, h2.imp fun _ _ h => .inl h, by omega, h5⟩
  · exact ⟨.atmost, .i kn :: ps, [numL kn] :: ts, by decide, by decide, by decide, h4, ⟨.inr ⟨kn, hk, rfl, rfl⟩, h2.imp fun _ _ h => .inl h⟩, by rw [List.length_cons]; omega, h5⟩
def spToks (d : Nat) : Sp := fun vs H Q _ => ∃ (v : V) (n : Nat) (e : Tr) (t : List (List Nat)), vs = [v] ∧ n < d ∧ TrAt H e v ∧ Ex n e t ∧ t.length ≤ 5000 ∧ ∀ p H', Kept H H' → H' p = some (.lst (t.map strV)) → Q (.ref p) H'
def isTup : Tr → Bool
  | .t _ => true
  | _ => false
theorem w_isiTup {K : PySem.W.Frag} {H : Hp} {Q : VK} {v : V} {t : Tr} (h : TrAt H t v) (q : Q (.bl (isTup t)) H) : rIsi K [v, .ty "tuple"] H Q := w_isiT_tup h (by cases t <;> exact q)
theorem inW (w b c : Wd) : inV (.str w.txt) [.str b.txt, .str c.txt] = (decide (w = b) || decide (w = c)) := by
  have e : ∀ a d : Wd, eqV (.str a.txt) (.str d.txt) = decide (d = a) := by
    intro a d
    cases a <;> cases d <;> decide
  show (eqV (.str b.txt) (.str w.txt) || (eqV (.str c.txt) (.str w.txt) || false)) = _
  rw [e, e, Bool.or_false]
theorem w_inS {K : PySem.W.Frag} {H : Hp} {Q : VK} {l : Addr} {w b c : Wd} (h : H l = some (.lst [.str b.txt, .str c.txt])) (q : Q (.bl (decide (w = b) || decide (w = c))) H) : rIn K false (.str w.txt) (.ref l) H Q :=
  ⟨l, _, rfl, .inl (SqL.of h), rfl, rfl, by rw [inW, if_neg Bool.false_ne_true]; exact q⟩
theorem sep_take : ∀ (l : List (List (List Nat))) (i : Nat), (sep (l.take i)).length ≤ (sep l).length
  | [], i => by rw [List.take_nil]; exact Nat.le_refl _
  | [a], i => by
    cases i with
    | zero => exact Nat.zero_le _
    | succ i => rw [List.take_succ_cons, List.take_nil]; exact Nat.le_refl _
  | a :: b :: l, i => by
    cases i with
    | zero => exact Nat.zero_le _
    | succ i =>
      cases i with
      | zero =>
        show a.length ≤ (a ++ [44] :: sep (b :: l)).length
        rw [List.length_append]
        omega
      | succ i =>
        have ih := sep_take (b :: l) (i + 1)
        show (a ++ [44] :: sep ((b :: l).take (i + 1))).length ≤ (a ++ [44] :: sep (b :: l)).length
        rw [List.length_append, List.length_append, List.length_cons, List.length_cons]
        omega
theorem sep_mem : ∀ {l : List (List (List Nat))} {a : List (List Nat)}, a ∈ l → a.length ≤ (sep l).length
  | [], a, h => by cases h
  | [b], a, h => by rw [List.mem_singleton.mp h]; exact Nat.le_refl _
  | b :: c :: l, a, h => by
    show a.length ≤ (b ++ [44] :: sep (c :: l)).length
    rw [List.length_append, List.length_cons]
    rcases List.mem_cons.mp h with rfl | h
    · omega
    · have := sep_mem h
      omega
theorem sep_next {ts : List (List (List Nat))} {i : Nat} {ti : List (List Nat)} (h : ts[i]? = some ti) : sep (ts.take (i + 1)) = (if i = 0 then [] else sep (ts.take i) ++ [[44]]) ++ ti := by
  have e : ts.take (i + 1) = ts.take i ++ [ti] := by rw [List.take_add_one, h] <;> rfl
  rw [e, sep_snoc]
  have hi := (List.getElem?_eq_some_iff.mp h).1
  by_cases c : i = 0
  · rw [if_pos c, if_pos (by rw [c, List.take_zero])] <;> rfl
  · rw [if_neg c, if_neg (fun h => by
      have := congrArg List.length h
      rw [List.length_take, List.length_nil] at this
      omega), List.append_assoc] <;> rfl
theorem cm_mk : Str.ofString "," = mkS [44] := ext_tl (by rw [tl_cm, tl_mkS])
section
variable {P : Program} {w : World} {K : PySem.W.Frag} {mg : Str → Option Value} {base : Heap} {uG uP uD : Value} {f aK : Addr} {fd : FuncData}
theorem ok_toks_step (d : Nat) (F : Fun K "_law_tokens" "_law_tokens" s_l_tokens f fd) (T : Tx K mg uG uP uD)
    (D_l_tokens : Df P w K mg base (d + 2) "_law_tokens" ["e"] (spToks d)) : FnOk P w K mg base CX0 (d + 3) f fd ["e"] (spToks (d + 1)) := by
  refine F.ok sc_l_tokens (fun vs H Q E h => ?_) (fun cdv A outer s H vs Q E hr h => ?_)
  · obtain ⟨v, n, e, t, rfl, _⟩ := h
    rfl
  · obtain ⟨v, n, e, t, rfl, hn, he, hx, hl, k⟩ := h
    have hsl : 16000000 ≤ sizeLine := by decide
    refine ⟨_, (pss_cons (ps_if (pt_cmpR op_eq (pe_ix (ix_tupK (K := K) rfl) (pv 0) pe_int (fun _ _ => rfl)) pe_str (nomark _))
      (pss_one (ps_ret (pe_lst (pa_cons (pe_op op_add_str pe_str (pe_callTy call_str_int (by rfl) T.z_str (by decide +kernel) (pa_cons (pe_ix (ix_tupK (K := K) rfl) (pv 0) pe_int (fun _ _ => rfl)) pa_nil))) pa_nil))))
      pss_nil)
    (pss_cons (ps_if (pt_cmpR (opK (K := K) (r := fun K => rIn K false) rfl op_in_seq) (pe_ix (ix_tupK (K := K) rfl) (pv 0) pe_int (fun _ _ => rfl)) (pe_lst (pa_cons pe_str (pa_cons pe_str pa_nil))) (by rfl))
      (pss_one (ps_ret (pe_lst (pa_cons (pe_ix (ix_tupK (K := K) rfl) (pv 0) pe_int (fun _ _ => rfl)) pa_nil))))
      pss_nil)
    (pss_cons (ps_set (i := 1) sc_l_tokens.nd rfl (.inl rfl) (pe_lst (pa_cons (pe_ix (ix_tupK (K := K) rfl) (pv 0) pe_int (fun _ _ => rfl)) (pa_cons pe_str pa_nil))))
    (pss_cons (ps_for PassesOwn.never rfl (pi_range2 (by rfl) T.z_range (pa_cons pe_int (pa_cons (pe_callB (call_lenK (K := K) rfl) (by rfl) T.z_len (by decide +kernel) (pa_cons (pv 0) pa_nil)) pa_nil))) (pg_name (i := 2) sc_l_tokens.nd rfl (.inl rfl))
      (pss_cons (ps_if (pt_cmpR op_gt (pv 2) pe_int (nomark _))
      (pss_one (ps_expr (pe_bm PySem.F.plainAttrs_list PySem.F.slot_list_append PySem.F.type_list_append mt_append (pv 1) (pa_cons pe_str pa_nil))))
      pss_nil)
    (pss_one (ps_set (i := 1) sc_l_tokens.nd rfl (.inl rfl) (pe_op op_cat (pv 1) (pe_ifExp (pt_val (pe_callB (call_isiK (K := K) rfl) (by rfl) T.z_isinstance (by decide +kernel) (pa_cons (pe_ix (ix_tupK (K := K) rfl) (pv 0) (pv 2) (fun _ _ => rfl)) (pa_cons (pe_bltn (by rfl) T.z_tuple (by decide +kernel) (show RelV (.ty "tuple") _ from rfl)) pa_nil)))) (pe_df D_l_tokens (hr.mono (by omega)) (by rfl) (pa_cons (pe_ix (ix_tupK (K := K) rfl) (pv 0) (pv 2) (fun _ _ => rfl)) pa_nil)) (pe_lst (pa_cons (pe_callTy call_str_int (by rfl) T.z_str (by decide +kernel) (pa_cons (pe_ix (ix_tupK (K := K) rfl) (pv 0) (pv 2) (fun _ _ => rfl)) pa_nil)) pa_nil))))))))
    (pss_one (ps_ret (pe_op op_cat (pv 1) (pe_lst (pa_cons pe_str pa_nil))))))))), ?_⟩
    rw [show start n_l_tokens [(v : V)] = ([some (v), none, none] : List (Option V)) from rfl]
    have go : ∀ (z : Wd) (xs : List Tr), e = .t (.s z.txt :: xs) → ∃ (p : Addr) (us : List V), v = .ref p ∧ H p = some (.tup (.str z.txt :: us)) ∧ TrsAt H xs us := fun z xs ee => by
      rw [ee] at he
      unfold TrAt at he
      obtain ⟨p, ys, e1, h1, h2⟩ := he
      unfold TrsAt at h2
      obtain ⟨y, r, e2, h3, h4⟩ := h2
      unfold TrAt at h3
      exact ⟨p, r, e1, by rw [h1, e2, h3], h4⟩
    have kinds : Leaf e t ∨ (∃ m, n = m + 1 ∧ Ex (m + 1) e t ∧ ¬ Leaf e t) := by
      by_cases c : Leaf e t
      · exact .inl c
      · cases n with
        | zero => exact absurd hx c
        | succ m => exact .inr ⟨m, rfl, hx, c⟩
    rcases kinds with hL | ⟨m, rfl, hx2, hnL⟩
    · rcases hL with ⟨kn, h1, h2, e1, rfl⟩ | ⟨z, hz, e1, rfl⟩
      · obtain ⟨p, us, rfl, hp, hus⟩ := go .var _ e1
        have eus : us = [.int kn] := by
          unfold TrsAt at hus
          obtain ⟨y, r, e2, h3, h4⟩ := hus
          unfold TrAt at h3
          unfold TrsAt at h4
          rw [e2, h3, h4]
        subst eus
        have hkl : kn.log2 < 1920 := Nat.lt_of_lt_of_le (PySem.Flt.log2_lt_of (show 0 < 10 by decide) (by show kn < 1024; omega)) (by decide)
        have hlk := numL_60 h2
        walk_at "rd"
        have es : Str.ofString "x" ++ numS (kn : Int) = mkS (120 :: numL kn) := ext_tl (by
          rw [tl_append, tl_mkS, tl_xq, tl_nat] <;> rfl)
        have e1l : (Str.ofString "x").length = 1 := by rw [len_tl, tl_xq] <;> rfl
        have e2l : (numS (kn : Int)).length ≤ 60 := by rw [len_tl, tl_nat]; exact hlk
        refine ⟨_, rfl, hkl, _, numS (kn : Int), rfl, rfl, by rw [e1l]; omega, ?_⟩
        rw [es]
        walk_at "rd"
        refine ⟨by show 1 ≤ sizeLine; omega, fun q hq => ?_⟩
        exact k q _ (Kept.new hq) upd_same
      · obtain ⟨p, us, rfl, hp, hus⟩ := go z _ e1
        walk_at "rd"
        refine w_ixT hp (v := .str z.txt) (atI_nat (j := 0) rfl) ?_
        walk_at "rd"
        rw [show V.str (Str.ofString "var") = V.str Wd.var.txt from rfl, txt_eq]
        refine if_f (by rcases hz with rfl | rfl <;> rfl) ?_
        walk_at "rd"
        refine w_ixT hp (v := .str z.txt) (atI_nat (j := 0) rfl) ?_
        walk_at "rd"
        refine ⟨by show 2 ≤ sizeLine; omega, fun L hL => ?_⟩
        have m1 := Kept.new (o := .lst [V.str (Str.ofString "yes"), V.str (Str.ofString "no")]) hL
        refine w_inS (b := .yes) (c := .no) upd_same ?_
        have hp1 := m1.tup hp
        refine ⟨_, rfl, ?_⟩
        refine if_t (by rcases hz with rfl | rfl <;> rfl) ?_
        walk_at "rd"
        refine w_ixT hp1 (v := .str z.txt) (atI_nat (j := 0) rfl) ?_
        walk_at "rd"
        refine ⟨by show 1 ≤ sizeLine; omega, fun q hq => ?_⟩
        refine k q _ (m1.trans (Kept.new hq)) ?_
        rw [upd_same, ← wd_mk]
        rfl
    · obtain ⟨z, xs, ts, c1, c2, c3, e1, hA, hxl, et⟩ := ex_node hx2 hnL
      obtain ⟨p, us, rfl, hp, hus⟩ := go z _ e1
      have hul := hus.len
      walk_at "rd"
      refine w_ixT hp (v := .str z.txt) (atI_nat (j := 0) rfl) ?_
      walk_at "rd"
      rw [show V.str (Str.ofString "var") = V.str Wd.var.txt from rfl, txt_eq]
      refine if_f (decide_eq_false c1) ?_
      walk_at "rd"
      refine w_ixT hp (v := .str z.txt) (atI_nat (j := 0) rfl) ?_
      walk_at "rd"
      refine ⟨by show 2 ≤ sizeLine; omega, fun L hL => ?_⟩
      have m1 := Kept.new (o := .lst [V.str (Str.ofString "yes"), V.str (Str.ofString "no")]) hL
      have hp1 := m1.tup hp
      have g1 : (upd H L (.lst [V.str (Str.ofString "yes"), V.str (Str.ofString "no")])) L = some (.lst [V.str (Str.ofString "yes"), V.str (Str.ofString "no")]) := upd_same
      generalize upd H L (.lst [V.str (Str.ofString "yes"), V.str (Str.ofString "no")]) = H1 at m1 hp1 g1 ⊢
      refine w_inS (b := .yes) (c := .no) g1 ?_
      refine ⟨_, rfl, ?_⟩
      refine if_f (by rw [decide_eq_false c2, decide_eq_false c3] <;> rfl) ?_
      walk_at "rd"
      refine w_ixT hp1 (v := .str z.txt) (atI_nat (j := 0) rfl) ?_
      walk_at "rd"
      refine ⟨by show 2 ≤ sizeLine; omega, fun D hD => ?_⟩
      have m2 := Kept.new (o := .lst [V.str z.txt, V.str (Str.ofString "(")]) hD
      have hp2 := m2.tup hp1
      have g2 : (upd H1 D (.lst [V.str z.txt, V.str (Str.ofString "(")])) D = some (.lst ((z.cs :: [40] :: sep (ts.take 0)).map strV)) := by
        rw [upd_same]
        show _ = some (HO.lst [V.str (mkS z.cs), V.str (mkS [40])])
        rw [wd_mk, op_mk]
      have k2 := m1.trans m2
      generalize upd H1 D (.lst [V.str z.txt, V.str (Str.ofString "(")]) = H2 at m2 hp2 g2 k2 ⊢
      walk_at "rd"
      refine ⟨p, _, rfl, .inr (SqT.of hp2), ?_⟩
      walk_at "rd"
      refine ⟨1, _, rfl, ⟨by omega, by omega, by omega, by rw [List.length_cons]; omega⟩, ?_⟩
      rw [show ((((V.str z.txt :: us).length : Nat) : Int) - 1).toNat = us.length from by rw [List.length_cons]; omega]
      have hlt : t.length = (sep ts).length + 3 := by rw [et, List.length_cons, List.length_cons, List.length_append] <;> rfl
      refine FrJ.range (fun i σ' H' => ∃ (D' : Addr) (v2 : Option V), σ' = [some (.ref p), some (.ref D'), v2] ∧ Kept H H' ∧ H D' = none ∧ H' D' = some (.lst ((z.cs :: [40] :: sep (ts.take i)).map strV))) ⟨D, none, rfl, k2, m1.free D hD, g2⟩ ?_ ?_
      · rintro i σ' H' hi ⟨D', v2, rfl, k3, hD', g3⟩
        walk_at "rd"
        have hi2 : i < xs.length := by omega
        obtain ⟨ti, ht1, ht2⟩ := hA.get i xs[i] (List.getElem?_eq_getElem hi2)
        have hux : us[i]? = some us[i] := List.getElem?_eq_getElem hi
        have hxa := hus.get i us[i] xs[i] hux (List.getElem?_eq_getElem hi2)
        rw [show (1 : Int) + (i : Int) = ((i + 1 : Nat) : Int) from by omega]
        have main : ∀ (H4 : Hp) (pre : List (List Nat)) (E0' : Ends), Kept H H4 → H4 D' = some (.lst (pre.map strV)) → pre ++ ti = z.cs :: [40] :: sep (ts.take (i + 1)) → pre.length ≤ 5003 → (∀ σ' H', (∃ (D' : Addr) (v2 : Option V), σ' = [some (.ref p), some (.ref D'), v2] ∧ Kept H H' ∧ H D' = none ∧ H' D' = some (.lst ((z.cs :: [40] :: sep (ts.take (i + 1))).map strV))) → E0'.nx σ' H') → 
            tAsg (tOp rCat (tVar 1)
              (tIf (tB (tCB (rIsi K) (tCons (tOp (rIxT K) (tVar 0) (tVar 2)) (tCons (tC (V.ty "tuple")) tNil))))
                (tCall (spToks d) [] E0 (tCons (tOp (rIxT K) (tVar 0) (tVar 2)) tNil))
                (tLst (tCons (tCB (fun xs H Q => ∃ i, xs = [V.int i] ∧ i.natAbs.log2 < 1920 ∧ Q (V.str (Str.ofString (toString i))) H) (tCons (tOp (rIxT K) (tVar 0) (tVar 2)) tNil)) tNil))))
            (gName 1) E0' [some (.ref p), some (.ref D'), some (.int ((i + 1 : Nat) : Int))] H4 := fun H4 pre E0' k4 g4 ep hpl fin => by
          have hp4 := k4.tup hp
          have hix : atI (V.str z.txt :: us) (((i + 1 : Nat) : Int)) = some us[i] := atI_nat (by rw [List.getElem?_cons_succ]; exact hux)
          have hxa4 := hxa.kept k4
          walk_at "rd"
          refine w_ixT hp4 hix ?_
          walk_at "rd"
          rcases ht2 with hx | ⟨kn, hkn, ea, et2⟩
          · obtain ⟨l, ea⟩ := ex_tup m hx
            refine w_isiTup hxa4 ?_
            rw [ea]
            refine ⟨_, rfl, ?_⟩
            refine if_t rfl ?_
            walk_at "rd"
            refine w_ixT hp4 hix ?_
            walk_at "rd"
            refine ⟨_, m, xs[i], ti, rfl, by omega, hxa4, hx, by have := sep_mem (List.mem_of_getElem? ht1); omega, fun q H5 k5 hq => ?_⟩
            refine ⟨D', q, _, _, rfl, rfl, k5.lst g4, hq, by rw [List.length_map, List.length_map]; have := sep_mem (List.mem_of_getElem? ht1); omega, fun M hM => ?_⟩
            refine fin _ _ ⟨M, _, rfl, (k4.trans k5).trans (Kept.new hM), (k4.trans k5).free M hM, ?_⟩
            rw [upd_same, ← ep, List.map_append]
          · refine w_isiTup hxa4 ?_
            rw [ea]
            refine ⟨_, rfl, ?_⟩
            refine if_f rfl ?_
            walk_at "rd"
            refine w_ixT hp4 hix ?_
            walk_at "rd"
            have ex : us[i] = V.int kn := by
              rw [ea] at hxa4
              unfold TrAt at hxa4
              exact hxa4
            rw [ex]
            refine ⟨_, rfl, Nat.lt_of_lt_of_le (PySem.Flt.log2_lt_of (show 0 < 10 by decide) (by show kn < 1024; omega)) (by decide), ?_⟩
            show _ ≤ _ ∧ _
            refine ⟨by show 1 ≤ sizeLine; omega, fun L3 hL3 => ?_⟩
            have m5 := Kept.new (o := .lst [V.str (Str.ofString (toString (kn : Int)))]) hL3
            have g5 : (upd H4 L3 (.lst [V.str (Str.ofString (toString (kn : Int)))])) L3 = some (.lst (ti.map strV)) := by
              rw [upd_same, et2]
              show some (HO.lst [V.str (numS (kn : Int))]) = some (HO.lst [V.str (mkS (numL kn))])
              rw [numS_mk]
            have g45 := m5.lst g4
            have k45 := k4.trans m5
            generalize upd H4 L3 (.lst [V.str (Str.ofString (toString (kn : Int)))]) = H5 at m5 g5 g45 k45 ⊢
            refine ⟨D', L3, _, _, rfl, rfl, g45, g5, by rw [List.length_map, List.length_map, et2]; show _ + 1 ≤ _; omega, fun M hM => ?_⟩
            refine fin _ _ ⟨M, _, rfl, k45.trans (Kept.new hM), k45.free M hM, ?_⟩
            rw [upd_same, ← ep, List.map_append]
        have hst := sep_take ts i
        have hnx := sep_next ht1
        by_cases ci : i = 0
        · refine if_f (decide_eq_false (by omega)) ?_
          refine w_next ?_
          refine main H' (z.cs :: [40] :: sep (ts.take i)) _ k3 g3 ?_ (by rw [List.length_cons, List.length_cons]; omega) (fun σ' H' h => h)
          rw [if_pos ci] at hnx
          rw [hnx, ci, List.take_zero]
          rfl
        · refine if_t (decide_eq_true (by omega)) ?_
          walk_at "rd"
          refine w_app g3 (by rw [List.length_map, List.length_cons, List.length_cons]; omega) ?_
          refine main _ (z.cs :: [40] :: sep (ts.take i) ++ [[44]]) _ (Kept.mut k3 hD') ?_ ?_ (by rw [List.length_append, List.length_cons, List.length_cons]; show _ + 1 ≤ _; omega) (fun σ' H' h => h)
          · rw [upd_same, List.map_append, cm_mk]
            rfl
          · rw [if_neg ci] at hnx
            rw [hnx, List.append_assoc]
            show z.cs :: [40] :: (sep (ts.take i) ++ ([[44]] ++ ti)) = z.cs :: [40] :: (sep (ts.take i) ++ [[44]] ++ ti)
            rw [List.append_assoc]
      · rintro σ' H' ⟨D', v2, rfl, k3, hD', g3⟩
        have hall : ts.take us.length = ts := List.take_of_length_le (by rw [hul, hA.len]; exact Nat.le_refl _)
        rw [hall] at g3
        walk_at "rd"
        refine ⟨by show 1 ≤ sizeLine; omega, fun L3 hL3 => ?_⟩
        have m5 := Kept.new (o := .lst [V.str (Str.ofString ")")]) hL3
        have g5 : (upd H' L3 (.lst [V.str (Str.ofString ")")])) L3 = some (.lst ([[41]].map strV)) := by
          rw [upd_same, cl_mk]
          rfl
        have g45 := m5.lst g3
        have k45 := k3.trans m5
        generalize upd H' L3 (.lst [V.str (Str.ofString ")")]) = H5 at m5 g5 g45 k45 ⊢
        refine ⟨D', L3, _, _, rfl, rfl, g45, g5, by rw [List.length_map, List.length_cons, List.length_cons]; show _ + 1 ≤ _; omega, fun M hM => ?_⟩
        refine k M _ (k45.trans (Kept.new hM)) ?_
        rw [upd_same, et, ← List.map_append]
        rfl
theorem ok_toks (F : Fun K "_law_tokens" "_law_tokens" s_l_tokens f fd) (T : Tx K mg uG uP uD)
    (m : mg "_law_tokens" = some (.ref f)) (kp : PySem.W.keepIn K (.ref f) = true) (b : Binds K fd ["e"] []) : ∀ d, FnOk P w K mg base CX0 (d + 2) f fd ["e"] (spToks d)
  | 0 => ⟨fun vs H Q E h => by
    obtain ⟨v, n, e, t, _, hn, _⟩ := h
    omega, fun A outer s H args us vs Q E _ _ _ _ h => by
    obtain ⟨v, n, e, t, _, hn, _⟩ := h
    omega⟩
  | d + 1 => ok_toks_step d F T ⟨f, fd, ok_toks F T m kp b d, m, kp, b⟩
def spPlain : Sp := fun vs H Q _ => ∃ (a : Addr) (ts : List (List Nat)), vs = [.ref a] ∧ H a = some (.lst (ts.map strV)) ∧ ts.length ≤ 5000 ∧ (plain ts).length ≤ 20000 ∧ ∀ H', Kept H H' → Q (.str (mkS (plain ts))) H'
theorem plain_snoc (ts : List (List Nat)) (a : List Nat) : plain (ts ++ [a]) = plain ts ++ (a ++ if a = [44] then [32] else []) := by
  rw [plain_app]
  show plain ts ++ (a ++ ((if a = [44] then [32] else []) ++ [])) = _
  rw [List.append_nil]
theorem plain_take (ts : List (List Nat)) (i : Nat) : (plain (ts.take i)).length ≤ (plain ts).length := by
  have e : (plain (ts.take i ++ ts.drop i)).length = (plain ts).length := by rw [List.take_append_drop]
  rw [plain_app, List.length_append] at e
  omega
theorem sp_mk : Str.ofString " " = mkS [32] := ext_tl (by rw [tl_sp, tl_mkS])
theorem no_mk : Str.ofString "" = mkS [] := ext_tl (by rw [tl_no, tl_mkS])
theorem mk_eq (a b : List Nat) : decide (V.str (mkS a) = V.str (mkS b)) = decide (a = b) := decide_eq_decide.mpr ⟨fun h => by have := str_eq_iff.mp h; rwa [tl_mkS, tl_mkS] at this, fun h => by rw [h]⟩
theorem ok_plain (F : Fun K "_law_plain" "_law_plain" s_l_plain f fd) (T : Tx K mg uG uP uD) : FnOk P w K mg base CX0 1 f fd ["tokens"] spPlain := by
  refine F.ok sc_l_plain (fun vs H Q E h => ?_) (fun cdv A outer s H vs Q E hr h => ?_)
  · obtain ⟨a, ts, rfl, _⟩ := h
    rfl
  · obtain ⟨a, ts, rfl, ha, hl, hp, k⟩ := h
    have hsl : 16000000 ≤ sizeLine := by decide
    refine ⟨_, (pss_cons (ps_set (i := 1) sc_l_plain.nd rfl (.inl rfl) pe_str)
    (pss_cons (ps_for PassesOwn.never rfl (pi_listK (K := K) rfl (pv 0)) (pg_name (i := 2) sc_l_plain.nd rfl (.inl rfl))
      (pss_one (ps_set (i := 1) sc_l_plain.nd rfl (.inl rfl) (pe_op op_add_str (pe_op op_add_str (pv 1) (pv 2)) (pe_ifExp (pt_cmpR op_eq (pv 2) pe_str (nomark _)) pe_str pe_str)))))
    (pss_one (ps_ret (pv 1))))), ?_⟩
    rw [show start n_l_plain [(.ref a : V)] = ([some (.ref a), none, none] : List (Option V)) from rfl]
    walk_at "rd"
    refine FrL.mk (xs := ts.map strV) (fun i σ' H' => ∃ v2, σ' = [some (.ref a), some (.str (mkS (plain (ts.take i)))), v2] ∧ H' = H) ⟨none, by rw [List.take_zero, no_mk] <;> rfl, rfl⟩ (fun i σ' H' _ h => by
      obtain ⟨_, _, rfl⟩ := h
      exact SqL.of ha) ?_ ?_
    · rintro i x σ' H' hx ⟨v2, rfl, rfl⟩
      rw [List.getElem?_map] at hx
      cases e : ts[i]? with
      | none => rw [e] at hx; cases hx
      | some t =>
        rw [e] at hx
        cases hx
        have htk : ts.take (i + 1) = ts.take i ++ [t] := by rw [List.take_add_one, e] <;> rfl
        have b1 := plain_take ts (i + 1)
        rw [htk, plain_snoc, List.length_append, List.length_append] at b1
        unfold strV
        walk_at "rd"
        refine ⟨_, _, rfl, rfl, by rw [mkS_len, mkS_len]; omega, ?_⟩
        rw [mk_app]
        walk_at "rd"
        rw [cm_mk, mk_eq]
        by_cases c : t = [44]
        · refine if_t (decide_eq_true c) ?_
          rw [if_pos c] at b1
          walk_at "rd"
          refine ⟨_, _, rfl, rfl, by rw [mkS_len, List.length_append, sp_mk, mkS_len]; show _ + 1 ≤ _; omega, ?_⟩
          rw [sp_mk, mk_app]
          walk_at "rd"
          refine ⟨some (.str (mkS t)), ?_, rfl⟩
          rw [htk, plain_snoc, if_pos c, List.append_assoc] <;> rfl
        · refine if_f (decide_eq_false c) ?_
          walk_at "rd"
          refine ⟨_, _, rfl, rfl, by rw [mkS_len, List.length_append, no_mk, mkS_len]; show _ + 0 ≤ _; omega, ?_⟩
          rw [no_mk, mk_app]
          walk_at "rd"
          refine ⟨some (.str (mkS t)), ?_, rfl⟩
          rw [htk, plain_snoc, if_neg c, List.append_assoc] <;> rfl
    · rintro σ' H' ⟨v2, rfl, rfl⟩
      rw [List.length_map, List.take_length]
      walk_at "rd"
      exact k H' (Kept.refl _)
end
end Ky

namespace Ky
open PySem PySem.Spec PyProof.Rows L2
local macro_rules | `(tactic| walk_at "rd") => `(tactic| repeat (first
  | with_reducible refine w_for1 ?_
  | with_reducible refine w_for2 ?_
  | with_reducible refine w_forL ?_
  | with_reducible refine w_forT ?_
  | with_reducible refine w_lc1 ?_
  | with_reducible refine w_lcL ?_
  | with_reducible refine w_lcT ?_
  | with_reducible refine w_dcL ?_
  | with_reducible refine w_dcT ?_
  | with_reducible refine w_seq ?_
  | with_reducible refine w_asg ?_
  | with_reducible refine w_ret ?_
  | with_reducible refine w_drop ?_
  | with_reducible refine w_ifs ?_
  | ((with_reducible refine' w_var ?hh ?_); (case hh => exact rfl))
  | with_reducible refine w_c ?_
  | with_reducible refine w_op ?_
  | with_reducible refine w_un ?_
  | with_reducible refine w_I0 ?_
  | with_reducible refine w_U ?_
  | with_reducible refine w_nil ?_
  | with_reducible refine w_cons ?_
  | with_reducible refine w_call ?_
  | with_reducible refine w_cb ?_
  | with_reducible refine w_test ?_
  | with_reducible refine w_B ?_
  | with_reducible refine w_bl ?_
  | with_reducible refine w_and ?_
  | with_reducible refine w_or ?_
  | with_reducible refine w_not ?_
  | with_reducible refine w_ife ?_
  | with_reducible refine w_gRd ?_
  | with_reducible refine w_andV ?_
  | with_reducible refine w_orV ?_
  | with_reducible refine w_notV ?_
  | with_reducible refine w_chain ?_
  | with_reducible refine w_din ?_
  | with_reducible refine w_isi_ii ?_
  | with_reducible refine w_isi_bi ?_
  | with_reducible refine w_isi_bb ?_
  | with_reducible refine w_isi_bt ?_
  | with_reducible refine w_isi_si ?_
  | with_reducible refine w_isi_nt ?_
  | with_reducible refine w_isi_ib ?_
  | with_reducible refine w_isi_it ?_
  | with_reducible refine w_isi_st ?_
  | ((with_reducible refine w_isi_tt ?h1 ?_); (case h1 => first | assumption | exact upd_same))
  | with_reducible refine if_t rfl ?_
  | with_reducible refine if_f rfl ?_
  | with_reducible refine w_tup ?_
  | with_reducible refine w_lst ?_
  | with_reducible refine w_next ?_
  | with_reducible refine w_bm ?_
  | with_reducible refine w_sl ?_
  | with_reducible refine w_part ?_
  | with_reducible refine w_nop ?_
  | with_reducible refine w_isI ?_
  | with_reducible refine w_yes ?_
  | with_reducible refine w_gn ?_
  | with_reducible refine w_gsub ?_
  | ((with_reducible refine' w_setL ?h1 ?h2 ?_); (case h1 => first | assumption | exact upd_same); (case h2 => exact rfl))
  | with_reducible refine w_asgG ?_
  | with_reducible refine w_m1 ?_
  | with_reducible refine w_isS ?_
  | with_reducible refine w_tyS ?_
  | ((with_reducible refine' w_tyL ?h1 ?_); (case h1 => first | assumption | exact upd_same))
  | ((with_reducible refine' w_ixT ?h1 ?h2 ?_); (case h1 => first | assumption | exact upd_same); (case h2 => exact rfl))
  | ((with_reducible refine' w_ixL ?h1 ?h2 ?_); (case h1 => first | assumption | exact upd_same); (case h2 => exact rfl))
  | ((with_reducible refine w_eq ?h1 ?_); (case h1 => exact rfl))
  | ((with_reducible refine w_ne ?h1 ?_); (case h1 => exact rfl))
  | ((with_reducible refine' w_text ?hT ?h1 ?h2 ?_); (case hT => assumption); (case h1 => exact rfl); (case h2 => first | assumption | exact upd_same))
  | ((with_reducible refine' w_at ?hT ?h1 ?h2 ?_); (case hT => assumption); (case h1 => exact rfl); (case h2 => first | assumption | exact upd_same))
  | ((with_reducible refine' w_token ?hT ?h1 ?h2 ?_); (case hT => assumption); (case h1 => exact rfl); (case h2 => first | assumption | exact upd_same))
  | with_reducible refine w_sfld0 ?_
  | with_reducible refine w_mkx ?_
  | with_reducible refine w_nonR ?_
  | with_reducible refine w_bm0 ?_
  | ((with_reducible refine' w_putAt ?hT ?h2 ?_); (case hT => assumption); (case h2 => first | assumption | exact upd_same))
  | ((with_reducible refine' w_putToken ?hT ?h2 ?_); (case hT => assumption); (case h2 => first | assumption | exact upd_same))
  | dsimp only [List.set_cons_zero, List.set_cons_succ, List.append_nil, List.cons_append, List.nil_append, cxOf]))

open TL
def spErr (Pt : Addr) : Sp := fun vs H Q _ => ∃ (z : Str) (n m : Nat), vs = [.str z] ∧ (tl z).length ≤ 100000 ∧ GxR.TabG H Pt ∧ n ≤ 900 ∧ Run n (strip (tl z)) [] none (.err m) ∧ ∀ H', Kept H H' → Q (.int (((tl z).length : Int) - m)) H'
def wrT (w : List Nat × Nat) : Tr := .t [.s (mkS w.1), .i w.2]
def wrL : List Tr := [.t [.s (Str.ofString "x0"), .i 0], .t [.s (Str.ofString "x1000"), .i 0], .t [.s (Str.ofString "x"), .i 0], .t [.s (Str.ofString "x01"), .i 0], .t [.s (Str.ofString "not(x1, x2)"), .i 6], .t [.s (Str.ofString "not()"), .i 4], .t [.s (Str.ofString "xor(x1)"), .i 6], .t [.s (Str.ofString "xor(x1,)"), .i 7], .t [.s (Str.ofString "if(x1, x2)"), .i 9], .t [.s (Str.ofString "and(x1"), .i 6], .t [.s (Str.ofString "and x1"), .i 4], .t [.s (Str.ofString "yes()"), .i 3], .t [.s (Str.ofString "nor(x1)"), .i 0], .t [.s (Str.ofString ""), .i 0], .t [.s (Str.ofString "x1 x2"), .i 3], .t [.s (Str.ofString "and(x1,,x2)"), .i 7], .t [.s (Str.ofString "atmost(x1, x2)"), .i 7], .t [.s (Str.ofString "atmost(2 x1)"), .i 9], .t [.s (Str.ofString "atmost(01)"), .i 7], .t [.s (Str.ofString "implies(x1, x2, x3)"), .i 14], .t [.s (Str.ofString ")"), .i 0], .t [.s (Str.ofString "iff(x1; x2)"), .i 6], .t [.s (Str.ofString "X1"), .i 0], .t [.s (Str.ofString "or(x1))"), .i 6], .t [.s (Str.ofString "atmost()"), .i 7], .t [.s (Str.ofString "if(x1, x2, x3, x4)"), .i 13]]
theorem wrL_eq : wrL = wrongs.map wrT := by
  unfold wrL wrongs wrT mkS
  rfl
local macro_rules | `(tactic| walk_at "mk_tr") => `(tactic| repeat (first | with_reducible exact mkT_nil | with_reducible refine mkT_cons ?_ ?_ | with_reducible exact mkT_int | with_reducible exact mkT_bl | with_reducible exact mkT_str | with_reducible exact mkT_non | with_reducible refine mkT_tup ?_ (by simp)))
theorem Kept.xd {H : Hp} {d : Addr} {o : HO} (h : H d = none) : Kept H (upd H d o) := Kept.new h
section
variable {P : Program} {w : World} {K : PySem.W.Frag} {mg : Str → Option Value} {base : Heap} {uG uP uD : Value} {f aK CE fI Pt : Addr} {fd : FuncData}
theorem ok_l_error (F : Fun K "_law_error" "_law_error" s_l_error f fd) (T : Tx K mg uG uP uD) (TX : PySem.Xi.XTxt P K mg "ExpressionError" "at" "offset " CE fI) (XF : XfC K CE) (nA : PySem.W.findIn K (.ref CE) "at" = some none)
    (D_read_expression : DfX P w K mg base 5 "read_expression" ["text"] (spRead CE Pt)) : FnOk P w K mg base CX0 6 f fd ["text"] (spErr Pt) := by
  refine F.ok sc_l_error (fun vs H Q E h => ?_) (fun cdv A outer s H vs Q E hr h => ?_)
  · obtain ⟨z, n, m, rfl, _⟩ := h
    rfl
  · obtain ⟨z, n, m, rfl, hz, hT, hn, hR, k⟩ := h
    refine ⟨_, (pss_cons (ps_try_as rfl rfl sc_l_error.nd (i := 1) rfl rfl ⟨rfl, by decide, .inl TX.gC⟩ takes0 (fun W pn xe tk _ => (pss_one (ps_expr (pe_dfX D_read_expression (hr.mono (by decide)) (fun σ => passAt tk σ) (by rfl) (pa_cons (pv 0) pa_nil)))))
      (fun a oe cls d pn hz hf => (pss_one (ps_ret (pe_xf XF nA hz hf (pv 1))))))
    (pss_one (ps_ret (pe_un un_neg pe_int)))), ?_⟩
    rw [show start n_l_error [(.str z : V)] = ([some (.str z), none] : List (Option V)) from rfl]
    refine w_seq ?_
    show tDrop _ _ _ _
    refine w_drop ?_
    refine w_callS ?_
    walk_at "rd"
    refine ⟨z, n, .err m, rfl, hz, hT, hn, hR, ?_⟩
    intro H1 d k1 hd
    have k1' := k1.kept
    refine ⟨true, TX.te, fun _ a0 h0 => ?_, fun q => by cases q⟩
    show tRet (tXf a0 (.ref CE) (some d) CE "at" (tVar 1)) _ _ _
    refine w_ret ?_
    exact ⟨_, rfl, rfl, rfl, d, _, _, rfl, upd_same, by simp [List.lookup], k _ (k1'.trans (Kept.new hd))⟩
def spWrong : Sp := fun vs H Q _ => ∃ d c, vs = [.ref d] ∧ DrwC d c H ∧ ∀ w ∈ wrongs, ∀ p H', KeptC d c H H' → H' p = some (.tup [.str (mkS w.1), .int (w.2 : Int)]) → Q (.ref p) H'
theorem ok_l_wrong (F : Fun K "_law_wrong" "_law_wrong" s_l_wrong f fd) (T : Tx K mg uG uP uD) (D_l_take : Df P w K mg base 1 "_law_take" ["draw", "many"] spTakeC) : FnOk P w K mg base CX0 2 f fd ["draw"] spWrong := by
  refine F.ok sc_l_wrong (fun vs H Q E h => ?_) (fun cdv A outer s H vs Q E hr h => ?_)
  · obtain ⟨d, c, rfl, _⟩ := h
    rfl
  · obtain ⟨d, c, rfl, hD, k⟩ := h
    have hsl : 1001 ≤ sizeLine := by decide
    refine ⟨_, (pss_cons (ps_set (i := 1) sc_l_wrong.nd rfl (.inl rfl) (pe_lst (pa_cons (pe_tup (pa_cons pe_str (pa_cons pe_int pa_nil))) (pa_cons (pe_tup (pa_cons pe_str (pa_cons pe_int pa_nil))) (pa_cons (pe_tup (pa_cons pe_str (pa_cons pe_int pa_nil))) (pa_cons (pe_tup (pa_cons pe_str (pa_cons pe_int pa_nil))) (pa_cons (pe_tup (pa_cons pe_str (pa_cons pe_int pa_nil))) (pa_cons (pe_tup (pa_cons pe_str (pa_cons pe_int pa_nil))) (pa_cons (pe_tup (pa_cons pe_str (pa_cons pe_int pa_nil))) (pa_cons (pe_tup (pa_cons pe_str (pa_cons pe_int pa_nil))) (pa_cons (pe_tup (pa_cons pe_str (pa_cons pe_int pa_nil))) (pa_cons (pe_tup (pa_cons pe_str (pa_cons pe_int pa_nil))) (pa_cons (pe_tup (pa_cons pe_str (pa_cons pe_int pa_nil))) (pa_cons (pe_tup (pa_cons pe_str (pa_cons pe_int pa_nil))) (pa_cons (pe_tup (pa_cons pe_str (pa_cons pe_int pa_nil))) (pa_cons (pe_tup (pa_cons pe_str (pa_cons pe_int pa_nil))) (pa_cons (pe_tup (pa_cons pe_str (pa_cons pe_int pa_nil))) (pa_cons (pe_tup (pa_cons pe_str (pa_cons pe_int pa_nil))) (pa_cons (pe_tup (pa_cons pe_str (pa_cons pe_int pa_nil))) (pa_cons (pe_tup (pa_cons pe_str (pa_cons pe_int pa_nil))) (pa_cons (pe_tup (pa_cons pe_str (pa_cons pe_int pa_nil))) (pa_cons (pe_tup (pa_cons pe_str (pa_cons pe_int pa_nil))) (pa_cons (pe_tup (pa_cons pe_str (pa_cons pe_int pa_nil))) (pa_cons (pe_tup (pa_cons pe_str (pa_cons pe_int pa_nil))) (pa_cons (pe_tup (pa_cons pe_str (pa_cons pe_int pa_nil))) (pa_cons (pe_tup (pa_cons pe_str (pa_cons pe_int pa_nil))) (pa_cons (pe_tup (pa_cons pe_str (pa_cons pe_int pa_nil))) (pa_cons (pe_tup (pa_cons pe_str (pa_cons pe_int pa_nil))) pa_nil))))))))))))))))))))))))))))
    (pss_one (ps_ret (pe_ix (ix_listK (K := K) rfl) (pv 1) (pe_df D_l_take (hr.mono (by decide)) (by rfl) (pa_cons (pv 0) (pa_cons (pe_callB (call_lenK (K := K) rfl) (by rfl) T.z_len (by decide +kernel) (pa_cons (pv 1) pa_nil)) pa_nil))) (fun _ _ => rfl))))), ?_⟩
    rw [show start n_l_wrong [(.ref d : V)] = ([some (.ref d), none] : List (Option V)) from rfl]
    refine w_seq ?_
    refine w_asg ?_
    refine w_lst ?_
    refine MkA.run (H0 := H) (W := TrsW wrL) (by unfold wrL; walk_at "mk_tr") H _ (Kept.refl _) fun xs1 H1 k1 w1 => ?_
    have hl1 := TrsAt.len w1
    have e26 : wrL.length = 26 := rfl
    refine ⟨by rw [hl1, e26]; omega, fun L hL => ?_⟩
    have hD1 := k1.toC.drw hD
    have nL := hD1.old hL
    have kL := Kept.new (o := .lst xs1) hL
    have w2 := TrsAt.kept w1 kL
    have e1 : (upd H1 L (.lst xs1)) L = some (.lst xs1) := upd_same
    generalize upd H1 L (.lst xs1) = H2 at kL w2 e1
    have hD2 := kL.toC.drw hD1
    walk_at "rd"
    refine ⟨L, xs1, rfl, .inl (SqL.of e1), ?_⟩
    walk_at "rd"
    refine ⟨d, c, 26, by rw [hl1, e26] <;> rfl, by decide, by decide, hD2, fun r H3 l3 g3 k3 => ?_⟩
    obtain ⟨j, rfl⟩ : ∃ j : Nat, r = (j : Int) := ⟨r.toNat, by omega⟩
    have hj : j < xs1.length := by rw [hl1, e26]; omega
    have hj2 : j < wrongs.length := by show j < 26; omega
    have hxj : xs1[j]? = some xs1[j] := List.getElem?_eq_getElem hj
    have hbj : wrL[j]? = some (wrT wrongs[j]) := by rw [wrL_eq, List.getElem?_map, List.getElem?_eq_getElem hj2] <;> rfl
    have hxb := TrsAt.get (w2.keptC k3 hD2) j _ _ hxj hbj
    refine w_ixL (k3.lst nL.1 e1) (atI_nat hxj) ?_
    unfold wrT TrAt at hxb
    obtain ⟨p, ys, e3, g3', h4⟩ := hxb
    unfold TrsAt at h4
    obtain ⟨y1, r1, e4, h5, h6⟩ := h4
    unfold TrsAt at h6
    obtain ⟨y2, r2, e5, h7, h8⟩ := h6
    unfold TrsAt at h8
    unfold TrAt at h5 h7
    rw [e3]
    refine k _ (List.getElem_mem hj2) p H3 (k1.toC.trans (kL.toC.trans k3)) ?_
    rw [g3', e4, e5, h5, h7, h8]
end
end Ky

namespace Ky
open PySem PySem.Spec PyProof.Rows L2
local macro_rules | `(tactic| walk_at "rd") => `(tactic| repeat (first
  | with_reducible refine w_for1 ?_
  | with_reducible refine w_for2 ?_
  | with_reducible refine w_forL ?_
  | with_reducible refine w_forT ?_
  | with_reducible refine w_lc1 ?_
  | with_reducible refine w_lcL ?_
  | with_reducible refine w_lcT ?_
  | with_reducible refine w_dcL ?_
  | with_reducible refine w_dcT ?_
  | with_reducible refine w_seq ?_
  | with_reducible refine w_asg ?_
  | with_reducible refine w_ret ?_
  | with_reducible refine w_drop ?_
  | with_reducible refine w_ifs ?_
  | ((with_reducible refine' w_var ?hh ?_); (case hh => exact rfl))
  | with_reducible refine w_c ?_
  | with_reducible refine w_op ?_
  | with_reducible refine w_un ?_
  | with_reducible refine w_I0 ?_
  | with_reducible refine w_U ?_
  | with_reducible refine w_nil ?_
  | with_reducible refine w_cons ?_
  | with_reducible refine w_call ?_
  | with_reducible refine w_cb ?_
  | with_reducible refine w_test ?_
  | with_reducible refine w_B ?_
  | with_reducible refine w_bl ?_
  | with_reducible refine w_and ?_
  | with_reducible refine w_or ?_
  | with_reducible refine w_not ?_
  | with_reducible refine w_ife ?_
  | with_reducible refine w_gRd ?_
  | with_reducible refine w_andV ?_
  | with_reducible refine w_orV ?_
  | with_reducible refine w_notV ?_
  | with_reducible refine w_chain ?_
  | with_reducible refine w_din ?_
  | with_reducible refine w_isi_ii ?_
  | with_reducible refine w_isi_bi ?_
  | with_reducible refine w_isi_bb ?_
  | with_reducible refine w_isi_bt ?_
  | with_reducible refine w_isi_si ?_
  | with_reducible refine w_isi_nt ?_
  | with_reducible refine w_isi_ib ?_
  | with_reducible refine w_isi_it ?_
  | with_reducible refine w_isi_st ?_
  | ((with_reducible refine w_isi_tt ?h1 ?_); (case h1 => first | assumption | exact upd_same))
  | with_reducible refine if_t rfl ?_
  | with_reducible refine if_f rfl ?_
  | with_reducible refine w_tup ?_
  | with_reducible refine w_lst ?_
  | with_reducible refine w_next ?_
  | with_reducible refine w_bm ?_
  | with_reducible refine w_sl ?_
  | with_reducible refine w_part ?_
  | with_reducible refine w_nop ?_
  | with_reducible refine w_isI ?_
  | with_reducible refine w_yes ?_
  | with_reducible refine w_gn ?_
  | with_reducible refine w_gsub ?_
  | ((with_reducible refine' w_setL ?h1 ?h2 ?_); (case h1 => first | assumption | exact upd_same); (case h2 => exact rfl))
  | with_reducible refine w_asgG ?_
  | with_reducible refine w_m1 ?_
  | with_reducible refine w_isS ?_
  | with_reducible refine w_tyS ?_
  | ((with_reducible refine' w_tyL ?h1 ?_); (case h1 => first | assumption | exact upd_same))
  | ((with_reducible refine' w_ixT ?h1 ?h2 ?_); (case h1 => first | assumption | exact upd_same); (case h2 => exact rfl))
  | ((with_reducible refine' w_ixL ?h1 ?h2 ?_); (case h1 => first | assumption | exact upd_same); (case h2 => exact rfl))
  | ((with_reducible refine w_eq ?h1 ?_); (case h1 => exact rfl))
  | ((with_reducible refine w_ne ?h1 ?_); (case h1 => exact rfl))
  | ((with_reducible refine' w_text ?hT ?h1 ?h2 ?_); (case hT => assumption); (case h1 => exact rfl); (case h2 => first | assumption | exact upd_same))
  | ((with_reducible refine' w_at ?hT ?h1 ?h2 ?_); (case hT => assumption); (case h1 => exact rfl); (case h2 => first | assumption | exact upd_same))
  | ((with_reducible refine' w_token ?hT ?h1 ?h2 ?_); (case hT => assumption); (case h1 => exact rfl); (case h2 => first | assumption | exact upd_same))
  | with_reducible refine w_sfld0 ?_
  | with_reducible refine w_mkx ?_
  | with_reducible refine w_nonR ?_
  | with_reducible refine w_bm0 ?_
  | ((with_reducible refine' w_putAt ?hT ?h2 ?_); (case hT => assumption); (case h2 => first | assumption | exact upd_same))
  | ((with_reducible refine' w_putToken ?hT ?h2 ?_); (case hT => assumption); (case h2 => first | assumption | exact upd_same))
  | dsimp only [List.set_cons_zero, List.set_cons_succ, List.append_nil, List.cons_append, List.nil_append, cxOf]))

open TL
/-! ### bounds -/
theorem sep_len {b : Nat} : ∀ {ts : List (List (List Nat))}, (∀ t ∈ ts, t.length ≤ b) → (sep ts).length ≤ ts.length * (b + 1)
  | [], _ => Nat.zero_le _
  | [a], h => by
    have := h a List.mem_cons_self
    show a.length ≤ (0 + 1) * (b + 1)
    omega
  | a :: c :: r, h => by
    have h1 := h a List.mem_cons_self
    have ih := sep_len fun t ht => h t (List.mem_cons_of_mem _ ht)
    show (a ++ [44] :: sep (c :: r)).length ≤ ((c :: r).length + 1) * (b + 1)
    rw [List.length_append, List.length_cons, Nat.succ_mul]
    omega
theorem psep_len {b : Nat} : ∀ {ts : List (List (List Nat))}, (∀ t ∈ ts, (plain t).length ≤ b) → (plain (sep ts)).length ≤ ts.length * (b + 2)
  | [], _ => Nat.zero_le _
  | [a], h => by
    have := h a List.mem_cons_self
    show (plain a).length ≤ (0 + 1) * (b + 2)
    omega
  | a :: c :: r, h => by
    have h1 := h a List.mem_cons_self
    have ih := psep_len fun t ht => h t (List.mem_cons_of_mem _ ht)
    have e : plain (sep (a :: c :: r)) = plain a ++ ([44, 32] ++ plain (sep (c :: r))) := by
      show plain (a ++ [44] :: sep (c :: r)) = _
      rw [plain_app]
      rfl
    have e2 : (a :: c :: r).length * (b + 2) = (c :: r).length * (b + 2) + (b + 2) := by rw [List.length_cons, Nat.succ_mul]
    rw [e, e2, List.length_append, List.length_append]
    show _ + (2 + _) ≤ _
    omega
def Tz : Nat → Nat
  | 0 => 1
  | d + 1 => 8 + 3 * Tz d
def Pz : Nat → Nat
  | 0 => 61
  | d + 1 => 77 + 3 * Pz d
theorem Tz_pos (d : Nat) : 1 ≤ Tz d := by cases d <;> (unfold Tz; omega)
theorem Pz_pos (d : Nat) : 61 ≤ Pz d := by cases d <;> (unfold Pz; omega)
theorem All2.mem {α β : Type} {R : α → β → Prop} : ∀ {as : List α} {bs : List β}, All2 R as bs → ∀ b ∈ bs, ∃ a ∈ as, R a b
  | [], [], _, b, h => by cases h
  | x :: as, y :: bs, h, b, hb => by
    rcases List.mem_cons.mp hb with rfl | hb
    · exact ⟨x, List.mem_cons_self, h.1⟩
    · obtain ⟨a, ha, hr⟩ := All2.mem h.2 b hb
      exact ⟨a, List.mem_cons_of_mem _ ha, hr⟩
  | [], _ :: _, h, _, _ => h.elim
  | _ :: _, [], h, _, _ => h.elim
theorem cs_len (z : Wd) : z.cs.length ≤ 7 := by cases z <;> decide
theorem node_len (z : Wd) (l : List (List Nat)) : (z.cs :: [40] :: (l ++ [[41]])).length = l.length + 3 := by
  show (l ++ [[41]]).length + 1 + 1 = _
  rw [List.length_append]
  rfl
theorem node_plen (z : Wd) (ts : List (List (List Nat))) : (plain (z.cs :: [40] :: (sep ts ++ [[41]]))).length = z.cs.length + (plain (sep ts)).length + 2 := by
  rw [plain_op, List.length_append, List.length_append, List.length_append]
  show _ + (1 + (_ + 1)) = _
  omega
theorem ex_bound : ∀ (d : Nat) {e : Tr} {t : List (List Nat)}, Ex d e t → t.length ≤ Tz d ∧ (plain t).length ≤ Pz d := by
  have lf : ∀ (d : Nat) {e : Tr} {t : List (List Nat)}, Leaf e t → t.length ≤ Tz d ∧ (plain t).length ≤ Pz d := by
    intro d e t h
    have h1 := Tz_pos d
    have h2 := Pz_pos d
    rcases h with ⟨k, _, hk, _, rfl⟩ | ⟨z, _, _, rfl⟩
    · have := numL_60 hk
      refine ⟨h1, ?_⟩
      rw [plain_one (fun h => by cases h)]
      show (numL k).length + 1 ≤ _
      omega
    · have := cs_len z
      rw [plain_one (cs_44 z)]
      exact ⟨h1, by omega⟩
  intro d
  induction d with
  | zero => exact fun h => lf 0 h
  | succ d ih =>
    intro e t h
    rcases h with h | ⟨z, o, ps, ts, _, _, _, h3, h2, _, rfl⟩ | ⟨k, ps, ts, hk, h3, h2, _, rfl⟩
    · exact lf _ h
    · have q1 := sep_len (b := Tz d) fun t ht => by
        obtain ⟨a, _, ha⟩ := h2.mem t ht
        exact (ih ha).1
      have q2 := psep_len (b := Pz d) fun t ht => by
        obtain ⟨a, _, ha⟩ := h2.mem t ht
        exact (ih ha).2
      have hl : ts.length ≤ 3 := by rw [← h2.len]; exact h3
      have m1 := Nat.mul_le_mul_right (Tz d + 1) hl
      have m2 := Nat.mul_le_mul_right (Pz d + 2) hl
      have := cs_len z
      rw [node_len, node_plen]
      show _ ≤ 8 + 3 * Tz d ∧ _ ≤ 77 + 3 * Pz d
      omega
    · have hk60 := numL_60 (show k ≤ 999 by omega)
      have p1 := Tz_pos d
      have p2 := Pz_pos d
      have q1 := sep_len (ts := ts) (b := Tz d) fun t ht => by
        obtain ⟨a, _, ha⟩ := h2.mem t ht
        exact (ih ha).1
      have q2 := psep_len (ts := ts) (b := Pz d) fun t ht => by
        obtain ⟨a, _, ha⟩ := h2.mem t ht
        exact (ih ha).2
      have hl : ts.length ≤ 3 := by rw [← h2.len]; exact h3
      have m1 := Nat.mul_le_mul_right (Tz d + 1) hl
      have m2 := Nat.mul_le_mul_right (Pz d + 2) hl
      have s1 : (sep ([numL k] :: ts)).length ≤ (sep ts).length + 2 := by
        cases ts with
        | nil => exact Nat.le_succ _
        | cons a r =>
          show ([numL k] ++ [44] :: sep (a :: r)).length ≤ _
          rw [List.length_append]
          show 1 + ((sep (a :: r)).length + 1) ≤ _
          omega
      have s2 : (plain (sep ([numL k] :: ts))).length ≤ (plain (sep ts)).length + 62 := by
        cases ts with
        | nil =>
          show (plain [numL k]).length ≤ _
          rw [plain_one (num_44 k)]
          omega
        | cons a r =>
          have e : plain (sep ([numL k] :: a :: r)) = numL k ++ ([44, 32] ++ plain (sep (a :: r))) := by
            show plain ([numL k] ++ [44] :: sep (a :: r)) = _
            rw [plain_app, plain_one (num_44 k)]
            rfl
          rw [e, List.length_append, List.length_append]
          show _ + (2 + _) ≤ _
          omega
      have := cs_len .atmost
      rw [node_len, node_plen]
      show _ ≤ 8 + 3 * Tz d ∧ _ ≤ 77 + 3 * Pz d
      omega
theorem ex_small {d : Nat} {e : Tr} {t : List (List Nat)} (hd : d ≤ 4) (h : Ex d e t) : t.length ≤ 401 ∧ (plain t).length ≤ 8021 ∧ Bz d ≤ 241 := by
  have q := ex_bound d h
  have : d = 0 ∨ d = 1 ∨ d = 2 ∨ d = 3 ∨ d = 4 := by omega
  rcases this with rfl | rfl | rfl | rfl | rfl <;> exact ⟨Nat.le_trans q.1 (by decide), Nat.le_trans q.2 (by decide), by decide⟩
/-! ### expressions as data -/
theorem trs_ok {b : Nat} : ∀ {l : List Tr}, (∀ a ∈ l, (trD a).canLay0 = true ∧ (trD a).depth ≤ b) → PyData.canLayAll0 (trsD l) = true ∧ PyData.depthAll (trsD l) ≤ b
  | [], _ => by
    unfold trsD
    exact ⟨by simp [PyData.canLayAll0], by simp [PyData.depthAll]⟩
  | a :: l, h => by
    obtain ⟨h1, h2⟩ := h a List.mem_cons_self
    obtain ⟨h3, h4⟩ := trs_ok fun c hc => h c (List.mem_cons_of_mem _ hc)
    unfold trsD
    simp only [PyData.canLayAll0, PyData.depthAll, h1, h3, Bool.and_self, true_and]
    omega
theorem tr_t {l : List Tr} {b : Nat} (h : ∀ a ∈ l, (trD a).canLay0 = true ∧ (trD a).depth ≤ b) : (trD (.t l)).canLay0 = true ∧ (trD (.t l)).depth ≤ b + 1 := by
  obtain ⟨h1, h2⟩ := trs_ok h
  unfold trD
  simp only [PyData.canLay0, PyData.depth, h1, true_and]
  omega
theorem tr_s (z : Wd) : (trD (.s z.txt)).canLay0 = true ∧ (trD (.s z.txt)).depth ≤ 1 := by
  have hz : PyData.strOk z.txt = true := by cases z <;> decide +kernel
  unfold trD
  simp [PyData.canLay0, PyData.depth, hz]
theorem tr_i (k : Int) : (trD (.i k)).canLay0 = true ∧ (trD (.i k)).depth ≤ 1 := by
  unfold trD
  simp [PyData.canLay0, PyData.depth]
theorem ex_data : ∀ (d : Nat) {e : Tr} {t : List (List Nat)}, Ex d e t → (trD e).canLay0 = true ∧ (trD e).depth ≤ d + 2 := by
  have lf : ∀ (d : Nat) {e : Tr} {t : List (List Nat)}, Leaf e t → (trD e).canLay0 = true ∧ (trD e).depth ≤ d + 2 := by
    intro d e t h
    have up : ∀ {l : List Tr}, (∀ a ∈ l, (trD a).canLay0 = true ∧ (trD a).depth ≤ 1) → (trD (.t l)).canLay0 = true ∧ (trD (.t l)).depth ≤ d + 2 := fun h => ⟨(tr_t h).1, by have := (tr_t h).2; omega⟩
    rcases h with ⟨k, _, _, rfl, _⟩ | ⟨z, _, rfl, _⟩
    · refine up fun a ha => ?_
      simp only [List.mem_cons, List.not_mem_nil, or_false] at ha
      rcases ha with rfl | rfl
      · exact tr_s _
      · exact tr_i _
    · refine up fun a ha => ?_
      rw [List.mem_singleton.mp ha]
      exact tr_s _
  intro d
  induction d with
  | zero => exact fun h => lf 0 h
  | succ d ih =>
    intro e t h
    have pt : ∀ {ps : List Tr} {ts : List (List (List Nat))}, All2 (Ex d) ps ts → ∀ a ∈ ps, (trD a).canLay0 = true ∧ (trD a).depth ≤ d + 2 := fun h2 a ha => by
      obtain ⟨i, hi⟩ := List.getElem?_of_mem ha
      obtain ⟨b, _, hb⟩ := h2.get i a hi
      exact ih hb
    have wk : ∀ {a : Tr}, (trD a).canLay0 = true ∧ (trD a).depth ≤ 1 → (trD a).canLay0 = true ∧ (trD a).depth ≤ d + 2 := fun h => ⟨h.1, by omega⟩
    rcases h with h | ⟨z, o, ps, ts, _, _, _, h3, h2, rfl, _⟩ | ⟨k, ps, ts, hk, h3, h2, rfl, _⟩
    · exact lf _ h
    · exact tr_t fun a ha => by
        rcases List.mem_cons.mp ha with rfl | ha
        · exact wk (tr_s _)
        · exact pt h2 a ha
    · exact tr_t fun a ha => by
        rcases List.mem_cons.mp ha with rfl | ha
        · exact wk (tr_s _)
        · rcases List.mem_cons.mp ha with rfl | ha
          · exact wk (tr_i _)
          · exact pt h2 a ha
theorem ex_shaped {d : Nat} {e : Tr} {t : List (List Nat)} (hd : d ≤ 4) (h : Ex d e t) : SeqAt.shaped (trD e) = true := by
  have q := ex_data d h
  unfold SeqAt.shaped
  rw [q.1, Bool.true_and]
  exact decide_eq_true (by omega)
theorem w_neTr {K : PySem.W.Frag} {H : Hp} {Q : VK} {v w : V} {e : Tr} {d : Nat} {t : List (List Nat)} (hd : d ≤ 4) (hx : Ex d e t) (h1 : TrAt H e v) (h2 : TrAt H e w) (q : Q (.bl false) H) : rNeD K v w H Q := by
  have hs := ex_shaped hd hx
  refine ⟨trD e, trD e, TrAt.dp h1, TrAt.dp h2, hs, hs, ?_⟩
  rw [SeqAt.eqv_refl _ (SeqAt.canLay_of_shaped hs)]
  exact q
theorem rep_mk (n : Int) (h : 0 ≤ n ∧ n < 3) : repS (Str.ofString " ") n = mkS (List.replicate n.toNat 32) := by
  have : n = 0 ∨ n = 1 ∨ n = 2 := by omega
  rcases this with rfl | rfl | rfl <;> (apply ext_tl; rw [tl_mkS]; decide +kernel)
theorem wrong_len {w : List Nat × Nat} (h : w ∈ wrongs) : w.1.length ≤ 30 := by
  have q : (wrongs.all fun w => decide (w.1.length ≤ 30)) = true := by decide +kernel
  exact of_decide_eq_true (List.all_eq_true.mp q w h)
end Ky

namespace Ky
open PySem PySem.Spec PyProof.Rows L2
local macro_rules | `(tactic| walk_at "rd") => `(tactic| repeat (first
  | with_reducible refine w_for1 ?_
  | with_reducible refine w_for2 ?_
  | with_reducible refine w_forL ?_
  | with_reducible refine w_forT ?_
  | with_reducible refine w_lc1 ?_
  | with_reducible refine w_lcL ?_
  | with_reducible refine w_lcT ?_
  | with_reducible refine w_dcL ?_
  | with_reducible refine w_dcT ?_
  | with_reducible refine w_seq ?_
  | with_reducible refine w_asg ?_
  | with_reducible refine w_ret ?_
  | with_reducible refine w_drop ?_
  | with_reducible refine w_ifs ?_
  | ((with_reducible refine' w_var ?hh ?_); (case hh => exact rfl))
  | with_reducible refine w_c ?_
  | with_reducible refine w_op ?_
  | with_reducible refine w_un ?_
  | with_reducible refine w_I0 ?_
  | with_reducible refine w_U ?_
  | with_reducible refine w_nil ?_
  | with_reducible refine w_cons ?_
  | with_reducible refine w_call ?_
  | with_reducible refine w_cb ?_
  | with_reducible refine w_test ?_
  | with_reducible refine w_B ?_
  | with_reducible refine w_bl ?_
  | with_reducible refine w_and ?_
  | with_reducible refine w_or ?_
  | with_reducible refine w_not ?_
  | with_reducible refine w_ife ?_
  | with_reducible refine w_gRd ?_
  | with_reducible refine w_andV ?_
  | with_reducible refine w_orV ?_
  | with_reducible refine w_notV ?_
  | with_reducible refine w_chain ?_
  | with_reducible refine w_din ?_
  | with_reducible refine w_isi_ii ?_
  | with_reducible refine w_isi_bi ?_
  | with_reducible refine w_isi_bb ?_
  | with_reducible refine w_isi_bt ?_
  | with_reducible refine w_isi_si ?_
  | with_reducible refine w_isi_nt ?_
  | with_reducible refine w_isi_ib ?_
  | with_reducible refine w_isi_it ?_
  | with_reducible refine w_isi_st ?_
  | ((with_reducible refine w_isi_tt ?h1 ?_); (case h1 => first | assumption | exact upd_same))
  | with_reducible refine if_t rfl ?_
  | with_reducible refine if_f rfl ?_
  | with_reducible refine w_tup ?_
  | with_reducible refine w_lst ?_
  | with_reducible refine w_next ?_
  | with_reducible refine w_bm ?_
  | with_reducible refine w_sl ?_
  | with_reducible refine w_part ?_
  | with_reducible refine w_nop ?_
  | with_reducible refine w_isI ?_
  | with_reducible refine w_yes ?_
  | with_reducible refine w_gn ?_
  | with_reducible refine w_gsub ?_
  | ((with_reducible refine' w_setL ?h1 ?h2 ?_); (case h1 => first | assumption | exact upd_same); (case h2 => exact rfl))
  | with_reducible refine w_asgG ?_
  | with_reducible refine w_m1 ?_
  | with_reducible refine w_isS ?_
  | with_reducible refine w_tyS ?_
  | ((with_reducible refine' w_tyL ?h1 ?_); (case h1 => first | assumption | exact upd_same))
  | ((with_reducible refine' w_ixT ?h1 ?h2 ?_); (case h1 => first | assumption | exact upd_same); (case h2 => exact rfl))
  | ((with_reducible refine' w_ixL ?h1 ?h2 ?_); (case h1 => first | assumption | exact upd_same); (case h2 => exact rfl))
  | ((with_reducible refine w_eq ?h1 ?_); (case h1 => exact rfl))
  | ((with_reducible refine w_ne ?h1 ?_); (case h1 => exact rfl))
  | ((with_reducible refine' w_text ?hT ?h1 ?h2 ?_); (case hT => assumption); (case h1 => exact rfl); (case h2 => first | assumption | exact upd_same))
  | ((with_reducible refine' w_at ?hT ?h1 ?h2 ?_); (case hT => assumption); (case h1 => exact rfl); (case h2 => first | assumption | exact upd_same))
  | ((with_reducible refine' w_token ?hT ?h1 ?h2 ?_); (case hT => assumption); (case h1 => exact rfl); (case h2 => first | assumption | exact upd_same))
  | with_reducible refine w_sfld0 ?_
  | with_reducible refine w_mkx ?_
  | with_reducible refine w_nonR ?_
  | with_reducible refine w_bm0 ?_
  | ((with_reducible refine' w_putAt ?hT ?h2 ?_); (case hT => assumption); (case h2 => first | assumption | exact upd_same))
  | ((with_reducible refine' w_putToken ?hT ?h2 ?_); (case hT => assumption); (case h2 => first | assumption | exact upd_same))
  | dsimp only [List.set_cons_zero, List.set_cons_succ, List.append_nil, List.cons_append, List.nil_append, cxOf]))

open TL
def spLaw (K : PySem.W.Frag) (Pt : Addr) : Sp := fun vs H Q _ => ∃ (sa : Addr) (ns : List Int), vs = [.ref sa] ∧ SqL K H sa (ns.map V.int) ∧ ns.length ≤ 63 ∧ GxR.TabG H Pt ∧ ∀ H', Q (.bl true) H'
section
variable {P : Program} {w : World} {K : PySem.W.Frag} {mg : Str → Option Value} {base : Heap} {uG uP uD : Value} {f aK CE fI Pt : Addr} {fd : FuncData}
theorem ok_law (F : Fun K "law" "law" s_law f fd) (T : Tx K mg uG uP uD) (D_l_draw : Df P w K mg base 1 "_law_draw" ["script"] (spDrawC K)) (D_l_take : Df P w K mg base 1 "_law_take" ["draw", "many"] spTakeC)
    (D_l_expression : Df P w K mg base 7 "_law_expression" ["draw", "depth", "names"] (spLE 5)) (D_l_tokens : Df P w K mg base 7 "_law_tokens" ["e"] (spToks 5)) (D_l_plain : Df P w K mg base 1 "_law_plain" ["tokens"] spPlain)
    (D_show_expression : Df P w K mg base 7 "show_expression" ["expression"] (spShow 5)) (D_read_expression : DfX P w K mg base 5 "read_expression" ["text"] (spRead CE Pt)) (D_l_wrong : Df P w K mg base 2 "_law_wrong" ["draw"] spWrong) (D_l_error : Df P w K mg base 6 "_law_error" ["text"] (spErr Pt)) :
    FnOk P w K mg base CX0 8 f fd ["script"] (spLaw K Pt) := by
  refine F.ok sc_law (fun vs H Q E h => ?_) (fun cdv A outer s H vs Q E hr h => ?_)
  · obtain ⟨a, ns, rfl, _⟩ := h
    rfl
  · obtain ⟨sa, ns, rfl, hS, hlen, hT, k⟩ := h
    have hsl : 16000000 ≤ sizeLine := by decide
    refine ⟨_, (pss_cons (ps_set (i := 1) sc_law.nd rfl (.inl rfl) (pe_df D_l_draw (hr.mono (by decide)) (by rfl) (pa_cons (pv 0) pa_nil)))
    (pss_cons (ps_set (i := 2) sc_law.nd rfl (.inl rfl) (pe_lst (pa_cons pe_int (pa_cons pe_int (pa_cons pe_int (pa_cons pe_int pa_nil))))))
    (pss_cons (ps_for PassesOwn.never rfl (pi_range1 (by rfl) T.z_range (pa_cons pe_int pa_nil)) (pg_name (i := 3) sc_law.nd rfl (.inl rfl))
      (pss_cons (ps_set (i := 4) sc_law.nd rfl (.inl rfl) (pe_df D_l_expression (hr.mono (by decide)) (by rfl) (pa_cons (pv 1) (pa_cons (pe_op op_add pe_int (pe_df D_l_take (hr.mono (by decide)) (by rfl) (pa_cons (pv 1) (pa_cons pe_int pa_nil)))) (pa_cons (pv 2) pa_nil)))))
    (pss_cons (ps_set (i := 5) sc_law.nd rfl (.inl rfl) (pe_df D_l_tokens (hr.mono (by decide)) (by rfl) (pa_cons (pv 4) pa_nil)))
    (pss_cons (ps_set (i := 6) sc_law.nd rfl (.inl rfl) (pe_df D_l_plain (hr.mono (by decide)) (by rfl) (pa_cons (pv 5) pa_nil)))
    (pss_cons (ps_if (PW.pt (pw_or (pt_cmpR op_ne (pe_df D_show_expression (hr.mono (by decide)) (by rfl) (pa_cons (pv 4) pa_nil)) (pv 6) (nomark _)) (pw_or1 (pt_cmpR (opK (K := K) (r := rNeD) rfl (op_neD hr.units)) (pe_dfP D_read_expression (hr.mono (by decide)) passL (by rfl) (pa_cons (pv 6) pa_nil)) (pv 4) (nomark _)))))
      (pss_one (ps_ret pe_bl))
      pss_nil)
    (pss_cons (ps_set (i := 7) sc_law.nd rfl (.inl rfl) pe_str)
    (pss_cons (ps_for PassesOwn.never rfl (pi_listK (K := K) rfl (pv 5)) (pg_name (i := 8) sc_law.nd rfl (.inl rfl))
      (pss_one (ps_set (i := 7) sc_law.nd rfl (.inl rfl) (pe_op op_add_str (pe_op op_add_str (pv 7) (pe_op op_repS pe_str (pe_df D_l_take (hr.mono (by decide)) (by rfl) (pa_cons (pv 1) (pa_cons pe_int pa_nil))))) (pv 8)))))
    (pss_cons (ps_if (pt_cmpR (opK (K := K) (r := rNeD) rfl (op_neD hr.units)) (pe_dfP D_read_expression (hr.mono (by decide)) passL (by rfl) (pa_cons (pe_op op_add_str (pv 7) (pe_op op_repS pe_str (pe_df D_l_take (hr.mono (by decide)) (by rfl) (pa_cons (pv 1) (pa_cons pe_int pa_nil))))) pa_nil)) (pv 4) (nomark _))
      (pss_one (ps_ret pe_bl))
      pss_nil)
    (pss_cons (ps_asg (pe_df D_l_wrong (hr.mono (by decide)) (by rfl) (pa_cons (pv 1) pa_nil)) (pg_tupK (K := K) rfl (by rfl) (pgs_cons (pg_name (i := 9) sc_law.nd rfl (.inl rfl)) (pgs_cons (pg_name (i := 10) sc_law.nd rfl (.inl rfl)) pgs_nil))))
    (pss_cons (ps_if (pt_cmpR op_ne (pe_df D_l_error (hr.mono (by decide)) (by rfl) (pa_cons (pv 9) pa_nil)) (pv 10) (nomark _))
      (pss_one (ps_ret pe_bl))
      pss_nil)
    (pss_cons (ps_if (pt_cmpR op_lt (pe_df D_l_error (hr.mono (by decide)) (by rfl) (pa_cons (pe_op op_add_str (pe_op op_add_str (pe_op op_add_str (pe_op op_add_str pe_str (pv 6)) pe_str) (pv 9)) pe_str) pa_nil)) pe_int (nomark _))
      (pss_one (ps_ret pe_bl))
      pss_nil)
    (pss_one (ps_if (PW.pt (pw_or (pt_cmpR op_ne (pe_df D_l_error (hr.mono (by decide)) (by rfl) (pa_cons (pe_op op_add_str (pv 6) pe_str) pa_nil)) (pe_op op_add (pe_callB call_len_str (by rfl) T.z_len (by decide +kernel) (pa_cons (pv 6) pa_nil)) pe_int) (nomark _)) (pw_or1 (pt_cmpR op_ne (pe_df D_l_error (hr.mono (by decide)) (by rfl) (pa_cons (pe_op op_add_str pe_str (pv 6)) pa_nil)) (pe_op op_add (pe_callB call_len_str (by rfl) T.z_len (by decide +kernel) (pa_cons (pv 6) pa_nil)) pe_int) (nomark _)))))
      (pss_one (ps_ret pe_bl))
      pss_nil)))))))))))))
    (pss_one (ps_ret pe_bl))))), ?_⟩
    rw [show start n_law [(.ref sa : V)] = ([some (.ref sa), none, none, none, none, none, none, none, none, none, none] : List (Option V)) from rfl]
    walk_at "rd"
    refine ⟨sa, ns, rfl, hS, hlen, fun d c H1 hd k1 hD => ?_⟩
    have hT1 := k1.tab Pt hT
    walk_at "rd"
    refine ⟨by show 4 ≤ sizeLine; omega, fun na hna => ?_⟩
    have nN := (hD.old hna).1
    have kN := Kept.new (o := .lst [.int 1, .int 2, .int 30, .int 999]) hna
    have hN : NmAt (upd H1 na (.lst [.int 1, .int 2, .int 30, .int 999])) na := upd_same
    have hDN := kN.toC.drw hD
    have hTN := kN.tab Pt hT1
    generalize upd H1 na (.lst [.int 1, .int 2, .int 30, .int 999]) = HN at kN hN hDN hTN ⊢
    walk_at "rd"
    refine Fr1.mk (m := 3) (by decide) (fun i σ' H' => ∃ v3 v4 v5 v6 v7 v8 v9 v10, σ' = [some (.ref sa), some (.ref d), some (.ref na), v3, v4, v5, v6, v7, v8, v9, v10] ∧ KeptC d c HN H') ⟨none, none, none, none, none, none, none, none, rfl, KeptC.refl _⟩ ?_ ?_
    · rintro i σ' H2 hi ⟨v3, v4, v5, v6, v7, v8, v9, v10, rfl, k2⟩
      have hD2 := k2.drw hDN
      walk_at "rd"
      refine ⟨d, c, 4, rfl, by decide, by decide, hD2, fun r H3 l3 g3 k3 => ?_⟩
      obtain ⟨m, rfl⟩ : ∃ m : Nat, r = (m : Int) := ⟨r.toNat, by omega⟩
      have hD3 := k3.drw hD2
      walk_at "rd"
      refine ⟨d, c, na, 1 + m, by rw [show (1 : Int) + (m : Int) = ((1 + m : Nat) : Int) from by omega], by omega, hD3, (k2.trans k3).lst nN hN, nN, fun v H4 e k4 ht hg => ?_⟩
      have k14 := k2.trans (k3.trans k4)
      have hD4 := k4.drw hD3
      obtain ⟨t, hx⟩ := hg
      have hm4 : 1 + m ≤ 4 := by omega
      obtain ⟨b1, b2, b3⟩ := ex_small hm4 hx
      have hT4 := k14.tab Pt hTN
      walk_at "rd"
      refine ⟨v, 1 + m, e, t, rfl, by omega, ht, hx, by omega, fun nT H5 k5 hnT => ?_⟩
      have hD5 := k5.toC.drw hD4
      have ht5 := ht.kept k5
      walk_at "rd"
      refine ⟨nT, t, rfl, hnT, by omega, by omega, fun H6 k6 => ?_⟩
      have hD6 := k6.toC.drw hD5
      have ht6 := ht5.kept k6
      have hnT6 := k6.lst hnT
      walk_at "rd"
      refine ⟨v, 1 + m, e, t, rfl, by omega, ht6, hx, by omega, fun H7 k7 => ?_⟩
      have hD7 := k7.toC.drw hD6
      have ht7 := ht6.kept k7
      have hnT7 := k7.lst hnT6
      have k47 := k5.trans (k6.trans k7)
      have hT7 := k47.tab Pt hT4
      walk_at "rd"
      refine if_f (by rw [decide_eq_true rfl] <;> rfl) ?_
      walk_at "rd"
      refine ⟨mkS (plain t), Bz (1 + m), .ok e, rfl, by rw [tl_mkS]; omega, hT7, by omega, by rw [tl_mkS]; exact read_plain hx, fun q8 H8 k8 hq8 => ?_⟩
      have hD8 := k8.toC.drw hD7
      have ht8 := ht7.kept k8
      have hnT8 := k8.lst hnT7
      have k48 := k47.trans k8
      show tVar 4 _ H8 _
      refine w_var rfl ?_
      refine w_neTr hm4 hx hq8 ht8 ?_
      refine ⟨_, rfl, ?_⟩
      refine if_f rfl ?_
      refine w_next ?_
      walk_at "rd"
      have nnT : nT ≠ d := by
        intro ez
        obtain ⟨n0, a0, u0, z0, _, g1, _⟩ := hD8
        rw [ez, g1] at hnT8
        have q := HO.lst.inj (Option.some.inj hnT8)
        cases t with
        | nil => cases q
        | cons t0 ts0 => cases (List.cons.inj q).1
      refine FrL.mk (xs := t.map strV) (fun j σ' H' => ∃ (v8 : Option V) (s : List Nat), σ' = [some (.ref sa), some (.ref d), some (.ref na), some (.int (i : Int)), some v, some (.ref nT), some (.str (mkS (plain t))), some (.str (mkS s)), v8, v9, v10] ∧ KeptC d c H8 H' ∧ (∀ r, Lay (t.take j) (s ++ r) r) ∧ s.length ≤ (plain (t.take j)).length + 2 * j) ⟨v8, [], by rw [no_mk], KeptC.refl _, fun r => by rw [List.take_zero] <;> rfl, Nat.zero_le _⟩ (fun j σ' H' _ h => by
        obtain ⟨_, _, _, kk, _⟩ := h
        exact SqL.of (kk.lst nnT hnT8)) ?_ ?_
      · rintro j x σ' H9 hxj ⟨v8', s, rfl, k9, hlay, hsl9⟩
        rw [List.getElem?_map] at hxj
        cases ej : t[j]? with
        | none => rw [ej] at hxj; cases hxj
        | some tj =>
          rw [ej] at hxj
          cases hxj
          have hD9 := k9.drw hD8
          walk_at "rd"
          refine ⟨d, c, 3, rfl, by decide, by decide, hD9, fun r H10 l10 g10 k10 => ?_⟩
          have hjl := (List.getElem?_eq_some_iff.mp ej).1
          have htk : t.take (j + 1) = t.take j ++ [tj] := by rw [List.take_add_one, ej] <;> rfl
          have q1 := plain_take t (j + 1)
          have q2 : (plain (t.take (j + 1))).length = (plain (t.take j)).length + (tj.length + (if tj = [44] then [32] else [] : List Nat).length) := by rw [htk, plain_snoc, List.length_append, List.length_append]
          obtain ⟨rn, rfl⟩ : ∃ rn : Nat, r = (rn : Int) := ⟨r.toNat, by omega⟩
          refine ⟨Str.ofString " ", rn, rfl, rfl, by rw [len_tl, tl_sp] <;> rfl, by omega, by omega, ?_⟩
          rw [rep_mk rn ⟨by omega, by omega⟩, Int.toNat_natCast]
          refine ⟨_, _, rfl, rfl, by rw [mkS_len, mkS_len, List.length_replicate]; omega, ?_⟩
          rw [mk_app]
          refine w_var rfl ?_
          refine ⟨_, mkS tj, rfl, rfl, by rw [mkS_len, mkS_len, List.length_append, List.length_replicate]; omega, ?_⟩
          rw [mk_app]
          refine ⟨some (strV tj), _, rfl, k9.trans k10, fun r' => ?_, ?_⟩
          · rw [htk]
            refine Lay.app.mpr ⟨List.replicate rn 32 ++ (tj ++ r'), ?_, rn, r', rfl, rfl⟩
            have q3 := hlay (List.replicate rn 32 ++ (tj ++ r'))
            rw [List.append_assoc, List.append_assoc]
            exact q3
          · rw [List.length_append, List.length_append, List.length_replicate, q2]
            omega
      · rintro σ' H9 ⟨v8', s, rfl, k9, hlay, hsl9⟩
        rw [List.length_map, List.take_length] at hlay hsl9
        have hD9 := k9.drw hD8
        have ht9 := ht8.keptC k9 hD8
        walk_at "rd"
        refine ⟨d, c, 2, rfl, by decide, by decide, hD9, fun r H10 l10 g10 k10 => ?_⟩
        obtain ⟨rn, rfl⟩ : ∃ rn : Nat, r = (rn : Int) := ⟨r.toNat, by omega⟩
        refine ⟨Str.ofString " ", rn, rfl, rfl, by rw [len_tl, tl_sp] <;> rfl, by omega, by omega, ?_⟩
        rw [rep_mk rn ⟨by omega, by omega⟩, Int.toNat_natCast]
        refine ⟨_, _, rfl, rfl, by rw [mkS_len, mkS_len, List.length_replicate]; omega, ?_⟩
        rw [mk_app]
        have hD10 := k10.drw hD9
        have ht10 := ht9.keptC k10 hD9
        have hT10 := (k9.trans k10).tab Pt (k8.tab Pt hT7)
        walk_at "rd"
        refine ⟨_, Bz (1 + m), .ok e, rfl, by rw [tl_mkS, List.length_append, List.length_replicate]; omega, hT10, by omega, by rw [tl_mkS]; exact read_lay hx (hlay (List.replicate rn 32)), fun q11 H11 k11 hq11 => ?_⟩
        have hD11 := k11.toC.drw hD10
        have ht11 := ht10.kept k11
        show tVar 4 _ H11 _
        refine w_var rfl ?_
        refine w_neTr hm4 hx hq11 ht11 ?_
        refine ⟨_, rfl, ?_⟩
        refine if_f rfl ?_
        refine w_next ?_
        walk_at "rd"
        refine ⟨d, c, rfl, hD11, fun ww hww p12 H12 k12 hp12 => ?_⟩
        have hD12 := k12.drw hD11
        have hT12 := k12.tab Pt (k11.tab Pt hT10)
        have hwl := wrong_len hww
        refine ⟨p12, _, rfl, SqT.of hp12, rfl, ?_⟩
        refine ⟨_, _, rfl, _, _, rfl, rfl, ?_⟩
        obtain ⟨mw, hmw, hRw⟩ := wrong_run hww
        walk_at "rd"
        refine ⟨mkS ww.1, 40, mw, rfl, by rw [tl_mkS]; omega, hT12, by decide, by rw [tl_mkS]; exact hRw, fun H13 k13 => ?_⟩
        have hD13 := k13.toC.drw hD12
        have hT13 := k13.tab Pt hT12
        rw [tl_mkS]
        walk_at "rd"
        refine if_f (by rw [decide_eq_true (show V.int ((ww.1.length : Int) - mw) = V.int ww.2 from congrArg V.int (by omega))] <;> rfl) ?_
        walk_at "rd"
        have so : Str.ofString "or(" = mkS [111, 114, 40] := ext_tl (by rw [tl_mkS, tl_ofString] <;> rfl)
        have sc : Str.ofString ", " = mkS [44, 32] := ext_tl (by rw [tl_mkS, tl_ofString] <;> rfl)
        have ss : Str.ofString ";" = mkS [59] := ext_tl (by rw [tl_mkS, tl_ofString] <;> rfl)
        have sn : Str.ofString "and(" = mkS [97, 110, 100, 40] := ext_tl (by rw [tl_mkS, tl_ofString] <;> rfl)
        have sp : Str.ofString " )" = mkS [32, 41] := ext_tl (by rw [tl_mkS, tl_ofString] <;> rfl)
        obtain ⟨mi, hmi, hRi⟩ := err_in hx hww
        rw [so, sc, ss, sn, sp]
        have L1 : (mkS [111, 114, 40]).length = 3 := mkS_len _
        have L2 : (mkS [44, 32]).length = 2 := mkS_len _
        have L3 : (mkS [59]).length = 1 := mkS_len _
        have L4 : (mkS [97, 110, 100, 40]).length = 4 := mkS_len _
        have L5 : (mkS [32, 41]).length = 2 := mkS_len _
        have LP := mkS_len (plain t)
        have LW := mkS_len ww.1
        refine ⟨_, _, rfl, rfl, by simp only [mkS_len, List.length_cons, List.length_append, List.length_nil, L1, L2, L3, L4, L5, LP, LW]; omega, ?_⟩
        rw [mk_app]
        walk_at "rd"
        refine ⟨_, _, rfl, rfl, by simp only [mkS_len, List.length_cons, List.length_append, List.length_nil, L1, L2, L3, L4, L5, LP, LW]; omega, ?_⟩
        rw [mk_app]
        walk_at "rd"
        refine ⟨_, _, rfl, rfl, by simp only [mkS_len, List.length_cons, List.length_append, List.length_nil, L1, L2, L3, L4, L5, LP, LW]; omega, ?_⟩
        rw [mk_app]
        walk_at "rd"
        refine ⟨_, _, rfl, rfl, by simp only [mkS_len, List.length_cons, List.length_append, List.length_nil, L1, L2, L3, L4, L5, LP, LW]; omega, ?_⟩
        rw [mk_app]
        walk_at "rd"
        have eT : 111 :: 114 :: 40 :: (plain t ++ [44, 32] ++ ww.1 ++ [59]) = [111, 114, 40] ++ (plain t ++ 44 :: 32 :: (ww.1 ++ [59])) := by simp
        have lT : (111 :: 114 :: 40 :: (plain t ++ [44, 32] ++ ww.1 ++ [59])).length = (plain t).length + ww.1.length + 6 := by
          simp only [List.length_cons, List.length_append, List.length_nil]
          omega
        refine ⟨_, Bz (1 + m) + 42, mi, rfl, by rw [tl_mkS, lT]; omega, hT13, by omega, by rw [tl_mkS, eT]; exact hRi, fun H14 k14' => ?_⟩
        have hD14 := k14'.toC.drw hD13
        have hT14 := k14'.tab Pt hT13
        rw [tl_mkS, lT]
        walk_at "rd"
        refine if_f (decide_eq_false (by omega)) ?_
        walk_at "rd"
        refine ⟨_, _, rfl, rfl, by simp only [mkS_len, List.length_cons, List.length_append, List.length_nil, L1, L2, L3, L4, L5, LP, LW]; omega, ?_⟩
        rw [mk_app]
        walk_at "rd"
        have lC : (plain t ++ [32, 41]).length = (plain t).length + 2 := by rw [List.length_append] <;> rfl
        refine ⟨_, Bz (1 + m), 1, rfl, by rw [tl_mkS, lC]; omega, hT14, by omega, by rw [tl_mkS]; exact err_close hx, fun H15 k15 => ?_⟩
        have hT15 := k15.tab Pt hT14
        rw [tl_mkS, lC]
        walk_at "rd"
        refine ⟨_, rfl, by omega, ?_⟩
        rw [LP]
        walk_at "rd"
        refine if_f (by rw [decide_eq_true (congrArg V.int (by omega))] <;> rfl) ?_
        walk_at "rd"
        refine ⟨_, _, rfl, rfl, by simp only [mkS_len, List.length_cons, List.length_append, List.length_nil, L1, L2, L3, L4, L5, LP, LW]; omega, ?_⟩
        rw [mk_app]
        walk_at "rd"
        have lO : (97 :: 110 :: 100 :: 40 :: plain t).length = (plain t).length + 4 := rfl
        refine ⟨_, Bz (1 + m) + 2, 0, rfl, by rw [tl_mkS, lO]; omega, hT15, by omega, by rw [tl_mkS]; exact err_open hx, fun H16 k16 => ?_⟩
        rw [tl_mkS, lO]
        walk_at "rd"
        refine ⟨_, rfl, by omega, ?_⟩
        rw [LP]
        walk_at "rd"
        refine if_f (by rw [decide_eq_true (congrArg V.int (by omega))] <;> rfl) ?_
        walk_at "rd"
        exact ⟨_, _, _, _, _, _, _, _, rfl, k14.trans (k48.toC.trans (k9.trans (k10.trans (k11.toC.trans (k12.trans (k13.toC.trans (k14'.toC.trans (k15.toC.trans k16.toC))))))))⟩
    · rintro σ' H' ⟨v3, v4, v5, v6, v7, v8, v9, v10, rfl, k2⟩
      walk_at "rd"
      exact k H'
end
end Ky

namespace Ky
open PySem PySem.Spec PyProof.Rows L2
/-- the end of a row by what the top has left: the law's promise may lean on the tables of code objects -/
theorem walk_own {l : PySem.W.OpenLaw} {n k : Nat} {q : Program} {loose : List Str} {XP : (Str → Option Value) → Heap → Prop} {YP : World → Heap → Prop} {d : DefRec} {K : Params → PySem.W.Frag} {x : Str}
    (hn : l.most = some n) (hn2 : n ≤ sizeLine) (hdf : d.params.defaults = []) (hr : Room k callerA) (hK : ∀ (w : World) (h : Heap), YP w h → (K w.params).In h)
    (F : ∀ (w : World) (s0 : Shared) (mg mb : Str → Option Value) (fa : Addr) (h : Heap), PySem.W.Ground q loose [] XP w s0 mg mb h → YP w h →
      mg d.name = some (.ref fa) → (K w.params).In h → LamX.LawAtS l w (K w.params) CX0 k n x mg fa h) :
    PySem.W.WalkO q loose XP YP l.row.toRowW d [] (fun f vs => PySem.call f vs) :=
  Att.attach_callB hn hdf fun w s0 s1 mg mb fa _ _ _ _ a _ ns G Y _ _ _ hm ho hi hl hz hg => by
    have X := hK w s1.heap Y
    obtain ⟨fd, cs, sp, t1, t2, t3, t4, t5, t6⟩ := F w s0 mg mb fa s1.heap G Y hm X
    have T := G.T
    exact LamX.law_callTs X T.g T.b T.builtins T.nolimit hg t1 t2 t3 T.bmain ho hi (Nat.le_trans hl hn2) hr t6 t4 (fun H a1 a2 => t5 H a ns hl hz a1 a2) fun _ _ _ z => z
theorem df_of {P : Program} {w : World} {K : PySem.W.Frag} {mg : Str → Option Value} {base : Heap} {k : Nat} {x : Str} {ps : List Str} {sp : Sp} {f : Addr} {fd : FuncData} (F : FnOk P w K mg base CX0 k f fd ps sp) (m : mg x = some (.ref f)) (kp : PySem.W.keepIn K (.ref f) = true) (b : Binds K fd ps []) : Df P w K mg base k x ps sp := ⟨f, fd, F, m, kp, b⟩
theorem dfx_of {P : Program} {w : World} {K : PySem.W.Frag} {mg : Str → Option Value} {base : Heap} {k : Nat} {x : Str} {ps : List Str} {sp : Sp} {f : Addr} {fd : FuncData} (F : FnOk P w K mg base (L2.CX P w) k f fd ps sp) (m : mg x = some (.ref f)) (kp : PySem.W.keepIn K (.ref f) = true) (b : Binds K fd ps []) : DfX P w K mg base k x ps sp := ⟨f, fd, F, m, kp, b⟩
theorem func_mk {K : PySem.W.Frag} {x : Str} {st : Stmt} {f c : Addr} {oc : Value} {od an : Option Addr} {osl : Array (Option Value)} {kV doc pm ct : Value} (l : K.lookup f = some ⟨oc, od, .func (PySem.W.fnOf x x (defArgs st) (defBody st) (defScope st) .none kV doc pm an (.ref c) ct), osl⟩) (b : PySem.W.codeIn K (.ref c) x = true) : FunC K x st f (PySem.W.fnOf x x (defArgs st) (defBody st) (defScope st) .none kV doc pm an (.ref c) ct) c := ⟨⟨oc, od, kV, doc, pm, an, ct, osl, rfl, l, b⟩⟩
theorem tab_in {K : PySem.W.Frag} {x : Str} {f c t : Addr} {oc e : Value} {od dd : Option Addr} {fd : FuncData} {sl sv : Array (Option Value)} {vs : Array Value} (a : PySem.W.nsIn K mainGlobals x = some (some (.ref f))) (l : K.lookup f = some ⟨oc, od, .func fd, sl⟩) (hc : fd.code = .ref c)
    (lc : K.lookup c = some ⟨e, dd, .fields vs, sv⟩) (lv : vs[11]? = some (.ref t)) : PySem.W.tabIn K x = some (c, t) := by
  unfold PySem.W.tabIn
  simp only [a, l, hc, lc, lv]
theorem all_mk {l : PySem.W.OpenLaw} {w : World} {K : PySem.W.Frag} {q : Program} {lo : List Str} {lv : List (Str × PySem.W.WData)} {s0 : Shared} {h : Heap} {mg mb : Str → Option Value} {fa : Addr} {dR_read_number : DefRec} (X : K.In h)
    (G : PySem.W.Ground q lo [] (PySem.W.XL q lv) w s0 mg mb h) (hfa : mg "law" = some (.ref fa)) (hR_read_number : (recsOf q).find? (fun e => e.name == ("read_number" : Str)) = some dR_read_number) (hv : (("_PART" : Str), PySem.W.WData.int 1000000000000000000000000000000000000000000000000000000000000) ∈ lv)
    {f_is_whole : Addr} {od_is_whole an_is_whole : Option Addr} {sl_is_whole : Array (Option Value)} {oc_is_whole kV_is_whole dc_is_whole pm_is_whole cd_is_whole ct_is_whole : Value}
    (a_is_whole : PySem.W.nsIn K mainGlobals "is_whole" = some (some (.ref f_is_whole))) (l_is_whole : K.lookup f_is_whole = some ⟨oc_is_whole, od_is_whole, .func (PySem.W.fnOf "is_whole" "is_whole" (defArgs s_is_whole) (defBody s_is_whole) (defScope s_is_whole) .none kV_is_whole dc_is_whole pm_is_whole an_is_whole (cd_is_whole) ct_is_whole), sl_is_whole⟩)
    (b_is_whole : PySem.W.codeIn K (cd_is_whole) "is_whole" = true) (k_is_whole : PySem.W.keepIn K (.ref f_is_whole) = true)
    {f_show_number : Addr} {od_show_number an_show_number : Option Addr} {sl_show_number : Array (Option Value)} {oc_show_number kV_show_number dc_show_number pm_show_number cd_show_number ct_show_number : Value}
    (a_show_number : PySem.W.nsIn K mainGlobals "show_number" = some (some (.ref f_show_number))) (l_show_number : K.lookup f_show_number = some ⟨oc_show_number, od_show_number, .func (PySem.W.fnOf "show_number" "show_number" (defArgs s_show_number) (defBody s_show_number) (defScope s_show_number) .none kV_show_number dc_show_number pm_show_number an_show_number (cd_show_number) ct_show_number), sl_show_number⟩)
    (b_show_number : PySem.W.codeIn K (cd_show_number) "show_number" = true) (k_show_number : PySem.W.keepIn K (.ref f_show_number) = true)
    {f_read_number : Addr} {od_read_number an_read_number : Option Addr} {sl_read_number : Array (Option Value)} {oc_read_number kV_read_number dc_read_number pm_read_number ct_read_number : Value} {c_read_number t_read_number : Addr}
    (a_read_number : PySem.W.nsIn K mainGlobals "read_number" = some (some (.ref f_read_number))) (l_read_number : K.lookup f_read_number = some ⟨oc_read_number, od_read_number, .func (PySem.W.fnOf "read_number" "read_number" (defArgs s_read_number) (defBody s_read_number) (defScope s_read_number) .none kV_read_number dc_read_number pm_read_number an_read_number (.ref c_read_number) ct_read_number), sl_read_number⟩)
    (b_read_number : PySem.W.codeIn K (.ref c_read_number) "read_number" = true) (k_read_number : PySem.W.keepIn K (.ref f_read_number) = true)
    {f_is_variable : Addr} {od_is_variable an_is_variable : Option Addr} {sl_is_variable : Array (Option Value)} {oc_is_variable kV_is_variable dc_is_variable pm_is_variable cd_is_variable ct_is_variable : Value}
    (a_is_variable : PySem.W.nsIn K mainGlobals "is_variable" = some (some (.ref f_is_variable))) (l_is_variable : K.lookup f_is_variable = some ⟨oc_is_variable, od_is_variable, .func (PySem.W.fnOf "is_variable" "is_variable" (defArgs s_is_variable) (defBody s_is_variable) (defScope s_is_variable) .none kV_is_variable dc_is_variable pm_is_variable an_is_variable (cd_is_variable) ct_is_variable), sl_is_variable⟩)
    (b_is_variable : PySem.W.codeIn K (cd_is_variable) "is_variable" = true) (k_is_variable : PySem.W.keepIn K (.ref f_is_variable) = true)
    {f_is_word : Addr} {od_is_word an_is_word : Option Addr} {sl_is_word : Array (Option Value)} {oc_is_word kV_is_word dc_is_word pm_is_word cd_is_word ct_is_word : Value}
    (a_is_word : PySem.W.nsIn K mainGlobals "is_word" = some (some (.ref f_is_word))) (l_is_word : K.lookup f_is_word = some ⟨oc_is_word, od_is_word, .func (PySem.W.fnOf "is_word" "is_word" (defArgs s_is_word) (defBody s_is_word) (defScope s_is_word) .none kV_is_word dc_is_word pm_is_word an_is_word (cd_is_word) ct_is_word), sl_is_word⟩)
    (b_is_word : PySem.W.codeIn K (cd_is_word) "is_word" = true) (k_is_word : PySem.W.keepIn K (.ref f_is_word) = true)
    {f_wanted_parts : Addr} {od_wanted_parts an_wanted_parts : Option Addr} {sl_wanted_parts : Array (Option Value)} {oc_wanted_parts kV_wanted_parts dc_wanted_parts pm_wanted_parts cd_wanted_parts ct_wanted_parts : Value}
    (a_wanted_parts : PySem.W.nsIn K mainGlobals "wanted_parts" = some (some (.ref f_wanted_parts))) (l_wanted_parts : K.lookup f_wanted_parts = some ⟨oc_wanted_parts, od_wanted_parts, .func (PySem.W.fnOf "wanted_parts" "wanted_parts" (defArgs s_wanted_parts) (defBody s_wanted_parts) (defScope s_wanted_parts) .none kV_wanted_parts dc_wanted_parts pm_wanted_parts an_wanted_parts (cd_wanted_parts) ct_wanted_parts), sl_wanted_parts⟩)
    (b_wanted_parts : PySem.W.codeIn K (cd_wanted_parts) "wanted_parts" = true) (k_wanted_parts : PySem.W.keepIn K (.ref f_wanted_parts) = true)
    {f_parts_in : Addr} {od_parts_in an_parts_in : Option Addr} {sl_parts_in : Array (Option Value)} {oc_parts_in kV_parts_in dc_parts_in pm_parts_in cd_parts_in ct_parts_in : Value}
    (a_parts_in : PySem.W.nsIn K mainGlobals "parts_in" = some (some (.ref f_parts_in))) (l_parts_in : K.lookup f_parts_in = some ⟨oc_parts_in, od_parts_in, .func (PySem.W.fnOf "parts_in" "parts_in" (defArgs s_parts_in) (defBody s_parts_in) (defScope s_parts_in) .none kV_parts_in dc_parts_in pm_parts_in an_parts_in (cd_parts_in) ct_parts_in), sl_parts_in⟩)
    (b_parts_in : PySem.W.codeIn K (cd_parts_in) "parts_in" = true) (k_parts_in : PySem.W.keepIn K (.ref f_parts_in) = true)
    {f_read_variable : Addr} {od_read_variable an_read_variable : Option Addr} {sl_read_variable : Array (Option Value)} {oc_read_variable kV_read_variable dc_read_variable pm_read_variable cd_read_variable ct_read_variable : Value}
    (a_read_variable : PySem.W.nsIn K mainGlobals "read_variable" = some (some (.ref f_read_variable))) (l_read_variable : K.lookup f_read_variable = some ⟨oc_read_variable, od_read_variable, .func (PySem.W.fnOf "read_variable" "read_variable" (defArgs s_read_variable) (defBody s_read_variable) (defScope s_read_variable) .none kV_read_variable dc_read_variable pm_read_variable an_read_variable (cd_read_variable) ct_read_variable), sl_read_variable⟩)
    (b_read_variable : PySem.W.codeIn K (cd_read_variable) "read_variable" = true) (k_read_variable : PySem.W.keepIn K (.ref f_read_variable) = true)
    {f_show_expression : Addr} {od_show_expression an_show_expression : Option Addr} {sl_show_expression : Array (Option Value)} {oc_show_expression kV_show_expression dc_show_expression pm_show_expression cd_show_expression ct_show_expression : Value}
    (a_show_expression : PySem.W.nsIn K mainGlobals "show_expression" = some (some (.ref f_show_expression))) (l_show_expression : K.lookup f_show_expression = some ⟨oc_show_expression, od_show_expression, .func (PySem.W.fnOf "show_expression" "show_expression" (defArgs s_show_expression) (defBody s_show_expression) (defScope s_show_expression) .none kV_show_expression dc_show_expression pm_show_expression an_show_expression (cd_show_expression) ct_show_expression), sl_show_expression⟩)
    (b_show_expression : PySem.W.codeIn K (cd_show_expression) "show_expression" = true) (k_show_expression : PySem.W.keepIn K (.ref f_show_expression) = true)
    {f_begin : Addr} {od_begin an_begin : Option Addr} {sl_begin : Array (Option Value)} {oc_begin kV_begin dc_begin pm_begin cd_begin ct_begin : Value}
    (a_begin : PySem.W.nsIn K mainGlobals "begin" = some (some (.ref f_begin))) (l_begin : K.lookup f_begin = some ⟨oc_begin, od_begin, .func (PySem.W.fnOf "begin" "begin" (defArgs s_begin) (defBody s_begin) (defScope s_begin) .none kV_begin dc_begin pm_begin an_begin (cd_begin) ct_begin), sl_begin⟩)
    (b_begin : PySem.W.codeIn K (cd_begin) "begin" = true) (k_begin : PySem.W.keepIn K (.ref f_begin) = true)
    {f_go_on : Addr} {od_go_on an_go_on : Option Addr} {sl_go_on : Array (Option Value)} {oc_go_on kV_go_on dc_go_on pm_go_on cd_go_on ct_go_on : Value}
    (a_go_on : PySem.W.nsIn K mainGlobals "go_on" = some (some (.ref f_go_on))) (l_go_on : K.lookup f_go_on = some ⟨oc_go_on, od_go_on, .func (PySem.W.fnOf "go_on" "go_on" (defArgs s_go_on) (defBody s_go_on) (defScope s_go_on) .none kV_go_on dc_go_on pm_go_on an_go_on (cd_go_on) ct_go_on), sl_go_on⟩)
    (b_go_on : PySem.W.codeIn K (cd_go_on) "go_on" = true) (k_go_on : PySem.W.keepIn K (.ref f_go_on) = true)
    {f_read_expression : Addr} {od_read_expression an_read_expression : Option Addr} {sl_read_expression : Array (Option Value)} {oc_read_expression kV_read_expression dc_read_expression pm_read_expression cd_read_expression ct_read_expression : Value}
    (a_read_expression : PySem.W.nsIn K mainGlobals "read_expression" = some (some (.ref f_read_expression))) (l_read_expression : K.lookup f_read_expression = some ⟨oc_read_expression, od_read_expression, .func (PySem.W.fnOf "read_expression" "read_expression" (defArgs s_read_expression) (defBody s_read_expression) (defScope s_read_expression) .none kV_read_expression dc_read_expression pm_read_expression an_read_expression (cd_read_expression) ct_read_expression), sl_read_expression⟩)
    (b_read_expression : PySem.W.codeIn K (cd_read_expression) "read_expression" = true) (k_read_expression : PySem.W.keepIn K (.ref f_read_expression) = true)
    {f_l_draw : Addr} {od_l_draw an_l_draw : Option Addr} {sl_l_draw : Array (Option Value)} {oc_l_draw kV_l_draw dc_l_draw pm_l_draw cd_l_draw ct_l_draw : Value}
    (a_l_draw : PySem.W.nsIn K mainGlobals "_law_draw" = some (some (.ref f_l_draw))) (l_l_draw : K.lookup f_l_draw = some ⟨oc_l_draw, od_l_draw, .func (PySem.W.fnOf "_law_draw" "_law_draw" (defArgs s_l_draw) (defBody s_l_draw) (defScope s_l_draw) .none kV_l_draw dc_l_draw pm_l_draw an_l_draw (cd_l_draw) ct_l_draw), sl_l_draw⟩)
    (b_l_draw : PySem.W.codeIn K (cd_l_draw) "_law_draw" = true) (k_l_draw : PySem.W.keepIn K (.ref f_l_draw) = true)
    {f_l_take : Addr} {od_l_take an_l_take : Option Addr} {sl_l_take : Array (Option Value)} {oc_l_take kV_l_take dc_l_take pm_l_take cd_l_take ct_l_take : Value}
    (a_l_take : PySem.W.nsIn K mainGlobals "_law_take" = some (some (.ref f_l_take))) (l_l_take : K.lookup f_l_take = some ⟨oc_l_take, od_l_take, .func (PySem.W.fnOf "_law_take" "_law_take" (defArgs s_l_take) (defBody s_l_take) (defScope s_l_take) .none kV_l_take dc_l_take pm_l_take an_l_take (cd_l_take) ct_l_take), sl_l_take⟩)
    (b_l_take : PySem.W.codeIn K (cd_l_take) "_law_take" = true) (k_l_take : PySem.W.keepIn K (.ref f_l_take) = true)
    {f_l_expression : Addr} {od_l_expression an_l_expression : Option Addr} {sl_l_expression : Array (Option Value)} {oc_l_expression kV_l_expression dc_l_expression pm_l_expression cd_l_expression ct_l_expression : Value}
    (a_l_expression : PySem.W.nsIn K mainGlobals "_law_expression" = some (some (.ref f_l_expression))) (l_l_expression : K.lookup f_l_expression = some ⟨oc_l_expression, od_l_expression, .func (PySem.W.fnOf "_law_expression" "_law_expression" (defArgs s_l_expression) (defBody s_l_expression) (defScope s_l_expression) .none kV_l_expression dc_l_expression pm_l_expression an_l_expression (cd_l_expression) ct_l_expression), sl_l_expression⟩)
    (b_l_expression : PySem.W.codeIn K (cd_l_expression) "_law_expression" = true) (k_l_expression : PySem.W.keepIn K (.ref f_l_expression) = true)
    {f_l_tokens : Addr} {od_l_tokens an_l_tokens : Option Addr} {sl_l_tokens : Array (Option Value)} {oc_l_tokens kV_l_tokens dc_l_tokens pm_l_tokens cd_l_tokens ct_l_tokens : Value}
    (a_l_tokens : PySem.W.nsIn K mainGlobals "_law_tokens" = some (some (.ref f_l_tokens))) (l_l_tokens : K.lookup f_l_tokens = some ⟨oc_l_tokens, od_l_tokens, .func (PySem.W.fnOf "_law_tokens" "_law_tokens" (defArgs s_l_tokens) (defBody s_l_tokens) (defScope s_l_tokens) .none kV_l_tokens dc_l_tokens pm_l_tokens an_l_tokens (cd_l_tokens) ct_l_tokens), sl_l_tokens⟩)
    (b_l_tokens : PySem.W.codeIn K (cd_l_tokens) "_law_tokens" = true) (k_l_tokens : PySem.W.keepIn K (.ref f_l_tokens) = true)
    {f_l_plain : Addr} {od_l_plain an_l_plain : Option Addr} {sl_l_plain : Array (Option Value)} {oc_l_plain kV_l_plain dc_l_plain pm_l_plain cd_l_plain ct_l_plain : Value}
    (a_l_plain : PySem.W.nsIn K mainGlobals "_law_plain" = some (some (.ref f_l_plain))) (l_l_plain : K.lookup f_l_plain = some ⟨oc_l_plain, od_l_plain, .func (PySem.W.fnOf "_law_plain" "_law_plain" (defArgs s_l_plain) (defBody s_l_plain) (defScope s_l_plain) .none kV_l_plain dc_l_plain pm_l_plain an_l_plain (cd_l_plain) ct_l_plain), sl_l_plain⟩)
    (b_l_plain : PySem.W.codeIn K (cd_l_plain) "_law_plain" = true) (k_l_plain : PySem.W.keepIn K (.ref f_l_plain) = true)
    {f_l_error : Addr} {od_l_error an_l_error : Option Addr} {sl_l_error : Array (Option Value)} {oc_l_error kV_l_error dc_l_error pm_l_error cd_l_error ct_l_error : Value}
    (a_l_error : PySem.W.nsIn K mainGlobals "_law_error" = some (some (.ref f_l_error))) (l_l_error : K.lookup f_l_error = some ⟨oc_l_error, od_l_error, .func (PySem.W.fnOf "_law_error" "_law_error" (defArgs s_l_error) (defBody s_l_error) (defScope s_l_error) .none kV_l_error dc_l_error pm_l_error an_l_error (cd_l_error) ct_l_error), sl_l_error⟩)
    (b_l_error : PySem.W.codeIn K (cd_l_error) "_law_error" = true) (k_l_error : PySem.W.keepIn K (.ref f_l_error) = true)
    {f_l_wrong : Addr} {od_l_wrong an_l_wrong : Option Addr} {sl_l_wrong : Array (Option Value)} {oc_l_wrong kV_l_wrong dc_l_wrong pm_l_wrong cd_l_wrong ct_l_wrong : Value}
    (a_l_wrong : PySem.W.nsIn K mainGlobals "_law_wrong" = some (some (.ref f_l_wrong))) (l_l_wrong : K.lookup f_l_wrong = some ⟨oc_l_wrong, od_l_wrong, .func (PySem.W.fnOf "_law_wrong" "_law_wrong" (defArgs s_l_wrong) (defBody s_l_wrong) (defScope s_l_wrong) .none kV_l_wrong dc_l_wrong pm_l_wrong an_l_wrong (cd_l_wrong) ct_l_wrong), sl_l_wrong⟩)
    (b_l_wrong : PySem.W.codeIn K (cd_l_wrong) "_law_wrong" = true) (k_l_wrong : PySem.W.keepIn K (.ref f_l_wrong) = true)
    {f_law : Addr} {od_law an_law : Option Addr} {sl_law : Array (Option Value)} {oc_law kV_law dc_law pm_law cd_law ct_law : Value}
    (a_law : PySem.W.nsIn K mainGlobals "law" = some (some (.ref f_law))) (l_law : K.lookup f_law = some ⟨oc_law, od_law, .func (PySem.W.fnOf "law" "law" (defArgs s_law) (defBody s_law) (defScope s_law) .none kV_law dc_law pm_law an_law (cd_law) ct_law), sl_law⟩)
    (b_law : PySem.W.codeIn K (cd_law) "law" = true) (k_law : PySem.W.keepIn K (.ref f_law) = true)
    {e_read_number : Value} {dd_read_number : Option Addr} {vs_read_number : Array Value} {sv_read_number : Array (Option Value)} (lc_read_number : K.lookup c_read_number = some ⟨e_read_number, dd_read_number, .fields vs_read_number, sv_read_number⟩) (lv_read_number : vs_read_number[11]? = some (.ref t_read_number)) (nt_read_number : K.lookup t_read_number = none)
    (z_isinstance : PySem.W.nsIn K mainGlobals "isinstance" = some none)
    (z_int : PySem.W.nsIn K mainGlobals "int" = some none)
    (z_bool : PySem.W.nsIn K mainGlobals "bool" = some none)
    (z_tuple : PySem.W.nsIn K mainGlobals "tuple" = some none)
    (z_str : PySem.W.nsIn K mainGlobals "str" = some none)
    (z_abs : PySem.W.nsIn K mainGlobals "abs" = some none)
    (z_all : PySem.W.nsIn K mainGlobals "all" = some none)
    (z_len : PySem.W.nsIn K mainGlobals "len" = some none)
    (z_list : PySem.W.nsIn K mainGlobals "list" = some none)
    (z_range : PySem.W.nsIn K mainGlobals "range" = some none)
    (z_max : PySem.W.nsIn K mainGlobals "max" = some none)
    (z_divmod : PySem.W.nsIn K mainGlobals "divmod" = some none)
    {u__GREATEST_VARIABLE : Value} (g__GREATEST_VARIABLE : PySem.W.nsIn K mainGlobals "_GREATEST_VARIABLE" = some (some u__GREATEST_VARIABLE)) (v__GREATEST_VARIABLE : RelV (.int 999) u__GREATEST_VARIABLE)
    {u__PART_DIGITS : Value} (g__PART_DIGITS : PySem.W.nsIn K mainGlobals "_PART_DIGITS" = some (some u__PART_DIGITS)) (v__PART_DIGITS : RelV (.int 60) u__PART_DIGITS)
    {aK : Addr} {eK : Array DictEntry} {nK : Nat} {tk0 tk1 tk2 tk3 tk4 tk5 tk6 : _} (g_PARTS : PySem.W.nsIn K mainGlobals "_PARTS" = some (some (.ref aK))) (l_PARTS : K.lookup aK = some ⟨.type "dict", none, .dict eK nK, #[]⟩) (kl_PARTS : PySem.W.KeysLit w.params eK.toList) (lo_PARTS : (aK == sysModules) = false)
    (w_yes : PySem.W.nsIn K aK (Str.ofString "yes") = (some (some (.int 0 tk0))))
    (w_no : PySem.W.nsIn K aK (Str.ofString "no") = (some (some (.int 0 tk1))))
    (w_not : PySem.W.nsIn K aK (Str.ofString "not") = (some (some (.int 1 tk2))))
    (w_and : PySem.W.nsIn K aK (Str.ofString "and") = (some (some .none)))
    (w_or : PySem.W.nsIn K aK (Str.ofString "or") = (some (some .none)))
    (w_xor : PySem.W.nsIn K aK (Str.ofString "xor") = (some (some (.int 2 tk3))))
    (w_iff : PySem.W.nsIn K aK (Str.ofString "iff") = (some (some (.int 2 tk4))))
    (w_implies : PySem.W.nsIn K aK (Str.ofString "implies") = (some (some (.int 2 tk5))))
    (w_if : PySem.W.nsIn K aK (Str.ofString "if") = (some (some (.int 3 tk6))))
    (w_atmost : PySem.W.nsIn K aK (Str.ofString "atmost") = (some (some .none)))
    (w_var : PySem.W.nsIn K aK (Str.ofString "var") = (some none))
    (w_nor : PySem.W.nsIn K aK (Str.ofString "nor") = (some none))
    (n_x0 : PySem.W.nsIn K aK (Str.ofString "x0") = some none)
    (n_x1000 : PySem.W.nsIn K aK (Str.ofString "x1000") = some none)
    (n_x : PySem.W.nsIn K aK (Str.ofString "x") = some none)
    (n_x01 : PySem.W.nsIn K aK (Str.ofString "x01") = some none)
    (n_rb : PySem.W.nsIn K aK (Str.ofString ")") = some none)
    (n_cm : PySem.W.nsIn K aK (Str.ofString ",") = some none)
    (n_em : PySem.W.nsIn K aK (Str.ofString "") = some none)
    (n_sc : PySem.W.nsIn K aK (Str.ofString ";") = some none)
    (n_X1 : PySem.W.nsIn K aK (Str.ofString "X1") = some none)
    {aE fE cdE ccE NE aCE : Addr} {nmE qcE : Str} {bsE : List Value} {snE : List Str} {subE : List Value} {abE : Bool} {colE : Option Bool} {ddE : Option Addr} {m0E m1E m2E m3E m5E : Option Value} (g_EE : PySem.W.nsIn K mainGlobals "ExpressionError" = some (some (.ref aE)))
    (x_EE : K.lookup aE = some (excClassObj nmE qcE aE NE bsE [.ref aCE, .type "ValueError", .type "Exception", .type "BaseException", .type "object"] true snE subE abE colE ddE m0E m1E m2E m3E m5E "ValueError.__new__"))
    (sa_EE : PySem.W.findIn K (.ref aE) "__setattr__" = some (some (.builtin "object.__setattr__"))) (ga_EE : PySem.W.findIn K (.ref aE) "__getattribute__" = some (some (.builtin "BaseException.__getattribute__"))) (gg_EE : PySem.W.findIn K (.ref aE) "__getattr__" = some none) (nN_EE : PySem.W.findIn K (.ref aE) "at" = some none)
    (i_EE : PySem.W.findIn K (.ref aE) "__init__" = some (some (.ref fE))) (t_EE : PySem.W.typeIn K (.ref fE) = some (.type "function")) (kp_EE : PySem.W.keepIn K (.ref aE) = true) (b0_EE : PySem.W.subIn K (.ref aE) (.type "BaseException") = some true) (v0_EE : PySem.W.subIn K (.ref aE) (.type "ValueError") = some true)
    (ty_EE : PySem.W.typeIn K (.ref aE) = some (.type "type")) (hd_EE : PySem.W.hasDictIn K aE = true) (ic_EE : PySem.W.isClsIn K aE = true) (s0_EE : PySem.W.subIn K (.ref aE) (.ref aE) = some true) (up_EE : PySem.W.ks_superIn K aE aE "__init__" = some (some (.builtin "ValueError.__init__"))) (own_EE : PySem.W.mroIn K aE (.ref aE) = some true)
    (op_EE : PySem.W.nsIn K cStatics "thirdparty.any" = some none) (z_super : PySem.W.nsIn K mainGlobals "super" = some none) (top_EE : (l.prog.main.scope.names.lookup ("super" : Str)).isSome = false)
    {ocE dcE pmE ctE cclE clE : Value} {odE anE cddE cldE : Option Addr} {slE ccsE cslE : Array (Option Value)} {qE fileE : Str} {tfE : Tok} {vsE : Array Value}
    (l_EE : K.lookup fE = some ⟨ocE, odE, .func (PySem.W.ksFn "__init__" qE (PySem.Xi.xA "at" ⟨6, 17, 6, 21⟩ ⟨6, 23, 6, 25⟩) (PySem.Xi.xB "at" "offset " ⟨7, 8, 7, 13⟩ ⟨7, 8, 7, 15⟩ ⟨7, 8, 7, 24⟩ ⟨7, 27, 7, 34⟩ ⟨7, 35, 7, 37⟩ ⟨7, 34, 7, 38⟩ ⟨7, 25, 7, 39⟩ ⟨7, 8, 7, 40⟩ ⟨7, 8, 7, 40⟩ ⟨8, 8, 8, 12⟩ ⟨8, 8, 8, 15⟩ ⟨8, 18, 8, 20⟩ ⟨8, 8, 8, 20⟩) (PySem.Xi.xS "at") .none .none dcE pmE anE (.ref cdE) ctE ccE), slE⟩) (c_EE : PySem.W.codeIn K (.ref cdE) qE = true)
    (lc_EE : K.lookup cdE = some ⟨cclE, cddE, .fields vsE, ccsE⟩) (lv_EE : vsE[2]? = some (.str fileE tfE)) (fl_EE : ((l.prog.main.file : Str) == fileE) = true) (lcc_EE : K.lookup ccE = some ⟨clE, cldE, .cell (some (.ref aE)), cslE⟩)
    {aT : Addr} (g_TK : PySem.W.nsIn K mainGlobals "Tokens" = some (some (.ref aT))) (pg_TK : PySem.W.plainGet K aT Str.empty = true) (hd_TK : PySem.W.hasDictIn K aT = true) (po_TK : PySem.W.plainOver K aT = true) (sa_TK : PySem.W.findIn K (.ref aT) "__setattr__" = some (some (.builtin "object.__setattr__"))) (mk_TK : PySem.W.makesIn K aT = true) (kc_TK : PySem.W.keepIn K (.ref aT) = true) (nT_TK : PySem.W.findIn K (.ref aT) "text" = some none) (nA_TK : PySem.W.findIn K (.ref aT) "at" = some none) (nK_TK : PySem.W.findIn K (.ref aT) "token" = some none)
    {f_tok_init : Addr} {od_tok_init an_tok_init : Option Addr} {sl_tok_init : Array (Option Value)} {oc_tok_init kV_tok_init dc_tok_init pm_tok_init cd_tok_init ct_tok_init : Value} (a_tok_init : PySem.W.findIn K (.ref aT) "__init__" = some (some (.ref f_tok_init))) (i_tok_init : PySem.W.isFn K (.ref f_tok_init) = true) (l_tok_init : K.lookup f_tok_init = some ⟨oc_tok_init, od_tok_init, .func (PySem.W.fnOf "__init__" "Tokens.__init__" (defArgs s_tok_init) (defBody s_tok_init) (defScope s_tok_init) .none kV_tok_init dc_tok_init pm_tok_init an_tok_init cd_tok_init ct_tok_init), sl_tok_init⟩) (b_tok_init : PySem.W.codeIn K cd_tok_init "Tokens.__init__" = true) (k_tok_init : PySem.W.keepIn K (.ref f_tok_init) = true)
    {f_tok_step : Addr} {od_tok_step an_tok_step : Option Addr} {sl_tok_step : Array (Option Value)} {oc_tok_step kV_tok_step dc_tok_step pm_tok_step cd_tok_step ct_tok_step : Value} (a_tok_step : PySem.W.findIn K (.ref aT) "step" = some (some (.ref f_tok_step))) (i_tok_step : PySem.W.isFn K (.ref f_tok_step) = true) (l_tok_step : K.lookup f_tok_step = some ⟨oc_tok_step, od_tok_step, .func (PySem.W.fnOf "step" "Tokens.step" (defArgs s_tok_step) (defBody s_tok_step) (defScope s_tok_step) .none kV_tok_step dc_tok_step pm_tok_step an_tok_step cd_tok_step ct_tok_step), sl_tok_step⟩) (b_tok_step : PySem.W.codeIn K cd_tok_step "Tokens.step" = true) (k_tok_step : PySem.W.keepIn K (.ref f_tok_step) = true)
    {f_tok_skip : Addr} {od_tok_skip an_tok_skip : Option Addr} {sl_tok_skip : Array (Option Value)} {oc_tok_skip kV_tok_skip dc_tok_skip pm_tok_skip cd_tok_skip ct_tok_skip : Value} (a_tok_skip : PySem.W.findIn K (.ref aT) "skip" = some (some (.ref f_tok_skip))) (i_tok_skip : PySem.W.isFn K (.ref f_tok_skip) = true) (l_tok_skip : K.lookup f_tok_skip = some ⟨oc_tok_skip, od_tok_skip, .func (PySem.W.fnOf "skip" "Tokens.skip" (defArgs s_tok_skip) (defBody s_tok_skip) (defScope s_tok_skip) .none kV_tok_skip dc_tok_skip pm_tok_skip an_tok_skip cd_tok_skip ct_tok_skip), sl_tok_skip⟩) (b_tok_skip : PySem.W.codeIn K cd_tok_skip "Tokens.skip" = true) (k_tok_skip : PySem.W.keepIn K (.ref f_tok_skip) = true)
    {f_tok_skip_number : Addr} {od_tok_skip_number an_tok_skip_number : Option Addr} {sl_tok_skip_number : Array (Option Value)} {oc_tok_skip_number kV_tok_skip_number dc_tok_skip_number pm_tok_skip_number cd_tok_skip_number ct_tok_skip_number : Value} (a_tok_skip_number : PySem.W.findIn K (.ref aT) "skip_number" = some (some (.ref f_tok_skip_number))) (i_tok_skip_number : PySem.W.isFn K (.ref f_tok_skip_number) = true) (l_tok_skip_number : K.lookup f_tok_skip_number = some ⟨oc_tok_skip_number, od_tok_skip_number, .func (PySem.W.fnOf "skip_number" "Tokens.skip_number" (defArgs s_tok_skip_number) (defBody s_tok_skip_number) (defScope s_tok_skip_number) .none kV_tok_skip_number dc_tok_skip_number pm_tok_skip_number an_tok_skip_number cd_tok_skip_number ct_tok_skip_number), sl_tok_skip_number⟩) (b_tok_skip_number : PySem.W.codeIn K cd_tok_skip_number "Tokens.skip_number" = true) (k_tok_skip_number : PySem.W.keepIn K (.ref f_tok_skip_number) = true) : LamX.LawAtS l w K CX0 8 63 "script" mg fa h := by
  have Gg := G.T.g
  have e := hfa.symm.trans (PySem.W.mg_of X Gg a_law)
  cases e
  obtain ⟨uP, gP, rP⟩ := G.X.2.val _ hv
  have vP : RelV (.int 1000000000000000000000000000000000000000000000000000000000000) uP := by
    cases rP
    exact ⟨_, rfl⟩
  have T : Tx K mg u__GREATEST_VARIABLE uP u__PART_DIGITS := ⟨PySem.W.mg_none_of X Gg z_isinstance, PySem.W.mg_none_of X Gg z_int, PySem.W.mg_none_of X Gg z_bool, PySem.W.mg_none_of X Gg z_tuple, PySem.W.mg_none_of X Gg z_str, PySem.W.mg_none_of X Gg z_abs, PySem.W.mg_none_of X Gg z_all, PySem.W.mg_none_of X Gg z_len, PySem.W.mg_none_of X Gg z_list, PySem.W.mg_none_of X Gg z_range, PySem.W.mg_none_of X Gg z_max, PySem.W.mg_none_of X Gg z_divmod, PySem.W.mg_of X Gg g__GREATEST_VARIABLE, v__GREATEST_VARIABLE, gP, vP, PySem.W.mg_of X Gg g__PART_DIGITS, v__PART_DIGITS⟩
  have TK : Tk K w mg aK := ⟨PySem.W.mg_of X Gg g_PARTS, rfl, fun z => by
    cases z
    · exact ⟨_, _, _, l_PARTS, kl_PARTS, lo_PARTS, w_var, rfl⟩
    · exact ⟨_, _, _, l_PARTS, kl_PARTS, lo_PARTS, w_yes, rfl⟩
    · exact ⟨_, _, _, l_PARTS, kl_PARTS, lo_PARTS, w_no, rfl⟩
    · exact ⟨_, _, _, l_PARTS, kl_PARTS, lo_PARTS, w_not, rfl⟩
    · exact ⟨_, _, _, l_PARTS, kl_PARTS, lo_PARTS, w_and, rfl⟩
    · exact ⟨_, _, _, l_PARTS, kl_PARTS, lo_PARTS, w_or, rfl⟩
    · exact ⟨_, _, _, l_PARTS, kl_PARTS, lo_PARTS, w_xor, rfl⟩
    · exact ⟨_, _, _, l_PARTS, kl_PARTS, lo_PARTS, w_iff, rfl⟩
    · exact ⟨_, _, _, l_PARTS, kl_PARTS, lo_PARTS, w_implies, rfl⟩
    · exact ⟨_, _, _, l_PARTS, kl_PARTS, lo_PARTS, w_if, rfl⟩
    · exact ⟨_, _, _, l_PARTS, kl_PARTS, lo_PARTS, w_atmost, rfl⟩
    · exact ⟨_, _, _, l_PARTS, kl_PARTS, lo_PARTS, w_nor, rfl⟩, fun z hz => by
    simp only [nonW, List.mem_cons, List.not_mem_nil, or_false] at hz
    rcases hz with rfl | rfl | rfl | rfl | rfl | rfl | rfl | rfl | rfl
    · exact ⟨_, _, _, l_PARTS, kl_PARTS, lo_PARTS, n_x0, rfl⟩
    · exact ⟨_, _, _, l_PARTS, kl_PARTS, lo_PARTS, n_x1000, rfl⟩
    · exact ⟨_, _, _, l_PARTS, kl_PARTS, lo_PARTS, n_x, rfl⟩
    · exact ⟨_, _, _, l_PARTS, kl_PARTS, lo_PARTS, n_x01, rfl⟩
    · exact ⟨_, _, _, l_PARTS, kl_PARTS, lo_PARTS, n_rb, rfl⟩
    · exact ⟨_, _, _, l_PARTS, kl_PARTS, lo_PARTS, n_cm, rfl⟩
    · exact ⟨_, _, _, l_PARTS, kl_PARTS, lo_PARTS, n_em, rfl⟩
    · exact ⟨_, _, _, l_PARTS, kl_PARTS, lo_PARTS, n_sc, rfl⟩
    · exact ⟨_, _, _, l_PARTS, kl_PARTS, lo_PARTS, n_X1, rfl⟩, fun z o ho => by
    cases z
    · cases ho
    · cases ho; exact ⟨_, _, _, l_PARTS, kl_PARTS, w_yes, ⟨_, rfl⟩⟩
    · cases ho; exact ⟨_, _, _, l_PARTS, kl_PARTS, w_no, ⟨_, rfl⟩⟩
    · cases ho; exact ⟨_, _, _, l_PARTS, kl_PARTS, w_not, ⟨_, rfl⟩⟩
    · cases ho; exact ⟨_, _, _, l_PARTS, kl_PARTS, w_and, rfl⟩
    · cases ho; exact ⟨_, _, _, l_PARTS, kl_PARTS, w_or, rfl⟩
    · cases ho; exact ⟨_, _, _, l_PARTS, kl_PARTS, w_xor, ⟨_, rfl⟩⟩
    · cases ho; exact ⟨_, _, _, l_PARTS, kl_PARTS, w_iff, ⟨_, rfl⟩⟩
    · cases ho; exact ⟨_, _, _, l_PARTS, kl_PARTS, w_implies, ⟨_, rfl⟩⟩
    · cases ho; exact ⟨_, _, _, l_PARTS, kl_PARTS, w_if, ⟨_, rfl⟩⟩
    · cases ho; exact ⟨_, _, _, l_PARTS, kl_PARTS, w_atmost, rfl⟩
    · cases ho⟩
  have TC : Tc K aT := ⟨⟨pg_TK, hd_TK, po_TK, sa_TK⟩, nT_TK, nA_TK, nK_TK⟩
  have TX : PySem.Xi.XTxt l.prog K mg "ExpressionError" "at" "offset " aE fE :=
    { gC := PySem.W.mg_of X Gg g_EE, cls := ⟨nmE, qcE, NE, bsE, _, snE, subE, abE, colE, ddE, m0E, m1E, m2E, m3E, m5E, x_EE, by rfl⟩, sa := sa_EE, ga := ga_EE, gg := gg_EE, noN := nN_EE, iC := i_EE, tC := t_EE, kC := kp_EE, exC := b0_EE, veC := v0_EE, tyC := ty_EE, hdC := hd_EE, te := exm_self b0_EE ic_EE ty_EE s0_EE, up := up_EE, own := own_EE, op := op_EE,
      zS := PySem.W.mg_none_of X Gg z_super, top := top_EE, fn := ⟨_, _, _, _, _, _, _, _, _, _, _, _, _, _, _, _, _, _, _, _, _, _, _, _, _, _, _, _, _, _, _, _, _, _, l_EE, c_EE, lc_EE, lv_EE, fl_EE, lcc_EE, ⟨_, fun env => rfl⟩⟩, short := by decide }
  have XF : XfC K aE := ⟨ga_EE, gg_EE, b0_EE, hd_EE⟩
  obtain ⟨CH_read_number, tE_read_number⟩ := PySem.W.tab_of G.T X hR_read_number (tab_in a_read_number l_read_number rfl lc_read_number lv_read_number)
  have F_is_whole := fun_mk (st := s_is_whole) l_is_whole b_is_whole k_is_whole
  have F_show_number := fun_mk (st := s_show_number) l_show_number b_show_number k_show_number
  have F_read_number := func_mk (st := s_read_number) l_read_number b_read_number
  have F_is_variable := fun_mk (st := s_is_variable) l_is_variable b_is_variable k_is_variable
  have F_is_word := fun_mk (st := s_is_word) l_is_word b_is_word k_is_word
  have F_wanted_parts := fun_mk (st := s_wanted_parts) l_wanted_parts b_wanted_parts k_wanted_parts
  have F_parts_in := fun_mk (st := s_parts_in) l_parts_in b_parts_in k_parts_in
  have F_read_variable := fun_mk (st := s_read_variable) l_read_variable b_read_variable k_read_variable
  have F_show_expression := fun_mk (st := s_show_expression) l_show_expression b_show_expression k_show_expression
  have F_begin := fun_mk (st := s_begin) l_begin b_begin k_begin
  have F_go_on := fun_mk (st := s_go_on) l_go_on b_go_on k_go_on
  have F_read_expression := fun_mk (st := s_read_expression) l_read_expression b_read_expression k_read_expression
  have F_l_draw := fun_mk (st := s_l_draw) l_l_draw b_l_draw k_l_draw
  have F_l_take := fun_mk (st := s_l_take) l_l_take b_l_take k_l_take
  have F_l_expression := fun_mk (st := s_l_expression) l_l_expression b_l_expression k_l_expression
  have F_l_tokens := fun_mk (st := s_l_tokens) l_l_tokens b_l_tokens k_l_tokens
  have F_l_plain := fun_mk (st := s_l_plain) l_l_plain b_l_plain k_l_plain
  have F_l_error := fun_mk (st := s_l_error) l_l_error b_l_error k_l_error
  have F_l_wrong := fun_mk (st := s_l_wrong) l_l_wrong b_l_wrong k_l_wrong
  have F_law := fun_mk (st := s_law) l_law b_law k_law
  refine ⟨PySem.W.fnOf "law" "law" (defArgs s_law) (defBody s_law) (defScope s_law) .none kV_law dc_law pm_law an_law cd_law ct_law, [(c_read_number, t_read_number)], spLaw K t_read_number, ?_, ?_, ?_, fun s v => .of_eq rfl, ?_, fun base KB MB hTB => ?_⟩
  · intro p hp
    simp only [List.mem_cons, List.not_mem_nil, or_false] at hp
    rcases hp with rfl
    · exact tE_read_number
  · intro p hp
    simp only [List.mem_cons, List.not_mem_nil, or_false] at hp
    rcases hp with rfl
    · exact nt_read_number
  · intro p hp
    simp only [List.mem_cons, List.not_mem_nil, or_false] at hp
    rcases hp with rfl
    · exact CH_read_number
  · intro H a ns hl _ ht hS
    exact ⟨a, ns, rfl, hS, hl, ⟨#[], ht _ (.head _), True.intro⟩, fun _ => rfl⟩
  have TB0_read_number := hTB _ (.head _)
  have TB_read_number : GxR.TabB base mg c_read_number t_read_number := ⟨TB0_read_number.code, TB0_read_number.bm, TB0_read_number.gP⟩
  have D_is_whole : Df l.prog w K mg base 1 "is_whole" ["value"] spWholeT := df_of (ok_is_whole F_is_whole T) (PySem.W.mg_of X Gg a_is_whole) k_is_whole (Binds.all fun us hl => match us, hl with | [_], _ => rfl)
  have D_show_number : Df l.prog w K mg base 1 "show_number" ["n"] spShowN := df_of (ok_show_number F_show_number T) (PySem.W.mg_of X Gg a_show_number) k_show_number (Binds.all fun us hl => match us, hl with | [_], _ => rfl)
  have D_read_number : Df l.prog w K mg base 1 "read_number" ["text"] (spReadN t_read_number) := df_of (ok_read_number F_read_number T TB_read_number) (PySem.W.mg_of X Gg a_read_number) k_read_number (Binds.all fun us hl => match us, hl with | [_], _ => rfl)
  have D_is_variable : Df l.prog w K mg base 2 "is_variable" ["value"] spVarT := df_of (ok_is_variable F_is_variable T D_is_whole) (PySem.W.mg_of X Gg a_is_variable) k_is_variable (Binds.all fun us hl => match us, hl with | [_], _ => rfl)
  have D_is_word : Df l.prog w K mg base 1 "is_word" ["text"] spIsWord := df_of (ok_is_word F_is_word T TK) (PySem.W.mg_of X Gg a_is_word) k_is_word (Binds.all fun us hl => match us, hl with | [_], _ => rfl)
  have D_wanted_parts : Df l.prog w K mg base 1 "wanted_parts" ["word"] spWanted := df_of (ok_wanted_parts F_wanted_parts T TK) (PySem.W.mg_of X Gg a_wanted_parts) k_wanted_parts (Binds.all fun us hl => match us, hl with | [_], _ => rfl)
  have D_parts_in : Df l.prog w K mg base 1 "parts_in" ["expression"] spPartsIn := df_of (ok_parts_in F_parts_in T) (PySem.W.mg_of X Gg a_parts_in) k_parts_in (Binds.all fun us hl => match us, hl with | [_], _ => rfl)
  have D_read_variable : Df l.prog w K mg base 3 "read_variable" ["item"] (spReadVar t_read_number) := df_of (ok_read_variable F_read_variable T D_read_number D_is_variable) (PySem.W.mg_of X Gg a_read_variable) k_read_variable (Binds.all fun us hl => match us, hl with | [_], _ => rfl)
  have D_show_expression : Df l.prog w K mg base 7 "show_expression" ["expression"] (spShow 5) := df_of (ok_show F_show_expression T D_parts_in D_show_number (PySem.W.mg_of X Gg a_show_expression) k_show_expression (Binds.all fun us hl => match us, hl with | [_], _ => rfl) 5) (PySem.W.mg_of X Gg a_show_expression) k_show_expression (Binds.all fun us hl => match us, hl with | [_], _ => rfl)
  have M_step : Mf l.prog w K mg base CX0 1 aT "step" ["self"] (spStep aT) := ⟨⟨_, _, ok_step (fun_mk (st := s_tok_step) l_tok_step b_tok_step k_tok_step) T TC, ⟨a_tok_step, i_tok_step, k_tok_step⟩, Binds.all fun us hl => match us, hl with | [_], _ => rfl⟩⟩
  have M_skip : Mf l.prog w K mg base (L2.CX l.prog w) 3 aT "skip" ["self", "token"] (spSkip aT aE) := ⟨⟨_, _, ok_skip (fun_mk (st := s_tok_skip) l_tok_skip b_tok_skip k_tok_skip) T TC TX M_step, ⟨a_tok_skip, i_tok_skip, k_tok_skip⟩, Binds.all fun us hl => match us, hl with | [_, _], _ => rfl⟩⟩
  have M_skip_number : Mf l.prog w K mg base (L2.CX l.prog w) 3 aT "skip_number" ["self"] (spSkipN aT aE t_read_number) := ⟨⟨_, _, ok_skip_number (fun_mk (st := s_tok_skip_number) l_tok_skip_number b_tok_skip_number k_tok_skip_number) T TC TX M_step D_read_number, ⟨a_tok_skip_number, i_tok_skip_number, k_tok_skip_number⟩, Binds.all fun us hl => match us, hl with | [_], _ => rfl⟩⟩
  have KM : MkF l.prog w K mg base CX0 2 "Tokens" aT ["self", "text"] (spInit aT) := ⟨PySem.W.mg_of X Gg g_TK, ⟨_, _, ok_init (fun_mk (st := s_tok_init) l_tok_init b_tok_init k_tok_init) T TC M_step, ⟨mk_TK, a_tok_init, i_tok_init, kc_TK⟩, Binds.all fun us hl => match us, hl with | [_, _], _ => rfl⟩⟩
  have D_begin : DfX l.prog w K mg base 4 "begin" ["tokens", "pending"] (spBegin aT aE t_read_number) := dfx_of (ok_begin F_begin T TC TX M_step M_skip M_skip_number D_read_variable D_is_word D_wanted_parts) (PySem.W.mg_of X Gg a_begin) k_begin (Binds.all fun us hl => match us, hl with | [_, _], _ => rfl)
  have D_go_on : DfX l.prog w K mg base 2 "go_on" ["tokens", "pending", "part"] (spGoOn aT aE) := dfx_of (ok_go_on F_go_on T TC TX M_step D_wanted_parts D_parts_in) (PySem.W.mg_of X Gg a_go_on) k_go_on (Binds.all fun us hl => match us, hl with | [_, _, _], _ => rfl)
  have D_read_expression : DfX l.prog w K mg base 5 "read_expression" ["text"] (spRead aE t_read_number) := dfx_of (ok_read_expression F_read_expression T TC TX KM D_begin D_go_on) (PySem.W.mg_of X Gg a_read_expression) k_read_expression (Binds.all fun us hl => match us, hl with | [_], _ => rfl)
  have D_l_draw : Df l.prog w K mg base 1 "_law_draw" ["script"] (spDrawC K) := df_of (ok_l_draw F_l_draw T) (PySem.W.mg_of X Gg a_l_draw) k_l_draw (Binds.all fun us hl => match us, hl with | [_], _ => rfl)
  have D_l_take : Df l.prog w K mg base 1 "_law_take" ["draw", "many"] spTakeC := df_of (ok_l_take F_l_take T) (PySem.W.mg_of X Gg a_l_take) k_l_take (Binds.all fun us hl => match us, hl with | [_, _], _ => rfl)
  have D_l_expression : Df l.prog w K mg base 7 "_law_expression" ["draw", "depth", "names"] (spLE 5) := df_of (ok_le F_l_expression T D_l_take (PySem.W.mg_of X Gg a_l_expression) k_l_expression (Binds.all fun us hl => match us, hl with | [_, _, _], _ => rfl) 5) (PySem.W.mg_of X Gg a_l_expression) k_l_expression (Binds.all fun us hl => match us, hl with | [_, _, _], _ => rfl)
  have D_l_tokens : Df l.prog w K mg base 7 "_law_tokens" ["e"] (spToks 5) := df_of (ok_toks F_l_tokens T (PySem.W.mg_of X Gg a_l_tokens) k_l_tokens (Binds.all fun us hl => match us, hl with | [_], _ => rfl) 5) (PySem.W.mg_of X Gg a_l_tokens) k_l_tokens (Binds.all fun us hl => match us, hl with | [_], _ => rfl)
  have D_l_plain : Df l.prog w K mg base 1 "_law_plain" ["tokens"] spPlain := df_of (ok_plain F_l_plain T) (PySem.W.mg_of X Gg a_l_plain) k_l_plain (Binds.all fun us hl => match us, hl with | [_], _ => rfl)
  have D_l_error : Df l.prog w K mg base 6 "_law_error" ["text"] (spErr t_read_number) := df_of (ok_l_error F_l_error T TX XF nN_EE D_read_expression) (PySem.W.mg_of X Gg a_l_error) k_l_error (Binds.all fun us hl => match us, hl with | [_], _ => rfl)
  have D_l_wrong : Df l.prog w K mg base 2 "_law_wrong" ["draw"] spWrong := df_of (ok_l_wrong F_l_wrong T D_l_take) (PySem.W.mg_of X Gg a_l_wrong) k_l_wrong (Binds.all fun us hl => match us, hl with | [_], _ => rfl)
  exact ok_law F_law T D_l_draw D_l_take D_l_expression D_l_tokens D_l_plain D_show_expression D_read_expression D_l_wrong D_l_error
end Ky
open PySem PySem.W PyProof.Rows in
set_option maxRecDepth 100000 in
set_option maxHeartbeats 0 in
theorem PySem.Challenge.cw_countsworn_k05_text_of_expressions_holds : PySem.Challenge.rw_countsworn_k05_text_of_expressions.Holds := by
  w_on; o_law; k_head; (case hw => w_witness2)
  k_fill
  refine Ky.walk_own (l := PySem.Challenge.rw_countsworn_k05_text_of_expressions) (n := 63) (k := 8) (x := "script") rfl (by decide) rfl ⟨rfl, by decide, by decide⟩ (fun w h Y => PySem.W.kIn_of Y) ?F
  case F =>
    intro w s0 mg mb fa h G Y hmg KX
    refine' Ky.all_mk KX G hmg ?hR_read_number ?hv ?a_is_whole ?l_is_whole ?b_is_whole ?k_is_whole ?a_show_number ?l_show_number ?b_show_number ?k_show_number ?a_read_number ?l_read_number ?b_read_number ?k_read_number ?a_is_variable ?l_is_variable ?b_is_variable ?k_is_variable ?a_is_word ?l_is_word ?b_is_word ?k_is_word ?a_wanted_parts ?l_wanted_parts ?b_wanted_parts ?k_wanted_parts ?a_parts_in ?l_parts_in ?b_parts_in ?k_parts_in ?a_read_variable ?l_read_variable ?b_read_variable ?k_read_variable ?a_show_expression ?l_show_expression ?b_show_expression ?k_show_expression ?a_begin ?l_begin ?b_begin ?k_begin ?a_go_on ?l_go_on ?b_go_on ?k_go_on ?a_read_expression ?l_read_expression ?b_read_expression ?k_read_expression ?a_l_draw ?l_l_draw ?b_l_draw ?k_l_draw ?a_l_take ?l_l_take ?b_l_take ?k_l_take ?a_l_expression ?l_l_expression ?b_l_expression ?k_l_expression ?a_l_tokens ?l_l_tokens ?b_l_tokens ?k_l_tokens ?a_l_plain ?l_l_plain ?b_l_plain ?k_l_plain ?a_l_error ?l_l_error ?b_l_error ?k_l_error ?a_l_wrong ?l_l_wrong ?b_l_wrong ?k_l_wrong ?a_law ?l_law ?b_law ?k_law ?lc_read_number ?lv_read_number ?nt_read_number ?z_isinstance ?z_int ?z_bool ?z_tuple ?z_str ?z_abs ?z_all ?z_len ?z_list ?z_range ?z_max ?z_divmod ?g__GREATEST_VARIABLE ?v__GREATEST_VARIABLE ?g__PART_DIGITS ?v__PART_DIGITS ?g_PARTS ?l_PARTS ?kl_PARTS ?lo_PARTS ?w_yes ?w_no ?w_not ?w_and ?w_or ?w_xor ?w_iff ?w_implies ?w_if ?w_atmost ?w_var ?w_nor ?n_x0 ?n_x1000 ?n_x ?n_x01 ?n_rb ?n_cm ?n_em ?n_sc ?n_X1 ?g_EE ?x_EE ?sa_EE ?ga_EE ?gg_EE ?nN_EE ?i_EE ?t_EE ?kp_EE ?b0_EE ?v0_EE ?ty_EE ?hd_EE ?ic_EE ?s0_EE ?up_EE ?own_EE ?op_EE ?z_super ?top_EE ?l_EE ?c_EE ?lc_EE ?lv_EE ?fl_EE ?lcc_EE ?g_TK ?pg_TK ?hd_TK ?po_TK ?sa_TK ?mk_TK ?kc_TK ?nT_TK ?nA_TK ?nK_TK ?a_tok_init ?i_tok_init ?l_tok_init ?b_tok_init ?k_tok_init ?a_tok_step ?i_tok_step ?l_tok_step ?b_tok_step ?k_tok_step ?a_tok_skip ?i_tok_skip ?l_tok_skip ?b_tok_skip ?k_tok_skip ?a_tok_skip_number ?i_tok_skip_number ?l_tok_skip_number ?b_tok_skip_number ?k_tok_skip_number
    (case hR_read_number => rfl)
    (case hv => exact List.mem_cons_self)
    (case a_is_whole => k_is)
    (case l_is_whole => k_is)
    (case b_is_whole => k_is)
    (case k_is_whole => k_is)
    (case a_show_number => k_is)
    (case l_show_number => k_is)
    (case b_show_number => k_is)
    (case k_show_number => k_is)
    (case a_read_number => k_is)
    (case l_read_number => k_is)
    (case b_read_number => k_is)
    (case k_read_number => k_is)
    (case a_is_variable => k_is)
    (case l_is_variable => k_is)
    (case b_is_variable => k_is)
    (case k_is_variable => k_is)
    (case a_is_word => k_is)
    (case l_is_word => k_is)
    (case b_is_word => k_is)
    (case k_is_word => k_is)
    (case a_wanted_parts => k_is)
    (case l_wanted_parts => k_is)
    (case b_wanted_parts => k_is)
    (case k_wanted_parts => k_is)
    (case a_parts_in => k_is)
    (case l_parts_in => k_is)
    (case b_parts_in => k_is)
    (case k_parts_in => k_is)
    (case a_read_variable => k_is)
    (case l_read_variable => k_is)
    (case b_read_variable => k_is)
    (case k_read_variable => k_is)
    (case a_show_expression => k_is)
    (case l_show_expression => k_is)
    (case b_show_expression => k_is)
    (case k_show_expression => k_is)
    (case a_begin => k_is)
    (case l_begin => k_is)
    (case b_begin => k_is)
    (case k_begin => k_is)
    (case a_go_on => k_is)
    (case l_go_on => k_is)
    (case b_go_on => k_is)
    (case k_go_on => k_is)
    (case a_read_expression => k_is)
    (case l_read_expression => k_is)
    (case b_read_expression => k_is)
    (case k_read_expression => k_is)
    (case a_l_draw => k_is)
    (case l_l_draw => k_is)
    (case b_l_draw => k_is)
    (case k_l_draw => k_is)
    (case a_l_take => k_is)
    (case l_l_take => k_is)
    (case b_l_take => k_is)
    (case k_l_take => k_is)
    (case a_l_expression => k_is)
    (case l_l_expression => k_is)
    (case b_l_expression => k_is)
    (case k_l_expression => k_is)
    (case a_l_tokens => k_is)
    (case l_l_tokens => k_is)
    (case b_l_tokens => k_is)
    (case k_l_tokens => k_is)
    (case a_l_plain => k_is)
    (case l_l_plain => k_is)
    (case b_l_plain => k_is)
    (case k_l_plain => k_is)
    (case a_l_error => k_is)
    (case l_l_error => k_is)
    (case b_l_error => k_is)
    (case k_l_error => k_is)
    (case a_l_wrong => k_is)
    (case l_l_wrong => k_is)
    (case b_l_wrong => k_is)
    (case k_l_wrong => k_is)
    (case a_law => k_is)
    (case l_law => k_is)
    (case b_law => k_is)
    (case k_law => k_is)
    (case lc_read_number => k_is)
    (case lv_read_number => exact rfl)
    (case nt_read_number => first | exact rfl | decide +kernel)
    (case z_isinstance => k_is)
    (case z_int => k_is)
    (case z_bool => k_is)
    (case z_tuple => k_is)
    (case z_str => k_is)
    (case z_abs => k_is)
    (case z_all => k_is)
    (case z_len => k_is)
    (case z_list => k_is)
    (case z_range => k_is)
    (case z_max => k_is)
    (case z_divmod => k_is)
    (case g__GREATEST_VARIABLE => k_is)
    (case v__GREATEST_VARIABLE => exact ⟨_, rfl⟩)
    (case g__PART_DIGITS => k_is)
    (case v__PART_DIGITS => exact ⟨_, rfl⟩)
    (case g_PARTS => k_is)
    (case l_PARTS => k_is)
    (case kl_PARTS => first | exact ⟨⟨_, _, rfl, rfl⟩, ⟨_, _, rfl, rfl⟩, ⟨_, _, rfl, rfl⟩, ⟨_, _, rfl, rfl⟩, ⟨_, _, rfl, rfl⟩, ⟨_, _, rfl, rfl⟩, ⟨_, _, rfl, rfl⟩, ⟨_, _, rfl, rfl⟩, ⟨_, _, rfl, rfl⟩, ⟨_, _, rfl, rfl⟩, True.intro⟩ | k_is)
    (case lo_PARTS => first | exact rfl | decide +kernel | k_is)
    (case w_yes => k_is)
    (case w_no => k_is)
    (case w_not => k_is)
    (case w_and => k_is)
    (case w_or => k_is)
    (case w_xor => k_is)
    (case w_iff => k_is)
    (case w_implies => k_is)
    (case w_if => k_is)
    (case w_atmost => k_is)
    (case w_var => k_is)
    (case w_nor => k_is)
    (case n_x0 => k_is)
    (case n_x1000 => k_is)
    (case n_x => k_is)
    (case n_x01 => k_is)
    (case n_rb => k_is)
    (case n_cm => k_is)
    (case n_em => k_is)
    (case n_sc => k_is)
    (case n_X1 => k_is)
    (case g_EE => first | k_is | rfl | k_exc | ks_is | decide +kernel)
    (case x_EE => first | k_is | rfl | k_exc | ks_is | decide +kernel)
    (case sa_EE => first | k_is | rfl | k_exc | ks_is | decide +kernel)
    (case ga_EE => first | k_is | rfl | k_exc | ks_is | decide +kernel)
    (case gg_EE => first | k_is | rfl | k_exc | ks_is | decide +kernel)
    (case nN_EE => first | k_is | rfl | k_exc | ks_is | decide +kernel)
    (case i_EE => first | k_is | rfl | k_exc | ks_is | decide +kernel)
    (case t_EE => first | k_is | rfl | k_exc | ks_is | decide +kernel)
    (case kp_EE => first | k_is | rfl | k_exc | ks_is | decide +kernel)
    (case b0_EE => first | k_is | rfl | k_exc | ks_is | decide +kernel)
    (case v0_EE => first | k_is | rfl | k_exc | ks_is | decide +kernel)
    (case ty_EE => first | k_is | rfl | k_exc | ks_is | decide +kernel)
    (case hd_EE => first | k_is | rfl | k_exc | ks_is | decide +kernel)
    (case ic_EE => first | k_is | rfl | k_exc | ks_is | decide +kernel)
    (case s0_EE => first | k_is | rfl | k_exc | ks_is | decide +kernel)
    (case up_EE => first | k_is | rfl | k_exc | ks_is | decide +kernel)
    (case own_EE => first | k_is | rfl | k_exc | ks_is | decide +kernel)
    (case op_EE => first | k_is | rfl | k_exc | ks_is | decide +kernel)
    (case z_super => k_is)
    (case top_EE => first | k_is | rfl | k_exc | ks_is | decide +kernel)
    (case l_EE => first | k_is | rfl | k_exc | ks_is | decide +kernel)
    (case c_EE => first | k_is | rfl | k_exc | ks_is | decide +kernel)
    (case lc_EE => first | k_is | rfl | k_exc | ks_is | decide +kernel)
    (case lv_EE => exact rfl)
    (case fl_EE => first | k_is | rfl | k_exc | ks_is | decide +kernel)
    (case lcc_EE => first | k_is | rfl | k_exc | ks_is | decide +kernel)
    (case g_TK => first | k_is | rfl | k_exc | ks_is | decide +kernel)
    (case pg_TK => first | k_is | rfl | k_exc | ks_is | decide +kernel)
    (case hd_TK => first | k_is | rfl | k_exc | ks_is | decide +kernel)
    (case po_TK => first | k_is | rfl | k_exc | ks_is | decide +kernel)
    (case sa_TK => first | k_is | rfl | k_exc | ks_is | decide +kernel)
    (case mk_TK => first | k_is | rfl | k_exc | ks_is | decide +kernel)
    (case kc_TK => first | k_is | rfl | k_exc | ks_is | decide +kernel)
    (case nT_TK => first | k_is | rfl | k_exc | ks_is | decide +kernel)
    (case nA_TK => first | k_is | rfl | k_exc | ks_is | decide +kernel)
    (case nK_TK => first | k_is | rfl | k_exc | ks_is | decide +kernel)
    (case a_tok_init => first | k_is | rfl | k_exc | ks_is | decide +kernel)
    (case i_tok_init => first | k_is | rfl | k_exc | ks_is | decide +kernel)
    (case l_tok_init => first | k_is | rfl | k_exc | ks_is | decide +kernel)
    (case b_tok_init => first | k_is | rfl | k_exc | ks_is | decide +kernel)
    (case k_tok_init => first | k_is | rfl | k_exc | ks_is | decide +kernel)
    (case a_tok_step => first | k_is | rfl | k_exc | ks_is | decide +kernel)
    (case i_tok_step => first | k_is | rfl | k_exc | ks_is | decide +kernel)
    (case l_tok_step => first | k_is | rfl | k_exc | ks_is | decide +kernel)
    (case b_tok_step => first | k_is | rfl | k_exc | ks_is | decide +kernel)
    (case k_tok_step => first | k_is | rfl | k_exc | ks_is | decide +kernel)
    (case a_tok_skip => first | k_is | rfl | k_exc | ks_is | decide +kernel)
    (case i_tok_skip => first | k_is | rfl | k_exc | ks_is | decide +kernel)
    (case l_tok_skip => first | k_is | rfl | k_exc | ks_is | decide +kernel)
    (case b_tok_skip => first | k_is | rfl | k_exc | ks_is | decide +kernel)
    (case k_tok_skip => first | k_is | rfl | k_exc | ks_is | decide +kernel)
    (case a_tok_skip_number => first | k_is | rfl | k_exc | ks_is | decide +kernel)
    (case i_tok_skip_number => first | k_is | rfl | k_exc | ks_is | decide +kernel)
    (case l_tok_skip_number => first | k_is | rfl | k_exc | ks_is | decide +kernel)
    (case b_tok_skip_number => first | k_is | rfl | k_exc | ks_is | decide +kernel)
    (case k_tok_skip_number => first | k_is | rfl | k_exc | ks_is | decide +kernel)

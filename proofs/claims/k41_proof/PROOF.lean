import PyProof.Rows.All
import Wide.All
import OpenK.AllK
import Wide.FinOn
import HandS.ForMost
import HandS.AnyAll
import HandS.EndTab
import HandS.Style
import HandS.Gcd
import HandS.Wide
import HandS.StrMore
import HandS.Evl
import KE.KNest
import HandS.GenList
import PyProof.GenArm
import KE.SortKeyHeap
import KE.SortData
import KE.DataCmp
import HandS.SortKw
import HandS.DictComp
import HandS.Conv
import HandS.SetBool
import HandS.Strs
import HandS.IsInst
import HandS.More
import HandS.TupLe
import HandS.TupAny
import HandS.SetFor
import PyProof.Rows.SortShellAny
import PyProof.Rows.SortStr
import PyProof.CollectIter
import PyProof.TupleIter
import HandS.ExcValue
import HandS.Deep
import KE.LtData
import PyProof.SumAnyB
import KE.KDictList
import HandS.DictTup
import HandS.ExcOwn
import HandS.WordsExc
import HandS.TryOnly
import HandS.Small
import PyProof.P3In
import PySem.Challenge.RW_countsworn_k41_formulas_changed
set_option Elab.async false
set_option linter.all false
set_option maxRecDepth 100000
set_option maxHeartbeats 4000000
namespace Ky
open PySem PySem.Spec PyProof.Rows L2
/-! ### what stays -/
def NoTab (o : HO) : Prop := ∀ ps, o ≠ HO.tbl ps
theorem noTab_tup {xs : List V} : NoTab (.tup xs) := fun ps e => by cases e
theorem noTab_lst {xs : List V} : NoTab (.lst xs) := fun ps e => by cases e
/-- the cells to draw from, at d -/
def Drw (K : PySem.W.Frag) (H : Hp) (d : Addr) : Prop := ∃ (c : Addr) (ns : List Int) (a u z : Int),
  H d = some (.lst [.ref c, .int a, .int u, .int z]) ∧ H c = some (.lst (ns.map V.int)) ∧ -1 ≤ a
theorem Drw.ne {K : PySem.W.Frag} {H : Hp} {d : Addr} (h : Drw K H d) : ∃ xs, H d = some (.lst xs) := by
  obtain ⟨c, ns, a, u, z, h1, _⟩ := h
  exact ⟨_, h1⟩
structure Kept (H H' : Hp) : Prop where
  keep : ∀ b o, NoTab o → H b = some o → H' b = some o
  tab : ∀ P, GxR.TabG H P → GxR.TabG H' P
  free : ∀ b, H' b = none → H b = none
structure KeptD (K : PySem.W.Frag) (d : Addr) (H H' : Hp) : Prop where
  keep : ∀ b o, b ≠ d → NoTab o → H b = some o → H' b = some o
  drw : Drw K H d → Drw K H' d
  tab : ∀ P, GxR.TabG H P → GxR.TabG H' P
  free : ∀ b, H' b = none → H b = none
theorem Kept.refl (H : Hp) : Kept H H := ⟨fun _ _ _ h => h, fun _ h => h, fun _ h => h⟩
theorem Kept.trans {H H1 H2 : Hp} (a : Kept H H1) (b : Kept H1 H2) : Kept H H2 := ⟨fun c o n h => b.keep c o n (a.keep c o n h), fun P h => b.tab P (a.tab P h), fun c h => a.free c (b.free c h)⟩
theorem KeptD.refl {K : PySem.W.Frag} {d : Addr} (H : Hp) : KeptD K d H H := ⟨fun _ _ _ _ h => h, fun h => h, fun _ h => h, fun _ h => h⟩
theorem KeptD.trans {K : PySem.W.Frag} {d : Addr} {H H1 H2 : Hp} (a : KeptD K d H H1) (b : KeptD K d H1 H2) : KeptD K d H H2 :=
  ⟨fun c o n m h => b.keep c o n m (a.keep c o n m h), fun h => b.drw (a.drw h), fun P h => b.tab P (a.tab P h), fun c h => a.free c (b.free c h)⟩
theorem Kept.toD {K : PySem.W.Frag} {d : Addr} {H H' : Hp} (a : Kept H H') : KeptD K d H H' := ⟨fun b o _ n h => a.keep b o n h, fun h => by
  obtain ⟨c, ns, i, u, z, h1, h2, h3⟩ := h
  exact ⟨c, ns, i, u, z, a.keep _ _ noTab_lst h1, a.keep _ _ noTab_lst h2, h3⟩, a.tab, a.free⟩
theorem upd_free {H : Hp} {p b : Addr} {o : HO} (h : upd H p o b = none) : H b = none ∧ b ≠ p := by
  by_cases z : b = p
  · rw [z, upd_same] at h
    cases h
  · rw [upd_ne z] at h
    exact ⟨h, z⟩
theorem Kept.new {H : Hp} {p : Addr} {o : HO} (h : H p = none) : Kept H (upd H p o) := ⟨fun a u _ e => by
  rw [upd_ne (ne_of_none e h)]
  exact e, fun P hP => by
  obtain ⟨ps, h1, h2⟩ := hP
  exact ⟨ps, by rw [upd_ne (ne_of_none h1 h)]; exact h1, h2⟩, fun b hb => (upd_free hb).1⟩
theorem Kept.mut {H H' : Hp} {p : Addr} {o : HO} (e : Kept H H') (h : H p = none) : Kept H (upd H' p o) := ⟨fun a u n ha => by
  rw [upd_ne (ne_of_none ha h)]
  exact e.keep a u n ha, fun P hP => by
  obtain ⟨ps, h1, h2⟩ := hP
  have nP := ne_of_none h1 h
  obtain ⟨qs, g1, g2⟩ := e.tab P ⟨ps, h1, h2⟩
  exact ⟨qs, by rw [upd_ne nP]; exact g1, g2⟩, fun b hb => e.free b (upd_free hb).1⟩
theorem Kept.tabbed {H H' : Hp} {P : Addr} (hP : GxR.TabG H P) (e : GxR.Tabbed P H H') : Kept H H' := ⟨fun b o n h => by
  have nP : b ≠ P := fun z => by
    obtain ⟨ps, h1, _⟩ := hP
    rw [z, h1] at h
    exact n ps (Option.some.inj h).symm
  rw [e.2 b nP]
  exact h, fun P' h' => by
  by_cases z : P' = P
  · rw [z]
    exact e.1
  · obtain ⟨ps, h1, h2⟩ := h'
    exact ⟨ps, by rw [e.2 P' z]; exact h1, h2⟩, fun b h => by
  by_cases z : b = P
  · obtain ⟨ps, h1, _⟩ := e.1
    rw [z, h1] at h
    cases h
  · rw [e.2 b z] at h
    exact h⟩
theorem Kept.sq {K : PySem.W.Frag} {H H' : Hp} {a : Addr} {xs : List V} (e : Kept H H') (h : SqL K H a xs) : SqL K H' a xs := by
  rcases h with (h | ⟨o, h⟩) | h
  · exact .inl (.inl (e.keep _ _ noTab_lst h))
  · exact .inl (.inr ⟨o, e.keep _ _ (fun ps z => by cases z) h⟩)
  · exact .inr h
theorem Kept.tup {H H' : Hp} {p : Addr} {xs : List V} (e : Kept H H') (h : H p = some (.tup xs)) : H' p = some (.tup xs) := e.keep _ _ noTab_tup h
theorem Kept.lst {H H' : Hp} {p : Addr} {xs : List V} (e : Kept H H') (h : H p = some (.lst xs)) : H' p = some (.lst xs) := e.keep _ _ noTab_lst h
theorem KeptD.tup {K : PySem.W.Frag} {d : Addr} {H H' : Hp} {p : Addr} {xs : List V} (e : KeptD K d H H') (hd : Drw K H d) (h : H p = some (.tup xs)) : H' p = some (.tup xs) := e.keep _ _ (fun z => by
  obtain ⟨ys, h'⟩ := hd.ne
  rw [z, h'] at h
  cases h) noTab_tup h
theorem KeptD.lst {K : PySem.W.Frag} {d : Addr} {H H' : Hp} {p : Addr} {xs : List V} (e : KeptD K d H H') (hd : p ≠ d) (h : H p = some (.lst xs)) : H' p = some (.lst xs) := e.keep _ _ hd noTab_lst h
/-! ### a def of the module, to be called -/
structure Df (P : Program) (w : World) (K : PySem.W.Frag) (mg : Str → Option Value) (base : Heap) (k : Nat) (x : Str) (ps : List Str) (sp : Sp) : Prop where
  ex : ∃ f fd, FnOk P w K mg base CX0 k f fd ps sp ∧ mg x = some (.ref f) ∧ PySem.W.keepIn K (.ref f) = true ∧ Binds K fd ps []
section
variable {X : Cx} {k : Nat} {ps : List Str} {sp : Sp} {x : Str} {p pos : Pos} {e : Expr} {es : List Expr} {t : TA}
theorem pe_df (D : Df X.prog X.w X.K X.mg X.base k x ps sp) (hr : Room k X.A) (hg : Gl X x) (ha : PA X (e :: es) t) (hdb : (x == ("__debug__" : Str)) = false := by decide)
    (he : starEach (e :: es) X.env = (false, eval e X.env) :: starEach es X.env := by rfl) (hpl : (backTo pos (starEach es X.env)).any (·.1) = false := by rfl) :
    PE X (.Call (.Name x p) (e :: es) [] pos) (tCall sp [] E0 t) := by
  obtain ⟨f, fd, F, hm, hk, hb⟩ := D.ex
  exact pe_call F hr hg hm hk hb .nil pass0 ha hdb he hpl
end
/-! ### a def whose code object is told -/
structure FunC (K : PySem.W.Frag) (x : Str) (st : Stmt) (f : Addr) (fd : FuncData) (c : Addr) : Prop where
  ex : ∃ (oc : Value) (od : Option Addr) (kV doc pm : Value) (an : Option Addr) (ct : Value) (osl : Array (Option Value)),
    fd = PySem.W.fnOf x x (defArgs st) (defBody st) (defScope st) .none kV doc pm an (.ref c) ct ∧ K.lookup f = some ⟨oc, od, .func fd, osl⟩ ∧ PySem.W.codeIn K (.ref c) x = true
theorem FunC.ok {P : Program} {w : World} {K : PySem.W.Frag} {mg : Str → Option Value} {base : Heap} {x : Str} {st : Stmt} {f c : Addr} {fd : FuncData} {N ps : List Str} {k : Nat} {sp : Sp} (F : FunC K x st f fd c) (S : FnScope N ps (defScope st)) (len : ∀ vs H Q E, sp vs H Q E → vs.length = ps.length)
    (body : ∀ (A : Around) (outer : List Env) (s : Shared) (H : Hp) (vs : List V) (Q : VK) (E : XK), Room k (A.deeper (envOfC x (defScope st) s.heap.objs.size f (.ref c))) → sp vs H Q E →
      ∃ t, PSs (cxOf CX0 P w K mg base N x (defScope st) f (.ref c) A outer s H E).nox (defBody st) t ∧ t { nx := fun _ H' => Q .non H', rt := Q } (start N vs) H) : FnOk P w K mg base CX0 (k + 1) f fd ps sp := by
  obtain ⟨oc, od, kV, doc, pm, an, ct, osl, e, lk, hcd⟩ := F.ex
  subst e
  refine fn_of lk hcd S len fun A outer s H vs Q E hr hsp => ?_
  obtain ⟨t, h, q⟩ := body A outer s H vs Q E hr hsp
  exact ⟨t, h.nox, q⟩
/-- one sign among those of a written text, as the test of a generator expression -/
theorem elt_in {prog : Program} {w : World} {scope : Scope} {x k : Str} {j : Nat} {p1 p2 p3 : Pos} (hk : scope.kind = .function) (hl : scope.names.lookup x = some .local) (hd : (x == ("__debug__" : Str)) = false := by decide) :
    GxR.EltP prog w scope x (.Compare (.Name x p1) [.In] [.Constant (.str k) j p2] p3) (fun c => decide (c ∈ k.cps.toList)) := by
  intro cenv A' E' c t s2 m2 hs hn hm
  refine wpAny_Compare1 ?_
  refine wpAny_Name (wpAny_loadName_local (by rw [hs]; exact hk) (show cenv.scope.names.lookup x = some .local by rw [hs]; exact hl) hn hm ?_) hd
  refine Calls.Constant_str ?_
  exact PyProof.Rows.in_str ⟨congrArg Value.bool (PySem.StrLaws.found_one k c), GxR.keeps_tok _ _⟩
/-! ### // by any divisor but 0 -/
section
variable {X : Cx}
def CDivA (_ j : Int) : Prop := j ≠ 0 ∧ j.natAbs.log2 < 9000
theorem op_fdivA : OpR X (binaryOp .FloorDiv) (rI CDivA fun i j => .int (i.fdiv j)) := opI fun i j _ _ _ _ _ hc q =>
  floordiv_int hc.1 q (.inl (PyProof.noPylong_of_log2 hc.2))
theorem divA {i j : Int} {b : Nat} (h : j ≠ 0) (hb : j.natAbs < 2 ^ b) (h0 : 0 < b) (h9 : b ≤ 9000) : CDivA i j := ⟨h, Nat.lt_of_lt_of_le (PySem.Flt.log2_lt_of h0 hb) h9⟩
end
/-! ### one step of a reading -/
section
variable {σ σ' : L2.St} {H : Hp} {Q : VK} {D : Ends} {ta tb te : TE} {t u c : TT} {tq : TA} {s1 s2 : TS} {K : PySem.W.Frag} {v x y : V} {i : Nat} {G : TG}
theorem w_seq (q : s1 { nx := s2 D, rt := D.rt, bk := D.bk, ct := D.ct } σ H) : tSeq s1 s2 D σ H := q
theorem w_next (q : D.nx σ H) : tNext D σ H := q
theorem w_asg (q : te σ H fun v H1 => D.nx (σ.set i (some v)) H1) : tAsg te (gName i) D σ H := q
theorem w_asgG (q : te σ H fun v H1 => G v σ H1 D.nx) : tAsg te G D σ H := q
theorem w_drop (q : te σ H fun _ H1 => D.nx σ H1) : tDrop te D σ H := q
theorem w_ret (q : te σ H D.rt) : tRet te D σ H := q
theorem w_ifs (q : c σ H fun b H1 => if b = true then s1 D σ H1 else s2 D σ H1) : tIfS c s1 s2 D σ H := q
theorem w_var (h : σ[i]? = some (some v)) (q : Q v H) : tVar i σ H Q := ⟨v, h, q⟩
theorem w_c (q : Q v H) : tC v σ H Q := q
theorem w_op {r : R2} (q : ta σ H fun x H1 => tb σ H1 fun y H2 => r x y H2 Q) : tOp r ta tb σ H Q := q
theorem w_un {r : V → Hp → VK → Prop} (q : ta σ H fun x H1 => r x H1 Q) : tUn r ta σ H Q := q
theorem w_I0 {g : Int → Int → V} {i j : Int} (q : Q (g i j) H) : rI0 g (.int i) (.int j) H Q := ⟨i, j, rfl, rfl, q⟩
theorem w_I {C : Int → Int → Prop} {g : Int → Int → V} {i j : Int} (h : C i j) (q : Q (g i j) H) : rI C g (.int i) (.int j) H Q := ⟨i, j, rfl, rfl, h, q⟩
theorem w_U {g : Int → V} {i : Int} (q : Q (g i) H) : rU g (.int i) H Q := ⟨i, rfl, q⟩
theorem w_nil {R : List V → Hp → Prop} (q : R [] H) : tNil σ H R := q
theorem w_cons {R : List V → Hp → Prop} (q : te σ H fun x H1 => tq σ H1 fun xs H2 => R (x :: xs) H2) : tCons te tq σ H R := q
theorem w_call {sp : Sp} {dvs : List V} {E : XK} (q : tq σ H fun vs H1 => sp (vs ++ dvs) H1 Q E) : tCall sp dvs E tq σ H Q := q
theorem w_cb {r : List V → Hp → VK → Prop} (q : tq σ H fun vs H1 => r vs H1 Q) : tCB r tq σ H Q := q
theorem w_test {R : Bool → Hp → Prop} (q : te σ H fun x H' => ∃ k, x = .bl k ∧ R k H') : tTest te σ H R := q
theorem w_B {R : Bool → Hp → Prop} (q : te σ H fun x H' => ∃ k, x = .bl k ∧ R k H') : tB te σ H R := q
theorem w_bl {R : Bool → Prop} {b : Bool} (q : R b) : ∃ k, V.bl b = .bl k ∧ R k := ⟨b, rfl, q⟩
theorem w_and {R : Bool → Hp → Prop} (q : t σ H fun b H1 => if b = true then u σ H1 R else R false H1) : tAnd t u σ H R := q
theorem w_or {R : Bool → Hp → Prop} (q : t σ H fun b H1 => if b = true then R true H1 else u σ H1 R) : tOr t u σ H R := q
theorem w_not {R : Bool → Hp → Prop} (q : t σ H fun b H1 => R (!b) H1) : tNot t σ H R := q
theorem w_ife (q : t σ H fun b H1 => if b = true then ta σ H1 Q else tb σ H1 Q) : tIf t ta tb σ H Q := q
theorem w_ixT {p : Addr} {xs : List V} {i : Int} (h : H p = some (.tup xs)) (ha : atI xs i = some v) (q : Q v H) : rIxT K (.ref p) (.int i) H Q := ⟨p, xs, i, v, rfl, rfl, SqT.of h, ha, q⟩
theorem w_ixL {p : Addr} {xs : List V} {i : Int} (h : H p = some (.lst xs)) (ha : atI xs i = some v) (q : Q v H) : rIxL K (.ref p) (.int i) H Q := ⟨p, xs, i, v, rfl, rfl, SqL.of h, ha, q⟩
theorem w_eq (h : scal x y = true) (q : Q (.bl (decide (x = y))) H) : rEq x y H Q := ⟨h, q⟩
theorem w_ne (h : scal x y = true) (q : Q (.bl (!decide (x = y))) H) : rNe x y H Q := ⟨h, q⟩
theorem w_tup (q : tq σ H fun xs H1 => xs.length ≤ sizeLine ∧ ∀ p, H1 p = none → Q (.ref p) (upd H1 p (.tup xs))) : tTup tq σ H Q := q
theorem w_lst (q : tq σ H fun xs H1 => xs.length ≤ sizeLine ∧ ∀ p, H1 p = none → Q (.ref p) (upd H1 p (.lst xs))) : tLst tq σ H Q := q
theorem w_bm {T : String} {r : V → List V → Hp → VK → Prop} (q : te σ H fun x H1 => tyV K T x H1 ∧ tq σ H1 fun xs H2 => r x xs H2 Q) : tBM K T r te tq σ H Q := q
theorem w_m1 {r : V → List V → Hp → VK → Prop} (q : ta σ H fun x H1 => (∃ a, x = .str a) ∧ tb σ H1 fun y H2 => r x [y] H2 Q) : tM1 r ta tb σ H Q := q
theorem w_tyL {A : Prop} {l : Addr} {xs : List V} (h : H l = some (.lst xs)) (q : A) : tyV K "list" (.ref l) H ∧ A := ⟨.inl ⟨rfl, _, SqL.of h⟩, q⟩
theorem w_tyS {A : Prop} {z : Str} (q : A) : tyV K "str" (.str z) H ∧ A := ⟨rfl, q⟩
theorem w_isS {A : Prop} {z : Str} (q : A) : (∃ a, V.str z = .str a) ∧ A := ⟨⟨_, rfl⟩, q⟩
theorem w_app {l : Addr} {xs : List V} (h : H l = some (.lst xs)) (hl : xs.length < sizeLine) (q : Q .non (upd H l (.lst (xs ++ [y])))) : rAppend (.ref l) [y] H Q := ⟨l, xs, y, rfl, rfl, h, hl, q⟩
theorem w_gn {R : L2.St → Hp → Prop} (q : R (σ.set i (some v)) H) : gName i v σ H R := q
theorem w_gsub {ts : TSet} {R : L2.St → Hp → Prop} (q : ta σ H fun o H1 => tb σ H1 fun i H2 => ts o i v H2 fun H3 => R σ H3) : gSub ta tb ts v σ H R := q
theorem w_setL {p : Addr} {xs : List V} {k : Int} {j : Nat} {R : Hp → Prop} (h : H p = some (.lst xs)) (hj : ixN xs.length k = some j) (q : R (upd H p (.lst (xs.set j v)))) : rSetL (.ref p) (.int k) v H R := ⟨p, xs, k, j, rfl, rfl, h, hj, q⟩
theorem w_yes {R : Bool → Hp → Prop} (q : R true H) : tYes σ H R := q
theorem w_sl {r : V → Option Int → Option Int → Hp → VK → Prop} {tl th : TO} (q : te σ H fun x H1 => tl σ H1 fun l H2 => th σ H2 fun u H3 => r x l u H3 Q) : tSl r te tl th σ H Q := q
theorem w_part {R : Option Int → Hp → Prop} (q : te σ H fun x H1 => ∃ i, x = .int i ∧ R (some i) H1) : tPart te σ H R := q
theorem w_nop {R : Option Int → Hp → Prop} (q : R none H) : tNoPart σ H R := q
theorem w_isI {R : Int → Prop} {n : Int} (q : R n) : ∃ i, V.int n = .int i ∧ R i := ⟨n, rfl, q⟩
theorem if_t {A B : Prop} {b : Bool} (h : b = true) (q : A) : if b = true then A else B := by rw [if_pos h]; exact q
theorem if_f {A B : Prop} {b : Bool} (h : b = false) (q : B) : if b = true then A else B := by rw [h]; exact iteF q
end
local macro_rules | `(tactic| walk_at "rd") => `(tactic| repeat (first
  | with_reducible refine w_seq ?_
  | with_reducible refine w_asg ?_
  | with_reducible refine w_ret ?_
  | with_reducible refine w_drop ?_
  | with_reducible refine w_ifs ?_
  | ((with_reducible refine' w_var ?hh ?_); (case hh => exact rfl))
  | with_reducible refine w_c ?_
  | with_reducible refine w_op ?_
  | with_reducible refine w_un ?_
  | with_reducible refine w_I0 ?_
  | with_reducible refine w_U ?_
  | with_reducible refine w_nil ?_
  | with_reducible refine w_cons ?_
  | with_reducible refine w_call ?_
  | with_reducible refine w_cb ?_
  | with_reducible refine w_test ?_
  | with_reducible refine w_B ?_
  | with_reducible refine w_bl ?_
  | with_reducible refine w_and ?_
  | with_reducible refine w_or ?_
  | with_reducible refine w_not ?_
  | with_reducible refine w_ife ?_
  | with_reducible refine w_tup ?_
  | with_reducible refine w_lst ?_
  | with_reducible refine w_next ?_
  | with_reducible refine w_bm ?_
  | with_reducible refine w_sl ?_
  | with_reducible refine w_part ?_
  | with_reducible refine w_nop ?_
  | with_reducible refine w_isI ?_
  | with_reducible refine w_yes ?_
  | with_reducible refine w_gn ?_
  | with_reducible refine w_gsub ?_
  | ((with_reducible refine' w_setL ?h1 ?h2 ?_); (case h1 => first | assumption | exact upd_same); (case h2 => exact rfl))
  | with_reducible refine w_asgG ?_
  | with_reducible refine w_m1 ?_
  | with_reducible refine w_isS ?_
  | with_reducible refine w_tyS ?_
  | ((with_reducible refine' w_tyL ?h1 ?_); (case h1 => first | assumption | exact upd_same))
  | ((with_reducible refine' w_ixT ?h1 ?h2 ?_); (case h1 => first | assumption | exact upd_same); (case h2 => exact rfl))
  | ((with_reducible refine' w_ixL ?h1 ?h2 ?_); (case h1 => first | assumption | exact upd_same); (case h2 => exact rfl))
  | ((with_reducible refine w_eq ?h1 ?_); (case h1 => exact rfl))
  | ((with_reducible refine w_ne ?h1 ?_); (case h1 => exact rfl))
  | dsimp only [List.set_cons_zero, List.set_cons_succ, List.append_nil, List.cons_append, List.nil_append, cxOf]))
/-! ### the law's own draws -/
/-- only the list at d has changed, and it is still cells, a place, a rest, a mixed row -/
def TakeSt (H : Hp) (c d : Addr) (H' : Hp) : Prop := (∀ b, b ≠ d → H' b = H b) ∧ ∃ a u z : Int, H' d = some (.lst [.ref c, .int a, .int u, .int z]) ∧ -1 ≤ a
theorem TakeSt.upd {H H' : Hp} {c d : Addr} {a u z : Int} (h : TakeSt H c d H') (ha : -1 ≤ a) : TakeSt H c d (L2.upd H' d (.lst [.ref c, .int a, .int u, .int z])) :=
  ⟨fun b hb => by rw [upd_ne hb]; exact h.1 b hb, a, u, z, upd_same, ha⟩
theorem TakeSt.kept {K : PySem.W.Frag} {H H' : Hp} {c d : Addr} {ns : List Int} {xs : List V} (h : TakeSt H c d H') (hd : H d = some (.lst xs)) (hc : H c = some (.lst (ns.map V.int))) (ne : c ≠ d) : KeptD K d H H' := by
  obtain ⟨h1, a, u, z, h2, h3⟩ := h
  refine ⟨fun b o hb _ q => by rw [h1 b hb]; exact q, fun _ => ⟨c, ns, a, u, z, h2, by rw [h1 c ne]; exact hc, h3⟩, fun P hP => ?_, fun b q => ?_⟩
  · obtain ⟨ps, p1, p2⟩ := hP
    have : P ≠ d := fun e => by
      rw [e, hd] at p1
      cases p1
    exact ⟨ps, by rw [h1 P this]; exact p1, p2⟩
  · by_cases e : b = d
    · rw [e, h2] at q
      cases q
    · rw [h1 b e] at q
      exact q
def spTake (K : PySem.W.Frag) : Sp := fun vs H Q _ => ∃ (d : Addr) (m : Int), vs = [.ref d, .int m] ∧ 0 < m ∧ m < 2 ^ 62 ∧ Drw K H d ∧ ∀ (r : Int) H', 0 ≤ r → r < m → KeptD K d H H' → Q (.int r) H'
def spDraw (K : PySem.W.Frag) : Sp := fun vs H Q _ => ∃ (a : Addr) (ns : List Int), vs = [.ref a] ∧ SqL K H a (ns.map V.int) ∧ ns.length ≤ 63 ∧ ∀ d H', H d = none → Kept H H' → Drw K H' d → Q (.ref d) H'
theorem pick_int {ns : List Int} {r : Int} (h0 : 0 ≤ r) (h1 : r < (ns.length : Int)) : ∃ v ∈ ns, atI (ns.map V.int) r = some (V.int v) := by
  obtain ⟨j, rfl⟩ : ∃ j : Nat, r = (j : Int) := ⟨r.toNat, by omega⟩
  have hj : j < ns.length := by omega
  refine ⟨ns[j], List.getElem_mem hj, atI_nat ?_⟩
  rw [List.getElem?_map, List.getElem?_eq_getElem hj]
  rfl
theorem map_int {ns : List Int} {i : Nat} {y : V} (h : (ns.map V.int)[i]? = some y) : ∃ u, y = V.int u ∧ ns[i]? = some u := by
  rw [List.getElem?_map] at h
  cases e : ns[i]? with
  | none =>
    rw [e] at h
    cases h
  | some u =>
    rw [e] at h
    exact ⟨u, (Option.some.inj h).symm, rfl⟩
/-! ### fractions -/
def frc (n d : Int) : Int × Int := (n.fdiv (if d < 0 then -((Nat.gcd n.natAbs d.natAbs : Nat) : Int) else ((Nat.gcd n.natAbs d.natAbs : Nat) : Int)),
  d.fdiv (if d < 0 then -((Nat.gcd n.natAbs d.natAbs : Nat) : Int) else ((Nat.gcd n.natAbs d.natAbs : Nat) : Int)))
def FrAt (H : Hp) (p : Addr) (a : Int × Int) : Prop := H p = some (.tup [.int a.1, .int a.2])
def Small (n : Nat) (a : Int × Int) : Prop := a.1.natAbs < 2 ^ n ∧ a.2.natAbs < 2 ^ n
def spFrac : Sp := fun vs H Q _ => ∃ n d : Int, vs = [.int n, .int d] ∧ d ≠ 0 ∧ n.natAbs < 2 ^ 1000 ∧ d.natAbs < 2 ^ 1000 ∧
  ∀ p H', H p = none → Kept H H' → FrAt H' p (frc n d) → Q (.ref p) H'
end Ky

namespace Ky
open PySem PySem.Spec PyProof.Rows L2
/-! ### a generator expression's frame -/
abbrev gxEnv (X : Cx) (s : Shared) (scope : Scope) (code : Value) : Env := genEnv scope (cloFrom X.env.cells scope.names []) s.heap.objs.size code builtinsNs X.env
abbrev gx (X : Cx) (A' : Around) (s : Shared) (H : Hp) (scope : Scope) (code : Value) (fp : List Addr) : Cx :=
  { X with A := A', s_0 := s, H_0 := H, env := gxEnv X s scope code, outer := X.stack, stack := gxEnv X s scope code :: X.stack, ex := fp, fn := fun _ => false, pn := [], xe := fun _ _ => False }
theorem over_gen {A : Around} {elt : Expr} {cs : List Comprehension} {sc : Scope} {pos : Pos} {it acc : Value} {env : Env} : A.over (.compLoop (.GeneratorExp elt cs sc pos) 0 it acc env) [] = A.deeper env := by
  first
    | rfl
    | (obtain ⟨hd, d, fr, gs, u⟩ := A; simp [Around.over, Around.deeper, marksOver, frameCount, unitsOf, envsOf, guardsOf, pushEnvs, pushGuards, Code.envs, Code.env?, Code.isFrame, Code.guards, Code.isGuard, Code.weight, Code.frames, Code.isCreation, Code.isCaller, Code.cUnits])
theorem over_gen0 {A : Around} {elt : Expr} {cs : List Comprehension} {sc : Scope} {pos : Pos} {it acc : Value} {env : Env} : A.over (.compStart (.GeneratorExp elt cs sc pos) 0 it acc env) [] = A.deeper env := by
  first
    | rfl
    | (obtain ⟨hd, d, fr, gs, u⟩ := A; simp [Around.over, Around.deeper, marksOver, frameCount, unitsOf, envsOf, guardsOf, pushEnvs, pushGuards, Code.envs, Code.env?, Code.isFrame, Code.guards, Code.isGuard, Code.weight, Code.frames, Code.isCreation, Code.isCaller, Code.cUnits])
section
variable {X : Cx} {pins : List (Addr × Obj)} {σ : L2.St} {H : Hp} {s : Shared}
theorem gx_start {A' : Around} {scope : Scope} {code : Value} {own : List (Str × Nat)} {fp : List Addr} {h' : Heap} {m : Str → Option Value} {g' : Array GenState} {t' : Nat} (I : Inv X pins σ H s) (ok : BlkOk X.N X.env.scope scope own) (hcell : ∀ y ∈ scope.names, y.2 ≠ .cell) (hN : X.N.Nodup)
    (hfp : ∀ b ∈ fp, FpOk X pins H b ∧ b < s.heap.objs.size) (hh : A'.handled = none) (hfr : A'.frames = some (gxEnv X s scope code :: X.stack)) (hn : h'.Ns s.heap.objs.size m) (kp : ∀ b o, s.heap.get? b = some o → h'.get? b = some o) (hg : AllBare g') :
    Inv (gx X A' s H scope code fp) [] (wipe σ (own.map (·.2))) H { s with heap := h', gens := g', toks := t' } := by
  have hfree : ∀ y ∈ scope.names, y.2 = .free → ∃ c, X.env.cells.lookup y.1 = some c := fun y hy e => by
    rcases ok.free y hy e with k | k
    · exact I.ok.has _ (.inl k)
    · exact I.ok.has _ (.inr k)
  have cm : ∀ {y c}, (cloFrom X.env.cells scope.names []).lookup y = some c → X.env.cells.lookup y = some c ∧ c < s.heap.objs.size := fun {y c} e => by
    rcases cloFrom_mem (PySem.mem_of_lookup e) with hm | ⟨h1, rfl⟩
    · cases hm
    · obtain ⟨c, hc⟩ := hfree _ h1 rfl
      rw [hc]
      obtain ⟨w, z⟩ := I.cell _ _ hc
      exact ⟨rfl, z.lt⟩
  have look : ∀ {y}, scope.names.lookup y = some .free → ∃ c, (cloFrom X.env.cells scope.names []).lookup y = some c ∧ X.env.cells.lookup y = some c := fun {y} hl => by
    have hy : (y, NameKind.free) ∈ scope.names := PySem.mem_of_lookup hl
    obtain ⟨c', e'⟩ := mem_lookup (cloFrom_has (cells := X.env.cells) (acc := []) hy)
    exact ⟨c', e', (cm e').1⟩
  have okB : (gx X A' s H scope code fp).Ok := by
    refine ⟨I.ok.mod, ok.kind, I.ok.glob, rfl, Nat.le_refl _, fun y z c e1 e2 => I.ok.inj y z c (cm e1).1 (cm e2).1, fun y hy => ?_, fun y c z e => absurd z Bool.false_ne_true, fun _ => hh, hfr, .inr ⟨rfl, rfl⟩, fun b hb => ⟨Nat.ne_of_lt (hfp b hb).2, fun y c e => (hfp b hb).1.2.2.2.2.1 y c (cm e).1⟩,
      I.bs, Nat.le_trans I.ok.bsz I.sz, fun b o e hb => ?_, fun b hb z => ?_, I.stack, I.stkFree⟩
    · rcases hy with hy | hy
      · exact absurd rfl (hcell _ (PySem.mem_of_lookup (show scope.names.lookup y = some .cell from hy)))
      · obtain ⟨c, h1, _⟩ := look (show scope.names.lookup y = some .free from hy)
        exact ⟨c, h1⟩
    · rcases (hfp b hb).1.2.2.2.1 with z | z
      · exact I.ok.noex b o e z
      · exact absurd (Nat.lt_of_lt_of_le (Heap.lt_size e) (Nat.le_trans I.ok.bsz z)) (Nat.lt_irrefl _)
    · rcases List.mem_cons.mp (I.stkSub b z) with z | z
      · exact (hfp b hb).1.2.1 z
      · exact (hfp b hb).1.2.2.1 z
  refine ⟨okB, rfl, hg, Un.kept kp, ⟨m, hn, fun i y av e1 e2 e3 => ?_⟩, fun y c e => ?_, I.hok.fresh (Nat.le_refl _), fun y c e => I.freeC y c (cm e).1, fun p hp => absurd (show p ∈ ([] : List (Addr × Obj)) ++ [] from hp) (by simp), I.hok.kept kp, by rw [wipe_length]; exact I.len⟩
  · obtain ⟨e2, hne⟩ := wipe_some e2
    have hfr : scope.names.lookup y = some .free := by
      have no : ∀ k', scope.names.lookup y = some k' → ¬ (k' = .local ∨ k' = .cell) := fun k' e hh => by
        rcases ok.own _ (PySem.mem_of_lookup e) hh with e' | e'
        · obtain ⟨p, hp, hpy⟩ := List.mem_map.mp e'
          have e3 := ok.ix p hp
          have : p.1 = y := hpy
          rw [this] at e3
          exact hne (List.mem_map.mpr ⟨p, hp, nodup_ix hN e3 e1⟩)
        · exact e' (List.mem_of_getElem? e1)
      have e3 : Vis scope y := e3
      rcases e3 with e3 | e3 | e3
      · exact absurd (.inl rfl) (no _ e3)
      · exact absurd (.inr rfl) (no _ e3)
      · exact e3
    obtain ⟨m, hn, hl⟩ := I.loc
    have hvis : Vis X.env.scope y := (ok.free _ (PySem.mem_of_lookup hfr) rfl).elim (fun k => .inr (.inl k)) (fun k => .inr (.inr k))
    obtain ⟨w, r, q⟩ := hl i y av e1 e2 hvis
    refine ⟨w, r, .inr ⟨.inr hfr, ?_⟩⟩
    obtain ⟨c, h1, h2⟩ := look hfr
    rcases q with ⟨k, _⟩ | ⟨_, c', e', z⟩
    · have k : X.env.scope.names.lookup y = some .local := k
      rcases ok.free _ (PySem.mem_of_lookup hfr) rfl with k' | k' <;> rw [show X.env.scope.names.lookup y = _ from k'] at k <;> cases k
    · rw [h2] at e'; cases e'
      exact ⟨c, h1, z.keeps kp⟩
  · obtain ⟨w, z⟩ := I.cell y c (cm e).1
    exact ⟨w, z.keeps kp⟩
end
end Ky
namespace Ky
open PySem PySem.Spec PyProof.Rows L2
theorem not_of_ne {b c : Bool} (h : ¬ b = c) : b = !c := by
  cases b <;> cases c <;> first | rfl | exact absurd rfl h
/-- what a generator expression of tests still does: cont: the answer that goes on (all: true, any: false) -/
def Live (X : Cx) (pins : List (Addr × Obj)) (σ : L2.St) (Q : VK) (cont : Bool) (a : Addr) : Nat → Shared → Prop
  | 0, s => ∀ (QQ : Option Value → Shared → Prop) (E : Value → Shared → Prop), (∀ s' H, Inv X pins σ H s' → Q (.bl (!cont)) H → QQ (some (.bool (!cont))) s') → (∀ s' H, Inv X pins σ H s' → Q (.bl cont) H → QQ none s') → wpAny (model X.prog X.w) X.A.in1 (pyNext (.ref a)) QQ E s
  | n + 1, s => ∀ (QQ : Option Value → Shared → Prop) (E : Value → Shared → Prop), (∀ s', Live X pins σ Q cont a n s' → QQ (some (.bool cont)) s') → (∀ s' H, Inv X pins σ H s' → Q (.bl (!cont)) H → QQ (some (.bool (!cont))) s') → (∀ s' H, Inv X pins σ H s' → Q (.bl cont) H → QQ none s') →
      wpAny (model X.prog X.w) X.A.in1 (pyNext (.ref a)) QQ E s
section
variable {X : Cx} {pins : List (Addr × Obj)} {σ : L2.St} {Q : VK} {a : Addr}
theorem live_all {R : Result → Shared → Prop} : ∀ (n : Nat) (s : Shared), Live X pins σ Q true a n s → (∀ s' H b, Inv X pins σ H s' → Q (.bl b) H → R (.ok (.ret (.bool b))) s') → codeAny (model X.prog X.w) X.A (.builtin "all.loop" ⟨[.ref a], []⟩) R s := by
  intro n
  induction n with
  | zero =>
    intro s h hR
    refine codeAny_builtin F.entry_all_loop ?_
    rw [Around.under_plainId F.plain_all_loop _]
    show wpAny _ X.A.in1 (pyNext (.ref a) >>= _) _ _ s
    refine wpAny_bind (h _ _ (fun s' H I q => ?_) fun s' H I q => ?_)
    · refine wpAny_bind (wpAny_holding (wpAny_truthy_bool ?_))
      refine wpAny_bind (wpAny_letGo ?_)
      simp only [Bool.not_true, Bool.false_eq_true, if_false]
      exact wpAny_bind (wpAny_rule (wpAny_pure (hR s' H _ I q)))
    · exact wpAny_bind (wpAny_rule (wpAny_pure (hR s' H _ I q)))
  | succ n ih =>
    intro s h hR
    refine codeAny_builtin F.entry_all_loop ?_
    rw [Around.under_plainId F.plain_all_loop _]
    show wpAny _ X.A.in1 (pyNext (.ref a) >>= _) _ _ s
    refine wpAny_bind (h _ _ (fun s' hl => ?_) (fun s' H I q => ?_) fun s' H I q => ?_)
    · refine wpAny_bind (wpAny_holding (wpAny_truthy_bool ?_))
      refine wpAny_bind (wpAny_letGo ?_)
      simp only [if_true]
      exact wpAny_pure ⟨plainId_quiet F.plain_all_loop _, ih s' hl hR⟩
    · refine wpAny_bind (wpAny_holding (wpAny_truthy_bool ?_))
      refine wpAny_bind (wpAny_letGo ?_)
      simp only [Bool.not_true, Bool.false_eq_true, if_false]
      exact wpAny_bind (wpAny_rule (wpAny_pure (hR s' H _ I q)))
    · exact wpAny_bind (wpAny_rule (wpAny_pure (hR s' H _ I q)))
theorem live_any {R : Result → Shared → Prop} : ∀ (n : Nat) (s : Shared), Live X pins σ Q false a n s → (∀ s' H b, Inv X pins σ H s' → Q (.bl b) H → R (.ok (.ret (.bool b))) s') → codeAny (model X.prog X.w) X.A (.builtin "any.loop" ⟨[.ref a], []⟩) R s := by
  intro n
  induction n with
  | zero =>
    intro s h hR
    refine codeAny_builtin F.entry_any_loop ?_
    rw [Around.under_plainId F.plain_any_loop _]
    show wpAny _ X.A.in1 (pyNext (.ref a) >>= _) _ _ s
    refine wpAny_bind (h _ _ (fun s' H I q => ?_) fun s' H I q => ?_)
    · refine wpAny_bind (wpAny_holding (wpAny_truthy_bool ?_))
      refine wpAny_bind (wpAny_letGo ?_)
      simp only [Bool.not_false, if_true]
      exact wpAny_bind (wpAny_rule (wpAny_pure (hR s' H _ I q)))
    · exact wpAny_bind (wpAny_rule (wpAny_pure (hR s' H _ I q)))
  | succ n ih =>
    intro s h hR
    refine codeAny_builtin F.entry_any_loop ?_
    rw [Around.under_plainId F.plain_any_loop _]
    show wpAny _ X.A.in1 (pyNext (.ref a) >>= _) _ _ s
    refine wpAny_bind (h _ _ (fun s' hl => ?_) (fun s' H I q => ?_) fun s' H I q => ?_)
    · refine wpAny_bind (wpAny_holding (wpAny_truthy_bool ?_))
      refine wpAny_bind (wpAny_letGo ?_)
      simp only [Bool.false_eq_true, if_false]
      exact wpAny_pure ⟨plainId_quiet F.plain_any_loop _, ih s' hl hR⟩
    · refine wpAny_bind (wpAny_holding (wpAny_truthy_bool ?_))
      refine wpAny_bind (wpAny_letGo ?_)
      simp only [Bool.not_false, if_true]
      exact wpAny_bind (wpAny_rule (wpAny_pure (hR s' H _ I q)))
    · exact wpAny_bind (wpAny_rule (wpAny_pure (hR s' H _ I q)))
end
/-! ### one turn after another -/
/-- the state between turns -/
abbrev GAt (G : Cx) (pa : List (Addr × Obj)) (σw : L2.St) (fp : List Addr) (tn : Nat → Heap → Prop) (i : Nat) (H : Hp) (s : Shared) : Prop := Inv G pa σw H s ∧ tn i s.heap ∧ ∀ b ∈ fp, H b = none
/-- it has come to its end -/
def GEnd (G : Cx) (pa : List (Addr × Obj)) (σw : L2.St) (Q : VK) (cont : Bool) : Nat → Shared → Shared → Prop := fun _ _ s1 => ∃ H, Inv G pa σw H s1 ∧ Q (.bl cont) H
/-- a test's answer is handed out -/
def GYld (G : Cx) (pa : List (Addr × Obj)) (σw : L2.St) (fp : List Addr) (tn : Nat → Heap → Prop) (W : Nat → Nat → Hp → Prop) (Q : VK) (cont : Bool) : Protocol := fun n _ v s1 kap =>
  ∃ (b : Bool) (H : Hp), v = .bool b ∧ Inv G pa σw H s1 ∧ ((b = cont ∧ 0 < n ∧ ∀ g', AllBare g' → kap (.send .none) { s1 with gens := g' }) ∨ (b = (!cont) ∧ Q (.bl (!cont)) H))
/-- the turns: what an answer leads to -/
def GTurn (J : It) (g : TG) (te : TE) (σw : L2.St) (vs : List Nat) (Q : VK) (cont : Bool) (W : Nat → Nat → Hp → Prop) : Prop := ∀ i m H, W i m H →
  (J.stop i H ∧ Q (.bl cont) H) ∨ (J.go i H ∧ ∀ x H', J.yld i H x H' → g x σw H' fun σ2 H2 => wipe σ2 vs = σw ∧ te σ2 H2 fun y H3 => ∃ b, y = .bl b ∧ if b = cont then ∃ m', m' < m ∧ W (i + 1) m' H3 else Q (.bl (!cont)) H3)
section
variable {G : Cx} {pa : List (Addr × Obj)} {σ : L2.St} {vs : List Nat} {fp : List Addr} {it : Addr} {tn : Nat → Heap → Prop} {J : It} {tg elt iter : Expr} {g : TG} {te : TE} {scope : Scope} {gpos : Pos} {Q : VK} {cont : Bool} {W : Nat → Nat → Hp → Prop} {A : Around}
theorem seg_turns (hA : G.A = A.deeper G.env) (hc : G.calm = true) (hco : G.env.scope.isCoroutine = false) (hxe : G.xe = fun _ _ => False) (T : Turn G.prog G.w G.K tg J fp it tn) (pg : PG G tg g) (pe : PE G elt te) (hpn : G.pn = []) (hex : G.ex = fp)
    (hpa : ∀ p ∈ pa, ∀ b ∈ fp, p.1 ≠ b) (turn : GTurn J g te (wipe σ vs) vs Q cont W) :
    ∀ (n i m : Nat) (s₀ s : Shared) (H : Hp), m < n → GAt G pa (wipe σ vs) fp tn i H s → W i m H →
      Seg (model G.prog G.w) A (fun n s₀ r s₁ => r = .ok .next ∧ GEnd G pa (wipe σ vs) Q cont n s₀ s₁) (GYld G pa (wipe σ vs) fp tn W Q cont) n s₀
        (.compLoop (.GeneratorExp elt [⟨tg, iter, [], 0⟩] scope gpos) 0 (.ref it) .none G.env)
        ((model G.prog G.w).den (.compLoop (.GeneratorExp elt [⟨tg, iter, [], 0⟩] scope gpos) 0 (.ref it) .none G.env)) [] s := by
  have hov : A.over (.compLoop (.GeneratorExp elt [⟨tg, iter, [], 0⟩] scope gpos) 0 (.ref it) .none G.env) [] = G.A := by rw [over_gen, hA]
  have stat : ∀ {σ' : L2.St} {H' : Hp} {s' : Shared}, Inv G pa σ' H' s' → (∀ b ∈ fp, H' b = none) → ∀ b ∈ fp, FpOk G pa H' b := fun {σ' H' s'} I' hn b hb =>
    ⟨hn b hb, (I'.ok.exf b (by rw [hex]; exact hb)).1, I'.ok.exfs b (by rw [hex]; exact hb), .inl (by rw [hex]; exact hb), fun x c e => (I'.ok.exf b (by rw [hex]; exact hb)).2 x c e, fun p hp => by
      rw [hpn] at hp
      exact hpa p (by simpa using hp) b hb⟩
  intro n
  induction n with
  | zero => intro i m s₀ s H hm; exact absurd hm (Nat.not_lt_zero _)
  | succ n ih =>
    intro i m s₀ s H hm ⟨I, st, fr⟩ w
    show Seg _ A _ _ _ s₀ _ ((compTurn (.GeneratorExp elt [⟨tg, iter, [], 0⟩] scope gpos) 0 (.ref it) .none G.env).onRaise (leaving G.env)) [] s
    rw [compTurn_gen, Sem.onRaise_eq_wrap]
    refine seg_bind_wrap (wpAny_standAt ?_)
    refine seg_bind_wrap ?_
    rw [hov]
    rcases turn i m H w with ⟨stop, q⟩ | ⟨go, step⟩
    · refine thnF (T.done G rfl rfl rfl hc i pa s _ H (fun _ _ => False) I (stat I fr) st stop) fun r s1 ⟨hr, I1⟩ => ?_
      subst hr
      exact seg_end (.ok .next) ⟨rfl, H, I1, q⟩
    · refine thnF (T.item G rfl rfl rfl hc i pa s _ H (fun _ _ => False) I (stat I fr) st go) fun r s1 ⟨u, hr, h1⟩ => ?_
      subst hr
      refine seg_bind_wrap ?_
      rw [hov]
      refine thnF h1 fun _ s2 ⟨x, H2, I2, r2, y2, st2, n2⟩ => ?_
      have I2' := I2.pinned (stat I2 n2) (T.obj _ _ st2)
      refine seg_bind_wrap ?_
      rw [hov]
      have hpr := pg.run _ s2 _ H2 x u _ I2' r2 (step x H2 y2)
      rw [hxe] at hpr
      refine thnF hpr fun _ s3 ⟨σ3, H3, I3, hw3, q3⟩ => ?_
      refine seg_bind_wrap ?_
      simp only [List.forIn_nil]
      refine wpAny_pure ?_
      simp only [if_true]
      have hy : ∀ v, yieldOut G.env v = yieldValue v := fun v => by simp only [yieldOut, hco, Bool.false_eq_true, if_false]
      simp only [hy]
      rw [Sem.bind_eq_wrap', Sem.bind_eq_wrap', Sem.wrap_wrap, Sem.wrap_wrap]
      refine seg_wrap ?_
      rw [hov]
      have her := pe.run _ s3 σ3 H3 _ I3 q3
      rw [hxe] at her
      refine thnF her fun v s4 ⟨y, H4, I4, r4, b, hb, q4⟩ => ?_
      subst hb
      obtain rfl : v = Value.bool b := r4
      have pin' : ∀ c ∈ fp, ∀ o, s2.heap.get? c = some o → s4.heap.get? c = some o ∧ H4 c = none := fun c hc' o e =>
        let z := I4.pin (c, o) (List.mem_append_right _ (List.mem_append_right _ (mem_pinsAt hc' e)))
        ⟨z.1, z.2.1⟩
      have I5 : Inv G pa (wipe σ vs) H4 s4 := I4.unpinned.weak (by rw [← hw3, wipe_length]) fun j v e => by
        rw [← hw3] at e
        exact (wipe_some e).1
      have st4 : tn (i + 1) s4.heap := T.keep _ _ _ st2 fun c hc' o e => (pin' c hc' o e).1
      have fr4 : ∀ c ∈ fp, H4 c = none := fun c hc' => by
        obtain ⟨o, e, _⟩ := T.obj _ _ st2 c hc'
        exact (pin' c hc' o e).2
      refine seg_at (seg_yield rfl rfl rfl ⟨b, H4, rfl, I5, ?_⟩)
      by_cases hbc : b = cont
      · rw [if_pos hbc] at q4
        obtain ⟨m', hm', w'⟩ := q4
        refine .inl ⟨hbc, by omega, fun g' hg' => ?_⟩
        refine seg_again rfl (ih (i + 1) m' _ _ H4 (by omega) ⟨?_, st4, fr4⟩ w')
        exact ⟨I5.ok, I5.os, hg', I5.base, I5.loc, I5.cell, I5.free, I5.freeC, I5.pin, I5.hok, I5.len⟩
      · rw [if_neg hbc] at q4
        exact .inr ⟨not_of_ne hbc, q4⟩
end
end Ky
namespace Ky
open PySem PySem.Spec PyProof.Rows L2
section
variable {G : Cx} {pa : List (Addr × Obj)} {σ : L2.St} {vs : List Nat} {fp : List Addr} {it : Addr} {tn : Nat → Heap → Prop} {J : It} {tg elt iter : Expr} {g : TG} {te : TE} {scope : Scope} {gpos : Pos} {Q : VK} {cont : Bool} {W : Nat → Nat → Hp → Prop} {A : Around}
theorem seg_begin (hA : G.A = A.deeper G.env) (hc : G.calm = true) (hco : G.env.scope.isCoroutine = false) (hxe : G.xe = fun _ _ => False) (T : Turn G.prog G.w G.K tg J fp it tn) (pg : PG G tg g) (pe : PE G elt te) (hpn : G.pn = []) (hex : G.ex = fp)
    (hpa : ∀ p ∈ pa, ∀ b ∈ fp, p.1 ≠ b) (turn : GTurn J g te (wipe σ vs) vs Q cont W) (n i m : Nat) (s₀ s : Shared) (H : Hp) (hm : m < n) (hat : GAt G pa (wipe σ vs) fp tn i H s) (w : W i m H) :
    Seg (model G.prog G.w) A (fun n s₀ r s₁ => r = .ok .next ∧ GEnd G pa (wipe σ vs) Q cont n s₀ s₁) (GYld G pa (wipe σ vs) fp tn W Q cont) n s₀
      (.compStart (.GeneratorExp elt [⟨tg, iter, [], 0⟩] scope gpos) 0 (.ref it) .none G.env)
      ((model G.prog G.w).den (.compStart (.GeneratorExp elt [⟨tg, iter, [], 0⟩] scope gpos) 0 (.ref it) .none G.env)) [] s := by
  have loop := seg_turns (iter := iter) (scope := scope) (gpos := gpos) hA hc hco hxe T pg pe hpn hex hpa turn n i m s₀ s H hm hat w
  show Seg _ A _ _ _ s₀ _ ((compStart (.GeneratorExp elt [⟨tg, iter, [], 0⟩] scope gpos) 0 (.ref it) .none G.env).onRaise (leaving G.env)) [] s
  unfold compStart
  rw [Sem.onRaise_eq_wrap]
  show Seg _ A _ _ _ s₀ _ ((ask >>= _).wrap _ _ _ _) [] s
  refine seg_bind_wrap (wpAny_askSetting ?_)
  split
  · exact seg_again rfl loop
  · first
      | exact seg_bind_wrap (wpAny_rule (seg_bind_wrap (wpAny_standAt (seg_bind_wrap (T.self _ i s _ _ hat.2.1 (seg_again rfl loop))))))
      | (refine seg_bind_wrap (wpAny_rule ?_); show Seg _ A _ _ _ s₀ _ ((standAt iter.pos >>= _).wrap _ _ _ _) [] s; exact seg_bind_wrap (wpAny_standAt (seg_bind_wrap (T.self _ i s _ _ hat.2.1 (seg_again rfl loop)))))
end
theorem allBare_upd {s : Shared} {g : Nat} {x : GenState} (h : AllBare s.gens) (hx : x.bare = true) : AllBare (s.setGen g x).gens := allBare_setGen h hx
section
variable {X G : Cx} {pins pa : List (Addr × Obj)} {σ σw : L2.St} {fp : List Addr} {tn : Nat → Heap → Prop} {Q : VK} {cont : Bool} {W : Nat → Nat → Hp → Prop} {a : Addr} {gi : Nat}
theorem live_of (hh : X.A.handled = none) (hd : X.A.depth < recursionLimit) (isg : ∀ H s, Inv G pa σw H s → s.heap.IsGen a gi)
    (back : ∀ H s h' g', Inv G pa σw H s → AllBare g' → (∀ b o, s.heap.get? b = some o → h'.get? b = some o) → Inv X pins σ H { s with heap := h', gens := g' }) :
    ∀ (n : Nat) (s : Shared), s.heap.IsGen a gi → s.heap.NoLimit →
      (∃ gs, s.gens[gi]? = some gs ∧ gs.Goes (model X.prog X.w) X.A.in1.in1 (fun n s₀ r s₁ => r = .ok .next ∧ GEnd G pa σw Q cont n s₀ s₁) (GYld G pa σw fp tn W Q cont) n (.send .none) (s.setGen gi .running)) →
      Live X pins σ Q cont a n s := by
  intro n
  induction n with
  | zero =>
    intro s hg hl ⟨gs, hgs, hgo⟩ QQ E h1 h2
    refine wpAny_pyNext_genexpQ (A := X.A.in1) (P := GEnd G pa σw Q cont) hh hl hd hg hgs hgo (fun v s₁ gs' hb hv => ?_) (fun s₁ hp h' hk => ?_)
    · obtain ⟨b, H, rfl, I, ⟨_, h0, _⟩ | ⟨hb2, q⟩⟩ := hv
      · exact absurd h0 (Nat.lt_irrefl _)
      · subst hb2
        exact h1 _ H (back H s₁ s₁.heap _ I (allBare_upd I.bare hb) fun _ _ e => e) q
    · obtain ⟨H, I, q⟩ := hp
      exact h2 _ H (back H s₁ h' _ I (allBare_upd I.bare rfl) hk) q
  | succ n ih =>
    intro s hg hl ⟨gs, hgs, hgo⟩ QQ E h0 h1 h2
    have hgl : gi < s.gens.size := (Array.getElem?_eq_some_iff.mp hgs).1
    refine GenW.wpAny_gsz (n := gi + 1) hgl ?_
    refine wpAny_pyNext_genexpQ (A := X.A.in1) (P := GEnd G pa σw Q cont) hh hl hd hg hgs hgo (fun v s₁ gs' hb hv => ?_) (fun s₁ hp h' hk => ?_)
    · intro hsz
      obtain ⟨b, H, rfl, I, ⟨hbc, _, kap⟩ | ⟨hb2, q⟩⟩ := hv
      · subst hbc
        have hsz1 : gi < s₁.gens.size := by
          have q : (s₁.setGen gi gs').gens.size = s₁.gens.size := GenW.setGen_size _ _ _
          have hsz' : gi + 1 ≤ (s₁.setGen gi gs').gens.size := hsz
          omega
        refine h0 _ (ih _ (isg H s₁ I) I.nolimit ⟨gs', setGen_at hsz1, ?_⟩)
        exact kap _ (allBare_upd (s := s₁.setGen gi gs') (allBare_upd I.bare hb) rfl)
      · subst hb2
        exact h1 _ H (back H s₁ s₁.heap _ I (allBare_upd I.bare hb) fun _ _ e => e) q
    · intro _
      obtain ⟨H, I, q⟩ := hp
      exact h2 _ H (back H s₁ h' _ I (allBare_upd I.bare rfl) hk) q
end
/-! ### its making -/
/-- the generator expression's scope: no cells of its own -/
structure GxS (N : List Str) (sc scope : Scope) (own : List (Str × Nat)) : Prop where
  blk : BlkOk N sc scope own
  co : scope.isCoroutine = false
  cell : ∀ y ∈ scope.names, y.2 ≠ .cell
  dot : scope.names.lookup (".0" : Str) = some NameKind.local
/-- what its reader wants: the table may have grown by its code -/
def gRd (P : Addr) (wi : TI) (g : TG) (te : TE) (vs : List Nat) (cont : Bool) : TE := fun σ H Q => wi σ H fun J H1 => GxR.TabG H1 P ∧ ∀ H2, GxR.Tabbed P H1 H2 → ∃ W : Nat → Nat → Hp → Prop, (∃ m, W 0 m H2) ∧ GTurn J g te (wipe σ vs) vs Q cont W
section
variable {X : Cx} {pins : List (Addr × Obj)} {σ : L2.St} {H : Hp} {s : Shared} {Q : VK} {cont : Bool} {k : Nat} {c P : Addr} {tg elt iter : Expr} {scope : Scope} {own : List (Str × Nat)} {gpos : Pos} {wi : TI} {g : TG} {te : TE} {Q' : Value → Shared → Prop}
theorem gx_make (hc : X.calm = true) (hN : X.N.Nodup) (hr : Room (k + 2) X.A) (TB : GxR.TabB X.base X.mg c P) (hcode : X.env.code = .ref c) (S : GxS X.N X.env.scope scope own) (hi : PI X tg iter wi)
    (hg : ∀ A' s H code fp, PG (gx X A' s H scope code fp) tg g) (he : ∀ A' s H code fp, Room k A' → PE (gx X A' s H scope code fp) elt te) (hs : ∀ v, genFold iter X.env v = pure v)
    (I : Inv X pins σ H s) (h : gRd P wi g te (own.map (·.2)) cont σ H Q) (hQ : ∀ a gi n s', s'.heap.IsGen a gi → Live X pins σ Q cont a n s' → Q' (.ref a) s') :
    wpAny (model X.prog X.w) X.A (eval (.GeneratorExp elt [⟨tg, iter, [], 0⟩] scope gpos) X.env) Q' X.xe s := by
  have hfree : ∀ y ∈ scope.names, y.2 = .free → ∃ c, X.env.cells.lookup y.1 = some c := fun y hy e => by
    rcases S.blk.free y hy e with k | k
    · exact I.ok.has _ (.inl k)
    · exact I.ok.has _ (.inr k)
  refine wpAny_GeneratorExp_make S.co (closure_ok hfree) S.cell S.dot S.blk.kind (by have := hr.dp; omega) ?_ hs
  refine thn (hi.run pins s σ H _ I h) fun xv s1 hx => thn hx fun itv s2 h2 => ?_
  obtain ⟨it, fp, tn, J, H2, e, I2, T, st2, f2, ⟨ps, hP, ht⟩, q⟩ := h2
  subst e
  have hPs : s2.heap.get? P = some { cls := .none, data := .fields ps } := I2.hok P _ hP
  have cd : PySem.W.CodeHd s2.heap c P := TB.code.keeps I2.bk
  refine ⟨I2.nolimit, ?_⟩
  have szf : ∀ b ∈ fp, b < s2.heap.objs.size := fun b hb => by
    obtain ⟨o, e, _⟩ := T.obj _ _ st2 b hb
    exact Heap.lt_size e
  have cont' : ∀ (code : Value) (h3 : Heap) (tk : Nat) (ps' : Array Value), Heap.ExtBut P s2.heap h3 → s2.heap.objs.size ≤ h3.objs.size → h3.get? P = some { cls := .none, data := .fields ps' } → (∃ more, ps' = ps ++ more) → TriplesOk ps'.toList →
      wpAny (model X.prog X.w) X.A (builtinsFor X.env.globals X.env.builtins) (fun bi s₄ => ∀ h', h'.Ns s₄.heap.objs.size (fun y => if y = ".0" then some (.ref it) else none) → Heap.SameBut s₄.heap.objs.size (s₄.heap.push { cls := .type "frame", data := .dict #[] }) h' →
          Q' (.ref h'.objs.size) { s₄ with
            gens := s₄.gens.push (.fresh (.compStart (.GeneratorExp elt [⟨tg, iter, [], 0⟩] scope gpos) 0 (.ref it) .none (genEnv scope (cloFrom X.env.cells scope.names []) s₄.heap.objs.size code bi X.env))),
            toks := s₄.toks + 1 + 1 + 1,
            heap := h'.push { cls := .type "generator", data := .fields #[.int s₄.gens.size 0, .str "<genexpr>" (s₄.toks + 1), .str (X.env.qual ++ "<genexpr>") (s₄.toks + 1 + 1)] } }) X.xe { s2 with heap := h3, toks := tk } := by
    intro code h3 tk ps' hx hsz hP3 hmore ht3
    obtain ⟨bm, ob, e1, e2, e3, e4, e5, e6, e7, e8⟩ := TB.bm
    obtain ⟨more, em⟩ := hmore
    have keep3 : ∀ b u, b ≠ P → s2.heap.get? b = some u → h3.get? b = some u := fun b u hb e => hx b u hb e
    refine wpAny_builtinsFor (m := X.mg) (by rw [I2.ok.glob]; exact (I2.mod.glob.keeps I2.bk).extBut hx TB.gP) e1 e2 (keep3 _ _ e4 (I2.bk _ _ e5)) e6 e7 e8 ?_
    have I3 : Inv X pins σ (upd H2 P (.tbl (ps ++ more))) { s2 with heap := h3, gens := s2.gens, drawn := s2.drawn, toks := tk } := GxR.inv_tab (more := more) I2 hP keep3 (by rw [← em]; exact hP3) I2.bare
    have hTb : GxR.Tabbed P H2 (upd H2 P (.tbl (ps ++ more))) := ⟨⟨ps ++ more, upd_same, by rw [← em]; exact ht3⟩, fun b hb => upd_ne hb⟩
    obtain ⟨W, ⟨m0, w0⟩, turn⟩ := q _ hTb
    generalize hH3 : upd H2 P (.tbl (ps ++ more)) = H3 at I3 hTb w0
    generalize hs4 : ({ s2 with heap := h3, gens := s2.gens, drawn := s2.drawn, toks := tk } : Shared) = s4 at I3 ⊢
    have h4 : s4.heap = h3 := by rw [← hs4]
    have nfP : ∀ b ∈ fp, b ≠ P := fun b hb z => by
      have := (f2 b hb).1
      rw [z, hP] at this
      cases this
    have f4 : ∀ b ∈ fp, FpOk X pins H3 b ∧ b < s4.heap.objs.size := fun b hb => by
      refine ⟨⟨?_, (f2 b hb).2⟩, by rw [h4]; exact Nat.lt_of_lt_of_le (szf b hb) hsz⟩
      rw [← hH3, upd_ne (nfP b hb)]
      exact (f2 b hb).1
    have st4 : tn 0 s4.heap := T.keep _ _ _ st2 fun b hb o e => by rw [h4]; exact keep3 b o (nfP b hb) e
    intro h' hn' hs'
    have hszC : h'.objs.size = s4.heap.objs.size + 1 := by rw [hs'.1, Heap.size_push]
    have keep' : ∀ b o, s4.heap.get? b = some o → h'.get? b = some o := fun b o e => hs'.extBut b o (Nat.ne_of_lt (Heap.lt_size e)) (Heap.get?_push_of_some _ e)
    generalize hoa : ({ cls := .type "generator", data := .fields #[.int s4.gens.size 0, .str "<genexpr>" (s4.toks + 1), .str (X.env.qual ++ "<genexpr>") (s4.toks + 1 + 1)] } : Obj) = oa
    have keep5 : ∀ b o, s4.heap.get? b = some o → (h'.push oa).get? b = some o := fun b o e => Heap.get?_push_of_some _ (keep' b o e)
    have hoa5 : (h'.push oa).get? h'.objs.size = some oa := Heap.get?_push_size _ (by rw [← hoa]; rfl)
    have isG : ∀ {hh : Heap}, hh.get? h'.objs.size = some oa → hh.IsGen h'.objs.size s4.gens.size := fun {hh} e => by
      exact ⟨oa, .str "<genexpr>" (s4.toks + 1), .str (X.env.qual ++ "<genexpr>") (s4.toks + 1 + 1), e, by rw [← hoa], by rw [← hoa], by rw [← hoa]⟩
    have hh2 : (X.A.in1.in1.deeper (gxEnv X s4 scope code)).handled = none := hr.hd
    have hfr : (X.A.in1.in1.deeper (gxEnv X s4 scope code)).frames = some (gxEnv X s4 scope code :: X.stack) := Around.frames_deeper (A := X.A.in1.in1) I3.ok.frames
    have hroom : Room k (X.A.in1.in1.deeper (gxEnv X s4 scope code)) := Room.deeper (A := X.A.in1.in1) (k := k) ⟨hr.hd, by have := hr.dp; show X.A.depth + 3 * (k + 1) + 5 < _; omega, by have := hr.un; show X.A.units + 1 + 1 + 16 * (k + 1) + 200 < _; omega⟩ _
    have inv5 : ∀ g' t', AllBare g' → Inv (gx X (X.A.in1.in1.deeper (gxEnv X s4 scope code)) s4 H3 scope code fp) [(h'.objs.size, oa)] (wipe σ (own.map (·.2))) H3 { s4 with heap := h'.push oa, gens := g', toks := t' } := fun g' t' hg' => by
      have I5 := gx_start (t' := t') (code := code) I3 S.blk S.cell hN f4 hh2 hfr (hn'.push oa) keep5 hg'
      refine I5.pins_of fun p hp => ?_
      have e : p = (h'.objs.size, oa) := by simpa using hp
      subst e
      have hge : s4.heap.objs.size ≤ h'.objs.size := by omega
      refine ⟨hoa5, I3.hok.fresh hge, ?_, fun z => ?_, fun v e => ?_⟩
      · show h'.objs.size ≠ s4.heap.objs.size
        omega
      · rcases List.mem_cons.mp (I3.stkSub _ z) with z | z
        · have := I3.lt
          rw [← z] at this
          exact absurd (Nat.lt_of_lt_of_le this hge) (Nat.lt_irrefl _)
        · exact I3.nofs hge z
      · rw [← hoa] at e
        cases e
    have isg : ∀ H s, Inv (gx X (X.A.in1.in1.deeper (gxEnv X s4 scope code)) s4 H3 scope code fp) [(h'.objs.size, oa)] (wipe σ (own.map (·.2))) H s → s.heap.IsGen h'.objs.size s4.gens.size := fun H s I => isG (I.pin (h'.objs.size, oa) (by simp)).1
    have back : ∀ H s h9 g', Inv (gx X (X.A.in1.in1.deeper (gxEnv X s4 scope code)) s4 H3 scope code fp) [(h'.objs.size, oa)] (wipe σ (own.map (·.2))) H s → AllBare g' → (∀ b o, s.heap.get? b = some o → h9.get? b = some o) → Inv X pins σ H { s with heap := h9, gens := g' } := fun H s h9 g' I hg' kp =>
      I3.call' (ch := fp) I.os (I.base.trans (Un.kept kp)) (I.hok.kept kp) hg' fun b hb => ⟨(f4 b hb).1.2.2.2.1, (f4 b hb).1.2.1, (f4 b hb).1.2.2.2.2.1, (f4 b hb).1.2.2.2.2.2⟩
    refine hQ h'.objs.size s4.gens.size (m0 + 1) _ (isG hoa5) (live_of (G := gx X (X.A.in1.in1.deeper (gxEnv X s4 scope code)) s4 H3 scope code fp) (pa := [(h'.objs.size, oa)]) (σw := wipe σ (own.map (·.2))) (fp := fp) (tn := tn) (W := W) hr.hd (by have := hr.dp; omega) isg back (m0 + 1) _ (isG hoa5) (I3.nolimit.keeps keep5) ⟨_, Array.getElem?_push_size .., rfl, ?_⟩)
    have fr3 : ∀ b ∈ fp, H3 b = none := fun b hb => (f4 b hb).1.1
    have st5 : tn 0 (h'.push oa) := T.keep _ _ _ st4 fun b _ o e => keep5 b o e
    exact seg_begin (G := gx X (X.A.in1.in1.deeper (gxEnv X s4 scope code)) s4 H3 scope code fp) (A := X.A.in1.in1) rfl hc S.co rfl T (hg _ _ _ _ _) (he _ _ _ _ _ hroom) rfl rfl (fun p hp b hb => by
      have e : p = (h'.objs.size, oa) := by simpa using hp
      subst e
      have h9 : b < s4.heap.objs.size := (f4 b hb).2
      have hge : s4.heap.objs.size ≤ h'.objs.size := by omega
      exact Nat.ne_of_gt (Nat.lt_of_lt_of_le h9 hge)) turn (m0 + 1) 0 m0 _ _ H3 (Nat.lt_succ_self _) ⟨inv5 _ _ (allBare_upd (I3.bare.push rfl) rfl), st5, fr3⟩ w0
  cases hf : codeAmong gpos ps.toList with
  | none =>
    refine wpAny_genexprCodeX hcode (cd.code hPs ht) (cd.tab hPs) hf fun c' h' tk hx hge hlt hco' _ htab' _ => ?_
    obtain ⟨o1, vs, f1, tf, fl, tg, inF, tx, tt, op, _, _, _, _, _, _, _, _, _, htr, _⟩ := hco'
    exact cont' _ h' tk _ hx (Nat.le_trans hge (Nat.le_of_lt hlt)) htab'.2 ⟨_, rfl⟩ htr
  | some cv =>
    refine wpAny_genexprCode_hit hcode (cd.code hPs ht) hf ?_
    exact cont' cv s2.heap s2.toks ps (Heap.ExtBut.refl _ _) (Nat.le_refl _) hPs ⟨#[], by simp⟩ ht
end
end Ky
namespace Ky
open PySem PySem.Spec PyProof.Rows L2
section
variable {X : Cx} {k : Nat} {c P : Addr} {tg elt iter : Expr} {scope : Scope} {own : List (Str × Nat)} {gpos p pos : Pos} {wi : TI} {g : TG} {te : TE}
theorem pe_allG (hr : Room (k + 2) X.A) (hgl : Gl X "all") (hm : X.mg "all" = none) (hb : bootBuiltins "all" = some (.builtin "all")) (hc : X.calm = true) (hN : X.N.Nodup) (TB : GxR.TabB X.base X.mg c P) (hcode : X.env.code = .ref c) (S : GxS X.N X.env.scope scope own) (hi : PI X tg iter wi)
    (hg : ∀ A' s H code fp, PG (gx X A' s H scope code fp) tg g) (hel : ∀ A' s H code fp, Room k A' → PE (gx X A' s H scope code fp) elt te) (hs : ∀ v, genFold iter X.env v = pure v := by intro _; rfl)
    (he : starEach [.GeneratorExp elt [⟨tg, iter, [], 0⟩] scope gpos] X.env = (false, eval (.GeneratorExp elt [⟨tg, iter, [], 0⟩] scope gpos) X.env) :: starEach [] X.env := by rfl) :
    PE X (.Call (.Name "all" p) [.GeneratorExp elt [⟨tg, iter, [], 0⟩] scope gpos] [] pos) (gRd P wi g te (own.map (·.2)) true) := by
  refine ⟨fun pins s σ H Q I h => ?_⟩
  refine wpAny_Call_Name_kw (ld_blt I hgl hm hb ?_)
  refine PyProof.Rows.callWith_builtin1 ?_ he (by rfl)
  rw [he]
  show wpAny _ _ (spliced ((false, eval (.GeneratorExp elt [⟨tg, iter, [], 0⟩] scope gpos) X.env) :: backTo pos (starEach [] X.env))) _ _ s
  refine Calls.spliced_cons (gx_make hc hN hr TB hcode S hi hg hel hs I h fun a gi n s' hG hL => ?_)
  refine Calls.spliced_nil ?_
  refine call_function_tree F.kind_all F.plain_all F.entry_all (F.args_all1 _) ?_
  unfold Builtin.«all»
  refine wpAny_bind (m := oneArg "all" _) (wpAny_pure ?_)
  refine wpAny_bind (wpAny_pyIter_gen hG ?_)
  exact wpAny_pure ⟨plainId_quiet F.plain_all_loop _, live_all n s' hL fun s'' H' b I' q => ⟨.bl b, H', I', rfl, q⟩⟩
theorem pe_anyG (hr : Room (k + 2) X.A) (hgl : Gl X "any") (hm : X.mg "any" = none) (hb : bootBuiltins "any" = some (.builtin "any")) (hc : X.calm = true) (hN : X.N.Nodup) (TB : GxR.TabB X.base X.mg c P) (hcode : X.env.code = .ref c) (S : GxS X.N X.env.scope scope own) (hi : PI X tg iter wi)
    (hg : ∀ A' s H code fp, PG (gx X A' s H scope code fp) tg g) (hel : ∀ A' s H code fp, Room k A' → PE (gx X A' s H scope code fp) elt te) (hs : ∀ v, genFold iter X.env v = pure v := by intro _; rfl)
    (he : starEach [.GeneratorExp elt [⟨tg, iter, [], 0⟩] scope gpos] X.env = (false, eval (.GeneratorExp elt [⟨tg, iter, [], 0⟩] scope gpos) X.env) :: starEach [] X.env := by rfl) :
    PE X (.Call (.Name "any" p) [.GeneratorExp elt [⟨tg, iter, [], 0⟩] scope gpos] [] pos) (gRd P wi g te (own.map (·.2)) false) := by
  refine ⟨fun pins s σ H Q I h => ?_⟩
  refine wpAny_Call_Name_kw (ld_blt I hgl hm hb ?_)
  refine PyProof.Rows.callWith_builtin1 ?_ he (by rfl)
  rw [he]
  show wpAny _ _ (spliced ((false, eval (.GeneratorExp elt [⟨tg, iter, [], 0⟩] scope gpos) X.env) :: backTo pos (starEach [] X.env))) _ _ s
  refine Calls.spliced_cons (gx_make hc hN hr TB hcode S hi hg hel hs I h fun a gi n s' hG hL => ?_)
  refine Calls.spliced_nil ?_
  refine call_function_tree F.kind_any F.plain_any F.entry_any (F.args_any1 _) ?_
  unfold Builtin.«any»
  refine wpAny_bind (m := oneArg "any" _) (wpAny_pure ?_)
  refine wpAny_bind (wpAny_pyIter_gen hG ?_)
  exact wpAny_pure ⟨plainId_quiet F.plain_any_loop _, live_any n s' hL fun s'' H' b I' q => ⟨.bl b, H', I', rfl, q⟩⟩
end
end Ky

namespace Kz
open PySem PySem.SeqAt PySem.W PyProof.Rows
/-! ### sorting of tuples, the empty one among them -/
section
variable {prog : Program} {w : World} {A : Around} {E : Value → Shared → Prop} {s : Shared}
theorem call_tuple_lt {Q : Value → Shared → Prop} {l b : Addr} {items items2 : Array Value} {e r : Nat → Bool} (hl : s.heap.IsTuple l items) (hb : s.heap.IsTuple b items2)
    (he : ∀ j (h1 : j < items.size) (h2 : j < items2.size), EqAt A.in1 s items[j] items2[j] (e j)) (hr : ∀ j (h1 : j < items.size) (h2 : j < items2.size), e j = false → RcLt A.in1 s items[j] items2[j] (r j))
    (h : Q (.bool (firstLt e r (decide (items.size < items2.size)) (List.range (min items.size items2.size)))) s) : wpAny (model prog w) A (call (.builtin "tuple.__lt__") [.ref l, .ref b]) Q E s := by
  obtain ⟨⟨cls, dd, data, sl⟩, ho, hc, n, hd⟩ := id hl
  obtain ⟨⟨cls2, dd2, data2, sl2⟩, ho2, hc2, n2, hd2⟩ := id hb
  simp only at hc hd hc2 hd2
  subst hc hd hc2 hd2
  exact call_meets F.slot_tuple_lt ⟨_, ho, rfl⟩ F.entry_tuple_lt (F.args_tuple_lt_2 _ _) (tuple_ltAt l b items items2 n n2 dd dd2 sl sl2 e r) ⟨ho, ho2, he, hr, h⟩
theorem oneLt_any {f : Bool} {da db : PyData} {a b : Value} {as bs : List Addr} {Q : Bool → Shared → Prop} (ra : Reads s.heap a da as) (rb : Reads s.heap b db bs) (h : alike da db = true) (hn : da ≠ .none)
    (hu : A.units + min da.depth db.depth < cLine) (hq : Q (dataLt da db) s) : wpAny (model prog w) A (oneLt' f a b) Q E s := by
  by_cases ht : f = true ∧ ∃ xs, da = .tuple xs
  · obtain ⟨rfl, xs, rfl⟩ := ht
    cases db with
    | tuple ys =>
      have hal : alikeAll xs ys = true := by simpa [alike] using h
      cases ra with
      | @tuple l o vs n _ as₁ h1 h2 h3 h4 =>
        cases rb with
        | @tuple l' o' vs' n' _ bs₁ k1 k2 k3 k4 =>
          have n1 : vs.size = xs.length := by simpa using ReadsAll.length _ _ _ h4
          have n2 : vs'.size = ys.length := by simpa using ReadsAll.length _ _ _ k4
          rw [dataLt_tuple, ← firstLt_toks xs ys hal, ← n1, ← n2] at hq
          rw [oneLt'_eq]
          simp only [if_true]
          refine wpAny_bind (wpAny_cRoomFor (room_here hu) ?_)
          refine wpAny_bind (wpAny_callSpecialIfBound?_slot (T := "tuple") ⟨_, h1, h2⟩ F.slot_tuple_lt (call_tuple_lt (e := pairEq xs ys) (r := fun j => dataLt (xs.getD j .none) (ys.getD j .none)) ⟨_, h1, h2, _, h3⟩ ⟨_, k1, k2, _, k3⟩ (fun j j1 j2 => ?_) (fun j j1 j2 hj => ?_) ?_))
          · have := eqAt_alikeAll xs ys A.in1 s vs.toList vs'.toList _ _ h4 k4 hal (room_in hu) j (by simpa using j1) (by simpa using j2)
            simpa using this
          · have := rcLt_alikeAll xs ys A.in1 s vs.toList vs'.toList _ _ h4 k4 hal (room_in hu) j (by simpa using j1) (by simpa using j2) hj
            simpa using this
          · exact wpAny_truthy_bool hq
    | _ => exact absurd h (by simp [alike])
  · exact oneLt_alike (fun hf xs hx => ht ⟨hf, xs, hx⟩) ra rb h hn hu hq
def hasItem : PyData → Bool
  | .tuple [] => false
  | _ => true
theorem keyLt_general (x y : Value) : keyLt' general' x y = oneLt' false x y := rfl
theorem firsts_any {M : Model} : ∀ {vs : List Value} {ds : List PyData}, EachIs (fun v d => ∃ as, Reads s.heap v d as) vs ds → (∀ d ∈ ds, ∃ r, d = .tuple r) →
    ∃ fs : List (Option Value), (∀ (Q : List (Option Value) → Shared → Prop), Q fs s → wpAny M A (vs.mapM firstOfTuple') Q E s) ∧ fs.map (·.isSome) = ds.map hasItem
  | _, _, .nil, _ => ⟨[], fun Q h => by rw [List.mapM_nil]; exact wpAny_pure h, rfl⟩
  | _, _, .cons (b := d) ⟨as, r⟩ t, ht => by
    obtain ⟨fs, h1, h2⟩ := firsts_any (M := M) t fun d hd => ht d (List.mem_cons_of_mem _ hd)
    obtain ⟨ds, rfl⟩ := ht d (List.mem_cons_self ..)
    cases r with
    | @tuple a o xs n _ _ ho hc hd hr =>
      refine ⟨xs[0]? :: fs, fun Q h => ?_, ?_⟩
      · rw [List.mapM_cons]
        refine wpAny_bind ?_
        rw [kas_first_eq]
        refine wpAny_bind (Looks.here (show Looks M s.heap (typeOf (.ref a)) o.cls from (Looks.ld ho).andThen .now) ?_)
        rw [hc, if_neg (by first | decide | simp)]
        refine wpAny_bind (listItems_at ho hd (wpAny_pure ?_))
        exact wpAny_bind (h1 (fun bs s' => wpAny M A (pure (xs[0]? :: bs)) Q E s') (wpAny_pure h))
      · rw [List.map_cons, List.map_cons, h2]
        congr 1
        cases q : xs.toList with
        | nil =>
          rw [q] at hr
          cases hr
          have e0 : xs = #[] := by
            apply Array.toList_inj.mp
            rw [q]
          subst e0
          rfl
        | cons f fr =>
          rw [q] at hr
          cases hr with
          | cons r1 r2 =>
            have hf : xs[0]? = some f := by rw [← Array.getElem?_toList, q]; rfl
            rw [hf]
            rfl
/-- values that read as alike tuples can be sorted -/
theorem sorts_tups {vs : List Value} {ds : List PyData} (e : EachIs (fun v d => ∃ as, Reads s.heap v d as) vs ds) (hal : AllAlike ds) (hk : ∀ d ∈ ds, ∃ r, d = .tuple r) (hu : ∀ d, d ∈ ds → A.units + d.depth < cLine) : SortsAt prog w A s (dataKind s.heap ds) vs := by
  by_cases hne : ∀ d, d ∈ ds → ∃ x r, d = PyData.tuple (x :: r)
  · exact SortsAt.data e hal (.inl hne) hu
  · have hemp : PyData.tuple [] ∈ ds := by
      apply Classical.byContradiction
      intro hno
      refine hne fun d hd => ?_
      obtain ⟨r, rfl⟩ := hk d hd
      cases r with
      | nil => exact absurd hd hno
      | cons x r => exact ⟨x, r, rfl⟩
    have room : ∀ {d d' : PyData}, d ∈ ds → A.units + min d.depth d'.depth < cLine := fun {d d'} hd => Nat.lt_of_le_of_lt (Nat.add_le_add_left (Nat.min_le_left _ _) _) (hu d hd)
    have ask : ∀ f : Bool, ∀ (E : Value → Shared → Prop) (x y : Value) (a b : (dataKind s.heap ds).α) {Q : Bool → Shared → Prop}, (dataKind s.heap ds).keyOf x = some a → (dataKind s.heap ds).keyOf y = some b → Q ((dataKind s.heap ds).blt a b) s → wpAny (model prog w) A (oneLt' f x y) Q E s := by
      intro f E x y a b Q ha hb hq
      obtain ⟨d, as, hd, ra, rfl⟩ := dataKind_inv ha
      obtain ⟨d', as', hd', rb, rfl⟩ := dataKind_inv hb
      refine oneLt_any ra rb (hal d hd d' hd') (fun z => ?_) (room hd) hq
      obtain ⟨r, rfl⟩ := hk d hd
      cases z
    refine ⟨fun v hv => ?_, ?_⟩
    · obtain ⟨d, hd, as, r⟩ := e.left v hv
      exact ⟨_, dataKind_some hal hd r⟩
    · cases ds with
      | nil => exact absurd hemp (by simp)
      | cons d₀ ds₀ =>
        have nall : ∀ fs : List (Option Value), fs.map (·.isSome) = (d₀ :: ds₀).map hasItem → ¬ (fs.toArray.all (·.isSome)) = true := fun fs hfs hall => by
          simp only [List.all_toArray] at hall
          have hm : false ∈ fs.map (·.isSome) := by
            rw [hfs]
            exact List.mem_map.mpr ⟨_, hemp, rfl⟩
          obtain ⟨f, hf, hb⟩ := List.mem_map.mp hm
          have := List.all_eq_true.mp hall f hf
          rw [hb] at this
          cases this
        by_cases h0 : d₀ = PyData.tuple []
        · refine ⟨oneType', fun E x y a b Q ha hb hq => by rw [keyLt'_oneType]; exact ask true E x y a b ha hb hq, fun h2 E Q hq => ?_⟩
          obtain ⟨fs, h1, hfs⟩ := firsts_any (M := model prog w) (A := A) (E := E) e hk
          rw [keyKind'_eq, List.mapM_toArray, map_eq_pure_bind]
          refine wpAny_bind (wpAny_bind (h1 _ (wpAny_pure ?_)))
          rw [if_neg (nall fs hfs)]
          have hf0 : ¬ ((fs.toArray[0]?.bind id).isSome = true) := by
            cases fs with
            | nil => simp
            | cons f fr =>
              rw [List.map_cons, List.map_cons] at hfs
              have := (List.cons.inj hfs).1
              rw [h0] at this
              have this : f.isSome = false := this
              simpa using this
          rw [if_neg hf0, oneTypeOnly'_eq, List.mapM_toArray, map_eq_pure_bind]
          refine wpAny_bind (wpAny_bind (wpAny_bind (kas_mapM (r := Value.type "tuple") _ (fun v hv Q' hq => ?_) (wpAny_pure ?_))))
          · obtain ⟨d, hd, as, r⟩ := e.left v hv
            obtain ⟨r', rfl⟩ := hk d hd
            exact Looks.here (looks_reads (M := model prog w) r) hq
          · have hall : ((List.map (fun _ => Value.type "tuple") vs).toArray.all fun x => x == Value.type "tuple") = true := by
              simp only [List.all_toArray, List.all_map, List.all_eq_true]
              intro _ _
              exact beq_self_eq_true _
            have h0' : (List.map (fun _ => Value.type "tuple") vs).toArray[0]? = some (Value.type "tuple") := by
              cases vs with
              | nil => exact absurd h2 (by simp)
              | cons v vr => simp
            rw [h0']
            simp only [hall, if_true]
            exact wpAny_pure (wpAny_pure hq)
        · refine ⟨general', fun E x y a b Q ha hb hq => by rw [keyLt_general]; exact ask false E x y a b ha hb hq, fun h2 E Q hq => ?_⟩
          obtain ⟨fs, h1, hfs⟩ := firsts_any (M := model prog w) (A := A) (E := E) e hk
          rw [keyKind'_eq, List.mapM_toArray, map_eq_pure_bind]
          refine wpAny_bind (wpAny_bind (h1 _ (wpAny_pure ?_)))
          rw [if_neg (nall fs hfs)]
          have hf0 : (fs.toArray[0]?.bind id).isSome = true := by
            cases fs with
            | nil =>
              rw [List.map_cons] at hfs
              cases hfs
            | cons f fr =>
              rw [List.map_cons, List.map_cons] at hfs
              have := (List.cons.inj hfs).1
              obtain ⟨r, hr⟩ := hk d₀ (List.mem_cons_self ..)
              have this : f.isSome = true := by
                rw [this, hr]
                cases r with
                | nil => exact absurd hr h0
                | cons _ _ => rfl
              simpa using this
          rw [if_pos hf0]
          exact wpAny_pure hq
end
end Kz

namespace Ky
open PySem PySem.Spec PyProof.Rows L2
/-! ### data in order -/
/-- keys that sorted takes: tuples (also the empty one), or no tuples and no None -/
def Srt (ds : List PyData) : Prop := (∀ d, d ∈ ds → ∃ r, d = PyData.tuple r) ∨ (∀ d, d ∈ ds → d ≠ .none ∧ ∀ xs, d ≠ .tuple xs)
theorem srt_sorts {prog : Program} {w : World} {A : Around} {s : Shared} {vs : List Value} {ds : List PyData} (e : PySem.W.EachIs (fun v d => ∃ as, Reads s.heap v d as) vs ds) (hal : PySem.W.AllAlike ds) (hk : Srt ds) (hu : ∀ d, d ∈ ds → A.units + d.depth < cLine) : PySem.W.SortsAt prog w A s (PySem.W.dataKind s.heap ds) vs := by
  rcases hk with hk | hk
  · exact Kz.sorts_tups e hal hk hu
  · exact PySem.W.SortsAt.data e hal (.inr hk) hu
section
variable {X : Cx} {pins : List (Addr × Obj)} {σ : L2.St} {H : Hp} {s : Shared}
theorem each_dp (I : Inv X pins σ H s) : ∀ {xs : List V} {us : List Value} {ds : List PyData}, Vals xs us → DpAll X.K H xs ds → PySem.W.EachIs (fun u (b : V × PyData) => RelV b.1 u ∧ ∃ as, Reads s.heap u b.2 as) us (xs.zip ds)
  | _, _, _, .nil, .nil => .nil
  | _, _, _, .cons r1 r2, .cons d1 d2 => .cons ⟨r1, Dp.reads I _ _ _ d1 r1⟩ (each_dp I r2 d2)
theorem dpAll_len {K : PySem.W.Frag} : ∀ {xs : List V} {ds : List PyData}, DpAll K H xs ds → xs.length = ds.length
  | _, _, .nil => rfl
  | _, _, .cons _ d => by rw [List.length_cons, List.length_cons, dpAll_len d]
theorem zip_snd {xs : List V} {ds : List PyData} (h : xs.length = ds.length) : (xs.zip ds).map (·.2) = ds := List.map_snd_zip (by omega)
theorem vals_each : ∀ {us : List Value} {bs : List (V × PyData)}, PySem.W.EachIs (fun u (b : V × PyData) => RelV b.1 u) us bs → Vals (bs.map (·.1)) us
  | _, _, .nil => .nil
  | _, _, .cons r t => .cons r (vals_each t)
/-- the items in the order of their data -/
def sortD (xs : List V) (ds : List PyData) : List V := ((xs.zip ds).mergeSort (PySem.W.dataLe false (·.2))).map (·.1)
theorem sortD_len {xs : List V} {ds : List PyData} (h : xs.length = ds.length) : (sortD xs ds).length = xs.length := by
  unfold sortD
  rw [List.length_map, List.length_mergeSort, List.length_zip, ← h, Nat.min_self]
def rSortedD (K : PySem.W.Frag) : List V → Hp → VK → Prop := fun vs H Q => ∃ (a : Addr) (xs : List V) (ds : List PyData), vs = [.ref a] ∧ SqL K H a xs ∧ DpAll K H xs ds ∧ PySem.W.AllAlike ds ∧ Srt ds ∧ (∀ d ∈ ds, d.depth ≤ 60) ∧ ∀ p, H p = none → Q (.ref p) (upd H p (.lst (sortD xs ds)))
theorem cr_sortedD (hu : X.A.units + 64 < cLine) : CallR X (.builtin "sorted") (rSortedD X.K) := by
  intro pins s σ H vs us Q I r h
  obtain ⟨a, xs, ds, rfl, hs, hd, hal, hk, hdep, q⟩ := h
  obtain rfl := Vals.ref1 r
  obtain ⟨its, rv, hl, hz⟩ := I.list hs
  have hlen := dpAll_len hd
  have e := each_dp I rv hd
  have hm := zip_snd hlen
  have er' : PySem.W.EachIs (fun v (b : V × PyData) => ∃ as, Reads (PySem.W.sortingHeap (PySem.W.copyHeap s.heap its) (s.heap.objs.size + 1) its) v b.2 as) its (xs.zip ds) := e.mono fun _ _ ⟨_, as, r⟩ => ⟨as, PyProof.Rows.Reads.keeps (fun _ _ => PySem.W.sorting_copy_old) r⟩
  have em := PySem.W.each_map (R := fun v d => ∃ as, Reads (PySem.W.sortingHeap (PySem.W.copyHeap s.heap its) (s.heap.objs.size + 1) its) v d as) (fun b : V × PyData => b.2) er'
  rw [hm] at em
  refine PySem.W.sorted_vals hl.isList (srt_sorts (s := { s with heap := PySem.W.sortingHeap (PySem.W.copyHeap s.heap its) (s.heap.objs.size + 1) its }) em hal hk fun d hm' => ?_) (by rw [← rv.length]; exact hz) ?_
  · have := hdep d hm'
    show X.A.units + 1 + 1 + d.depth < cLine
    omega
  · have out := PySem.W.sortVals_data (enc := fun b : V × PyData => b.2) (R := fun u (b : V × PyData) => RelV b.1 u) false (e.mono fun _ _ z => z.1) er' (by rw [hm]; exact hal)
    rw [hm] at out
    generalize PySem.W.sortVals (PySem.W.dataKind (PySem.W.sortingHeap (PySem.W.copyHeap s.heap its) (s.heap.objs.size + 1) its) ds) false its its = res at out ⊢
    obtain ⟨ep, he'⟩ := PyProof.Rows.sortedAll_at s.heap its res.toArray
    exact ⟨.ref _, upd H (s.heap.objs.size + 1) (.lst (sortD xs ds)), I.laid (t' := s.toks) (fun _ _ => PyProof.Rows.sortedAll_old) (Nat.le_succ _) ⟨by rw [sortD_len hlen]; exact hz, _, ep, vals_each out, he'⟩, rfl, q _ (I.hok.fresh (Nat.le_succ _))⟩
/-! ### < of data -/
def rLtD (K : PySem.W.Frag) : R2 := fun x y H Q => ∃ d e, Dp K H x d ∧ Dp K H y e ∧ PySem.W.alike d e = true ∧ d ≠ .none ∧ d.depth ≤ 60 ∧ Q (.bl (PySem.W.dataLt d e)) H
theorem op_ltD (hu : X.A.units + 64 < cLine) : OpR X (compareOp .Lt) (rLtD X.K) := by
  intro pins s σ H x y v u Q I rx ry h
  obtain ⟨d, e, hd, he, ha, hn, hz, q⟩ := h
  obtain ⟨as, r1⟩ := Dp.reads I d x v hd rx
  obtain ⟨bs, r2⟩ := Dp.reads I e y u he ry
  exact PySem.W.lt_data r1 r2 ha hn (by have := Nat.min_le_left d.depth e.depth; omega) ⟨.bl _, H, I, rfl, q⟩
end
end Ky

namespace Ky
open PySem PySem.Spec PyProof.Rows L2
/-! ### sorted(l, key=f), f a def of the program -/
theorem freed_none (h : Heap) (a : Addr) : (h.update a fun _ => ⟨.none, none, .freed, #[]⟩).get? a = none := by
  cases e : (h.update a fun _ => ⟨.none, none, .freed, #[]⟩).get? a with
  | none => rfl
  | some o =>
    obtain ⟨h1, h2⟩ := Heap.get?_some_iff.mp e
    exfalso
    obtain ⟨objs⟩ := h
    simp only [Heap.update, Array.getElem?_modify, if_pos] at h1
    cases q : objs[a]? with
    | none =>
      rw [q] at h1
      cases h1
    | some x =>
      rw [q] at h1
      cases h1
      cases h2
/-- a context at another place of the same calls, where nothing is raised -/
abbrev atA (X : Cx) (A' : Around) : Cx := { X with A := A', xe := fun _ _ => False }
section
variable {X : Cx} {pins : List (Addr × Obj)} {σ : L2.St} {H : Hp} {s : Shared}
theorem inAt {A' : Around} (I : Inv X pins σ H s) (hh : X.calm = true → A'.handled = none) (hf : A'.frames = X.A.frames) : Inv (atA X A') pins σ H s :=
  ⟨⟨I.ok.mod, I.ok.kind, I.ok.glob, I.ok.blt, I.ok.above, I.ok.inj, I.ok.has, I.ok.cab, hh, hf.trans I.ok.frames, I.ok.stk, I.ok.exf, I.ok.bs, I.ok.bsz, I.ok.noex, I.ok.exfs, I.ok.funs, I.ok.frf⟩, I.os, I.bare, I.base, I.loc, I.cell, I.free, I.freeC, I.pin, I.hok, I.len⟩
theorem outAt {A' : Around} (I : Inv (atA X A') pins σ H s) (ok : X.Ok) : Inv X pins σ H s := ⟨ok, I.os, I.bare, I.base, I.loc, I.cell, I.free, I.freeC, I.pin, I.hok, I.len⟩
/-- records of ours have turned, one of them is tracked from now on -/
theorem take_in {h' : Heap} {t' : Nat} {ch : List Addr} {it : Addr} {o : HO} (I : Inv X pins σ H s) (k : ∀ b ob, b ∉ ch → s.heap.get? b = some ob → h'.get? b = some ob) (f : ∀ b ∈ ch, FpOk X pins H b) (hit : it ∈ ch)
    (new : ObjOk X.prog X.w (upd H it o) h' it o) : Inv X pins σ (upd H it o) { s with heap := h', toks := t' } := by
  have nch : ∀ b u, H b = some u → b ∉ ch := fun b u e z => by
    have := (f b z).1
    rw [e] at this
    cases this
  have up : ∀ b u, H b = some u → upd H it o b = some u := fun b u e => by rw [upd_ne (fun z => nch b u e (by rw [z]; exact hit))]; exact e
  refine I.step (g' := s.gens) (d' := s.drawn) (ch := ch) (fun b hb => ?_) (fun b ob _ _ hc e _ => k b ob hc e) (fun b ob _ _ hc e _ => ⟨ob.slots, k b ob hc e⟩)
    (fun b ob hc _ n => by rw [upd_ne (fun z => hc (by rw [z]; exact hit))]; exact n) (fun b ob hc e => ⟨ob, k b ob hc e⟩) (fun b _ e => up b _ e) (fun b _ _ e => up b _ e) (fun b ps e => ⟨#[], by rw [up b _ e]; simp⟩) (fun m hm => ?_) (fun b u e => ?_) I.bare
  · obtain ⟨_, h1, _, h2, h3, h4⟩ := f b hb
    exact ⟨h2, h1, h3, h4⟩
  · obtain ⟨ob, es, ep, ho, r⟩ := hm
    exact ⟨ob, es, ep, k _ ob (fun z => (f _ z).2.1 rfl) ho, r⟩
  · by_cases hb : b = it
    · rw [hb, upd_same] at e
      cases e
      rw [hb]
      exact new
    · rw [upd_ne hb] at e
      refine (I.hok b u e).stay (fun c v hc q => k c v ?_ q) (fun c q => up c _ q) fun c _ q => up c _ q
      rcases hc with z | z
      · rw [z]; exact nch b u e
      · exact nch c _ z
theorem dpAll_snoc {K : PySem.W.Frag} : ∀ {xs : List V} {ds : List PyData} {x : V} {d : PyData}, DpAll K H xs ds → Dp K H x d → DpAll K H (xs ++ [x]) (ds ++ [d])
  | _, _, _, _, .nil, h => .cons h .nil
  | _, _, _, _, .cons h1 h2, h => .cons h1 (dpAll_snoc h2 h)
mutual
theorem Kept.dp {K : PySem.W.Frag} {H H' : Hp} (e : Kept H H') : ∀ (d : PyData) (v : V), Dp K H v d → Dp K H' v d
  | .none, _, h => by cases h; exact .non
  | .bool b, _, h => by cases h; exact .bl b
  | .int i, _, h => by cases h; exact .int i
  | .str x, _, h => by cases h; exact .str x
  | .list ds, _, h => by
    cases h with
    | lst hs ha => exact .lst (e.sq hs) (Kept.dpAll e ds _ ha)
  | .tuple ds, _, h => by
    cases h with
    | tup hs ha =>
      refine .tup ?_ (Kept.dpAll e ds _ ha)
      rcases hs with (hs | ⟨o, hs⟩) | hs
      · exact .inl (.inl (e.tup hs))
      · exact .inl (.inr ⟨o, e.keep _ _ (fun ps z => by cases z) hs⟩)
      · exact .inr hs
  | .dict _, _, h => by cases h
theorem Kept.dpAll {K : PySem.W.Frag} {H H' : Hp} (e : Kept H H') : ∀ (ds : List PyData) (vs : List V), DpAll K H vs ds → DpAll K H' vs ds
  | [], _, h => by cases h; exact .nil
  | d :: ds, _, h => by
    cases h with
    | cons h1 h2 => exact .cons (Kept.dp e d _ h1) (Kept.dpAll e ds _ h2)
end
def rSortedF (K : PySem.W.Frag) (f : Addr) (sp : Sp) : List V → List V → Hp → VK → Prop := fun vs zs H Q => ∃ (a : Addr) (xs : List V) (ds : List PyData), vs = [.ref a] ∧ zs = [.ref f] ∧ SqL K H a xs ∧ xs.length = ds.length ∧ PySem.W.AllAlike ds ∧ Srt ds ∧ (∀ d ∈ ds, d.depth ≤ 60) ∧
  (∀ (i : Nat) (x : V) (d : PyData) (H1 : Hp), xs[i]? = some x → ds[i]? = some d → Kept H H1 → sp [x] H1 (fun y H2 => Kept H1 H2 ∧ Dp K H2 y d) E0) ∧ ∀ H2, Kept H H2 → ∀ p, H2 p = none → Q (.ref p) (upd H2 p (.lst (sortD xs ds)))
theorem vals_len {xs : List V} {us : List Value} (r : Vals xs us) : xs.length = us.length := r.length
theorem cr_sortedF {k : Nat} {f : Addr} {fd : FuncData} {ps : List Str} {sp : Sp} (hr : Room (k + 1) X.A) (F : FnOk X.prog X.w X.K X.mg X.base CX0 k f fd ps sp) (hb : Binds X.K fd ps []) : CallRK X (.builtin "sorted") [Str.ofString "key"] (rSortedF X.K f sp) := by
  intro pins s σ H vs zs us ws Q I r rz h
  obtain ⟨a, xs, ds, rfl, rfl, hs, hlen, hal, hk, hdep, call, q⟩ := h
  obtain rfl := Vals.ref1 r
  obtain ⟨w1, rfl, e1⟩ := vals1 rz
  obtain rfl : w1 = Value.ref f := e1
  obtain ⟨its, rv, hl, hz⟩ := I.list hs
  have hil : xs.length = its.length := rv.length
  have hZ : its.length ≤ sizeLine := by omega
  refine PySem.W.sorted_of_sort hl.isList hZ (PyProof.Rows.ksk_s1 _ _) (fun _ => PyProof.Rows.ksk_l1 _ _) fun E' => ?_
  show wpAny _ _ (Builtin.«list.sort» ⟨[.ref (s.heap.objs.size + 1)], [(Str.ofString "key", .ref f)]⟩) _ _ _
  rw [PyProof.Rows.ksk_t1]
  have hoL := PySem.W.copyHeap_at s.heap its
  have szc : (PySem.W.copyHeap s.heap its).objs.size = s.heap.objs.size + 2 := by
    unfold PySem.W.copyHeap
    rw [Heap.size_push, Heap.size_after_update, Heap.size_push]
  have k0 : ∀ b o, s.heap.get? b = some o → (PySem.W.sortingHeap (PySem.W.copyHeap s.heap its) (s.heap.objs.size + 1) its).get? b = some o := fun _ _ => PySem.W.sorting_copy_old
  generalize hL : s.heap.objs.size + 1 = L at hoL k0 ⊢
  obtain ⟨ep, ho1⟩ : ∃ ep, ((PySem.W.copyHeap s.heap its).update L (Obj.mapSeq fun _ => (#[] : Array Value))).get? L = some (PyProof.Rows.seqObj "list" #[] ep) := ⟨_, PyProof.Rows.get?_update_seq hoL fun _ => #[]⟩
  unfold PyProof.Rows.ksk_tree
  refine wpAny_bind (PyProof.Rows.listItems_at hoL rfl ?_)
  refine wpAny_bind (PyProof.Rows.listUpdate_at hoL rfl ?_ (by rw [List.size_toArray]; exact hZ) (Nat.zero_le _))
  refine wpAny_bind (PyProof.Rows.seqEpoch_at ho1 rfl ?_)
  refine wpAny_bind (wpAny_newTuple ?_ (by show its.length ≤ _; exact hZ))
  refine wpAny_bind (wpAny_newList ?_ (Nat.zero_le _))
  refine wpAny_holding ?_
  have hLS : (((PySem.W.copyHeap s.heap its).update L (Obj.mapSeq fun _ => (#[] : Array Value))).push (PyProof.Rows.seqObj "tuple" its.toArray 0)).objs.size = s.heap.objs.size + 3 := by rw [Heap.size_push, Heap.size_after_update, szc]
  have nk0 : (PySem.W.sortingHeap (PySem.W.copyHeap s.heap its) L its).get? (((PySem.W.copyHeap s.heap its).update L (Obj.mapSeq fun _ => (#[] : Array Value))).push (PyProof.Rows.seqObj "tuple" its.toArray 0)).objs.size = some (PyProof.Rows.seqObj "list" #[] 0) := Heap.get?_push_size _ rfl
  have nL0 : (PySem.W.sortingHeap (PySem.W.copyHeap s.heap its) L its).get? L = some (PyProof.Rows.seqObj "list" #[] ep) := Heap.get?_push_of_some _ (Heap.get?_push_of_some _ ho1)
  show wpAny (model X.prog X.w) X.A.in1.in1 (PyProof.Rows.ksk_rest L (.ref f) false its.toArray ep (.ref (((PySem.W.copyHeap s.heap its).update L (Obj.mapSeq fun _ => (#[] : Array Value))).push (PyProof.Rows.seqObj "tuple" its.toArray 0)).objs.size)) _ _ { s with heap := PySem.W.sortingHeap (PySem.W.copyHeap s.heap its) L its }
  generalize hkS : (((PySem.W.copyHeap s.heap its).update L (Obj.mapSeq fun _ => (#[] : Array Value))).push (PyProof.Rows.seqObj "tuple" its.toArray 0)).objs.size = kS at hLS nk0 ⊢
  generalize PySem.W.sortingHeap (PySem.W.copyHeap s.heap its) L its = h0 at k0 nk0 nL0 ⊢
  have hLs : s.heap.objs.size ≤ L := by omega
  have hkSs : s.heap.objs.size ≤ kS := by omega
  have hka : kS ≠ L := by omega
  have I0 : Inv (atA X X.A.in1.in1) pins σ H { s with heap := h0, toks := s.toks } := (inAt (A' := X.A.in1.in1) I (fun _ => hr.hd) rfl).kept (t' := s.toks) k0
  have fp : ∀ (b : Addr) (H' : Hp), s.heap.objs.size ≤ b → H' b = none → FpOk (atA X X.A.in1.in1) pins H' b := fun b H' hb' hn => (inAt (A' := X.A.in1.in1) I (fun _ => hr.hd) rfl).fpOk hb' hn
  have pk : ∀ {H' : Hp} {s' : Shared} {kA : Array Value} {e : Nat}, Inv (atA X X.A.in1.in1) pins σ H' s' → H' kS = none → H' L = none → s'.heap.get? kS = some (PyProof.Rows.seqObj "list" kA e) → s'.heap.get? L = some (PyProof.Rows.seqObj "list" #[] ep) →
      Inv (atA X X.A.in1.in1) (pins ++ [(L, PyProof.Rows.seqObj "list" #[] ep), (kS, PyProof.Rows.seqObj "list" kA e)]) σ H' s' := fun {H' s' kA e} I' n1 n2 g1 g2 => I'.pins_of fun p hp => by
    rcases List.mem_append.mp hp with hp | hp
    · exact I'.pin p (List.mem_append_right _ hp)
    · rcases List.mem_cons.mp hp with e2 | hp
      · subst e2
        exact ⟨g2, n2, (fp L H' hLs n2).2.1, (fp L H' hLs n2).2.2.1, fun v z => by cases z⟩
      · have e2 := List.mem_singleton.mp hp
        subst e2
        exact ⟨g1, n1, (fp kS H' hkSs n1).2.1, (fp kS H' hkSs n1).2.2.1, fun v z => by cases z⟩
  have upk : ∀ {H' : Hp} {s' : Shared} {kA : Array Value} {e : Nat}, Inv (atA X X.A.in1.in1) (pins ++ [(L, PyProof.Rows.seqObj "list" #[] ep), (kS, PyProof.Rows.seqObj "list" kA e)]) σ H' s' →
      Inv (atA X X.A.in1.in1) pins σ H' s' ∧ H' kS = none ∧ H' L = none ∧ s'.heap.get? kS = some (PyProof.Rows.seqObj "list" kA e) ∧ s'.heap.get? L = some (PyProof.Rows.seqObj "list" #[] ep) := fun {H' s' kA e} I' => by
    have a1 := I'.pin (kS, PyProof.Rows.seqObj "list" kA e) (by simp)
    have a2 := I'.pin (L, PyProof.Rows.seqObj "list" #[] ep) (by simp)
    exact ⟨I'.unpinned, a1.2.1, a2.2.1, a1.1, a2.1⟩
  unfold PyProof.Rows.ksk_rest
  refine wpAny_bind (wpAny_rule ?_)
  first
    | rw [List.forIn_toArray]
    | (rw [← Array.forIn_toList]; simp only [List.toList_toArray])
    | rw [← Array.forIn_toList]
  refine wpAny_bind (PyProof.Rows.ksk_fold (fun i s' => ∃ (H' : Hp) (kA : Array Value) (e : Nat) (ys : List V), Inv (atA X X.A.in1.in1) (pins ++ [(L, PyProof.Rows.seqObj "list" #[] ep), (kS, PyProof.Rows.seqObj "list" kA e)]) σ H' s' ∧ Kept H H' ∧ Vals ys kA.toList ∧ DpAll X.K H' ys (ds.take i)) its 0 _
    ⟨H, #[], 0, [], pk I0 (I.hok.fresh hkSs) (I.hok.fresh hLs) nk0 nL0, Kept.refl H, .nil, by rw [List.take_zero]; exact .nil⟩ ?step ?done)
  case step =>
    rintro j x s' hx ⟨H', kA, e, ys, I', kp, rv', dp'⟩
    simp only [Nat.zero_add] at dp' ⊢
    have hj : j < its.length := (List.getElem?_eq_some_iff.mp hx).1
    have hxj : xs[j]? = some (xs[j]'(by omega)) := List.getElem?_eq_getElem _
    have hdj : ds[j]? = some (ds[j]'(by omega)) := List.getElem?_eq_getElem _
    obtain ⟨u, hu', ru⟩ := rv.get hxj
    rw [hx] at hu'
    cases hu'
    have hrun := run_fn (X := atA X X.A.in1.in1) (k := k) F ⟨hr.hd, by have := hr.dp; show X.A.depth + 3 * k + 5 < _; omega, by have := hr.un; show X.A.units + 1 + 1 + 16 * k + 200 < _; omega⟩ hb .nil pass0 I' (.cons ru .nil) (call j _ _ H' hxj hdj kp)
    refine wpAny_bind (wpAny_attempt (thnF hrun fun v s'' ⟨y, H2, I2, ry, kp2, dy⟩ => ?_))
    try dsimp only
    obtain ⟨I3, n1, n2, g1, g2⟩ := upk I2
    have hsz : kA.size = j := by
      have h1 : ys.length = kA.size := by
        have z := rv'.length
        simpa using z
      have h2 := dpAll_len dp'
      rw [List.length_take] at h2
      have h3 : j ≤ ds.length := by omega
      rw [Nat.min_eq_left h3] at h2
      exact h1.symm.trans h2
    obtain ⟨c2, hc2⟩ : ∃ c2, (s''.heap.update kS (Obj.mapSeq (·.push v))).get? kS = some (PyProof.Rows.seqObj "list" (kA.push v) c2) := ⟨_, PyProof.Rows.get?_update_seq g1 (·.push v)⟩
    refine wpAny_bind (PyProof.Rows.listUpdate_at g1 rfl ?_ (by omega) (by rw [Array.size_push]; omega))
    obtain ⟨f0, f1, f2, f3, f4, f5⟩ := fp kS H2 hkSs n1
    have I4 : Inv (atA X X.A.in1.in1) pins σ H2 { s'' with heap := s''.heap.update kS (Obj.mapSeq (·.push v)), toks := s''.toks } := I3.turned (it := kS) (fun b o hbS e => (Heap.get?_update_other _ _ (Ne.symm hbS)).trans e) f0 f1 f3 f4 f5
    have ek : ds.take (j + 1) = ds.take j ++ [ds[j]'(by omega)] := by rw [List.take_add_one, hdj]; simp
    refine wpAny_pure ⟨rfl, H2, kA.push v, c2, ys ++ [y], pk I4 n1 n2 hc2 ((Heap.get?_update_other _ _ hka).trans g2), kp.trans kp2, ?_, ?_⟩
    · rw [Array.toList_push]
      exact rv'.append (.cons ry .nil)
    · rw [ek]
      exact dpAll_snoc (Kept.dpAll kp2 _ _ dp') dy
  case done =>
    rintro s' ⟨H', kA, e, ys, I', kp, rv', dp'⟩
    have e3 : ds.take (0 + its.length) = ds := List.take_of_length_le (by omega)
    rw [e3] at dp'
    obtain ⟨I3, n1, n2, g1, g2⟩ := upk I'
    try dsimp only
    refine wpAny_bind (PyProof.Rows.listItems_at g1 rfl ?_)
    have hly := dpAll_len dp'
    have hsz : kA.size = its.length := by
      have h1 : ys.length = kA.size := by
        have z := rv'.length
        simpa using z
      exact h1.symm.trans (hly.trans (hlen.symm.trans hil))
    have er := PySem.W.each_map (R := fun v d => ∃ as, Reads s'.heap v d as) (fun b : V × PyData => b.2) ((each_dp I3 rv' dp').mono fun _ _ z => z.2)
    rw [zip_snd hly] at er
    refine PySem.W.keyH_end (κ := PySem.W.dataKind s'.heap ds) (h₁ := s'.heap.update kS fun _ => ⟨.none, none, .freed, #[]⟩) (vs := its) (fun b o hbL eb => ?_) (freed_none _ _) g1 g2 hka (srt_sorts er hal hk fun d hm => ?_) hsz hZ fun h' tk c k3 n3 => ?_
    · by_cases hbS : b = kS
      · rw [hbS, freed_none] at eb
        cases eb
      · rw [Heap.get?_update_other _ _ (Ne.symm hbS)] at eb
        exact eb
    · have h1 := hdep d hm
      have h2 := hr.un
      show X.A.units + 1 + 1 + d.depth < cLine
      omega
    · have ko : PySem.W.KeyedOut false ((xs.zip ds).map fun b : V × PyData => b.2) its (PySem.W.sortVals (PySem.W.dataKind s'.heap ds) false kA.toList its) := by
        rw [zip_snd hlen]
        exact ⟨s'.heap, kA.toList, hal, rfl, er⟩
      have eR : PySem.W.EachIs (fun u (b : V × PyData) => RelV b.1 u) its (xs.zip ds) := by
        have aux : ∀ {xs : List V} {us : List Value} {ds : List PyData}, Vals xs us → xs.length = ds.length → PySem.W.EachIs (fun u (b : V × PyData) => RelV b.1 u) us (xs.zip ds) := by
          intro xs us ds r
          induction r generalizing ds with
          | nil => intro _; exact .nil
          | cons r1 r2 ih =>
            intro hl
            cases ds with
            | nil => cases hl
            | cons d ds => exact .cons r1 (ih (Nat.succ.inj hl))
        exact aux rv hlen
      have out := vals_each (PySem.W.keyedOut_each (R := fun u (b : V × PyData) => RelV b.1 u) (fun b : V × PyData => b.2) ko eR)
      refine ⟨rfl, .ref L, upd H' L (.lst (sortD xs ds)), outAt (take_in (t' := tk) (ch := [kS, L]) I3 (fun b ob hb' eb => ?_) (fun b hb' => ?_) (by simp) ⟨by rw [sortD_len hlen]; exact hz, _, c, out, n3⟩) I.ok, rfl, q H' kp L n2⟩
      · have hb1 : b ≠ kS := fun z => hb' (by simp [z])
        have hb2 : b ≠ L := fun z => hb' (by simp [z])
        exact k3 b ob hb2 ((Heap.get?_update_other _ _ (Ne.symm hb1)).trans eb)
      · rcases List.mem_cons.mp hb' with z | z
        · rw [z]; exact fp kS H' hkSs n1
        · rw [List.mem_singleton.mp z]; exact fp L H' hLs n2
end
end Ky

namespace Ky
open PySem PySem.Spec PyProof.Rows L2
/-! ### {k: v for ..} whose keys are tuples of numbers and texts -/
theorem dictSet_T {X : Cx} {pins : List (Addr × Obj)} {σ : L2.St} {H : Hp} {s : Shared} {E : Value → Shared → Prop} {D b : Addr} {kvs : List (List L2.Key × V)} {k : List L2.Key} {v : V} {r : Value} {Q : Unit → Shared → Prop} (hu : X.A.units + 1 < cLine) (I : Inv X pins σ H s) (hD : H D = some (.dT kvs)) (hb : H b = some (.tup (k.map kV)))
    (hz : kvs.length < sizeLine) (rv : RelV v r) (h : ∀ s', Inv X pins σ (upd H D (.dT (putK kvs k v))) s' → Q () s') : wpAny (model X.prog X.w) X.A (dictSet D (.ref b) r) Q E s := by
  obtain ⟨z, hd, xs, rel, dd⟩ := dt_of I.hok hD
  have hzx : xs.length ≤ sizeLine := by rw [← Paired.length rel]; exact z
  have hl : (putK kvs k v).length ≤ sizeLine := by have := length_putK kvs k v; omega
  refine wpAny_dictSet_heap (hsz := hzx) (show X.A.units < cLine by omega) (key_of I.hok hb) dd fun h' dd' hs => h _ ?_
  obtain ⟨q, es, ep, hq, h2, h3, h4, _, h5⟩ := dd'
  refine d_write I (by rw [hD]; exact True.intro) hs ⟨q, hq⟩ ⟨hl, hd, _, (rel.put k hb rv).keeps fun c ys ec => ?_, q, es, ep, hq, h2, h3, h4, h5⟩
  rw [upd_ne (ne_of ec hD (fun z => nomatch z))]
  exact ec
def tDcT (wi : TI) (g : TG) (tt : TT) (tk tv : TE) (vs : List Nat) : TE := fun σ H Q => wi σ H fun J H1 => ∀ D, H1 D = none → ∃ W : Nat → Nat → Hp → Prop, (∃ m, W 0 m (upd H1 D (.dT []))) ∧ ∀ i m H, W i m H →
  (J.stop i H ∧ Q (.ref D) H) ∨ (J.go i H ∧ ∃ Nx : Hp → Prop, (∀ H', Nx H' → ∃ m', m' < m ∧ W (i + 1) m' H') ∧ ∀ x H', J.yld i H x H' → g x (wipe σ vs) H' fun σ2 H2 => wipe σ2 vs = wipe σ vs ∧ tt σ2 H2 fun b H3 =>
    if b = true then tk σ2 H3 fun y H4 => tv σ2 H4 fun z H5 => ∃ kvs k p, y = .ref p ∧ H5 p = some (.tup (k.map kV)) ∧ H5 D = some (.dT kvs) ∧ kvs.length < sizeLine ∧ Nx (upd H5 D (.dT (putK kvs k z))) else Nx H3)
theorem dcT_core {X : Cx} {pins : List (Addr × Obj)} {s : Shared} {σ : L2.St} {H : Hp} {Q : VK} {kx vx tg iter : Expr} {ifs : List Expr} {scope : Scope} {own : List (Str × Nat)} {pos pos' : Pos} {wi : TI} {g : TG} {tt : TT} {tk tv : TE} {use : Option (Value → Sem Unit)} {Qf : Value → Shared → Prop} (hu : X.A.units + 1 < cLine) (hc : X.calm = true) (hN : X.N.Nodup) (hi : PI X tg iter wi) (ok : BlkOk X.N X.env.scope scope own)
    (hg : ∀ (s : Shared) (H : Hp) (C : Addr) (cl : List (Str × Addr)) (fp : List Addr), PG (X.blk s H scope (compEnvC scope cl C X.env) fp) tg g) (ht : ∀ (s : Shared) (H : Hp) (C : Addr) (cl : List (Str × Addr)) (fp : List Addr), PTs (X.blk s H scope (compEnvC scope cl C X.env) fp) ifs tt)
    (hk : ∀ (s : Shared) (H : Hp) (C : Addr) (cl : List (Str × Addr)) (fp : List Addr), PE (X.blk s H scope (compEnvC scope cl C X.env) fp) kx tk)
    (he : ∀ (s : Shared) (H : Hp) (C : Addr) (cl : List (Str × Addr)) (fp : List Addr), PE (X.blk s H scope (compEnvC scope cl C X.env) fp) vx tv) (hs : ∀ x, foldedSetIterable iter X.env x = pure x) (I : Inv X pins σ H s) (h : tDcT wi g tt tk tv (own.map (·.2)) σ H Q)
    (hRR : ∀ D C s' m H', Inv X pins σ H' s' → Q (.ref D) H' → s'.heap.Ns C m → FpOk X pins H' C → compPost (model X.prog X.w) X.A X.xe use Qf (.ref D) C (.ok .next) s') :
    wpAny (model X.prog X.w) X.A (comprehension (.DictComp kx vx [⟨tg, iter, ifs, 0⟩] scope pos) scope X.env pos' newDict false (eval iter X.env) use) Qf X.xe s := by
  have hfree : ∀ y ∈ scope.names, y.2 = .free → ∃ c, X.env.cells.lookup y.1 = some c := fun y hy e => (ok.free y hy e).elim (fun k => I.ok.has _ (.inl k)) fun k => I.ok.has _ (.inr k)
  refine wpAny_comprehension_free (use := use) rfl hs (closure_ok hfree) ok.kind (fun y hy e => by rw [ok.uniq y hy, e]) (thn (hi.run pins s σ H _ I h) fun xv s1 hx => thn hx fun itv s2 h2 => ?_)
  obtain ⟨it, fp, tn, J, H2, rfl, I2, T, st2, f2, q⟩ := h2
  refine wpAny_newObj_type (newEnv_comp ?_)
  have hDn : H2 s2.heap.objs.size = none := I2.hok.fresh (Nat.le_refl _)
  obtain ⟨W, ⟨m0, w0⟩, turn⟩ := q _ hDn
  have I3 : Inv X pins σ (upd H2 s2.heap.objs.size (.dT [])) { s2 with heap := s2.heap.push { cls := .type "dict", data := .dict #[] }, toks := s2.toks } := I2.laid (fun b o e => Heap.get?_push_of_some _ e) (Nat.le_refl _) (dt_empty s2.heap I2.big)
  have sz : ∀ b ∈ fp, b < s2.heap.objs.size := fun b hb => let ⟨_, e, _⟩ := T.obj _ _ st2 b hb; Heap.lt_size e
  have st3 : tn 0 (s2.heap.push { cls := .type "dict", data := .dict #[] }) := T.keep _ _ _ st2 fun b _ o e => Heap.get?_push_of_some _ e
  have f3 : ∀ b ∈ fp, FpOk X pins (upd H2 s2.heap.objs.size (.dT [])) b ∧ b < (s2.heap.push ({ cls := .type "dict", data := .dict #[] } : Obj)).objs.size := fun b hb => by
    refine ⟨⟨?_, (f2 b hb).2⟩, by rw [Heap.size_push]; exact Nat.lt_succ_of_lt (sz b hb)⟩
    rw [upd_ne (Nat.ne_of_lt (sz b hb))]
    exact (f2 b hb).1
  generalize s2.heap.objs.size = D at hDn turn w0 I3 f3 ⊢
  generalize hH3 : upd H2 D (.dT []) = H3 at I3 w0 f3
  generalize hs3 : ({ s2 with heap := s2.heap.push { cls := .type "dict", data := .dict #[] }, toks := s2.toks } : Shared) = s3 at I3 ⊢
  have h3 : s3.heap = s2.heap.push { cls := .type "dict", data := .dict #[] } := by rw [← hs3]
  rw [← h3] at st3
  have f3 : ∀ b ∈ fp, FpOk X pins H3 b ∧ b < s3.heap.objs.size := fun b hb => by rw [h3]; exact f3 b hb
  have I4 := block_start I3 ok hN f3
  have pg := hg s3 H3 s3.heap.objs.size (cellsFrom (s3.heap.objs.size + 1) scope.names (cloFrom X.env.cells scope.names [])) fp
  have pt := ht s3 H3 s3.heap.objs.size (cellsFrom (s3.heap.objs.size + 1) scope.names (cloFrom X.env.cells scope.names [])) fp
  have pk := hk s3 H3 s3.heap.objs.size (cellsFrom (s3.heap.objs.size + 1) scope.names (cloFrom X.env.cells scope.names [])) fp
  have pe := he s3 H3 s3.heap.objs.size (cellsFrom (s3.heap.objs.size + 1) scope.names (cloFrom X.env.cells scope.names [])) fp
  have nfp : ∀ b ∈ fp, H3 b = none := fun b hb => (f3 b hb).1.1
  show codeAny _ _ (.compStart (.DictComp kx vx [⟨tg, iter, ifs, 0⟩] scope pos) 0 (.ref it) (.ref D) (compEnvC scope (cellsFrom (s3.heap.objs.size + 1) scope.names (cloFrom X.env.cells scope.names [])) s3.heap.objs.size X.env)) _ { s3 with heap := pushCells (s3.heap.push { cls := .type "dict", data := .dict #[] }) scope.names }
  have cL : (compEnvC scope (cellsFrom (s3.heap.objs.size + 1) scope.names (cloFrom X.env.cells scope.names [])) s3.heap.objs.size X.env).locals = s3.heap.objs.size := rfl
  generalize compEnvC scope (cellsFrom (s3.heap.objs.size + 1) scope.names (cloFrom X.env.cells scope.names [])) s3.heap.objs.size X.env = ce at I4 pg pt pk pe cL ⊢
  have st4 : tn 0 (pushCells (s3.heap.push { cls := .type "dict", data := .dict #[] }) scope.names) := T.keep _ _ _ st3 fun b _ o e => pushCells_keeps _ _ _ _ (Heap.get?_push_of_some _ e)
  generalize hs4 : ({ s3 with heap := pushCells (s3.heap.push { cls := .type "dict", data := .dict #[] }) scope.names } : Shared) = s4 at I4 ⊢
  have st4 : tn 0 s4.heap := by rw [← hs4]; exact st4
  have stat : ∀ {σ' : L2.St} {H' : Hp} {s' : Shared}, Inv (X.blk s3 H3 scope ce fp) [] σ' H' s' → (∀ b ∈ fp, H' b = none) → ∀ b ∈ fp, FpOk (X.blk s3 H3 scope ce fp) [] H' b := fun {σ' H' s'} I' hn b hb =>
    ⟨hn b hb, (I'.ok.exf b hb).1, I'.ok.exfs b hb, .inl hb, fun x c e => (I'.ok.exf b hb).2 x c e, fun p hp => absurd (show p ∈ ([] : List (Addr × Obj)) ++ [] from hp) (by simp)⟩
  refine codeAny_compStart_dict ?loop (T.self X.A 0 _ _ _ st4 ?loop)
  refine compLoop_anyD (fun n s' => ∃ i H', Inv (X.blk s3 H3 scope ce fp) [] (wipe σ (own.map (·.2))) H' s' ∧ tn i s'.heap ∧ (∀ b ∈ fp, H' b = none) ∧ W i n H') ?_ m0 ⟨0, H3, I4, st4, nfp, w0⟩
  rintro n s5 ⟨i, H5, I5, st5, n5, w5⟩
  rcases turn i n H5 w5 with ⟨stop, qq⟩ | ⟨go, Nx, hNx, step⟩
  · refine thnF (T.done (X.blk s3 H3 scope ce fp) rfl rfl rfl hc i [] s5 _ H5 (fun _ _ => False) I5 (stat I5 n5) st5 stop) fun r s6 ⟨hr, I6⟩ => ?_
    subst hr
    have I7 : Inv X pins σ H5 s6 := I3.call' (ch := fp) I6.os I6.base I6.hok I6.bare fun b hb => ⟨(f3 b hb).1.2.2.2.1, (f3 b hb).1.2.1, (f3 b hb).1.2.2.2.2.1, (f3 b hb).1.2.2.2.2.2⟩
    have nC : H5 ce.locals = none := I6.free
    obtain ⟨m, hn, _⟩ := I6.loc
    have hn : s6.heap.Ns ce.locals m := hn
    rw [cL] at nC hn
    exact hRR D _ s6 m H5 I7 qq hn (I3.fpOk (Nat.le_refl _) nC)
  · refine thnF (T.item (X.blk s3 H3 scope ce fp) rfl rfl rfl hc i [] s5 _ H5 (fun _ _ => False) I5 (stat I5 n5) st5 go) fun r s6 ⟨u, hr, h6⟩ => ?_
    subst hr
    refine thnF h6 fun _ s7 ⟨x, H7, I7, r7, y7, st7, n7⟩ => ?_
    refine thnF (pg.run _ s7 _ H7 x u _ (I7.pinned (stat I7 n7) (T.obj _ _ st7)) r7 (step x H7 y7)) fun _ s8 ⟨σ8, H8, I8, hw8, q8⟩ => ?_
    refine thnF (pt.run _ s8 σ8 H8 _ I8 q8) fun b s9 ⟨H9, I9, q9⟩ => ?_
    have fin : ∀ {s' : Shared} {H' : Hp}, Inv (X.blk s3 H3 scope ce fp) ([] ++ pinsAt fp s7.heap) σ8 H' s' → Nx H' → ∃ m, m < n ∧ ∃ i H', Inv (X.blk s3 H3 scope ce fp) [] (wipe σ (own.map (·.2))) H' s' ∧ tn i s'.heap ∧ (∀ b ∈ fp, H' b = none) ∧ W i m H' := fun {s' H'} I' nx => by
      obtain ⟨m', hm, w'⟩ := hNx H' nx
      have pin' : ∀ b ∈ fp, ∀ o, s7.heap.get? b = some o → s'.heap.get? b = some o ∧ H' b = none := fun b hb o e =>
        let z := I'.pin (b, o) (List.mem_append_right _ (List.mem_append_right _ (mem_pinsAt hb e)))
        ⟨z.1, z.2.1⟩
      refine ⟨m', hm, i + 1, H', (I'.unpinned (pins := [])).weak (by rw [← hw8, wipe_length]) (fun j v e => ?_), T.keep _ _ _ st7 fun b hb o e => (pin' b hb o e).1, fun b hb => ?_, w'⟩
      · rw [← hw8] at e
        exact (wipe_some e).1
      · obtain ⟨o, e, _⟩ := T.obj _ _ st7 b hb
        exact (pin' b hb o e).2
    cases b with
    | false =>
      simp only [Bool.false_eq_true, if_false] at q9 ⊢
      exact fin I9 q9
    | true =>
      simp only [if_true] at q9 ⊢
      refine thnF (pk.run _ s9 σ8 H9 _ I9 q9) fun z s10 ⟨yk, H10, I10, r10, q10⟩ => ?_
      refine thnF (pe.run _ s10 σ8 H10 _ I10 q10) fun z2 s11 ⟨yv, H11, I11, r11, kvs, k, p, ek, hp, hD11, hz11, nx⟩ => ?_
      subst ek
      obtain rfl : z = Value.ref p := r10
      exact dictSet_T (X := X.blk s3 H3 scope ce fp) hu I11 hD11 hp hz11 r11 fun s12 I12 => fin I12 nx
theorem pe_dcT {X : Cx} {kx vx tg iter : Expr} {ifs : List Expr} {scope : Scope} {own : List (Str × Nat)} {pos : Pos} {wi : TI} {g : TG} {tt : TT} {tk tv : TE} (hu : X.A.units + 1 < cLine) (hc : X.calm = true) (hN : X.N.Nodup) (hi : PI X tg iter wi) (ok : BlkOk X.N X.env.scope scope own)
    (hg : ∀ (s : Shared) (H : Hp) (C : Addr) (cl : List (Str × Addr)) (fp : List Addr), PG (X.blk s H scope (compEnvC scope cl C X.env) fp) tg g) (ht : ∀ (s : Shared) (H : Hp) (C : Addr) (cl : List (Str × Addr)) (fp : List Addr), PTs (X.blk s H scope (compEnvC scope cl C X.env) fp) ifs tt)
    (hk : ∀ (s : Shared) (H : Hp) (C : Addr) (cl : List (Str × Addr)) (fp : List Addr), PE (X.blk s H scope (compEnvC scope cl C X.env) fp) kx tk)
    (he : ∀ (s : Shared) (H : Hp) (C : Addr) (cl : List (Str × Addr)) (fp : List Addr), PE (X.blk s H scope (compEnvC scope cl C X.env) fp) vx tv) (hs : ∀ x, foldedSetIterable iter X.env x = pure x := by intro _; rfl) :
    PE X (.DictComp kx vx [⟨tg, iter, ifs, 0⟩] scope pos) (tDcT wi g tt tk tv (own.map (·.2))) := by
  refine ⟨fun pins s σ H Q I h => ?_⟩
  rw [arm_eval_DictComp]
  refine dcT_core hu hc hN hi ok hg ht hk he hs I h fun D C s' m H' I' q hn f => ⟨m, hn, fun h'' sb => ?_⟩
  obtain ⟨f0, f1, f2, f3, f4, f5⟩ := f
  exact ⟨.ref D, H', I'.turned (t' := s'.toks) (fun b o hb e => (sb.2 b hb).trans e) f0 f1 f3 f4 f5, rfl, q⟩
/-- name = {..} on one line, the name a local -/
theorem ps_setDcT {X : Cx} {i : Nat} {y : Str} {py : Pos} {kx vx tg iter : Expr} {ifs : List Expr} {scope : Scope} {own : List (Str × Nat)} {pos spos : Pos} {wi : TI} {g : TG} {tt : TT} {tk tv : TE} (hy : X.N[i]? = some y) (hyl : X.env.scope.names.lookup y = some .local)
    (hsw : swapsWith (.DictComp kx vx [⟨tg, iter, ifs, 0⟩] scope pos) (some (.Name y py)) spos.line X.env = pure true) (hu : X.A.units + 1 < cLine) (hc : X.calm = true) (hN : X.N.Nodup) (hi : PI X tg iter wi) (ok : BlkOk X.N X.env.scope scope own)
    (hg : ∀ (s : Shared) (H : Hp) (C : Addr) (cl : List (Str × Addr)) (fp : List Addr), PG (X.blk s H scope (compEnvC scope cl C X.env) fp) tg g) (ht : ∀ (s : Shared) (H : Hp) (C : Addr) (cl : List (Str × Addr)) (fp : List Addr), PTs (X.blk s H scope (compEnvC scope cl C X.env) fp) ifs tt)
    (hk : ∀ (s : Shared) (H : Hp) (C : Addr) (cl : List (Str × Addr)) (fp : List Addr), PE (X.blk s H scope (compEnvC scope cl C X.env) fp) kx tk)
    (he : ∀ (s : Shared) (H : Hp) (C : Addr) (cl : List (Str × Addr)) (fp : List Addr), PE (X.blk s H scope (compEnvC scope cl C X.env) fp) vx tv) (hs : ∀ x, foldedSetIterable iter X.env x = pure x := by intro _; rfl) :
    PS X (.Assign [.Name y py] (.DictComp kx vx [⟨tg, iter, ifs, 0⟩] scope pos) spos) (tAsg (tDcT wi g tt tk tv (own.map (·.2))) (gName i)) := by
  refine ⟨fun pins s σ H D I h => ?_⟩
  rw [exec_Assign_Name_used _ _ _ _ hsw]
  refine wpAny_bind (wpAny_standAt (wpAny_bind ?_))
  show wpAny _ X.A (do let _ ← comprehension (.DictComp kx vx [⟨tg, iter, ifs, 0⟩] scope pos) scope X.env (firstIterPos [⟨tg, iter, ifs, 0⟩] pos) newDict false (eval iter X.env) (some (assign (.Name y py) X.env))) _ _ s
  have h : tDcT wi g tt tk tv (own.map (·.2)) σ H (fun x H1 => gName i x σ H1 D.nx) := h
  refine wpAny_bind (thn (dcT_core (Qf := fun _ s' => SP X pins D .next s') hu hc hN hi ok hg ht hk he hs I h fun L C s' m H' I' q hn f => ?_) fun _ s' hq => wpAny_pure (wpAny_pure hq))
  show wpAny _ _ (assign (.Name y py) X.env (.ref L)) _ _ _
  refine wpAny_assign_Name (store_ok2 (v := V.ref L) I' hN hy (.inl hyl) rfl (fun s2 I2 ⟨a, sb, ha⟩ => ?_) (.inr hyl))
  obtain ⟨f0, f1, f2, f3, f4, f5⟩ := f
  have haC : C ≠ a := by
    rcases ha with z | z
    · rw [z]; exact f1
    · exact fun e => f4 y a z e.symm
  refine ⟨m, hn.sameBut sb haC, fun h3 sb3 => ?_⟩
  exact ⟨_, H', I2.turned (t' := s2.toks) (fun b o hb e => (sb3.2 b hb).trans e) f0 f1 f3 f4 f5, q⟩
theorem sw_trueD {kx vx : Expr} {gs : List Comprehension} {scope : Scope} {pos py : Pos} {y : Str} {l : Nat} {env : Env} (hk : env.scope.kind = .function) (hy : env.scope.names.lookup y = some .local) (hl : (py.line == pos.line) = true)
    (ha : (scope.names.any fun (n, k) => n == y && (k == .local || k == .cell)) = false) : swapsWith (.DictComp kx vx gs scope pos) (some (.Name y py)) l env = pure true := by
  have ky : env.kindOf y = some .local := hy
  have hb : env.blockKind = .function := by unfold Env.blockKind; rw [hk]; rfl
  unfold swapsWith
  simp only [hb, ky, ha, Expr.pos, hl]
  rfl
end Ky

namespace Ky
open PySem PySem.Spec PyProof.Rows L2
/-! ### {k for row in rows for x in row}, k a number -/
abbrev sc2 (elt t0 i0 t1 i1 : Expr) (scope : Scope) (pos : Pos) : Expr := .SetComp elt [⟨t0, i0, [], 0⟩, ⟨t1, i1, [], 0⟩] scope pos
theorem turn_out (elt t0 i0 t1 i1 : Expr) (scope : Scope) (pos : Pos) (it acc : Value) (env : Env) : compTurn (sc2 elt t0 i0 t1 i1 scope pos) 0 it acc env = (do
      standAt i0.pos
      match ← pyNext it with
      | none => pure (.done .next)
      | some v =>
        letOwnedTupleGo t0 it v
        assign t0 env v
        let mut ok := true
        for c in ([] : List Expr) do
          if ok then ok ← isTrue c env (eval c env)
        if ok then
          let x ← eval i1 env
          standAt i1.pos
          let x ← foldedSetIterable i1 env x
          let _ ← runOwn (.compStart (sc2 elt t0 i0 t1 i1 scope pos) 1 (← holding [x] (pyIter x)) acc env) env
        again (.compLoop (sc2 elt t0 i0 t1 i1 scope pos) 0 it acc env)) := by rfl
theorem turn_in (elt t0 i0 t1 i1 : Expr) (scope : Scope) (pos : Pos) (it acc : Value) (env : Env) : compTurn (sc2 elt t0 i0 t1 i1 scope pos) 1 it acc env = (do
      standAt i1.pos
      match ← pyNext it with
      | none => pure (.done .next)
      | some v =>
        letOwnedTupleGo t1 it v
        assign t1 env v
        let mut ok := true
        for c in ([] : List Expr) do
          if ok then ok ← isTrue c env (eval c env)
        if ok then
          (do let v ← eval elt env; standAt elt.pos; let _ ← call (.builtin "set.add") [acc, v])
        again (.compLoop (sc2 elt t0 i0 t1 i1 scope pos) 1 it acc env)) := by rfl
section
variable {prog : Program} {w : World} {A : Around} {R : Result → Shared → Prop} {s : Shared} {elt t0 i0 t1 i1 : Expr} {scope : Scope} {pos : Pos} {it acc : Value} {env : Env}
theorem loop_out (hs : ∀ x, foldedSetIterable i1 env x = pure x) (I : Nat → Shared → Prop)
    (turn : ∀ n s, I n s → wpAny (model prog w) A (pyNext it) (fun r s1 => match r with
      | none => R (.ok .next) s1
      | some v => wpAny (model prog w) A (letOwnedTupleGo t0 it v) (fun _ s2 => wpAny (model prog w) A (assign t0 env v) (fun _ s3 => wpAny (model prog w) A (eval i1 env) (fun x s4 => wpAny (model prog w) A (pyIter x) (fun it1 s5 =>
          codeAny (model prog w) A (.compStart (sc2 elt t0 i0 t1 i1 scope pos) 1 it1 acc env) (fun r s' => match r with
            | .ok _ => ∃ m, m < n ∧ I m s'
            | .error _ => False) s5) (fun _ _ => False) s4) (fun _ _ => False) s3) (fun _ _ => False) s2) (fun _ _ => False) s1) (fun _ _ => False) s) (n : Nat) (h : I n s) :
    codeAny (model prog w) A (.compLoop (sc2 elt t0 i0 t1 i1 scope pos) 0 it acc env) R s := by
  refine codeAny_loop rfl I (fun n s hI => ?_) n h
  show wpAny _ A ((compTurn (sc2 elt t0 i0 t1 i1 scope pos) 0 it acc env).onRaise (fun x => do noteFrame x env; theTreesLotGoes x)) _ _ s
  refine wpAny_noted ?_
  rw [turn_out]
  refine wpAny_bind (wpAny_standAt (wpAny_bind (thnF (turn n s hI) fun r s1 h1 => ?_)))
  cases r with
  | none => exact wpAny_pure h1
  | some v =>
    refine wpAny_bind (thnF h1 fun _ s2 h2 => ?_)
    refine wpAny_bind (thnF h2 fun _ s3 h3 => ?_)
    simp only [List.forIn_nil]
    refine wpAny_bind (wpAny_pure ?_)
    simp only [if_true]
    refine wpAny_bind (thnF h3 fun x s4 h4 => ?_)
    refine wpAny_bind (wpAny_standAt (wpAny_bind (wpAny_of_eq (hs x) (wpAny_bind (wpAny_holding (thnF h4 fun it1 s5 h5 => ?_))))))
    refine wpAny_bind (wpAny_runOwn ?_)
    rw [Around.mark_none]
    refine codeAny_mono h5 fun r s' hr => ?_
    cases r with
    | ok f =>
      first
        | exact wpAny_pure ⟨rfl, hr⟩
        | exact wpAny_bind (wpAny_pure (wpAny_pure ⟨rfl, hr⟩))
    | error e => exact hr.elim
theorem loop_in (I : Nat → Shared → Prop)
    (turn : ∀ n s, I n s → wpAny (model prog w) A (pyNext it) (fun r s1 => match r with
      | none => R (.ok .next) s1
      | some v => wpAny (model prog w) A (letOwnedTupleGo t1 it v) (fun _ s2 => wpAny (model prog w) A (assign t1 env v) (fun _ s3 => wpAny (model prog w) A (eval elt env) (fun x s4 =>
          wpAny (model prog w) A (call (.builtin "set.add") [acc, x]) (fun _ s5 => ∃ m, m < n ∧ I m s5) (fun _ _ => False) s4) (fun _ _ => False) s3) (fun _ _ => False) s2) (fun _ _ => False) s1) (fun _ _ => False) s) (n : Nat) (h : I n s) :
    codeAny (model prog w) A (.compLoop (sc2 elt t0 i0 t1 i1 scope pos) 1 it acc env) R s := by
  refine codeAny_loop rfl I (fun n s hI => ?_) n h
  show wpAny _ A ((compTurn (sc2 elt t0 i0 t1 i1 scope pos) 1 it acc env).onRaise (fun x => do noteFrame x env; theTreesLotGoes x)) _ _ s
  refine wpAny_noted ?_
  rw [turn_in]
  refine wpAny_bind (wpAny_standAt (wpAny_bind (thnF (turn n s hI) fun r s1 h1 => ?_)))
  cases r with
  | none => exact wpAny_pure h1
  | some v =>
    refine wpAny_bind (thnF h1 fun _ s2 h2 => ?_)
    refine wpAny_bind (thnF h2 fun _ s3 h3 => ?_)
    simp only [List.forIn_nil]
    refine wpAny_bind (wpAny_pure ?_)
    simp only [if_true]
    exact wpAny_bind (wpAny_bind (thnF h3 fun x s4 h4 => wpAny_bind (wpAny_standAt (wpAny_bind (thnF h4 fun _ s5 h5 => wpAny_pure (wpAny_pure ⟨rfl, h5⟩))))))
theorem start_in (h0 : codeAny (model prog w) A (.compLoop (sc2 elt t0 i0 t1 i1 scope pos) 1 it acc env) R s)
    (h : ∀ (Q : Value → Shared → Prop) (E : Value → Shared → Prop), Q it s → wpAny (model prog w) A (pyIter it) Q E s) : codeAny (model prog w) A (.compStart (sc2 elt t0 i0 t1 i1 scope pos) 1 it acc env) R s := by
  refine codeAny_of_tree ?_
  show wpAny _ _ ((compStart (sc2 elt t0 i0 t1 i1 scope pos) 1 it acc env).onRaise (fun x => do noteFrame x env; standAt theWindowsPlace)) _ _ s
  refine wpAny_notedAt ?_
  unfold compStart
  show wpAny _ _ (ask >>= _) _ _ s
  refine wpAny_bind (wpAny_askSetting (wpAny_ite ?_))
  split
  · first
      | exact wpAny_bind (wpAny_pure (wpAny_pure (And.intro rfl h0)))
      | exact wpAny_pure (And.intro rfl h0)
  · refine wpAny_bind (wpAny_rule ?_)
    show wpAny _ _ (standAt i1.pos >>= _) _ _ s
    exact wpAny_bind (wpAny_standAt (wpAny_bind (h _ _ (wpAny_pure (And.intro rfl h0)))))
end
section
variable {X : Cx} {pins : List (Addr × Obj)} {σ : L2.St} {H : Hp} {s : Shared}
theorem sadd_ok {E : Value → Shared → Prop} {a : Addr} {k : Int} {u : Value} {S : Int → Bool} {n : Nat} {Q : Value → Shared → Prop} (I : Inv X pins σ H s) (ha : H a = some (SetO X.w a S n)) (room : n + 1 < scanBound) (r : RelV (.int k) u)
    (h : ∀ s', Inv X pins σ (upd H a (SetO X.w a (fun j => S j || decide (j = k)) (if S k = true then n else n + 1))) s' → Q .none s') : wpAny (model X.prog X.w) X.A (call (.builtin "set.add") [.ref a, u]) Q E s := by
  obtain ⟨tk, rfl⟩ := r
  refine setR_add (setO_get I ha) room fun h' sb new => ?_
  have he : ∃ u, h'.get? a = some u := by
    have ⟨o, _, _, _, ho, _⟩ := new
    exact ⟨o, ho⟩
  exact h _ (I.write (e := a) (t' := s.toks + 1) (by rw [ha]; trivial) (.inl rfl) (fun b u hb hu => (sb.2 b hb).trans hu) he (setO_new new))
/-- its reading: for each item of the outer walk the inner walk -/
def tSc2 (w : World) (wi : TI) (g : TG) (wi1 : TI) (g1 : TG) (te : TE) (vs vs1 : List Nat) : TE := fun σ H Q => wi σ H fun J H1 => ∀ D, H1 D = none → ∃ W : Nat → Nat → Hp → Prop, (∃ m, W 0 m (upd H1 D (SetO w D (fun _ => false) 0))) ∧ ∀ i m H, W i m H →
  (J.stop i H ∧ Q (.ref D) H) ∨ (J.go i H ∧ ∃ Nx : Hp → Prop, (∀ H', Nx H' → ∃ m', m' < m ∧ W (i + 1) m' H') ∧ ∀ x H', J.yld i H x H' → g x (wipe σ vs) H' fun σ2 H2 => wipe σ2 vs = wipe σ vs ∧
    wi1 σ2 H2 fun J1 H4 => ∃ W1 : Nat → Nat → Hp → Prop, (∃ m, W1 0 m H4) ∧ ∀ j k H, W1 j k H →
      (J1.stop j H ∧ Nx H) ∨ (J1.go j H ∧ ∃ Nx1 : Hp → Prop, (∀ H', Nx1 H' → ∃ k', k' < k ∧ W1 (j + 1) k' H') ∧ ∀ x H', J1.yld j H x H' → g1 x (wipe σ2 vs1) H' fun σ3 H5 => wipe σ3 vs1 = wipe σ2 vs1 ∧
        te σ3 H5 fun y H7 => ∃ (c : Int) (S : Int → Bool) (n : Nat), y = .int c ∧ H7 D = some (SetO w D S n) ∧ n + 1 < scanBound ∧ Nx1 (upd H7 D (SetO w D (fun j => S j || decide (j = c)) (if S c = true then n else n + 1)))))
theorem pe_sc2 {elt tg iter tg1 iter1 : Expr} {scope : Scope} {own : List (Str × Nat)} {vs1 : List Nat} {pos : Pos} {wi wi1 : TI} {g g1 : TG} {te : TE} (hc : X.calm = true) (hN : X.N.Nodup) (hi : PI X tg iter wi) (ok : BlkOk X.N X.env.scope scope own) (hv : ∀ i ∈ vs1, i ∈ own.map (·.2))
    (hg : ∀ (s : Shared) (H : Hp) (C : Addr) (cl : List (Str × Addr)) (fp : List Addr), PG (X.blk s H scope (compEnvC scope cl C X.env) fp) tg g)
    (hi1 : ∀ (s : Shared) (H : Hp) (C : Addr) (cl : List (Str × Addr)) (fp : List Addr), PI (X.blk s H scope (compEnvC scope cl C X.env) fp) tg1 iter1 wi1)
    (hg1 : ∀ (s : Shared) (H : Hp) (C : Addr) (cl : List (Str × Addr)) (fp : List Addr), PG (X.blk s H scope (compEnvC scope cl C X.env) fp) tg1 g1)
    (he : ∀ (s : Shared) (H : Hp) (C : Addr) (cl : List (Str × Addr)) (fp : List Addr), PE (X.blk s H scope (compEnvC scope cl C X.env) fp) elt te) (hs : ∀ x, foldedSetIterable iter X.env x = pure x := by intro _; rfl) (hs1 : ∀ env x, foldedSetIterable iter1 env x = pure x := by intro _ _; rfl) :
    PE X (sc2 elt tg iter tg1 iter1 scope pos) (tSc2 X.w wi g wi1 g1 te (own.map (·.2)) vs1) := by
  refine ⟨fun pins s σ H Q I h => ?_⟩
  rw [PpSet.eval_SetComp]
  have hfree : ∀ y ∈ scope.names, y.2 = .free → ∃ c, X.env.cells.lookup y.1 = some c := fun y hy e => (ok.free y hy e).elim (fun k => I.ok.has _ (.inl k)) fun k => I.ok.has _ (.inr k)
  refine wpAny_comprehension_free rfl hs (closure_ok hfree) ok.kind (fun y hy e => by rw [ok.uniq y hy, e]) (thn (hi.run pins s σ H _ I h) fun xv s1 hx => thn hx fun itv s2 h2 => ?_)
  obtain ⟨it, fp, tn, J, H2, rfl, I2, T, st2, f2, q⟩ := h2
  refine PpSet.newSet_ok (newEnv_comp ?_)
  have hDn : H2 s2.heap.objs.size = none := I2.hok.fresh (Nat.le_refl _)
  obtain ⟨W, ⟨m0, w0⟩, turn⟩ := q _ hDn
  generalize hob : ({ cls := .type "set", dict := none, data := .set #[] 0 (.fresh 0 0 (!X.w.params.followText "set-order")) } : Obj) = ob
  have I3 : Inv X pins σ (upd H2 s2.heap.objs.size (SetO X.w s2.heap.objs.size (fun _ => false) 0)) { s2 with heap := s2.heap.push ob, toks := s2.toks } := I2.laid (fun b o e => Heap.get?_push_of_some _ e) (Nat.le_refl _) (setO_new (by rw [← hob]; exact setR_fresh X.w))
  have sz : ∀ b ∈ fp, b < s2.heap.objs.size := fun b hb => let ⟨_, e, _⟩ := T.obj _ _ st2 b hb; Heap.lt_size e
  have st3 : tn 0 (s2.heap.push ob) := T.keep _ _ _ st2 fun b _ o e => Heap.get?_push_of_some _ e
  have f3 : ∀ b ∈ fp, FpOk X pins (upd H2 s2.heap.objs.size (SetO X.w s2.heap.objs.size (fun _ => false) 0)) b ∧ b < (s2.heap.push ob).objs.size := fun b hb => by
    refine ⟨⟨?_, (f2 b hb).2⟩, by rw [Heap.size_push]; exact Nat.lt_succ_of_lt (sz b hb)⟩
    rw [upd_ne (Nat.ne_of_lt (sz b hb))]
    exact (f2 b hb).1
  generalize s2.heap.objs.size = D at hDn turn w0 I3 f3 ⊢
  generalize hH3 : upd H2 D (SetO X.w D (fun _ => false) 0) = H3 at I3 w0 f3
  generalize hs3 : ({ s2 with heap := s2.heap.push ob, toks := s2.toks } : Shared) = s3 at I3 ⊢
  have h3 : s3.heap = s2.heap.push ob := by rw [← hs3]
  rw [← h3] at st3
  have f3 : ∀ b ∈ fp, FpOk X pins H3 b ∧ b < s3.heap.objs.size := fun b hb => by rw [h3]; exact f3 b hb
  have I4 := block_start I3 ok hN f3
  have pg := hg s3 H3 s3.heap.objs.size (cellsFrom (s3.heap.objs.size + 1) scope.names (cloFrom X.env.cells scope.names [])) fp
  have pi1 := hi1 s3 H3 s3.heap.objs.size (cellsFrom (s3.heap.objs.size + 1) scope.names (cloFrom X.env.cells scope.names [])) fp
  have pg1 := hg1 s3 H3 s3.heap.objs.size (cellsFrom (s3.heap.objs.size + 1) scope.names (cloFrom X.env.cells scope.names [])) fp
  have pe := he s3 H3 s3.heap.objs.size (cellsFrom (s3.heap.objs.size + 1) scope.names (cloFrom X.env.cells scope.names [])) fp
  have nfp : ∀ b ∈ fp, H3 b = none := fun b hb => (f3 b hb).1.1
  show codeAny _ _ (.compStart (sc2 elt tg iter tg1 iter1 scope pos) 0 (.ref it) (.ref D) (compEnvC scope (cellsFrom (s3.heap.objs.size + 1) scope.names (cloFrom X.env.cells scope.names [])) s3.heap.objs.size X.env)) _ { s3 with heap := pushCells (s3.heap.push { cls := .type "dict", data := .dict #[] }) scope.names }
  have cL : (compEnvC scope (cellsFrom (s3.heap.objs.size + 1) scope.names (cloFrom X.env.cells scope.names [])) s3.heap.objs.size X.env).locals = s3.heap.objs.size := rfl
  generalize compEnvC scope (cellsFrom (s3.heap.objs.size + 1) scope.names (cloFrom X.env.cells scope.names [])) s3.heap.objs.size X.env = ce at I4 pg pi1 pg1 pe cL ⊢
  have st4 : tn 0 (pushCells (s3.heap.push { cls := .type "dict", data := .dict #[] }) scope.names) := T.keep _ _ _ st3 fun b _ o e => pushCells_keeps _ _ _ _ (Heap.get?_push_of_some _ e)
  generalize hs4 : ({ s3 with heap := pushCells (s3.heap.push { cls := .type "dict", data := .dict #[] }) scope.names } : Shared) = s4 at I4 ⊢
  have st4 : tn 0 s4.heap := by rw [← hs4]; exact st4
  have stat : ∀ {σ' : L2.St} {H' : Hp} {s' : Shared}, Inv (X.blk s3 H3 scope ce fp) [] σ' H' s' → (∀ b ∈ fp, H' b = none) → ∀ b ∈ fp, FpOk (X.blk s3 H3 scope ce fp) [] H' b := fun {σ' H' s'} I' hn b hb =>
    ⟨hn b hb, (I'.ok.exf b hb).1, I'.ok.exfs b hb, .inl hb, fun x c e => (I'.ok.exf b hb).2 x c e, fun p hp => absurd (show p ∈ ([] : List (Addr × Obj)) ++ [] from hp) (by simp)⟩
  refine PpSet.codeAny_compStart_set ?loop (T.self X.A 0 _ _ _ st4 ?loop)
  refine loop_out (hs1 ce) (fun n s' => ∃ i H', Inv (X.blk s3 H3 scope ce fp) [] (wipe σ (own.map (·.2))) H' s' ∧ tn i s'.heap ∧ (∀ b ∈ fp, H' b = none) ∧ W i n H') ?_ m0 ⟨0, H3, I4, st4, nfp, w0⟩
  rintro n s5 ⟨i, H5, I5, st5, n5, w5⟩
  rcases turn i n H5 w5 with ⟨stop, qq⟩ | ⟨go, Nx, hNx, step⟩
  · refine thnF (T.done (X.blk s3 H3 scope ce fp) rfl rfl rfl hc i [] s5 _ H5 (fun _ _ => False) I5 (stat I5 n5) st5 stop) fun r s6 ⟨hr, I6⟩ => ?_
    subst hr
    have I7 : Inv X pins σ H5 s6 := I3.call' (ch := fp) I6.os I6.base I6.hok I6.bare fun b hb => ⟨(f3 b hb).1.2.2.2.1, (f3 b hb).1.2.1, (f3 b hb).1.2.2.2.2.1, (f3 b hb).1.2.2.2.2.2⟩
    have nC : H5 ce.locals = none := I6.free
    obtain ⟨m, hn, _⟩ := I6.loc
    have hn : s6.heap.Ns ce.locals m := hn
    rw [cL] at nC hn
    obtain ⟨f0, f1, f2, f3, f4, f5⟩ := I3.fpOk (Nat.le_refl _) nC
    exact ⟨m, hn, fun h'' sb => ⟨.ref D, H5, I7.turned (t' := s6.toks) (fun b o hb e => (sb.2 b hb).trans e) f0 f1 f3 f4 f5, rfl, qq⟩⟩
  · refine thnF (T.item (X.blk s3 H3 scope ce fp) rfl rfl rfl hc i [] s5 _ H5 (fun _ _ => False) I5 (stat I5 n5) st5 go) fun r s6 ⟨u, hr, h6⟩ => ?_
    subst hr
    refine thnF h6 fun _ s7 ⟨x, H7, I7, r7, y7, st7, n7⟩ => ?_
    refine thnF (pg.run _ s7 _ H7 x u _ (I7.pinned (stat I7 n7) (T.obj _ _ st7)) r7 (step x H7 y7)) fun _ s8 ⟨σ8, H8, I8, hw8, q8⟩ => ?_
    refine thnF (pi1.run _ s8 σ8 H8 _ I8 q8) fun xv s10 hx => thnF hx fun itv s11 h11 => ?_
    obtain ⟨it1, fp1, tn1, J1, H11, rfl, I11, T1, st11, f11, W1, ⟨m1, w1⟩, turn1⟩ := h11
    have fin : ∀ {σ9 : L2.St} {s' : Shared} {H' : Hp}, Inv (X.blk s3 H3 scope ce fp) ([] ++ pinsAt fp s7.heap) σ9 H' s' → (wipe σ (own.map (·.2))).length = σ9.length → (∀ (j : Nat) v, (wipe σ (own.map (·.2)))[j]? = some (some v) → σ9[j]? = some (some v)) → Nx H' →
        ∃ m, m < n ∧ ∃ i H', Inv (X.blk s3 H3 scope ce fp) [] (wipe σ (own.map (·.2))) H' s' ∧ tn i s'.heap ∧ (∀ b ∈ fp, H' b = none) ∧ W i m H' := fun {σ9 s' H'} I' hl hk nx => by
      obtain ⟨m', hm, w'⟩ := hNx H' nx
      have pin' : ∀ b ∈ fp, ∀ o, s7.heap.get? b = some o → s'.heap.get? b = some o ∧ H' b = none := fun b hb o e =>
        let z := I'.pin (b, o) (List.mem_append_right _ (List.mem_append_right _ (mem_pinsAt hb e)))
        ⟨z.1, z.2.1⟩
      refine ⟨m', hm, i + 1, H', (I'.unpinned (pins := [])).weak hl hk, T.keep _ _ _ st7 fun b hb o e => (pin' b hb o e).1, fun b hb => ?_, w'⟩
      obtain ⟨o, e, _⟩ := T.obj _ _ st7 b hb
      exact (pin' b hb o e).2
    have hl8 : (wipe σ (own.map (·.2))).length = σ8.length := by rw [← hw8, wipe_length]
    have hk9 : ∀ (j : Nat) v, (wipe σ (own.map (·.2)))[j]? = some (some v) → (wipe σ8 vs1)[j]? = some (some v) := fun j v e => by
      rw [← hw8] at e
      obtain ⟨e1, e2⟩ := wipe_some e
      rw [wipe_out fun z => e2 (hv j z)]
      exact e1
    have stat1 : ∀ {H' : Hp}, (∀ b ∈ fp1, H' b = none) → ∀ b ∈ fp1, FpOk (X.blk s3 H3 scope ce fp) ([] ++ pinsAt fp s7.heap) H' b := fun hn b hb => ⟨hn b hb, (f11 b hb).2⟩
    refine start_in ?inner fun Q' E' hq => T1.self X.A 0 _ _ _ st11 hq
    refine loop_in (fun k s' => ∃ j H', Inv (X.blk s3 H3 scope ce fp) ([] ++ pinsAt fp s7.heap) (wipe σ8 vs1) H' s' ∧ tn1 j s'.heap ∧ (∀ b ∈ fp1, H' b = none) ∧ W1 j k H') ?_ m1 ⟨0, H11, I11.weak (wipe_length _ _) (fun j v e => (wipe_some e).1), st11, fun b hb => (f11 b hb).1, w1⟩
    rintro k s12 ⟨j, H12, I12, st12, n12, w12⟩
    rcases turn1 j k H12 w12 with ⟨stop1, nx1⟩ | ⟨go1, Nx1, hNx1, step1⟩
    · refine thnF (T1.done (X.blk s3 H3 scope ce fp) rfl rfl rfl hc j _ s12 (wipe σ8 vs1) H12 (fun _ _ => False) I12 (stat1 n12) st12 stop1) fun r s13 ⟨hr, I13⟩ => ?_
      subst hr
      exact fin I13 (hl8.trans (wipe_length σ8 vs1).symm) hk9 nx1
    · refine thnF (T1.item (X.blk s3 H3 scope ce fp) rfl rfl rfl hc j _ s12 (wipe σ8 vs1) H12 (fun _ _ => False) I12 (stat1 n12) st12 go1) fun r s13 ⟨u1, hr, h13⟩ => ?_
      subst hr
      refine thnF h13 fun _ s14 ⟨x1, H14, I14, r14, y14, st14, n14⟩ => ?_
      refine thnF (pg1.run _ s14 (wipe σ8 vs1) H14 x1 u1 _ (I14.pinned (stat1 n14) (T1.obj _ _ st14)) r14 (step1 x1 H14 y14)) fun _ s15 ⟨σ15, H15, I15, hw15, q15⟩ => ?_
      refine thnF (pe.run _ s15 σ15 H15 _ I15 q15) fun z s17 ⟨yv, H17, I17, r17, c, S, nn, ey, hD17, hz17, nx⟩ => ?_
      subst ey
      refine sadd_ok (X := X.blk s3 H3 scope ce fp) I17 hD17 hz17 r17 fun s18 I18 => ?_
      obtain ⟨m', hm, w'⟩ := hNx1 _ nx
      have pin' : ∀ b ∈ fp1, ∀ o, s14.heap.get? b = some o → s18.heap.get? b = some o ∧ _ := fun b hb o e =>
        let z := I18.pin (b, o) (List.mem_append_right _ (List.mem_append_right _ (mem_pinsAt hb e)))
        ⟨z.1, z.2.1⟩
      refine ⟨m', hm, j + 1, _, I18.unpinned.weak (by rw [← hw15, wipe_length]) (fun i v e => by rw [← hw15] at e; exact (wipe_some e).1), T1.keep _ _ _ st14 fun b hb o e => (pin' b hb o e).1, fun b hb => ?_, w'⟩
      obtain ⟨o, e, _⟩ := T1.obj _ _ st14 b hb
      exact (pin' b hb o e).2
end
end Ky

namespace Ky
open PySem PySem.Spec PyProof.Rows L2
theorem _root_.L2.Room.u1 {k : Nat} {A : Around} (r : Room k A) : A.units + 1 < cLine := by have := r.un; omega
theorem _root_.L2.Room.u65 {k : Nat} {A : Around} (r : Room k A) : A.units + 65 < cLine := by have := r.un; omega
theorem wipe_one {σ : L2.St} {j : Nat} {x : Option V} : wipe ((wipe σ [j]).set j x) [j] = wipe σ [j] := by
  simp [wipe, List.set_set]
/-- all or any, walked -/
theorem g_walk {J : It} {n : Nat} {xv : Nat → V} {te : TE} {σ : L2.St} {j : Nat} {H0 : Hp} {cont : Bool} {Q : VK} (bf : Nat → Bool) (Hs : Hp → Prop) (h0 : Hs H0) (hgo : ∀ i H, i < n → Hs H → J.go i H) (hy : ∀ i H x H', i < n → Hs H → J.yld i H x H' → H' = H ∧ x = xv i)
    (hstop : ∀ H, Hs H → J.stop n H) (step : ∀ i H (k : VK), i < n → Hs H → (∀ H', Hs H' → k (.bl (bf i)) H') → te ((wipe σ [j]).set j (some (xv i))) H k)
    (fin : ∀ H, Hs H → Q (.bl (if cont = true then (List.range n).all bf else (List.range n).any bf)) H) : ∃ W : Nat → Nat → Hp → Prop, (∃ m, W 0 m H0) ∧ GTurn J (gName j) te (wipe σ [j]) [j] Q cont W := by
  refine ⟨fun i m H => m = n - i ∧ i ≤ n ∧ Hs H ∧ ∀ k, k < i → bf k = cont, ⟨n, by simp, Nat.zero_le _, h0, fun k hk => absurd hk (Nat.not_lt_zero _)⟩, ?_⟩
  rintro i m H ⟨rfl, hi, hs, hb⟩
  by_cases hlt : i < n
  · refine .inr ⟨hgo i H hlt hs, fun x H' y => ?_⟩
    obtain ⟨rfl, rfl⟩ := hy i H x H' hlt hs y
    refine ⟨wipe_one, step i H' _ hlt hs fun H2 hs2 => ⟨bf i, rfl, ?_⟩⟩
    by_cases hc : bf i = cont
    · rw [if_pos hc]
      refine ⟨n - (i + 1), by omega, rfl, hlt, hs2, fun k hk => ?_⟩
      by_cases e : k = i
      · rw [e]; exact hc
      · exact hb k (by omega)
    · rw [if_neg hc]
      have q := fin H2 hs2
      have hn := not_of_ne hc
      have e : (if cont = true then (List.range n).all bf else (List.range n).any bf) = !cont := by
        cases cont with
        | true =>
          rw [if_pos rfl]
          refine Bool.eq_false_iff.mpr fun z => ?_
          rw [List.all_eq_true.mp z i (List.mem_range.mpr hlt)] at hn
          cases hn
        | false =>
          rw [if_neg Bool.false_ne_true]
          exact List.any_eq_true.mpr ⟨i, List.mem_range.mpr hlt, hn⟩
      rw [e] at q
      exact q
  · have ei : i = n := by omega
    subst ei
    refine .inl ⟨hstop H hs, ?_⟩
    have q := fin H hs
    have e : (if cont = true then (List.range i).all bf else (List.range i).any bf) = cont := by
      cases cont with
      | true =>
        rw [if_pos rfl]
        exact List.all_eq_true.mpr fun k hk => hb k (List.mem_range.mp hk)
      | false =>
        rw [if_neg Bool.false_ne_true]
        refine Bool.eq_false_iff.mpr fun z => ?_
        obtain ⟨k, hk, hk2⟩ := List.any_eq_true.mp z
        rw [hb k (List.mem_range.mp hk)] at hk2
        cases hk2
    rw [e] at q
    exact q
theorem g_range {lo : Int} {n : Nat} {te : TE} {σ : L2.St} {j : Nat} {H0 : Hp} {cont : Bool} {Q : VK} (bf : Nat → Bool) (Hs : Hp → Prop) (h0 : Hs H0)
    (step : ∀ i H (k : VK), i < n → Hs H → (∀ H', Hs H' → k (.bl (bf i)) H') → te ((wipe σ [j]).set j (some (.int (lo + i)))) H k)
    (fin : ∀ H, Hs H → Q (.bl (if cont = true then (List.range n).all bf else (List.range n).any bf)) H) : ∃ W : Nat → Nat → Hp → Prop, (∃ m, W 0 m H0) ∧ GTurn (Itr lo n) (gName j) te (wipe σ [j]) [j] Q cont W :=
  g_walk (xv := fun i => .int (lo + i)) bf Hs h0 (fun i H h _ => h) (fun i H x H' _ _ h => h) (fun H _ => Nat.le_refl n) step fin
theorem g_list {K : PySem.W.Frag} {a : Addr} {xs : List V} {te : TE} {σ : L2.St} {j : Nat} {H0 : Hp} {cont : Bool} {Q : VK} (bf : Nat → Bool) (Hs : Hp → Prop) (h0 : Hs H0) (hl : ∀ H, Hs H → SqL K H a xs)
    (step : ∀ i x H (k : VK), xs[i]? = some x → Hs H → (∀ H', Hs H' → k (.bl (bf i)) H') → te ((wipe σ [j]).set j (some x)) H k)
    (fin : ∀ H, Hs H → Q (.bl (if cont = true then (List.range xs.length).all bf else (List.range xs.length).any bf)) H) : ∃ W : Nat → Nat → Hp → Prop, (∃ m, W 0 m H0) ∧ GTurn (Itl K a) (gName j) te (wipe σ [j]) [j] Q cont W :=
  g_walk (xv := fun i => xs.getD i .non) bf Hs h0 (fun i H h hs => ⟨xs, xs[i], hl H hs, List.getElem?_eq_getElem h⟩) (fun i H x H' h hs q => by
    obtain ⟨e, q⟩ := q
    subst e
    refine ⟨rfl, ?_⟩
    rw [List.getD_eq_getElem?_getD, q xs (hl _ hs)] <;> rfl) (fun H hs => ⟨xs, hl H hs, Nat.le_refl _⟩) (fun i H k h hs hk => step i _ H k (by rw [List.getD_eq_getElem?_getD, List.getElem?_eq_getElem h] <;> rfl) hs hk) fin
theorem g_tup {K : PySem.W.Frag} {a : Addr} {xs : List V} {te : TE} {σ : L2.St} {j : Nat} {H0 : Hp} {cont : Bool} {Q : VK} (bf : Nat → Bool) (Hs : Hp → Prop) (h0 : Hs H0) (hl : ∀ H, Hs H → SqT K H a xs)
    (step : ∀ i x H (k : VK), xs[i]? = some x → Hs H → (∀ H', Hs H' → k (.bl (bf i)) H') → te ((wipe σ [j]).set j (some x)) H k)
    (fin : ∀ H, Hs H → Q (.bl (if cont = true then (List.range xs.length).all bf else (List.range xs.length).any bf)) H) : ∃ W : Nat → Nat → Hp → Prop, (∃ m, W 0 m H0) ∧ GTurn (Itt K a) (gName j) te (wipe σ [j]) [j] Q cont W :=
  g_walk (xv := fun i => xs.getD i .non) bf Hs h0 (fun i H h hs => ⟨xs, xs[i], hl H hs, List.getElem?_eq_getElem h⟩) (fun i H x H' h hs q => by
    obtain ⟨e, q⟩ := q
    subst e
    refine ⟨rfl, ?_⟩
    rw [List.getD_eq_getElem?_getD, q xs (hl _ hs)] <;> rfl) (fun H hs => ⟨xs, hl H hs, Nat.le_refl _⟩) (fun i H k h hs hk => step i _ H k (by rw [List.getD_eq_getElem?_getD, List.getElem?_eq_getElem h] <;> rfl) hs hk) fin
/-! ### more steps of a reading -/
section
variable {σ : L2.St} {H : Hp} {Q : VK} {ta tb tc td : TE} {K : PySem.W.Frag} {x y : V}
theorem w_chain {r r' : R2} (q : ta σ H fun x H1 => tb σ H1 fun y H2 => r x y H2 fun z H3 => ∃ k, z = .bl k ∧ (if k = true then tc σ H3 fun w' H4 => r' y w' H4 Q else Q (.bl false) H3)) : tChain r r' ta tb tc σ H Q := q
theorem w_isi_ii {n : Int} (q : Q (.bl true) H) : rIsi K [.int n, .ty "int"] H Q := ⟨_, _, _, _, true, rfl, .ty _, .base (.int n), kit_ty (by decide +kernel), q⟩
theorem w_isi_ib {n : Int} (q : Q (.bl false) H) : rIsi K [.int n, .ty "bool"] H Q := ⟨_, _, _, _, false, rfl, .ty _, .base (.int n), kit_ty (by decide +kernel), q⟩
theorem w_isi_it {n : Int} (q : Q (.bl false) H) : rIsi K [.int n, .ty "tuple"] H Q := ⟨_, _, _, _, false, rfl, .ty _, .base (.int n), kit_ty (by decide +kernel), q⟩
theorem w_isi_st {z : Str} (q : Q (.bl false) H) : rIsi K [.str z, .ty "tuple"] H Q := ⟨_, _, _, _, false, rfl, .ty _, .base (.str z), kit_ty (by decide +kernel), q⟩
theorem w_isi_tt {a : Addr} {xs : List V} (h : H a = some (.tup xs)) (q : Q (.bl true) H) : rIsi K [.ref a, .ty "tuple"] H Q := ⟨_, _, _, _, true, rfl, .ty _, .base (.tup h), kit_ty (by decide +kernel), q⟩
theorem w_gRd {P0 : Addr} {wi : TI} {g : TG} {vs : List Nat} {cont : Bool} (q : wi σ H fun J H1 => GxR.TabG H1 P0 ∧ ∀ H2, GxR.Tabbed P0 H1 H2 → ∃ W : Nat → Nat → Hp → Prop, (∃ m, W 0 m H2) ∧ GTurn J g ta (wipe σ vs) vs Q cont W) : gRd P0 wi g ta vs cont σ H Q := q
theorem w_andV (q : ta σ H fun x H1 => ∃ c, x = .bl c ∧ if c = true then tb σ H1 Q else Q (.bl false) H1) : tAndV ta tb σ H Q := q
theorem w_orV (q : ta σ H fun x H1 => ∃ c, x = .bl c ∧ if c = true then Q (.bl true) H1 else tb σ H1 Q) : tOrV ta tb σ H Q := q
theorem w_notV (q : ta σ H fun x H1 => ∃ c, x = .bl c ∧ Q (.bl (!c)) H1) : tNotV ta σ H Q := q
theorem w_din {ty : TE} (q : ty σ H fun y H1 => td σ H1 fun x H2 => ∃ a o, x = .ref a ∧ DGet H2 a y o ∧ Q (.bl o.isSome) H2) : tDIn ty td σ H Q := q
end
/-! ### the rules with the fragment told: inside a block or a generator's frame the context's own letter may not be left -/
section
variable {X : Cx} {K : PySem.W.Frag}
theorem opK {op : Value → Value → Sem Value} {r : PySem.W.Frag → R2} (hK : X.K = K) (h : OpR X op (r X.K)) : OpR X op (r K) := by subst hK; exact h
theorem ix_listK (hK : X.K = K) : IxR X (rIxL K) := by subst hK; exact ix_list
theorem ix_tupK (hK : X.K = K) : IxR X (rIxT K) := by subst hK; exact ix_tup
theorem sl_listK (hK : X.K = K) : SlR X (rSlL K) := by subst hK; exact sl_list
theorem sl_tupK (hK : X.K = K) : SlR X (rSlT K) := by subst hK; exact sl_tup
theorem pi_listK {tg l : Expr} {tl : TE} (hK : X.K = K) (hl : PE X l tl) : PI X tg l (iList K tl) := by subst hK; exact pi_list hl
theorem pi_tupK {tg l : Expr} {tl : TE} (hK : X.K = K) (hl : PE X l tl) : PI X tg l (iTup K tl) := by subst hK; exact pi_tup hl
end
end Ky

namespace Ky
open PySem PySem.Spec PyProof.Rows L2
/-! ### distinct items, in their first order -/
section
variable {κ : Type} [DecidableEq κ]
def dstep (acc : List κ) (k : κ) : List κ := if k ∈ acc then acc else acc ++ [k]
def dd (ls : List κ) : List κ := ls.foldl dstep []
def setDict (ks : List κ) : List (κ × V) := ks.map fun k => (k, V.bl true)
theorem dd_snoc (ls : List κ) (k : κ) : dd (ls ++ [k]) = dstep (dd ls) k := by unfold dd; rw [List.foldl_append]; rfl
theorem setDict_len (ks : List κ) : (setDict ks).length = ks.length := List.length_map ..
theorem putK_set (ks : List κ) (k : κ) : putK (setDict ks) k (V.bl true) = setDict (dstep ks k) := by
  unfold putK dstep
  by_cases h : k ∈ ks
  · rw [if_pos h, if_pos (by
      unfold setDict
      rw [List.any_map]
      exact List.any_eq_true.mpr ⟨k, h, by simp⟩)]
    unfold setDict
    rw [List.map_map]
    refine List.map_congr_left fun x _ => ?_
    show (if x = k then (x, V.bl true) else (x, V.bl true)) = _
    by_cases e : x = k
    · rw [if_pos e]
    · rw [if_neg e]
  · rw [if_neg h, if_neg (by
      unfold setDict
      rw [List.any_map]
      intro z
      obtain ⟨x, hx, e⟩ := List.any_eq_true.mp z
      have e : x = k := by simpa using e
      rw [e] at hx
      exact h hx)]
    unfold setDict
    rw [List.map_append] <;> rfl
theorem valV_set (ks : List κ) (k : κ) : (valV (setDict ks) k).isSome = decide (k ∈ ks) := by
  induction ks with
  | nil => rfl
  | cons x ks ih =>
    unfold setDict at ih ⊢
    rw [List.map_cons]
    by_cases e : x = k
    · rw [valV_pos (p := (x, V.bl true)) e]
      rw [e]
      simp
    · rw [valV_neg (p := (x, V.bl true)) e, ih]
      exact decide_eq_decide.mpr ⟨fun h => List.mem_cons_of_mem _ h, fun h => (List.mem_cons.mp h).resolve_left fun z => e z.symm⟩
theorem mem_dstep {acc : List κ} {k x : κ} : x ∈ dstep acc k ↔ x ∈ acc ∨ x = k := by
  unfold dstep
  by_cases h : k ∈ acc
  · rw [if_pos h]
    exact ⟨.inl, fun z => z.elim id fun e => e ▸ h⟩
  · rw [if_neg h, List.mem_append, List.mem_singleton]
theorem mem_foldl {x : κ} : ∀ {ls acc : List κ}, x ∈ ls.foldl dstep acc ↔ x ∈ acc ∨ x ∈ ls
  | [], acc => by simp
  | k :: ls, acc => by
    rw [List.foldl_cons, mem_foldl, mem_dstep, List.mem_cons, or_assoc]
theorem mem_dd {ls : List κ} {x : κ} : x ∈ dd ls ↔ x ∈ ls := by unfold dd; rw [mem_foldl]; simp
theorem nodup_dstep {acc : List κ} {k : κ} (h : acc.Nodup) : (dstep acc k).Nodup := by
  unfold dstep
  by_cases e : k ∈ acc
  · rw [if_pos e]; exact h
  · rw [if_neg e]
    exact List.nodup_append.mpr ⟨h, List.nodup_cons.mpr ⟨by simp, List.nodup_nil⟩, fun a ha b hb z => by
      rw [List.mem_singleton.mp hb] at z
      exact e (z ▸ ha)⟩
theorem nodup_foldl : ∀ {ls acc : List κ}, acc.Nodup → (ls.foldl dstep acc).Nodup
  | [], _, h => h
  | k :: ls, acc, h => by
    rw [List.foldl_cons]
    exact nodup_foldl (nodup_dstep h)
theorem nodup_dd (ls : List κ) : (dd ls).Nodup := nodup_foldl List.nodup_nil
theorem len_dstep (acc : List κ) (k : κ) : (dstep acc k).length ≤ acc.length + 1 := by
  unfold dstep
  by_cases h : k ∈ acc
  · rw [if_pos h]; omega
  · rw [if_neg h, List.length_append]; exact Nat.le_refl _
theorem len_foldl : ∀ (ls acc : List κ), (ls.foldl dstep acc).length ≤ acc.length + ls.length
  | [], _ => Nat.le_refl _
  | k :: ls, acc => by
    have h := len_foldl ls (dstep acc k)
    have h2 := len_dstep acc k
    rw [List.foldl_cons, List.length_cons]
    omega
theorem len_dd (ls : List κ) : (dd ls).length ≤ ls.length := by have := len_foldl ls ([] : List κ); simpa [dd] using this
theorem dd_map {μ : Type} [DecidableEq μ] {f : κ → μ} (hf : ∀ a b, f a = f b → a = b) (ls : List κ) : dd (ls.map f) = (dd ls).map f := by
  have aux : ∀ (ls acc : List κ), (ls.map f).foldl dstep (acc.map f) = (ls.foldl dstep acc).map f := by
    intro ls
    induction ls with
    | nil => intro acc; rfl
    | cons k ls ih =>
      intro acc
      rw [List.map_cons, List.foldl_cons, List.foldl_cons, ← ih]
      congr 1
      unfold dstep
      by_cases h : k ∈ acc
      · rw [if_pos h, if_pos (List.mem_map.mpr ⟨k, h, rfl⟩)]
      · rw [if_neg h, if_neg (fun z => by
          obtain ⟨x, hx, e⟩ := List.mem_map.mp z
          exact h (hf _ _ e ▸ hx)), List.map_append] <;> rfl
  exact aux ls []
end
/-! ### sorting by data -/
section
variable {β γ : Type}
def srtBy (g : β → PyData) (bs : List β) : List β := bs.mergeSort (PySem.W.dataLe false g)
theorem sortD_map (f : β → V) (g : β → PyData) (bs : List β) : sortD (bs.map f) (bs.map g) = (srtBy g bs).map f := by
  unfold sortD srtBy
  have e : (bs.map f).zip (bs.map g) = bs.map fun b => (f b, g b) := by
    induction bs with
    | nil => rfl
    | cons b bs ih => rw [List.map_cons, List.map_cons, List.zip_cons_cons, ih] <;> rfl
  rw [e, ← PySem.W.sort_maps (fun b => (f b, g b)) (r := PySem.W.dataLe false g) (s := PySem.W.dataLe false fun p : V × PyData => p.2) (fun _ _ _ _ => rfl), List.map_map]
  rfl
theorem srtBy_map (h : β → γ) (g : γ → PyData) (bs : List β) : (srtBy (fun b => g (h b)) bs).map h = srtBy g (bs.map h) :=
  PySem.W.sort_maps h (r := PySem.W.dataLe false fun b => g (h b)) (s := PySem.W.dataLe false g) fun _ _ _ _ => rfl
theorem srtBy_perm (g : β → PyData) (bs : List β) : (srtBy g bs).Perm bs := List.mergeSort_perm _ _
theorem mem_srtBy {g : β → PyData} {bs : List β} {x : β} : x ∈ srtBy g bs ↔ x ∈ bs := (srtBy_perm g bs).mem_iff
theorem srtBy_pair (g : β → PyData) (bs : List β) : (srtBy g bs).Pairwise fun a b => PySem.W.dataLe false g a b = true :=
  PySem.W.sort_pairwise (PySem.W.sortLe_total _ _ _) bs
theorem srtBy_congr {g g' : β → PyData} {bs : List β} (h : ∀ a ∈ bs, ∀ b ∈ bs, PySem.W.dataLt (g a) (g b) = PySem.W.dataLt (g' a) (g' b)) : srtBy g bs = srtBy g' bs :=
  PySem.W.sort_congr fun a ha b hb => by
    show (!PySem.W.dataLt (g b) (g a)) = (!PySem.W.dataLt (g' b) (g' a))
    rw [h b hb a ha]
end
end Ky

namespace Ky
open PySem PySem.Spec PyProof.Rows L2
/-- any comprehension's walk -/
theorem c_walk {J : It} {n : Nat} {xv : Nat → V} {Body : V → Hp → (Hp → Prop) → Prop} {Qd : Hp → Prop} {H0 : Hp} (Pv : Nat → Hp → Prop) (h0 : Pv 0 H0) (hgo : ∀ i H, i < n → Pv i H → J.go i H) (hy : ∀ i H x H', i < n → Pv i H → J.yld i H x H' → H' = H ∧ x = xv i)
    (hstop : ∀ H, Pv n H → J.stop n H) (step : ∀ i H, i < n → Pv i H → Body (xv i) H (Pv (i + 1))) (fin : ∀ H, Pv n H → Qd H) :
    ∃ W : Nat → Nat → Hp → Prop, (∃ m, W 0 m H0) ∧ ∀ i m H, W i m H → (J.stop i H ∧ Qd H) ∨ (J.go i H ∧ ∃ Nx : Hp → Prop, (∀ H', Nx H' → ∃ m', m' < m ∧ W (i + 1) m' H') ∧ ∀ x H', J.yld i H x H' → Body x H' Nx) := by
  refine ⟨fun i m H => m = n - i ∧ i ≤ n ∧ Pv i H, ⟨n, by simp, Nat.zero_le _, h0⟩, ?_⟩
  rintro i m H ⟨rfl, hi, p⟩
  by_cases hlt : i < n
  · refine .inr ⟨hgo i H hlt p, Pv (i + 1), fun H' p' => ⟨n - (i + 1), by omega, rfl, hlt, p'⟩, fun x H' y => ?_⟩
    obtain ⟨rfl, rfl⟩ := hy i H x H' hlt p y
    exact step i H' hlt p
  · have e : i = n := by omega
    subst e
    exact .inl ⟨hstop H p, fin H p⟩
theorem c_list {K : PySem.W.Frag} {a : Addr} {xs : List V} {Body : V → Hp → (Hp → Prop) → Prop} {Qd : Hp → Prop} {H0 : Hp} (Pv : Nat → Hp → Prop) (h0 : Pv 0 H0) (hl : ∀ i H, i ≤ xs.length → Pv i H → SqL K H a xs)
    (step : ∀ i x H, xs[i]? = some x → Pv i H → Body x H (Pv (i + 1))) (fin : ∀ H, Pv xs.length H → Qd H) :
    ∃ W : Nat → Nat → Hp → Prop, (∃ m, W 0 m H0) ∧ ∀ i m H, W i m H → ((Itl K a).stop i H ∧ Qd H) ∨ ((Itl K a).go i H ∧ ∃ Nx : Hp → Prop, (∀ H', Nx H' → ∃ m', m' < m ∧ W (i + 1) m' H') ∧ ∀ x H', (Itl K a).yld i H x H' → Body x H' Nx) :=
  c_walk (xv := fun i => xs.getD i .non) Pv h0 (fun i H h hs => ⟨xs, xs[i], hl i H (Nat.le_of_lt h) hs, List.getElem?_eq_getElem h⟩) (fun i H x H' h hs q => by
    obtain ⟨e, q⟩ := q
    subst e
    refine ⟨rfl, ?_⟩
    rw [List.getD_eq_getElem?_getD, q xs (hl i _ (Nat.le_of_lt h) hs)] <;> rfl) (fun H hs => ⟨xs, hl _ H (Nat.le_refl _) hs, Nat.le_refl _⟩) (fun i H h hs => step i _ H (by rw [List.getD_eq_getElem?_getD, List.getElem?_eq_getElem h] <;> rfl) hs) fin
theorem c_tup {K : PySem.W.Frag} {a : Addr} {xs : List V} {Body : V → Hp → (Hp → Prop) → Prop} {Qd : Hp → Prop} {H0 : Hp} (Pv : Nat → Hp → Prop) (h0 : Pv 0 H0) (hl : ∀ i H, i ≤ xs.length → Pv i H → SqT K H a xs)
    (step : ∀ i x H, xs[i]? = some x → Pv i H → Body x H (Pv (i + 1))) (fin : ∀ H, Pv xs.length H → Qd H) :
    ∃ W : Nat → Nat → Hp → Prop, (∃ m, W 0 m H0) ∧ ∀ i m H, W i m H → ((Itt K a).stop i H ∧ Qd H) ∨ ((Itt K a).go i H ∧ ∃ Nx : Hp → Prop, (∀ H', Nx H' → ∃ m', m' < m ∧ W (i + 1) m' H') ∧ ∀ x H', (Itt K a).yld i H x H' → Body x H' Nx) :=
  c_walk (xv := fun i => xs.getD i .non) Pv h0 (fun i H h hs => ⟨xs, xs[i], hl i H (Nat.le_of_lt h) hs, List.getElem?_eq_getElem h⟩) (fun i H x H' h hs q => by
    obtain ⟨e, q⟩ := q
    subst e
    refine ⟨rfl, ?_⟩
    rw [List.getD_eq_getElem?_getD, q xs (hl i _ (Nat.le_of_lt h) hs)] <;> rfl) (fun H hs => ⟨xs, hl _ H (Nat.le_refl _) hs, Nat.le_refl _⟩) (fun i H h hs => step i _ H (by rw [List.getD_eq_getElem?_getD, List.getElem?_eq_getElem h] <;> rfl) hs) fin
theorem upd_again {H : Hp} {D : Addr} {a b : HO} : upd (upd H D a) D b = upd H D b := by
  funext x
  by_cases e : x = D
  · rw [e, upd_same, upd_same]
  · rw [upd_ne e, upd_ne e, upd_ne e]
def keysI (ns : List Int) : List L2.Key := ns.map Sum.inl
theorem inl_inj (a b : Int) (h : (Sum.inl a : L2.Key) = Sum.inl b) : a = b := Sum.inl.inj h
theorem keysI_inj : ∀ (a b : List Int), keysI a = keysI b → a = b
  | [], [], _ => rfl
  | x :: a, y :: b, h => by
    unfold keysI at h
    rw [List.map_cons, List.map_cons] at h
    obtain ⟨h1, h2⟩ := List.cons.inj h
    rw [Sum.inl.inj h1, keysI_inj a b h2]
  | [], _ :: _, h => by cases h
  | _ :: _, [], h => by cases h
theorem keysI_kV (ns : List Int) : (keysI ns).map kV = ns.map V.int := by unfold keysI; rw [List.map_map] <;> rfl
section
variable {K : PySem.W.Frag} {a : Addr} {σ : L2.St} {H : Hp} {Q : VK} {i0 j : Nat}
theorem var_set {x : V} (hj : j < σ.length) : ((wipe σ [j]).set j (some x))[j]? = some (some x) := by
  rw [List.getElem?_set_self (by rw [wipe_length]; exact hj)]
/-- {x: True for x in e}, e a list (a tuple) of numbers -/
theorem rd_dcI {ns : List Int} (hσ : σ[i0]? = some (some (.ref a))) (hj : j < σ.length) (ha : H a = some (.lst (ns.map V.int))) (hz : ns.length ≤ sizeLine) (k : ∀ D, H D = none → Q (.ref D) (upd H D (.dK (setDict (keysI (dd ns)))))) :
    tDc (iList K (tVar i0)) (gName j) tYes (tVar j) (tC (.bl true)) [j] σ H Q := by
  refine ⟨_, hσ, a, rfl, ⟨_, SqL.of ha⟩, fun D hD => ?_⟩
  refine c_list (xs := ns.map V.int) (fun i H1 => H1 = upd H D (.dK (setDict (keysI (dd (ns.take i)))))) (by rw [List.take_zero]; rfl) (fun i H1 _ h => by rw [h]; exact (Kept.new hD).sq (SqL.of ha)) (fun i x H1 hx h => ?_) fun H1 h => ?_
  · obtain ⟨n, rfl, hn⟩ := map_int hx
    refine ⟨wipe_one, w_yes (if_t rfl ⟨_, var_set hj, setDict (keysI (dd (ns.take i))), Sum.inl n, rfl, by rw [h]; exact upd_same, ?_, ?_⟩)⟩
    · rw [setDict_len]
      unfold keysI
      rw [List.length_map]
      have h1 := len_dd (ns.take i)
      have h2 : i < ns.length := (List.getElem?_eq_some_iff.mp hn).1
      rw [List.length_take] at h1
      omega
    · rw [h, upd_again, putK_set]
      have e : ns.take (i + 1) = ns.take i ++ [n] := by rw [List.take_add_one, hn]; rfl
      rw [e, dd_snoc]
      congr 3
      show dstep (keysI (dd (ns.take i))) (Sum.inl n) = keysI (dstep (dd (ns.take i)) n)
      unfold dstep keysI
      by_cases hm : n ∈ dd (ns.take i)
      · rw [if_pos hm, if_pos (List.mem_map.mpr ⟨n, hm, rfl⟩)]
      · rw [if_neg hm, if_neg (fun z => by
          obtain ⟨y, hy, e⟩ := List.mem_map.mp z
          exact hm (Sum.inl.inj e ▸ hy)), List.map_append] <;> rfl
  · rw [List.length_map, List.take_length] at h
    rw [h]
    exact k D hD
theorem rd_dcIt {ns : List Int} (hσ : σ[i0]? = some (some (.ref a))) (hj : j < σ.length) (ha : H a = some (.tup (ns.map V.int))) (hz : ns.length ≤ sizeLine) (k : ∀ D, H D = none → Q (.ref D) (upd H D (.dK (setDict (keysI (dd ns)))))) :
    tDc (iTup K (tVar i0)) (gName j) tYes (tVar j) (tC (.bl true)) [j] σ H Q := by
  refine ⟨_, hσ, a, rfl, ⟨_, SqT.of ha⟩, fun D hD => ?_⟩
  refine c_tup (xs := ns.map V.int) (fun i H1 => H1 = upd H D (.dK (setDict (keysI (dd (ns.take i)))))) (by rw [List.take_zero]; rfl) (fun i H1 _ h => by rw [h]; exact SqT.of ((Kept.new hD).tup ha)) (fun i x H1 hx h => ?_) fun H1 h => ?_
  · obtain ⟨n, rfl, hn⟩ := map_int hx
    refine ⟨wipe_one, w_yes (if_t rfl ⟨_, var_set hj, setDict (keysI (dd (ns.take i))), Sum.inl n, rfl, by rw [h]; exact upd_same, ?_, ?_⟩)⟩
    · rw [setDict_len]
      unfold keysI
      rw [List.length_map]
      have h1 := len_dd (ns.take i)
      have h2 : i < ns.length := (List.getElem?_eq_some_iff.mp hn).1
      rw [List.length_take] at h1
      omega
    · rw [h, upd_again, putK_set]
      have e : ns.take (i + 1) = ns.take i ++ [n] := by rw [List.take_add_one, hn]; rfl
      rw [e, dd_snoc]
      congr 3
      show dstep (keysI (dd (ns.take i))) (Sum.inl n) = keysI (dstep (dd (ns.take i)) n)
      unfold dstep keysI
      by_cases hm : n ∈ dd (ns.take i)
      · rw [if_pos hm, if_pos (List.mem_map.mpr ⟨n, hm, rfl⟩)]
      · rw [if_neg hm, if_neg (fun z => by
          obtain ⟨y, hy, e⟩ := List.mem_map.mp z
          exact hm (Sum.inl.inj e ▸ hy)), List.map_append] <;> rfl
  · rw [List.length_map, List.take_length] at h
    rw [h]
    exact k D hD
/-- {c: True for c in e}, e a list of tuples of numbers -/
theorem rd_dcT {bs : List Addr} {cs : List (List Int)} (hσ : σ[i0]? = some (some (.ref a))) (hj : j < σ.length) (ha : H a = some (.lst (bs.map V.ref))) (hl : bs.length = cs.length) (hb : ∀ (i : Nat) (b : Addr) (c : List Int), bs[i]? = some b → cs[i]? = some c → H b = some (.tup (c.map V.int))) (hz : cs.length ≤ sizeLine)
    (k : ∀ D, H D = none → Q (.ref D) (upd H D (.dT (setDict ((dd cs).map keysI))))) : tDcT (iList K (tVar i0)) (gName j) tYes (tVar j) (tC (.bl true)) [j] σ H Q := by
  refine ⟨_, hσ, a, rfl, ⟨_, SqL.of ha⟩, fun D hD => ?_⟩
  refine c_list (xs := bs.map V.ref) (fun i H1 => H1 = upd H D (.dT (setDict ((dd (cs.take i)).map keysI)))) (by rw [List.take_zero]; rfl) (fun i H1 _ h => by rw [h]; exact (Kept.new hD).sq (SqL.of ha)) (fun i x H1 hx h => ?_) fun H1 h => ?_
  · rw [List.getElem?_map] at hx
    obtain ⟨b, hb1, rfl⟩ := Option.map_eq_some_iff.mp hx
    have hi : i < cs.length := by rw [← hl]; exact (List.getElem?_eq_some_iff.mp hb1).1
    have hc : cs[i]? = some cs[i] := List.getElem?_eq_getElem hi
    have e1 := hb i b _ hb1 hc
    refine ⟨wipe_one, w_yes (if_t rfl ⟨_, var_set hj, setDict ((dd (cs.take i)).map keysI), keysI cs[i], b, rfl, ?_, by rw [h]; exact upd_same, ?_, ?_⟩)⟩
    · rw [keysI_kV, h, upd_ne (ne_of_none e1 hD)]
      exact e1
    · rw [setDict_len, List.length_map]
      have h1 := len_dd (cs.take i)
      rw [List.length_take] at h1
      omega
    · rw [h, upd_again, putK_set]
      have e : cs.take (i + 1) = cs.take i ++ [cs[i]] := by rw [List.take_add_one, hc]; rfl
      rw [e, dd_snoc]
      congr 3
      unfold dstep
      by_cases hm : cs[i] ∈ dd (cs.take i)
      · rw [if_pos hm, if_pos (List.mem_map.mpr ⟨_, hm, rfl⟩)]
      · rw [if_neg hm, if_neg (fun z => by
          obtain ⟨y, hy, e⟩ := List.mem_map.mp z
          exact hm (keysI_inj _ _ e ▸ hy)), List.map_append] <;> rfl
  · rw [List.length_map, hl, List.take_length] at h
    rw [h]
    exact k D hD
end
theorem w_ckw {σ : L2.St} {H : Hp} {Q : VK} {r : List V → List V → Hp → VK → Prop} {t tk : TA} (q : t σ H fun vs H1 => tk σ H1 fun zs H2 => r vs zs H2 Q) : tCKw r t tk σ H Q := q
theorem set_keys (ns : List Int) : (setDict (keysI ns)).map (fun kv : L2.Key × V => kV kv.1) = ns.map V.int := by
  unfold setDict keysI
  rw [List.map_map, List.map_map]
  rfl
/-! ### sets -/
theorem set_step (vs : List Int) (c : Int) : (fun j => decide (j ∈ vs) || decide (j = c)) = fun j => decide (j ∈ vs ++ [c]) := by
  funext j
  by_cases h1 : j ∈ vs <;> by_cases h2 : j = c <;> simp [h1, h2]
theorem set_len (vs : List Int) (c : Int) : (if decide (c ∈ vs) = true then (dd vs).length else (dd vs).length + 1) = (dd (vs ++ [c])).length := by
  rw [dd_snoc]
  unfold dstep
  by_cases h : c ∈ vs
  · rw [decide_eq_true h, if_pos rfl, if_pos (mem_dd.mpr h)]
  · rw [decide_eq_false h, if_neg Bool.false_ne_true, if_neg (fun z => h (mem_dd.mp z)), List.length_append] <;> rfl
end Ky

namespace Ky
open PySem PySem.Spec PyProof.Rows L2
/-! ### the law's draws, the cells' own place told (so that a fresh list may change between draws) -/
def DrwC (d c : Addr) (H : Hp) : Prop := ∃ (ns : List Int) (a u z : Int), c ≠ d ∧ H d = some (.lst [.ref c, .int a, .int u, .int z]) ∧ H c = some (.lst (ns.map V.int)) ∧ -1 ≤ a
structure KeptC (d c : Addr) (H H' : Hp) : Prop where
  keep : ∀ b o, b ≠ d → NoTab o → H b = some o → H' b = some o
  drw : DrwC d c H → DrwC d c H'
  tab : ∀ P, GxR.TabG H P → GxR.TabG H' P
  free : ∀ b, H' b = none → H b = none
theorem DrwC.old {d c : Addr} {H : Hp} (h : DrwC d c H) {p : Addr} (hp : H p = none) : p ≠ d ∧ p ≠ c := by
  obtain ⟨ns, a, u, z, n, h1, h2, _⟩ := h
  refine ⟨fun e => ?_, fun e => ?_⟩
  · rw [e, h1] at hp
    cases hp
  · rw [e, h2] at hp
    cases hp
theorem KeptC.refl {d c : Addr} (H : Hp) : KeptC d c H H := ⟨fun _ _ _ _ h => h, fun h => h, fun _ h => h, fun _ h => h⟩
theorem KeptC.trans {d c : Addr} {H H1 H2 : Hp} (a : KeptC d c H H1) (b : KeptC d c H1 H2) : KeptC d c H H2 :=
  ⟨fun x o n m h => b.keep x o n m (a.keep x o n m h), fun h => b.drw (a.drw h), fun P h => b.tab P (a.tab P h), fun x h => a.free x (b.free x h)⟩
theorem Kept.toC {d c : Addr} {H H' : Hp} (a : Kept H H') : KeptC d c H H' := ⟨fun b o _ n h => a.keep b o n h, fun h => by
  obtain ⟨ns, i, u, z, n, h1, h2, h3⟩ := h
  exact ⟨ns, i, u, z, n, a.keep _ _ noTab_lst h1, a.keep _ _ noTab_lst h2, h3⟩, a.tab, a.free⟩
theorem KeptC.mut {d c : Addr} {H H' : Hp} {p : Addr} {o : HO} (e : KeptC d c H H') (h : H p = none) : KeptC d c H (upd H' p o) := ⟨fun a u m n ha => by
  rw [upd_ne (ne_of_none ha h)]
  exact e.keep a u m n ha, fun hd => by
  obtain ⟨n1, n2⟩ := hd.old h
  obtain ⟨ns, i, u, z, n, h1, h2, h3⟩ := e.drw hd
  exact ⟨ns, i, u, z, n, by rw [upd_ne (Ne.symm n1)]; exact h1, by rw [upd_ne (Ne.symm n2)]; exact h2, h3⟩, fun P hP => by
  obtain ⟨ps, h1, h2⟩ := hP
  have nP := ne_of_none h1 h
  obtain ⟨qs, g1, g2⟩ := e.tab P ⟨ps, h1, h2⟩
  exact ⟨qs, by rw [upd_ne nP]; exact g1, g2⟩, fun b hb => e.free b (upd_free hb).1⟩
theorem KeptC.tup {d c : Addr} {H H' : Hp} {p : Addr} {xs : List V} (e : KeptC d c H H') (hd : DrwC d c H) (h : H p = some (.tup xs)) : H' p = some (.tup xs) := e.keep _ _ (fun z => by
  obtain ⟨ns, a, u, z', n, h', _⟩ := hd
  rw [z, h'] at h
  cases h) noTab_tup h
theorem KeptC.lst {d c : Addr} {H H' : Hp} {p : Addr} {xs : List V} (e : KeptC d c H H') (hd : p ≠ d) (h : H p = some (.lst xs)) : H' p = some (.lst xs) := e.keep _ _ hd noTab_lst h
theorem TakeSt.keptC {H H' : Hp} {c d : Addr} {ns : List Int} {xs : List V} (h : TakeSt H c d H') (hd : H d = some (.lst xs)) (hc : H c = some (.lst (ns.map V.int))) (ne : c ≠ d) : KeptC d c H H' := by
  obtain ⟨h1, a, u, z, h2, h3⟩ := h
  refine ⟨fun b o hb _ q => by rw [h1 b hb]; exact q, fun _ => ⟨ns, a, u, z, ne, h2, by rw [h1 c ne]; exact hc, h3⟩, fun P hP => ?_, fun b q => ?_⟩
  · obtain ⟨ps, p1, p2⟩ := hP
    have : P ≠ d := fun e => by
      rw [e, hd] at p1
      cases p1
    exact ⟨ps, by rw [h1 P this]; exact p1, p2⟩
  · by_cases e : b = d
    · rw [e, h2] at q
      cases q
    · rw [h1 b e] at q
      exact q
def spTakeC : Sp := fun vs H Q _ => ∃ (d c : Addr) (m : Int), vs = [.ref d, .int m] ∧ 0 < m ∧ m < 2 ^ 62 ∧ DrwC d c H ∧ ∀ (r : Int) H', 0 ≤ r → r < m → KeptC d c H H' → Q (.int r) H'
def spDrawC (K : PySem.W.Frag) : Sp := fun vs H Q _ => ∃ (a : Addr) (ns : List Int), vs = [.ref a] ∧ SqL K H a (ns.map V.int) ∧ ns.length ≤ 63 ∧ ∀ d c H', H d = none → Kept H H' → DrwC d c H' → Q (.ref d) H'
/-! ### is not, of two truths -/
def rNB : R2 := fun x y H Q => ∃ a b : Bool, x = .bl a ∧ y = .bl b ∧ Q (.bl (!decide (a = b))) H
section
variable {X : Cx}
def rLenK (K : PySem.W.Frag) : List V → Hp → VK → Prop := fun xs H Q => ∃ p ys, xs = [.ref p] ∧ (SqL K H p ys ∨ SqT K H p ys) ∧ Q (.int ys.length) H
theorem call_lenK {K : PySem.W.Frag} (e : X.K = K) : CallR X (.builtin "len") (rLenK K) := by
  subst e
  exact call_len_seq
theorem op_notB : OpR X (compareOp .IsNot) rNB := by
  intro pins s σ H x y v u Q I rx ry h
  obtain ⟨a, b, rfl, rfl, q⟩ := h
  cases (show v = Value.bool a from rx)
  cases (show u = Value.bool b from ry)
  exact wpAny_isNot_plain rfl (fin_bl I q (by cases a <;> cases b <;> rfl))
end
end Ky

namespace Ky
open PySem PySem.Spec PyProof.Rows L2
/-! ### loops and comprehensions, one step each; what is told of the walk stands in one word -/
def FrJ (g : TG) (tb : TS) (D : Ends) (σ : L2.St) (J : It) (H1 : Hp) : Prop := ∃ W : Nat → Nat → L2.St → Hp → Prop, (∃ m, W 0 m σ H1) ∧ ∀ i m σ H, W i m σ H →
  (J.stop i H ∧ D.nx σ H) ∨ (J.go i H ∧ ∃ N : L2.St → Hp → Prop, (∀ σ' H', N σ' H' → ∃ m', m' < m ∧ W (i + 1) m' σ' H') ∧ ∀ x H', J.yld i H x H' → g x σ H' fun σ2 H2 => tb { D with nx := N, ct := N, bk := D.nx } σ2 H2)
def Fr1 (g : TG) (tb : TS) (D : Ends) (σ : L2.St) (vs : List V) (H1 : Hp) : Prop := ∃ j : Int, vs = [.int j] ∧ -(2 ^ 62) ≤ j ∧ j < 2 ^ 62 ∧ FrJ g tb D σ (Itr 0 j.toNat) H1
def Fr2 (g : TG) (tb : TS) (D : Ends) (σ : L2.St) (vs : List V) (H1 : Hp) : Prop := ∃ i j : Int, vs = [.int i, .int j] ∧ (-(2 ^ 62) ≤ i ∧ i < 2 ^ 62 ∧ -(2 ^ 62) ≤ j ∧ j < 2 ^ 62) ∧ FrJ g tb D σ (Itr i (j - i).toNat) H1
def FrL (K : PySem.W.Frag) (g : TG) (tb : TS) (D : Ends) (σ : L2.St) (x : V) (H1 : Hp) : Prop := ∃ a, x = .ref a ∧ (∃ xs, SqL K H1 a xs) ∧ FrJ g tb D σ (Itl K a) H1
def FrT (K : PySem.W.Frag) (g : TG) (tb : TS) (D : Ends) (σ : L2.St) (x : V) (H1 : Hp) : Prop := ∃ a, x = .ref a ∧ (∃ xs, SqT K H1 a xs) ∧ FrJ g tb D σ (Itt K a) H1
def LcJ (g : TG) (tt : TT) (te : TE) (vs : List Nat) (σ : L2.St) (Q : VK) (J : It) (H1 : Hp) : Prop := ∀ D, H1 D = none → ∃ W : Nat → Nat → Hp → Prop, (∃ m, W 0 m (upd H1 D (.lst []))) ∧ ∀ i m H, W i m H →
  (J.stop i H ∧ Q (.ref D) H) ∨ (J.go i H ∧ ∃ Nx : Hp → Prop, (∀ H', Nx H' → ∃ m', m' < m ∧ W (i + 1) m' H') ∧ ∀ x H', J.yld i H x H' → g x (wipe σ vs) H' fun σ2 H2 => wipe σ2 vs = wipe σ vs ∧ tt σ2 H2 fun b H3 =>
    if b = true then te σ2 H3 fun y H4 => ∃ acc, H4 D = some (.lst acc) ∧ acc.length < sizeLine ∧ Nx (upd H4 D (.lst (acc ++ [y]))) else Nx H3)
def Lc1 (g : TG) (tt : TT) (te : TE) (vs : List Nat) (σ : L2.St) (Q : VK) (ws : List V) (H1 : Hp) : Prop := ∃ j : Int, ws = [.int j] ∧ -(2 ^ 62) ≤ j ∧ j < 2 ^ 62 ∧ LcJ g tt te vs σ Q (Itr 0 j.toNat) H1
def LcL (K : PySem.W.Frag) (g : TG) (tt : TT) (te : TE) (vs : List Nat) (σ : L2.St) (Q : VK) (x : V) (H1 : Hp) : Prop := ∃ a, x = .ref a ∧ (∃ xs, SqL K H1 a xs) ∧ LcJ g tt te vs σ Q (Itl K a) H1
def LcT (K : PySem.W.Frag) (g : TG) (tt : TT) (te : TE) (vs : List Nat) (σ : L2.St) (Q : VK) (x : V) (H1 : Hp) : Prop := ∃ a, x = .ref a ∧ (∃ xs, SqT K H1 a xs) ∧ LcJ g tt te vs σ Q (Itt K a) H1
section
variable {K : PySem.W.Frag} {σ : L2.St} {H H1 : Hp} {Q : VK} {D : Ends} {g : TG} {tb : TS} {ta : TA} {te te2 : TE} {tt : TT} {vs : List Nat} {J : It}
theorem w_for1 (q : ta σ H (Fr1 g tb D σ)) : tFor (iRng1 ta) g tb D σ H := q
theorem w_for2 (q : ta σ H (Fr2 g tb D σ)) : tFor (iRng2 ta) g tb D σ H := q
theorem w_forL (q : te σ H (FrL K g tb D σ)) : tFor (iList K te) g tb D σ H := q
theorem w_forT (q : te σ H (FrT K g tb D σ)) : tFor (iTup K te) g tb D σ H := q
theorem w_lc1 (q : ta σ H (Lc1 g tt te vs σ Q)) : tLc (iRng1 ta) g tt te vs σ H Q := q
theorem w_lcL (q : te2 σ H (LcL K g tt te vs σ Q)) : tLc (iList K te2) g tt te vs σ H Q := q
theorem w_lcT (q : te2 σ H (LcT K g tt te vs σ Q)) : tLc (iTup K te2) g tt te vs σ H Q := q
theorem FrJ.range {lo : Int} {n : Nat} (Pv : Nat → L2.St → Hp → Prop) (h0 : Pv 0 σ H) (hs : ∀ i σ H, i < n → Pv i σ H → g (.int (lo + i)) σ H fun σ2 H2 => tb { D with nx := Pv (i + 1), ct := Pv (i + 1), bk := D.nx } σ2 H2) (hd : ∀ σ H, Pv n σ H → D.nx σ H) : FrJ g tb D σ (Itr lo n) H := for_range Pv h0 hs hd
theorem Fr1.mk {m : Nat} (hm : (m : Int) < 2 ^ 62) (Pv : Nat → L2.St → Hp → Prop) (h0 : Pv 0 σ H) (hs : ∀ i σ H, i < m → Pv i σ H → g (.int (i : Int)) σ H fun σ2 H2 => tb { D with nx := Pv (i + 1), ct := Pv (i + 1), bk := D.nx } σ2 H2) (hd : ∀ σ H, Pv m σ H → D.nx σ H) : Fr1 g tb D σ [.int (m : Int)] H := by
  refine ⟨_, rfl, by omega, hm, ?_⟩
  rw [Int.toNat_natCast]
  refine for_range Pv h0 (fun i σ H hi p => ?_) hd
  rw [Int.zero_add]
  exact hs i σ H hi p
theorem FrL.mk {a : Addr} {xs : List V} (Pv : Nat → L2.St → Hp → Prop) (h0 : Pv 0 σ H) (hl : ∀ i σ H, i ≤ xs.length → Pv i σ H → SqL K H a xs) (hs : ∀ i x σ H, xs[i]? = some x → Pv i σ H → g x σ H fun σ2 H2 => tb { D with nx := Pv (i + 1), ct := Pv (i + 1), bk := D.nx } σ2 H2) (hd : ∀ σ H, Pv xs.length σ H → D.nx σ H) : FrL K g tb D σ (.ref a) H :=
  ⟨a, rfl, ⟨xs, hl 0 σ H (Nat.zero_le _) h0⟩, for_list Pv h0 hl hs hd⟩
theorem FrT.mk {a : Addr} {xs : List V} (Pv : Nat → L2.St → Hp → Prop) (h0 : Pv 0 σ H) (hl : ∀ i σ H, i ≤ xs.length → Pv i σ H → SqT K H a xs) (hs : ∀ i x σ H, xs[i]? = some x → Pv i σ H → g x σ H fun σ2 H2 => tb { D with nx := Pv (i + 1), ct := Pv (i + 1), bk := D.nx } σ2 H2) (hd : ∀ σ H, Pv xs.length σ H → D.nx σ H) : FrT K g tb D σ (.ref a) H :=
  ⟨a, rfl, ⟨xs, hl 0 σ H (Nat.zero_le _) h0⟩, for_tup Pv h0 hl hs hd⟩
/-- a comprehension's walk: what it appends is told, and the heap only grows -/
theorem LcJ.run {n : Nat} {xv : Nat → V} {j : Nat} {H0 : Hp} {Q : VK} (p : Nat → Bool) (f : Nat → V) (hn : n ≤ sizeLine) (hgo : ∀ i H, i < n → Kept H0 H → J.go i H) (hy : ∀ i H x H', i < n → Kept H0 H → J.yld i H x H' → H' = H ∧ x = xv i) (hstop : ∀ H, Kept H0 H → J.stop n H)
    (step : ∀ i H (k : Hp → Prop) (k2 : VK), i < n → Kept H0 H → (∀ H4, Kept H H4 → p i = true → k2 (f i) H4) → (∀ H4, Kept H H4 → p i = false → k H4) → tt ((wipe σ [j]).set j (some (xv i))) H fun b H3 => if b = true then te ((wipe σ [j]).set j (some (xv i))) H3 k2 else k H3)
    (fin : ∀ D H, H0 D = none → Kept H0 H → H D = some (.lst (((List.range n).filter p).map f)) → Q (.ref D) H) : LcJ (gName j) tt te [j] σ Q J H0 := by
  intro D hD
  refine c_walk (xv := xv) (fun i H => Kept H0 H ∧ H D = some (.lst (((List.range i).filter p).map f))) ⟨Kept.new hD, upd_same⟩ (fun i H h s => hgo i H h s.1) (fun i H x H' h s => hy i H x H' h s.1) (fun H s => hstop H s.1) (fun i H hi s => ?_) fun H s => fin D H hD s.1 s.2
  refine ⟨wipe_one, ?_⟩
  refine step i H _ _ hi s.1 (fun H4 k4 hp => ?_) fun H4 k4 hp => ?_
  · refine ⟨_, k4.lst s.2, ?_, Kept.mut (s.1.trans k4) hD, ?_⟩
    · rw [List.length_map]
      have h1 := List.length_filter_le p (List.range i)
      rw [List.length_range] at h1
      omega
    · rw [List.range_succ, List.filter_append, List.map_append, List.filter_cons_of_pos hp]
      exact upd_same
  · refine ⟨s.1.trans k4, ?_⟩
    rw [List.range_succ, List.filter_append, List.filter_cons_of_neg (by rw [hp]; exact Bool.false_ne_true), List.filter_nil, List.append_nil]
    exact k4.lst s.2
theorem Lc1.run {n : Nat} {j : Nat} {H0 : Hp} {Q : VK} (p : Nat → Bool) (f : Nat → V) (hn : n ≤ sizeLine)
    (step : ∀ i H (k : Hp → Prop) (k2 : VK), i < n → Kept H0 H → (∀ H4, Kept H H4 → p i = true → k2 (f i) H4) → (∀ H4, Kept H H4 → p i = false → k H4) → tt ((wipe σ [j]).set j (some (.int (i : Int)))) H fun b H3 => if b = true then te ((wipe σ [j]).set j (some (.int (i : Int)))) H3 k2 else k H3)
    (fin : ∀ D H, H0 D = none → Kept H0 H → H D = some (.lst (((List.range n).filter p).map f)) → Q (.ref D) H) : Lc1 (gName j) tt te [j] σ Q [.int (n : Int)] H0 := by
  have hz : sizeLine < 2 ^ 62 := by decide
  refine ⟨_, rfl, by omega, by omega, ?_⟩
  rw [Int.toNat_natCast]
  exact LcJ.run (xv := fun i => .int (i : Int)) p f hn (fun i H h _ => h) (fun i H x H' _ _ h => by
    obtain ⟨h1, h2⟩ := h
    rw [Int.zero_add] at h2
    exact ⟨h1, h2⟩) (fun H _ => Nat.le_refl n) step fin
theorem LcL.run {a : Addr} {xs : List V} {j : Nat} {H0 : Hp} {Q : VK} (p : Nat → Bool) (f : Nat → V) (hn : xs.length ≤ sizeLine) (ha : H0 a = some (.lst xs))
    (step : ∀ i x H (k : Hp → Prop) (k2 : VK), xs[i]? = some x → Kept H0 H → (∀ H4, Kept H H4 → p i = true → k2 (f i) H4) → (∀ H4, Kept H H4 → p i = false → k H4) → tt ((wipe σ [j]).set j (some x)) H fun b H3 => if b = true then te ((wipe σ [j]).set j (some x)) H3 k2 else k H3)
    (fin : ∀ D H, H0 D = none → Kept H0 H → H D = some (.lst (((List.range xs.length).filter p).map f)) → Q (.ref D) H) : LcL K (gName j) tt te [j] σ Q (.ref a) H0 := by
  refine ⟨a, rfl, ⟨_, SqL.of ha⟩, LcJ.run (xv := fun i => xs.getD i .non) p f hn (fun i H h kp => ⟨xs, xs[i], SqL.of (kp.lst ha), List.getElem?_eq_getElem h⟩) (fun i H x H' h kp q => ?_) (fun H kp => ⟨xs, SqL.of (kp.lst ha), Nat.le_refl _⟩) (fun i H k k2 h kp => step i _ H k k2 (by rw [List.getD_eq_getElem?_getD, List.getElem?_eq_getElem h] <;> rfl) kp) fin⟩
  obtain ⟨e, q⟩ := q
  subst e
  refine ⟨rfl, ?_⟩
  rw [List.getD_eq_getElem?_getD, q xs (SqL.of (kp.lst ha))] <;> rfl
theorem LcT.run {a : Addr} {xs : List V} {j : Nat} {H0 : Hp} {Q : VK} (p : Nat → Bool) (f : Nat → V) (hn : xs.length ≤ sizeLine) (ha : H0 a = some (.tup xs))
    (step : ∀ i x H (k : Hp → Prop) (k2 : VK), xs[i]? = some x → Kept H0 H → (∀ H4, Kept H H4 → p i = true → k2 (f i) H4) → (∀ H4, Kept H H4 → p i = false → k H4) → tt ((wipe σ [j]).set j (some x)) H fun b H3 => if b = true then te ((wipe σ [j]).set j (some x)) H3 k2 else k H3)
    (fin : ∀ D H, H0 D = none → Kept H0 H → H D = some (.lst (((List.range xs.length).filter p).map f)) → Q (.ref D) H) : LcT K (gName j) tt te [j] σ Q (.ref a) H0 := by
  refine ⟨a, rfl, ⟨_, SqT.of ha⟩, LcJ.run (xv := fun i => xs.getD i .non) p f hn (fun i H h kp => ⟨xs, xs[i], SqT.of (kp.tup ha), List.getElem?_eq_getElem h⟩) (fun i H x H' h kp q => ?_) (fun H kp => ⟨xs, SqT.of (kp.tup ha), Nat.le_refl _⟩) (fun i H k k2 h kp => step i _ H k k2 (by rw [List.getD_eq_getElem?_getD, List.getElem?_eq_getElem h] <;> rfl) kp) fin⟩
  obtain ⟨e, q⟩ := q
  subst e
  refine ⟨rfl, ?_⟩
  rw [List.getD_eq_getElem?_getD, q xs (SqT.of (kp.tup ha))] <;> rfl
end
/-! ### what the walks leave, as lists -/
theorem range_filter {α β : Type} (d : α) (p : α → Bool) (f : α → β) : ∀ xs : List α, ((List.range xs.length).filter fun i => p (xs.getD i d)).map (fun i => f (xs.getD i d)) = (xs.filter p).map f := by
  intro xs
  have h : ∀ m, m ≤ xs.length → ((List.range m).filter fun i => p (xs.getD i d)).map (fun i => f (xs.getD i d)) = ((xs.take m).filter p).map f := by
    intro m
    induction m with
    | zero => intro _; rfl
    | succ m ih =>
      intro hm
      have hx : xs[m]? = some xs[m] := List.getElem?_eq_getElem hm
      rw [List.range_succ, List.filter_append, List.map_append, ih (by omega), List.take_add_one, hx, List.filter_append, List.map_append]
      congr 1
      have e : xs.getD m d = xs[m] := by rw [List.getD_eq_getElem?_getD, hx] <;> rfl
      show (List.filter _ [m]).map _ = (List.filter p [xs[m]]).map f
      cases hp : p xs[m] with
      | true => rw [List.filter_cons_of_pos (by rw [e]; exact hp), List.filter_cons_of_pos hp, List.filter_nil, List.filter_nil, List.map_cons, List.map_cons, e] <;> rfl
      | false => rw [List.filter_cons_of_neg (by rw [e, hp]; exact Bool.false_ne_true), List.filter_cons_of_neg (by rw [hp]; exact Bool.false_ne_true)] <;> rfl
  rw [h _ (Nat.le_refl _), List.take_length]
theorem range_map {α β : Type} (d : α) (f : α → β) (xs : List α) : (List.range xs.length).map (fun i => f (xs.getD i d)) = xs.map f := by
  have h := range_filter d (fun _ => true) f xs
  rw [List.filter_eq_self.mpr (fun _ _ => rfl), List.filter_eq_self.mpr (fun _ _ => rfl)] at h
  exact h
section
variable {K : PySem.W.Frag} {σ : L2.St} {Q : VK} {te : TE} {tt : TT} {a : Addr} {ns : List Int} {j : Nat} {H0 : Hp}
/-- a comprehension over numbers -/
theorem LcL.ints (p : Int → Bool) (f : Int → V) (hn : ns.length ≤ sizeLine) (ha : H0 a = some (.lst (ns.map V.int)))
    (step : ∀ n H (k : Hp → Prop) (k2 : VK), n ∈ ns → Kept H0 H → (∀ H4, Kept H H4 → p n = true → k2 (f n) H4) → (∀ H4, Kept H H4 → p n = false → k H4) → tt ((wipe σ [j]).set j (some (.int n))) H fun b H3 => if b = true then te ((wipe σ [j]).set j (some (.int n))) H3 k2 else k H3)
    (fin : ∀ D H, H0 D = none → Kept H0 H → H D = some (.lst ((ns.filter p).map f)) → Q (.ref D) H) : LcL K (gName j) tt te [j] σ Q (.ref a) H0 := by
  refine LcL.run (fun i => p (ns.getD i 0)) (fun i => f (ns.getD i 0)) (by rw [List.length_map]; exact hn) ha (fun i x H k k2 hx kp h1 h2 => ?_) fun D H hD kp h => fin D H hD kp ?_
  · obtain ⟨n, rfl, hn⟩ := map_int hx
    have e : ns.getD i 0 = n := by rw [List.getD_eq_getElem?_getD, hn] <;> rfl
    refine step n H k k2 (List.mem_of_getElem? hn) kp (fun H4 k4 hp => ?_) fun H4 k4 hp => ?_
    · have q := h1 H4 k4 (by rw [e]; exact hp)
      rw [e] at q
      exact q
    · exact h2 H4 k4 (by rw [e]; exact hp)
  · rw [h, List.length_map]
    exact congrArg (fun z => some (HO.lst z)) (range_filter 0 p f ns)
theorem LcT.ints (p : Int → Bool) (f : Int → V) (hn : ns.length ≤ sizeLine) (ha : H0 a = some (.tup (ns.map V.int)))
    (step : ∀ n H (k : Hp → Prop) (k2 : VK), n ∈ ns → Kept H0 H → (∀ H4, Kept H H4 → p n = true → k2 (f n) H4) → (∀ H4, Kept H H4 → p n = false → k H4) → tt ((wipe σ [j]).set j (some (.int n))) H fun b H3 => if b = true then te ((wipe σ [j]).set j (some (.int n))) H3 k2 else k H3)
    (fin : ∀ D H, H0 D = none → Kept H0 H → H D = some (.lst ((ns.filter p).map f)) → Q (.ref D) H) : LcT K (gName j) tt te [j] σ Q (.ref a) H0 := by
  refine LcT.run (fun i => p (ns.getD i 0)) (fun i => f (ns.getD i 0)) (by rw [List.length_map]; exact hn) ha (fun i x H k k2 hx kp h1 h2 => ?_) fun D H hD kp h => fin D H hD kp ?_
  · obtain ⟨n, rfl, hn⟩ := map_int hx
    have e : ns.getD i 0 = n := by rw [List.getD_eq_getElem?_getD, hn] <;> rfl
    refine step n H k k2 (List.mem_of_getElem? hn) kp (fun H4 k4 hp => ?_) fun H4 k4 hp => ?_
    · have q := h1 H4 k4 (by rw [e]; exact hp)
      rw [e] at q
      exact q
    · exact h2 H4 k4 (by rw [e]; exact hp)
  · rw [h, List.length_map]
    exact congrArg (fun z => some (HO.lst z)) (range_filter 0 p f ns)
end
section
variable {K : PySem.W.Frag} {σ : L2.St} {te : TE} {J : It}
theorem tupUpd {H : Hp} {D q : Addr} {xs ys : List V} {o : HO} (hD : H D = some (.lst xs)) (h : H q = some (.tup ys)) : upd H D o q = some (.tup ys) := by
  rw [upd_ne (fun z => by
    rw [z, hD] at h
    cases h)]
  exact h
/-- a comprehension whose elements are tuples of told contents -/
theorem LcJ.tups {n : Nat} {xv : Nat → V} {j : Nat} {H0 : Hp} {Q : VK} (T : Nat → List V) (hn : n ≤ sizeLine) (hgo : ∀ i H, i < n → Kept H0 H → J.go i H) (hy : ∀ i H x H', i < n → Kept H0 H → J.yld i H x H' → H' = H ∧ x = xv i) (hstop : ∀ H, Kept H0 H → J.stop n H)
    (step : ∀ i H (k2 : VK), i < n → Kept H0 H → (∀ H4 q, Kept H H4 → H4 q = some (.tup (T i)) → k2 (.ref q) H4) → te ((wipe σ [j]).set j (some (xv i))) H k2)
    (fin : ∀ D H (qs : List Addr), H0 D = none → Kept H0 H → H D = some (.lst (qs.map V.ref)) → qs.length = n → (∀ i q, qs[i]? = some q → H q = some (.tup (T i))) → Q (.ref D) H) : LcJ (gName j) tYes te [j] σ Q J H0 := by
  intro D hD
  refine c_walk (xv := xv) (fun i H => Kept H0 H ∧ ∃ qs : List Addr, H D = some (.lst (qs.map V.ref)) ∧ qs.length = i ∧ ∀ i q, qs[i]? = some q → H q = some (.tup (T i))) ⟨Kept.new hD, [], upd_same, rfl, fun i q h => by simp at h⟩ (fun i H h s => hgo i H h s.1) (fun i H x H' h s => hy i H x H' h s.1) (fun H s => hstop H s.1) (fun i H hi s => ?_) fun H s => ?_
  · obtain ⟨kp, qs, h1, h2, h3⟩ := s
    refine ⟨wipe_one, w_yes (if_t rfl ?_)⟩
    refine step i H _ hi kp fun H4 q k4 hq => ⟨_, k4.lst h1, ?_, Kept.mut (kp.trans k4) hD, qs ++ [q], ?_, ?_, fun m r hr => ?_⟩
    · rw [List.length_map, h2]
      omega
    · rw [List.map_append]
      exact upd_same
    · rw [List.length_append, h2] <;> rfl
    · by_cases hm : m < qs.length
      · rw [List.getElem?_append_left hm] at hr
        exact tupUpd (k4.lst h1) (k4.tup (h3 m r hr))
      · rw [List.getElem?_append_right (by omega)] at hr
        cases z : m - qs.length with
        | zero =>
          rw [z] at hr
          cases hr
          have e : m = i := by omega
          rw [e]
          exact tupUpd (k4.lst h1) hq
        | succ m =>
          rw [z] at hr
          simp at hr
  · obtain ⟨kp, qs, h1, h2, h3⟩ := s
    exact fin D H qs hD kp h1 h2 h3
theorem LcL.tups {a : Addr} {xs : List V} {j : Nat} {H0 : Hp} {Q : VK} (T : Nat → List V) (hn : xs.length ≤ sizeLine) (ha : H0 a = some (.lst xs))
    (step : ∀ i x H (k2 : VK), xs[i]? = some x → Kept H0 H → (∀ H4 q, Kept H H4 → H4 q = some (.tup (T i)) → k2 (.ref q) H4) → te ((wipe σ [j]).set j (some x)) H k2)
    (fin : ∀ D H (qs : List Addr), H0 D = none → Kept H0 H → H D = some (.lst (qs.map V.ref)) → qs.length = xs.length → (∀ i q, qs[i]? = some q → H q = some (.tup (T i))) → Q (.ref D) H) : LcL K (gName j) tYes te [j] σ Q (.ref a) H0 := by
  refine ⟨a, rfl, ⟨_, SqL.of ha⟩, LcJ.tups (xv := fun i => xs.getD i .non) T hn (fun i H h kp => ⟨xs, xs[i], SqL.of (kp.lst ha), List.getElem?_eq_getElem h⟩) (fun i H x H' h kp q => ?_) (fun H kp => ⟨xs, SqL.of (kp.lst ha), Nat.le_refl _⟩) (fun i H k2 h kp => step i _ H k2 (by rw [List.getD_eq_getElem?_getD, List.getElem?_eq_getElem h] <;> rfl) kp) fin⟩
  obtain ⟨e, q⟩ := q
  subst e
  refine ⟨rfl, ?_⟩
  rw [List.getD_eq_getElem?_getD, q xs (SqL.of (kp.lst ha))] <;> rfl
theorem LcT.tups {a : Addr} {xs : List V} {j : Nat} {H0 : Hp} {Q : VK} (T : Nat → List V) (hn : xs.length ≤ sizeLine) (ha : H0 a = some (.tup xs))
    (step : ∀ i x H (k2 : VK), xs[i]? = some x → Kept H0 H → (∀ H4 q, Kept H H4 → H4 q = some (.tup (T i)) → k2 (.ref q) H4) → te ((wipe σ [j]).set j (some x)) H k2)
    (fin : ∀ D H (qs : List Addr), H0 D = none → Kept H0 H → H D = some (.lst (qs.map V.ref)) → qs.length = xs.length → (∀ i q, qs[i]? = some q → H q = some (.tup (T i))) → Q (.ref D) H) : LcT K (gName j) tYes te [j] σ Q (.ref a) H0 := by
  refine ⟨a, rfl, ⟨_, SqT.of ha⟩, LcJ.tups (xv := fun i => xs.getD i .non) T hn (fun i H h kp => ⟨xs, xs[i], SqT.of (kp.tup ha), List.getElem?_eq_getElem h⟩) (fun i H x H' h kp q => ?_) (fun H kp => ⟨xs, SqT.of (kp.tup ha), Nat.le_refl _⟩) (fun i H k2 h kp => step i _ H k2 (by rw [List.getD_eq_getElem?_getD, List.getElem?_eq_getElem h] <;> rfl) kp) fin⟩
  obtain ⟨e, q⟩ := q
  subst e
  refine ⟨rfl, ?_⟩
  rw [List.getD_eq_getElem?_getD, q xs (SqT.of (kp.tup ha))] <;> rfl
end
theorem pg_tupK {X : Cx} {K : PySem.W.Frag} {pos : Pos} (hK : X.K = K) {es : List Expr} {k : Nat} {t : TGs} {n : Nat} (hc : X.calm = true) (h : PGs X es t)
    (hn : (assignEach es X.env).length = n := by rfl) (hst : (assignEach es X.env).findIdx? (·.1) = none := by rfl) : PG X (.Tuple es k pos) (gTup K n t) := by
  subst hK
  exact pg_tup hc h hn hst
end Ky

namespace Ky
open PySem PySem.Spec PyProof.Rows L2
/-! ### an index of a list or a tuple; >= of data; the whole of a tuple's slice; isinstance, the frame told -/
def rIxE (K : PySem.W.Frag) : R2 := fun x y H Q => rIxL K x y H Q ∨ rIxT K x y H Q
def rGeD (K : PySem.W.Frag) : R2 := fun x y H Q => ∃ d e, Dp K H x d ∧ Dp K H y e ∧ PySem.W.alike d e = true ∧ d ≠ .none ∧ d.depth ≤ 60 ∧ Q (.bl (!PySem.W.dataLt d e)) H
section
variable {X : Cx} {K : PySem.W.Frag}
theorem ix_either : IxR X (rIxE X.K) := by
  intro value slice pins s σ H x y v u Q I rx ry h hs
  rcases h with h | h
  · exact ix_list value slice pins s σ H x y v u Q I rx ry h hs
  · exact ix_tup value slice pins s σ H x y v u Q I rx ry h hs
theorem ix_eitherK (hK : X.K = K) : IxR X (rIxE K) := by subst hK; exact ix_either
theorem op_geD (hu : X.A.units + 64 < cLine) : OpR X (compareOp .GtE) (rGeD X.K) := by
  intro pins s σ H x y v u Q I rx ry h
  obtain ⟨d, e, hd, he, ha, hn, hz, q⟩ := h
  obtain ⟨as, r1⟩ := Dp.reads I d x v hd rx
  obtain ⟨bs, r2⟩ := Dp.reads I e y u he ry
  exact PySem.W.ge_data r1 r2 ha hn (by have := Nat.min_le_left d.depth e.depth; omega) ⟨.bl _, H, I, rfl, q⟩
theorem sl_tupAK (hK : X.K = K) : SlR X (rSlA K) := by subst hK; exact sl_tupA
theorem call_isiK (hK : X.K = K) : CallR X (.builtin "isinstance") (rIsi K) := by subst hK; exact call_isi
end
section
variable {σ : L2.St} {H : Hp} {Q : VK} {K : PySem.W.Frag} {x y : V}
theorem w_isi_bi {b : Bool} (q : Q (.bl true) H) : rIsi K [.bl b, .ty "int"] H Q := ⟨_, _, _, _, true, rfl, .ty _, .base (.bl b), kit_ty (by decide +kernel), q⟩
theorem w_isi_bb {b : Bool} (q : Q (.bl true) H) : rIsi K [.bl b, .ty "bool"] H Q := ⟨_, _, _, _, true, rfl, .ty _, .base (.bl b), kit_ty (by decide +kernel), q⟩
theorem w_isi_bt {b : Bool} (q : Q (.bl false) H) : rIsi K [.bl b, .ty "tuple"] H Q := ⟨_, _, _, _, false, rfl, .ty _, .base (.bl b), kit_ty (by decide +kernel), q⟩
theorem w_isi_si {z : Str} (q : Q (.bl false) H) : rIsi K [.str z, .ty "int"] H Q := ⟨_, _, _, _, false, rfl, .ty _, .base (.str z), kit_ty (by decide +kernel), q⟩
theorem w_isi_nt (q : Q (.bl false) H) : rIsi K [.non, .ty "tuple"] H Q := ⟨_, _, _, _, false, rfl, .ty _, .base .non, kit_ty (by decide +kernel), q⟩
theorem w_isi_ll {a : Addr} {xs : List V} (h : H a = some (.lst xs)) (q : Q (.bl true) H) : rIsi K [.ref a, .ty "list"] H Q := ⟨_, _, _, _, true, rfl, .ty _, .base (.lst h), kit_ty (by decide +kernel), q⟩
end
/-! ### values that a display makes: what is told of them stays true while the heap grows -/
def TupW (xs : List V) : V → Hp → Prop := fun v H => ∃ p, v = .ref p ∧ H p = some (.tup xs)
structure MkE (σ : L2.St) (H0 : Hp) (te : TE) (W : V → Hp → Prop) : Prop where
  up : ∀ v H H', Kept H H' → W v H → W v H'
  run : ∀ H Q, Kept H0 H → (∀ v H', Kept H H' → W v H' → Q v H') → te σ H Q
structure MkA (σ : L2.St) (H0 : Hp) (ta : TA) (W : List V → Hp → Prop) : Prop where
  up : ∀ v H H', Kept H H' → W v H → W v H'
  run : ∀ H Q, Kept H0 H → (∀ v H', Kept H H' → W v H' → Q v H') → ta σ H Q
section
variable {σ : L2.St} {H0 : Hp} {te ta tb : TE} {tq : TA} {K : PySem.W.Frag}
theorem mk_c {v : V} : MkE σ H0 (tC v) (fun x _ => x = v) := ⟨fun _ _ _ _ h => h, fun H Q k0 k => k v H (Kept.refl _) rfl⟩
theorem mk_var {i : Nat} {v : V} (h : σ[i]? = some (some v)) : MkE σ H0 (tVar i) (fun x _ => x = v) := ⟨fun _ _ _ _ h => h, fun H Q k0 k => ⟨v, h, k v H (Kept.refl _) rfl⟩⟩
theorem mk_varT {i : Nat} {a : Addr} {xs : List V} (h : σ[i]? = some (some (.ref a))) (ha : H0 a = some (.tup xs)) : MkE σ H0 (tVar i) (TupW xs) := ⟨fun v H H' k q => by
    obtain ⟨p, e, h⟩ := q
    exact ⟨p, e, k.tup h⟩, fun H Q k0 k => ⟨_, h, k _ H (Kept.refl _) ⟨a, rfl, k0.tup ha⟩⟩⟩
theorem mk_neg {n : Int} {te : TE} (h : MkE σ H0 te (fun x _ => x = .int n)) : MkE σ H0 (tUn (rU fun i => V.int (-i)) te) (fun x _ => x = .int (-n)) := ⟨fun _ _ _ _ h => h, fun H Q k0 k => h.run H _ k0 fun v H' k1 e => ⟨n, e, k _ H' k1 rfl⟩⟩
theorem mk_nil : MkA σ H0 tNil (fun vs _ => vs = []) := ⟨fun _ _ _ _ h => h, fun H Q k0 k => k [] H (Kept.refl _) rfl⟩
theorem mk_cons {W : V → Hp → Prop} {Ws : List V → Hp → Prop} (h : MkE σ H0 te W) (hs : MkA σ H0 tq Ws) : MkA σ H0 (tCons te tq) (fun vs H => ∃ v r, vs = v :: r ∧ W v H ∧ Ws r H) :=
  ⟨fun vs H H' k q => by
    obtain ⟨v, r, e, a, b⟩ := q
    exact ⟨v, r, e, h.up v H H' k a, hs.up r H H' k b⟩, fun H Q k0 k => h.run H _ k0 fun v H1 k1 w1 => hs.run H1 _ (k0.trans k1) fun r H2 k2 w2 => k _ H2 (k1.trans k2) ⟨v, r, rfl, h.up v H1 H2 k2 w1, w2⟩⟩
theorem mk_tup {Ws : List V → Hp → Prop} (h : MkA σ H0 tq Ws) (hl : ∀ vs H, Ws vs H → vs.length ≤ 1000) : MkE σ H0 (tTup tq) (fun v H => ∃ p xs, v = .ref p ∧ H p = some (.tup xs) ∧ Ws xs H) :=
  ⟨fun v H H' k q => by
    obtain ⟨p, xs, e, a, b⟩ := q
    exact ⟨p, xs, e, k.tup a, h.up xs H H' k b⟩, fun H Q k0 k => h.run H _ k0 fun vs H1 k1 w => ⟨Nat.le_trans (hl vs H1 w) (by decide), fun p hp => k _ _ (k1.trans (Kept.new hp)) ⟨p, vs, rfl, upd_same, h.up _ _ _ (Kept.new hp) w⟩⟩⟩
theorem MkE.weak {W W' : V → Hp → Prop} (h : MkE σ H0 te W) (hw : ∀ v H, W v H → W' v H) (hu : ∀ v H H', Kept H H' → W' v H → W' v H') : MkE σ H0 te W' := ⟨hu, fun H Q k0 k => h.run H Q k0 fun v H' k1 w => k v H' k1 (hw v H' w)⟩
theorem tupW_up {xs : List V} : ∀ v H H', Kept H H' → TupW xs v H → TupW xs v H' := fun v H H' k h => by
  obtain ⟨p, e, h⟩ := h
  exact ⟨p, e, k.tup h⟩
theorem mk_tupW {xs : List V} {Ws : List V → Hp → Prop} (h : MkA σ H0 tq Ws) (hw : ∀ vs H, Ws vs H → vs = xs) (hl : xs.length ≤ 1000) : MkE σ H0 (tTup tq) (TupW xs) :=
  (mk_tup h fun vs H w => by rw [hw vs H w]; exact hl).weak (fun v H q => by
    obtain ⟨p, ys, e, a, b⟩ := q
    rw [hw ys H b] at a
    exact ⟨p, e, a⟩) tupW_up
/-- a variable that holds a tuple -/
theorem mk_catW {xs ys : List V} (ha : MkE σ H0 ta (TupW xs)) (hb : MkE σ H0 tb (TupW ys)) (hl : xs.length + ys.length ≤ 1000) : MkE σ H0 (tOp (rCatA K) ta tb) (TupW (xs ++ ys)) :=
  ⟨tupW_up, fun H Q k0 k => ha.run H _ k0 fun v H1 k1 w1 => hb.run H1 _ (k0.trans k1) fun u H2 k2 w2 => by
    obtain ⟨a, rfl, h1⟩ := tupW_up v H1 H2 k2 w1
    obtain ⟨b, rfl, h2⟩ := w2
    have hz : 1000 ≤ sizeLine := by decide
    refine ⟨a, b, xs, ys, rfl, rfl, SqT.of h1, SqT.of h2, by omega, fun e => ?_, fun _ e => ?_, fun _ _ p hp => ?_⟩
    · subst e
      exact k _ H2 (k1.trans k2) ⟨b, rfl, h2⟩
    · subst e
      exact k _ H2 (k1.trans k2) ⟨a, rfl, by rw [List.append_nil]; exact h1⟩
    · exact k _ _ ((k1.trans k2).trans (Kept.new hp)) ⟨p, rfl, upd_same⟩⟩
theorem mk_to1 {xs : List V} (ha : MkE σ H0 ta (TupW xs)) : MkE σ H0 (tSl (rSlA K) ta tNoPart (tPart (tC (.int 1)))) (TupW (xs.take 1)) :=
  ⟨tupW_up, fun H Q k0 k => ha.run H _ k0 fun v H1 k1 w1 => by
    obtain ⟨a, rfl, h1⟩ := w1
    refine ⟨1, rfl, a, xs, rfl, SqT.of h1, fun e => ?_, fun e p hp => ?_⟩
    · have e2 := e.2
      rw [show HT.sIx xs.length xs.length (some 1) = min 1 xs.length from HT.sIx_nat _ _ 1] at e2
      refine k _ H1 k1 ⟨a, rfl, ?_⟩
      rw [List.take_of_length_le (by omega)]
      exact h1
    · refine k _ _ (k1.trans (Kept.new hp)) ⟨p, rfl, ?_⟩
      have ec : cutV xs none (some 1) = xs.take 1 := by
        unfold cutV
        rw [HT.sIx_none, show HT.sIx xs.length xs.length (some 1) = min 1 xs.length from HT.sIx_nat _ _ 1, Nat.sub_zero, List.drop_zero]
        by_cases h : 1 ≤ xs.length
        · rw [Nat.min_eq_left h]
        · have e0 : xs = [] := List.length_eq_zero_iff.mp (by omega)
          rw [e0] <;> rfl
      rw [← ec]
      exact upd_same⟩
theorem mk_of1 {xs : List V} (ha : MkE σ H0 ta (TupW xs)) : MkE σ H0 (tSl (rSlA K) ta (tPart (tC (.int 1))) tNoPart) (TupW (xs.drop 1)) :=
  ⟨tupW_up, fun H Q k0 k => ha.run H _ k0 fun v H1 k1 w1 => by
    obtain ⟨a, rfl, h1⟩ := w1
    refine ⟨1, rfl, a, xs, rfl, SqT.of h1, fun e => ?_, fun e p hp => ?_⟩
    · have e2 := e.1
      rw [show HT.sIx xs.length 0 (some 1) = min 1 xs.length from HT.sIx_nat _ _ 1] at e2
      have e0 : xs = [] := List.length_eq_zero_iff.mp (by omega)
      refine k _ H1 k1 ⟨a, rfl, ?_⟩
      rw [e0] at h1 ⊢
      exact h1
    · refine k _ _ (k1.trans (Kept.new hp)) ⟨p, rfl, ?_⟩
      have ec : cutV xs (some 1) none = xs.drop 1 := by
        unfold cutV
        rw [HT.sIx_none, show HT.sIx xs.length 0 (some 1) = min 1 xs.length from HT.sIx_nat _ _ 1]
        by_cases h : 1 ≤ xs.length
        · rw [Nat.min_eq_left h]
          exact List.take_of_length_le (by rw [List.length_drop]; exact Nat.le_refl _)
        · have e0 : xs = [] := List.length_eq_zero_iff.mp (by omega)
          rw [e0] <;> rfl
      rw [← ec]
      exact upd_same⟩
end
end Ky

namespace Ky
open PySem PySem.Spec PyProof.Rows L2
/-! ### sets of keys of one kind, whose table rises: set(xs) of a list, sorted of it -/
/-- a set at its beginning -/
abbrev so0 (w : World) : Obj := { cls := .type "set", dict := none, data := .set #[] 0 (.fresh 0 0 (!w.params.followText "set-order")) }
section
variable {P : Program} {w : World} {T : Type} [DecidableEq T]
/-- rd reads the key of a value -/
def RdKey (kd : PySem.KeyKind P w T) (rd : Value → T) : Prop := ∀ k v, kd.is k v = true → rd v = k
structure RKey (kd : PySem.KeyKind P w T) (rd : Value → T) (xs : List (Int × Value)) (ks : List T) : Prop where
  els : ElemsOf kd xs
  nd : (xs.map fun e => rd e.2).Nodup
  mem : ∀ k, k ∈ ks ↔ k ∈ xs.map fun e => rd e.2
variable {kd : PySem.KeyKind P w T} {rd : Value → T} {xs ys : List (Int × Value)} {ks : List T} {k : T} {x : Value}
theorem RKey.nil : RKey kd rd [] [] := ⟨fun e he => (by cases he), List.nodup_nil, fun k => (by simp)⟩
theorem RKey.perm (R : RKey kd rd xs ks) (p : ys.Perm xs) : RKey kd rd ys ks :=
  ⟨R.els.perm p, (p.map fun e => rd e.2).nodup_iff.mpr R.nd, fun k => (R.mem k).trans (p.map fun e => rd e.2).mem_iff.symm⟩
theorem RKey.iff (hr : RdKey kd rd) (R : RKey kd rd xs ks) (k : T) : k ∈ ks ↔ ∃ e ∈ xs, kd.is k e.2 = true := by
  rw [R.mem k, List.mem_map]
  constructor
  · rintro ⟨e, he, q⟩
    obtain ⟨⟨k2, h1, _⟩, _⟩ := R.els e he
    have z := hr k2 _ h1
    rw [q] at z
    exact ⟨e, he, by rw [z]; exact h1⟩
  · rintro ⟨e, he, q⟩
    exact ⟨e, he, hr k _ q⟩
theorem RKey.same (R : RKey kd rd xs ks) (h : k ∈ ks) : RKey kd rd xs (ks ++ [k]) :=
  ⟨R.els, R.nd, fun j => by
    rw [List.mem_append, List.mem_singleton, ← R.mem j]
    exact ⟨fun z => z.elim id fun e => e ▸ h, .inl⟩⟩
theorem RKey.more (hr : RdKey kd rd) (R : RKey kd rd xs ks) (h : k ∉ ks) (hk : kd.is k x = true) (hs : x.scannable = true) (p : ys.Perm (xs ++ [(kd.hash k, x)])) : RKey kd rd ys (ks ++ [k]) := by
  have pk : (ys.map fun e => rd e.2).Perm ((xs.map fun e => rd e.2) ++ [k]) := by
    have z := p.map fun e : Int × Value => rd e.2
    rw [List.map_append, List.map_cons, List.map_nil, hr k x hk] at z
    exact z
  refine ⟨(R.els.push hk hs).perm p, pk.nodup_iff.mpr ?_, fun j => ?_⟩
  · rw [(List.perm_append_singleton k _).nodup_iff]
    exact List.nodup_cons.mpr ⟨fun z => h ((R.mem k).mpr z), R.nd⟩
  · rw [pk.mem_iff, List.mem_append, List.mem_append, R.mem j]
def SetK (kd : PySem.KeyKind P w T) (rd : Value → T) (h : Heap) (a : Addr) (ks : List T) : Prop :=
  ∃ o es ep t, h.get? a = some o ∧ o.ExactSet ∧ o.data = .set es ep t ∧ RKey kd rd es.toList ks ∧ t.fits es.size = true ∧ es.size ≤ ks.length ∧ Ris t.place.toList ∧ (w.params.followText "set-order" = true ∨ t.led = true)
theorem SetK.at {h h' : Heap} {a : Addr} (S : SetK kd rd h a ks) (q : ∀ o, h.get? a = some o → h'.get? a = some o) : SetK kd rd h' a ks := by
  obtain ⟨o, es, ep, t, ho, r⟩ := S
  exact ⟨o, es, ep, t, q o ho, r⟩
theorem SetK.new {h : Heap} {a : Addr} (ho : h.get? a = some (so0 w)) : SetK kd rd h a [] :=
  ⟨_, #[], 0, _, ho, ⟨rfl, rfl, rfl⟩, rfl, RKey.nil, rfl, Nat.zero_le _, List.Pairwise.nil, by
    show _ ∨ (!w.params.followText "set-order") = true
    cases w.params.followText "set-order"
    · exact .inr rfl
    · exact .inl rfl⟩
theorem SetK.lay {h : Heap} {a : Addr} {o : Obj} {es es' : Array (Int × Value)} {ep : Nat} {t t' : SetTable} (ho : h.get? a = some o) (hex : o.ExactSet) (hd : o.data = .set es ep t) (R : RKey kd rd es'.toList ks) (hf : t'.fits es'.size = true) (hz : es'.size ≤ ks.length) (hr : Ris t'.place.toList) (hl : w.params.followText "set-order" = true ∨ t'.led = true) :
    SetK kd rd (h.update a (Obj.putSet es' t')) a ks := ⟨_, es', ep + 1, t', store_at ho hd, hex, rfl, R, hf, hz, hr, hl⟩
variable {A : Around} {E : Value → Shared → Prop} {s : Shared} {a : Addr}
/-- the end of an add: the table is stored, and laid anew where it is too full -/
theorem setK_end {g : Bool → Sem Unit} (hg : ∀ (b : Bool) (s1 : Shared) (Q' : Unit → Shared → Prop), Q' () s1 → wpAny (model P w) A (g b) Q' E s1) {o : Obj} {es e1 : Array (Int × Value)} {ep : Nat} {t t2 : SetTable} {D : Bool} {R : Option Bool → Shared → Prop}
    (ho : s.heap.get? a = some o) (hex : o.ExactSet) (hd : o.data = .set es ep t) (K1 : RKey kd rd e1.toList ks) (hf : t2.fits e1.size = true) (hz : e1.size ≤ ks.length) (hb : ks.length < scanBound) (hr : Ris t2.place.toList) (hl : w.params.followText "set-order" = true ∨ t2.led = true)
    (q : ∀ h', Heap.SameBut a s.heap h' → SetK kd rd h' a ks → R (some true) { s with heap := h' }) :
    wpAny (model P w) A (storeSet a e1 t2 >>= fun _ => if (!D && t2.tooFull) = true then g (relayAll t2 e1 (SetTable.grown e1.size)).2.2 >>= fun _ => storeSet a (relayAll t2 e1 (SetTable.grown e1.size)).1 (relayAll t2 e1 (SetTable.grown e1.size)).2.1 >>= fun _ => pure (some true) else pure (some true)) R E s := by
  have b1 : e1.size < scanBound := Nat.lt_of_le_of_lt hz hb
  refine wpAny_bind (wpAny_storeSet_of ho hd ?_ (fits_of_scanBound b1))
  have sb := Heap.SameBut.update s.heap a (Obj.putSet e1 t2)
  by_cases c : (!D && t2.tooFull) = true
  · rw [if_pos c]
    obtain ⟨e2, he2⟩ : ∃ z, z = relayAll t2 e1 (SetTable.grown e1.size) := ⟨_, rfl⟩
    have pm : e2.1.toList.Perm e1.toList := by rw [he2]; exact relayAll_perm t2 e1 _
    have hz2 : e2.1.size = e1.size := by
      have z := pm.length_eq
      rwa [Array.length_toList, Array.length_toList] at z
    rw [← he2]
    refine wpAny_bind (hg _ _ _ (wpAny_bind (wpAny_storeSet_of (store_at ho hd) rfl ?_ (fits_of_scanBound (by rw [hz2]; exact b1)))))
    refine wpAny_pure (q _ (sb.trans (Heap.SameBut.update _ a _)) (SetK.lay (store_at ho hd) hex rfl (K1.perm pm) ?_ (by rw [hz2]; exact hz) ?_ ?_))
    · rw [he2]; exact relayAll_fits t2 e1 _
    · rw [he2]; exact relayAll_ris t2 e1 _
    · rw [he2]; exact hl.imp id fun z => (relayAll_led t2 e1 _).trans z
  · rw [if_neg c]
    exact wpAny_pure (q _ sb (SetK.lay ho hex hd K1 hf hz hr hl))
theorem gone_way (b : Bool) {s1 : Shared} {Q' : Unit → Shared → Prop} (q : Q' () s1) : wpAny (model P w) A (match b with | true => rule "set.scan.the-table-gave-way" | false => pure ()) Q' E s1 := by
  cases b
  · exact wpAny_pure q
  · exact wpAny_rule q
theorem SetK.add (hr : RdKey kd rd) {Q : Bool → Shared → Prop} (hk : kd.is k x = true) (hs : x.scannable = true) (S : SetK kd rd s.heap a ks) (room : ks.length + 1 < scanBound)
    (q : ∀ b h', Heap.SameBut a s.heap h' → SetK kd rd h' a (ks ++ [k]) → Q b { s with heap := h' }) : wpAny (model P w) A (setAddHashed a x (kd.hash k)) Q E s := by
  obtain ⟨o, es, ep, t, ho, hex, hd, R, hf, hz, hri, hl⟩ := S
  have hb : es.size < scanBound := by omega
  have hln : (ks ++ [k]).length = ks.length + 1 := List.length_append
  unfold setAddHashed setAddHashedIn
  refine wpAny_holding (wpAny_bind (wpAny_setState_of ho hd hf ?_))
  dsimp only
  rw [show byScan x es = true from byScan_of hs hb R.els]
  simp only [↓reduceIte]
  unfold setAddByScan
  refine wpAny_bind (wpAny_bind (wpAny_rule (wpAny_bind (wpAny_setScan_of hk ho hd hf R.els ?_))))
  cases hi : List.findIdx? (fun e => kd.is k e.2) es.toList with
  | some j =>
    obtain ⟨hj, pj, _⟩ := List.findIdx?_eq_some_iff_getElem.mp hi
    have hm : k ∈ ks := (R.iff hr k).mpr ⟨_, List.getElem_mem hj, pj⟩
    exact wpAny_pure (wpAny_pure (q _ s.heap (Heap.SameBut.refl a _) ⟨o, es, ep, t, ho, hex, hd, R.same hm, hf, by omega, hri, hl⟩))
  | none =>
    have hm : k ∉ ks := fun z => by
      obtain ⟨e, he, c⟩ := (R.iff hr k).mp z
      rw [List.findIdx?_eq_none_iff.mp hi e he] at c
      cases c
    dsimp only
    have pm := layNew_perm t es (kd.hash k) x
    have f1 := layNew_fits t es (kd.hash k) x
    have r1 := layNew_ris t es (kd.hash k) x hri
    have l1 := layNew_led t es (kd.hash k) x
    generalize layNew t es (kd.hash k) x = Z at pm f1 r1 l1 ⊢
    obtain ⟨e1, t1, D, G⟩ := Z
    dsimp only at pm f1 r1 l1 ⊢
    rw [Array.toList_push] at pm
    have K1 := R.more hr hm hk hs pm
    have hz1 : e1.size ≤ (ks ++ [k]).length := by
      have z := pm.length_eq
      rw [Array.length_toList, List.length_append, Array.length_toList] at z
      rw [hln]
      have z : e1.size = es.size + 1 := z
      omega
    have hl1 : w.params.followText "set-order" = true ∨ t1.led = true := hl.imp id fun z => l1.trans z
    have hb1 : (ks ++ [k]).length < scanBound := by omega
    refine wpAny_bind (gone_way _ ?_)
    split
    · refine wpAny_bind ?_
      rw [hashByValue_scannable 8 hs]
      refine wpAny_pure (setK_end (fun b s1 Q' z => gone_way b z) ho hex hd K1 ?_ hz1 hb1 ?_ ?_ fun h' sb z => wpAny_pure (q _ h' sb z))
      · split
        · exact f1
        · exact SetTable.fits_plain_off f1
      · split <;> exact r1
      · split <;> exact hl1
    · refine wpAny_bind (wpAny_pure ?_)
      simp only [↓reduceIte]
      exact setK_end (fun b s1 Q' z => gone_way b z) ho hex hd K1 f1 hz1 hb1 r1 hl1 fun h' sb z => wpAny_pure (q _ h' sb z)
/-- the loop that puts in what comes -/
theorem SetK.fill (hr : RdKey kd rd) {I : Addr} {fp wr : List Addr} {G : Array GenState → Array GenState → Prop} {n : Nat} {Pv : Nat → Value → Prop} {St : Nat → Shared → Prop} {R : Result → Shared → Prop} (W : WalksS P w A.in1 I fp wr G n Pv St) {S : Addr} (hS : S ∉ fp) {ks : List T} (hn : n = ks.length) (hb : ks.length + 1 < scanBound)
    (hv : ∀ i v, Pv i v → ∃ k, ks[i]? = some k ∧ kd.is k v = true ∧ v.scannable = true) : ∀ (m i : Nat) (s : Shared), n - i = m → i ≤ n → St i s → SetK kd rd s.heap S (ks.take i) → (∀ s', Moved (S :: wr) G s s' → SetK kd rd s'.heap S ks → R (.ok (.ret .none)) s') →
      codeAny (model P w) A (.builtin "set.update.loop" ⟨[.ref S, .ref I], []⟩) R s
  | 0, i, s, hm, hi, st, K1, q => by
    have e : i = n := by omega
    rw [show ks.take i = ks from List.take_of_length_le (by omega)] at K1
    refine codeAny_builtin F.entry_set_update_loop (by rw [Around.under_plainId F.plain_set_update_loop _]; show wpAny _ A.in1 (pyNext (.ref I) >>= _) _ _ s; exact wpAny_bind (W.done s _ _ (e ▸ st) fun s' mv => wpAny_pure (q s' (mv.mono fun b z => List.mem_cons_of_mem _ z) (K1.at fun o z => mv.heap S o (fun z => hS (W.sub _ z)) z))))
  | m + 1, i, s, hm, hi, st, K1, q => by
    refine codeAny_builtin F.entry_set_update_loop ?_; rw [Around.under_plainId F.plain_set_update_loop _]; show wpAny _ A.in1 (pyNext (.ref I) >>= _) _ _ s
    refine wpAny_bind (W.item i s _ _ (by omega) st fun v s' pv st' mv => ?_)
    obtain ⟨k, hk, h1, h2⟩ := hv i v pv
    have K2 : SetK kd rd s'.heap S (ks.take i) := K1.at fun o z => mv.heap S o (fun z => hS (W.sub _ z)) z
    refine wpAny_bind (m := holding [v] (setAdd S v)) (wpAny_holding ?_)
    unfold setAdd
    refine wpAny_holding (wpAny_bind (kd.pyHash h1 (SetK.add (s := { s' with toks := s'.toks + 1 }) hr h1 h2 K2 ?_ fun b h' sb K3 => ?_)))
    · rw [List.length_take]; omega
    · have K4 : SetK kd rd h' S (ks.take (i + 1)) := by rw [List.take_add_one, hk]; exact K3
      have old : ∀ b, b ≠ S → ∀ o, s'.heap.get? b = some o → h'.get? b = some o := fun b z o e => by rw [sb.2 b z]; exact e
      refine wpAny_pure ⟨plainId_quiet F.plain_set_update_loop _, SetK.fill hr W hS hn hb hv m (i + 1) _ (by omega) (by omega) (W.frame _ s' _ _ st' (Nat.le_succ _) fun b z o e => old b (fun c => hS (by rw [← c]; exact z)) o e) K4 fun s2 mv2 K5 => q s2 (Moved.trans W.gtrans ((mv.mono fun b z => List.mem_cons_of_mem _ z).then_heap (Nat.le_succ _) fun b o z e => old b (fun c => z (by rw [c]; exact List.mem_cons_self)) o e) mv2) K5⟩
theorem sz1 (h : Heap) (o : Obj) : (h.push o).objs.size = h.objs.size + 1 := Heap.size_push ..
/-- set(l), as the object is filled -/
theorem SetK.init (hr : RdKey kd rd) {l : Addr} {its : Array Value} {ks : List T} {Q : Value → Shared → Prop} (hh : A.handled = none) (hl : s.heap.IsList l its) (hz : its.size = ks.length) (hb : ks.length + 1 < scanBound) (hv : ∀ (i : Nat) (v : Value), its[i]? = some v → ∃ k, ks[i]? = some k ∧ kd.is k v = true ∧ v.scannable = true)
    (q : ∀ h' tk, SetK kd rd h' s.heap.objs.size ks → (∀ b o, s.heap.get? b = some o → h'.get? b = some o) → Q (.ref s.heap.objs.size) { s with heap := h', toks := tk }) : wpAny (model P w) A (call (.type "set") [.ref l]) Q E s := by
  obtain ⟨c, tl, hmro⟩ := F.called_set.mro
  have c1 := F.called_set.made
  have c2 := F.called_set.sub
  have c3 := F.called_set.notType
  have c4 := F.called_set.canCreate
  have c5 := F.typeCall_set_1 (.ref l)
  have c6 := F.called_set.init.lookup
  have c7 := F.called_set.init.bind (.ref s.heap.objs.size)
  have hlt : l < s.heap.objs.size := by obtain ⟨o, ho, _⟩ := hl; exact Heap.lt_size ho
  refine wpAny_call (codeAny_of_tree ?_); show wpAny _ _ (callAny (.type "set") _) _ _ _
  refine wpAny_pure ⟨Code.quiet_builtin _ (by decide +kernel), codeAny_builtin F.entry_type_call ?_⟩; rw [Around.under_plain (weight_type_call_type "set" [.ref l] []) rfl]
  repeat (any_goals (first | assumption | wp_step))
  refine codeAny_mono (code_set_led1 (.ref l) (E := E) (Q₁ := fun ob s1 => ob = .ref s.heap.objs.size ∧ s1 = { s with heap := s.heap.push (so0 w) }) ⟨rfl, rfl⟩) fun r s1 hr1 => ?_
  rcases r with e | fl
  · exact hr1
  cases fl <;> try exact hr1.elim
  obtain ⟨rfl, rfl⟩ := hr1
  have g0 : (s.heap.push (so0 w)).get? s.heap.objs.size = some (so0 w) := Heap.get?_push_size _ rfl
  have ty : Shared.TypeIs { s with heap := s.heap.push (so0 w) } (.ref s.heap.objs.size) "set" := ⟨_, g0, rfl⟩
  repeat (any_goals (first | assumption | wp_step))
  refine codeAny_mono (codeAny_call_builtin (R := wants (fun r s2 => r = .none ∧ ∃ h' tk, s2 = { s with heap := h', toks := tk } ∧ SetK kd rd h' s.heap.objs.size ks ∧ ∀ b o, s.heap.get? b = some o → h'.get? b = some o) E) F.called_set.init.plain F.entry_set_init (check_set_init_1 ty ?_)) fun r s2 hr2 => ?_
  · have hl1 : (s.heap.push (so0 w)).IsList l its := hl.push _
    obtain ⟨⟨oc, od, ob, os⟩, ho, hc, nl, hd⟩ := hl
    simp only at hc hd
    subst hc; subst hd
    have ho1 : (s.heap.push (so0 w)).get? l = some { cls := .type "list", dict := od, data := .seq its nl, slots := os } := Heap.get?_push_of_some _ ho
    have n1 := F.sub_list_set
    have n2 := F.sub_list_frozenset
    have n3 : (Value.type "list" == Value.type "dict") = false := by decide
    unfold Builtin.«set.__init__» noKeywords Builtin.Frozenset.updateFrom; generalize hPI : pyIter = PI
    wp_walk
    subst hPI
    refine wpAny_pyIter_list hl1 (wpAny_bind (wpAny_runValue ?_))
    have hh3 : A.in1.in1.in1.handled = none := by simp [hh]
    have hI : l ≠ (s.heap.push (so0 w)).objs.size := by rw [sz1]; exact Nat.ne_of_lt (Nat.lt_succ_of_lt hlt)
    have hS : s.heap.objs.size ∉ [(s.heap.push (so0 w)).objs.size, l] := by
      rw [sz1, List.mem_cons, List.mem_singleton]
      exact fun z => z.elim (fun z => Nat.ne_of_lt (Nat.lt_succ_self _) z) fun z => Nat.ne_of_gt hlt z
    refine SetK.fill hr ((Walks.list hh3 _ l hI its).toS) hS hz hb hv (its.size - 0) 0 _ rfl (Nat.zero_le _) ⟨⟨_, Heap.get?_push_size _ rfl, rfl, rfl⟩, hl1.push _⟩ (SetK.new (Heap.get?_push_of_some _ g0)) fun s3 mv K3 => ?_
    obtain ⟨h3, g3, d3, t3, o3⟩ := s3
    cases (mv.gens : g3 = s.gens)
    cases (mv.drawn : d3 = s.drawn)
    cases (mv.os : o3 = s.os)
    show wpAny _ _ _ _ _ _
    refine wpAny_pure ?_
    show wpAny _ _ (ret Value.none) _ _ _
    refine wpAny_pure ⟨rfl, h3, t3, rfl, K3, fun b o e => mv.heap b o ?_ (Heap.get?_push_of_some _ (Heap.get?_push_of_some _ e))⟩
    have hb0 := Heap.lt_size e
    rw [sz1, List.mem_cons, List.mem_singleton]
    exact fun z => z.elim (fun z => Nat.ne_of_lt hb0 z) fun z => Nat.ne_of_lt (Nat.lt_succ_of_lt hb0) z
  · rcases r with e | fl
    · exact hr2
    cases fl <;> try exact hr2.elim
    obtain ⟨rfl, h', tk, rfl, K3, kp⟩ := hr2
    repeat (any_goals (first | assumption | wp_step))
    exact q h' tk K3 kp
end
end Ky

namespace Ky
open PySem PySem.Spec PyProof.Rows L2
/-! ### sorted(set(xs)), ints and texts -/
section
variable {P : Program} {w : World} {T : Type} [DecidableEq T] {kd : PySem.KeyKind P w T} {rd : Value → T} {ks : List T}
/-- list.sort sorts values of the kind -/
def Sorts (kd : PySem.KeyKind P w T) (rd : Value → T) (sr : List T → Prop) : Prop := ∀ {A : Around} {E : Value → Shared → Prop} {s : Shared} {a : Addr} {vs : List Value} {R : PySem.Fin → Shared → Prop}, s.heap.get? a = some (seqObj "list" vs.toArray 0) → vs.length ≤ sizeLine → (∀ v ∈ vs, ∃ k, kd.is k v = true) →
  (∀ out : Array Value, (∀ v ∈ out.toList, ∃ k, kd.is k v = true) → (out.toList.map rd).Perm (vs.map rd) → sr (out.toList.map rd) → R (.done (.ret .none)) { s with heap := sortedHeap s.heap a vs out }) → wpAny (model P w) A (Builtin.«list.sort» ⟨[.ref a], []⟩) R E s
variable {A : Around} {E : Value → Shared → Prop} {s : Shared} {a : Addr}
theorem SetK.sorted {sr : List T → Prop} (hso : Sorts kd rd sr) {Q : Value → Shared → Prop} (S : SetK kd rd s.heap a ks) (hb : ks.length < scanBound) (hh : A.handled = none)
    (q : ∀ s' p (out : Array Value) (c : Nat), (∀ b o, s.heap.get? b = some o → s'.heap.get? b = some o) → s'.gens = s.gens → s'.os = s.os → s.heap.objs.size ≤ p → s'.heap.get? p = some (seqObj "list" out c) → (∀ v ∈ out.toList, ∃ k, kd.is k v = true) → sr (out.toList.map rd) → (out.toList.map rd).Nodup → (∀ k, k ∈ out.toList.map rd ↔ k ∈ ks) → Q (.ref p) s') :
    wpAny (model P w) A (call (.builtin "sorted") [.ref a]) Q E s := by
  obtain ⟨o, es, ep, t, ho, hex, hd, R, hf, hz, hr, hl⟩ := S
  have he : es.size < scanBound := by omega
  refine Calls.call_function_entry kind_sorted plain_sorted entry_sorted (args_sorted1 _) ?_; unfold Builtin.«sorted»
  refine wpAny_bind (m := checkCount "sorted" 1 1 _) (wpAny_pure (wpAny_bind (collect_set (A := A.in1) hh ⟨o, ho, hex.1, hd⟩ hf he hr hl fun s1 vs k1 z1 g1 o1 pm => ?_)))
  have hv : ∀ v ∈ vs, ∃ k, kd.is k v = true := fun v hv => by
    obtain ⟨e, h1, h2⟩ := List.mem_map.mp (pm.mem_iff.mp hv)
    obtain ⟨⟨k, h3, _⟩, _⟩ := R.els e h1
    exact ⟨k, by rw [← h2]; exact h3⟩
  have hvl : vs.length ≤ sizeLine := by
    rw [pm.length_eq, List.length_map, Array.length_toList]
    exact fits_of_scanBound he
  have pk : (vs.map rd).Perm (es.toList.map fun e => rd e.2) := by
    have z := pm.map rd
    rw [List.map_map] at z
    exact z
  have g2 : (s1.heap.push (seqObj "list" vs.toArray 0)).get? s1.heap.objs.size = some (seqObj "list" vs.toArray 0) := Heap.get?_push_size _ rfl
  refine wpAny_bind (wpAny_newList (wpAny_bind (wpAny_holding (wpAny_call_entry slot_list_sort ⟨_, g2, rfl⟩ entry_list_sort (hso g2 hvl hv fun out h1 h2 h3 => ⟨_, rfl, ?_⟩) (args_list_sort _)))) hvl)
  obtain ⟨c, hc⟩ := sortedHeap_at (vs := vs) (out := out) g2
  have p2 := h2.trans pk
  refine wpAny_pure ⟨_, rfl, q _ s1.heap.objs.size out c (fun b u e => ?_) g1 o1 z1 hc h1 h3 (p2.nodup_iff.mpr R.nd) fun k => p2.mem_iff.trans (R.mem k).symm⟩
  have e1 := k1 b u e
  have lt := Heap.lt_size e1
  exact (sortedHeap_old (Nat.ne_of_lt lt) (by rw [size_push']; exact Nat.lt_succ_of_lt lt)).trans (Heap.get?_push_of_some _ e1)
end
section
variable {P : Program} {w : World}
theorem rd_int : RdKey (PySem.intKind P w) L2.vInt := fun k v h => by
  obtain ⟨t, rfl⟩ := Value.isInt_shape h
  rfl
theorem rd_str : RdKey (PySem.strKind P w) strOf := fun k v h => by
  obtain ⟨t, rfl⟩ := Value.isStrOf_shape h
  rfl
theorem ints_rd : ∀ {vs : List Value}, (∀ v ∈ vs, ∃ k, (PySem.intKind P w).is k v = true) → IntsAre vs (vs.map L2.vInt)
  | [], _ => .nil
  | v :: vs, h => by
    obtain ⟨k, hk⟩ := h v List.mem_cons_self
    obtain ⟨t, rfl⟩ := Value.isInt_shape hk
    exact .cons k t (ints_rd (vs := vs) fun u hu => h u (List.mem_cons_of_mem _ hu))
theorem ints_back : ∀ {vs : List Value} {ns : List Int}, IntsAre vs ns → vs.map L2.vInt = ns ∧ ∀ v ∈ vs, ∃ k, (PySem.intKind P w).is k v = true
  | _, _, .nil => ⟨rfl, fun v h => by cases h⟩
  | _, _, .cons n t r => by
    obtain ⟨h1, h2⟩ := ints_back r
    refine ⟨congrArg (n :: ·) h1, fun v h => ?_⟩
    rcases List.mem_cons.mp h with e | e
    · exact ⟨n, by rw [e]; exact intKind_is P w n t⟩
    · exact h2 v e
theorem sorts_int : Sorts (PySem.intKind P w) L2.vInt fun ns => ns.Pairwise (· ≤ ·) := fun ho hl hv q => by
  refine list_sort_treeAny ho (ints_rd hv) hl fun out ns h1 h2 h3 => ?_
  obtain ⟨e, h4⟩ := ints_back (P := P) (w := w) h1
  exact q out h4 (by rw [e]; exact h2) (by rw [e]; exact h3)
theorem strs_rd : ∀ {vs : List Value}, (∀ v ∈ vs, ∃ k, (PySem.strKind P w).is k v = true) → StrsAre vs (vs.map strOf)
  | [], _ => .nil
  | v :: vs, h => by
    obtain ⟨k, hk⟩ := h v List.mem_cons_self
    obtain ⟨t, rfl⟩ := Value.isStrOf_shape hk
    exact .cons k t (strs_rd (vs := vs) fun u hu => h u (List.mem_cons_of_mem _ hu))
theorem strs_back : ∀ {vs : List Value} {ns : List Str}, StrsAre vs ns → ∀ v ∈ vs, ∃ k, (PySem.strKind P w).is k v = true
  | _, _, .nil, v, h => by cases h
  | _, _, .cons n t r, v, h => by
    rcases List.mem_cons.mp h with e | e
    · exact ⟨n, by rw [e]; exact strKind_is P w n t⟩
    · exact strs_back r v e
theorem sorts_str : Sorts (PySem.strKind P w) strOf fun ns => sortedS ns = true := fun ho hl hv q => by
  have hS := strs_rd hv
  refine list_sort_treeKAny strKind_oneLt ho hS.keysOf (fun v1 v2 rest e => keyKind_strs (by rw [← e]; exact hS)) hl fun st' hp hs => ?_
  obtain ⟨ss, h1, h2, h3⟩ := sorted_out_str hS hp hs
  have e := h1.strs
  exact q _ (strs_back h1) (by rw [e]; exact h2) (by rw [e]; exact h3)
end
/-- the values of keys -/
structure Vk {P : Program} {w : World} {T : Type} [DecidableEq T] (kd : PySem.KeyKind P w T) (rd : Value → T) (tv : T → V) : Prop where
  rd : RdKey kd rd
  of : ∀ k v, kd.is k v = true → RelV (tv k) v
  to : ∀ k v, RelV (tv k) v → kd.is k v = true ∧ v.scannable = true
theorem vk_int {P : Program} {w : World} : Vk (PySem.intKind P w) L2.vInt V.int := ⟨rd_int, fun k v h => by
    obtain ⟨t, rfl⟩ := Value.isInt_shape h
    exact ⟨t, rfl⟩, fun k v h => by
    obtain ⟨t, rfl⟩ := h
    exact ⟨intKind_is P w k t, rfl⟩⟩
theorem vk_str {P : Program} {w : World} : Vk (PySem.strKind P w) strOf V.str := ⟨rd_str, fun k v h => by
    obtain ⟨t, rfl⟩ := Value.isStrOf_shape h
    exact ⟨t, rfl⟩, fun k v h => by
    obtain ⟨t, rfl⟩ := h
    exact ⟨strKind_is P w k t, rfl⟩⟩
section
variable {P : Program} {w : World} {T : Type} [DecidableEq T] {kd : PySem.KeyKind P w T} {rd : Value → T} {tv : T → V} {ks : List T}
theorem vals_get : ∀ {ks : List T} {us : List Value}, Vals (ks.map tv) us → ∀ (i : Nat) (v : Value), us[i]? = some v → ∃ k, ks[i]? = some k ∧ RelV (tv k) v
  | [], _, .nil, i, v, h => by simp at h
  | k :: ks, _, .cons r t, 0, v, h => by
    rw [List.getElem?_cons_zero] at h
    cases h
    exact ⟨k, rfl, r⟩
  | k :: ks, _, .cons r t, i + 1, v, h => by
    rw [List.getElem?_cons_succ] at h
    exact vals_get t i v h
theorem vals_rd (hk : Vk kd rd tv) : ∀ {us : List Value}, (∀ v ∈ us, ∃ k, kd.is k v = true) → Vals ((us.map rd).map tv) us
  | [], _ => .nil
  | v :: us, h => by
    obtain ⟨k, z⟩ := h v List.mem_cons_self
    refine .cons ?_ (vals_rd hk fun u hu => h u (List.mem_cons_of_mem _ hu))
    rw [hk.rd k v z]
    exact hk.of k v z
def SetKO (kd : PySem.KeyKind P w T) (rd : Value → T) (a : Addr) (ks : List T) : HO := .ext fun h => SetK kd rd h a ks
theorem setKO_new {H : Hp} {h : Heap} {a : Addr} (S : SetK kd rd h a ks) : ObjOk P w H h a (SetKO kd rd a ks) := by
  have ⟨o, es, ep, t, ho, _⟩ := S
  exact ⟨S, ⟨o, ho⟩, fun h1 h2 p k => SetK.at p k⟩
end
section
variable {X : Cx} {T : Type} [DecidableEq T] {kd : PySem.KeyKind X.prog X.w T} {rd : Value → T} {tv : T → V} {sr : List T → Prop}
/-- set(xs) of a list -/
def rSetK (K : PySem.W.Frag) (kd : PySem.KeyKind X.prog X.w T) (rd : Value → T) (tv : T → V) : List V → Hp → VK → Prop := fun xs H Q => ∃ (l : Addr) (ks : List T), xs = [V.ref l] ∧ SqL K H l (ks.map tv) ∧ ks.length ≤ 4000 ∧ ∀ a, H a = none → Q (.ref a) (upd H a (SetKO kd rd a ks))
theorem cr_setK (hk : Vk kd rd tv) (hc : X.calm = true) : CallR X (.type "set") (rSetK X.K kd rd tv) := by
  intro pins s σ H xs us Q I r h
  obtain ⟨l, ks, rfl, hl, hn, q⟩ := h
  rw [Vals.ref1 r]
  obtain ⟨its, rv, pl, hz⟩ := I.list hl
  have hf : H s.heap.objs.size = none := I.hok.fresh (Nat.le_refl _)
  have hsz : its.length = ks.length := by
    have z := rv.length
    rw [List.length_map] at z
    exact z.symm
  refine SetK.init hk.rd (I.ok.hd hc) pl.isList (by rw [List.size_toArray]; exact hsz) (by show ks.length + 1 < 4096; omega) (fun i v hv => ?_) fun h' tk S kp => ?_
  · obtain ⟨k, h1, h2⟩ := vals_get rv i v (by simpa using hv)
    exact ⟨k, h1, hk.to k v h2⟩
  · exact ⟨.ref s.heap.objs.size, upd H s.heap.objs.size (SetKO kd rd s.heap.objs.size ks), I.laid (t' := tk) kp (Nat.le_refl _) (setKO_new S), rfl, q _ hf⟩
/-- sorted of such a set -/
def rSortK (kd : PySem.KeyKind X.prog X.w T) (rd : Value → T) (tv : T → V) (sr : List T → Prop) : List V → Hp → VK → Prop := fun xs H Q => ∃ (a : Addr) (ks : List T), xs = [V.ref a] ∧ H a = some (SetKO kd rd a ks) ∧ ks.length ≤ 4000 ∧ ∀ (ds : List T) (p : Addr), sr ds → ds.Nodup → (∀ k, k ∈ ds ↔ k ∈ ks) → H p = none → Q (.ref p) (upd H p (.lst (ds.map tv)))
theorem nodup_len {ks : List T} : ∀ {ds : List T}, ds.Nodup → (∀ k ∈ ds, k ∈ ks) → ds.length ≤ ks.length := fun h1 h2 => List.Nodup.length_le_of_subset h1 h2
theorem cr_sortK (hk : Vk kd rd tv) (hso : Sorts kd rd sr) (hc : X.calm = true) : CallR X (.builtin "sorted") (rSortK kd rd tv sr) := by
  intro pins s σ H xs us Q I r h
  obtain ⟨a, ks, rfl, ha, hn, q⟩ := h
  have S : SetK kd rd s.heap a ks := (I.hok a _ ha).1
  rw [Vals.ref1 r]
  refine SetK.sorted hso S (by show ks.length < 4096; omega) (I.ok.hd hc) fun s' p out c kp g o hp hg h1 h2 h3 h4 => ?_
  have hl : ((out.toList.map rd).map tv).length ≤ sizeLine := by
    rw [List.length_map, sizeLine_eq]
    have := nodup_len h3 fun k z => (h4 k).mp z
    omega
  have hf : H p = none := I.hok.fresh hp
  have J : Inv X pins σ (upd H p (.lst ((out.toList.map rd).map tv))) { s with heap := s'.heap, gens := s'.gens, drawn := s'.drawn, toks := s'.toks } :=
    I.call (ch := []) (Un.laid kp hp hf) (I.hok.laid kp hp ⟨hl, out.toList, c, vals_rd hk h1, hg⟩) (by rw [g]; exact I.bare) (fun _ z => nomatch z)
  obtain ⟨h9, g9, d9, t9, o9⟩ := s'
  cases o
  exact ⟨.ref p, _, J, rfl, q _ p h2 h3 h4 hf⟩
variable {ta : TE} {a : Expr} {p p2 q pos : Pos}
/-- sorted(set(x)), x a list -/
def SrtSet (K : PySem.W.Frag) (kd : PySem.KeyKind X.prog X.w T) (rd : Value → T) (tv : T → V) (sr : List T → Prop) (x : V) (H : Hp) (Q : VK) : Prop := rSetK K kd rd tv [x] H fun y H2 => rSortK kd rd tv sr [y] H2 Q
def tSortSet (K : PySem.W.Frag) (kd : PySem.KeyKind X.prog X.w T) (rd : Value → T) (tv : T → V) (sr : List T → Prop) (ta : TE) : TE := fun σ H Q => ta σ H fun x H1 => SrtSet K kd rd tv sr x H1 Q
theorem SrtSet.mk {K : PySem.W.Frag} {H : Hp} {Q : VK} {l : Addr} {ks : List T} (hl : SqL K H l (ks.map tv)) (hn : ks.length ≤ 4000)
    (q : ∀ (ds : List T) (p : Addr) (H2 : Hp), sr ds → ds.Nodup → (∀ k, k ∈ ds ↔ k ∈ ks) → H p = none → Kept H H2 → H2 p = some (.lst (ds.map tv)) → Q (.ref p) H2) : SrtSet K kd rd tv sr (.ref l) H Q :=
  ⟨l, ks, rfl, hl, hn, fun a ha => ⟨a, ks, rfl, upd_same, hn, fun ds p h1 h2 h3 h4 => by
    have k1 := Kept.new (o := SetKO kd rd a ks) ha
    have hp : H p = none := by
      by_cases e : p = a
      · rw [e]; exact ha
      · rw [upd_ne e] at h4; exact h4
    exact q ds p _ h1 h2 h3 hp (k1.trans (Kept.new h4)) upd_same⟩⟩
theorem pe_sortSet (hk : Vk kd rd tv) (hso : Sorts kd rd sr) (hc : X.calm = true) (hg : Gl X "sorted") (hm : X.mg "sorted" = none) (hg2 : Gl X "set") (hm2 : X.mg "set" = none) (ha : PE X a ta) (hs : starEach [a] X.env = (false, eval a X.env) :: starEach [] X.env) :
    PE X (.Call (.Name "sorted" p) [.Call (.Name "set" p2) [a] [] q] [] pos) (tSortSet X.K kd rd tv sr ta) :=
  pe_callB (p := p) (pos := pos) (cr_sortK hk hso hc) hg hm boot_sorted (pa_cons (pe_callTy (p := p2) (pos := q) (cr_setK hk hc) hg2 hm2 PyProof.Rows.boot_set (pa_cons ha pa_nil hs) (he := hs)) pa_nil)
/-- of ints -/
theorem pe_setInts {K : PySem.W.Frag} (hK : X.K = K) (hc : X.calm = true) (hg : Gl X "sorted") (hm : X.mg "sorted" = none) (hg2 : Gl X "set") (hm2 : X.mg "set" = none) (ha : PE X a ta) (hs : starEach [a] X.env = (false, eval a X.env) :: starEach [] X.env) :
    PE X (.Call (.Name "sorted" p) [.Call (.Name "set" p2) [a] [] q] [] pos) (tSortSet K (PySem.intKind X.prog X.w) L2.vInt V.int (fun ns => ns.Pairwise (· ≤ ·)) ta) := by
  subst hK
  exact pe_sortSet vk_int sorts_int hc hg hm hg2 hm2 ha hs
/-- of texts -/
theorem pe_setStrs {K : PySem.W.Frag} (hK : X.K = K) (hc : X.calm = true) (hg : Gl X "sorted") (hm : X.mg "sorted" = none) (hg2 : Gl X "set") (hm2 : X.mg "set" = none) (ha : PE X a ta) (hs : starEach [a] X.env = (false, eval a X.env) :: starEach [] X.env) :
    PE X (.Call (.Name "sorted" p) [.Call (.Name "set" p2) [a] [] q] [] pos) (tSortSet K (PySem.strKind X.prog X.w) strOf V.str (fun ns => sortedS ns = true) ta) := by
  subst hK
  exact pe_sortSet vk_str sorts_str hc hg hm hg2 hm2 ha hs
end
/-! ### ascending lists of the same members are the same -/
theorem perm_mem {T : Type} [DecidableEq T] {xs ys : List T} (h1 : xs.Nodup) (h2 : ys.Nodup) (h : ∀ k, k ∈ xs ↔ k ∈ ys) : xs.Perm ys := by
  refine List.perm_iff_count.mpr fun k => ?_
  rw [h1.count, h2.count]
  by_cases e : k ∈ xs
  · rw [if_pos e, if_pos ((h k).mp e)]
  · rw [if_neg e, if_neg fun z => e ((h k).mpr z)]
theorem str_ext {x y : Str} (h : x.cps.toList = y.cps.toList) : x = y := by
  obtain ⟨a⟩ := x
  obtain ⟨b⟩ := y
  have e : a = b := Array.toList_inj.mp h
  rw [e]
theorem rising_all : ∀ (l : List Str) (p : Str), risingS p l = true → (∀ x ∈ l, ¬ x.cps.toList < p.cps.toList) ∧ l.Pairwise fun a b => ¬ b.cps.toList < a.cps.toList
  | [], p, _ => ⟨fun x h => (by cases h), List.Pairwise.nil⟩
  | y :: l, p, h => by
    have h : (!ltCps y.cps.toList p.cps.toList && risingS y l) = true := h
    rw [Bool.and_eq_true, ltCps_eq] at h
    have h1 : ¬ y.cps.toList < p.cps.toList := by simpa using h.1
    obtain ⟨g1, g2⟩ := rising_all l y h.2
    refine ⟨fun x hx => ?_, List.pairwise_cons.mpr ⟨g1, g2⟩⟩
    rcases List.mem_cons.mp hx with e | e
    · rw [e]; exact h1
    · intro z
      have a1 : p.cps.toList ≤ y.cps.toList := List.not_lt.mp h1
      have a2 : y.cps.toList ≤ x.cps.toList := List.not_lt.mp (g1 x e)
      exact List.not_lt.mpr (List.le_trans a1 a2) z
theorem sortedS_pair {l : List Str} (h : sortedS l = true) : l.Pairwise fun a b => ¬ b.cps.toList < a.cps.toList := by
  cases l with
  | nil => exact List.Pairwise.nil
  | cons x l => exact List.pairwise_cons.mpr (rising_all l x h)
theorem strs_srt {xs ds : List Str} (h1 : sortedS xs = true) (h2 : xs.Nodup) (h3 : ds.Nodup) (h : ∀ k, k ∈ xs ↔ k ∈ ds) : xs = srtBy PyData.str ds := by
  refine List.Perm.eq_of_pairwise (le := fun a b : Str => ¬ b.cps.toList < a.cps.toList) (fun a b _ _ u v => str_ext (List.le_antisymm (List.not_lt.mp u) (List.not_lt.mp v))) (sortedS_pair h1) ?_ ((perm_mem h2 h3 h).trans (srtBy_perm _ _).symm)
  refine (srtBy_pair PyData.str ds).imp fun {a b} z => ?_
  have z : (!PySem.W.dataLt (.str b) (.str a)) = true := z
  rw [PySem.W.dataLt_str] at z
  simpa using z
theorem ints_lt {ns : List Int} (h : ns.Pairwise (· ≤ ·)) (h2 : ns.Nodup) : ns.Pairwise (· < ·) := lt_of_le_nodup ns h h2
end Ky

namespace Ky
open PySem PySem.Spec PyProof.Rows L2
/-! ### a, *b = t, t a tuple of at least one -/
def gStar (K : PySem.W.Frag) (t : TGs) : TG := fun v σ H Q => ∃ a x xs, v = .ref a ∧ SqT K H a (x :: xs) ∧ ∀ l, H l = none → t [x, .ref l] σ (upd H l (.lst xs)) Q
section
variable {X : Cx} {a b : Expr} {k : Nat} {p pos : Pos} {t : TGs}
/-- the walk of a tuple's iterator that stands behind its first item -/
theorem walks_rest {P : Program} {w : World} {A : Around} (hh : A.handled = none) {I ax : Addr} (hne : ax ≠ I) {x : Value} {items : Array Value} {its : List Value} (hi : items.toList = x :: its) :
    Walks P w A I [I, ax] [I] its.length (fun i v => its[i]? = some v) (fun i h => h.IsTupleIter I ax (i + 1) ∧ h.IsTuple ax items) := by
  have W := Walks.tuple (prog := P) (w := w) hh I ax hne items
  have hz : items.size = its.length + 1 := by
    have z := congrArg List.length hi
    rw [Array.length_toList] at z
    exact z
  have hg : ∀ i : Nat, items[i + 1]? = its[i]? := fun i => by rw [← Array.getElem?_toList, hi, List.getElem?_cons_succ]
  exact ⟨W.sub, fun i h h' st q => W.frame (i + 1) h h' st q, fun i s Q E h st q => W.item (i + 1) s Q E (by omega) st fun v h' tk hv st' kk => q v h' tk (by rw [← hg]; exact hv) st' kk,
    fun s Q E st q => W.done s Q E (by rw [hz]; exact st) q, fun i s Q E st q => W.self (i + 1) s Q E st q⟩
theorem pg_star {K : PySem.W.Frag} (hK : X.K = K) (hc : X.calm = true) (h : PGs X [a, b] t) (hn : assignEach [a, .Starred b p] X.env = [(false, assign a X.env), (true, assign b X.env)] := by rfl) (hm : (assignEach [a, b] X.env).map (·.2) = [assign a X.env, assign b X.env] := by rfl) :
    PG X (.Tuple [a, .Starred b p] k pos) (gStar K t) := by
  subst hK
  refine ⟨fun pins s σ H v u Q I r hw => ?_⟩
  obtain ⟨ax, x, xs, rfl, hq, q⟩ := hw
  cases r
  obtain ⟨its, rv, ht, hz⟩ := I.tuple hq
  have hd := I.ok.hd hc
  obtain ⟨y, ys, rfl⟩ : ∃ y ys, its = y :: ys := by
    cases rv with
    | cons r rr => exact ⟨_, _, rfl⟩
  have ry : RelV x y ∧ Vals xs ys := by
    cases rv with
    | cons r rr => exact ⟨r, rr⟩
  have hlt : ax < s.heap.objs.size := by
    obtain ⟨o, ho, _⟩ := ht
    exact Heap.lt_size ho
  have ht : s.heap.IsTuple ax (y :: ys).toArray := ht
  have hyl : ys.length ≤ sizeLine := by
    have : (y :: ys).length ≤ sizeLine := by rw [← rv.length]; exact hz
    rw [List.length_cons] at this
    omega
  rw [assign_Tuple, hn]
  refine wpAny_bind (wpAny_standAt (wpAny_bind (m := holding [Value.ref ax] (unpackItems (Value.ref ax) 2 (some 1))) (wpAny_holding ?_)))
  unfold unpackItems notIterableAtAll
  refine wpAny_bind (wpAny_bind (wpAny_specialOf ht.typeIs PySem.F.slot_tuple_iter.lookup (wpAny_pure ?_)))
  simp only [Bool.false_eq_true, if_false]
  refine wpAny_bind (wpAny_holding (wpAny_pyIter_tuple ht ?_))
  refine wpAny_bind (wpAny_holding (wpAny_draw_tuple (Nat.ne_of_lt hlt) 1 0 _ _ ⟨_, Heap.get?_push_size _ rfl, rfl, rfl⟩ (ht.push _) (by simp) fun h1 i1 sb => ?_))
  have ed : List.take 1 (List.drop 0 (y :: ys).toArray.toList) = [y] := rfl
  rw [ed, if_neg (by simp)]
  have k1 : ∀ b o, s.heap.get? b = some o → h1.get? b = some o := fun b o e => sb.extBut b o (Nat.ne_of_lt (Heap.lt_size e)) (Heap.get?_push_of_some _ e)
  have hs1 : h1.objs.size = s.heap.objs.size + 1 := by rw [sb.1, sz1]
  have t1 : h1.IsTuple ax (y :: ys).toArray := by
    obtain ⟨o, ho, r⟩ := ht
    exact ⟨o, k1 _ _ ho, r⟩
  refine wpAny_bind (wpAny_holding (wpAny_collect_iter (T := "tuple_iterator") (.inr (.inr (.inr rfl))) (walks_rest (A := X.A.in1) hd (Nat.ne_of_lt hlt) (items := (y :: ys).toArray) (x := y) rfl).toS (fun i s2 st => st.1.typeIs) ⟨i1, t1⟩ (fun b hb => ?_) List.mem_cons_self (fun s2 acc mv ha => ?_) hyl))
  · rw [hs1]
    rcases List.mem_cons.mp hb with e | e
    · rw [e]; exact Nat.lt_succ_self _
    · rw [List.mem_singleton.mp e]; exact Nat.lt_succ_of_lt hlt
  have ea : acc.toList = ys := items_out ha fun j v e => e
  have k2 : ∀ b o, s.heap.get? b = some o → s2.heap.get? b = some o := fun b o e => mv.heap b o (fun z => by
    rw [List.mem_singleton.mp z] at e
    exact absurd (Heap.lt_size e) (Nat.lt_irrefl _)) (k1 b o e)
  rw [ea, if_neg (by omega)]
  refine wpAny_bind (wpAny_newList ?_ (by rw [List.length_take]; omega))
  have et : List.take (ys.length - (2 - 1 - 1)) ys = ys := List.take_of_length_le (by omega)
  have edr : List.drop (ys.length - (2 - 1 - 1)) ys = [] := List.drop_of_length_le (by omega)
  rw [et, edr]
  refine wpAny_pure ?_
  obtain ⟨h2, g2, d2, tk2, o2⟩ := s2
  cases (mv.gens : g2 = s.gens)
  cases (mv.drawn : d2 = s.drawn)
  cases (mv.os : o2 = s.os)
  have hl : H h2.objs.size = none := (I.hok.kept k2).fresh (Nat.le_refl _)
  have hg : s.heap.get? h2.objs.size = none := by
    cases e : s.heap.get? h2.objs.size with
    | none => rfl
    | some o => exact absurd (Heap.lt_size (k2 _ _ e)) (Nat.lt_irrefl _)
  have hxl : xs.length ≤ sizeLine := by rw [ry.2.length]; exact hyl
  have J : Inv X pins σ (upd H h2.objs.size (.lst xs)) { s with heap := h2.push (seqObj "list" ys.toArray 0), toks := tk2 } :=
    I.laidN (t' := tk2) (fun b o e => Heap.get?_push_of_some _ (k2 b o e)) hg hl ⟨hxl, ys, 0, ry.2, Heap.get?_push_size _ rfl⟩
  have z := h.run pins _ σ _ _ [y, .ref h2.objs.size] Q J (.cons ry.1 (.cons (show RelV (.ref h2.objs.size) (.ref h2.objs.size) from rfl) .nil)) (q _ hl)
  rw [hm] at z
  exact z
end
end Ky

namespace Ky
open PySem PySem.Spec PyProof.Rows L2
/-! ### x is True, x a value that is no place -/
def bareV : V → Bool
  | .bl _ => true
  | .int _ => true
  | .non => true
  | _ => false
def rIsBl : R2 := fun x y H Q => ∃ b : Bool, bareV x = true ∧ y = .bl b ∧ Q (.bl (decide (x = .bl b))) H
section
variable {X : Cx} {K : PySem.W.Frag}
theorem op_isAny : OpR X (compareOp .Is) rIsBl := by
  intro pins s σ H x y v u Q I rx ry h
  obtain ⟨b, hx, rfl, q⟩ := h
  cases (show u = Value.bool b from ry)
  cases x with
  | bl a =>
    cases (show v = Value.bool a from rx)
    by_cases e : a = b
    · subst e
      exact wpAny_is_self rfl ⟨.bl true, H, I, rfl, by simpa using q⟩
    · exact wpAny_is_other rfl (fun z => e (Value.bool.inj z)) ⟨.bl false, H, I, rfl, by simpa [e] using q⟩
  | int n =>
    obtain ⟨t, rfl⟩ := rx
    exact wpAny_is_other rfl (fun z => by cases z) ⟨.bl false, H, I, rfl, by simpa using q⟩
  | non =>
    cases (show v = Value.none from rx)
    exact wpAny_is_other rfl (fun z => by cases z) ⟨.bl false, H, I, rfl, by simpa using q⟩
  | _ => cases hx
theorem cr_maxK (hK : X.K = K) (hc : X.calm = true) : CallR X (.builtin "max") (rMax K) := by subst hK; exact cr_max hc
theorem cr_minK (hK : X.K = K) (hc : X.calm = true) : CallR X (.builtin "min") (rMin K) := by subst hK; exact cr_min hc
end
section
variable {H : Hp} {Q : VK} {K : PySem.W.Frag}
theorem w_isi_ts {a : Addr} {xs : List V} (h : H a = some (.tup xs)) (q : Q (.bl false) H) : rIsi K [.ref a, .ty "str"] H Q := ⟨_, _, _, _, false, rfl, .ty _, .base (.tup h), kit_ty (by decide +kernel), q⟩
theorem w_isi_ss {z : Str} (q : Q (.bl true) H) : rIsi K [.str z, .ty "str"] H Q := ⟨_, _, _, _, true, rfl, .ty _, .base (.str z), kit_ty (by decide +kernel), q⟩
theorem w_isi_is {n : Int} (q : Q (.bl false) H) : rIsi K [.int n, .ty "str"] H Q := ⟨_, _, _, _, false, rfl, .ty _, .base (.int n), kit_ty (by decide +kernel), q⟩
theorem w_max {a : Addr} {ns : List Int} (h : SqL K H a (ns.map V.int)) (hn : 0 < ns.length) (q : ∀ m, m ∈ ns → (∀ y, y ∈ ns → y ≤ m) → Q (.int m) H) : rMax K [V.ref a] H Q := ⟨a, ns, rfl, h, hn, q⟩
theorem w_min {a : Addr} {ns : List Int} (h : SqL K H a (ns.map V.int)) (hn : 0 < ns.length) (q : ∀ m, m ∈ ns → (∀ y, y ∈ ns → m ≤ y) → Q (.int m) H) : rMin K [V.ref a] H Q := ⟨a, ns, rfl, h, hn, q⟩
end
end Ky


namespace Ky
open PySem PySem.Spec PyProof.Rows L2
local macro_rules | `(tactic| walk_at "rd") => `(tactic| repeat (first
  | with_reducible refine w_seq ?_
  | with_reducible refine w_asg ?_
  | with_reducible refine w_ret ?_
  | with_reducible refine w_drop ?_
  | with_reducible refine w_ifs ?_
  | ((with_reducible refine' w_var ?hh ?_); (case hh => exact rfl))
  | with_reducible refine w_c ?_
  | with_reducible refine w_op ?_
  | with_reducible refine w_un ?_
  | with_reducible refine w_I0 ?_
  | with_reducible refine w_U ?_
  | with_reducible refine w_nil ?_
  | with_reducible refine w_cons ?_
  | with_reducible refine w_call ?_
  | with_reducible refine w_cb ?_
  | with_reducible refine w_test ?_
  | with_reducible refine w_B ?_
  | with_reducible refine w_bl ?_
  | with_reducible refine w_and ?_
  | with_reducible refine w_or ?_
  | with_reducible refine w_not ?_
  | with_reducible refine w_ife ?_
  | with_reducible refine w_gRd ?_
  | with_reducible refine w_andV ?_
  | with_reducible refine w_orV ?_
  | with_reducible refine w_notV ?_
  | with_reducible refine w_chain ?_
  | with_reducible refine w_din ?_
  | with_reducible refine w_isi_ii ?_
  | with_reducible refine w_isi_ib ?_
  | with_reducible refine w_isi_it ?_
  | with_reducible refine w_isi_st ?_
  | ((with_reducible refine w_isi_tt ?h1 ?_); (case h1 => first | assumption | exact upd_same))
  | with_reducible refine if_t rfl ?_
  | with_reducible refine if_f rfl ?_
  | with_reducible refine w_tup ?_
  | with_reducible refine w_lst ?_
  | with_reducible refine w_next ?_
  | with_reducible refine w_bm ?_
  | with_reducible refine w_sl ?_
  | with_reducible refine w_part ?_
  | with_reducible refine w_nop ?_
  | with_reducible refine w_isI ?_
  | with_reducible refine w_yes ?_
  | with_reducible refine w_gn ?_
  | with_reducible refine w_gsub ?_
  | ((with_reducible refine' w_setL ?h1 ?h2 ?_); (case h1 => first | assumption | exact upd_same); (case h2 => exact rfl))
  | with_reducible refine w_asgG ?_
  | with_reducible refine w_m1 ?_
  | with_reducible refine w_isS ?_
  | with_reducible refine w_tyS ?_
  | ((with_reducible refine' w_tyL ?h1 ?_); (case h1 => first | assumption | exact upd_same))
  | ((with_reducible refine' w_ixT ?h1 ?h2 ?_); (case h1 => first | assumption | exact upd_same); (case h2 => exact rfl))
  | ((with_reducible refine' w_ixL ?h1 ?h2 ?_); (case h1 => first | assumption | exact upd_same); (case h2 => exact rfl))
  | ((with_reducible refine w_eq ?h1 ?_); (case h1 => exact rfl))
  | ((with_reducible refine w_ne ?h1 ?_); (case h1 => exact rfl))
  | dsimp only [List.set_cons_zero, List.set_cons_succ, List.append_nil, List.cons_append, List.nil_append, cxOf]))

def absI (n : Int) : Int := if n < 0 then -n else n
def sgI (n : Int) : Int := if n > 0 then 1 else 0
def isVar (n : Int) : Bool := decide (1 ≤ n) && decide (n ≤ 999)
def isLit (n : Int) : Bool := isVar (absI n)
def keyV (n : Int) : List V := [.int (absI n), .int (sgI n)]
def spKey : Sp := fun vs H Q _ => ∃ n, vs = [.int n] ∧ ∀ p, H p = none → Q (.ref p) (upd H p (.tup (keyV n)))
section
variable {P : Program} {w : World} {K : PySem.W.Frag} {mg : Str → Option Value} {base : Heap} {uG : Value} {f : Addr} {fd : FuncData}
end
/-! ### keys as data -/
def keyD (n : Int) : PyData := .tuple [.int (absI n), .int (sgI n)]
def ckD (ls : List Int) : PyData := .tuple (ls.map keyD)
/-- a new tuple whose data are the keys of a clause -/
def spCKey : Sp := fun vs H Q _ => ∃ (a : Addr) (ls : List Int), vs = [.ref a] ∧ H a = some (.tup (ls.map V.int)) ∧ ls.length ≤ sizeLine ∧ ∀ (ps : List Addr) (p : Addr) (H' : Hp), Kept H H' → H p = none → H' p = some (.tup (ps.map V.ref)) → ps.length = ls.length → (∀ (i : Nat) (q : Addr) (n : Int), ps[i]? = some q → ls[i]? = some n → H' q = some (.tup (keyV n))) → Q (.ref p) H'
theorem dp_key {K : PySem.W.Frag} {H : Hp} {q : Addr} {n : Int} (h : H q = some (.tup (keyV n))) : Dp K H (.ref q) (keyD n) := .tup (SqT.of h) (.cons (.int _) (.cons (.int _) .nil))
theorem dpAll_of {K : PySem.W.Frag} {H : Hp} : ∀ {xs : List V} {ds : List PyData}, xs.length = ds.length → (∀ (i : Nat) (x : V) (d : PyData), xs[i]? = some x → ds[i]? = some d → Dp K H x d) → DpAll K H xs ds
  | [], [], _, _ => .nil
  | x :: xs, d :: ds, hl, h => .cons (h 0 x d rfl rfl) (dpAll_of (Nat.succ.inj hl) fun i y e h1 h2 => h (i + 1) y e h1 h2)
  | [], _ :: _, hl, _ => by cases hl
  | _ :: _, [], hl, _ => by cases hl
theorem dp_ckey {K : PySem.W.Frag} {H : Hp} {p : Addr} {ps : List Addr} {ls : List Int} (hp : H p = some (.tup (ps.map V.ref))) (hl : ps.length = ls.length) (h : ∀ (i : Nat) (q : Addr) (n : Int), ps[i]? = some q → ls[i]? = some n → H q = some (.tup (keyV n))) : Dp K H (.ref p) (ckD ls) :=
  .tup (SqT.of hp) (dpAll_of (by rw [List.length_map, List.length_map, hl]) fun i x d hx hd => by
    rw [List.getElem?_map] at hx hd
    obtain ⟨q, hq, rfl⟩ := Option.map_eq_some_iff.mp hx
    obtain ⟨n, hn, rfl⟩ := Option.map_eq_some_iff.mp hd
    exact dp_key (h i q n hq hn))
section
variable {P : Program} {w : World} {K : PySem.W.Frag} {mg : Str → Option Value} {base : Heap} {uG : Value} {f : Addr} {fd : FuncData}
theorem atI_eq {α : Type} {xs : List α} {i : Int} {j : Nat} {v : α} (e : i = (j : Int)) (h : xs[j]? = some v) : atI xs i = some v := by
  rw [e]
  exact atI_nat h
/-- each item is below the next -/
def ascD (ds : List PyData) : Bool := (List.range (ds.length - 1)).all fun j => PySem.W.dataLt (ds.getD j .none) (ds.getD (j + 1) .none)
theorem dpAll_at {K : PySem.W.Frag} {H : Hp} : ∀ {xs : List V} {ds : List PyData} {i : Nat} {x : V}, DpAll K H xs ds → xs[i]? = some x → ∃ d, ds[i]? = some d ∧ Dp K H x d
  | _, _, 0, _, .cons h _, e => by
    cases e
    exact ⟨_, rfl, h⟩
  | _, _, i + 1, _, .cons _ t, e => dpAll_at (i := i) t (by simpa using e)
end
end Ky

namespace Ky
open PySem PySem.Spec PyProof.Rows L2
local macro_rules | `(tactic| walk_at "rd") => `(tactic| repeat (first
  | with_reducible refine w_seq ?_
  | with_reducible refine w_asg ?_
  | with_reducible refine w_ret ?_
  | with_reducible refine w_drop ?_
  | with_reducible refine w_ifs ?_
  | ((with_reducible refine' w_var ?hh ?_); (case hh => exact rfl))
  | with_reducible refine w_c ?_
  | with_reducible refine w_op ?_
  | with_reducible refine w_un ?_
  | with_reducible refine w_I0 ?_
  | with_reducible refine w_U ?_
  | with_reducible refine w_nil ?_
  | with_reducible refine w_cons ?_
  | with_reducible refine w_call ?_
  | with_reducible refine w_cb ?_
  | with_reducible refine w_test ?_
  | with_reducible refine w_B ?_
  | with_reducible refine w_bl ?_
  | with_reducible refine w_and ?_
  | with_reducible refine w_or ?_
  | with_reducible refine w_not ?_
  | with_reducible refine w_ife ?_
  | with_reducible refine w_gRd ?_
  | with_reducible refine w_andV ?_
  | with_reducible refine w_orV ?_
  | with_reducible refine w_notV ?_
  | with_reducible refine w_chain ?_
  | with_reducible refine w_din ?_
  | with_reducible refine w_isi_ii ?_
  | with_reducible refine w_isi_ib ?_
  | with_reducible refine w_isi_it ?_
  | with_reducible refine w_isi_st ?_
  | ((with_reducible refine w_isi_tt ?h1 ?_); (case h1 => first | assumption | exact upd_same))
  | with_reducible refine if_t rfl ?_
  | with_reducible refine if_f rfl ?_
  | with_reducible refine w_tup ?_
  | with_reducible refine w_lst ?_
  | with_reducible refine w_next ?_
  | with_reducible refine w_bm ?_
  | with_reducible refine w_sl ?_
  | with_reducible refine w_part ?_
  | with_reducible refine w_nop ?_
  | with_reducible refine w_isI ?_
  | with_reducible refine w_yes ?_
  | with_reducible refine w_gn ?_
  | with_reducible refine w_gsub ?_
  | ((with_reducible refine' w_setL ?h1 ?h2 ?_); (case h1 => first | assumption | exact upd_same); (case h2 => exact rfl))
  | with_reducible refine w_asgG ?_
  | with_reducible refine w_m1 ?_
  | with_reducible refine w_isS ?_
  | with_reducible refine w_tyS ?_
  | ((with_reducible refine' w_tyL ?h1 ?_); (case h1 => first | assumption | exact upd_same))
  | ((with_reducible refine' w_ixT ?h1 ?h2 ?_); (case h1 => first | assumption | exact upd_same); (case h2 => exact rfl))
  | ((with_reducible refine' w_ixL ?h1 ?h2 ?_); (case h1 => first | assumption | exact upd_same); (case h2 => exact rfl))
  | ((with_reducible refine w_eq ?h1 ?_); (case h1 => exact rfl))
  | ((with_reducible refine w_ne ?h1 ?_); (case h1 => exact rfl))
  | dsimp only [List.set_cons_zero, List.set_cons_succ, List.append_nil, List.cons_append, List.nil_append, cxOf]))

theorem keyD_alike (a b : Int) : PySem.W.alike (keyD a) (keyD b) = true := by simp [keyD, PySem.W.alike, PySem.W.alikeAll]
theorem keyD_depth (a : Int) : (keyD a).depth ≤ 60 := by simp [keyD, PyData.depth, PyData.depthAll]
def bothS (ls : List Int) : Bool := (List.range (ls.map V.int).length).any fun i => decide (-(ls.getD i 0) ∈ ls)
def clauseF (ls : List Int) : List Int := srtBy keyD (dd ls)
def spClauseOf (P0 : Addr) : Sp := fun vs H Q _ => ∃ (a : Addr) (ls : List Int), vs = [.ref a] ∧ H a = some (.lst (ls.map V.int)) ∧ ls.length ≤ 1000 ∧ GxR.TabG H P0 ∧ (bothS ls = true → ∀ H', Kept H H' → Q .non H') ∧
  (bothS ls = false → ∀ p H', Kept H H' → H p = none → H' p = some (.tup ((clauseF ls).map V.int)) → Q (.ref p) H')
section
variable {P : Program} {w : World} {K : PySem.W.Frag} {mg : Str → Option Value} {base : Heap} {uG : Value} {f : Addr} {fd : FuncData}
end
end Ky

namespace Ky
open PySem PySem.Spec PyProof.Rows L2
local macro_rules | `(tactic| walk_at "rd") => `(tactic| repeat (first
  | with_reducible refine w_seq ?_
  | with_reducible refine w_asg ?_
  | with_reducible refine w_ret ?_
  | with_reducible refine w_drop ?_
  | with_reducible refine w_ifs ?_
  | ((with_reducible refine' w_var ?hh ?_); (case hh => exact rfl))
  | with_reducible refine w_c ?_
  | with_reducible refine w_op ?_
  | with_reducible refine w_un ?_
  | with_reducible refine w_I0 ?_
  | with_reducible refine w_U ?_
  | with_reducible refine w_nil ?_
  | with_reducible refine w_cons ?_
  | with_reducible refine w_call ?_
  | with_reducible refine w_cb ?_
  | with_reducible refine w_test ?_
  | with_reducible refine w_B ?_
  | with_reducible refine w_bl ?_
  | with_reducible refine w_and ?_
  | with_reducible refine w_or ?_
  | with_reducible refine w_not ?_
  | with_reducible refine w_ife ?_
  | with_reducible refine w_gRd ?_
  | with_reducible refine w_andV ?_
  | with_reducible refine w_orV ?_
  | with_reducible refine w_notV ?_
  | with_reducible refine w_chain ?_
  | with_reducible refine w_din ?_
  | with_reducible refine w_isi_ii ?_
  | with_reducible refine w_isi_ib ?_
  | with_reducible refine w_isi_it ?_
  | with_reducible refine w_isi_st ?_
  | ((with_reducible refine w_isi_tt ?h1 ?_); (case h1 => first | assumption | exact upd_same))
  | with_reducible refine if_t rfl ?_
  | with_reducible refine if_f rfl ?_
  | with_reducible refine w_tup ?_
  | with_reducible refine w_lst ?_
  | with_reducible refine w_next ?_
  | with_reducible refine w_bm ?_
  | with_reducible refine w_sl ?_
  | with_reducible refine w_part ?_
  | with_reducible refine w_nop ?_
  | with_reducible refine w_isI ?_
  | with_reducible refine w_yes ?_
  | with_reducible refine w_gn ?_
  | with_reducible refine w_gsub ?_
  | ((with_reducible refine' w_setL ?h1 ?h2 ?_); (case h1 => first | assumption | exact upd_same); (case h2 => exact rfl))
  | with_reducible refine w_asgG ?_
  | with_reducible refine w_m1 ?_
  | with_reducible refine w_isS ?_
  | with_reducible refine w_tyS ?_
  | ((with_reducible refine' w_tyL ?h1 ?_); (case h1 => first | assumption | exact upd_same))
  | ((with_reducible refine' w_ixT ?h1 ?h2 ?_); (case h1 => first | assumption | exact upd_same); (case h2 => exact rfl))
  | ((with_reducible refine' w_ixL ?h1 ?h2 ?_); (case h1 => first | assumption | exact upd_same); (case h2 => exact rfl))
  | ((with_reducible refine w_eq ?h1 ?_); (case h1 => exact rfl))
  | ((with_reducible refine w_ne ?h1 ?_); (case h1 => exact rfl))
  | dsimp only [List.set_cons_zero, List.set_cons_succ, List.append_nil, List.cons_append, List.nil_append, cxOf]))

theorem ckD_alike : ∀ (a b : List Int), PySem.W.alike (ckD a) (ckD b) = true := by
  have aux : ∀ (a b : List Int), PySem.W.alikeAll (a.map keyD) (b.map keyD) = true := by
    intro a
    induction a with
    | nil => intro b; simp [PySem.W.alikeAll]
    | cons x a ih =>
      intro b
      cases b with
      | nil => simp [PySem.W.alikeAll]
      | cons y b =>
        rw [List.map_cons, List.map_cons, PySem.W.alikeAll, keyD_alike, ih]
        rfl
  intro a b
  unfold ckD
  simp only [PySem.W.alike]
  exact aux a b
theorem ckD_depth (a : List Int) : (ckD a).depth ≤ 60 := by
  have aux : ∀ a : List Int, PyData.depthAll (a.map keyD) ≤ 2 := by
    intro a
    induction a with
    | nil => simp [PyData.depthAll]
    | cons x a ih =>
      rw [List.map_cons, PyData.depthAll]
      have h1 : (keyD x).depth ≤ 2 := by simp [keyD, PyData.depth, PyData.depthAll]
      omega
  unfold ckD
  simp only [PyData.depth]
  have := aux a
  omega
/-- rows of clauses at these places -/
def ClsAt (H : Hp) (bs : List Addr) (cs : List (List Int)) : Prop := bs.length = cs.length ∧ ∀ (i : Nat) (b : Addr) (c : List Int), bs[i]? = some b → cs[i]? = some c → H b = some (.tup (c.map V.int))
theorem ClsAt.kept {H H' : Hp} {bs : List Addr} {cs : List (List Int)} (h : ClsAt H bs cs) (k : Kept H H') : ClsAt H' bs cs := ⟨h.1, fun i b c h1 h2 => k.tup (h.2 i b c h1 h2)⟩
def residueF (cs : List (List Int)) : List (List Int) := srtBy ckD (dd cs)
theorem clsAt_zip {H : Hp} {bs : List Addr} {cs : List (List Int)} (h : ClsAt H bs cs) : ∀ p ∈ bs.zip cs, H p.1 = some (.tup (p.2.map V.int)) := fun p hp => by
  obtain ⟨i, hi⟩ := List.mem_iff_getElem?.mp hp
  rw [List.getElem?_zip_eq_some] at hi
  exact h.2 i _ _ hi.1 hi.2
theorem clsAt_of {H : Hp} {zs : List (Addr × List Int)} (h : ∀ p ∈ zs, H p.1 = some (.tup (p.2.map V.int))) : ClsAt H (zs.map (·.1)) (zs.map (·.2)) := by
  refine ⟨by rw [List.length_map, List.length_map], fun i b c h1 h2 => ?_⟩
  rw [List.getElem?_map] at h1 h2
  obtain ⟨p, hp, rfl⟩ := Option.map_eq_some_iff.mp h1
  rw [hp] at h2
  cases h2
  exact h p (List.mem_of_getElem? hp)
theorem sort_cls {H : Hp} {bs : List Addr} {cs : List (List Int)} (h : ClsAt H bs cs) : ∃ bs', sortD (bs.map V.ref) (cs.map ckD) = bs'.map V.ref ∧ ClsAt H bs' (srtBy ckD cs) := by
  have e1 : bs = (bs.zip cs).map (·.1) := (List.map_fst_zip (by rw [h.1]; exact Nat.le_refl _)).symm
  have e2 : cs = (bs.zip cs).map (·.2) := (List.map_snd_zip (by rw [h.1]; exact Nat.le_refl _)).symm
  refine ⟨(srtBy (fun p : Addr × List Int => ckD p.2) (bs.zip cs)).map (·.1), ?_, ?_⟩
  · have q := sortD_map (fun p : Addr × List Int => V.ref p.1) (fun p : Addr × List Int => ckD p.2) (bs.zip cs)
    have a1 : (bs.zip cs).map (fun p : Addr × List Int => V.ref p.1) = bs.map V.ref := by
      conv => rhs; rw [e1]
      rw [List.map_map] <;> rfl
    have a2 : (bs.zip cs).map (fun p : Addr × List Int => ckD p.2) = cs.map ckD := by
      conv => rhs; rw [e2]
      rw [List.map_map] <;> rfl
    rw [a1, a2] at q
    rw [q, List.map_map] <;> rfl
  · have q := srtBy_map (fun p : Addr × List Int => p.2) ckD (bs.zip cs)
    rw [← e2] at q
    rw [← q]
    exact clsAt_of fun p hp => clsAt_zip h p (mem_srtBy.mp hp)
theorem isKeys_cls {H : Hp} {cs : List (List Int)} {bs : List Addr} (h : IsKeys H (setDict (cs.map keysI)) bs) : ClsAt H bs cs := by
  induction cs generalizing bs with
  | nil =>
    cases h
    exact ⟨rfl, fun i b c h1 _ => by simp at h1⟩
  | cons c cs ih =>
    cases h with
    | cons h1 h2 =>
      obtain ⟨l1, l2⟩ := ih h2
      refine ⟨by rw [List.length_cons, List.length_cons, l1], fun i b d e1 e2 => ?_⟩
      cases i with
      | zero =>
        cases e1
        cases e2
        have z := h1
        rw [keysI_kV] at z
        exact z
      | succ i => exact l2 i b d (by simpa using e1) (by simpa using e2)
def spResidueOf : Sp := fun vs H Q _ => ∃ (a : Addr) (bs : List Addr) (cs : List (List Int)), vs = [.ref a] ∧ H a = some (.lst (bs.map V.ref)) ∧ ClsAt H bs cs ∧ cs.length ≤ 1000 ∧ (∀ c ∈ cs, c.length ≤ 1000) ∧
  ∀ p H' bs', Kept H H' → H p = none → H' p = some (.tup (bs'.map V.ref)) → ClsAt H' bs' (residueF cs) → Q (.ref p) H'
section
variable {P : Program} {w : World} {K : PySem.W.Frag} {mg : Str → Option Value} {base : Heap} {uG : Value} {f : Addr} {fd : FuncData}
end
end Ky

namespace Ky
open PySem PySem.Spec PyProof.Rows L2
local macro_rules | `(tactic| walk_at "rd") => `(tactic| repeat (first
  | with_reducible refine w_seq ?_
  | with_reducible refine w_asg ?_
  | with_reducible refine w_ret ?_
  | with_reducible refine w_drop ?_
  | with_reducible refine w_ifs ?_
  | ((with_reducible refine' w_var ?hh ?_); (case hh => exact rfl))
  | with_reducible refine w_c ?_
  | with_reducible refine w_op ?_
  | with_reducible refine w_un ?_
  | with_reducible refine w_I0 ?_
  | with_reducible refine w_U ?_
  | with_reducible refine w_nil ?_
  | with_reducible refine w_cons ?_
  | with_reducible refine w_call ?_
  | with_reducible refine w_cb ?_
  | with_reducible refine w_test ?_
  | with_reducible refine w_B ?_
  | with_reducible refine w_bl ?_
  | with_reducible refine w_and ?_
  | with_reducible refine w_or ?_
  | with_reducible refine w_not ?_
  | with_reducible refine w_ife ?_
  | with_reducible refine w_gRd ?_
  | with_reducible refine w_andV ?_
  | with_reducible refine w_orV ?_
  | with_reducible refine w_notV ?_
  | with_reducible refine w_chain ?_
  | with_reducible refine w_din ?_
  | with_reducible refine w_isi_ii ?_
  | with_reducible refine w_isi_ib ?_
  | with_reducible refine w_isi_it ?_
  | with_reducible refine w_isi_st ?_
  | ((with_reducible refine w_isi_tt ?h1 ?_); (case h1 => first | assumption | exact upd_same))
  | with_reducible refine if_t rfl ?_
  | with_reducible refine if_f rfl ?_
  | with_reducible refine w_tup ?_
  | with_reducible refine w_lst ?_
  | with_reducible refine w_next ?_
  | with_reducible refine w_bm ?_
  | with_reducible refine w_sl ?_
  | with_reducible refine w_part ?_
  | with_reducible refine w_nop ?_
  | with_reducible refine w_isI ?_
  | with_reducible refine w_yes ?_
  | with_reducible refine w_gn ?_
  | with_reducible refine w_gsub ?_
  | ((with_reducible refine' w_setL ?h1 ?h2 ?_); (case h1 => first | assumption | exact upd_same); (case h2 => exact rfl))
  | with_reducible refine w_asgG ?_
  | with_reducible refine w_m1 ?_
  | with_reducible refine w_isS ?_
  | with_reducible refine w_tyS ?_
  | ((with_reducible refine' w_tyL ?h1 ?_); (case h1 => first | assumption | exact upd_same))
  | ((with_reducible refine' w_ixT ?h1 ?h2 ?_); (case h1 => first | assumption | exact upd_same); (case h2 => exact rfl))
  | ((with_reducible refine' w_ixL ?h1 ?h2 ?_); (case h1 => first | assumption | exact upd_same); (case h2 => exact rfl))
  | ((with_reducible refine w_eq ?h1 ?_); (case h1 => exact rfl))
  | ((with_reducible refine w_ne ?h1 ?_); (case h1 => exact rfl))
  | dsimp only [List.set_cons_zero, List.set_cons_succ, List.append_nil, List.cons_append, List.nil_append, cxOf]))

theorem dpAll_ints {K : PySem.W.Frag} {H : Hp} : ∀ ls : List Int, DpAll K H (ls.map V.int) (ls.map PyData.int)
  | [] => .nil
  | n :: ls => .cons (.int n) (dpAll_ints ls)
def absAll (cs : List (List Int)) : List Int := cs.flatten.map absI
def isClauseF (ls : List Int) : Bool := (List.range (ls.map V.int).length).all (fun i => isLit (ls.getD i 0)) && ascD (ls.map fun n => .int (absI n))
section
variable {P : Program} {w : World} {K : PySem.W.Frag} {mg : Str → Option Value} {base : Heap} {uG : Value} {f : Addr} {fd : FuncData}
/-- the keys of the clause d stand at p -/
def CkAt (H : Hp) (p : Addr) (d : List Int) : Prop := ∃ qs : List Addr, H p = some (.tup (qs.map V.ref)) ∧ qs.length = d.length ∧ ∀ (i : Nat) (q : Addr) (n : Int), qs[i]? = some q → d[i]? = some n → H q = some (.tup (keyV n))
theorem CkAt.kept {H H' : Hp} {p : Addr} {d : List Int} (h : CkAt H p d) (k : Kept H H') : CkAt H' p d := by
  obtain ⟨qs, h1, h2, h3⟩ := h
  exact ⟨qs, k.tup h1, h2, fun i q n a b => k.tup (h3 i q n a b)⟩
theorem tup_upd {H : Hp} {D q : Addr} {xs ys : List V} {o : HO} (hD : H D = some (.lst xs)) (h : H q = some (.tup ys)) : upd H D o q = some (.tup ys) := by
  rw [upd_ne (fun z => by
    rw [z, hD] at h
    cases h)]
  exact h
theorem CkAt.updL {H : Hp} {p D : Addr} {d : List Int} {xs : List V} {o : HO} (h : CkAt H p d) (hD : H D = some (.lst xs)) : CkAt (upd H D o) p d := by
  obtain ⟨qs, h1, h2, h3⟩ := h
  exact ⟨qs, tup_upd hD h1, h2, fun i q n a b => tup_upd hD (h3 i q n a b)⟩
theorem CkAt.dp {K : PySem.W.Frag} {H : Hp} {p : Addr} {d : List Int} (h : CkAt H p d) : Dp K H (.ref p) (ckD d) := by
  obtain ⟨qs, h1, h2, h3⟩ := h
  exact dp_ckey h1 h2 h3
def isResidueF (cs : List (List Int)) : Bool := (List.range cs.length).all (fun i => isClauseF (cs.getD i [])) && ascD (cs.map ckD)
end
end Ky

namespace Ky
open PySem PySem.Spec PyProof.Rows L2
local macro_rules | `(tactic| walk_at "rd") => `(tactic| repeat (first
  | with_reducible refine w_seq ?_
  | with_reducible refine w_asg ?_
  | with_reducible refine w_ret ?_
  | with_reducible refine w_drop ?_
  | with_reducible refine w_ifs ?_
  | ((with_reducible refine' w_var ?hh ?_); (case hh => exact rfl))
  | with_reducible refine w_c ?_
  | with_reducible refine w_op ?_
  | with_reducible refine w_un ?_
  | with_reducible refine w_I0 ?_
  | with_reducible refine w_U ?_
  | with_reducible refine w_nil ?_
  | with_reducible refine w_cons ?_
  | with_reducible refine w_call ?_
  | with_reducible refine w_cb ?_
  | with_reducible refine w_test ?_
  | with_reducible refine w_B ?_
  | with_reducible refine w_bl ?_
  | with_reducible refine w_and ?_
  | with_reducible refine w_or ?_
  | with_reducible refine w_not ?_
  | with_reducible refine w_ife ?_
  | with_reducible refine w_gRd ?_
  | with_reducible refine w_andV ?_
  | with_reducible refine w_orV ?_
  | with_reducible refine w_notV ?_
  | with_reducible refine w_chain ?_
  | with_reducible refine w_din ?_
  | with_reducible refine w_isi_ii ?_
  | with_reducible refine w_isi_ib ?_
  | with_reducible refine w_isi_it ?_
  | with_reducible refine w_isi_st ?_
  | ((with_reducible refine w_isi_tt ?h1 ?_); (case h1 => first | assumption | exact upd_same))
  | with_reducible refine if_t rfl ?_
  | with_reducible refine if_f rfl ?_
  | with_reducible refine w_tup ?_
  | with_reducible refine w_lst ?_
  | with_reducible refine w_next ?_
  | with_reducible refine w_bm ?_
  | with_reducible refine w_sl ?_
  | with_reducible refine w_part ?_
  | with_reducible refine w_nop ?_
  | with_reducible refine w_isI ?_
  | with_reducible refine w_yes ?_
  | with_reducible refine w_gn ?_
  | with_reducible refine w_gsub ?_
  | ((with_reducible refine' w_setL ?h1 ?h2 ?_); (case h1 => first | assumption | exact upd_same); (case h2 => exact rfl))
  | with_reducible refine w_asgG ?_
  | with_reducible refine w_m1 ?_
  | with_reducible refine w_isS ?_
  | with_reducible refine w_tyS ?_
  | ((with_reducible refine' w_tyL ?h1 ?_); (case h1 => first | assumption | exact upd_same))
  | ((with_reducible refine' w_ixT ?h1 ?h2 ?_); (case h1 => first | assumption | exact upd_same); (case h2 => exact rfl))
  | ((with_reducible refine' w_ixL ?h1 ?h2 ?_); (case h1 => first | assumption | exact upd_same); (case h2 => exact rfl))
  | ((with_reducible refine w_eq ?h1 ?_); (case h1 => exact rfl))
  | ((with_reducible refine w_ne ?h1 ?_); (case h1 => exact rfl))
  | dsimp only [List.set_cons_zero, List.set_cons_succ, List.append_nil, List.cons_append, List.nil_append, cxOf]))

def keep1 (fs c : List Int) : Bool := (List.range (c.map V.int).length).any fun i => decide (c.getD i 0 ∈ fs)
def keepsF (cs : List (List Int)) (fs : List Int) : Bool := (List.range cs.length).all fun i => keep1 fs (cs.getD i [])
def spKeeps (P0 : Addr) : Sp := fun vs H Q _ => ∃ (a b : Addr) (bs : List Addr) (cs : List (List Int)) (fs : List Int), vs = [.ref a, .ref b] ∧ H a = some (.tup (bs.map V.ref)) ∧ ClsAt H bs cs ∧ H b = some (.tup (fs.map V.int)) ∧ fs.length ≤ 1000 ∧ GxR.TabG H P0 ∧ ∀ H', Kept H H' → Q (.bl (keepsF cs fs)) H'
section
variable {P : Program} {w : World} {K : PySem.W.Frag} {mg : Str → Option Value} {base : Heap} {uG : Value} {f : Addr} {fd : FuncData}
theorem dataLt_asym {x y : PyData} (h : PySem.W.dataLt x y = true) : PySem.W.dataLt y x = false := by
  have t := (PySem.W.sortLe_total (PyProof.Rows.listOrd PyProof.Rows.itemOrd) false fun d : PyData => PySem.W.keyToks d).total x y
  have e1 : PySem.W.sortLe (PyProof.Rows.listOrd PyProof.Rows.itemOrd) false (fun d : PyData => PySem.W.keyToks d) x y = !PySem.W.dataLt y x := rfl
  have e2 : PySem.W.sortLe (PyProof.Rows.listOrd PyProof.Rows.itemOrd) false (fun d : PyData => PySem.W.keyToks d) y x = !PySem.W.dataLt x y := rfl
  rw [e1, e2, h] at t
  cases z : PySem.W.dataLt y x with
  | false => rfl
  | true =>
    rw [z] at t
    rcases t with t | t <;> cases t
theorem dataLe_trans {x y z : PyData} (h1 : PySem.W.dataLt y x = false) (h2 : PySem.W.dataLt z y = false) : PySem.W.dataLt z x = false := by
  have t := (PySem.W.sortLe_total (PyProof.Rows.listOrd PyProof.Rows.itemOrd) false fun d : PyData => PySem.W.keyToks d).trans x y z
  have e1 : PySem.W.sortLe (PyProof.Rows.listOrd PyProof.Rows.itemOrd) false (fun d : PyData => PySem.W.keyToks d) x y = !PySem.W.dataLt y x := rfl
  have e2 : PySem.W.sortLe (PyProof.Rows.listOrd PyProof.Rows.itemOrd) false (fun d : PyData => PySem.W.keyToks d) y z = !PySem.W.dataLt z y := rfl
  have e3 : PySem.W.sortLe (PyProof.Rows.listOrd PyProof.Rows.itemOrd) false (fun d : PyData => PySem.W.keyToks d) x z = !PySem.W.dataLt z x := rfl
  rw [e1, e2, e3, h1, h2] at t
  have q := t rfl rfl
  cases w : PySem.W.dataLt z x with
  | false => rfl
  | true =>
    rw [w] at q
    cases q
theorem dataLt_trans {x y z : PyData} (h1 : PySem.W.dataLt x y = true) (h2 : PySem.W.dataLt y z = true) : PySem.W.dataLt x z = true := by
  cases w : PySem.W.dataLt x z with
  | true => rfl
  | false =>
    have q := dataLe_trans (dataLt_asym h2) w
    rw [h1] at q
    cases q
/-- the place where a clause would stand -/
def isPlace (c : List Int) (cs : List (List Int)) (n : Nat) : Prop := n ≤ cs.length ∧ (∀ i, i < n → PySem.W.dataLt (ckD (cs.getD i [])) (ckD c) = true) ∧ (∀ i, n ≤ i → i < cs.length → PySem.W.dataLt (ckD (cs.getD i [])) (ckD c) = false)
/-- the list ascends -/
def ascC (cs : List (List Int)) : Prop := cs.Pairwise fun x y => PySem.W.dataLt (ckD x) (ckD y) = true
def spPlace : Sp := fun vs H Q _ => ∃ (a b : Addr) (bs : List Addr) (cs : List (List Int)) (c : List Int), vs = [.ref a, .ref b] ∧ H a = some (.tup (c.map V.int)) ∧ c.length ≤ 1000 ∧ H b = some (.lst (bs.map V.ref)) ∧ ClsAt H bs cs ∧ ascC cs ∧ cs.length ≤ 1000 ∧ (∀ d ∈ cs, d.length ≤ 1000) ∧
  ∀ n H', Kept H H' → isPlace c cs n → Q (.int (n : Nat)) H'
end
end Ky

namespace Ky
open PySem PySem.Spec PyProof.Rows L2
theorem key_inj {n m : Int} (h1 : absI n = absI m) (h2 : sgI n = sgI m) : n = m := by
  unfold absI at h1
  unfold sgI at h2
  by_cases a : n < 0 <;> by_cases b : m < 0 <;> by_cases c : n > 0 <;> by_cases d : m > 0 <;> simp [a, b, c, d] at h1 h2 <;> omega
theorem ck_inj : ∀ a b : List Int, PySem.W.keyToksAll (a.map keyD) = PySem.W.keyToksAll (b.map keyD) → a = b
  | [], [], _ => rfl
  | [], y :: b, h => by
    simp [PySem.W.keyToksAll] at h
  | x :: a, [], h => by
    simp [PySem.W.keyToksAll] at h
  | x :: a, y :: b, h => by
    rw [List.map_cons, List.map_cons, PySem.W.keyToksAll, PySem.W.keyToksAll] at h
    simp only [keyD, PySem.W.keyToks, PySem.W.keyToksAll, List.cons_append, List.nil_append, List.append_assoc] at h
    simp only [List.cons.injEq, Sum.inl.injEq, true_and] at h
    obtain ⟨h1, h2, h3⟩ := h
    rw [key_inj h1 h2, ck_inj a b h3]
theorem ck_total {a b : List Int} (h1 : PySem.W.dataLt (ckD a) (ckD b) = false) (h2 : PySem.W.dataLt (ckD b) (ckD a) = false) : a = b := by
  have e := (PyProof.Rows.listOrd PyProof.Rows.itemOrd).total (PySem.W.keyToks (ckD a)) (PySem.W.keyToks (ckD b)) h1 h2
  unfold ckD at e
  simp only [PySem.W.keyToks] at e
  exact ck_inj a b e
theorem lt_irr (x : PyData) : PySem.W.dataLt x x = false := (PyProof.Rows.listOrd PyProof.Rows.itemOrd).irrefl _
theorem lt_or {a b : List Int} (h : a ≠ b) (h2 : PySem.W.dataLt (ckD a) (ckD b) = false) : PySem.W.dataLt (ckD b) (ckD a) = true := by
  cases w : PySem.W.dataLt (ckD b) (ckD a) with
  | true => rfl
  | false => exact absurd (ck_total h2 w) h
theorem asc_unique : ∀ {xs ys : List (List Int)}, ascC xs → ascC ys → (∀ d, d ∈ xs ↔ d ∈ ys) → xs = ys
  | [], [], _, _, _ => rfl
  | [], y :: ys, _, _, h => absurd ((h y).mpr List.mem_cons_self) (by simp)
  | x :: xs, [], _, _, h => absurd ((h x).mp List.mem_cons_self) (by simp)
  | x :: xs, y :: ys, hx, hy, h => by
    obtain ⟨x1, x2⟩ := List.pairwise_cons.mp hx
    obtain ⟨y1, y2⟩ := List.pairwise_cons.mp hy
    have e : x = y := by
      rcases List.mem_cons.mp ((h x).mp List.mem_cons_self) with e | e
      · exact e
      · rcases List.mem_cons.mp ((h y).mpr List.mem_cons_self) with e2 | e2
        · exact e2.symm
        · have a := dataLt_asym (y1 x e)
          rw [x1 y e2] at a
          cases a
    subst e
    have nx : x ∉ xs := fun z => by
      have := x1 x z
      rw [lt_irr] at this
      cases this
    have ny : x ∉ ys := fun z => by
      have := y1 x z
      rw [lt_irr] at this
      cases this
    rw [asc_unique x2 y2 fun d => ⟨fun z => ((List.mem_cons.mp ((h d).mp (List.mem_cons_of_mem _ z))).resolve_left fun e => nx (e ▸ z)), fun z => ((List.mem_cons.mp ((h d).mpr (List.mem_cons_of_mem _ z))).resolve_left fun e => ny (e ▸ z))⟩]
theorem getD_mem {ds : List (List Int)} {i : Nat} (h : i < ds.length) : ds.getD i [] = ds[i] := by rw [List.getD_eq_getElem?_getD, List.getElem?_eq_getElem h] <;> rfl
theorem place_has {s : List Int} {ds : List (List Int)} {n : Nat} (hp : isPlace s ds n) (ha : ascC ds) (hn : n < ds.length → ds[n]? ≠ some s) : s ∉ ds := fun hm => by
  obtain ⟨j, hj, e⟩ := List.getElem_of_mem hm
  obtain ⟨p1, p2, p3⟩ := hp
  by_cases h : j < n
  · have q := p2 j h
    rw [getD_mem hj, e, lt_irr] at q
    cases q
  · by_cases h2 : j = n
    · subst h2
      exact hn hj (by rw [List.getElem?_eq_getElem hj, e])
    · have hnl : n < ds.length := by omega
      have q := List.pairwise_iff_getElem.mp ha n j hnl hj (by omega)
      rw [e] at q
      have y := p3 n (Nat.le_refl _) hnl
      rw [getD_mem hnl, q] at y
      cases y
theorem place_ins {s : List Int} {ds : List (List Int)} {n : Nat} (hp : isPlace s ds n) (ha : ascC ds) (hs : s ∉ ds) : ascC (ds.take n ++ [s] ++ ds.drop n) ∧ ∀ d, d ∈ ds.take n ++ [s] ++ ds.drop n ↔ d ∈ ds ∨ d = s := by
  obtain ⟨p1, p2, p3⟩ := hp
  have t1 : ∀ d ∈ ds.take n, PySem.W.dataLt (ckD d) (ckD s) = true := fun d hd => by
    obtain ⟨i, hi, e⟩ := List.getElem_of_mem hd
    have hi2 : i < n := by rw [List.length_take] at hi; omega
    have hi3 : i < ds.length := by omega
    have q := p2 i hi2
    rw [getD_mem hi3] at q
    rw [← e, List.getElem_take]
    exact q
  have t2 : ∀ d ∈ ds.drop n, PySem.W.dataLt (ckD s) (ckD d) = true := fun d hd => by
    obtain ⟨i, hi, e⟩ := List.getElem_of_mem hd
    rw [List.length_drop] at hi
    have hi3 : n + i < ds.length := by omega
    have q := p3 (n + i) (by omega) hi3
    rw [getD_mem hi3] at q
    rw [← e, List.getElem_drop]
    exact lt_or (fun z => hs (z ▸ List.getElem_mem hi3)) q
  have hsplit : ds.take n ++ ds.drop n = ds := List.take_append_drop n ds
  refine ⟨?_, fun d => ?_⟩
  · have ha2 : ascC (ds.take n ++ ds.drop n) := by rw [hsplit]; exact ha
    obtain ⟨a1, a2, a3⟩ := List.pairwise_append.mp ha2
    refine List.pairwise_append.mpr ⟨List.pairwise_append.mpr ⟨a1, List.pairwise_singleton _ _, fun x hx y hy => ?_⟩, a2, fun x hx y hy => ?_⟩
    · rw [List.mem_singleton.mp hy]; exact t1 x hx
    · rcases List.mem_append.mp hx with hx | hx
      · exact a3 x hx y hy
      · rw [List.mem_singleton.mp hx]; exact t2 y hy
  · rw [List.mem_append, List.mem_append, List.mem_singleton]
    constructor
    · rintro ((h | h) | h)
      · exact .inl (List.mem_of_mem_take h)
      · exact .inr h
      · exact .inl (List.mem_of_mem_drop h)
    · rintro (h | h)
      · rw [← hsplit] at h
        rcases List.mem_append.mp h with h | h
        · exact .inl (.inl h)
        · exact .inr h
      · exact .inl (.inr h)
/-- sorted, without repeats: it ascends -/
theorem asc_srt (cs : List (List Int)) : ascC (residueF cs) := by
  unfold residueF
  have h1 := srtBy_pair ckD (dd cs)
  have h2 : (srtBy ckD (dd cs)).Nodup := (srtBy_perm ckD (dd cs)).nodup_iff.mpr (nodup_dd cs)
  refine List.pairwise_iff_getElem.mpr fun i j hi hj hij => ?_
  have a := List.pairwise_iff_getElem.mp h1 i j hi hj hij
  have b := List.pairwise_iff_getElem.mp h2 i j hi hj hij
  have a' : PySem.W.dataLt (ckD (srtBy ckD (dd cs))[j]) (ckD (srtBy ckD (dd cs))[i]) = false := by
    have z : (!PySem.W.dataLt (ckD (srtBy ckD (dd cs))[j]) (ckD (srtBy ckD (dd cs))[i])) = true := a
    cases w : PySem.W.dataLt (ckD (srtBy ckD (dd cs))[j]) (ckD (srtBy ckD (dd cs))[i]) with
    | false => rfl
    | true => rw [w] at z; cases z
  exact lt_or (Ne.symm b) a'
theorem mem_residueF {cs : List (List Int)} {d : List Int} : d ∈ residueF cs ↔ d ∈ cs := by unfold residueF; rw [mem_srtBy, mem_dd]
theorem asc_is {cs ds : List (List Int)} (h : ascC ds) (hm : ∀ d, d ∈ ds ↔ d ∈ cs) : ds = residueF cs := asc_unique h (asc_srt cs) fun d => by rw [hm, mem_residueF]
end Ky

namespace Ky
open PySem PySem.Spec PyProof.Rows L2
local macro_rules | `(tactic| walk_at "rd") => `(tactic| repeat (first
  | with_reducible refine w_seq ?_
  | with_reducible refine w_asg ?_
  | with_reducible refine w_ret ?_
  | with_reducible refine w_drop ?_
  | with_reducible refine w_ifs ?_
  | ((with_reducible refine' w_var ?hh ?_); (case hh => exact rfl))
  | with_reducible refine w_c ?_
  | with_reducible refine w_op ?_
  | with_reducible refine w_un ?_
  | with_reducible refine w_I0 ?_
  | with_reducible refine w_U ?_
  | with_reducible refine w_nil ?_
  | with_reducible refine w_cons ?_
  | with_reducible refine w_call ?_
  | with_reducible refine w_cb ?_
  | with_reducible refine w_test ?_
  | with_reducible refine w_B ?_
  | with_reducible refine w_bl ?_
  | with_reducible refine w_and ?_
  | with_reducible refine w_or ?_
  | with_reducible refine w_not ?_
  | with_reducible refine w_ife ?_
  | with_reducible refine w_gRd ?_
  | with_reducible refine w_andV ?_
  | with_reducible refine w_orV ?_
  | with_reducible refine w_notV ?_
  | with_reducible refine w_chain ?_
  | with_reducible refine w_din ?_
  | with_reducible refine w_isi_ii ?_
  | with_reducible refine w_isi_ib ?_
  | with_reducible refine w_isi_it ?_
  | with_reducible refine w_isi_st ?_
  | ((with_reducible refine w_isi_tt ?h1 ?_); (case h1 => first | assumption | exact upd_same))
  | with_reducible refine if_t rfl ?_
  | with_reducible refine if_f rfl ?_
  | with_reducible refine w_tup ?_
  | with_reducible refine w_lst ?_
  | with_reducible refine w_next ?_
  | with_reducible refine w_bm ?_
  | with_reducible refine w_sl ?_
  | with_reducible refine w_part ?_
  | with_reducible refine w_nop ?_
  | with_reducible refine w_isI ?_
  | with_reducible refine w_yes ?_
  | with_reducible refine w_gn ?_
  | with_reducible refine w_gsub ?_
  | ((with_reducible refine' w_setL ?h1 ?h2 ?_); (case h1 => first | assumption | exact upd_same); (case h2 => exact rfl))
  | with_reducible refine w_asgG ?_
  | with_reducible refine w_m1 ?_
  | with_reducible refine w_isS ?_
  | with_reducible refine w_tyS ?_
  | ((with_reducible refine' w_tyL ?h1 ?_); (case h1 => first | assumption | exact upd_same))
  | ((with_reducible refine' w_ixT ?h1 ?h2 ?_); (case h1 => first | assumption | exact upd_same); (case h2 => exact rfl))
  | ((with_reducible refine' w_ixL ?h1 ?h2 ?_); (case h1 => first | assumption | exact upd_same); (case h2 => exact rfl))
  | ((with_reducible refine w_eq ?h1 ?_); (case h1 => exact rfl))
  | ((with_reducible refine w_ne ?h1 ?_); (case h1 => exact rfl))
  | dsimp only [List.set_cons_zero, List.set_cons_succ, List.append_nil, List.cons_append, List.nil_append, cxOf]))

theorem inV_ints (n : Int) (ls : List Int) : inV (.int n) (ls.map V.int) = decide (n ∈ ls) := by
  unfold inV
  rw [List.any_map, Bool.eq_iff_iff, List.any_eq_true, decide_eq_true_eq]
  constructor
  · rintro ⟨y, hy, e⟩
    have e : y = n := by simpa [eqV] using e
    rw [← e]
    exact hy
  · intro h
    exact ⟨n, h, by simp [eqV]⟩
theorem flat_ints (ls : List Int) : (ls.map V.int).all flatV = true := by
  rw [List.all_map]
  exact List.all_eq_true.mpr fun x _ => rfl
section
variable {K : PySem.W.Frag} {H : Hp} {Q : VK} {b : Addr} {n : Int} {ls : List Int}
theorem w_inT (h : H b = some (.tup (ls.map V.int))) (q : Q (.bl (decide (n ∈ ls))) H) : rIn K false (.int n) (.ref b) H Q := ⟨b, _, rfl, .inr (SqT.of h), rfl, flat_ints ls, by rw [inV_ints, if_neg Bool.false_ne_true]; exact q⟩
theorem w_ninT (h : H b = some (.tup (ls.map V.int))) (q : Q (.bl (decide (n ∉ ls))) H) : rIn K true (.int n) (.ref b) H Q := ⟨b, _, rfl, .inr (SqT.of h), rfl, flat_ints ls, by rw [inV_ints, if_pos rfl]; rw [decide_not] at q; exact q⟩
end
theorem canLay_ints : ∀ ls : List Int, PyData.canLayAll0 (ls.map PyData.int) = true
  | [] => by simp [PyData.canLayAll0]
  | x :: xs => by
    rw [List.map_cons, PyData.canLayAll0, canLay_ints xs]
    simp [PyData.canLay0]
theorem shT_ints (ls : List Int) : SeqAt.shaped (.tuple (ls.map PyData.int)) = true := by
  unfold SeqAt.shaped
  simp only [PyData.canLay0, canLay_ints, Bool.true_and, PyData.depth, PySem.W.depth_ints]
  rfl
theorem eqvAll_ints : ∀ xs ys : List Int, PyData.eqvAll (xs.map PyData.int) (ys.map PyData.int) = decide (xs = ys)
  | [], [] => by simp [PyData.eqvAll]
  | [], y :: ys => by simp [PyData.eqvAll]
  | x :: xs, [] => by simp [PyData.eqvAll]
  | x :: xs, y :: ys => by
    rw [List.map_cons, List.map_cons, PyData.eqvAll, eqvAll_ints xs ys]
    simp only [PyData.eqv]
    by_cases h : x = y <;> by_cases h2 : xs = ys <;> simp [h, h2]
theorem eqv_ints (xs ys : List Int) : PyData.eqv (.tuple (xs.map PyData.int)) (.tuple (ys.map PyData.int)) = decide (xs = ys) := by
  simp only [PyData.eqv]
  exact eqvAll_ints xs ys
theorem dp_ints {K : PySem.W.Frag} {H : Hp} {b : Addr} {ls : List Int} (h : H b = some (.tup (ls.map V.int))) : Dp K H (.ref b) (.tuple (ls.map PyData.int)) := .tup (SqT.of h) (dpAll_ints ls)
theorem clsAt_upd {H : Hp} {D : Addr} {xs : List V} {o : HO} {ps : List Addr} {ds : List (List Int)} (h : ClsAt H ps ds) (hD : H D = some (.lst xs)) : ClsAt (upd H D o) ps ds := ⟨h.1, fun i b c h1 h2 => tup_upd hD (h.2 i b c h1 h2)⟩
theorem clsAt_ins {H : Hp} {ps : List Addr} {ds : List (List Int)} {s : Addr} {sh : List Int} (h : ClsAt H ps ds) (hs : H s = some (.tup (sh.map V.int))) (n : Nat) : ClsAt H (ps.take n ++ [s] ++ ps.drop n) (ds.take n ++ [sh] ++ ds.drop n) := by
  have e1 : ps = (ps.zip ds).map (·.1) := (List.map_fst_zip (by rw [h.1]; exact Nat.le_refl _)).symm
  have e2 : ds = (ps.zip ds).map (·.2) := (List.map_snd_zip (by rw [h.1]; exact Nat.le_refl _)).symm
  have q := clsAt_of (H := H) (zs := (ps.zip ds).take n ++ [(s, sh)] ++ (ps.zip ds).drop n) fun p hp => by
    rcases List.mem_append.mp hp with hp | hp
    · rcases List.mem_append.mp hp with hp | hp
      · exact clsAt_zip h p (List.mem_of_mem_take hp)
      · rw [List.mem_singleton.mp hp]; exact hs
    · exact clsAt_zip h p (List.mem_of_mem_drop hp)
  rw [List.map_append, List.map_append, List.map_append, List.map_append, List.map_take, List.map_drop, List.map_take, List.map_drop, ← e1, ← e2] at q
  exact q
/-- the clauses of a residue under a literal -/
def inUnder (cs : List (List Int)) (l : Int) (d : List Int) : Prop := ∃ c ∈ cs, l ∉ c ∧ c.filter (fun x => decide (x ≠ -l)) = d
def noBoth (c : List Int) : Prop := ∀ l, l ∈ c → -l ∉ c
def spUnder : Sp := fun vs H Q _ => ∃ (a : Addr) (bs : List Addr) (cs : List (List Int)) (l : Int), vs = [.ref a, .int l] ∧ H a = some (.tup (bs.map V.ref)) ∧ ClsAt H bs cs ∧ ascC cs ∧ cs.length ≤ 400 ∧ (∀ c ∈ cs, c.length ≤ 400 ∧ noBoth c) ∧
  ∀ p H' (bs' : List Addr) (ds : List (List Int)), ascC ds → (∀ d, d ∈ ds ↔ inUnder cs l d) → Kept H H' → H p = none → H' p = some (.tup (bs'.map V.ref)) → ClsAt H' bs' ds → Q (.ref p) H'
section
variable {P : Program} {w : World} {K : PySem.W.Frag} {mg : Str → Option Value} {base : Heap} {uG : Value} {f : Addr} {fd : FuncData}
end
end Ky

namespace Ky
open PySem PySem.Spec PyProof.Rows L2
local macro_rules | `(tactic| walk_at "rd") => `(tactic| repeat (first
  | with_reducible refine w_seq ?_
  | with_reducible refine w_asg ?_
  | with_reducible refine w_ret ?_
  | with_reducible refine w_drop ?_
  | with_reducible refine w_ifs ?_
  | ((with_reducible refine' w_var ?hh ?_); (case hh => exact rfl))
  | with_reducible refine w_c ?_
  | with_reducible refine w_op ?_
  | with_reducible refine w_un ?_
  | with_reducible refine w_I0 ?_
  | with_reducible refine w_U ?_
  | with_reducible refine w_nil ?_
  | with_reducible refine w_cons ?_
  | with_reducible refine w_call ?_
  | with_reducible refine w_cb ?_
  | with_reducible refine w_test ?_
  | with_reducible refine w_B ?_
  | with_reducible refine w_bl ?_
  | with_reducible refine w_and ?_
  | with_reducible refine w_or ?_
  | with_reducible refine w_not ?_
  | with_reducible refine w_ife ?_
  | with_reducible refine w_gRd ?_
  | with_reducible refine w_andV ?_
  | with_reducible refine w_orV ?_
  | with_reducible refine w_notV ?_
  | with_reducible refine w_chain ?_
  | with_reducible refine w_din ?_
  | with_reducible refine w_isi_ii ?_
  | with_reducible refine w_isi_ib ?_
  | with_reducible refine w_isi_it ?_
  | with_reducible refine w_isi_st ?_
  | ((with_reducible refine w_isi_tt ?h1 ?_); (case h1 => first | assumption | exact upd_same))
  | with_reducible refine if_t rfl ?_
  | with_reducible refine if_f rfl ?_
  | with_reducible refine w_tup ?_
  | with_reducible refine w_lst ?_
  | with_reducible refine w_next ?_
  | with_reducible refine w_bm ?_
  | with_reducible refine w_sl ?_
  | with_reducible refine w_part ?_
  | with_reducible refine w_nop ?_
  | with_reducible refine w_isI ?_
  | with_reducible refine w_yes ?_
  | with_reducible refine w_gn ?_
  | with_reducible refine w_gsub ?_
  | ((with_reducible refine' w_setL ?h1 ?h2 ?_); (case h1 => first | assumption | exact upd_same); (case h2 => exact rfl))
  | with_reducible refine w_asgG ?_
  | with_reducible refine w_m1 ?_
  | with_reducible refine w_isS ?_
  | with_reducible refine w_tyS ?_
  | ((with_reducible refine' w_tyL ?h1 ?_); (case h1 => first | assumption | exact upd_same))
  | ((with_reducible refine' w_ixT ?h1 ?h2 ?_); (case h1 => first | assumption | exact upd_same); (case h2 => exact rfl))
  | ((with_reducible refine' w_ixL ?h1 ?h2 ?_); (case h1 => first | assumption | exact upd_same); (case h2 => exact rfl))
  | ((with_reducible refine w_eq ?h1 ?_); (case h1 => exact rfl))
  | ((with_reducible refine w_ne ?h1 ?_); (case h1 => exact rfl))
  | dsimp only [List.set_cons_zero, List.set_cons_succ, List.append_nil, List.cons_append, List.nil_append, cxOf]))

def underF (cs : List (List Int)) (l : Int) : List (List Int) := residueF ((cs.filter fun c => decide (l ∉ c)).map fun c => c.filter fun x => decide (x ≠ -l))
theorem mem_underF {cs : List (List Int)} {l : Int} {d : List Int} : d ∈ underF cs l ↔ inUnder cs l d := by
  unfold underF inUnder
  rw [mem_residueF, List.mem_map]
  constructor
  · rintro ⟨c, h1, h2⟩
    obtain ⟨h1, h3⟩ := List.mem_filter.mp h1
    exact ⟨c, h1, of_decide_eq_true h3, h2⟩
  · rintro ⟨c, h1, h2, h3⟩
    exact ⟨c, List.mem_filter.mpr ⟨h1, decide_eq_true h2⟩, h3⟩
theorem underF_asc (cs : List (List Int)) (l : Int) : ascC (underF cs l) := asc_srt _
/-- a residue of small clauses -/
structure Small3 (cs : List (List Int)) : Prop where
  asc : ascC cs
  len : cs.length ≤ 400
  cl : ∀ c ∈ cs, c.length ≤ 400 ∧ noBoth c
theorem Small3.under {cs : List (List Int)} (h : Small3 cs) (l : Int) : Small3 (underF cs l) := by
  refine ⟨underF_asc cs l, ?_, fun d hd => ?_⟩
  · have h1 : (underF cs l).length ≤ cs.length := by
      unfold underF residueF
      rw [(srtBy_perm _ _).length_eq]
      refine Nat.le_trans (len_dd _) ?_
      rw [List.length_map]
      exact List.length_filter_le _ _
    exact Nat.le_trans h1 h.len
  · obtain ⟨c, h1, _, h3⟩ := mem_underF.mp hd
    obtain ⟨h4, h5⟩ := h.cl c h1
    rw [← h3]
    exact ⟨Nat.le_trans (List.length_filter_le _ _) h4, fun k hk hk2 => h5 k (List.mem_filter.mp hk).1 (List.mem_filter.mp hk2).1⟩
def spUnderAll : Sp := fun vs H Q _ => ∃ (a b : Addr) (bs : List Addr) (cs : List (List Int)) (ls : List Int), vs = [.ref a, .ref b] ∧ H a = some (.tup (bs.map V.ref)) ∧ ClsAt H bs cs ∧ Small3 cs ∧ H b = some (.lst (ls.map V.int)) ∧
  ∀ p H' (bs' : List Addr), Kept H H' → H' p = some (.tup (bs'.map V.ref)) → ClsAt H' bs' (ls.foldl underF cs) → Q (.ref p) H'
section
variable {P : Program} {w : World} {K : PySem.W.Frag} {mg : Str → Option Value} {base : Heap} {uG : Value} {f : Addr} {fd : FuncData}
/-! ### the law's own -/
/-- rows in the order of their data, each still what it was -/
theorem sort_at {γ : Type} (g : γ → PyData) (R : Addr → γ → Prop) {bs : List Addr} {cs : List γ} (hl : bs.length = cs.length) (h : ∀ (i : Nat) (b : Addr) (c : γ), bs[i]? = some b → cs[i]? = some c → R b c) :
    ∃ bs' : List Addr, sortD (bs.map V.ref) (cs.map g) = bs'.map V.ref ∧ bs'.length = (srtBy g cs).length ∧ ∀ (i : Nat) (b : Addr) (c : γ), bs'[i]? = some b → (srtBy g cs)[i]? = some c → R b c := by
  have e1 : bs = (bs.zip cs).map (·.1) := (List.map_fst_zip (by omega)).symm
  have e2 : cs = (bs.zip cs).map (·.2) := (List.map_snd_zip (by omega)).symm
  have hz : ∀ p ∈ bs.zip cs, R p.1 p.2 := fun p hp => by
    obtain ⟨i, hi⟩ := List.mem_iff_getElem?.mp hp
    rw [List.getElem?_zip_eq_some] at hi
    exact h i _ _ hi.1 hi.2
  have q2 := srtBy_map (fun p : Addr × γ => p.2) g (bs.zip cs)
  rw [← e2] at q2
  refine ⟨(srtBy (fun p : Addr × γ => g p.2) (bs.zip cs)).map (·.1), ?_, by rw [← q2, List.length_map, List.length_map], fun i b c h1 h2 => ?_⟩
  · have q := sortD_map (fun p : Addr × γ => V.ref p.1) (fun p : Addr × γ => g p.2) (bs.zip cs)
    have a1 : (bs.zip cs).map (fun p : Addr × γ => V.ref p.1) = bs.map V.ref := by
      conv => rhs; rw [e1]
      rw [List.map_map] <;> rfl
    have a2 : (bs.zip cs).map (fun p : Addr × γ => g p.2) = cs.map g := by
      conv => rhs; rw [e2]
      rw [List.map_map] <;> rfl
    rw [a1, a2] at q
    rw [q, List.map_map] <;> rfl
  · rw [← q2] at h2
    rw [List.getElem?_map] at h1 h2
    obtain ⟨p, hp, rfl⟩ := Option.map_eq_some_iff.mp h1
    rw [hp] at h2
    cases h2
    exact hz p (mem_srtBy.mp (List.mem_of_getElem? hp))
theorem mulW {i j : Int} (hi : i.natAbs < 2 ^ 64) (hj : j.natAbs < 2 ^ 64) : CMulW i j := by
  have h1 := PySem.Flt.log2_lt_of (by decide) hi
  have h2 := PySem.Flt.log2_lt_of (by decide) hj
  unfold CMulW
  omega
def spLClause : Sp := fun vs H Q _ => ∃ (a : Addr) (ls : List Int), vs = [.ref a] ∧ H a = some (.lst (ls.map V.int)) ∧ ls.length ≤ 1000 ∧ (∀ n ∈ ls, n.natAbs < 2 ^ 60) ∧ ∀ p H', Kept H H' → H p = none → H' p = some (.tup ((srtBy keyD ls).map V.int)) → Q (.ref p) H'
theorem sgn_back (n : Int) : absI n * (2 * sgI n - 1) = n := by
  unfold absI sgI
  by_cases h : n < 0
  · rw [if_pos h, if_neg (by omega)]
    omega
  · rw [if_neg h]
    by_cases h2 : n > 0
    · rw [if_pos h2]; omega
    · rw [if_neg h2]
      have : n = 0 := by omega
      subst this
      rfl
end
def pairD (c : List Int) : PyData := .tuple [.list (c.map keyD), .tuple (c.map .int)]
theorem ck_listL (a b : List Int) : PySem.W.dataLt (.list (a.map keyD)) (.list (b.map keyD)) = PySem.W.dataLt (ckD a) (ckD b) := by
  unfold ckD
  rw [PySem.W.dataLt_list, PySem.W.dataLt_tuple]
theorem key_eqv : ∀ a b : List Int, PyData.eqvAll (a.map keyD) (b.map keyD) = decide (a = b)
  | [], [] => by simp [PyData.eqvAll]
  | [], y :: ys => by simp [PyData.eqvAll]
  | x :: xs, [] => by simp [PyData.eqvAll]
  | x :: xs, y :: ys => by
    rw [List.map_cons, List.map_cons, PyData.eqvAll, key_eqv xs ys]
    have e : PyData.eqv (keyD x) (keyD y) = decide (x = y) := by
      by_cases h : x = y
      · subst h
        simp [keyD, PyData.eqv, PyData.eqvAll]
      · rw [decide_eq_false h]
        simp only [keyD, PyData.eqv, PyData.eqvAll, Bool.and_true]
        refine Bool.eq_false_iff.mpr fun z => h ?_
        rw [Bool.and_eq_true] at z
        exact key_inj (by simpa using z.1) (by simpa using z.2)
    rw [e]
    by_cases h : x = y <;> by_cases h2 : xs = ys <;> simp [h, h2]
theorem ints_alike : ∀ a b : List Int, PySem.W.alike (.tuple (a.map PyData.int)) (.tuple (b.map PyData.int)) = true := fun a b => by
  simp only [PySem.W.alike]
  exact PySem.W.alike_ints a b
theorem keysL_alike (a b : List Int) : PySem.W.alike (.list (a.map keyD)) (.list (b.map keyD)) = true := by
  have q := ckD_alike a b
  unfold ckD at q
  simp only [PySem.W.alike] at q ⊢
  exact q
theorem pair_lt (a b : List Int) : PySem.W.dataLt (pairD a) (pairD b) = PySem.W.dataLt (ckD a) (ckD b) := by
  unfold pairD
  rw [PySem.W.dataLt_pair (keysL_alike a b) (ints_alike a b), ck_listL]
  have e : PyData.eqv (.list (a.map keyD)) (.list (b.map keyD)) = decide (a = b) := by
    simp only [PyData.eqv]
    exact key_eqv a b
  rw [e, eqv_ints]
  by_cases h : a = b
  · subst h
    simp [lt_irr]
  · simp [h]
theorem pair_alike (a b : List Int) : PySem.W.alike (pairD a) (pairD b) = true := by
  unfold pairD
  simp only [PySem.W.alike, PySem.W.alikeAll]
  have q1 := keysL_alike a b
  have q2 := ints_alike a b
  simp only [PySem.W.alike] at q1 q2
  rw [q1, q2]
  rfl
theorem pair_depth (a : List Int) : (pairD a).depth ≤ 60 := by
  have h1 : (ckD a).depth ≤ 4 := by
    have aux : ∀ a : List Int, PyData.depthAll (a.map keyD) ≤ 2 := by
      intro a
      induction a with
      | nil => simp [PyData.depthAll]
      | cons x a ih =>
        rw [List.map_cons, PyData.depthAll]
        have h1 : (keyD x).depth ≤ 2 := by simp [keyD, PyData.depth, PyData.depthAll]
        omega
    unfold ckD
    simp only [PyData.depth]
    have := aux a
    omega
  unfold ckD at h1
  unfold pairD
  simp only [PyData.depth, PyData.depthAll, PySem.W.depth_ints] at h1 ⊢
  omega
theorem srt_pair (cs : List (List Int)) : srtBy pairD cs = srtBy ckD cs := srtBy_congr fun a _ b _ => pair_lt a b
end Ky

namespace Ky
open PySem PySem.Spec PyProof.Rows L2
local macro_rules | `(tactic| walk_at "rd") => `(tactic| repeat (first
  | with_reducible refine w_seq ?_
  | with_reducible refine w_asg ?_
  | with_reducible refine w_ret ?_
  | with_reducible refine w_drop ?_
  | with_reducible refine w_ifs ?_
  | ((with_reducible refine' w_var ?hh ?_); (case hh => exact rfl))
  | with_reducible refine w_c ?_
  | with_reducible refine w_op ?_
  | with_reducible refine w_un ?_
  | with_reducible refine w_I0 ?_
  | with_reducible refine w_U ?_
  | with_reducible refine w_nil ?_
  | with_reducible refine w_cons ?_
  | with_reducible refine w_call ?_
  | with_reducible refine w_cb ?_
  | with_reducible refine w_test ?_
  | with_reducible refine w_B ?_
  | with_reducible refine w_bl ?_
  | with_reducible refine w_and ?_
  | with_reducible refine w_or ?_
  | with_reducible refine w_not ?_
  | with_reducible refine w_ife ?_
  | with_reducible refine w_gRd ?_
  | with_reducible refine w_andV ?_
  | with_reducible refine w_orV ?_
  | with_reducible refine w_notV ?_
  | with_reducible refine w_chain ?_
  | with_reducible refine w_din ?_
  | with_reducible refine w_isi_ii ?_
  | with_reducible refine w_isi_ib ?_
  | with_reducible refine w_isi_it ?_
  | with_reducible refine w_isi_st ?_
  | ((with_reducible refine w_isi_tt ?h1 ?_); (case h1 => first | assumption | exact upd_same))
  | with_reducible refine if_t rfl ?_
  | with_reducible refine if_f rfl ?_
  | with_reducible refine w_tup ?_
  | with_reducible refine w_lst ?_
  | with_reducible refine w_next ?_
  | with_reducible refine w_bm ?_
  | with_reducible refine w_sl ?_
  | with_reducible refine w_part ?_
  | with_reducible refine w_nop ?_
  | with_reducible refine w_isI ?_
  | with_reducible refine w_yes ?_
  | with_reducible refine w_gn ?_
  | with_reducible refine w_gsub ?_
  | ((with_reducible refine' w_setL ?h1 ?h2 ?_); (case h1 => first | assumption | exact upd_same); (case h2 => exact rfl))
  | with_reducible refine w_asgG ?_
  | with_reducible refine w_m1 ?_
  | with_reducible refine w_isS ?_
  | with_reducible refine w_tyS ?_
  | ((with_reducible refine' w_tyL ?h1 ?_); (case h1 => first | assumption | exact upd_same))
  | ((with_reducible refine' w_ixT ?h1 ?h2 ?_); (case h1 => first | assumption | exact upd_same); (case h2 => exact rfl))
  | ((with_reducible refine' w_ixL ?h1 ?h2 ?_); (case h1 => first | assumption | exact upd_same); (case h2 => exact rfl))
  | ((with_reducible refine w_eq ?h1 ?_); (case h1 => exact rfl))
  | ((with_reducible refine w_ne ?h1 ?_); (case h1 => exact rfl))
  | dsimp only [List.set_cons_zero, List.set_cons_succ, List.append_nil, List.cons_append, List.nil_append, cxOf]))

section
variable {K : PySem.W.Frag} {a : Addr} {σ : L2.St} {H : Hp} {Q : VK} {i0 j : Nat}
/-- [key(x) for x in e], e a tuple of numbers -/
theorem rd_keys {ls : List Int} (hσ : σ[i0]? = some (some (.ref a))) (hj : j < σ.length) (ha : H a = some (.tup (ls.map V.int))) (hz : ls.length < sizeLine)
    (k : ∀ D (qs : List Addr) H', Kept H H' → H D = none → H' D = some (.lst (qs.map V.ref)) → qs.length = ls.length → (∀ (i : Nat) (q : Addr) (n : Int), qs[i]? = some q → ls[i]? = some n → H' q = some (.tup (keyV n))) → Q (.ref D) H') :
    tLc (iTup K (tVar i0)) (gName j) tYes (tCall spKey [] E0 (tCons (tVar j) tNil)) [j] σ H Q := by
  refine ⟨_, hσ, a, rfl, ⟨_, SqT.of ha⟩, fun D hD => ?_⟩
  refine c_tup (xs := ls.map V.int) (fun i H1 => ∃ qs : List Addr, H1 D = some (.lst (qs.map V.ref)) ∧ Kept H H1 ∧ qs.length = i ∧ ∀ (j : Nat) (q : Addr) (n : Int), qs[j]? = some q → ls[j]? = some n → H1 q = some (.tup (keyV n))) ⟨[], upd_same, Kept.new hD, rfl, fun j q n h => by simp at h⟩ (fun i H1 _ h => by
    obtain ⟨_, _, k1, _⟩ := h
    exact SqT.of (k1.tup ha)) (fun i x H1 hx h => ?_) fun H1 h => ?_
  · obtain ⟨qs, h1, h2, h3, h4⟩ := h
    obtain ⟨n, rfl, hn⟩ := map_int hx
    have hi : i < ls.length := (List.getElem?_eq_some_iff.mp hn).1
    refine ⟨wipe_one, w_yes (if_t rfl (w_call (w_cons ⟨_, var_set hj, w_nil ?_⟩)))⟩
    refine ⟨n, rfl, fun p hp => ?_⟩
    have kN := Kept.new (o := .tup (keyV n)) hp
    have hD4 := kN.lst h1
    refine ⟨qs.map V.ref, hD4, by rw [List.length_map, h3]; omega, qs ++ [p], by rw [List.map_append]; exact upd_same, Kept.mut (h2.trans kN) hD, by rw [List.length_append, h3] <;> rfl, fun j q m hq hm => ?_⟩
    by_cases hj : j < qs.length
    · rw [List.getElem?_append_left hj] at hq
      exact tup_upd hD4 (kN.tup (h4 j q m hq hm))
    · have hj2 : j < (qs ++ [p]).length := (List.getElem?_eq_some_iff.mp hq).1
      rw [List.length_append] at hj2
      have ej : j = qs.length := by
        have : j < qs.length + 1 := hj2
        omega
      subst ej
      have eq : q = p := by simpa using hq.symm
      subst eq
      rw [h3, hn] at hm
      cases hm
      exact tup_upd hD4 upd_same
  · obtain ⟨qs, h1, h2, h3, h4⟩ := h
    rw [List.length_map] at h3
    exact k D qs H1 h2 hD h1 h3 h4
end
/-- a pair (list of keys, clause) at t -/
def PairAt (H : Hp) (D b t : Addr) (c : List Int) : Prop := ∃ (q : Addr) (qs : List Addr), q ≠ D ∧ H t = some (.tup [.ref q, .ref b]) ∧ H q = some (.lst (qs.map V.ref)) ∧ qs.length = c.length ∧ (∀ (i : Nat) (r : Addr) (n : Int), qs[i]? = some r → c[i]? = some n → H r = some (.tup (keyV n))) ∧ H b = some (.tup (c.map V.int))
theorem PairAt.kept {H H' : Hp} {D b t : Addr} {c : List Int} (h : PairAt H D b t c) (k : Kept H H') : PairAt H' D b t c := by
  obtain ⟨q, qs, n, h1, h2, h3, h4, h5⟩ := h
  exact ⟨q, qs, n, k.tup h1, k.lst h2, h3, fun i r m a b => k.tup (h4 i r m a b), k.tup h5⟩
theorem PairAt.updL {H : Hp} {D b t : Addr} {c : List Int} {xs : List V} {o : HO} (h : PairAt H D b t c) (hD : H D = some (.lst xs)) : PairAt (upd H D o) D b t c := by
  obtain ⟨q, qs, n, h1, h2, h3, h4, h5⟩ := h
  exact ⟨q, qs, n, tup_upd hD h1, by rw [upd_ne n]; exact h2, h3, fun i r m a b => tup_upd hD (h4 i r m a b), tup_upd hD h5⟩
theorem PairAt.dp {K : PySem.W.Frag} {H : Hp} {D b t : Addr} {c : List Int} (h : PairAt H D b t c) : Dp K H (.ref t) (pairD c) := by
  obtain ⟨q, qs, n, h1, h2, h3, h4, h5⟩ := h
  refine .tup (SqT.of h1) (.cons (.lst (SqL.of h2) (dpAll_of (by rw [List.length_map, List.length_map, h3]) fun i x d hx hd => ?_)) (.cons (dp_ints h5) .nil))
  rw [List.getElem?_map] at hx hd
  obtain ⟨r, hr, rfl⟩ := Option.map_eq_some_iff.mp hx
  obtain ⟨m, hm, rfl⟩ := Option.map_eq_some_iff.mp hd
  exact dp_key (h4 i r m hr hm)
def spLSorted : Sp := fun vs H Q _ => ∃ (a : Addr) (bs : List Addr) (cs : List (List Int)), vs = [.ref a] ∧ H a = some (.lst (bs.map V.ref)) ∧ ClsAt H bs cs ∧ cs.length ≤ 1000 ∧ (∀ c ∈ cs, c.length ≤ 1000) ∧
  ∀ p H' bs', Kept H H' → H p = none → H' p = some (.lst (bs'.map V.ref)) → ClsAt H' bs' (srtBy ckD cs) → Q (.ref p) H'
section
variable {P : Program} {w : World} {K : PySem.W.Frag} {mg : Str → Option Value} {base : Heap} {uG : Value} {f : Addr} {fd : FuncData}
theorem asc_srtN {ds : List (List Int)} (h0 : ds.Nodup) : ascC (srtBy ckD ds) := by
  have h1 := srtBy_pair ckD ds
  have h2 : (srtBy ckD ds).Nodup := (srtBy_perm ckD ds).nodup_iff.mpr h0
  refine List.pairwise_iff_getElem.mpr fun i j hi hj hij => ?_
  have a := List.pairwise_iff_getElem.mp h1 i j hi hj hij
  have b := List.pairwise_iff_getElem.mp h2 i j hi hj hij
  have a' : PySem.W.dataLt (ckD (srtBy ckD ds)[j]) (ckD (srtBy ckD ds)[i]) = false := by
    have z : (!PySem.W.dataLt (ckD (srtBy ckD ds)[j]) (ckD (srtBy ckD ds)[i])) = true := a
    cases w : PySem.W.dataLt (ckD (srtBy ckD ds)[j]) (ckD (srtBy ckD ds)[i]) with
    | false => rfl
    | true => rw [w] at z; cases z
  exact lt_or (Ne.symm b) a'
def rowD (c : List Int) : PyData := .tuple (c.map .int)
theorem canLay_rows : ∀ ds : List (List Int), PyData.canLayAll0 (ds.map rowD) = true
  | [] => by simp [PyData.canLayAll0]
  | x :: xs => by
    rw [List.map_cons, PyData.canLayAll0, canLay_rows xs]
    simp only [rowD, PyData.canLay0, canLay_ints, Bool.and_self]
theorem depth_rows : ∀ ds : List (List Int), PyData.depthAll (ds.map rowD) ≤ 2
  | [] => by simp [PyData.depthAll]
  | x :: xs => by
    rw [List.map_cons, PyData.depthAll]
    have h1 := depth_rows xs
    have h2 : (rowD x).depth ≤ 2 := by
      simp only [rowD, PyData.depth, PySem.W.depth_ints]
      omega
    omega
theorem shL_rows (ds : List (List Int)) : SeqAt.shaped (.list (ds.map rowD)) = true := by
  have h1 := depth_rows ds
  have h2 : PyData.depth (.list (ds.map rowD)) ≤ 64 := by
    simp only [PyData.depth]
    omega
  show (PyData.canLay0 (.list (ds.map rowD)) && decide (PyData.depth (.list (ds.map rowD)) ≤ 64)) = true
  rw [Bool.and_eq_true]
  exact ⟨by simp only [PyData.canLay0]; exact canLay_rows ds, decide_eq_true h2⟩
theorem any_rows (s : List Int) (ds : List (List Int)) : ((ds.map rowD).any fun z => PyData.eqv z (.tuple (s.map PyData.int))) = decide (s ∈ ds) := by
  rw [List.any_map, Bool.eq_iff_iff, List.any_eq_true, decide_eq_true_eq]
  constructor
  · rintro ⟨y, hy, e⟩
    have e : PyData.eqv (.tuple (y.map PyData.int)) (.tuple (s.map PyData.int)) = true := e
    rw [eqv_ints, decide_eq_true_eq] at e
    rw [← e]
    exact hy
  · intro h
    refine ⟨s, h, ?_⟩
    show PyData.eqv (.tuple (s.map PyData.int)) (.tuple (s.map PyData.int)) = true
    rw [eqv_ints]
    exact decide_eq_true rfl
theorem w_ninL {K : PySem.W.Frag} {H : Hp} {Q : VK} {D s : Addr} {ps : List Addr} {ds : List (List Int)} {sh : List Int} (hD : H D = some (.lst (ps.map V.ref))) (hp : ClsAt H ps ds) (hs : H s = some (.tup (sh.map V.int))) (q : Q (.bl (decide (sh ∉ ds))) H) : rNotInD K (.ref s) (.ref D) H Q := by
  refine ⟨_, ds.map rowD, dp_ints hs, .lst (SqL.of hD) (dpAll_of (by rw [List.length_map, List.length_map, hp.1]) fun i x d hx hd => ?_), shT_ints sh, shL_rows ds, by rw [any_rows]; rw [decide_not] at q; exact q⟩
  rw [List.getElem?_map] at hx hd
  obtain ⟨b, hb, rfl⟩ := Option.map_eq_some_iff.mp hx
  obtain ⟨c, hc, rfl⟩ := Option.map_eq_some_iff.mp hd
  exact dp_ints (hp.2 i b c hb hc)
def spLGiven : Sp := fun vs H Q _ => ∃ (a : Addr) (bs : List Addr) (cs : List (List Int)) (l : Int), vs = [.ref a, .int l] ∧ H a = some (.tup (bs.map V.ref)) ∧ ClsAt H bs cs ∧ cs.length ≤ 400 ∧ (∀ c ∈ cs, c.length ≤ 400) ∧
  ∀ p H' bs', Kept H H' → H p = none → H' p = some (.tup (bs'.map V.ref)) → ClsAt H' bs' (underF cs l) → Q (.ref p) H'
end
end Ky

namespace Ky
open PySem PySem.Spec PyProof.Rows L2
local macro_rules | `(tactic| walk_at "rd") => `(tactic| repeat (first
  | with_reducible refine w_seq ?_
  | with_reducible refine w_asg ?_
  | with_reducible refine w_ret ?_
  | with_reducible refine w_drop ?_
  | with_reducible refine w_ifs ?_
  | ((with_reducible refine' w_var ?hh ?_); (case hh => exact rfl))
  | with_reducible refine w_c ?_
  | with_reducible refine w_op ?_
  | with_reducible refine w_un ?_
  | with_reducible refine w_I0 ?_
  | with_reducible refine w_U ?_
  | with_reducible refine w_nil ?_
  | with_reducible refine w_cons ?_
  | with_reducible refine w_call ?_
  | with_reducible refine w_cb ?_
  | with_reducible refine w_test ?_
  | with_reducible refine w_B ?_
  | with_reducible refine w_bl ?_
  | with_reducible refine w_and ?_
  | with_reducible refine w_or ?_
  | with_reducible refine w_not ?_
  | with_reducible refine w_ife ?_
  | with_reducible refine w_gRd ?_
  | with_reducible refine w_andV ?_
  | with_reducible refine w_orV ?_
  | with_reducible refine w_notV ?_
  | with_reducible refine w_chain ?_
  | with_reducible refine w_din ?_
  | with_reducible refine w_isi_ii ?_
  | with_reducible refine w_isi_ib ?_
  | with_reducible refine w_isi_it ?_
  | with_reducible refine w_isi_st ?_
  | ((with_reducible refine w_isi_tt ?h1 ?_); (case h1 => first | assumption | exact upd_same))
  | with_reducible refine if_t rfl ?_
  | with_reducible refine if_f rfl ?_
  | with_reducible refine w_tup ?_
  | with_reducible refine w_lst ?_
  | with_reducible refine w_next ?_
  | with_reducible refine w_bm ?_
  | with_reducible refine w_sl ?_
  | with_reducible refine w_part ?_
  | with_reducible refine w_nop ?_
  | with_reducible refine w_isI ?_
  | with_reducible refine w_yes ?_
  | with_reducible refine w_gn ?_
  | with_reducible refine w_gsub ?_
  | ((with_reducible refine' w_setL ?h1 ?h2 ?_); (case h1 => first | assumption | exact upd_same); (case h2 => exact rfl))
  | with_reducible refine w_asgG ?_
  | with_reducible refine w_m1 ?_
  | with_reducible refine w_isS ?_
  | with_reducible refine w_tyS ?_
  | ((with_reducible refine' w_tyL ?h1 ?_); (case h1 => first | assumption | exact upd_same))
  | ((with_reducible refine' w_ixT ?h1 ?h2 ?_); (case h1 => first | assumption | exact upd_same); (case h2 => exact rfl))
  | ((with_reducible refine' w_ixL ?h1 ?h2 ?_); (case h1 => first | assumption | exact upd_same); (case h2 => exact rfl))
  | ((with_reducible refine w_eq ?h1 ?_); (case h1 => exact rfl))
  | ((with_reducible refine w_ne ?h1 ?_); (case h1 => exact rfl))
  | dsimp only [List.set_cons_zero, List.set_cons_succ, List.append_nil, List.cons_append, List.nil_append, cxOf]))

section
variable {P : Program} {w : World} {K : PySem.W.Frag} {mg : Str → Option Value} {base : Heap} {uG : Value} {f : Addr} {fd : FuncData}
theorem shLi (ls : List Int) : SeqAt.shaped (.list (ls.map PyData.int)) = true := by
  unfold SeqAt.shaped
  simp only [PyData.canLay0, canLay_ints, Bool.true_and, PyData.depth, PySem.W.depth_ints]
  rfl
def spLKeeps : Sp := fun vs H Q _ => ∃ (a b : Addr) (bs : List Addr) (cs : List (List Int)) (fs : List Int), vs = [.ref a, .ref b] ∧ H a = some (.tup (bs.map V.ref)) ∧ ClsAt H bs cs ∧ (∀ c ∈ cs, c.length ≤ 1000) ∧ H b = some (.tup (fs.map V.int)) ∧ ∀ H', Kept H H' → Q (.bl (cs.all fun c => c.any fun x => decide (x ∈ fs))) H'
def spLLits : Sp := fun vs H Q _ => ∃ (d c : Addr), vs = [.ref d] ∧ DrwC d c H ∧ ∀ (p : Addr) H' (ls : List Int), H p = none → KeptC d c H H' → H' p = some (.lst (ls.map V.int)) → ls.length ≤ 4 → (∀ n ∈ ls, isLit n = true) → Q (.ref p) H'
end
end Ky

namespace Ky
open PySem PySem.Spec PyProof.Rows L2
/-! ### mathematics for the law -/
theorem range_all {α : Type} (d : α) (p : α → Bool) (xs : List α) : ((List.range xs.length).all fun i => p (xs.getD i d)) = xs.all p := by
  rw [Bool.eq_iff_iff, List.all_eq_true, List.all_eq_true]
  constructor
  · intro h x hx
    obtain ⟨i, hi, e⟩ := List.getElem_of_mem hx
    have q := h i (List.mem_range.mpr hi)
    rw [List.getD_eq_getElem?_getD, List.getElem?_eq_getElem hi, e] at q
    exact q
  · intro h i hi
    have hi := List.mem_range.mp hi
    rw [List.getD_eq_getElem?_getD, List.getElem?_eq_getElem hi]
    exact h _ (List.getElem_mem hi)
theorem range_any {α : Type} (d : α) (p : α → Bool) (xs : List α) : ((List.range xs.length).any fun i => p (xs.getD i d)) = xs.any p := by
  have h := range_all d (fun x => !p x) xs
  rw [← Bool.not_inj_iff, List.not_any_eq_all_not, List.not_any_eq_all_not]
  exact h
theorem keep1_any (fs c : List Int) : keep1 fs c = c.any fun x => decide (x ∈ fs) := by
  unfold keep1
  rw [List.length_map]
  exact range_any 0 (fun x => decide (x ∈ fs)) c
theorem keepsF_all (cs : List (List Int)) (fs : List Int) : keepsF cs fs = cs.all fun c => c.any fun x => decide (x ∈ fs) := by
  unfold keepsF
  rw [range_all [] (keep1 fs) cs]
  congr 1
  funext c
  exact keep1_any fs c
theorem ascD_pair {ds : List PyData} (h : ds.Pairwise fun a b => PySem.W.dataLt a b = true) : ascD ds = true := by
  unfold ascD
  refine List.all_eq_true.mpr fun j hj => ?_
  have hj := List.mem_range.mp hj
  have h1 : j < ds.length := by omega
  have h2 : j + 1 < ds.length := by omega
  rw [List.getD_eq_getElem?_getD, List.getElem?_eq_getElem h1, List.getD_eq_getElem?_getD, List.getElem?_eq_getElem h2]
  exact List.pairwise_iff_getElem.mp h j (j + 1) h1 h2 (by omega)
theorem ascD_not {ds : List PyData} {j : Nat} (h2 : j + 1 < ds.length) (h : PySem.W.dataLt (ds.getD j .none) (ds.getD (j + 1) .none) = false) : ascD ds = false := by
  unfold ascD
  exact List.all_eq_false.mpr ⟨j, List.mem_range.mpr (by omega), by rw [h]; exact Bool.false_ne_true⟩
theorem isClauseF_all (ls : List Int) : isClauseF ls = (ls.all isLit && ascD (ls.map fun n => .int (absI n))) := by
  unfold isClauseF
  rw [List.length_map, range_all 0 isLit ls]
theorem isResidueF_all (cs : List (List Int)) : isResidueF cs = (cs.all isClauseF && ascD (cs.map ckD)) := by
  unfold isResidueF
  rw [range_all [] isClauseF cs]
/-- a residue that ascends, of clauses, is one -/
theorem isResidueF_asc {cs : List (List Int)} (h : ascC cs) (hc : ∀ c ∈ cs, isClauseF c = true) : isResidueF cs = true := by
  rw [isResidueF_all, List.all_eq_true.mpr hc, Bool.true_and]
  exact ascD_pair (List.pairwise_map.mpr h)
/-- + 1000 is no clause -/
theorem isClauseF_big (ls : List Int) : isClauseF (ls ++ [1000]) = false := by
  rw [isClauseF_all, List.all_append]
  have e : List.all [(1000 : Int)] isLit = false := by decide
  rw [e, Bool.and_false, Bool.false_and]
theorem bothS_no {ls : List Int} (h : bothS ls = false) : noBoth ls := by
  unfold bothS at h
  rw [List.length_map, range_any 0 (fun x => decide (-x ∈ ls)) ls, List.any_eq_false] at h
  intro l hl hl2
  exact h l hl (decide_eq_true hl2)
theorem keyD_lt (a b : Int) : PySem.W.dataLt (keyD a) (keyD b) = if absI a = absI b then decide (sgI a < sgI b) else decide (absI a < absI b) := by
  unfold keyD
  rw [PySem.W.dataLt_pair (by simp [PySem.W.alike]) (by simp [PySem.W.alike]), PySem.W.dataLt_int, PySem.W.dataLt_int]
  simp only [PyData.eqv, beq_iff_eq]
  by_cases h : absI a = absI b
  · rw [if_pos h, if_pos h]
    by_cases h2 : sgI a = sgI b
    · rw [if_pos h2, h2]
      simp
    · rw [if_neg h2]
  · rw [if_neg h, if_neg h]
theorem absI_eq {a b : Int} (h : absI a = absI b) : a = b ∨ a = -b := by
  unfold absI at h
  split at h <;> split at h <;> omega
/-- sorted by key, without repeats and without both signs: it ascends in size -/
theorem clause_asc {ls : List Int} (hn : ls.Nodup) (hb : noBoth ls) : (srtBy keyD ls).Pairwise fun a b => absI a < absI b := by
  have h1 := srtBy_pair keyD ls
  have h2 : (srtBy keyD ls).Nodup := (srtBy_perm keyD ls).nodup_iff.mpr hn
  refine List.pairwise_iff_getElem.mpr fun i j hi hj hij => ?_
  have a := List.pairwise_iff_getElem.mp h1 i j hi hj hij
  have b := List.pairwise_iff_getElem.mp h2 i j hi hj hij
  have m1 : (srtBy keyD ls)[i] ∈ ls := mem_srtBy.mp (List.getElem_mem hi)
  have m2 : (srtBy keyD ls)[j] ∈ ls := mem_srtBy.mp (List.getElem_mem hj)
  generalize (srtBy keyD ls)[i] = x at a b m1 ⊢
  generalize (srtBy keyD ls)[j] = y at a b m2 ⊢
  have a : (!PySem.W.dataLt (keyD y) (keyD x)) = true := a
  rw [keyD_lt] at a
  have ne : absI y ≠ absI x := fun e => by
    rcases absI_eq e with e | e
    · exact b e.symm
    · exact hb x m1 (e ▸ m2)
  rw [if_neg ne] at a
  have a' : ¬ absI y < absI x := by simpa using a
  omega
theorem abs_asc {ls : List Int} (h : ls.Pairwise fun a b => absI a < absI b) : ascD (ls.map fun n => .int (absI n)) = true :=
  ascD_pair (List.pairwise_map.mpr (h.imp fun {a b} q => by rw [PySem.W.dataLt_int, decide_eq_true q]))
/-- what the law makes of literals is a clause -/
theorem isClauseF_srt {ls : List Int} (hn : ls.Nodup) (hb : noBoth ls) (hl : ∀ n ∈ ls, isLit n = true) : isClauseF (srtBy keyD ls) = true := by
  rw [isClauseF_all, abs_asc (clause_asc hn hb), Bool.and_true]
  exact List.all_eq_true.mpr fun n hn => hl n (mem_srtBy.mp hn)
/-- and backward it is none, if it has two -/
theorem isClauseF_rev {ls : List Int} (h : ls.Pairwise fun a b => absI a < absI b) (h2 : 2 ≤ ls.length) : isClauseF ls.reverse = false := by
  rw [isClauseF_all]
  have q : ascD (ls.reverse.map fun n => .int (absI n)) = false := by
    refine ascD_not (j := 0) (by rw [List.length_map, List.length_reverse]; omega) ?_
    have l1 : 0 < (ls.reverse.map fun n => PyData.int (absI n)).length := by rw [List.length_map, List.length_reverse]; omega
    have l2 : 0 + 1 < (ls.reverse.map fun n => PyData.int (absI n)).length := by rw [List.length_map, List.length_reverse]; omega
    rw [List.getD_eq_getElem?_getD, List.getElem?_eq_getElem l1, List.getD_eq_getElem?_getD, List.getElem?_eq_getElem l2]
    simp only [Option.getD_some, List.getElem_map, List.getElem_reverse, PySem.W.dataLt_int]
    have q := List.pairwise_iff_getElem.mp h (ls.length - 1 - 1) (ls.length - 1 - 0) (by omega) (by omega) (by omega)
    refine decide_eq_false ?_
    have e : ls.length - 1 - (0 + 1) = ls.length - 1 - 1 := by omega
    simp only [e]
    omega
  rw [q, Bool.and_false]
theorem isResidueF_end {ys : List (List Int)} {u v : List Int} (h : PySem.W.dataLt (ckD u) (ckD v) = false) : isResidueF (ys ++ [u, v]) = false := by
  rw [isResidueF_all]
  have q : ascD ((ys ++ [u, v]).map ckD) = false := by
    have e : (ys ++ [u, v]).map ckD = ys.map ckD ++ [ckD u, ckD v] := by rw [List.map_append] <;> rfl
    rw [e]
    refine ascD_not (j := (ys.map ckD).length) (by rw [List.length_append]; simp) ?_
    rw [List.getD_eq_getElem?_getD, List.getD_eq_getElem?_getD, List.getElem?_append_right (Nat.le_refl _), List.getElem?_append_right (Nat.le_succ _), Nat.sub_self, Nat.succ_sub (Nat.le_refl _), Nat.sub_self]
    exact h
  rw [q, Bool.and_false]
theorem last_of {α : Type} : ∀ {xs : List α}, 0 < xs.length → ∃ ys u, xs = ys ++ [u]
  | [], h => by simp at h
  | x :: xs, _ => by
    cases xs with
    | nil => exact ⟨[], x, rfl⟩
    | cons y t =>
      obtain ⟨ys, u, e⟩ := last_of (xs := y :: t) (by simp)
      exact ⟨x :: ys, u, by rw [e] <;> rfl⟩
/-- the last doubled -/
theorem isResidueF_dbl {cs : List (List Int)} (h : 0 < cs.length) : isResidueF (cs ++ cs.drop (cs.length - 1)) = false := by
  obtain ⟨ys, u, rfl⟩ := last_of h
  have e : (ys ++ [u]).drop ((ys ++ [u]).length - 1) = [u] := by
    rw [List.length_append]
    show List.drop (ys.length + 1 - 1) _ = _
    rw [Nat.add_sub_cancel, List.drop_left]
  rw [e, List.append_assoc]
  exact isResidueF_end (lt_irr _)
/-- the first at the end -/
theorem isResidueF_rot {cs : List (List Int)} (ha : ascC cs) (h : 1 < cs.length) : isResidueF (cs.drop 1 ++ cs.take 1) = false := by
  cases cs with
  | nil => simp at h
  | cons a t =>
    obtain ⟨ys, u, rfl⟩ := last_of (xs := t) (by simpa using h)
    obtain ⟨p1, _⟩ := List.pairwise_cons.mp ha
    have q := p1 u (List.mem_append_right _ List.mem_cons_self)
    show isResidueF ((ys ++ [u]) ++ [a]) = false
    rw [List.append_assoc]
    exact isResidueF_end (dataLt_asym q)
/-- two lists that ascend with the same members are one -/
theorem intAsc_unique : ∀ {xs ys : List Int}, xs.Pairwise (· < ·) → ys.Pairwise (· < ·) → (∀ d, d ∈ xs ↔ d ∈ ys) → xs = ys
  | [], [], _, _, _ => rfl
  | [], y :: ys, _, _, h => absurd ((h y).mpr List.mem_cons_self) (by simp)
  | x :: xs, [], _, _, h => absurd ((h x).mp List.mem_cons_self) (by simp)
  | x :: xs, y :: ys, hx, hy, h => by
    obtain ⟨x1, x2⟩ := List.pairwise_cons.mp hx
    obtain ⟨y1, y2⟩ := List.pairwise_cons.mp hy
    have e : x = y := by
      rcases List.mem_cons.mp ((h x).mp List.mem_cons_self) with e | e
      · exact e
      · rcases List.mem_cons.mp ((h y).mpr List.mem_cons_self) with e2 | e2
        · exact e2.symm
        · have a := y1 x e
          have b := x1 y e2
          omega
    subst e
    have nx : x ∉ xs := fun z => by
      have := x1 x z
      omega
    have ny : x ∉ ys := fun z => by
      have := y1 x z
      omega
    rw [intAsc_unique x2 y2 fun d => ⟨fun z => ((List.mem_cons.mp ((h d).mp (List.mem_cons_of_mem _ z))).resolve_left fun e => nx (e ▸ z)), fun z => ((List.mem_cons.mp ((h d).mpr (List.mem_cons_of_mem _ z))).resolve_left fun e => ny (e ▸ z))⟩]
theorem noBoth_srt {ls : List Int} (h : noBoth ls) : noBoth (srtBy keyD ls) := fun l h1 h2 => h l (mem_srtBy.mp h1) (mem_srtBy.mp h2)
theorem small3_res {cs : List (List Int)} (hl : cs.length ≤ 400) (hc : ∀ c ∈ cs, c.length ≤ 400 ∧ noBoth c) : Small3 (residueF cs) := by
  refine ⟨asc_srt cs, ?_, fun c h => hc c (mem_residueF.mp h)⟩
  unfold residueF
  rw [(srtBy_perm _ _).length_eq]
  exact Nat.le_trans (len_dd _) hl
theorem isResidueF_res {cs : List (List Int)} (h : ∀ c ∈ cs, isClauseF c = true) : isResidueF (residueF cs) = true := isResidueF_asc (asc_srt cs) fun c hc => h c (mem_residueF.mp hc)
/-- a list's own without repeats, in any order, sorted: the residue -/
theorem srt_once {cs ds : List (List Int)} (hn : ds.Nodup) (hm : ∀ d, d ∈ ds ↔ d ∈ cs) : srtBy ckD ds = residueF cs := asc_is (asc_srtN hn) fun d => by rw [mem_srtBy, hm]
/-- one more of `[xs[j] for j .. if xs[j] not in xs[:j]]` -/
theorem once_step {α : Type} [DecidableEq α] {xs ds : List α} {j : Nat} {x : α} (hx : xs[j]? = some x) (hn : ds.Nodup) (hm : ∀ d, d ∈ ds ↔ d ∈ xs.take j) :
    (x ∉ xs.take j → (ds ++ [x]).Nodup ∧ ∀ d, d ∈ ds ++ [x] ↔ d ∈ xs.take (j + 1)) ∧ (x ∈ xs.take j → ∀ d, d ∈ ds ↔ d ∈ xs.take (j + 1)) := by
  have et : xs.take (j + 1) = xs.take j ++ [x] := by rw [List.take_add_one, hx]; rfl
  refine ⟨fun h => ⟨?_, fun d => ?_⟩, fun h d => ?_⟩
  · exact List.nodup_append.mpr ⟨hn, by simp, fun y hy z hz => by rw [List.mem_singleton.mp hz]; exact fun e => h ((hm x).mp (e ▸ hy))⟩
  · rw [et, List.mem_append, List.mem_append, hm]
  · rw [et, List.mem_append, hm, List.mem_singleton]
    exact ⟨.inl, fun h2 => h2.elim id fun e => e ▸ h⟩
/-- two lists that ascend by size with the same members are one -/
theorem absAsc_unique {m : Int → Int} : ∀ {xs ys : List Int}, (xs.Pairwise fun a b => m a < m b) → (ys.Pairwise fun a b => m a < m b) → (∀ d, d ∈ xs ↔ d ∈ ys) → xs = ys
  | [], [], _, _, _ => rfl
  | [], y :: ys, _, _, h => absurd ((h y).mpr List.mem_cons_self) (by simp)
  | x :: xs, [], _, _, h => absurd ((h x).mp List.mem_cons_self) (by simp)
  | x :: xs, y :: ys, hx, hy, h => by
    obtain ⟨x1, x2⟩ := List.pairwise_cons.mp hx
    obtain ⟨y1, y2⟩ := List.pairwise_cons.mp hy
    have e : x = y := by
      rcases List.mem_cons.mp ((h x).mp List.mem_cons_self) with e | e
      · exact e
      · rcases List.mem_cons.mp ((h y).mpr List.mem_cons_self) with e2 | e2
        · exact e2.symm
        · have a := y1 x e
          have b := x1 y e2
          omega
    subst e
    have nx : x ∉ xs := fun z => by
      have := x1 x z
      omega
    have ny : x ∉ ys := fun z => by
      have := y1 x z
      omega
    rw [absAsc_unique x2 y2 fun d => ⟨fun z => ((List.mem_cons.mp ((h d).mp (List.mem_cons_of_mem _ z))).resolve_left fun e => nx (e ▸ z)), fun z => ((List.mem_cons.mp ((h d).mpr (List.mem_cons_of_mem _ z))).resolve_left fun e => ny (e ▸ z))⟩]
/-- the clause of literals, from any list of them without repeats -/
theorem clauseF_once {ls ds : List Int} (hb : noBoth ls) (hn : ds.Nodup) (hm : ∀ d, d ∈ ds ↔ d ∈ ls) : srtBy keyD ds = clauseF ls := by
  unfold clauseF
  have hb1 : noBoth ds := fun l h1 h2 => hb l ((hm l).mp h1) ((hm _).mp h2)
  have hb2 : noBoth (dd ls) := fun l h1 h2 => hb l (mem_dd.mp h1) (mem_dd.mp h2)
  exact absAsc_unique (m := absI) (clause_asc hn hb1) (clause_asc (nodup_dd ls) hb2) fun d => by rw [mem_srtBy, mem_srtBy, mem_dd, hm]
end Ky

namespace Ky
open PySem PySem.Spec PyProof.Rows L2
/-! ### steps for the law's walk -/
theorem c_rangeU {lo : Int} {n : Nat} {Body : V → Hp → (Hp → Prop) → Prop} {Qd : Hp → Prop} {H0 : Hp} (Pv : Nat → Hp → Prop) (h0 : Pv 0 H0) (step : ∀ i H, i < n → Pv i H → Body (.int (lo + i)) H (Pv (i + 1))) (fin : ∀ H, Pv n H → Qd H) :
    ∃ W : Nat → Nat → Hp → Prop, (∃ m, W 0 m H0) ∧ ∀ i m H, W i m H → ((Itr lo n).stop i H ∧ Qd H) ∨ ((Itr lo n).go i H ∧ ∃ Nx : Hp → Prop, (∀ H', Nx H' → ∃ m', m' < m ∧ W (i + 1) m' H') ∧ ∀ x H', (Itr lo n).yld i H x H' → Body x H' Nx) :=
  c_walk (xv := fun i => .int (lo + i)) Pv h0 (fun i H h _ => h) (fun i H x H' _ _ h => h) (fun H _ => Nat.le_refl n) step fin
theorem cut_to (xs : List V) (j : Nat) (h : j ≤ xs.length) : cutV xs none (some (j : Int)) = xs.take j := by
  unfold cutV
  rw [HT.sIx_none, HT.sIx_nat, Nat.min_eq_left h, Nat.sub_zero]
  rfl
theorem cut_of (xs : List V) (j : Nat) (h : j ≤ xs.length) : cutV xs (some (j : Int)) none = xs.drop j := by
  unfold cutV
  rw [HT.sIx_none, HT.sIx_nat, Nat.min_eq_left h]
  exact List.take_of_length_le (by rw [List.length_drop]; exact Nat.le_refl _)
theorem any_ints (n : Int) (ls : List Int) : ((ls.map PyData.int).any fun z => PyData.eqv z (.int n)) = decide (n ∈ ls) := by
  rw [List.any_map, Bool.eq_iff_iff, List.any_eq_true, decide_eq_true_eq]
  constructor
  · rintro ⟨y, hy, e⟩
    have e : PyData.eqv (.int y) (.int n) = true := e
    have e : y = n := by simpa [PyData.eqv] using e
    rw [← e]
    exact hy
  · intro h
    refine ⟨n, h, ?_⟩
    show PyData.eqv (.int n) (.int n) = true
    simp [PyData.eqv]
section
variable {K : PySem.W.Frag} {H : Hp} {Q : VK} {D s a b : Addr} {n : Int} {xs ys : List Int}
theorem dl_ints (h : H b = some (.lst (xs.map V.int))) : Dp K H (.ref b) (.list (xs.map PyData.int)) := .lst (SqL.of h) (dpAll_ints xs)
theorem sh_int (n : Int) : SeqAt.shaped (.int n) = true := by
  unfold SeqAt.shaped
  simp only [PyData.canLay0, PyData.depth, Bool.true_and]
  rfl
theorem sh_none : SeqAt.shaped .none = true := by
  unfold SeqAt.shaped
  simp only [PyData.canLay0, PyData.depth, Bool.true_and]
  rfl
theorem w_ninLI (hD : H D = some (.lst (xs.map V.int))) (q : Q (.bl (decide (n ∉ xs))) H) : rNotInD K (.int n) (.ref D) H Q :=
  ⟨_, _, .int n, dl_ints hD, sh_int n, shLi xs, by rw [any_ints]; rw [decide_not] at q; exact q⟩
theorem w_neLL (ha : H a = some (.lst (xs.map V.int))) (hb : H b = some (.lst (ys.map V.int))) (q : Q (.bl (!decide (xs = ys))) H) : rNeD K (.ref a) (.ref b) H Q := by
  refine ⟨_, _, dl_ints ha, dl_ints hb, shLi xs, shLi ys, ?_⟩
  have e : PyData.eqv (.list (xs.map PyData.int)) (.list (ys.map PyData.int)) = decide (xs = ys) := by
    simp only [PyData.eqv]
    exact eqvAll_ints xs ys
  rw [e]
  exact q
theorem w_neTT (ha : H a = some (.tup (xs.map V.int))) (hb : H b = some (.tup (ys.map V.int))) (q : Q (.bl (!decide (xs = ys))) H) : rNeD K (.ref a) (.ref b) H Q :=
  ⟨_, _, dp_ints ha, dp_ints hb, shT_ints xs, shT_ints ys, by rw [eqv_ints]; exact q⟩
theorem w_neNN (q : Q (.bl false) H) : rNeD K .non .non H Q := ⟨_, _, .non, .non, sh_none, sh_none, by rw [show PyData.eqv .none .none = true by simp [PyData.eqv]]; exact q⟩
/-- keys, in a tuple of pairs -/
def KeysAt (H : Hp) (ps : List Addr) (ls : List Int) : Prop := ps.length = ls.length ∧ ∀ (i : Nat) (q : Addr) (n : Int), ps[i]? = some q → ls[i]? = some n → H q = some (.tup (keyV n))
theorem dp_keys {ps : List Addr} (hp : KeysAt H ps xs) (h : H a = some (.tup (ps.map V.ref))) : Dp K H (.ref a) (ckD xs) := by
  refine .tup (SqT.of h) (dpAll_of (by rw [List.length_map, List.length_map, hp.1]) fun i x d hx hd => ?_)
  rw [List.getElem?_map] at hx hd
  obtain ⟨q, hq, rfl⟩ := Option.map_eq_some_iff.mp hx
  obtain ⟨n, hn, rfl⟩ := Option.map_eq_some_iff.mp hd
  exact dp_key (hp.2 i q n hq hn)
end
theorem canLay_keys : ∀ ls : List Int, PyData.canLayAll0 (ls.map keyD) = true
  | [] => by simp [PyData.canLayAll0]
  | x :: xs => by
    rw [List.map_cons, PyData.canLayAll0, canLay_keys xs]
    simp [keyD, PyData.canLay0, PyData.canLayAll0]
theorem depth_keys : ∀ ls : List Int, PyData.depthAll (ls.map keyD) ≤ 2
  | [] => by simp [PyData.depthAll]
  | x :: xs => by
    rw [List.map_cons, PyData.depthAll]
    have h1 := depth_keys xs
    have h2 : (keyD x).depth ≤ 2 := by
      simp [keyD, PyData.depth, PyData.depthAll]
    omega
theorem sh_keys (ls : List Int) : SeqAt.shaped (ckD ls) = true := by
  have h1 := depth_keys ls
  have h2 : PyData.depth (ckD ls) ≤ 64 := by
    simp only [ckD, PyData.depth]
    omega
  show (PyData.canLay0 (ckD ls) && decide (PyData.depth (ckD ls) ≤ 64)) = true
  rw [Bool.and_eq_true]
  exact ⟨by simp only [ckD, PyData.canLay0]; exact canLay_keys ls, decide_eq_true h2⟩
theorem shT_rows (ds : List (List Int)) : SeqAt.shaped (.tuple (ds.map rowD)) = true := by
  have h1 := depth_rows ds
  have h2 : PyData.depth (.tuple (ds.map rowD)) ≤ 64 := by
    simp only [PyData.depth]
    omega
  show (PyData.canLay0 (.tuple (ds.map rowD)) && decide (PyData.depth (.tuple (ds.map rowD)) ≤ 64)) = true
  rw [Bool.and_eq_true]
  exact ⟨by simp only [PyData.canLay0]; exact canLay_rows ds, decide_eq_true h2⟩
theorem eqvAll_rows : ∀ xs ys : List (List Int), PyData.eqvAll (xs.map rowD) (ys.map rowD) = decide (xs = ys)
  | [], [] => by simp [PyData.eqvAll]
  | [], y :: ys => by simp [PyData.eqvAll]
  | x :: xs, [] => by simp [PyData.eqvAll]
  | x :: xs, y :: ys => by
    rw [List.map_cons, List.map_cons, PyData.eqvAll, eqvAll_rows xs ys]
    have e : PyData.eqv (rowD x) (rowD y) = decide (x = y) := eqv_ints x y
    rw [e]
    by_cases h : x = y <;> by_cases h2 : xs = ys <;> simp [h, h2]
section
variable {K : PySem.W.Frag} {H : Hp} {Q : VK} {a b : Addr} {n : Int} {xs ys : List Int} {cs ds : List (List Int)} {ps qs : List Addr}
theorem w_neKK {xs ys : List Int} (h1 : KeysAt H ps xs) (ha : H a = some (.tup (ps.map V.ref))) (h2 : KeysAt H qs ys) (hb : H b = some (.tup (qs.map V.ref))) (q : Q (.bl (!decide (xs = ys))) H) : rNeD K (.ref a) (.ref b) H Q := by
  refine ⟨_, _, dp_keys h1 ha, dp_keys h2 hb, sh_keys xs, sh_keys ys, ?_⟩
  have e : PyData.eqv (ckD xs) (ckD ys) = decide (xs = ys) := by
    simp only [ckD, PyData.eqv]
    exact key_eqv xs ys
  rw [e]
  exact q
theorem w_neK {n m : Int} (ha : H a = some (.tup (keyV n))) (hb : H b = some (.tup (keyV m))) (q : Q (.bl (!decide (n = m))) H) : rNeD K (.ref a) (.ref b) H Q := by
  refine ⟨_, _, dp_key ha, dp_key hb, ?_, ?_, ?_⟩
  · exact shT_ints [absI n, sgI n]
  · exact shT_ints [absI m, sgI m]
  · have e := key_eqv [n] [m]
    simp only [List.map_cons, List.map_nil, PyData.eqvAll, Bool.and_true, List.cons.injEq, and_true] at e
    rw [e]
    exact q
theorem dp_rows (h1 : ClsAt H ps cs) (ha : H a = some (.tup (ps.map V.ref))) : Dp K H (.ref a) (.tuple (cs.map rowD)) := by
  refine .tup (SqT.of ha) (dpAll_of (by rw [List.length_map, List.length_map, h1.1]) fun i x d hx hd => ?_)
  rw [List.getElem?_map] at hx hd
  obtain ⟨b, hb, rfl⟩ := Option.map_eq_some_iff.mp hx
  obtain ⟨c, hc, rfl⟩ := Option.map_eq_some_iff.mp hd
  exact dp_ints (h1.2 i b c hb hc)
theorem w_neCC (h1 : ClsAt H ps cs) (ha : H a = some (.tup (ps.map V.ref))) (h2 : ClsAt H qs ds) (hb : H b = some (.tup (qs.map V.ref))) (q : Q (.bl (!decide (cs = ds))) H) : rNeD K (.ref a) (.ref b) H Q := by
  refine ⟨_, _, dp_rows h1 ha, dp_rows h2 hb, shT_rows cs, shT_rows ds, ?_⟩
  have e : PyData.eqv (.tuple (cs.map rowD)) (.tuple (ds.map rowD)) = decide (cs = ds) := by
    simp only [PyData.eqv]
    exact eqvAll_rows cs ds
  rw [e]
  exact q
end
theorem filt_one {α : Type} (p : α → Bool) (xs : List α) (j : Nat) (x : α) (hx : xs[j]? = some x) : (xs.take (j + 1)).filter p = (xs.take j).filter p ++ if p x = true then [x] else [] := by
  rw [List.take_add_one, hx, List.filter_append]
  by_cases h : p x = true
  · rw [if_pos h]
    show _ ++ List.filter p [x] = _
    rw [List.filter_cons_of_pos h] <;> rfl
  · rw [if_neg h]
    show _ ++ List.filter p [x] = _
    rw [List.filter_cons_of_neg h] <;> rfl
theorem bothS_filter (ls : List Int) : (!decide (ls.filter (fun x => decide (-x ∈ ls)) = [])) = bothS ls := by
  unfold bothS
  rw [List.length_map, range_any 0 (fun x => decide (-x ∈ ls)) ls]
  cases e : ls.any fun x => decide (-x ∈ ls) with
  | true =>
    obtain ⟨x, h1, h2⟩ := List.any_eq_true.mp e
    have hne : ls.filter (fun x => decide (-x ∈ ls)) ≠ [] := List.ne_nil_of_mem (List.mem_filter.mpr ⟨h1, h2⟩)
    rw [decide_eq_false hne] <;> rfl
  | false =>
    have hn : ls.filter (fun x => decide (-x ∈ ls)) = [] := List.filter_eq_nil_iff.mpr fun x hx hy => by
      rw [List.any_eq_false] at e
      exact e x hx hy
    rw [decide_eq_true hn] <;> rfl
theorem dd_len_le (ls : List Int) : (dd ls).length ≤ ls.length := len_dd ls
section
variable {K : PySem.W.Frag} {H : Hp} {Q : VK} {D s a b : Addr} {n : Int} {xs ys : List Int} {cs ds : List (List Int)} {ps qs : List Addr}
theorem w_inL (h : H b = some (.lst (xs.map V.int))) (q : Q (.bl (decide (n ∈ xs))) H) : rIn K false (.int n) (.ref b) H Q := ⟨b, _, rfl, .inl (SqL.of h), rfl, flat_ints xs, by rw [inV_ints, if_neg Bool.false_ne_true]; exact q⟩
theorem w_ninLn (h : H b = some (.lst (xs.map V.int))) (q : Q (.bl (decide (n ∉ xs))) H) : rIn K true (.int n) (.ref b) H Q := ⟨b, _, rfl, .inl (SqL.of h), rfl, flat_ints xs, by rw [inV_ints, if_pos rfl]; rw [decide_not] at q; exact q⟩
theorem w_sLL (ha : H a = some (.lst (xs.map V.int))) (hb : H b = some (.lst (xs.map V.int))) (q : Q (.bl false) H) : rNeD K (.ref a) (.ref b) H Q := w_neLL ha hb (by rw [decide_eq_true rfl]; exact q)
theorem w_sTT (ha : H a = some (.tup (xs.map V.int))) (hb : H b = some (.tup (xs.map V.int))) (q : Q (.bl false) H) : rNeD K (.ref a) (.ref b) H Q := w_neTT ha hb (by rw [decide_eq_true rfl]; exact q)
theorem w_sKK (h1 : KeysAt H ps xs) (ha : H a = some (.tup (ps.map V.ref))) (h2 : KeysAt H qs xs) (hb : H b = some (.tup (qs.map V.ref))) (q : Q (.bl false) H) : rNeD K (.ref a) (.ref b) H Q := w_neKK h1 ha h2 hb (by rw [decide_eq_true rfl]; exact q)
theorem w_sK (ha : H a = some (.tup (keyV n))) (hb : H b = some (.tup (keyV n))) (q : Q (.bl false) H) : rNeD K (.ref a) (.ref b) H Q := w_neK ha hb (by rw [decide_eq_true rfl]; exact q)
theorem w_sCC (h1 : ClsAt H ps cs) (ha : H a = some (.tup (ps.map V.ref))) (h2 : ClsAt H qs cs) (hb : H b = some (.tup (qs.map V.ref))) (q : Q (.bl false) H) : rNeD K (.ref a) (.ref b) H Q := w_neCC h1 ha h2 hb (by rw [decide_eq_true rfl]; exact q)
end
theorem ClsAt.keptC {d c : Addr} {H H' : Hp} {bs : List Addr} {cs : List (List Int)} (h : ClsAt H bs cs) (k : KeptC d c H H') (hd : DrwC d c H) : ClsAt H' bs cs := ⟨h.1, fun i b x h1 h2 => k.tup hd (h.2 i b x h1 h2)⟩
theorem clsAt_snoc {H : Hp} {bs : List Addr} {cs : List (List Int)} {b : Addr} {x : List Int} (h : ClsAt H bs cs) (hb : H b = some (.tup (x.map V.int))) : ClsAt H (bs ++ [b]) (cs ++ [x]) := by
  refine ⟨by rw [List.length_append, List.length_append, h.1] <;> rfl, fun j q d hq hd => ?_⟩
  by_cases hj : j < bs.length
  · rw [List.getElem?_append_left hj] at hq
    rw [List.getElem?_append_left (by rw [← h.1]; exact hj)] at hd
    exact h.2 j q d hq hd
  · rw [List.getElem?_append_right (by omega)] at hq
    rw [List.getElem?_append_right (by rw [← h.1]; omega)] at hd
    rw [← h.1] at hd
    cases z : j - bs.length with
    | zero =>
      rw [z] at hq hd
      cases hq
      cases hd
      exact hb
    | succ m =>
      rw [z] at hq
      simp at hq
theorem clsAt_pick {H : Hp} {bs : List Addr} {cs : List (List Int)} (h : ClsAt H bs cs) {L : List Nat} (hL : ∀ i ∈ L, i < cs.length) : ClsAt H (L.map fun i => bs.getD i 0) (L.map fun i => cs.getD i []) := by
  refine ⟨by rw [List.length_map, List.length_map], fun j q d hq hd => ?_⟩
  rw [List.getElem?_map] at hq hd
  obtain ⟨i, hi, rfl⟩ := Option.map_eq_some_iff.mp hq
  rw [hi] at hd
  cases hd
  have hlt := hL i (List.mem_of_getElem? hi)
  refine h.2 i _ _ (?_ : bs[i]? = some (bs.getD i 0)) (?_ : cs[i]? = some (cs.getD i []))
  · rw [List.getD_eq_getElem?_getD, List.getElem?_eq_getElem (by rw [h.1]; exact hlt)] <;> rfl
  · rw [List.getD_eq_getElem?_getD, List.getElem?_eq_getElem hlt] <;> rfl
/-- the places that are first -/
def onceIx {α : Type} [DecidableEq α] (d : α) (xs : List α) : List Nat := (List.range xs.length).filter fun i => decide (xs.getD i d ∉ xs.take i)
theorem once_all {α : Type} [DecidableEq α] (d : α) (xs : List α) : ((onceIx d xs).map fun i => xs.getD i d).Nodup ∧ ∀ x, x ∈ ((onceIx d xs).map fun i => xs.getD i d) ↔ x ∈ xs := by
  have h : ∀ m, m ≤ xs.length → ((((List.range m).filter fun i => decide (xs.getD i d ∉ xs.take i))).map fun i => xs.getD i d).Nodup ∧ ∀ x, x ∈ ((((List.range m).filter fun i => decide (xs.getD i d ∉ xs.take i))).map fun i => xs.getD i d) ↔ x ∈ xs.take m := by
    intro m
    induction m with
    | zero => intro _; exact ⟨List.nodup_nil, fun x => by simp⟩
    | succ m ih =>
      intro hm
      obtain ⟨i1, i2⟩ := ih (by omega)
      have hx : xs[m]? = some xs[m] := List.getElem?_eq_getElem hm
      have e : xs.getD m d = xs[m] := by rw [List.getD_eq_getElem?_getD, hx] <;> rfl
      obtain ⟨s1, s2⟩ := once_step hx i1 i2
      rw [List.range_succ, List.filter_append, List.map_append]
      by_cases hp : xs[m] ∉ xs.take m
      · rw [List.filter_cons_of_pos (by rw [e]; exact decide_eq_true hp), List.filter_nil, List.map_cons, List.map_nil, e]
        exact s1 hp
      · rw [List.filter_cons_of_neg (by rw [e, decide_eq_false hp]; exact Bool.false_ne_true), List.filter_nil, List.map_nil, List.append_nil]
        exact ⟨i1, s2 (Classical.not_not.mp hp)⟩
  obtain ⟨h1, h2⟩ := h _ (Nat.le_refl _)
  rw [List.take_length] at h2
  exact ⟨h1, h2⟩
theorem onceIx_len {α : Type} [DecidableEq α] (d : α) (xs : List α) : (onceIx d xs).length ≤ xs.length := by
  have h := List.length_filter_le (fun i => decide (xs.getD i d ∉ xs.take i)) (List.range xs.length)
  rw [List.length_range] at h
  exact h
theorem onceIx_lt {α : Type} [DecidableEq α] (d : α) (xs : List α) : ∀ i ∈ onceIx d xs, i < xs.length := fun i hi => List.mem_range.mp (List.mem_filter.mp hi).1
/-- a clause that the law makes -/
def GoodC (x : List Int) : Prop := ∃ ls : List Int, ls.Nodup ∧ noBoth ls ∧ (∀ n ∈ ls, isLit n = true) ∧ ls.length ≤ 4 ∧ x = srtBy keyD ls
theorem GoodC.clause {x : List Int} (h : GoodC x) : isClauseF x = true := by
  obtain ⟨ls, h1, h2, h3, _, rfl⟩ := h
  exact isClauseF_srt h1 h2 h3
theorem GoodC.len {x : List Int} (h : GoodC x) : x.length ≤ 4 := by
  obtain ⟨ls, _, _, _, h4, rfl⟩ := h
  rw [(srtBy_perm keyD ls).length_eq]
  exact h4
theorem GoodC.nob {x : List Int} (h : GoodC x) : noBoth x := by
  obtain ⟨ls, _, h2, _, _, rfl⟩ := h
  exact noBoth_srt h2
theorem GoodC.asc {x : List Int} (h : GoodC x) : x.Pairwise fun a b => absI a < absI b := by
  obtain ⟨ls, h1, h2, _, _, rfl⟩ := h
  exact clause_asc h1 h2
theorem GoodC.lit {x : List Int} (h : GoodC x) : ∀ n ∈ x, isLit n = true := by
  obtain ⟨ls, _, _, h3, _, rfl⟩ := h
  exact fun n hn => h3 n (mem_srtBy.mp hn)
theorem GoodC.back {x : List Int} (h : GoodC x) : isClauseF x.reverse = decide (x.length < 2) := by
  by_cases hl : x.length < 2
  · rw [decide_eq_true hl]
    have e : x.reverse = x := by
      match x, hl with
      | [], _ => rfl
      | [a], _ => rfl
      | a :: b :: t, hl => exact absurd hl (by simp only [List.length_cons]; omega)
    rw [e]
    exact h.clause
  · rw [decide_eq_false hl]
    exact isClauseF_rev h.asc (by omega)
theorem back_range (x : List Int) : (List.range x.length).map (fun i => x.getD (x.length - 1 - i) 0) = x.reverse := by
  refine List.ext_getElem (by simp) fun i h1 h2 => ?_
  rw [List.getElem_map, List.getElem_range, List.getElem_reverse]
  have h3 : i < x.length := by simpa using h2
  rw [List.getD_eq_getElem?_getD, List.getElem?_eq_getElem (by omega)] <;> rfl
theorem lit_small {n : Int} (h : isLit n = true) : n.natAbs < 2 ^ 60 := by
  unfold isLit isVar absI at h
  rw [Bool.and_eq_true, decide_eq_true_eq, decide_eq_true_eq] at h
  split at h <;> omega
theorem srt_ints {ns : List Int} (h : ns.Nodup) : (srtBy PyData.int ns).Pairwise (· < ·) := by
  have h1 := srtBy_pair PyData.int ns
  have h2 : (srtBy PyData.int ns).Nodup := (srtBy_perm PyData.int ns).nodup_iff.mpr h
  refine List.pairwise_iff_getElem.mpr fun i j hi hj hij => ?_
  have a := List.pairwise_iff_getElem.mp h1 i j hi hj hij
  have b := List.pairwise_iff_getElem.mp h2 i j hi hj hij
  have a : (!PySem.W.dataLt (.int (srtBy PyData.int ns)[j]) (.int (srtBy PyData.int ns)[i])) = true := a
  rw [PySem.W.dataLt_int] at a
  have a : ¬ (srtBy PyData.int ns)[j] < (srtBy PyData.int ns)[i] := by simpa using a
  omega
theorem clsAt_zipOf {H : Hp} {bs : List Addr} {cs : List (List Int)} (zs : List (Addr × List Int)) (hb : zs.map (·.1) = bs) (hc : zs.map (·.2) = cs) (h : ∀ p ∈ zs, H p.1 = some (.tup (p.2.map V.int))) : ClsAt H bs cs := by
  subst hb hc
  exact clsAt_of h
theorem ClsAt.fst {H : Hp} {bs : List Addr} {cs : List (List Int)} (h : ClsAt H bs cs) : (bs.zip cs).map (·.1) = bs := List.map_fst_zip (by rw [h.1]; exact Nat.le_refl _)
theorem ClsAt.snd {H : Hp} {bs : List Addr} {cs : List (List Int)} (h : ClsAt H bs cs) : (bs.zip cs).map (·.2) = cs := List.map_snd_zip (by rw [h.1]; exact Nat.le_refl _)
theorem ClsAt.take {H : Hp} {bs : List Addr} {cs : List (List Int)} (h : ClsAt H bs cs) (n : Nat) : ClsAt H (bs.take n) (cs.take n) :=
  clsAt_zipOf ((bs.zip cs).take n) (by rw [List.map_take, h.fst]) (by rw [List.map_take, h.snd]) fun p hp => clsAt_zip h p (List.mem_of_mem_take hp)
theorem ClsAt.drop {H : Hp} {bs : List Addr} {cs : List (List Int)} (h : ClsAt H bs cs) (n : Nat) : ClsAt H (bs.drop n) (cs.drop n) :=
  clsAt_zipOf ((bs.zip cs).drop n) (by rw [List.map_drop, h.fst]) (by rw [List.map_drop, h.snd]) fun p hp => clsAt_zip h p (List.mem_of_mem_drop hp)
theorem ClsAt.app {H : Hp} {bs bs2 : List Addr} {cs cs2 : List (List Int)} (h : ClsAt H bs cs) (h2 : ClsAt H bs2 cs2) : ClsAt H (bs ++ bs2) (cs ++ cs2) :=
  clsAt_zipOf (bs.zip cs ++ bs2.zip cs2) (by rw [List.map_append, h.fst, h2.fst]) (by rw [List.map_append, h.snd, h2.snd]) fun p hp => (List.mem_append.mp hp).elim (clsAt_zip h p) (clsAt_zip h2 p)
theorem flat_len : ∀ {cs : List (List Int)} {n : Nat}, (∀ c ∈ cs, c.length ≤ n) → cs.flatten.length ≤ n * cs.length
  | [], n, _ => by simp
  | c :: cs, n, h => by
    rw [List.flatten_cons, List.length_append, List.length_cons, Nat.mul_succ]
    have h1 := h c List.mem_cons_self
    have h2 := flat_len (cs := cs) fun d hd => h d (List.mem_cons_of_mem _ hd)
    omega
theorem absAll_app (cs ds : List (List Int)) : absAll (cs ++ ds) = absAll cs ++ absAll ds := by
  unfold absAll
  rw [List.flatten_append, List.map_append]
theorem absAll_one (c : List Int) : absAll [c] = c.map absI := by
  unfold absAll
  simp
theorem onceC_eq (cs : List (List Int)) : (List.range cs.length).filter (fun j => decide (cs.getD j [] ∉ cs.take j)) = onceIx [] cs := by
  unfold onceIx
  congr 1
  funext j
  exact decide_eq_decide.mpr Iff.rfl
theorem allAlike_ints (ns : List Int) : PySem.W.AllAlike (ns.map PyData.int) := by
  intro d hd d' hd'
  obtain ⟨a, _, rfl⟩ := List.mem_map.mp hd
  obtain ⟨b, _, rfl⟩ := List.mem_map.mp hd'
  simp [PySem.W.alike]
theorem srt_intsS (ns : List Int) : Srt (ns.map PyData.int) := .inr fun d hd => by
  obtain ⟨a, _, rfl⟩ := List.mem_map.mp hd
  exact ⟨by simp, by simp⟩
theorem depth_intsS (ns : List Int) : ∀ d ∈ ns.map PyData.int, d.depth ≤ 60 := fun d hd => by
  obtain ⟨a, _, rfl⟩ := List.mem_map.mp hd
  simp [PyData.depth]
theorem absAll_small {cs : List (List Int)} (h : ∀ c ∈ cs, ∀ n ∈ c, isLit n = true) : ∀ k ∈ absAll cs, k.natAbs < 2 ^ 60 := fun k hk => by
  unfold absAll at hk
  obtain ⟨n, hn, rfl⟩ := List.mem_map.mp hk
  obtain ⟨c, hc, hn⟩ := List.mem_flatten.mp hn
  have := lit_small (h c hc n hn)
  unfold absI
  split <;> omega
end Ky

namespace Ky
open PySem PySem.Spec PyProof.Rows L2 TL PySem.Builtin.Str
/-! ### numbers as texts -/
def numS (i : Int) : Str := toString i
def numI (i : Int) : List Nat := if i < 0 then 45 :: numL i.natAbs else numL i.natAbs
theorem tl_numS (i : Int) : tl (numS i) = numI i := by
  cases i with
  | ofNat n =>
    unfold numI
    rw [if_neg (show ¬ (Int.ofNat n < 0) from by have := Int.natCast_nonneg n; exact Int.not_lt.mpr this)]
    exact tl_num n
  | negSucc n =>
    unfold numI
    rw [if_pos (Int.negSucc_lt_zero n)]
    show tl (Str.ofString (toString (Int.negSucc n))) = 45 :: numL (n + 1)
    rw [tl_ofString]
    have e : (toString (Int.negSucc n)).toList = '-' :: (toString ((n + 1 : Nat) : Int)).toList := by
      show ("-" ++ toString (n + 1)).toList = _
      rw [String.toList_append]
      rfl
    rw [e, List.map_cons]
    have h := tl_num (n + 1)
    rw [tl_ofString] at h
    rw [h]
    rfl
theorem tl_nat (n : Nat) : tl (numS (n : Int)) = numL n := tl_num n
theorem numL_head {n : Nat} (h : 0 < n) : ∃ c r, numL n = c :: r ∧ 49 ≤ c ∧ c ≤ 57 := by
  induction n using Nat.strongRecOn with
  | _ n ih =>
    by_cases hn : n < 10
    · exact ⟨48 + n, [], numL_lt hn, by omega, by omega⟩
    · obtain ⟨c, r, e, h1, h2⟩ := ih (n / 10) (by omega) (by omega)
      exact ⟨c, r ++ [48 + n % 10], by rw [numL_step (by omega), e]; rfl, h1, h2⟩
theorem numL_zero : numL 0 = [48] := numL_lt (by decide)
theorem numI_ne (i : Int) : numI i ≠ [] := by
  unfold numI
  split
  · intro h
    cases h
  · exact numL_ne _
theorem numI_free {i : Int} {s : Nat} (h : s < 48 ∨ 57 < s) (h2 : s ≠ 45) : s ∉ numI i := by
  unfold numI
  split
  · intro hm
    rcases List.mem_cons.mp hm with z | z
    · exact h2 z
    · exact numL_free h z
  · exact numL_free h
/-! ### methods of texts, on their signs -/
theorem tl_one {s : String} {c : Nat} (h : s.toList.map Char.toNat = [c]) : tl (Str.ofString s) = [c] := by
  rw [tl_ofString, h]
theorem subAt0 (x y : Str) : subAt x y 0 = ((tl x).take (tl y).length == tl y) := by
  rw [StrLaws.subAt_eq]
  rfl
theorem startswith_one {x y : Str} {c : Nat} (hy : tl y = [c]) : Txt.startswith x y = decide ((tl x).head? = some c) := by
  unfold Txt.startswith
  rw [subAt0, hy, len_tl x, len_tl y, hy]
  cases tl x with
  | nil => rfl
  | cons a r =>
    show (decide (0 + 1 ≤ (a :: r).length) && ([a] == [c])) = decide (some a = some c)
    rw [List.length_cons, decide_eq_true (by omega), Bool.true_and]
    by_cases h : a = c
    · subst h; simp
    · simp [h]
theorem removeprefix_one {x y : Str} {c : Nat} (hy : tl y = [c]) : tl (Txt.removeprefix x y) = (match tl x with | a :: r => if a = c then r else a :: r | [] => []) := by
  unfold Txt.removeprefix
  rw [subAt0, hy]
  cases h : tl x with
  | nil =>
    show tl (Txt.affix x none) = []
    exact h
  | cons a r =>
    by_cases e : a = c
    · subst e
      have e1 : ((a :: r).take ([a] : List Nat).length == [a]) = true := by simp
      rw [if_pos e1]
      show _ = (if a = a then r else a :: r)
      rw [if_pos rfl]
      unfold Txt.affix
      have hx : x.length = r.length + 1 := by rw [len_tl, h]; rfl
      have hy1 : y.length = 1 := by rw [len_tl, hy]; rfl
      show tl (if (x.length - y.length == x.length) = true then x else strSub x y.length x.length) = r
      rw [if_neg (by rw [hx, hy1, beq_iff_eq]; omega), hy1, tl_strSub_end, h]
      rfl
    · have e1 : ((a :: r).take ([c] : List Nat).length == [c]) = false := by simp [e]
      rw [if_neg (by rw [e1]; decide)]
      show _ = (if a = c then r else a :: r)
      rw [if_neg e]
      exact h
theorem zfill_plain {x : Str} {i : Int} (h : ∀ c, (tl x).head? = some c → c ≠ 43 ∧ c ≠ 45) : tl (Txt.zfill x i) = List.replicate (i.toNat - (tl x).length) 48 ++ tl x := by
  unfold Txt.zfill
  by_cases hi : i ≤ x.length
  · rw [if_pos hi]
    have : i.toNat - (tl x).length = 0 := by
      rw [len_tl] at hi
      omega
    rw [this]
    rfl
  · rw [if_neg hi]
    have e : zfilled x (i.toNat - x.length) = padded x (i.toNat - x.length) 0 48 := by
      unfold zfilled
      have hh : x.cps[0]? = (tl x).head? := by
        rw [← Array.getElem?_toList, List.head?_eq_getElem?]
      rw [hh]
      cases q : (tl x).head? with
      | none => rfl
      | some c =>
        obtain ⟨h1, h2⟩ := h c q
        split
        · rename_i z
          exact absurd (Option.some.inj z) h1
        · rename_i z
          exact absurd (Option.some.inj z) h2
        · rfl
    rw [e]
    unfold padded
    show (Array.replicate (i.toNat - x.length) 48 ++ x.cps ++ Array.replicate 0 48).toList = _
    simp [len_tl]
theorem tl_cut (z : Str) (lo hi : Option Int) : tl (cutS z lo hi) = ((tl z).drop (HT.sIx (tl z).length 0 lo)).take (HT.sIx (tl z).length (tl z).length hi - HT.sIx (tl z).length 0 lo) := by
  unfold cutS
  rw [tl_mk, len_tl]
/-! ### fractions as texts -/
def shL (a : Int × Int) : List Nat := if a.2 = 1 then numI a.1 else numI a.1 ++ 47 :: numI a.2
def slash : Str := Str.ofString "/"
theorem tl_slash : tl slash = [47] := by
  unfold slash
  rw [tl_ofString]
  rfl
def shF (a : Int × Int) : Str := if a.2 = 1 then numS a.1 else numS a.1 ++ slash ++ numS a.2
theorem tl_shF (a : Int × Int) : tl (shF a) = shL a := by
  unfold shF shL
  split
  · exact tl_numS _
  · rw [tl_append, tl_append, tl_numS, tl_numS, tl_slash, List.append_assoc]
    rfl
theorem join_one (e x : Str) : Txt.join e [x] = x := by
  rw [join_eq]
  apply ext_tl
  rw [tl_join]
  rfl
theorem join_two (e x y : Str) (he : tl e = []) : Txt.join e [x, y] = x ++ y := by
  rw [join_eq]
  apply ext_tl
  rw [tl_join, he, tl_append]
  rfl
theorem numI_len {i : Int} {k : Nat} (hk : 0 < k) (h : i.natAbs < 10 ^ k) : (numI i).length ≤ k + 1 := by
  have := numL_len hk h
  unfold numI
  split
  · rw [List.length_cons]
    omega
  · omega
/-! ### a text read as a number, as a fraction -/
def dig (c : Nat) : Bool := decide (48 ≤ c) && decide (c ≤ 57)
def rdN (l : List Nat) : Option Nat := if l = [] then none else if l.head? = some 48 ∧ l ≠ [48] then none else if l.all dig = true then some (NumText.digitsVal l) else none
theorem all_dig {l : List Nat} (h : NumText.AllDigits l) : l.all dig = true := List.all_eq_true.mpr fun c hc => by
  have := h c hc
  unfold dig
  rw [decide_eq_true this.1, decide_eq_true this.2]
  rfl
theorem dig_all {l : List Nat} (h : l.all dig = true) : NumText.AllDigits l := fun c hc => by
  have := List.all_eq_true.mp h c hc
  unfold dig at this
  rw [Bool.and_eq_true, decide_eq_true_eq, decide_eq_true_eq] at this
  exact this
theorem rdN_numL (n : Nat) : rdN (numL n) = some n := by
  unfold rdN
  rw [if_neg (numL_ne n)]
  have e : ¬ ((numL n).head? = some 48 ∧ numL n ≠ [48]) := by
    rintro ⟨h1, h2⟩
    rcases Nat.eq_zero_or_pos n with h | h
    · subst h
      exact h2 numL_zero
    · obtain ⟨c, r, e, h3, _⟩ := numL_head h
      rw [e] at h1
      have : c = 48 := Option.some.inj h1
      omega
  rw [if_neg e, if_pos (all_dig (numL_digits n)), numL_val]
/-- what stands ahead of the first /, whether there is one, what stands behind -/
def partL (l : List Nat) : List Nat × Bool × List Nat := match par [47] [] l with | some (a, b) => (a, true, b) | none => (l, false, [])
def unsign (l : List Nat) : List Nat := match l with | a :: r => if a = 45 then r else a :: r | [] => []
def rdF (l : List Nat) : Option (Int × Int) :=
  match rdN (unsign (partL l).1), (if (partL l).2.1 = true then rdN (partL l).2.2 else some 1) with
  | some n, some d => if d = 0 then none else
      if shL (frc (if (partL l).1.head? = some 45 then -(n : Int) else (n : Int)) (d : Int)) = l then some (frc (if (partL l).1.head? = some 45 then -(n : Int) else (n : Int)) (d : Int)) else none
  | _, _ => none
end Ky

namespace Ky
open PySem PySem.Spec PyProof.Rows L2 TL
/-! ### fractions, reckoned -/
theorem frc_spec {n d : Int} (hd : d ≠ 0) : ∃ c : Int, c ≠ 0 ∧ n = (frc n d).1 * c ∧ d = (frc n d).2 * c ∧ 0 < (frc n d).2 ∧ Nat.gcd (frc n d).1.natAbs (frc n d).2.natAbs = 1 := by
  have g0 : Nat.gcd n.natAbs d.natAbs ≠ 0 := by
    intro h
    have := Nat.eq_zero_of_gcd_eq_zero_right h
    omega
  generalize hg : Nat.gcd n.natAbs d.natAbs = g at g0
  have dn : (g : Int) ∣ n := Int.ofNat_dvd_left.mpr (hg ▸ Nat.gcd_dvd_left _ _)
  have dd : (g : Int) ∣ d := Int.ofNat_dvd_left.mpr (hg ▸ Nat.gcd_dvd_right _ _)
  obtain ⟨c, hc, hcs⟩ : ∃ c : Int, (if d < 0 then -(g : Int) else (g : Int)) = c ∧ c.natAbs = g := ⟨_, rfl, by split <;> omega⟩
  have c0 : c ≠ 0 := by omega
  have cn : c ∣ n := by
    rw [← hc]
    split
    · exact Int.neg_dvd.mpr dn
    · exact dn
  have cd : c ∣ d := by
    rw [← hc]
    split
    · exact Int.neg_dvd.mpr dd
    · exact dd
  have e1 : (frc n d).1 = n / c := by
    unfold frc
    rw [hg, hc]
    exact Int.fdiv_eq_ediv_of_dvd cn
  have e2 : (frc n d).2 = d / c := by
    unfold frc
    rw [hg, hc]
    exact Int.fdiv_eq_ediv_of_dvd cd
  have f1 : n = (frc n d).1 * c := by rw [e1, Int.ediv_mul_cancel cn]
  have f2 : d = (frc n d).2 * c := by rw [e2, Int.ediv_mul_cancel cd]
  refine ⟨c, c0, f1, f2, ?_, ?_⟩
  · have hx := f2
    generalize (frc n d).2 = y at hx
    have hs : (d < 0 ∧ c < 0) ∨ (0 < d ∧ 0 < c) := by
      by_cases h : d < 0
      · left
        refine ⟨h, ?_⟩
        rw [if_pos h] at hc
        omega
      · right
        rw [if_neg h] at hc
        omega
    rcases hs with ⟨h1, h2⟩ | ⟨h1, h2⟩
    · by_cases hy : 0 < y
      · exact hy
      · have := Int.mul_nonneg_of_nonpos_of_nonpos (a := y) (b := c) (by omega) (by omega)
        omega
    · by_cases hy : 0 < y
      · exact hy
      · have := Int.mul_nonpos_of_nonpos_of_nonneg (a := y) (b := c) (by omega) (by omega)
        omega
  · have h3 : Nat.gcd ((frc n d).1 * c).natAbs ((frc n d).2 * c).natAbs = g := by
      rw [← f1, ← f2]
      exact hg
    rw [Int.natAbs_mul, Int.natAbs_mul, Nat.gcd_mul_right, hcs] at h3
    exact Nat.eq_of_mul_eq_mul_right (show 0 < g by omega) (by rw [h3, Nat.one_mul])
theorem frc_pos {n d : Int} (hd : d ≠ 0) : 0 < (frc n d).2 := by
  obtain ⟨_, _, _, _, h, _⟩ := frc_spec (n := n) hd
  exact h
theorem natAbs_le_mul {x c : Int} (h : c ≠ 0) : x.natAbs ≤ (x * c).natAbs := by
  rw [Int.natAbs_mul]
  exact Nat.le_mul_of_pos_right _ (by omega)
theorem frc_le {n d : Int} (hd : d ≠ 0) : (frc n d).1.natAbs ≤ n.natAbs ∧ (frc n d).2.natAbs ≤ d.natAbs := by
  obtain ⟨c, c0, h1, h2, _⟩ := frc_spec (n := n) hd
  constructor
  · have := natAbs_le_mul (x := (frc n d).1) c0
    rw [← h1] at this
    exact this
  · have := natAbs_le_mul (x := (frc n d).2) c0
    rw [← h2] at this
    exact this
theorem frc_small {n d : Int} {b : Nat} (hd : d ≠ 0) (bn : n.natAbs < 2 ^ b) (bd : d.natAbs < 2 ^ b) : Small b (frc n d) :=
  ⟨Nat.lt_of_le_of_lt (frc_le hd).1 bn, Nat.lt_of_le_of_lt (frc_le hd).2 bd⟩
/-- two reduced pairs with the same cross products are one -/
theorem red_eq {a b x y : Int} (hb : 0 < b) (hy : 0 < y) (g1 : Nat.gcd a.natAbs b.natAbs = 1) (g2 : Nat.gcd x.natAbs y.natAbs = 1) (h : a * y = x * b) : a = x ∧ b = y := by
  have hn : a.natAbs * y.natAbs = x.natAbs * b.natAbs := by
    rw [← Int.natAbs_mul, ← Int.natAbs_mul, h]
  have d1 : b.natAbs ∣ y.natAbs := Nat.Coprime.dvd_of_dvd_mul_left (show Nat.Coprime b.natAbs a.natAbs by rw [Nat.Coprime, Nat.gcd_comm]; exact g1) ⟨x.natAbs, by rw [hn, Nat.mul_comm]⟩
  have d2 : y.natAbs ∣ b.natAbs := Nat.Coprime.dvd_of_dvd_mul_left (show Nat.Coprime y.natAbs x.natAbs by rw [Nat.Coprime, Nat.gcd_comm]; exact g2) ⟨a.natAbs, by rw [← hn, Nat.mul_comm]⟩
  have e : b = y := by
    have := Nat.dvd_antisymm d1 d2
    omega
  subst e
  exact ⟨Int.eq_of_mul_eq_mul_right (by omega) h, rfl⟩
theorem frc_eq {n d m e : Int} (hd : d ≠ 0) (he : e ≠ 0) (h : n * e = m * d) : frc n d = frc m e := by
  obtain ⟨c, c0, h1, h2, h3, h4⟩ := frc_spec (n := n) hd
  obtain ⟨k, k0, j1, j2, j3, j4⟩ := frc_spec (n := m) he
  have hx : (frc n d).1 * (frc m e).2 = (frc m e).1 * (frc n d).2 := by
    have : ((frc n d).1 * (frc m e).2) * (c * k) = ((frc m e).1 * (frc n d).2) * (c * k) := by
      calc ((frc n d).1 * (frc m e).2) * (c * k) = ((frc n d).1 * c) * ((frc m e).2 * k) := by
            rw [Int.mul_assoc, Int.mul_assoc, Int.mul_left_comm (frc m e).2 c k]
        _ = n * e := by rw [← h1, ← j2]
        _ = m * d := h
        _ = ((frc m e).1 * k) * ((frc n d).2 * c) := by rw [← j1, ← h2]
        _ = ((frc m e).1 * (frc n d).2) * (c * k) := by
            rw [Int.mul_assoc, Int.mul_assoc, Int.mul_left_comm k (frc n d).2 c, Int.mul_comm k c]
    exact Int.eq_of_mul_eq_mul_right (Int.mul_ne_zero c0 k0) this
  obtain ⟨r1, r2⟩ := red_eq h3 j3 h4 j4 hx
  exact Prod.ext r1 r2
/-- a reduced pair -/
def Red (a : Int × Int) : Prop := 0 < a.2 ∧ Nat.gcd a.1.natAbs a.2.natAbs = 1
theorem frc_red {n d : Int} (hd : d ≠ 0) : Red (frc n d) := by
  obtain ⟨_, _, _, _, h, g⟩ := frc_spec (n := n) hd
  exact ⟨h, g⟩
theorem frc_self {a : Int × Int} (h : Red a) : frc a.1 a.2 = a := by
  obtain ⟨p, g⟩ := h
  obtain ⟨c, c0, h1, h2, h3, h4⟩ := frc_spec (n := a.1) (d := a.2) (by omega)
  have hx : (frc a.1 a.2).1 * a.2 = a.1 * (frc a.1 a.2).2 := by
    calc (frc a.1 a.2).1 * a.2 = (frc a.1 a.2).1 * ((frc a.1 a.2).2 * c) := by rw [← h2]
      _ = ((frc a.1 a.2).1 * c) * (frc a.1 a.2).2 := by rw [Int.mul_assoc, Int.mul_comm (frc a.1 a.2).2 c]
      _ = a.1 * (frc a.1 a.2).2 := by rw [← h1]
  obtain ⟨r1, r2⟩ := red_eq h3 p h4 g hx
  exact Prod.ext r1 r2
/-! sums, products of several -/
def plusF (a b : Int × Int) : Int × Int := frc (a.1 * b.2 + b.1 * a.2) (a.2 * b.2)
def timesF (a b : Int × Int) : Int × Int := frc (a.1 * b.1) (a.2 * b.2)
def totN (as : List (Int × Int)) : Int × Int := as.foldl (fun f r => (f.1 * r.2 + r.1 * f.2, f.2 * r.2)) (0, 1)
def totF (as : List (Int × Int)) : Int × Int := as.foldl plusF (0, 1)
def prN (as : List (Int × Int)) : Int × Int := as.foldl (fun f r => (f.1 * r.1, f.2 * r.2)) (1, 1)
def prF (as : List (Int × Int)) : Int × Int := as.foldl timesF (1, 1)
theorem frc_cross {n d : Int} (hd : d ≠ 0) : (frc n d).1 * d = n * (frc n d).2 := by
  obtain ⟨c, c0, h1, h2, h3, h4⟩ := frc_spec (n := n) hd
  calc (frc n d).1 * d = (frc n d).1 * ((frc n d).2 * c) := by rw [← h2]
    _ = ((frc n d).1 * c) * (frc n d).2 := by rw [Int.mul_assoc, Int.mul_comm (frc n d).2 c]
    _ = n * (frc n d).2 := by rw [← h1]
theorem plus_step {n d x y : Int} (hd : 0 < d) (hy : 0 < y) : plusF (frc n d) (x, y) = frc (n * y + x * d) (d * y) := by
  have p := frc_pos (n := n) (d := d) (by omega)
  refine frc_eq (Int.mul_ne_zero (by omega) (by omega)) (Int.mul_ne_zero (by omega) (by omega)) ?_
  have c := frc_cross (n := n) (d := d) (by omega)
  generalize (frc n d).1 = u at c ⊢
  generalize (frc n d).2 = v at c p ⊢
  show (u * y + x * v) * (d * y) = (n * y + x * d) * (v * y)
  have e1 : (u * y + x * v) * (d * y) = (u * d) * (y * y) + (x * v) * (d * y) := by
    rw [Int.add_mul]
    congr 1
    rw [Int.mul_assoc, Int.mul_assoc, Int.mul_left_comm y d y]
  have e2 : (n * y + x * d) * (v * y) = (n * v) * (y * y) + (x * v) * (d * y) := by
    rw [Int.add_mul]
    congr 1
    · rw [Int.mul_assoc, Int.mul_assoc, Int.mul_left_comm y v y]
    · rw [Int.mul_assoc, Int.mul_assoc, Int.mul_left_comm d v y]
  rw [e1, e2, c]
theorem times_step {n d x y : Int} (hd : 0 < d) (hy : 0 < y) : timesF (frc n d) (x, y) = frc (n * x) (d * y) := by
  have p := frc_pos (n := n) (d := d) (by omega)
  refine frc_eq (Int.mul_ne_zero (by omega) (by omega)) (Int.mul_ne_zero (by omega) (by omega)) ?_
  have c := frc_cross (n := n) (d := d) (by omega)
  generalize (frc n d).1 = u at c ⊢
  generalize (frc n d).2 = v at c p ⊢
  show (u * x) * (d * y) = (n * x) * (v * y)
  calc (u * x) * (d * y) = (u * d) * (x * y) := by rw [Int.mul_assoc, Int.mul_assoc, Int.mul_left_comm x d y]
    _ = (n * v) * (x * y) := by rw [c]
    _ = (n * x) * (v * y) := by rw [Int.mul_assoc, Int.mul_assoc, Int.mul_left_comm v x y]
theorem tot_fold : ∀ (as : List (Int × Int)) (n d : Int), 0 < d → (∀ a ∈ as, 0 < a.2) → as.foldl plusF (frc n d) = frc (as.foldl (fun f r => (f.1 * r.2 + r.1 * f.2, f.2 * r.2)) (n, d)).1 (as.foldl (fun f r => (f.1 * r.2 + r.1 * f.2, f.2 * r.2)) (n, d)).2
  | [], n, d, _, _ => rfl
  | a :: r, n, d, hd, h => by
    have ha := h a (.head _)
    rw [List.foldl_cons, List.foldl_cons, plus_step (x := a.1) (y := a.2) hd ha]
    exact tot_fold r _ _ (Int.mul_pos hd ha) fun b hb => h b (.tail _ hb)
theorem pr_fold : ∀ (as : List (Int × Int)) (n d : Int), 0 < d → (∀ a ∈ as, 0 < a.2) → as.foldl timesF (frc n d) = frc (as.foldl (fun f r => (f.1 * r.1, f.2 * r.2)) (n, d)).1 (as.foldl (fun f r => (f.1 * r.1, f.2 * r.2)) (n, d)).2
  | [], n, d, _, _ => rfl
  | a :: r, n, d, hd, h => by
    have ha := h a (.head _)
    rw [List.foldl_cons, List.foldl_cons, times_step (x := a.1) (y := a.2) hd ha]
    exact pr_fold r _ _ (Int.mul_pos hd ha) fun b hb => h b (.tail _ hb)
theorem frc_01 : frc 0 1 = (0, 1) := by decide
theorem frc_11 : frc 1 1 = (1, 1) := by decide
theorem totF_eq {as : List (Int × Int)} (h : ∀ a ∈ as, 0 < a.2) : totF as = frc (totN as).1 (totN as).2 := by
  have := tot_fold as 0 1 (by decide) h
  rw [frc_01] at this
  exact this
theorem prF_eq {as : List (Int × Int)} (h : ∀ a ∈ as, 0 < a.2) : prF as = frc (prN as).1 (prN as).2 := by
  have := pr_fold as 1 1 (by decide) h
  rw [frc_11] at this
  exact this
end Ky

namespace Ky
open PySem PySem.Spec PyProof.Rows L2
local macro_rules | `(tactic| walk_at "rd") => `(tactic| repeat (first
  | with_reducible refine w_seq ?_
  | with_reducible refine w_asg ?_
  | with_reducible refine w_ret ?_
  | with_reducible refine w_drop ?_
  | with_reducible refine w_ifs ?_
  | ((with_reducible refine' w_var ?hh ?_); (case hh => exact rfl))
  | with_reducible refine w_c ?_
  | with_reducible refine w_op ?_
  | with_reducible refine w_un ?_
  | with_reducible refine w_I0 ?_
  | with_reducible refine w_U ?_
  | with_reducible refine w_nil ?_
  | with_reducible refine w_cons ?_
  | with_reducible refine w_call ?_
  | with_reducible refine w_cb ?_
  | with_reducible refine w_test ?_
  | with_reducible refine w_B ?_
  | with_reducible refine w_bl ?_
  | with_reducible refine w_and ?_
  | with_reducible refine w_or ?_
  | with_reducible refine w_not ?_
  | with_reducible refine w_ife ?_
  | with_reducible refine w_gRd ?_
  | with_reducible refine w_andV ?_
  | with_reducible refine w_orV ?_
  | with_reducible refine w_notV ?_
  | with_reducible refine w_chain ?_
  | with_reducible refine w_din ?_
  | with_reducible refine w_isi_ii ?_
  | with_reducible refine w_isi_ib ?_
  | with_reducible refine w_isi_it ?_
  | with_reducible refine w_isi_st ?_
  | ((with_reducible refine w_isi_tt ?h1 ?_); (case h1 => first | assumption | exact upd_same))
  | with_reducible refine if_t rfl ?_
  | with_reducible refine if_f rfl ?_
  | with_reducible refine w_tup ?_
  | with_reducible refine w_lst ?_
  | with_reducible refine w_next ?_
  | with_reducible refine w_bm ?_
  | with_reducible refine w_sl ?_
  | with_reducible refine w_part ?_
  | with_reducible refine w_nop ?_
  | with_reducible refine w_isI ?_
  | with_reducible refine w_yes ?_
  | with_reducible refine w_gn ?_
  | with_reducible refine w_gsub ?_
  | ((with_reducible refine' w_setL ?h1 ?h2 ?_); (case h1 => first | assumption | exact upd_same); (case h2 => exact rfl))
  | with_reducible refine w_asgG ?_
  | with_reducible refine w_m1 ?_
  | with_reducible refine w_isS ?_
  | with_reducible refine w_tyS ?_
  | ((with_reducible refine' w_tyL ?h1 ?_); (case h1 => first | assumption | exact upd_same))
  | ((with_reducible refine' w_ixT ?h1 ?h2 ?_); (case h1 => first | assumption | exact upd_same); (case h2 => exact rfl))
  | ((with_reducible refine' w_ixL ?h1 ?h2 ?_); (case h1 => first | assumption | exact upd_same); (case h2 => exact rfl))
  | ((with_reducible refine w_eq ?h1 ?_); (case h1 => exact rfl))
  | ((with_reducible refine w_ne ?h1 ?_); (case h1 => exact rfl))
  | dsimp only [List.set_cons_zero, List.set_cons_succ, List.append_nil, List.cons_append, List.nil_append, cxOf]))

section
variable {P : Program} {w : World} {K : PySem.W.Frag} {mg : Str → Option Value} {base : Heap} {uG : Value} {f : Addr} {fd : FuncData}
def spFrac8 : Sp := fun vs H Q _ => ∃ n d : Int, vs = [.int n, .int d] ∧ d ≠ 0 ∧ n.natAbs < 2 ^ 8010 ∧ d.natAbs < 2 ^ 8010 ∧
  ∀ p H', H p = none → Kept H H' → FrAt H' p (frc n d) → Q (.ref p) H'
theorem log_of {i : Int} {b : Nat} (h : i.natAbs < 2 ^ b) (h0 : 0 < b) : i.natAbs.log2 < b := PySem.Flt.log2_lt_of h0 h
theorem frc_ne {n d : Int} (hd : d ≠ 0) : Nat.gcd n.natAbs d.natAbs ≠ 0 := by
  intro h
  have := Nat.eq_zero_of_gcd_eq_zero_right h
  omega
theorem gcd_le_r {n d : Int} (hd : d ≠ 0) : Nat.gcd n.natAbs d.natAbs ≤ d.natAbs := Nat.gcd_le_right _ (by omega)
/-- the promise of an operation on two fractions -/
def spTwo (C : (Int × Int) → (Int × Int) → Prop) (g : (Int × Int) → (Int × Int) → Int × Int) : Sp := fun vs H Q _ => ∃ (p q : Addr) (a b : Int × Int), vs = [.ref p, .ref q] ∧ FrAt H p a ∧ FrAt H q b ∧ Small 4000 a ∧ Small 4000 b ∧ C a b ∧
  ∀ r H', H r = none → Kept H H' → FrAt H' r (g a b) → Q (.ref r) H'
def minusF (a b : Int × Int) : Int × Int := frc (a.1 * b.2 - b.1 * a.2) (a.2 * b.2)
def overF (a b : Int × Int) : Int × Int := frc (a.1 * b.2) (a.2 * b.1)
abbrev Pos2 (a b : Int × Int) : Prop := 0 < a.2 ∧ 0 < b.2
theorem mul_small {x y : Int} (hx : x.natAbs < 2 ^ 4000) (hy : y.natAbs < 2 ^ 4000) : (x * y).natAbs < 2 ^ 8000 := wide_lt hx hy
theorem mul_ok {x y : Int} (hx : x.natAbs < 2 ^ 4000) (hy : y.natAbs < 2 ^ 4000) : CMulW x y := wide_mul hx hy (by decide) (by decide) (by decide)
theorem pow_up {x : Nat} (h : x < 2 ^ 8000) : x < 2 ^ 8010 := Nat.lt_of_lt_of_le h (Nat.pow_le_pow_right (by decide) (by decide))
theorem add_small {x y : Int} (hx : x.natAbs < 2 ^ 8000) (hy : y.natAbs < 2 ^ 8000) : (x + y).natAbs < 2 ^ 8010 := by
  have h : (2 : Nat) ^ 800 + 2 ^ 8000 ≤ 2 ^ 8010 := by decide
  omega
theorem sub_small {x y : Int} (hx : x.natAbs < 2 ^ 8000) (hy : y.natAbs < 2 ^ 8000) : (x - y).natAbs < 2 ^ 8010 := by
  have h : (2 : Nat) ^ 800 + 2 ^ 8000 ≤ 2 ^ 8010 := by decide
  omega
theorem mul_ne {x y : Int} (hx : 0 < x) (hy : 0 < y) : x * y ≠ 0 := Int.mul_ne_zero (by omega) (by omega)
def lessF (a b : Int × Int) : Bool := decide (a.1 * b.2 < b.1 * a.2)
def spLess : Sp := fun vs H Q _ => ∃ (p q : Addr) (a b : Int × Int), vs = [.ref p, .ref q] ∧ FrAt H p a ∧ FrAt H q b ∧ Small 4000 a ∧ Small 4000 b ∧ Q (.bl (lessF a b)) H
def spGreatest : Sp := fun vs H Q _ => ∃ (p q : Addr) (a b : Int × Int), vs = [.ref p, .ref q] ∧ FrAt H p a ∧ FrAt H q b ∧ Small 4000 a ∧ Small 4000 b ∧ Q (.ref (if lessF a b = true then q else p)) H
end
end Ky

namespace Ky
open PySem PySem.Spec PyProof.Rows L2
local macro_rules | `(tactic| walk_at "rd") => `(tactic| repeat (first
  | with_reducible refine w_seq ?_
  | with_reducible refine w_asg ?_
  | with_reducible refine w_ret ?_
  | with_reducible refine w_drop ?_
  | with_reducible refine w_ifs ?_
  | ((with_reducible refine' w_var ?hh ?_); (case hh => exact rfl))
  | with_reducible refine w_c ?_
  | with_reducible refine w_op ?_
  | with_reducible refine w_un ?_
  | with_reducible refine w_I0 ?_
  | with_reducible refine w_U ?_
  | with_reducible refine w_nil ?_
  | with_reducible refine w_cons ?_
  | with_reducible refine w_call ?_
  | with_reducible refine w_cb ?_
  | with_reducible refine w_test ?_
  | with_reducible refine w_B ?_
  | with_reducible refine w_bl ?_
  | with_reducible refine w_and ?_
  | with_reducible refine w_or ?_
  | with_reducible refine w_not ?_
  | with_reducible refine w_ife ?_
  | with_reducible refine w_gRd ?_
  | with_reducible refine w_andV ?_
  | with_reducible refine w_orV ?_
  | with_reducible refine w_notV ?_
  | with_reducible refine w_chain ?_
  | with_reducible refine w_din ?_
  | with_reducible refine w_isi_ii ?_
  | with_reducible refine w_isi_ib ?_
  | with_reducible refine w_isi_it ?_
  | with_reducible refine w_isi_st ?_
  | ((with_reducible refine w_isi_tt ?h1 ?_); (case h1 => first | assumption | exact upd_same))
  | with_reducible refine if_t rfl ?_
  | with_reducible refine if_f rfl ?_
  | with_reducible refine w_tup ?_
  | with_reducible refine w_lst ?_
  | with_reducible refine w_next ?_
  | with_reducible refine w_bm ?_
  | with_reducible refine w_sl ?_
  | with_reducible refine w_part ?_
  | with_reducible refine w_nop ?_
  | with_reducible refine w_isI ?_
  | with_reducible refine w_yes ?_
  | with_reducible refine w_gn ?_
  | with_reducible refine w_gsub ?_
  | ((with_reducible refine' w_setL ?h1 ?h2 ?_); (case h1 => first | assumption | exact upd_same); (case h2 => exact rfl))
  | with_reducible refine w_asgG ?_
  | with_reducible refine w_m1 ?_
  | with_reducible refine w_isS ?_
  | with_reducible refine w_tyS ?_
  | ((with_reducible refine' w_tyL ?h1 ?_); (case h1 => first | assumption | exact upd_same))
  | ((with_reducible refine' w_ixT ?h1 ?h2 ?_); (case h1 => first | assumption | exact upd_same); (case h2 => exact rfl))
  | ((with_reducible refine' w_ixL ?h1 ?h2 ?_); (case h1 => first | assumption | exact upd_same); (case h2 => exact rfl))
  | ((with_reducible refine w_eq ?h1 ?_); (case h1 => exact rfl))
  | ((with_reducible refine w_ne ?h1 ?_); (case h1 => exact rfl))
  | dsimp only [List.set_cons_zero, List.set_cons_succ, List.append_nil, List.cons_append, List.nil_append, cxOf]))

section
variable {P : Program} {w : World} {K : PySem.W.Frag} {mg : Str → Option Value} {base : Heap} {uG : Value} {f : Addr} {fd : FuncData}
theorem abs_natI (n : Int) : (if n < 0 then -n else n) = ((n.natAbs : Nat) : Int) := by split <;> omega
def spGcd : Sp := fun vs H Q _ => ∃ a b : Nat, vs = [.int (a : Int), .int (b : Int)] ∧ a < 2 ^ 8010 ∧ b < 2 ^ 8010 ∧ Q (.int ((Nat.gcd a b : Nat) : Int)) H
/-! sums and products of up to three -/
/-- the list at l holds the fractions as -/
def FrsAt (K : PySem.W.Frag) (H : Hp) (l : Addr) (as : List (Int × Int)) : Prop := ∃ ps : List Addr, SqL K H l (ps.map V.ref) ∧ ps.length = as.length ∧ ∀ (i : Nat) p, ps[i]? = some p → ∃ a, as[i]? = some a ∧ FrAt H p a
def spRow (K : PySem.W.Frag) (g : List (Int × Int) → Int × Int) : Sp := fun vs H Q _ => ∃ (l : Addr) (as : List (Int × Int)), vs = [.ref l] ∧ FrsAt K H l as ∧ as.length ≤ 64 ∧ (∀ a ∈ as, 0 < a.2 ∧ Small 50 a) ∧
  ∀ r H', H r = none → Kept H H' → FrAt H' r (g as) → Q (.ref r) H'
theorem Kept.fr {H H' : Hp} {p : Addr} {a : Int × Int} (e : Kept H H') (h : FrAt H p a) : FrAt H' p a := Kept.tup e h
theorem map_ref {ps : List Addr} {i : Nat} {y : V} (h : (ps.map V.ref)[i]? = some y) : ∃ p, y = V.ref p ∧ ps[i]? = some p := by
  rw [List.getElem?_map] at h
  cases e : ps[i]? with
  | none =>
    rw [e] at h
    cases h
  | some u =>
    rw [e] at h
    exact ⟨u, (Option.some.inj h).symm, rfl⟩
theorem foldl_take {α β : Type} (g : β → α → β) (b : β) (as : List α) {i : Nat} {a : α} (h : as[i]? = some a) : (as.take (i + 1)).foldl g b = g ((as.take i).foldl g b) a := by
  rw [List.take_add_one, h, List.foldl_append]
  rfl
theorem lt_mul {x y : Int} {a b : Nat} (hx : x.natAbs < 2 ^ a) (hy : y.natAbs < 2 ^ b) {c : Nat} (h : a + b ≤ c) : (x * y).natAbs < 2 ^ c := Nat.lt_of_lt_of_le (wide_lt hx hy) (Nat.pow_le_pow_right (by decide) h)
theorem lt_add {x y : Int} {a : Nat} (hx : x.natAbs < 2 ^ a) (hy : y.natAbs < 2 ^ a) {c : Nat} (h : a + 1 ≤ c) : (x + y).natAbs < 2 ^ c := by
  have h2 : 2 ^ (a + 1) ≤ 2 ^ c := Nat.pow_le_pow_right (by decide) h
  rw [Nat.pow_succ] at h2
  omega
theorem lt_up {x : Nat} {a b : Nat} (hx : x < 2 ^ a) (h : a ≤ b) : x < 2 ^ b := Nat.lt_of_lt_of_le hx (Nat.pow_le_pow_right (by decide) h)
theorem plus_small {x y : Int × Int} {s : Nat} (h1 : Small s x) (h2 : Small 50 y) (p1 : 0 < x.2) (p2 : 0 < y.2) : Small (s + 60) (plusF x y) :=
  frc_small (mul_ne p1 p2) (lt_add (lt_mul h1.1 h2.2 (c := s + 50) (by omega)) (lt_mul h2.1 h1.2 (c := s + 50) (by omega)) (by omega)) (lt_mul h1.2 h2.2 (by omega))
theorem times_small {x y : Int × Int} {s : Nat} (h1 : Small s x) (h2 : Small 50 y) (p1 : 0 < x.2) (p2 : 0 < y.2) : Small (s + 60) (timesF x y) :=
  frc_small (mul_ne p1 p2) (lt_mul h1.1 h2.1 (by omega)) (lt_mul h1.2 h2.2 (by omega))
theorem small_one {z : Int} (h : z.natAbs ≤ 1 := by decide) : Small (60 * 0 + 1) (z, 1) := ⟨Nat.lt_of_le_of_lt h (by decide), show (1 : Int).natAbs < 2 ^ (60 * 0 + 1) by decide⟩
theorem Small.up {a : Int × Int} {m n : Nat} (h : Small m a) (l : m ≤ n) : Small n a := ⟨lt_up h.1 l, lt_up h.2 l⟩
end
end Ky

namespace Ky
open PySem PySem.Spec PyProof.Rows L2
local macro_rules | `(tactic| walk_at "rd") => `(tactic| repeat (first
  | with_reducible refine w_for1 ?_
  | with_reducible refine w_for2 ?_
  | with_reducible refine w_forL ?_
  | with_reducible refine w_forT ?_
  | with_reducible refine w_lc1 ?_
  | with_reducible refine w_lcL ?_
  | with_reducible refine w_lcT ?_
  | with_reducible refine w_seq ?_
  | with_reducible refine w_asg ?_
  | with_reducible refine w_ret ?_
  | with_reducible refine w_drop ?_
  | with_reducible refine w_ifs ?_
  | ((with_reducible refine' w_var ?hh ?_); (case hh => exact rfl))
  | with_reducible refine w_c ?_
  | with_reducible refine w_op ?_
  | with_reducible refine w_un ?_
  | with_reducible refine w_I0 ?_
  | with_reducible refine w_U ?_
  | with_reducible refine w_nil ?_
  | with_reducible refine w_cons ?_
  | with_reducible refine w_call ?_
  | with_reducible refine w_cb ?_
  | with_reducible refine w_test ?_
  | with_reducible refine w_B ?_
  | with_reducible refine w_bl ?_
  | with_reducible refine w_and ?_
  | with_reducible refine w_or ?_
  | with_reducible refine w_not ?_
  | with_reducible refine w_ife ?_
  | with_reducible refine w_gRd ?_
  | with_reducible refine w_andV ?_
  | with_reducible refine w_orV ?_
  | with_reducible refine w_notV ?_
  | with_reducible refine w_chain ?_
  | with_reducible refine w_din ?_
  | with_reducible refine w_isi_ii ?_
  | with_reducible refine w_isi_ib ?_
  | with_reducible refine w_isi_it ?_
  | with_reducible refine w_isi_st ?_
  | ((with_reducible refine w_isi_tt ?h1 ?_); (case h1 => first | assumption | exact upd_same))
  | with_reducible refine if_t rfl ?_
  | with_reducible refine if_f rfl ?_
  | with_reducible refine w_tup ?_
  | with_reducible refine w_lst ?_
  | with_reducible refine w_next ?_
  | with_reducible refine w_bm ?_
  | with_reducible refine w_sl ?_
  | with_reducible refine w_part ?_
  | with_reducible refine w_nop ?_
  | with_reducible refine w_isI ?_
  | with_reducible refine w_yes ?_
  | with_reducible refine w_gn ?_
  | with_reducible refine w_gsub ?_
  | ((with_reducible refine' w_setL ?h1 ?h2 ?_); (case h1 => first | assumption | exact upd_same); (case h2 => exact rfl))
  | with_reducible refine w_asgG ?_
  | with_reducible refine w_m1 ?_
  | with_reducible refine w_isS ?_
  | with_reducible refine w_tyS ?_
  | ((with_reducible refine' w_tyL ?h1 ?_); (case h1 => first | assumption | exact upd_same))
  | ((with_reducible refine' w_ixT ?h1 ?h2 ?_); (case h1 => first | assumption | exact upd_same); (case h2 => exact rfl))
  | ((with_reducible refine' w_ixL ?h1 ?h2 ?_); (case h1 => first | assumption | exact upd_same); (case h2 => exact rfl))
  | ((with_reducible refine w_eq ?h1 ?_); (case h1 => exact rfl))
  | ((with_reducible refine w_ne ?h1 ?_); (case h1 => exact rfl))
  | dsimp only [List.set_cons_zero, List.set_cons_succ, List.append_nil, List.cons_append, List.nil_append, cxOf]))

/-! ### fillings -/
def longF (cs : List (List Int)) (v : Int) : List (List Int) := cs.flatMap fun c => [c ++ [-v], c ++ [v]]
def fillF (vs : List Int) : List (List Int) := vs.foldl longF [[]]
theorem longF_len (cs : List (List Int)) (v : Int) : (longF cs v).length = 2 * cs.length := by
  unfold longF
  induction cs with
  | nil => rfl
  | cons c cs ih =>
    rw [List.flatMap_cons, List.length_append, ih, List.length_cons]
    show 2 + 2 * cs.length = 2 * (cs.length + 1)
    omega
theorem longF_app (cs ds : List (List Int)) (v : Int) : longF (cs ++ ds) v = longF cs v ++ longF ds v := by
  unfold longF
  rw [List.flatMap_append]
theorem longF_one (c : List Int) (v : Int) : longF [c] v = [c ++ [-v], c ++ [v]] := rfl
theorem fillF_snoc (vs : List Int) (v : Int) : fillF (vs ++ [v]) = longF (fillF vs) v := by
  unfold fillF
  rw [List.foldl_append]
  rfl
theorem fillF_len : ∀ vs : List Int, (fillF vs).length = 2 ^ vs.length := by
  intro vs
  unfold fillF
  have h : ∀ (vs : List Int) (cs : List (List Int)), (vs.foldl longF cs).length = 2 ^ vs.length * cs.length := by
    intro vs
    induction vs with
    | nil => intro cs; simp
    | cons v vs ih =>
      intro cs
      rw [List.foldl_cons, ih, longF_len, List.length_cons, Nat.pow_succ, Nat.mul_assoc]
  rw [h]
  simp
/-- what a filling is: for each variable the one or the other literal -/
def IsFill : List Int → List Int → Prop
  | [], f => f = []
  | v :: vs, f => ∃ g, IsFill vs g ∧ (f = -v :: g ∨ f = v :: g)
theorem isFill_snoc : ∀ {vs f : List Int} {v l : Int}, IsFill vs f → (l = -v ∨ l = v) → IsFill (vs ++ [v]) (f ++ [l])
  | [], f, v, l, h, hl => by
    have h : f = [] := h
    subst h
    exact ⟨[], rfl, hl.elim (fun e => .inl (by rw [e]; rfl)) (fun e => .inr (by rw [e]; rfl))⟩
  | u :: us, f, v, l, h, hl => by
    obtain ⟨g, hg, e⟩ := h
    exact ⟨g ++ [l], isFill_snoc hg hl, e.elim (fun e => .inl (by rw [e]; rfl)) (fun e => .inr (by rw [e]; rfl))⟩
theorem isFill_fold : ∀ (vs us : List Int) (cs : List (List Int)), (∀ c ∈ cs, IsFill us c) → ∀ f ∈ vs.foldl longF cs, IsFill (us ++ vs) f
  | [], us, cs, h, f, hf => by
    rw [List.append_nil]
    exact h f hf
  | v :: vs, us, cs, h, f, hf => by
    rw [List.foldl_cons] at hf
    have q := isFill_fold vs (us ++ [v]) (longF cs v) (fun c hc => by
      obtain ⟨d, hd, hc⟩ := List.mem_flatMap.mp hc
      simp only [List.mem_cons, List.not_mem_nil, or_false] at hc
      rcases hc with rfl | rfl
      · exact isFill_snoc (h d hd) (.inl rfl)
      · exact isFill_snoc (h d hd) (.inr rfl)) f hf
    rw [List.append_assoc] at q
    exact q
theorem fillF_is {vs f : List Int} (h : f ∈ fillF vs) : IsFill vs f := by
  have q := isFill_fold vs [] [[]] (fun c hc => List.mem_singleton.mp hc) f h
  exact q
theorem isFill_len : ∀ {vs f : List Int}, IsFill vs f → f.length = vs.length
  | [], f, h => by
    have h : f = [] := h
    rw [h] <;> rfl
  | v :: vs, f, h => by
    obtain ⟨g, hg, e⟩ := h
    rcases e with rfl | rfl <;> rw [List.length_cons, List.length_cons, isFill_len hg]
theorem w_catA {K : PySem.W.Frag} {H : Hp} {Q : VK} {a b : Addr} {xs ys : List Int} (ha : H a = some (.tup (xs.map V.int))) (hb : H b = some (.tup (ys.map V.int))) (hl : xs.length + ys.length ≤ 1000) (q : ∀ p H', Kept H H' → H' p = some (.tup ((xs ++ ys).map V.int)) → Q (.ref p) H') : rCatA K (.ref a) (.ref b) H Q := by
  have hz : 1000 ≤ sizeLine := by decide
  refine ⟨a, b, _, _, rfl, rfl, SqT.of ha, SqT.of hb, by rw [List.length_map, List.length_map]; omega, fun h => ?_, fun _ h => ?_, fun _ _ p hp => ?_⟩
  · have e : xs = [] := List.map_eq_nil_iff.mp h
    subst e
    exact q b H (Kept.refl _) hb
  · have e : ys = [] := List.map_eq_nil_iff.mp h
    subst e
    exact q a H (Kept.refl _) (by rw [List.append_nil]; exact ha)
  · exact q p _ (Kept.new hp) (by rw [List.map_append]; exact upd_same)
theorem w_iT {K : PySem.W.Frag} {te : TE} {σ : L2.St} {H : Hp} {R : It → Hp → Prop} (q : te σ H fun x H1 => ∃ a, x = .ref a ∧ (∃ xs, SqT K H1 a xs) ∧ R (Itt K a) H1) : iTup K te σ H R := q
theorem ClsAt.nil {H : Hp} : ClsAt H [] [] := ⟨rfl, fun i b c h => by simp at h⟩
def spLLonger : Sp := fun vs H Q _ => ∃ (a : Addr) (bs : List Addr) (cs : List (List Int)) (v : Int), vs = [.ref a, .int v] ∧ H a = some (.lst (bs.map V.ref)) ∧ ClsAt H bs cs ∧ cs.length ≤ 256 ∧ (∀ c ∈ cs, c.length ≤ 20) ∧
  ∀ p H' bs', Kept H H' → H p = none → H' p = some (.lst (bs'.map V.ref)) → ClsAt H' bs' (longF cs v) → Q (.ref p) H'
def spFill : Sp := fun vs H Q _ => ∃ (a : Addr) (ns : List Int), vs = [.ref a] ∧ H a = some (.tup (ns.map V.int)) ∧ ns.length ≤ 8 ∧
  ∀ p H' bs', Kept H H' → H p = none → H' p = some (.lst (bs'.map V.ref)) → ClsAt H' bs' (fillF ns) → Q (.ref p) H'
section
variable {P : Program} {w : World} {K : PySem.W.Frag} {mg : Str → Option Value} {base : Heap} {uG : Value} {f : Addr} {fd : FuncData}
end
end Ky

namespace Ky
open PySem PySem.Spec PyProof.Rows L2
local macro_rules | `(tactic| walk_at "rd") => `(tactic| repeat (first
  | with_reducible refine w_for1 ?_
  | with_reducible refine w_for2 ?_
  | with_reducible refine w_forL ?_
  | with_reducible refine w_forT ?_
  | with_reducible refine w_lc1 ?_
  | with_reducible refine w_lcL ?_
  | with_reducible refine w_lcT ?_
  | with_reducible refine w_seq ?_
  | with_reducible refine w_asg ?_
  | with_reducible refine w_ret ?_
  | with_reducible refine w_drop ?_
  | with_reducible refine w_ifs ?_
  | ((with_reducible refine' w_var ?hh ?_); (case hh => exact rfl))
  | with_reducible refine w_c ?_
  | with_reducible refine w_op ?_
  | with_reducible refine w_un ?_
  | with_reducible refine w_I0 ?_
  | with_reducible refine w_U ?_
  | with_reducible refine w_nil ?_
  | with_reducible refine w_cons ?_
  | with_reducible refine w_call ?_
  | with_reducible refine w_cb ?_
  | with_reducible refine w_test ?_
  | with_reducible refine w_B ?_
  | with_reducible refine w_bl ?_
  | with_reducible refine w_and ?_
  | with_reducible refine w_or ?_
  | with_reducible refine w_not ?_
  | with_reducible refine w_ife ?_
  | with_reducible refine w_gRd ?_
  | with_reducible refine w_andV ?_
  | with_reducible refine w_orV ?_
  | with_reducible refine w_notV ?_
  | with_reducible refine w_chain ?_
  | with_reducible refine w_din ?_
  | with_reducible refine w_isi_ii ?_
  | with_reducible refine w_isi_ib ?_
  | with_reducible refine w_isi_it ?_
  | with_reducible refine w_isi_st ?_
  | ((with_reducible refine w_isi_tt ?h1 ?_); (case h1 => first | assumption | exact upd_same))
  | with_reducible refine if_t rfl ?_
  | with_reducible refine if_f rfl ?_
  | with_reducible refine w_tup ?_
  | with_reducible refine w_lst ?_
  | with_reducible refine w_next ?_
  | with_reducible refine w_bm ?_
  | with_reducible refine w_sl ?_
  | with_reducible refine w_part ?_
  | with_reducible refine w_nop ?_
  | with_reducible refine w_isI ?_
  | with_reducible refine w_yes ?_
  | with_reducible refine w_gn ?_
  | with_reducible refine w_gsub ?_
  | ((with_reducible refine' w_setL ?h1 ?h2 ?_); (case h1 => first | assumption | exact upd_same); (case h2 => exact rfl))
  | with_reducible refine w_asgG ?_
  | with_reducible refine w_m1 ?_
  | with_reducible refine w_isS ?_
  | with_reducible refine w_tyS ?_
  | ((with_reducible refine' w_tyL ?h1 ?_); (case h1 => first | assumption | exact upd_same))
  | ((with_reducible refine' w_ixT ?h1 ?h2 ?_); (case h1 => first | assumption | exact upd_same); (case h2 => exact rfl))
  | ((with_reducible refine' w_ixL ?h1 ?h2 ?_); (case h1 => first | assumption | exact upd_same); (case h2 => exact rfl))
  | ((with_reducible refine w_eq ?h1 ?_); (case h1 => exact rfl))
  | ((with_reducible refine w_ne ?h1 ?_); (case h1 => exact rfl))
  | dsimp only [List.set_cons_zero, List.set_cons_succ, List.append_nil, List.cons_append, List.nil_append, cxOf]))

/-! ### a formula drawn -/
structure FormF (most hm cl : Nat) (S Hd : List Int) (rc : List (List Int)) : Prop where
  sAsc : S.Pairwise (· < ·)
  hAsc : Hd.Pairwise (· < ·)
  dis : ∀ v ∈ S, v ∉ Hd
  sVar : ∀ v ∈ S, 1 ≤ v ∧ v ≤ 999
  hVar : ∀ v ∈ Hd, 1 ≤ v ∧ v ≤ 999
  sPos : 1 ≤ S.length
  sLen : S.length ≤ most
  hLen : Hd.length ≤ hm
  rLen : rc.length ≤ cl
  rAsc : ascC rc
  cls : ∀ c ∈ rc, isClauseF c = true ∧ c.length ≤ 5 ∧ ∀ n ∈ c, absI n ∈ S ∨ absI n ∈ Hd
/-- a formula in the heap -/
structure FormAt (H : Hp) (p : Addr) (S Hd : List Int) (rc : List (List Int)) : Prop where
  ex : ∃ (s h r : Addr) (bs : List Addr), H p = some (.tup [.ref s, .ref h, .ref r]) ∧ H s = some (.tup (S.map V.int)) ∧ H h = some (.tup (Hd.map V.int)) ∧ H r = some (.tup (bs.map V.ref)) ∧ ClsAt H bs rc
theorem FormAt.kept {H H' : Hp} {p : Addr} {S Hd : List Int} {rc : List (List Int)} (h : FormAt H p S Hd rc) (k : Kept H H') : FormAt H' p S Hd rc := by
  obtain ⟨s, t, r, bs, h1, h2, h3, h4, h5⟩ := h.ex
  exact ⟨s, t, r, bs, k.tup h1, k.tup h2, k.tup h3, k.tup h4, h5.kept k⟩
theorem FormAt.keptC {d c : Addr} {H H' : Hp} {p : Addr} {S Hd : List Int} {rc : List (List Int)} (h : FormAt H p S Hd rc) (k : KeptC d c H H') (hd : DrwC d c H) : FormAt H' p S Hd rc := by
  obtain ⟨s, t, r, bs, h1, h2, h3, h4, h5⟩ := h.ex
  exact ⟨s, t, r, bs, k.tup hd h1, k.tup hd h2, k.tup hd h3, k.tup hd h4, h5.keptC k hd⟩
def spLFormula : Sp := fun vs H Q _ => ∃ (d c : Addr) (most hm cl : Nat), vs = [.ref d, .int most, .int hm, .int cl] ∧ 1 ≤ most ∧ most + hm ≤ 11 ∧ cl ≤ 60 ∧ DrwC d c H ∧
  ∀ p H' S Hd rc, KeptC d c H H' → FormAt H' p S Hd rc → FormF most hm cl S Hd rc → Q (.ref p) H'
theorem isLit_of {u z : Int} (h : 1 ≤ u ∧ u ≤ 999) (hz : z = 1 ∨ z = -1) : isLit (u * z) = true ∧ absI (u * z) = u := by
  have e : absI (u * z) = u := by
    unfold absI
    rcases hz with rfl | rfl
    · rw [Int.mul_one, if_neg (by omega)]
    · rw [Int.mul_neg, Int.mul_one, if_pos (by omega)]
      omega
  refine ⟨?_, e⟩
  unfold isLit isVar
  rw [e]
  simp [h.1, h.2]
theorem erase_map {α β : Type} (g : α → β) : ∀ (xs : List α) (k : Nat), (xs.map g).eraseIdx k = (xs.eraseIdx k).map g
  | [], _ => rfl
  | _ :: _, 0 => rfl
  | x :: xs, k + 1 => by
    rw [List.map_cons, List.eraseIdx_cons_succ, List.eraseIdx_cons_succ, List.map_cons, erase_map g xs k]
theorem erase_perm {α : Type} : ∀ {xs : List α} {k : Nat} {y : α}, xs[k]? = some y → (y :: xs.eraseIdx k).Perm xs
  | [], _, _, h => by simp at h
  | x :: xs, 0, y, h => by
    have e : x = y := by simpa using h
    subst e
    exact List.Perm.refl _
  | x :: xs, k + 1, y, h => by
    rw [List.eraseIdx_cons_succ]
    have q := erase_perm (xs := xs) (k := k) (y := y) (by simpa using h)
    exact (List.Perm.swap x y _).trans (q.cons x)
theorem lit_ne {x : Int} (h : isLit x = true) : x ≠ 0 := fun e => by
  subst e
  exact absurd h (by decide)
theorem noBoth_snoc {row : List Int} {x : Int} (h : noBoth row) (h2 : -x ∉ row) (h3 : x ≠ 0) : noBoth (row ++ [x]) := fun l hl hn => by
  rcases List.mem_append.mp hl with a | a
  · rcases List.mem_append.mp hn with b | b
    · exact h l a b
    · have e : -l = x := List.mem_singleton.mp b
      exact h2 (by rw [← e, Int.neg_neg]; exact a)
  · have e : l = x := List.mem_singleton.mp a
    subst e
    rcases List.mem_append.mp hn with b | b
    · exact h2 b
    · have e : -l = l := List.mem_singleton.mp b
      omega
theorem lit_all {ls : List Int} (h : ∀ n ∈ ls, isLit n = true) : ∀ n ∈ ls, n.natAbs < 2 ^ 60 := fun n hn => lit_small (h n hn)
section
variable {P : Program} {w : World} {K : PySem.W.Frag} {mg : Str → Option Value} {base : Heap} {uG : Value} {f : Addr} {fd : FuncData}
end
end Ky

namespace Ky
open PySem PySem.Spec PyProof.Rows L2
local macro_rules | `(tactic| walk_at "rd") => `(tactic| repeat (first
  | with_reducible refine w_for1 ?_
  | with_reducible refine w_for2 ?_
  | with_reducible refine w_forL ?_
  | with_reducible refine w_forT ?_
  | with_reducible refine w_lc1 ?_
  | with_reducible refine w_lcL ?_
  | with_reducible refine w_lcT ?_
  | with_reducible refine w_seq ?_
  | with_reducible refine w_asg ?_
  | with_reducible refine w_ret ?_
  | with_reducible refine w_drop ?_
  | with_reducible refine w_ifs ?_
  | ((with_reducible refine' w_var ?hh ?_); (case hh => exact rfl))
  | with_reducible refine w_c ?_
  | with_reducible refine w_op ?_
  | with_reducible refine w_un ?_
  | with_reducible refine w_I0 ?_
  | with_reducible refine w_U ?_
  | with_reducible refine w_nil ?_
  | with_reducible refine w_cons ?_
  | with_reducible refine w_call ?_
  | with_reducible refine w_cb ?_
  | with_reducible refine w_test ?_
  | with_reducible refine w_B ?_
  | with_reducible refine w_bl ?_
  | with_reducible refine w_and ?_
  | with_reducible refine w_or ?_
  | with_reducible refine w_not ?_
  | with_reducible refine w_ife ?_
  | with_reducible refine w_gRd ?_
  | with_reducible refine w_andV ?_
  | with_reducible refine w_orV ?_
  | with_reducible refine w_notV ?_
  | with_reducible refine w_chain ?_
  | with_reducible refine w_din ?_
  | with_reducible refine w_isi_ii ?_
  | with_reducible refine w_isi_ib ?_
  | with_reducible refine w_isi_it ?_
  | with_reducible refine w_isi_st ?_
  | ((with_reducible refine w_isi_tt ?h1 ?_); (case h1 => first | assumption | exact upd_same))
  | with_reducible refine if_t rfl ?_
  | with_reducible refine if_f rfl ?_
  | with_reducible refine w_tup ?_
  | with_reducible refine w_lst ?_
  | with_reducible refine w_next ?_
  | with_reducible refine w_bm ?_
  | with_reducible refine w_sl ?_
  | with_reducible refine w_part ?_
  | with_reducible refine w_nop ?_
  | with_reducible refine w_isI ?_
  | with_reducible refine w_yes ?_
  | with_reducible refine w_gn ?_
  | with_reducible refine w_gsub ?_
  | ((with_reducible refine' w_setL ?h1 ?h2 ?_); (case h1 => first | assumption | exact upd_same); (case h2 => exact rfl))
  | with_reducible refine w_asgG ?_
  | with_reducible refine w_m1 ?_
  | with_reducible refine w_isS ?_
  | with_reducible refine w_tyS ?_
  | ((with_reducible refine' w_tyL ?h1 ?_); (case h1 => first | assumption | exact upd_same))
  | ((with_reducible refine' w_ixT ?h1 ?h2 ?_); (case h1 => first | assumption | exact upd_same); (case h2 => exact rfl))
  | ((with_reducible refine' w_ixL ?h1 ?h2 ?_); (case h1 => first | assumption | exact upd_same); (case h2 => exact rfl))
  | ((with_reducible refine w_eq ?h1 ?_); (case h1 => exact rfl))
  | ((with_reducible refine w_ne ?h1 ?_); (case h1 => exact rfl))
  | dsimp only [List.set_cons_zero, List.set_cons_succ, List.append_nil, List.cons_append, List.nil_append, cxOf]))

/-! ### weights drawn -/
structure WtAt (H : Hp) (q : Addr) (x : Int × (Int × Int)) : Prop where
  ex : ∃ fq : Addr, H q = some (.tup [.int x.1, .ref fq]) ∧ FrAt H fq x.2
theorem WtAt.kept {H H' : Hp} {q : Addr} {x : Int × (Int × Int)} (h : WtAt H q x) (k : Kept H H') : WtAt H' q x := by
  obtain ⟨fq, h1, h2⟩ := h.ex
  exact ⟨fq, k.tup h1, k.tup h2⟩
theorem WtAt.keptC {d c : Addr} {H H' : Hp} {q : Addr} {x : Int × (Int × Int)} (h : WtAt H q x) (k : KeptC d c H H') (hd : DrwC d c H) : WtAt H' q x := by
  obtain ⟨fq, h1, h2⟩ := h.ex
  exact ⟨fq, k.tup hd h1, k.tup hd h2⟩
theorem WtAt.upd {H : Hp} {D q : Addr} {xs : List V} {o : HO} {x : Int × (Int × Int)} (h : WtAt H q x) (hD : H D = some (.lst xs)) : WtAt (upd H D o) q x := by
  obtain ⟨fq, h1, h2⟩ := h.ex
  exact ⟨fq, tup_upd hD h1, tup_upd hD h2⟩
def WtsAt (H : Hp) (qs : List Addr) (ws : List (Int × (Int × Int))) : Prop := qs.length = ws.length ∧ ∀ (i : Nat) (q : Addr) (x : Int × (Int × Int)), qs[i]? = some q → ws[i]? = some x → WtAt H q x
theorem WtsAt.kept {H H' : Hp} {qs : List Addr} {ws : List (Int × (Int × Int))} (h : WtsAt H qs ws) (k : Kept H H') : WtsAt H' qs ws := ⟨h.1, fun i q x h1 h2 => (h.2 i q x h1 h2).kept k⟩
theorem WtsAt.keptC {d c : Addr} {H H' : Hp} {qs : List Addr} {ws : List (Int × (Int × Int))} (h : WtsAt H qs ws) (k : KeptC d c H H') (hd : DrwC d c H) : WtsAt H' qs ws := ⟨h.1, fun i q x h1 h2 => (h.2 i q x h1 h2).keptC k hd⟩
theorem WtsAt.upd {H : Hp} {D : Addr} {xs : List V} {o : HO} {qs : List Addr} {ws : List (Int × (Int × Int))} (h : WtsAt H qs ws) (hD : H D = some (.lst xs)) : WtsAt (upd H D o) qs ws := ⟨h.1, fun i q x h1 h2 => (h.2 i q x h1 h2).upd hD⟩
theorem WtsAt.snoc {H : Hp} {qs : List Addr} {ws : List (Int × (Int × Int))} {b : Addr} {x : Int × (Int × Int)} (h : WtsAt H qs ws) (hb : WtAt H b x) : WtsAt H (qs ++ [b]) (ws ++ [x]) := by
  refine ⟨by rw [List.length_append, List.length_append, h.1] <;> rfl, fun j q d hq hd => ?_⟩
  by_cases hj : j < qs.length
  · rw [List.getElem?_append_left hj] at hq
    rw [List.getElem?_append_left (by rw [← h.1]; exact hj)] at hd
    exact h.2 j q d hq hd
  · rw [List.getElem?_append_right (by omega)] at hq
    rw [List.getElem?_append_right (by rw [← h.1]; omega)] at hd
    rw [← h.1] at hd
    cases z : j - qs.length with
    | zero =>
      rw [z] at hq hd
      cases hq
      cases hd
      exact hb
    | succ m =>
      rw [z] at hq
      simp at hq
def litsF (S : List Int) : List Int := S.flatMap fun u => [-u, u]
theorem litsF_snoc (S : List Int) (v : Int) : litsF (S ++ [v]) = litsF S ++ [-v, v] := by
  unfold litsF
  rw [List.flatMap_append]
  rfl
theorem litsF_len (S : List Int) : (litsF S).length = 2 * S.length := by
  unfold litsF
  induction S with
  | nil => rfl
  | cons c cs ih =>
    rw [List.flatMap_cons, List.length_append, ih, List.length_cons]
    show 2 + 2 * cs.length = 2 * (cs.length + 1)
    omega
/-- a weight that is a fraction, small -/
def WtOk (x : Int × (Int × Int)) : Prop := 0 < x.2.2 ∧ Small 6 x.2 ∧ 0 ≤ x.2.1 ∧ Red x.2
structure WtF (S : List Int) (ws : List (Int × (Int × Int))) : Prop where
  sub : (ws.map (·.1)).Sublist (litsF S)
  ok : ∀ x ∈ ws, WtOk x
theorem WtF.len {S : List Int} {ws : List (Int × (Int × Int))} (h : WtF S ws) : ws.length ≤ 2 * S.length := by
  have q := h.sub.length_le
  rw [List.length_map, litsF_len] at q
  exact q
def spLWeights : Sp := fun vs H Q _ => ∃ (d c p : Addr) (S Hd : List Int) (rc : List (List Int)), vs = [.ref d, .ref p] ∧ DrwC d c H ∧ FormAt H p S Hd rc ∧ S.length ≤ 10 ∧
  ∀ q H' qs ws, KeptC d c H H' → H' q = some (.tup (qs.map V.ref)) → WtsAt H' qs ws → WtF S ws → Q (.ref q) H'
theorem frc_nn {n d : Int} (hd : 0 < d) (h : 0 ≤ n) : 0 ≤ (frc n d).1 := by
  have h1 := frc_cross (n := n) (d := d) (by omega)
  have h2 := frc_pos (n := n) (d := d) (by omega)
  have h3 : 0 ≤ (frc n d).1 * d := by
    rw [h1]
    exact Int.mul_nonneg h (by omega)
  exact Int.nonneg_of_mul_nonneg_left h3 hd
theorem wt_ok {n d l : Int} (h0 : 0 ≤ n) (h1 : n < 50) (h2 : 0 < d) (h3 : d ≤ 10) : WtOk (l, frc n d) :=
  ⟨frc_pos (by omega), frc_small (by omega) (by show n.natAbs < 64; omega) (by show d.natAbs < 64; omega), frc_nn h2 h0, frc_red (by omega)⟩
theorem w_gTup2 {K : PySem.W.Frag} {H : Hp} {b : Addr} {x y : V} {i j : Nat} {σ : L2.St} {R : L2.St → Hp → Prop} (h : H b = some (.tup [x, y])) (q : R ((σ.set i (some x)).set j (some y)) H) : gTup K 2 (gCons (gName i) (gCons (gName j) gNil)) (.ref b) σ H R :=
  ⟨b, _, rfl, SqT.of h, rfl, _, _, rfl, _, _, rfl, rfl, q⟩
/-- the weights that a filling has -/
def selF (fs : List Int) (ws : List (Int × (Int × Int))) : List (Int × Int) := (ws.filter fun x => decide (x.1 ∈ fs)).map (·.2)
def spLWeight : Sp := fun vs H Q _ => ∃ (q f : Addr) (qs : List Addr) (ws : List (Int × (Int × Int))) (fs : List Int), vs = [.ref q, .ref f] ∧ H q = some (.tup (qs.map V.ref)) ∧ WtsAt H qs ws ∧ H f = some (.tup (fs.map V.int)) ∧ (∀ x ∈ ws, WtOk x) ∧ ws.length ≤ 20 ∧
  ∀ p H', H p = none → Kept H H' → FrAt H' p (frc (prN (selF fs ws)).1 (prN (selF fs ws)).2) → Q (.ref p) H'
theorem prN_snoc (as : List (Int × Int)) (a : Int × Int) : prN (as ++ [a]) = ((prN as).1 * a.1, (prN as).2 * a.2) := by
  unfold prN
  rw [List.foldl_append]
  rfl
section
variable {P : Program} {w : World} {K : PySem.W.Frag} {mg : Str → Option Value} {base : Heap} {uG : Value} {f : Addr} {fd : FuncData}
end
end Ky

namespace Ky
open PySem PySem.Spec PyProof.Rows L2
local macro_rules | `(tactic| walk_at "rd") => `(tactic| repeat (first
  | with_reducible refine w_for1 ?_
  | with_reducible refine w_for2 ?_
  | with_reducible refine w_forL ?_
  | with_reducible refine w_forT ?_
  | with_reducible refine w_lc1 ?_
  | with_reducible refine w_lcL ?_
  | with_reducible refine w_lcT ?_
  | with_reducible refine w_seq ?_
  | with_reducible refine w_asg ?_
  | with_reducible refine w_ret ?_
  | with_reducible refine w_drop ?_
  | with_reducible refine w_ifs ?_
  | ((with_reducible refine' w_var ?hh ?_); (case hh => exact rfl))
  | with_reducible refine w_c ?_
  | with_reducible refine w_op ?_
  | with_reducible refine w_un ?_
  | with_reducible refine w_I0 ?_
  | with_reducible refine w_U ?_
  | with_reducible refine w_nil ?_
  | with_reducible refine w_cons ?_
  | with_reducible refine w_call ?_
  | with_reducible refine w_cb ?_
  | with_reducible refine w_test ?_
  | with_reducible refine w_B ?_
  | with_reducible refine w_bl ?_
  | with_reducible refine w_and ?_
  | with_reducible refine w_or ?_
  | with_reducible refine w_not ?_
  | with_reducible refine w_ife ?_
  | with_reducible refine w_gRd ?_
  | with_reducible refine w_andV ?_
  | with_reducible refine w_orV ?_
  | with_reducible refine w_notV ?_
  | with_reducible refine w_chain ?_
  | with_reducible refine w_din ?_
  | with_reducible refine w_isi_ii ?_
  | with_reducible refine w_isi_bi ?_
  | with_reducible refine w_isi_bb ?_
  | with_reducible refine w_isi_bt ?_
  | with_reducible refine w_isi_si ?_
  | with_reducible refine w_isi_nt ?_
  | with_reducible refine w_isi_ib ?_
  | with_reducible refine w_isi_it ?_
  | with_reducible refine w_isi_st ?_
  | ((with_reducible refine w_isi_tt ?h1 ?_); (case h1 => first | assumption | exact upd_same))
  | with_reducible refine if_t rfl ?_
  | with_reducible refine if_f rfl ?_
  | with_reducible refine w_tup ?_
  | with_reducible refine w_lst ?_
  | with_reducible refine w_next ?_
  | with_reducible refine w_bm ?_
  | with_reducible refine w_sl ?_
  | with_reducible refine w_part ?_
  | with_reducible refine w_nop ?_
  | with_reducible refine w_isI ?_
  | with_reducible refine w_yes ?_
  | with_reducible refine w_gn ?_
  | with_reducible refine w_gsub ?_
  | ((with_reducible refine' w_setL ?h1 ?h2 ?_); (case h1 => first | assumption | exact upd_same); (case h2 => exact rfl))
  | with_reducible refine w_asgG ?_
  | with_reducible refine w_m1 ?_
  | with_reducible refine w_isS ?_
  | with_reducible refine w_tyS ?_
  | ((with_reducible refine' w_tyL ?h1 ?_); (case h1 => first | assumption | exact upd_same))
  | ((with_reducible refine' w_ixT ?h1 ?h2 ?_); (case h1 => first | assumption | exact upd_same); (case h2 => exact rfl))
  | ((with_reducible refine' w_ixL ?h1 ?h2 ?_); (case h1 => first | assumption | exact upd_same); (case h2 => exact rfl))
  | ((with_reducible refine w_eq ?h1 ?_); (case h1 => exact rfl))
  | ((with_reducible refine w_ne ?h1 ?_); (case h1 => exact rfl))
  | dsimp only [List.set_cons_zero, List.set_cons_succ, List.append_nil, List.cons_append, List.nil_append, cxOf]))

/-! ### values of any kind, as far as the law makes them -/
inductive At where
  | i (n : Int)
  | b (x : Bool)
  | s (z : Str)
deriving DecidableEq
def At.v : At → V
  | .i n => .int n
  | .b x => .bl x
  | .s z => .str z
def At.dat : At → PyData
  | .i n => .int n
  | .b x => .bool x
  | .s z => .str z
def At.whole : At → Bool
  | .i _ => true
  | _ => false
def At.vr : At → Bool
  | .i n => isVar n
  | _ => false
inductive Fv where
  | n (k : Int)
  | p (n d : Int)
def FvAt (H : Hp) (v : V) : Fv → Prop
  | .n k => v = .int k
  | .p n d => ∃ q, v = .ref q ∧ H q = some (.tup [.int n, .int d])
def isFracF : Fv → Bool
  | .n _ => false
  | .p n d => decide (1 ≤ d) && decide ((Nat.gcd n.natAbs d.natAbs : Int) = 1)
def spWhole : Sp := fun vs H Q _ => ∃ x : At, vs = [x.v] ∧ Q (.bl x.whole) H
def spVar : Sp := fun vs H Q _ => ∃ x : At, vs = [x.v] ∧ Q (.bl x.vr) H
def spLit : Sp := fun vs H Q _ => ∃ n, vs = [.int n] ∧ Q (.bl (isLit n)) H
def spIsFrac : Sp := fun vs H Q _ => ∃ (v : V) (x : Fv), vs = [v] ∧ FvAt H v x ∧ Q (.bl (isFracF x)) H
def spAsc (K : PySem.W.Frag) (P0 : Addr) : Sp := fun vs H Q _ => ∃ (a : Addr) (xs : List V) (ds : List PyData), vs = [.ref a] ∧ (H a = some (.lst xs) ∨ H a = some (.tup xs)) ∧ xs.length ≤ sizeLine ∧ DpAll K H xs ds ∧ PySem.W.AllAlike ds ∧ (∀ d ∈ ds, d ≠ .none ∧ d.depth ≤ 60) ∧ GxR.TabG H P0 ∧ ∀ H', Kept H H' → Q (.bl (ascD ds)) H'
def spVarsOf : Sp := fun vs H Q _ => ∃ (a : Addr) (bs : List Addr) (cs : List (List Int)), vs = [.ref a] ∧ H a = some (.lst (bs.map V.ref)) ∧ ClsAt H bs cs ∧ cs.flatten.length ≤ 60 ∧
  ∀ (ns : List Int) p H', ns.Pairwise (· < ·) → (∀ k, k ∈ ns ↔ k ∈ absAll cs) → Kept H H' → H p = none → H' p = some (.tup (ns.map V.int)) → Q (.ref p) H'
def spIsClause (K : PySem.W.Frag) (P1 P2 : Addr) : Sp := fun vs H Q _ => (∃ x : At, vs = [x.v] ∧ Q (.bl false) H) ∨
  ∃ (a : Addr) (ls : List Int), vs = [.ref a] ∧ H a = some (.tup (ls.map V.int)) ∧ ls.length ≤ 1000 ∧ GxR.TabG H P1 ∧ GxR.TabG H P2 ∧ ∀ H', Kept H H' → Q (.bl (isClauseF ls)) H'
def spIsResidue (K : PySem.W.Frag) (P1 P2 P3 : Addr) : Sp := fun vs H Q _ => ∃ (a : Addr) (bs : List Addr) (cs : List (List Int)), vs = [.ref a] ∧ H a = some (.tup (bs.map V.ref)) ∧ ClsAt H bs cs ∧ cs.length ≤ 1000 ∧ (∀ c ∈ cs, c.length ≤ 1000) ∧ GxR.TabG H P1 ∧ GxR.TabG H P2 ∧ GxR.TabG H P3 ∧ ∀ H', Kept H H' → Q (.bl (isResidueF cs)) H'
section
variable {P : Program} {w : World} {K : PySem.W.Frag} {mg : Str → Option Value} {base : Heap} {uG : Value} {f : Addr} {fd : FuncData}
end
end Ky

namespace Ky
open PySem PySem.Spec PyProof.Rows L2
local macro_rules | `(tactic| walk_at "rd") => `(tactic| repeat (first
  | with_reducible refine w_for1 ?_
  | with_reducible refine w_for2 ?_
  | with_reducible refine w_forL ?_
  | with_reducible refine w_forT ?_
  | with_reducible refine w_lc1 ?_
  | with_reducible refine w_lcL ?_
  | with_reducible refine w_lcT ?_
  | with_reducible refine w_seq ?_
  | with_reducible refine w_asg ?_
  | with_reducible refine w_ret ?_
  | with_reducible refine w_drop ?_
  | with_reducible refine w_ifs ?_
  | ((with_reducible refine' w_var ?hh ?_); (case hh => exact rfl))
  | with_reducible refine w_c ?_
  | with_reducible refine w_op ?_
  | with_reducible refine w_un ?_
  | with_reducible refine w_I0 ?_
  | with_reducible refine w_U ?_
  | with_reducible refine w_nil ?_
  | with_reducible refine w_cons ?_
  | with_reducible refine w_call ?_
  | with_reducible refine w_cb ?_
  | with_reducible refine w_test ?_
  | with_reducible refine w_B ?_
  | with_reducible refine w_bl ?_
  | with_reducible refine w_and ?_
  | with_reducible refine w_or ?_
  | with_reducible refine w_not ?_
  | with_reducible refine w_ife ?_
  | with_reducible refine w_gRd ?_
  | with_reducible refine w_andV ?_
  | with_reducible refine w_orV ?_
  | with_reducible refine w_notV ?_
  | with_reducible refine w_chain ?_
  | with_reducible refine w_din ?_
  | with_reducible refine w_isi_ii ?_
  | with_reducible refine w_isi_bi ?_
  | with_reducible refine w_isi_bb ?_
  | with_reducible refine w_isi_bt ?_
  | with_reducible refine w_isi_si ?_
  | with_reducible refine w_isi_nt ?_
  | with_reducible refine w_isi_ib ?_
  | with_reducible refine w_isi_it ?_
  | with_reducible refine w_isi_st ?_
  | ((with_reducible refine w_isi_tt ?h1 ?_); (case h1 => first | assumption | exact upd_same))
  | with_reducible refine if_t rfl ?_
  | with_reducible refine if_f rfl ?_
  | with_reducible refine w_tup ?_
  | with_reducible refine w_lst ?_
  | with_reducible refine w_next ?_
  | with_reducible refine w_bm ?_
  | with_reducible refine w_sl ?_
  | with_reducible refine w_part ?_
  | with_reducible refine w_nop ?_
  | with_reducible refine w_isI ?_
  | with_reducible refine w_yes ?_
  | with_reducible refine w_gn ?_
  | with_reducible refine w_gsub ?_
  | ((with_reducible refine' w_setL ?h1 ?h2 ?_); (case h1 => first | assumption | exact upd_same); (case h2 => exact rfl))
  | with_reducible refine w_asgG ?_
  | with_reducible refine w_m1 ?_
  | with_reducible refine w_isS ?_
  | with_reducible refine w_tyS ?_
  | ((with_reducible refine' w_tyL ?h1 ?_); (case h1 => first | assumption | exact upd_same))
  | ((with_reducible refine' w_ixT ?h1 ?h2 ?_); (case h1 => first | assumption | exact upd_same); (case h2 => exact rfl))
  | ((with_reducible refine' w_ixL ?h1 ?h2 ?_); (case h1 => first | assumption | exact upd_same); (case h2 => exact rfl))
  | ((with_reducible refine w_eq ?h1 ?_); (case h1 => exact rfl))
  | ((with_reducible refine w_ne ?h1 ?_); (case h1 => exact rfl))
  | dsimp only [List.set_cons_zero, List.set_cons_succ, List.append_nil, List.cons_append, List.nil_append, cxOf]))

def varsF (S : List At) : Bool := (List.range (S.map At.v).length).all (fun i => (S.getD i (.i 0)).vr) && ascD (S.map At.dat)
def comF (S Hd : List At) : Bool := Hd.any fun x => x.vr && decide (x ∈ S)
def knownF (cs : List (List Int)) (vs : List Int) : Bool := (absAll cs).all fun v => decide (v ∈ vs)
def spVars (K : PySem.W.Frag) (P1 P2 : Addr) : Sp := fun vs H Q _ => ∃ (a : Addr) (S : List At), vs = [.ref a] ∧ H a = some (.tup (S.map At.v)) ∧ S.length ≤ 1000 ∧ GxR.TabG H P1 ∧ GxR.TabG H P2 ∧ ∀ H', Kept H H' → Q (.bl (varsF S)) H'
def spCommon (P1 : Addr) : Sp := fun vs H Q _ => ∃ (a b : Addr) (S Hd : List At), vs = [.ref a, .ref b] ∧ H a = some (.tup (S.map At.v)) ∧ H b = some (.tup (Hd.map At.v)) ∧ S.length ≤ 1000 ∧ Hd.length ≤ 1000 ∧ GxR.TabG H P1 ∧ ∀ H', Kept H H' → Q (.bl (comF S Hd)) H'
def spKnown (P1 : Addr) : Sp := fun vs H Q _ => ∃ (a b : Addr) (bs : List Addr) (cs : List (List Int)) (ns : List Int), vs = [.ref a, .ref b] ∧ H a = some (.lst (bs.map V.ref)) ∧ ClsAt H bs cs ∧ cs.flatten.length ≤ 60 ∧ H b = some (.tup (ns.map V.int)) ∧ ns.length ≤ 1000 ∧ GxR.TabG H P1 ∧ ∀ H', Kept H H' → Q (.bl (knownF cs ns)) H'
theorem putK_le (c : List (L2.Key × V)) (k : L2.Key) (x : V) : (putK c k x).length ≤ c.length + 1 := by
  unfold putK
  by_cases e : (c.any fun kv => decide (kv.1 = k)) = true
  · rw [if_pos e, List.length_map]
    omega
  · rw [if_neg e, List.length_append]
    exact Nat.le_refl _
theorem map_at {S : List At} {i : Nat} {y : V} (h : (S.map At.v)[i]? = some y) : ∃ x, y = At.v x ∧ S[i]? = some x := by
  rw [List.getElem?_map] at h
  obtain ⟨x, hx, rfl⟩ := Option.map_eq_some_iff.mp h
  exact ⟨x, rfl, hx⟩
theorem dpAll_at0 {K : PySem.W.Frag} {H : Hp} : ∀ S : List At, DpAll K H (S.map At.v) (S.map At.dat)
  | [] => .nil
  | .i n :: S => .cons (.int n) (dpAll_at0 S)
  | .b x :: S => .cons (.bl x) (dpAll_at0 S)
  | .s z :: S => .cons (.str z) (dpAll_at0 S)
theorem all_vr {S : List At} (h : S.all At.vr = true) : ∃ ns : List Int, S = ns.map At.i ∧ ∀ n ∈ ns, isVar n = true := by
  induction S with
  | nil => exact ⟨[], rfl, fun n hn => by simp at hn⟩
  | cons x S ih =>
    rw [List.all_cons, Bool.and_eq_true] at h
    obtain ⟨ns, e, hn⟩ := ih h.2
    cases x with
    | i n =>
      refine ⟨n :: ns, by rw [e]; rfl, fun m hm => ?_⟩
      rcases List.mem_cons.mp hm with rfl | hm
      · exact h.1
      · exact hn m hm
    | b x => exact absurd h.1 Bool.false_ne_true
    | s z => exact absurd h.1 Bool.false_ne_true
section
variable {P : Program} {w : World} {K : PySem.W.Frag} {mg : Str → Option Value} {base : Heap} {uG : Value} {f : Addr} {fd : FuncData}
end
end Ky

namespace Ky
open PySem PySem.Spec PyProof.Rows L2
theorem asc_eq : ∀ {xs ys : List Int}, xs.Pairwise (· < ·) → ys.Pairwise (· < ·) → (∀ x, x ∈ xs ↔ x ∈ ys) → xs = ys
  | [], [], _, _, _ => rfl
  | [], y :: ys, _, _, h => absurd ((h y).mpr List.mem_cons_self) (by simp)
  | x :: xs, [], _, _, h => absurd ((h x).mp List.mem_cons_self) (by simp)
  | x :: xs, y :: ys, hx, hy, h => by
    obtain ⟨hx1, hx2⟩ := List.pairwise_cons.mp hx
    obtain ⟨hy1, hy2⟩ := List.pairwise_cons.mp hy
    have e : x = y := by
      rcases List.mem_cons.mp ((h x).mp List.mem_cons_self) with e | q
      · exact e
      · rcases List.mem_cons.mp ((h y).mpr List.mem_cons_self) with e | r
        · exact e.symm
        · have := hx1 y r
          have := hy1 x q
          omega
    subst e
    rw [asc_eq hx2 hy2 fun z => ?_]
    constructor
    · intro hz
      rcases List.mem_cons.mp ((h z).mp (List.mem_cons_of_mem _ hz)) with e | q
      · have := hx1 z hz
        omega
      · exact q
    · intro hz
      rcases List.mem_cons.mp ((h z).mpr (List.mem_cons_of_mem _ hz)) with e | q
      · have := hy1 z hz
        omega
      · exact q
/-! ### the variables of clauses, those that are shown -/
def varF (cs : List (List Int)) : List Int := srtBy PyData.int (dd (absAll cs))
theorem varF_asc (cs : List (List Int)) : (varF cs).Pairwise (· < ·) := srt_ints (nodup_dd _)
theorem mem_varF {cs : List (List Int)} {k : Int} : k ∈ varF cs ↔ k ∈ absAll cs := by
  unfold varF
  rw [mem_srtBy, mem_dd]
theorem varF_is {cs : List (List Int)} {ns : List Int} (h1 : ns.Pairwise (· < ·)) (h2 : ∀ k, k ∈ ns ↔ k ∈ absAll cs) : ns = varF cs := asc_eq h1 (varF_asc cs) fun k => (h2 k).trans mem_varF.symm
theorem len_varF (cs : List (List Int)) : (varF cs).length ≤ cs.flatten.length := by
  unfold varF
  rw [(srtBy_perm _ _).length_eq]
  have := len_dd (absAll cs)
  unfold absAll at this ⊢
  rw [List.length_map] at this
  exact this
def shownF (S : List Int) (cs : List (List Int)) : List Int := (varF cs).filter fun k => decide (k ∈ S)
theorem shownF_asc (S : List Int) (cs : List (List Int)) : (shownF S cs).Pairwise (· < ·) := (varF_asc cs).filter _
theorem mem_shownF {S : List Int} {cs : List (List Int)} {k : Int} : k ∈ shownF S cs ↔ k ∈ absAll cs ∧ k ∈ S := by
  unfold shownF
  rw [List.mem_filter, mem_varF, decide_eq_true_eq]
theorem len_shownF (S : List Int) (cs : List (List Int)) : (shownF S cs).length ≤ cs.flatten.length := Nat.le_trans (List.length_filter_le _ _) (len_varF cs)
theorem asc_nodup {ns : List Int} (h : ns.Pairwise (· < ·)) : ns.Nodup := h.imp fun {a b} z e => by omega
end Ky

namespace Ky
open PySem PySem.Spec PyProof.Rows L2
/-! ### fillings as assignments; the models of two formulas at once -/
def litOf (s : Int → Bool) (v : Int) : Int := if s v = true then v else -v
def fillS (s : Int → Bool) (vs : List Int) : List Int := vs.map (litOf s)
def holdsL (s : Int → Bool) (n : Int) : Prop := s (absI n) = decide (n > 0)
def satC (s : Int → Bool) (rc : List (List Int)) : Prop := ∀ c ∈ rc, ∃ n ∈ c, holdsL s n
theorem fillS_mem (s : Int → Bool) (vs : List Int) : fillS s vs ∈ fillF vs := by
  have aux : ∀ r : List Int, fillS s r.reverse ∈ fillF r.reverse := fun r => by
    induction r with
    | nil => exact List.mem_cons_self
    | cons v r ih =>
      rw [List.reverse_cons, fillF_snoc]
      unfold longF
      refine List.mem_flatMap.mpr ⟨_, ih, ?_⟩
      unfold fillS litOf
      rw [List.map_append]
      cases h : s v
      · simp [h]
      · simp [h]
  have := aux vs.reverse
  rwa [List.reverse_reverse] at this
theorem isFill_s : ∀ {vs f : List Int}, IsFill vs f → vs.Nodup → (∀ v ∈ vs, 1 ≤ v) → ∃ s, f = fillS s vs
  | [], f, h, _, _ => ⟨fun _ => true, h⟩
  | v :: vs, f, h, hn, hp => by
    obtain ⟨g, hg, e⟩ := h
    obtain ⟨h1, h2⟩ := List.nodup_cons.mp hn
    obtain ⟨s, rfl⟩ := isFill_s hg h2 fun u hu => hp u (List.mem_cons_of_mem _ hu)
    have key : ∀ b : Bool, fillS (fun u => if u = v then b else s u) (v :: vs) = (if b = true then v else -v) :: fillS s vs := fun b => by
      unfold fillS
      rw [List.map_cons]
      congr 1
      · unfold litOf
        simp
      · refine List.map_congr_left fun u hu => ?_
        unfold litOf
        have : u ≠ v := fun z => h1 (z ▸ hu)
        simp [this]
    rcases e with rfl | rfl
    · exact ⟨_, (key false).symm⟩
    · exact ⟨_, (key true).symm⟩
theorem mem_fillF_s {vs f : List Int} (hn : vs.Nodup) (hp : ∀ v ∈ vs, 1 ≤ v) : f ∈ fillF vs ↔ ∃ s, f = fillS s vs :=
  ⟨fun h => isFill_s (fillF_is h) hn hp, fun ⟨s, e⟩ => e ▸ fillS_mem s vs⟩
theorem mem_fillS {s : Int → Bool} {vs : List Int} {n : Int} (hp : ∀ v ∈ vs, 1 ≤ v) (hn : absI n ∈ vs) : n ∈ fillS s vs ↔ holdsL s n := by
  have h1 := hp _ hn
  unfold fillS holdsL
  rw [List.mem_map]
  have ha : n = absI n ∨ n = -absI n := by unfold absI; split <;> omega
  constructor
  · rintro ⟨v, hv, e⟩
    have hv1 := hp v hv
    unfold litOf at e
    split at e
    · rename_i hs
      have : absI n = v := by rw [← e]; unfold absI; rw [if_neg (by omega)]
      rw [this, hs]
      exact (decide_eq_true (by omega)).symm
    · rename_i hs
      have : absI n = v := by rw [← e]; unfold absI; rw [if_pos (by omega), Int.neg_neg]
      rw [this, Bool.not_eq_true] at *
      rw [hs]
      exact (decide_eq_false (by omega)).symm
  · intro e
    refine ⟨absI n, hn, ?_⟩
    unfold litOf
    by_cases h0 : n > 0
    · rw [e, decide_eq_true h0, if_pos rfl]
      unfold absI
      rw [if_neg (by omega)]
    · rw [e, decide_eq_false h0, if_neg Bool.false_ne_true]
      rcases ha with z | z <;> omega
theorem keeps_sat {s : Int → Bool} {vs : List Int} {rc : List (List Int)} (hp : ∀ v ∈ vs, 1 ≤ v) (hv : ∀ c ∈ rc, ∀ n ∈ c, absI n ∈ vs) : keepsF rc (fillS s vs) = true ↔ satC s rc := by
  rw [keepsF_all, List.all_eq_true]
  unfold satC
  constructor
  · intro h c hc
    obtain ⟨n, hn, e⟩ := List.any_eq_true.mp (h c hc)
    exact ⟨n, hn, (mem_fillS hp (hv c hc n hn)).mp (of_decide_eq_true e)⟩
  · intro h c hc
    obtain ⟨n, hn, e⟩ := h c hc
    exact List.any_eq_true.mpr ⟨n, hn, decide_eq_true ((mem_fillS hp (hv c hc n hn)).mpr e)⟩
theorem fillS_congr {s s' : Int → Bool} {vs : List Int} (h : ∀ v ∈ vs, s v = s' v) : fillS s vs = fillS s' vs := by
  unfold fillS litOf
  exact List.map_congr_left fun v hv => by rw [h v hv]
theorem fillS_inj {s s' : Int → Bool} : ∀ {vs : List Int}, (∀ v ∈ vs, 1 ≤ v) → fillS s vs = fillS s' vs → ∀ v ∈ vs, s v = s' v
  | [], _, _, v, hv => by cases hv
  | u :: us, hp, h, v, hv => by
    unfold fillS at h
    rw [List.map_cons, List.map_cons] at h
    have h1 := (List.cons.inj h).1
    have h2 := (List.cons.inj h).2
    rcases List.mem_cons.mp hv with e | hv
    · rw [e]
      have hu := hp u List.mem_cons_self
      unfold litOf at h1
      cases e1 : s u <;> cases e2 : s' u <;> simp [e1, e2] at h1 ⊢ <;> omega
    · exact fillS_inj (fun w hw => hp w (List.mem_cons_of_mem _ hw)) h2 v hv
/-- a row of the shown variables is a model: some filling of the hidden ones keeps all clauses -/
theorem model_iff {S Hd : List Int} {rc : List (List Int)} (hp : ∀ v, v ∈ S ∨ v ∈ Hd → 1 ≤ v) (hn : Hd.Nodup) (hdis : ∀ v ∈ S, v ∉ Hd) (hv : ∀ c ∈ rc, ∀ n ∈ c, absI n ∈ S ∨ absI n ∈ Hd) (s0 : Int → Bool) :
    ((fillF Hd).any fun g => keepsF rc (fillS s0 S ++ g)) = true ↔ ∃ s, (∀ v ∈ S, s v = s0 v) ∧ satC s rc := by
  have hpA : ∀ v ∈ S ++ Hd, 1 ≤ v := fun v h => hp v (List.mem_append.mp h)
  have hvA : ∀ c ∈ rc, ∀ n ∈ c, absI n ∈ S ++ Hd := fun c hc n h => List.mem_append.mpr (hv c hc n h)
  rw [List.any_eq_true]
  constructor
  · rintro ⟨g, hg, hk⟩
    obtain ⟨s1, rfl⟩ := (mem_fillF_s hn fun v h => hp v (.inr h)).mp hg
    refine ⟨fun v => if v ∈ S then s0 v else s1 v, fun v h => if_pos h, ?_⟩
    refine (keeps_sat hpA hvA).mp ?_
    have e : fillS (fun v => if v ∈ S then s0 v else s1 v) (S ++ Hd) = fillS s0 S ++ fillS s1 Hd := by
      have a1 : fillS (fun v => if v ∈ S then s0 v else s1 v) S = fillS s0 S := fillS_congr fun v h => if_pos h
      have a2 : fillS (fun v => if v ∈ S then s0 v else s1 v) Hd = fillS s1 Hd := fillS_congr fun v h => if_neg fun z => hdis v z h
      rw [← a1, ← a2]
      unfold fillS
      rw [List.map_append]
    rw [e]
    exact hk
  · rintro ⟨s, h1, h2⟩
    refine ⟨fillS s Hd, fillS_mem s Hd, ?_⟩
    have e : fillS s0 S ++ fillS s Hd = fillS s (S ++ Hd) := by
      rw [← fillS_congr h1]
      unfold fillS
      rw [List.map_append]
    rw [e]
    exact (keeps_sat hpA hvA).mpr h2
/-- renaming the second formula's hidden variables apart joins the models -/
theorem sat_both {S H1 H2 : List Int} {R1 R2 : List (List Int)} {ren inv : Int → Int} (s0 : Int → Bool) (hS : ∀ v ∈ S, ren v = v) (hinv : ∀ v ∈ H2, inv (ren v) = v) (hap : ∀ v ∈ H2, ren v ∉ S ∧ ren v ∉ H1)
    (hd2 : ∀ v ∈ S, v ∉ H2) (hpos : ∀ v, v ∈ S ∨ v ∈ H2 → 1 ≤ ren v) (hv1 : ∀ c ∈ R1, ∀ n ∈ c, absI n ∈ S ∨ absI n ∈ H1) (hv2 : ∀ c ∈ R2, ∀ n ∈ c, absI n ∈ S ∨ absI n ∈ H2) :
    (∃ s, (∀ v ∈ S, s v = s0 v) ∧ satC s R1 ∧ satC s (R2.map fun c => c.map fun n => if n > 0 then ren (absI n) else -ren (absI n))) ↔ (∃ s, (∀ v ∈ S, s v = s0 v) ∧ satC s R1) ∧ ∃ s, (∀ v ∈ S, s v = s0 v) ∧ satC s R2 := by
  have key : ∀ (s : Int → Bool) (n : Int), (absI n ∈ S ∨ absI n ∈ H2) → (holdsL s (if n > 0 then ren (absI n) else -ren (absI n)) ↔ s (ren (absI n)) = decide (n > 0)) := fun s n h => by
    have hp := hpos _ h
    unfold holdsL
    by_cases h0 : n > 0
    · rw [if_pos h0, show absI (ren (absI n)) = ren (absI n) from by rw [absI, if_neg (by omega)], decide_eq_true h0, decide_eq_true (show ren (absI n) > 0 by omega)]
    · rw [if_neg h0, show absI (-ren (absI n)) = ren (absI n) from by rw [absI, if_pos (by omega), Int.neg_neg], decide_eq_false h0, decide_eq_false (show ¬ (-ren (absI n) > 0) by omega)]
  constructor
  · rintro ⟨s, h1, h2, h3⟩
    refine ⟨⟨s, h1, h2⟩, fun v => s (ren v), fun v hv => by show s (ren v) = _; rw [hS v hv]; exact h1 v hv, fun c hc => ?_⟩
    obtain ⟨n, hn, e⟩ := h3 _ (List.mem_map.mpr ⟨c, hc, rfl⟩)
    obtain ⟨m, hm, rfl⟩ := List.mem_map.mp hn
    exact ⟨m, hm, (key s m (hv2 c hc m hm)).mp e⟩
  · rintro ⟨⟨s1, a1, a2⟩, s2, b1, b2⟩
    have mem : ∀ v, v ∈ S ∨ v ∈ H1 → v ∉ H2.map ren := fun v h z => by
      obtain ⟨u, hu, rfl⟩ := List.mem_map.mp z
      exact h.elim (hap u hu).1 (hap u hu).2
    refine ⟨fun v => if v ∈ H2.map ren then s2 (inv v) else s1 v, fun v hv => by show (if _ then _ else _) = _; rw [if_neg (mem v (.inl hv))]; exact a1 v hv, fun c hc => ?_, fun c' hc' => ?_⟩
    · obtain ⟨n, hn, e⟩ := a2 c hc
      refine ⟨n, hn, ?_⟩
      unfold holdsL at e ⊢
      show (if _ then _ else _) = _
      rw [if_neg (mem _ (hv1 c hc n hn))]
      exact e
    · obtain ⟨c, hc, rfl⟩ := List.mem_map.mp hc'
      obtain ⟨n, hn, e⟩ := b2 c hc
      refine ⟨_, List.mem_map.mpr ⟨n, hn, rfl⟩, (key _ n (hv2 c hc n hn)).mpr ?_⟩
      unfold holdsL at e
      rw [← e]
      rcases hv2 c hc n hn with h | h
      · show (if _ then _ else _) = _
        rw [hS _ h, if_neg (mem _ (.inl h)), a1 _ h, b1 _ h]
      · show (if _ then _ else _) = _
        rw [if_pos (List.mem_map.mpr ⟨_, h, rfl⟩), hinv _ h]
end Ky

namespace Ky
open PySem PySem.Spec PyProof.Rows L2
/-! ### dict comprehensions over numbers with one value, as words -/
def DcJ (j : Nat) (v : V) (vs : List Nat) (σ : L2.St) (Q : VK) (J : It) (H1 : Hp) : Prop := ∀ D, H1 D = none → ∃ W : Nat → Nat → Hp → Prop, (∃ m, W 0 m (upd H1 D (.dK []))) ∧ ∀ i m H, W i m H →
  (J.stop i H ∧ Q (.ref D) H) ∨ (J.go i H ∧ ∃ Nx : Hp → Prop, (∀ H', Nx H' → ∃ m', m' < m ∧ W (i + 1) m' H') ∧ ∀ x H', J.yld i H x H' → gName j x (wipe σ vs) H' fun σ2 H2 => wipe σ2 vs = wipe σ vs ∧ tYes σ2 H2 fun b H3 =>
    if b = true then tVar j σ2 H3 fun y H4 => tC v σ2 H4 fun z H5 => ∃ kvs k, y = kV k ∧ H5 D = some (.dK kvs) ∧ kvs.length < sizeLine ∧ Nx (upd H5 D (.dK (putK kvs k z))) else Nx H3)
def DcL (K : PySem.W.Frag) (j : Nat) (v : V) (vs : List Nat) (σ : L2.St) (Q : VK) (x : V) (H1 : Hp) : Prop := ∃ a, x = .ref a ∧ (∃ xs, SqL K H1 a xs) ∧ DcJ j v vs σ Q (Itl K a) H1
def DcT (K : PySem.W.Frag) (j : Nat) (v : V) (vs : List Nat) (σ : L2.St) (Q : VK) (x : V) (H1 : Hp) : Prop := ∃ a, x = .ref a ∧ (∃ xs, SqT K H1 a xs) ∧ DcJ j v vs σ Q (Itt K a) H1
/-- a dict of numbers with one value -/
structure OneV (ns : List Int) (v : V) (kvs : List (L2.Key × V)) : Prop where
  len : kvs.length ≤ ns.length
  val : ∀ k, valV kvs (.inl k) = if k ∈ ns then some v else none
theorem OneV.snoc {ns : List Int} {v : V} {kvs : List (L2.Key × V)} (h : OneV ns v kvs) (n : Int) : OneV (ns ++ [n]) v (putK kvs (.inl n) v) := by
  refine ⟨?_, fun k => ?_⟩
  · have := length_putK kvs (.inl n) v
    have := h.len
    rw [List.length_append, List.length_singleton]
    omega
  · rw [valV_put, h.val k]
    by_cases e : k = n
    · rw [if_pos (by rw [e]), if_pos (List.mem_append_right _ (List.mem_singleton.mpr e))]
    · rw [if_neg (fun z => e (Sum.inl.inj z))]
      by_cases m : k ∈ ns
      · rw [if_pos m, if_pos (List.mem_append_left _ m)]
      · rw [if_neg m, if_neg fun z => (List.mem_append.mp z).elim m fun z => e (List.mem_singleton.mp z)]
section
variable {K : PySem.W.Frag} {σ : L2.St} {H H1 : Hp} {Q : VK} {te : TE} {j : Nat} {v : V} {vs : List Nat} {a : Addr} {ns : List Int}
theorem w_dcL (q : te σ H (DcL K j v vs σ Q)) : tDc (iList K te) (gName j) tYes (tVar j) (tC v) vs σ H Q := q
theorem w_dcT (q : te σ H (DcT K j v vs σ Q)) : tDc (iTup K te) (gName j) tYes (tVar j) (tC v) vs σ H Q := q
theorem dc_step {i : Nat} {n : Int} {D : Addr} {kvs : List (L2.Key × V)} (hj : j < σ.length) (hn : ns[i]? = some n) (hz : ns.length ≤ 1000) (h0 : H1 D = none) (k1 : Kept H1 H) (hD : H D = some (.dK kvs)) (ho : OneV (ns.take i) v kvs) :
    gName j (.int n) (wipe σ [j]) H fun σ2 H2 => wipe σ2 [j] = wipe σ [j] ∧ tYes σ2 H2 fun b H3 => if b = true then tVar j σ2 H3 fun y H4 => tC v σ2 H4 fun z H5 => ∃ kvs k, y = kV k ∧ H5 D = some (.dK kvs) ∧ kvs.length < sizeLine ∧
      (Kept H1 (upd H5 D (.dK (putK kvs k z))) ∧ ∃ kv2, (upd H5 D (.dK (putK kvs k z))) D = some (.dK kv2) ∧ OneV (ns.take (i + 1)) v kv2) else (Kept H1 H3 ∧ ∃ kv2, H3 D = some (.dK kv2) ∧ OneV (ns.take (i + 1)) v kv2) := by
  refine ⟨wipe_one, w_yes (if_t rfl ⟨_, var_set hj, kvs, Sum.inl n, rfl, hD, ?_, Kept.mut k1 h0, _, upd_same, ?_⟩)⟩
  · have h1 := ho.len
    rw [List.length_take] at h1
    have h2 : 1001 ≤ sizeLine := by decide
    omega
  · rw [List.take_add_one, hn]
    exact ho.snoc n
theorem DcT.ints (hj : j < σ.length) (ha : H1 a = some (.tup (ns.map V.int))) (hz : ns.length ≤ 1000) (fin : ∀ D H2 kvs, H1 D = none → Kept H1 H2 → H2 D = some (.dK kvs) → OneV ns v kvs → Q (.ref D) H2) : DcT K j v [j] σ Q (.ref a) H1 := by
  refine ⟨a, rfl, ⟨_, SqT.of ha⟩, fun D hD => ?_⟩
  refine c_tup (xs := ns.map V.int) (fun i H => Kept H1 H ∧ ∃ kvs, H D = some (.dK kvs) ∧ OneV (ns.take i) v kvs) ⟨Kept.new hD, [], upd_same, by rw [List.take_zero]; exact ⟨Nat.le_refl _, fun k => (by simp; rfl)⟩⟩ (fun i H _ h => SqT.of (h.1.tup ha)) (fun i x H hx h => ?_) fun H h => ?_
  · obtain ⟨n, rfl, hn⟩ := map_int hx
    obtain ⟨k1, kvs, h1, h2⟩ := h
    exact dc_step hj hn hz hD k1 h1 h2
  · obtain ⟨k1, kvs, h1, h2⟩ := h
    rw [List.length_map, List.take_length] at h2
    exact fin D H kvs hD k1 h1 h2
theorem DcL.ints (hj : j < σ.length) (ha : H1 a = some (.lst (ns.map V.int))) (hz : ns.length ≤ 1000) (fin : ∀ D H2 kvs, H1 D = none → Kept H1 H2 → H2 D = some (.dK kvs) → OneV ns v kvs → Q (.ref D) H2) : DcL K j v [j] σ Q (.ref a) H1 := by
  refine ⟨a, rfl, ⟨_, SqL.of ha⟩, fun D hD => ?_⟩
  refine c_list (xs := ns.map V.int) (fun i H => Kept H1 H ∧ ∃ kvs, H D = some (.dK kvs) ∧ OneV (ns.take i) v kvs) ⟨Kept.new hD, [], upd_same, by rw [List.take_zero]; exact ⟨Nat.le_refl _, fun k => (by simp; rfl)⟩⟩ (fun i H _ h => SqL.of (h.1.lst ha)) (fun i x H hx h => ?_) fun H h => ?_
  · obtain ⟨n, rfl, hn⟩ := map_int hx
    obtain ⟨k1, kvs, h1, h2⟩ := h
    exact dc_step hj hn hz hD k1 h1 h2
  · obtain ⟨k1, kvs, h1, h2⟩ := h
    rw [List.length_map, List.take_length] at h2
    exact fin D H kvs hD k1 h1 h2
theorem OneV.has {kvs : List (L2.Key × V)} (h : OneV ns v kvs) (k : Int) : (valV kvs (.inl k)).isSome = decide (k ∈ ns) := by
  rw [h.val k]
  by_cases m : k ∈ ns
  · rw [if_pos m, decide_eq_true m] <;> rfl
  · rw [if_neg m, decide_eq_false m] <;> rfl
end
/-- name = {..} on one line, the name a local, the keys numbers or texts -/
theorem ps_setDc {X : Cx} {i : Nat} {y : Str} {py : Pos} {kx vx tg iter : Expr} {ifs : List Expr} {scope : Scope} {own : List (Str × Nat)} {pos spos : Pos} {wi : TI} {g : TG} {tt : TT} {tk tv : TE} (hy : X.N[i]? = some y) (hyl : X.env.scope.names.lookup y = some .local)
    (hsw : swapsWith (.DictComp kx vx [⟨tg, iter, ifs, 0⟩] scope pos) (some (.Name y py)) spos.line X.env = pure true) (hc : X.calm = true) (hN : X.N.Nodup) (hi : PI X tg iter wi) (ok : BlkOk X.N X.env.scope scope own)
    (hg : ∀ (s : Shared) (H : Hp) (C : Addr) (cl : List (Str × Addr)) (fp : List Addr), PG (X.blk s H scope (compEnvC scope cl C X.env) fp) tg g) (ht : ∀ (s : Shared) (H : Hp) (C : Addr) (cl : List (Str × Addr)) (fp : List Addr), PTs (X.blk s H scope (compEnvC scope cl C X.env) fp) ifs tt)
    (hk : ∀ (s : Shared) (H : Hp) (C : Addr) (cl : List (Str × Addr)) (fp : List Addr), PE (X.blk s H scope (compEnvC scope cl C X.env) fp) kx tk)
    (he : ∀ (s : Shared) (H : Hp) (C : Addr) (cl : List (Str × Addr)) (fp : List Addr), PE (X.blk s H scope (compEnvC scope cl C X.env) fp) vx tv) (hs : ∀ x, foldedSetIterable iter X.env x = pure x := by intro _; rfl) :
    PS X (.Assign [.Name y py] (.DictComp kx vx [⟨tg, iter, ifs, 0⟩] scope pos) spos) (tAsg (tDc wi g tt tk tv (own.map (·.2))) (gName i)) := by
  refine ⟨fun pins s σ H D I h => ?_⟩
  rw [exec_Assign_Name_used _ _ _ _ hsw]
  refine wpAny_bind (wpAny_standAt (wpAny_bind ?_))
  show wpAny _ X.A (do let _ ← comprehension (.DictComp kx vx [⟨tg, iter, ifs, 0⟩] scope pos) scope X.env (firstIterPos [⟨tg, iter, ifs, 0⟩] pos) newDict false (eval iter X.env) (some (assign (.Name y py) X.env))) _ _ s
  have h : tDc wi g tt tk tv (own.map (·.2)) σ H (fun x H1 => gName i x σ H1 D.nx) := h
  refine wpAny_bind (thn (dc_core (Qf := fun _ s' => SP X pins D .next s') hc hN I hi ok hg ht hk he hs h fun L C s' m H' I' q hn f => ?_) fun _ s' hq => wpAny_pure (wpAny_pure hq))
  show wpAny _ _ (assign (.Name y py) X.env (.ref L)) _ _ _
  refine wpAny_assign_Name (store_ok2 (v := V.ref L) I' hN hy (.inl hyl) rfl (fun s2 I2 ⟨a, sb, ha⟩ => ?_) (.inr hyl))
  obtain ⟨f0, f1, f2, f3, f4, f5⟩ := f
  have haC : C ≠ a := by
    rcases ha with z | z
    · rw [z]; exact f1
    · exact fun e => f4 y a z e.symm
  refine ⟨m, hn.sameBut sb haC, fun h3 sb3 => ?_⟩
  exact ⟨_, H', I2.turned (t' := s2.toks) (fun b o hb e => (sb3.2 b hb).trans e) f0 f1 f3 f4 f5, q⟩
end Ky

namespace Ky
open PySem PySem.Spec PyProof.Rows L2
/-! ### rows of values that stand for keys; each once -/
/-- e writes keys as data; the same data are the same keys -/
structure KeyD {α : Type} [DecidableEq α] (e : α → PyData) : Prop where
  same : ∀ a b, PyData.eqv (e a) (e b) = decide (a = b)
  lay : ∀ a, (e a).canLay0 = true
  dep : ∀ a, (e a).depth ≤ 40
def onceP {α : Type} [DecidableEq α] (L : List (V × α)) : List (V × α) := L.foldl (fun acc p => if p.2 ∈ acc.map (·.2) then acc else acc ++ [p]) []
section
variable {α : Type} [DecidableEq α]
theorem once_keys (L : List (V × α)) : (onceP L).map (·.2) = dd (L.map (·.2)) := by
  have aux : ∀ (L : List (V × α)) (acc : List (V × α)), (L.foldl (fun acc p => if p.2 ∈ acc.map (·.2) then acc else acc ++ [p]) acc).map (·.2) = (L.map (·.2)).foldl dstep (acc.map (·.2)) := by
    intro L
    induction L with
    | nil => exact fun acc => rfl
    | cons p L ih =>
      intro acc
      rw [List.foldl_cons, List.map_cons, List.foldl_cons, ih]
      congr 1
      unfold dstep
      by_cases h : p.2 ∈ acc.map (·.2)
      · rw [if_pos h, if_pos h]
      · rw [if_neg h, if_neg h, List.map_append] <;> rfl
  exact aux L []
theorem once_sub {L : List (V × α)} : ∀ p ∈ onceP L, p ∈ L := by
  have aux : ∀ (L acc M : List (V × α)), (∀ p ∈ acc, p ∈ M) → (∀ p ∈ L, p ∈ M) → ∀ p ∈ L.foldl (fun acc p => if p.2 ∈ acc.map (·.2) then acc else acc ++ [p]) acc, p ∈ M := by
    intro L
    induction L with
    | nil => exact fun acc M h _ => h
    | cons q L ih =>
      intro acc M h1 h2
      refine ih _ M ?_ fun p hp => h2 p (List.mem_cons_of_mem _ hp)
      by_cases hq : q.2 ∈ acc.map (·.2)
      · show ∀ p ∈ (if q.2 ∈ acc.map (·.2) then acc else acc ++ [q]), p ∈ M
        rw [if_pos hq]; exact h1
      · show ∀ p ∈ (if q.2 ∈ acc.map (·.2) then acc else acc ++ [q]), p ∈ M
        rw [if_neg hq]
        intro p hp
        rcases List.mem_append.mp hp with z | z
        · exact h1 p z
        · rw [List.mem_singleton.mp z]; exact h2 q List.mem_cons_self
  exact fun p hp => aux L [] L (fun _ h => by cases h) (fun _ h => h) p hp
theorem once_snoc (L : List (V × α)) (p : V × α) : onceP (L ++ [p]) = if p.2 ∈ (onceP L).map (·.2) then onceP L else onceP L ++ [p] := by
  unfold onceP
  rw [List.foldl_append] <;> rfl
theorem once_len (L : List (V × α)) : (onceP L).length ≤ L.length := by
  have h := congrArg List.length (once_keys L)
  rw [List.length_map] at h
  have := len_dd (L.map (·.2))
  rw [List.length_map] at this
  omega
theorem canLay_kd {e : α → PyData} (h : KeyD e) : ∀ as : List α, PyData.canLayAll0 (as.map e) = true
  | [] => by simp [PyData.canLayAll0]
  | a :: as => by rw [List.map_cons, PyData.canLayAll0, canLay_kd h as, h.lay] <;> rfl
theorem depth_kd {e : α → PyData} (h : KeyD e) : ∀ as : List α, PyData.depthAll (as.map e) ≤ 40
  | [] => by simp [PyData.depthAll]
  | a :: as => by
    have h1 := depth_kd h as
    have h2 := h.dep a
    rw [List.map_cons, PyData.depthAll]
    omega
theorem shL_keys {e : α → PyData} (h : KeyD e) (as : List α) : SeqAt.shaped (.list (as.map e)) = true := by
  have h1 := depth_kd h as
  unfold SeqAt.shaped
  simp only [PyData.canLay0, canLay_kd h, Bool.true_and, PyData.depth]
  exact decide_eq_true (by omega)
theorem sh_key {e : α → PyData} (h : KeyD e) (a : α) : SeqAt.shaped (e a) = true := by
  have h1 := h.dep a
  unfold SeqAt.shaped
  rw [h.lay, Bool.true_and]
  exact decide_eq_true (by omega)
theorem any_keys {e : α → PyData} (h : KeyD e) (as : List α) (a : α) : ((as.map e).any fun z => PyData.eqv z (e a)) = decide (a ∈ as) := by
  rw [List.any_map, Bool.eq_iff_iff, List.any_eq_true, decide_eq_true_eq]
  constructor
  · rintro ⟨x, hx, q⟩
    have q : PyData.eqv (e x) (e a) = true := q
    rw [h.same, decide_eq_true_eq] at q
    rw [← q]; exact hx
  · exact fun hm => ⟨a, hm, by show PyData.eqv (e a) (e a) = true; rw [h.same, decide_eq_true rfl]⟩
end
theorem keyD_ints : KeyD (fun n : Int => PyData.int n) := ⟨fun a b => by
    have := eqvAll_ints [a] [b]
    simp only [List.map_cons, List.map_nil, PyData.eqvAll, Bool.and_true] at this
    rw [this]
    exact decide_eq_decide.mpr ⟨fun z => by cases z; rfl, fun z => by rw [z]⟩, fun a => by simp [PyData.canLay0], fun a => by simp [PyData.depth]⟩
def tupD (ls : List Int) : PyData := .tuple (ls.map PyData.int)
theorem keyD_tups : KeyD tupD := ⟨fun a b => eqv_ints a b, fun a => by simp only [tupD, PyData.canLay0, canLay_ints], fun a => by
    simp only [tupD, PyData.depth, PySem.W.depth_ints]
    omega⟩
def spOnce (K : PySem.W.Frag) : Sp := fun vs H Q _ => ∃ (α : Type) (_ : DecidableEq α) (e : α → PyData) (a : Addr) (L : List (V × α)), KeyD e ∧ vs = [.ref a] ∧ H a = some (.lst (L.map (·.1))) ∧ (∀ p ∈ L, Dp K H p.1 (e p.2)) ∧ L.length ≤ 1000 ∧
  ∀ q H', Kept H H' → H q = none → H' q = some (.lst ((onceP L).map (·.1))) → Q (.ref q) H'
theorem once_ints {K : PySem.W.Frag} {H : Hp} {Q : VK} {E : XK} {a : Addr} {ns : List Int} (ha : H a = some (.lst (ns.map V.int))) (hz : ns.length ≤ 1000) (k : ∀ q H', Kept H H' → H q = none → H' q = some (.lst ((dd ns).map V.int)) → Q (.ref q) H') : spOnce K [.ref a] H Q E := by
  refine ⟨Int, inferInstance, _, a, ns.map fun n => (V.int n, n), keyD_ints, rfl, by rw [List.map_map]; exact ha, fun p hp => ?_, by rw [List.length_map]; exact hz, fun q H' k1 hq h => k q H' k1 hq ?_⟩
  · obtain ⟨n, _, rfl⟩ := List.mem_map.mp hp
    exact .int n
  · have e1 : (onceP (ns.map fun n => (V.int n, n))).map (·.2) = dd ns := by
      rw [once_keys, List.map_map]
      congr 1
      exact List.map_id _
    have e2 : (onceP (ns.map fun n => (V.int n, n))).map (·.1) = ((onceP (ns.map fun n => (V.int n, n))).map (·.2)).map V.int := by
      rw [List.map_map]
      refine List.map_congr_left fun p hp => ?_
      obtain ⟨n, _, rfl⟩ := List.mem_map.mp (once_sub p hp)
      rfl
    rw [e2, e1] at h
    exact h
theorem once_cls {K : PySem.W.Frag} {H : Hp} {Q : VK} {E : XK} {a : Addr} {bs : List Addr} {cs : List (List Int)} (ha : H a = some (.lst (bs.map V.ref))) (hc : ClsAt H bs cs) (hz : cs.length ≤ 1000) (k : ∀ q H' bs', Kept H H' → H q = none → H' q = some (.lst (bs'.map V.ref)) → ClsAt H' bs' (dd cs) → Q (.ref q) H') : spOnce K [.ref a] H Q E := by
  have e1 : (bs.zip cs).map (·.1) = bs := List.map_fst_zip (by rw [hc.1]; exact Nat.le_refl _)
  have e2 : (bs.zip cs).map (·.2) = cs := List.map_snd_zip (by rw [hc.1]; exact Nat.le_refl _)
  refine ⟨List Int, inferInstance, tupD, a, (bs.zip cs).map fun p => (V.ref p.1, p.2), keyD_tups, rfl, ?_, fun p hp => ?_, ?_, fun q H' k1 hq h => ?_⟩
  · rw [List.map_map]
    have : (bs.zip cs).map ((fun x : V × List Int => x.1) ∘ fun p => (V.ref p.1, p.2)) = ((bs.zip cs).map (·.1)).map V.ref := by rw [List.map_map] <;> rfl
    rw [this, e1]
    exact ha
  · obtain ⟨p, hp2, rfl⟩ := List.mem_map.mp hp
    exact dp_ints (clsAt_zip hc p hp2)
  · rw [List.length_map, List.length_zip, hc.1, Nat.min_self]
    exact hz
  · have hin : ∀ p ∈ onceP ((bs.zip cs).map fun p => (V.ref p.1, p.2)), ∃ b, p.1 = V.ref b ∧ H b = some (.tup (p.2.map V.int)) := fun p hp => by
      obtain ⟨p, hp2, rfl⟩ := List.mem_map.mp (once_sub p hp)
      exact ⟨_, rfl, clsAt_zip hc p hp2⟩
    have hk := once_keys ((bs.zip cs).map fun p => (V.ref p.1, p.2))
    have e3 : ((bs.zip cs).map fun p => (V.ref p.1, p.2)).map (·.2) = cs := by
      rw [List.map_map]
      exact e2
    rw [e3] at hk
    generalize onceP ((bs.zip cs).map fun p => (V.ref p.1, p.2)) = L at hin hk h
    have aux : ∀ L : List (V × List Int), (∀ p ∈ L, ∃ b, p.1 = V.ref b ∧ H b = some (.tup (p.2.map V.int))) → ∃ zs : List (Addr × List Int), L.map (·.1) = (zs.map (·.1)).map V.ref ∧ L.map (·.2) = zs.map (·.2) ∧ ∀ z ∈ zs, H z.1 = some (.tup (z.2.map V.int)) := by
      intro L
      induction L with
      | nil => exact fun _ => ⟨[], rfl, rfl, fun _ h => by cases h⟩
      | cons p L ih =>
        intro hL
        obtain ⟨b, h1, h2⟩ := hL p List.mem_cons_self
        obtain ⟨zs, g1, g2, g3⟩ := ih fun q hq => hL q (List.mem_cons_of_mem _ hq)
        refine ⟨(b, p.2) :: zs, ?_, ?_, fun z hz => ?_⟩
        · rw [List.map_cons, List.map_cons, List.map_cons, g1, h1]
        · rw [List.map_cons, List.map_cons, g2]
        · rcases List.mem_cons.mp hz with e | e
          · rw [e]; exact h2
          · exact g3 z e
    obtain ⟨zs, g1, g2, g3⟩ := aux L hin
    rw [g1] at h
    rw [g2] at hk
    refine k q H' _ k1 hq h ?_
    rw [← hk]
    exact (clsAt_of g3).kept k1
end Ky

namespace Ky
open PySem PySem.Spec PyProof.Rows L2
/-! ### comprehensions whose element draws: lists of numbers with a promise -/
section
variable {te : TE} {σ : L2.St}
theorem LcJ.drawsP {d c : Addr} (W : Int → Prop) {n : Nat} {j : Nat} {H0 : Hp} {Q : VK} (hd : DrwC d c H0) (hn : n ≤ sizeLine)
    (step : ∀ i H (k2 : VK), i < n → KeptC d c H0 H → (∀ r H4, KeptC d c H H4 → W r → k2 (.int r) H4) → te ((wipe σ [j]).set j (some (.int (i : Int)))) H k2)
    (fin : ∀ D H (ns : List Int), H0 D = none → KeptC d c H0 H → H D = some (.lst (ns.map V.int)) → ns.length = n → (∀ x ∈ ns, W x) → Q (.ref D) H) : LcJ (gName j) tYes te [j] σ Q (Itr 0 n) H0 := by
  intro D hD
  have nd := (hd.old hD).1
  refine c_walk (xv := fun i => .int (i : Int)) (n := n) (fun i H => KeptC d c H0 H ∧ ∃ ns : List Int, H D = some (.lst (ns.map V.int)) ∧ ns.length = i ∧ ∀ x ∈ ns, W x) ⟨(Kept.new hD).toC, [], upd_same, rfl, fun x h => (by cases h)⟩ (fun i H h s => h) (fun i H x H' h s q => ?_) (fun H s => Nat.le_refl n) (fun i H hi s => ?_) fun H s => ?_
  · obtain ⟨h1, h2⟩ := q
    rw [Int.zero_add] at h2
    exact ⟨h1, h2⟩
  · obtain ⟨kp, ns, h1, h2, h3⟩ := s
    refine ⟨wipe_one, w_yes (if_t rfl ?_)⟩
    refine step i H _ hi kp fun r H4 k4 r0 => ⟨_, k4.lst nd h1, ?_, (kp.trans k4).mut hD, ns ++ [r], ?_, ?_, fun x hx => ?_⟩
    · rw [List.length_map, h2]
      omega
    · rw [List.map_append]
      exact upd_same
    · rw [List.length_append, h2] <;> rfl
    · rcases List.mem_append.mp hx with q | q
      · exact h3 x q
      · rw [List.mem_singleton.mp q]
        exact r0
  · obtain ⟨kp, ns, h1, h2, h3⟩ := s
    exact fin D H ns hD kp h1 h2 h3
theorem Lc1.drawsP {d c : Addr} (W : Int → Prop) {n : Nat} {j : Nat} {H0 : Hp} {Q : VK} (hd : DrwC d c H0) (hn : n ≤ 1000)
    (step : ∀ i H (k2 : VK), i < n → KeptC d c H0 H → (∀ r H4, KeptC d c H H4 → W r → k2 (.int r) H4) → te ((wipe σ [j]).set j (some (.int (i : Int)))) H k2)
    (fin : ∀ D H (ns : List Int), H0 D = none → KeptC d c H0 H → H D = some (.lst (ns.map V.int)) → ns.length = n → (∀ x ∈ ns, W x) → Q (.ref D) H) : Lc1 (gName j) tYes te [j] σ Q [.int (n : Int)] H0 := by
  have hz : 1001 ≤ sizeLine := by decide
  refine ⟨_, rfl, by omega, by omega, ?_⟩
  rw [Int.toNat_natCast]
  exact LcJ.drawsP W hd (by omega) step fin
end
/-! ### the drawn clauses and formulas of the later laws -/
/-- the place of a list or a tuple that the draws leave alone -/
def Away (d c a : Addr) (H : Hp) (xs : List V) : Prop := a ≠ d ∧ a ≠ c ∧ (H a = some (.lst xs) ∨ H a = some (.tup xs))
theorem Away.keptC {d c a : Addr} {H H' : Hp} {xs : List V} (h : Away d c a H xs) (k : KeptC d c H H') : Away d c a H' xs := by
  obtain ⟨h1, h2, h3⟩ := h
  refine ⟨h1, h2, h3.imp (fun z => k.lst h1 z) fun z => k.keep _ _ h1 noTab_tup z⟩
theorem Away.tup {d c a : Addr} {H : Hp} {xs : List V} (hd : DrwC d c H) (h : H a = some (.tup xs)) : Away d c a H xs := by
  obtain ⟨ns, i, u, z, n, h1, h2, _⟩ := hd
  refine ⟨fun e => ?_, fun e => ?_, .inr h⟩
  · rw [e, h1] at h
    cases h
  · rw [e, h2] at h
    cases h
theorem Away.seq {d c a : Addr} {K : PySem.W.Frag} {H : Hp} {xs : List V} (h : Away d c a H xs) : SqL K H a xs ∨ SqT K H a xs := h.2.2.imp (fun z => SqL.of z) fun z => SqT.of z
def spLLit : Sp := fun vs H Q _ => ∃ (d c a : Addr) (ns : List Int), vs = [.ref d, .ref a] ∧ DrwC d c H ∧ Away d c a H (ns.map V.int) ∧ 0 < ns.length ∧ ns.length ≤ 1000 ∧ (∀ v ∈ ns, 1 ≤ v ∧ v ≤ 999) ∧ ∀ n H', KeptC d c H H' → isLit n = true → absI n ∈ ns → Q (.int n) H'
structure ClsF (ns : List Int) (many : Nat) (rc : List (List Int)) : Prop where
  len : rc.length ≤ many
  asc : ascC rc
  cls : ∀ c ∈ rc, isClauseF c = true ∧ c.length ≤ 4 ∧ ∀ n ∈ c, absI n ∈ ns
def spLClauses : Sp := fun vs H Q _ => ∃ (d c a : Addr) (ns : List Int) (many : Nat), vs = [.ref d, .ref a, .int many] ∧ many ≤ 60 ∧ DrwC d c H ∧ Away d c a H (ns.map V.int) ∧ 0 < ns.length ∧ ns.length ≤ 1000 ∧ (∀ v ∈ ns, 1 ≤ v ∧ v ≤ 999) ∧
  ∀ p H' bs rc, KeptC d c H H' → H' p = some (.tup (bs.map V.ref)) → ClsAt H' bs rc → ClsF ns many rc → Q (.ref p) H'
theorem ClsF.flat {ns : List Int} {many : Nat} {rc : List (List Int)} (h : ClsF ns many rc) : rc.flatten.length ≤ 4 * many := by
  have aux : ∀ rc : List (List Int), (∀ c ∈ rc, c.length ≤ 4) → rc.flatten.length ≤ 4 * rc.length := by
    intro rc
    induction rc with
    | nil => exact fun _ => Nat.zero_le _
    | cons c rc ih =>
      intro hc
      have h1 := hc c List.mem_cons_self
      have h2 := ih fun x hx => hc x (List.mem_cons_of_mem _ hx)
      rw [List.flatten_cons, List.length_append, List.length_cons]
      omega
  have h1 := aux rc fun c hc => (h.cls c hc).2.1
  have h2 := h.len
  omega
structure Form2 (most : Nat) (S Hd : List Int) (rc : List (List Int)) : Prop where
  sAsc : S.Pairwise (· < ·)
  hAsc : Hd.Pairwise (· < ·)
  dis : ∀ v ∈ S, v ∉ Hd
  vars : ∀ v, v ∈ S ∨ v ∈ Hd → 1 ≤ v ∧ v ≤ 999
  sPos : 1 ≤ S.length
  sum : S.length + Hd.length ≤ most + 3
  hLen : Hd.length ≤ 3
  len : rc.length ≤ most + 7
  asc : ascC rc
  cls : ∀ c ∈ rc, isClauseF c = true ∧ c.length ≤ 4 ∧ ∀ n ∈ c, absI n ∈ S ∨ absI n ∈ Hd
def spLFormula2 : Sp := fun vs H Q _ => ∃ (d c : Addr) (most : Nat), vs = [.ref d, .int most] ∧ 1 ≤ most ∧ most ≤ 8 ∧ DrwC d c H ∧ ∀ p H' S Hd rc, KeptC d c H H' → FormAt H' p S Hd rc → Form2 most S Hd rc → Q (.ref p) H'
theorem mem_clauseF {ls : List Int} {n : Int} : n ∈ clauseF ls ↔ n ∈ ls := by
  unfold clauseF
  rw [mem_srtBy, mem_dd]
theorem len_clauseF (ls : List Int) : (clauseF ls).length ≤ ls.length := by
  unfold clauseF
  rw [(srtBy_perm _ _).length_eq]
  exact len_dd _
theorem clauseF_ok {ls : List Int} (h : noBoth ls) (hl : ∀ n ∈ ls, isLit n = true) : isClauseF (clauseF ls) = true := by
  unfold clauseF
  exact isClauseF_srt (nodup_dd _) (fun l h1 h2 => h l (mem_dd.mp h1) (mem_dd.mp h2)) fun n hn => hl n (mem_dd.mp hn)
theorem residueF_asc (cs : List (List Int)) : ascC (residueF cs) := asc_srtN (nodup_dd _)
theorem len_residueF (cs : List (List Int)) : (residueF cs).length ≤ cs.length := by
  unfold residueF
  rw [(srtBy_perm _ _).length_eq]
  exact len_dd _
end Ky

namespace Ky
open PySem PySem.Spec PyProof.Rows L2
/-! ### plain values as trees: displays of nested tuples -/
inductive Tr where
  | i (n : Int)
  | b (x : Bool)
  | s (z : Str)
  | n
  | t (l : List Tr)
mutual
def TrAt (H : Hp) : Tr → V → Prop
  | .i k, v => v = .int k
  | .b x, v => v = .bl x
  | .s z, v => v = .str z
  | .n, v => v = .non
  | .t l, v => ∃ p xs, v = .ref p ∧ H p = some (.tup xs) ∧ TrsAt H l xs
def TrsAt (H : Hp) : List Tr → List V → Prop
  | [], xs => xs = []
  | a :: l, xs => ∃ x r, xs = x :: r ∧ TrAt H a x ∧ TrsAt H l r
end
mutual
def trD : Tr → PyData
  | .i k => .int k
  | .b x => .bool x
  | .s z => .str z
  | .n => .none
  | .t l => .tuple (trsD l)
def trsD : List Tr → List PyData
  | [] => []
  | a :: l => trD a :: trsD l
end
mutual
theorem TrAt.upH {H H' : Hp} (k : ∀ p xs, H p = some (.tup xs) → H' p = some (.tup xs)) : ∀ (a : Tr) (v : V), TrAt H a v → TrAt H' a v
  | .i n, v, h => by unfold TrAt at h ⊢; exact h
  | .b x, v, h => by unfold TrAt at h ⊢; exact h
  | .s z, v, h => by unfold TrAt at h ⊢; exact h
  | .n, v, h => by unfold TrAt at h ⊢; exact h
  | .t l, v, h => by
    unfold TrAt at h ⊢
    obtain ⟨p, xs, e, h1, h2⟩ := h
    exact ⟨p, xs, e, k p xs h1, TrsAt.upH k l xs h2⟩
theorem TrsAt.upH {H H' : Hp} (k : ∀ p xs, H p = some (.tup xs) → H' p = some (.tup xs)) : ∀ (l : List Tr) (xs : List V), TrsAt H l xs → TrsAt H' l xs
  | [], xs, h => by unfold TrsAt at h ⊢; exact h
  | a :: l, xs, h => by
    unfold TrsAt at h ⊢
    obtain ⟨x, r, e, h1, h2⟩ := h
    exact ⟨x, r, e, TrAt.upH k a x h1, TrsAt.upH k l r h2⟩
end
theorem TrAt.kept {H H' : Hp} {a : Tr} {v : V} (h : TrAt H a v) (k : Kept H H') : TrAt H' a v := TrAt.upH (fun p xs h => k.tup h) a v h
theorem TrsAt.kept {H H' : Hp} {l : List Tr} {xs : List V} (h : TrsAt H l xs) (k : Kept H H') : TrsAt H' l xs := TrsAt.upH (fun p xs h => k.tup h) l xs h
theorem TrAt.keptC {d c : Addr} {H H' : Hp} {a : Tr} {v : V} (h : TrAt H a v) (k : KeptC d c H H') (hd : DrwC d c H) : TrAt H' a v := TrAt.upH (fun p xs h => k.tup hd h) a v h
theorem TrsAt.keptC {d c : Addr} {H H' : Hp} {l : List Tr} {xs : List V} (h : TrsAt H l xs) (k : KeptC d c H H') (hd : DrwC d c H) : TrsAt H' l xs := TrsAt.upH (fun p xs h => k.tup hd h) l xs h
theorem TrsAt.nil {H : Hp} : TrsAt H [] [] := by unfold TrsAt; rfl
theorem TrsAt.cons {H : Hp} {a : Tr} {l : List Tr} {x : V} {xs : List V} (h : TrAt H a x) (hl : TrsAt H l xs) : TrsAt H (a :: l) (x :: xs) := by unfold TrsAt; exact ⟨x, xs, rfl, h, hl⟩
theorem TrsAt.len {H : Hp} : ∀ {l : List Tr} {xs : List V}, TrsAt H l xs → xs.length = l.length
  | [], xs, h => by unfold TrsAt at h; rw [h] <;> rfl
  | a :: l, xs, h => by
    unfold TrsAt at h
    obtain ⟨x, r, rfl, _, h2⟩ := h
    rw [List.length_cons, List.length_cons, TrsAt.len h2]
theorem TrsAt.get {H : Hp} : ∀ {l : List Tr} {xs : List V}, TrsAt H l xs → ∀ (i : Nat) (x : V) (a : Tr), xs[i]? = some x → l[i]? = some a → TrAt H a x
  | [], xs, h, i, x, a, h1, h2 => by cases h2
  | b :: l, xs, h, i, x, a, h1, h2 => by
    unfold TrsAt at h
    obtain ⟨y, r, rfl, g1, g2⟩ := h
    cases i with
    | zero =>
      cases h1
      cases h2
      exact g1
    | succ i =>
      rw [List.getElem?_cons_succ] at h1 h2
      exact TrsAt.get g2 i x a h1 h2
theorem TrsAt.app {H : Hp} : ∀ {l m : List Tr} {xs ys : List V}, TrsAt H l xs → TrsAt H m ys → TrsAt H (l ++ m) (xs ++ ys)
  | [], m, xs, ys, h1, h2 => by
    unfold TrsAt at h1
    rw [h1]
    exact h2
  | a :: l, m, xs, ys, h1, h2 => by
    unfold TrsAt at h1
    obtain ⟨x, r, rfl, g1, g2⟩ := h1
    exact TrsAt.cons g1 (TrsAt.app g2 h2)
mutual
theorem TrAt.dp {K : PySem.W.Frag} {H : Hp} : ∀ {a : Tr} {v : V}, TrAt H a v → Dp K H v (trD a)
  | .i n, v, h => by unfold TrAt at h; rw [h]; exact .int n
  | .b x, v, h => by unfold TrAt at h; rw [h]; exact .bl x
  | .s z, v, h => by unfold TrAt at h; rw [h]; exact .str z
  | .n, v, h => by unfold TrAt at h; rw [h]; exact .non
  | .t l, v, h => by
    unfold TrAt at h
    obtain ⟨p, xs, rfl, h1, h2⟩ := h
    exact .tup (SqT.of h1) (TrsAt.dp h2)
theorem TrsAt.dp {K : PySem.W.Frag} {H : Hp} : ∀ {l : List Tr} {xs : List V}, TrsAt H l xs → DpAll K H xs (trsD l)
  | [], xs, h => by unfold TrsAt at h; rw [h]; exact .nil
  | a :: l, xs, h => by
    unfold TrsAt at h
    obtain ⟨x, r, rfl, g1, g2⟩ := h
    exact .cons (TrAt.dp g1) (TrsAt.dp g2)
end
def TrW (a : Tr) : V → Hp → Prop := fun v H => TrAt H a v
def TrsW (l : List Tr) : List V → Hp → Prop := fun xs H => TrsAt H l xs
section
variable {σ : L2.St} {H0 : Hp} {te ta tb : TE} {tq : TA} {K : PySem.W.Frag}
theorem mkT_nil : MkA σ H0 tNil (TrsW []) := ⟨fun v H H' k q => TrsAt.kept (l := []) q k, fun H Q k0 k => k [] H (Kept.refl _) TrsAt.nil⟩
theorem mkT_cons {a : Tr} {l : List Tr} (h : MkE σ H0 te (TrW a)) (hs : MkA σ H0 tq (TrsW l)) : MkA σ H0 (tCons te tq) (TrsW (a :: l)) :=
  ⟨fun v H H' k q => TrsAt.kept (l := a :: l) q k, fun H Q k0 k => h.run H _ k0 fun v H1 k1 w1 => hs.run H1 _ (k0.trans k1) fun r H2 k2 w2 => k _ H2 (k1.trans k2) (TrsAt.cons (TrAt.kept w1 k2) w2)⟩
theorem mkT_tup {l : List Tr} (h : MkA σ H0 tq (TrsW l)) (hl : l.length ≤ 1000) : MkE σ H0 (tTup tq) (TrW (.t l)) :=
  ⟨fun v H H' k q => TrAt.kept (a := .t l) q k, fun H Q k0 k => h.run H _ k0 fun vs H1 k1 w => ⟨Nat.le_trans (by rw [TrsAt.len w]; exact hl) (by decide), fun p hp => k _ _ (k1.trans (Kept.new hp)) (by
    show TrAt _ _ _
    unfold TrAt
    exact ⟨p, vs, rfl, upd_same, TrsAt.kept w (Kept.new hp)⟩)⟩⟩
theorem mkT_int {n : Int} : MkE σ H0 (tC (.int n)) (TrW (.i n)) := ⟨fun v H H' k q => TrAt.kept (a := .i n) q k, fun H Q k0 k => k _ H (Kept.refl _) (by show TrAt _ _ _; unfold TrAt; rfl)⟩
theorem mkT_bl {x : Bool} : MkE σ H0 (tC (.bl x)) (TrW (.b x)) := ⟨fun v H H' k q => TrAt.kept (a := .b x) q k, fun H Q k0 k => k _ H (Kept.refl _) (by show TrAt _ _ _; unfold TrAt; rfl)⟩
theorem mkT_str {z : Str} : MkE σ H0 (tC (.str z)) (TrW (.s z)) := ⟨fun v H H' k q => TrAt.kept (a := .s z) q k, fun H Q k0 k => k _ H (Kept.refl _) (by show TrAt _ _ _; unfold TrAt; rfl)⟩
theorem mkT_non : MkE σ H0 (tC .non) (TrW .n) := ⟨fun v H H' k q => TrAt.kept (a := .n) q k, fun H Q k0 k => k _ H (Kept.refl _) (by show TrAt _ _ _; unfold TrAt; rfl)⟩
theorem mkT_neg {n : Int} (h : MkE σ H0 te (TrW (.i n))) : MkE σ H0 (tUn (rU fun i => V.int (-i)) te) (TrW (.i (-n))) := ⟨fun v H H' k q => TrAt.kept (a := .i (-n)) q k, fun H Q k0 k => h.run H _ k0 fun v H1 k1 w => by
    have w : TrAt H1 (.i n) v := w
    unfold TrAt at w
    exact ⟨n, w, k _ H1 k1 (by show TrAt _ _ _; unfold TrAt; rfl)⟩⟩
theorem mkT_var {i : Nat} {v : V} {a : Tr} (h : σ[i]? = some (some v)) (ha : TrAt H0 a v) : MkE σ H0 (tVar i) (TrW a) := ⟨fun v H H' k q => TrAt.kept (a := a) q k, fun H Q k0 k => ⟨v, h, k v H (Kept.refl _) (TrAt.kept ha k0)⟩⟩
end
end Ky

namespace Ky
open PySem PySem.Spec PyProof.Rows L2
/-! ### comprehensions whose element draws: lists of values that are no places -/
section
variable {te : TE} {σ : L2.St}
theorem LcJ.drawsV {d c : Addr} (W : V → Prop) {n : Nat} {j : Nat} {H0 : Hp} {Q : VK} (hd : DrwC d c H0) (hn : n ≤ sizeLine)
    (step : ∀ i H (k2 : VK), i < n → KeptC d c H0 H → (∀ r H4, KeptC d c H H4 → W r → k2 r H4) → te ((wipe σ [j]).set j (some (.int (i : Int)))) H k2)
    (fin : ∀ D H (ns : List V), H0 D = none → KeptC d c H0 H → H D = some (.lst ns) → ns.length = n → (∀ x ∈ ns, W x) → Q (.ref D) H) : LcJ (gName j) tYes te [j] σ Q (Itr 0 n) H0 := by
  intro D hD
  have nd := (hd.old hD).1
  refine c_walk (xv := fun i => .int (i : Int)) (n := n) (fun i H => KeptC d c H0 H ∧ ∃ ns : List V, H D = some (.lst ns) ∧ ns.length = i ∧ ∀ x ∈ ns, W x) ⟨(Kept.new hD).toC, [], upd_same, rfl, fun x h => (by cases h)⟩ (fun i H h s => h) (fun i H x H' h s q => ?_) (fun H s => Nat.le_refl n) (fun i H hi s => ?_) fun H s => ?_
  · obtain ⟨h1, h2⟩ := q
    rw [Int.zero_add] at h2
    exact ⟨h1, h2⟩
  · obtain ⟨kp, ns, h1, h2, h3⟩ := s
    refine ⟨wipe_one, w_yes (if_t rfl ?_)⟩
    refine step i H _ hi kp fun r H4 k4 r0 => ⟨_, k4.lst nd h1, ?_, (kp.trans k4).mut hD, ns ++ [r], ?_, ?_, fun x hx => ?_⟩
    · rw [h2]
      omega
    · exact upd_same
    · rw [List.length_append, h2] <;> rfl
    · rcases List.mem_append.mp hx with q | q
      · exact h3 x q
      · rw [List.mem_singleton.mp q]
        exact r0
  · obtain ⟨kp, ns, h1, h2, h3⟩ := s
    exact fin D H ns hD kp h1 h2 h3
theorem Lc1.drawsV {d c : Addr} (W : V → Prop) {n : Nat} {j : Nat} {H0 : Hp} {Q : VK} (hd : DrwC d c H0) (hn : n ≤ 1000)
    (step : ∀ i H (k2 : VK), i < n → KeptC d c H0 H → (∀ r H4, KeptC d c H H4 → W r → k2 r H4) → te ((wipe σ [j]).set j (some (.int (i : Int)))) H k2)
    (fin : ∀ D H (ns : List V), H0 D = none → KeptC d c H0 H → H D = some (.lst ns) → ns.length = n → (∀ x ∈ ns, W x) → Q (.ref D) H) : Lc1 (gName j) tYes te [j] σ Q [.int (n : Int)] H0 := by
  have hz : 1001 ≤ sizeLine := by decide
  refine ⟨_, rfl, by omega, by omega, ?_⟩
  rw [Int.toNat_natCast]
  exact LcJ.drawsV W hd (by omega) step fin
end
end Ky

namespace Ky
open PySem PySem.Spec PyProof.Rows L2
/-! ### a dict of the module, keys texts: in, [..]; the sum of a list of truths -/
def KHas (K : PySem.W.Frag) (w : World) (a : Addr) (x : Str) (b : Bool) : Prop :=
  ∃ es n u, K.lookup a = some ⟨.type "dict", none, .dict es n, #[]⟩ ∧ PySem.W.KeysLit w.params es.toList ∧ (a == sysModules) = false ∧ PySem.W.nsIn K a x = some u ∧ b = u.isSome
def tKIn (K : PySem.W.Frag) (w : World) (ty td : TE) : TE := fun σ H Q => ty σ H fun y H1 => td σ H1 fun x H2 => ∃ p z b, x = .ref p ∧ y = .str z ∧ KHas K w p z b ∧ Q (.bl b) H2
section
variable {X : Cx} {i o : Expr} {ty td : TE} {K : PySem.W.Frag} {w : World}
theorem pc_kin (hK : X.K = K) (hw : X.w = w) (hi : PE X i ty) (ho : PE X o td) : PC X .In i o (tKIn K w ty td) := by
  subst hK
  subst hw
  refine ⟨fun pins s σ H Q I h => ?_⟩
  refine thn (hi.run pins s σ H _ I h) fun iv s1 ⟨y, H1, I1, ry, q1⟩ => thn (ho.run pins s1 σ H1 _ I1 q1) fun u s2 ⟨x, H2, I2, rx, p, z, b, ex, ey, ⟨es, n, u0, hl, hk, low, e, hb⟩, q2⟩ => ?_
  subst ex
  subst ey
  obtain rfl : u = Value.ref p := rx
  obtain ⟨t, rfl⟩ := ry
  have hm := PySem.W.mapOf_K (prog := X.prog) (w := X.w) I2.kIn hl hk
  refine wpAny_in_of (strKind_is X.prog X.w z t) low hm ?_
  refine ⟨.bl b, H2, I2.tok _, ?_, q2⟩
  show Value.bool _ = Value.bool _
  rw [PySem.W.find_K hl e, hb]
theorem ix_kdictK (hK : X.K = K) (hw : X.w = w) : IxR X (rIxD K w) := by
  subst hK
  subst hw
  exact ix_kdict
/-- sum(l), l a list of truths -/
def rSumB (K : PySem.W.Frag) : List V → Hp → VK → Prop := fun vs H Q => ∃ (a : Addr) (bs : List Bool), vs = [V.ref a] ∧ SqL K H a (bs.map V.bl) ∧ Q (.int (bs.filter id).length) H
theorem preSum_bools (bs : List Bool) : ∀ j, j ≤ bs.length → preSum (fun i => if bs.getD i false = true then 1 else 0) j = ((bs.take j).filter id).length
  | 0, _ => rfl
  | j + 1, h => by
    rw [preSum, preSum_bools bs j (by omega)]
    have hj : j < bs.length := by omega
    rw [List.take_add_one, List.getElem?_eq_getElem hj, List.filter_append, List.length_append, List.getD_eq_getElem?_getD, List.getElem?_eq_getElem hj]
    cases bs[j] <;> simp
theorem cr_sumB (hc : X.calm = true) : CallR X (.builtin "sum") (rSumB X.K) := by
  intro pins s σ H vs us Q I r h
  obtain ⟨a, bs, rfl, hs, q⟩ := h
  obtain ⟨its, rv, hl, _⟩ := I.list hs
  rw [Vals.ref1 r]
  have hb := rv.bls
  refine call_sum_walkAnyB (iter_any hl.isList fun s₂ e2 st hne => ?_)
  subst e2
  refine ⟨_, _, _, _, _, _, _, fun i => if bs.getD i false = true then 1 else 0, rfl, (Walks.list (A := X.A.in1) (I.ok.hd hc) _ a hne its.toArray).toS, st, ?_, fun i v hv => ?_, fun s' t' mv => ?_⟩
  · intro b hb2
    have hlt : a < s.heap.objs.size := by obtain ⟨_, e, _⟩ := hl.isList; exact Heap.lt_size e
    show b < (s.heap.push _).objs.size
    rw [Heap.size_push]
    rcases List.mem_cons.mp hb2 with e | hb2
    · exact e ▸ Nat.lt_succ_self _
    · exact (List.mem_singleton.mp hb2) ▸ Nat.lt_succ_of_lt hlt
  · have hv' : its[i]? = some v := by simpa using hv
    rw [hb, List.getElem?_map] at hv'
    obtain ⟨b, hb3, rfl⟩ := Option.map_eq_some_iff.mp hv'
    refine .inr ⟨b, rfl, ?_⟩
    show (if bs.getD i false = true then (1 : Int) else 0) = _
    have hg : bs.getD i false = b := by rw [List.getD_eq_getElem?_getD, hb3] <;> rfl
    rw [hg]
  · have hz : its.toArray.size = bs.length := by rw [hb, List.size_toArray, List.length_map]
    rw [hz, preSum_bools bs _ (Nat.le_refl _), List.take_length]
    obtain ⟨h3, g3, d3, t3, o3⟩ := s'
    cases (mv.gens : g3 = s.gens)
    cases (mv.drawn : d3 = s.drawn)
    cases (mv.os : o3 = s.os)
    refine ⟨.int _, H, I.kept fun b o eo => mv.heap b o (fun hmem => ?_) (Heap.get?_push_of_some _ eo), ⟨_, rfl⟩, q⟩
    rcases List.mem_cons.mp hmem with e1 | hmem
    · exact absurd (e1 ▸ Heap.lt_size eo) (Nat.lt_irrefl _)
    · cases hmem
end
end Ky
namespace Ky
open PySem PySem.Spec PyProof.Rows L2
section
variable {X : Cx} {K : PySem.W.Frag}
theorem cr_allK (hK : X.K = K) (hc : X.calm = true) : CallR X (.builtin "all") (rAll K) := by subst hK; exact cr_all hc
theorem cr_anyK (hK : X.K = K) (hc : X.calm = true) : CallR X (.builtin "any") (rAny K) := by subst hK; exact cr_any hc
theorem cr_sumBK (hK : X.K = K) (hc : X.calm = true) : CallR X (.builtin "sum") (rSumB K) := by subst hK; exact cr_sumB hc
end
end Ky

namespace Ky
open PySem PySem.Spec PyProof.Rows L2
/-! ### comprehensions whose element draws a tree -/
section
variable {te : TE} {σ : L2.St}
theorem LcJ.drawsT {d c : Addr} (W : Tr → Prop) {n : Nat} {j : Nat} {H0 : Hp} {Q : VK} (hd : DrwC d c H0) (hn : n ≤ sizeLine)
    (step : ∀ i H (k2 : VK), i < n → KeptC d c H0 H → (∀ r H4 t, KeptC d c H H4 → TrAt H4 t r → W t → k2 r H4) → te ((wipe σ [j]).set j (some (.int (i : Int)))) H k2)
    (fin : ∀ D H xs ts, H0 D = none → KeptC d c H0 H → H D = some (.lst xs) → TrsAt H ts xs → ts.length = n → (∀ t ∈ ts, W t) → Q (.ref D) H) : LcJ (gName j) tYes te [j] σ Q (Itr 0 n) H0 := by
  intro D hD
  have nd := (hd.old hD).1
  refine c_walk (xv := fun i => .int (i : Int)) (n := n) (fun i H => KeptC d c H0 H ∧ ∃ xs ts, H D = some (.lst xs) ∧ TrsAt H ts xs ∧ ts.length = i ∧ ∀ t ∈ ts, W t) ⟨(Kept.new hD).toC, [], [], upd_same, TrsAt.nil, rfl, fun x h => (by cases h)⟩ (fun i H h s => h) (fun i H x H' h s q => ?_) (fun H s => Nat.le_refl n) (fun i H hi s => ?_) fun H s => ?_
  · obtain ⟨h1, h2⟩ := q
    rw [Int.zero_add] at h2
    exact ⟨h1, h2⟩
  · obtain ⟨kp, xs, ts, h1, hx, h2, h3⟩ := s
    refine ⟨wipe_one, w_yes (if_t rfl ?_)⟩
    refine step i H _ hi kp fun r H4 t k4 r0 w0 => ⟨_, k4.lst nd h1, ?_, (kp.trans k4).mut hD, xs ++ [r], ts ++ [t], ?_, ?_, ?_, fun x hx => ?_⟩
    · rw [hx.len, h2]
      omega
    · exact upd_same
    · exact TrsAt.upH (fun p zs h => tup_upd (k4.lst nd h1) h) _ _ ((hx.keptC k4 (kp.drw hd)).app (TrsAt.cons r0 TrsAt.nil))
    · rw [List.length_append, h2] <;> rfl
    · rcases List.mem_append.mp hx with q | q
      · exact h3 x q
      · rw [List.mem_singleton.mp q]
        exact w0
  · obtain ⟨kp, xs, ts, h1, hx, h2, h3⟩ := s
    exact fin D H xs ts hD kp h1 hx h2 h3
theorem Lc1.drawsT {d c : Addr} (W : Tr → Prop) {n : Nat} {j : Nat} {H0 : Hp} {Q : VK} (hd : DrwC d c H0) (hn : n ≤ 1000)
    (step : ∀ i H (k2 : VK), i < n → KeptC d c H0 H → (∀ r H4 t, KeptC d c H H4 → TrAt H4 t r → W t → k2 r H4) → te ((wipe σ [j]).set j (some (.int (i : Int)))) H k2)
    (fin : ∀ D H xs ts, H0 D = none → KeptC d c H0 H → H D = some (.lst xs) → TrsAt H ts xs → ts.length = n → (∀ t ∈ ts, W t) → Q (.ref D) H) : Lc1 (gName j) tYes te [j] σ Q [.int (n : Int)] H0 := by
  have hz : 1001 ≤ sizeLine := by decide
  refine ⟨_, rfl, by omega, by omega, ?_⟩
  rw [Int.toNat_natCast]
  exact LcJ.drawsT W hd (by omega) step fin
end
end Ky

namespace Ky
open PySem PySem.Spec PyProof.Rows L2
/-! ### list(d.values()), d a dict whose keys are ints and texts -/
def valsO (p d : Addr) : HO := .ext fun h => h.IsValuesView p d
theorem valsO_ok {P : Program} {w : World} {H : Hp} {h : Heap} {p d : Addr} (e : h.get? p = some { cls := .type "dict_values", data := .fields #[.ref d] }) : ObjOk P w H h p (valsO p d) :=
  ⟨⟨_, e, rfl, rfl⟩, ⟨_, e⟩, fun h1 h2 x k => let ⟨o, ho, r⟩ := x; ⟨o, k o ho, r⟩⟩
section
variable {X : Cx}
def rValsK : V → List V → Hp → VK → Prop := fun x xs H Q => ∃ (a : Addr) (kvs : List (L2.Key × V)), x = .ref a ∧ xs = [] ∧ H a = some (.dK kvs) ∧ ∀ p, H p = none → Q (.ref p) (upd H p (valsO p a))
theorem mt_valsK : MtR X "dict.values" rValsK := by
  intro pins s σ H x xs v us Q I rx rxs h
  obtain ⟨a, kvs, rfl, rfl, ha, q⟩ := h
  cases rx
  cases rxs
  obtain ⟨_, hsys, vs, rel, dof⟩ := dk_of I.hok ha
  refine call_meetsIn F.slot_dict_values dof.typeIs F.entry_dict_values (F.args_dict_values_1 _) (meets_dict_values (mixKind X.prog X.w) a hsys) ⟨⟨vs, dof⟩, ?_⟩
  have hf : H s.heap.objs.size = none := I.hok.fresh (Nat.le_refl _)
  exact ⟨.ref s.heap.objs.size, upd H s.heap.objs.size (valsO s.heap.objs.size a), I.laid (t' := s.toks) (fun b u e => Heap.get?_push_of_some _ e) (Nat.le_refl _) (valsO_ok (Heap.get?_push_size _ rfl)), rfl, q _ hf⟩
def rListVals : List V → Hp → VK → Prop := fun xs H Q => ∃ (p a : Addr) (kvs : List (L2.Key × V)), xs = [V.ref p] ∧ H p = some (valsO p a) ∧ H a = some (.dK kvs) ∧ ∀ q, H q = none → Q (.ref q) (upd H q (.lst (kvs.map (·.2))))
theorem call_list_vals (hc : X.calm = true) : CallR X (.type "list") rListVals := by
  intro pins s σ H xs us Q I r h
  obtain ⟨p, a, kvs, e, hp, hk, q⟩ := h
  subst e
  obtain ⟨u, eu, rx⟩ := vals1 r
  subst eu
  obtain rfl : u = Value.ref p := rx
  obtain ⟨z, lo, vs, rk, hd⟩ := (show ObjOk X.prog X.w H s.heap a (.dK kvs) from I.hok a _ hk)
  obtain ⟨ep, hat⟩ := hd.dictAt
  have hl : kvs.length = vs.length := Paired.length rk
  have hvw : s.heap.IsValuesView p a := (I.hok p _ hp).1
  refine PySem.W.kdl_call (PySem.W.kdl_values (knd := mixKind X.prog X.w) (kvs := vs) (ep := ep)) (I.ok.hd hc) ⟨hvw, hat⟩ (by rw [← hl]; exact z) fun h' tk acc' c' hkeep hS hacc => ?_
  refine ⟨.ref s.heap.objs.size, upd H s.heap.objs.size (.lst (kvs.map (·.2))), I.laid hkeep (Nat.le_refl _) (show ObjOk X.prog X.w _ _ _ (.lst (kvs.map (·.2))) from ⟨?_, acc'.toList, c', ?_, ?_⟩), rfl, q _ (I.hok.fresh (Nat.le_refl _))⟩
  · rw [List.length_map]; exact z
  · have el : acc'.toList.length = acc'.size := by simp
    refine vals_of_at (by rw [List.length_map, el, hacc.1, hl]) fun j x w h1 h2 => ?_
    obtain ⟨k, hky⟩ := hacc.2 j w (by rw [← Array.getElem?_toList]; exact h2)
    obtain ⟨y, e1, e2⟩ := KV.at' rk hky
    have e3 : (kvs.map (·.2))[j]? = some y := by rw [List.getElem?_map, e1] <;> rfl
    rw [e3] at h1
    cases h1
    exact e2
  · rw [Array.toArray_toList]; exact hS
end
/-! ### x in t, x not in t, t a tuple of data -/
section
variable {X : Cx}
def rInTD (K : PySem.W.Frag) : R2 := fun x y H Q => ∃ d ds, Dp K H x d ∧ Dp K H y (.tuple ds) ∧ SeqAt.shaped d = true ∧ SeqAt.shaped (.list ds) = true ∧ Q (.bl (ds.any fun z => PyData.eqv z d)) H
def rNotInTD (K : PySem.W.Frag) : R2 := fun x y H Q => ∃ d ds, Dp K H x d ∧ Dp K H y (.tuple ds) ∧ SeqAt.shaped d = true ∧ SeqAt.shaped (.list ds) = true ∧ Q (.bl (!ds.any fun z => PyData.eqv z d)) H
theorem op_inTD (hu : X.A.units + 65 < cLine) : OpR X (compareOp .In) (rInTD X.K) := by
  intro pins s σ H x y v u Q I rx ry h
  obtain ⟨d, ds, hd, he, sd, se, q⟩ := h
  obtain ⟨as, r1⟩ := Dp.reads I d x v hd rx
  obtain ⟨bs, r2⟩ := Dp.reads I (.tuple ds) y u he ry
  exact SeqAt.in_tuple_reads r2 r1 (SeqAt.canLay_of_shaped se) (SeqAt.canLay_of_shaped sd) (room_in_shaped sd hu) ⟨.bl _, H, I, rfl, q⟩
theorem op_notInTD (hu : X.A.units + 65 < cLine) : OpR X (compareOp .NotIn) (rNotInTD X.K) := by
  intro pins s σ H x y v u Q I rx ry h
  obtain ⟨d, ds, hd, he, sd, se, q⟩ := h
  obtain ⟨as, r1⟩ := Dp.reads I d x v hd rx
  obtain ⟨bs, r2⟩ := Dp.reads I (.tuple ds) y u he ry
  exact SeqAt.notIn_tuple_reads r2 r1 (SeqAt.canLay_of_shaped se) (SeqAt.canLay_of_shaped sd) (room_in_shaped sd hu) ⟨.bl _, H, I, rfl, q⟩
end
/-! ### defs that raise -/
structure DfX (P : Program) (w : World) (K : PySem.W.Frag) (mg : Str → Option Value) (base : Heap) (k : Nat) (x : Str) (ps : List Str) (sp : Sp) : Prop where
  ex : ∃ f fd, FnOk P w K mg base (L2.CX P w) k f fd ps sp ∧ mg x = some (.ref f) ∧ PySem.W.keepIn K (.ref f) = true ∧ Binds K fd ps []
section
variable {X : Cx} {k : Nat} {ps : List Str} {sp : Sp} {x : Str} {p pos : Pos} {e : Expr} {es : List Expr} {t : TA} {E : L2.St → XK}
theorem pe_dfX (D : DfX X.prog X.w X.K X.mg X.base k x ps sp) (hr : Room k X.A) (hx : ∀ σ, PassesAt (L2.CX X.prog X.w) X σ (E σ)) (hg : Gl X x) (ha : PA X (e :: es) t) (hdb : (x == ("__debug__" : Str)) = false := by decide)
    (he : starEach (e :: es) X.env = (false, eval e X.env) :: starEach es X.env := by rfl) (hpl : (backTo pos (starEach es X.env)).any (·.1) = false := by rfl) :
    PE X (.Call (.Name x p) (e :: es) [] pos) (tCallS sp E t) := by
  obtain ⟨f, fd, F, hm, hk, hb⟩ := D.ex
  exact pe_callS F hr hg hm hk hb hx ha hdb he hpl
end
/-- a class of the program over a class over ValueError, without __init__ -/
structure ExC (K : PySem.W.Frag) (mg : Str → Option Value) (x : Str) (C : Addr) : Prop where
  g : mg x = some (.ref C)
  x : PySem.W.excIn K C [.type "ValueError", .type "Exception", .type "BaseException", .type "object"] "ValueError.__new__" = true
  k : PySem.W.keepIn K (.ref C) = true
  b : PySem.W.subIn K (.ref C) (.type "BaseException") = some true
  t : PySem.W.typeIn K (.ref C) = some (.type "type")
  e : PySem.W.exmOne K (.ref C) (.ref C) = some true
theorem exm_self {K : PySem.W.Frag} {S : Addr} (h1 : PySem.W.subIn K (.ref S) (.type "BaseException") = some true) (h2 : PySem.W.isClsIn K S = true) (h3 : PySem.W.typeIn K (.ref S) = some (.type "type")) (h4 : PySem.W.subIn K (.ref S) (.ref S) = some true) :
    PySem.W.exmOne K (.ref S) (.ref S) = some true := by
  have e1 : (PySem.W.subIn K (.ref S) (.type "BaseException") == some true) = true := by rw [h1] <;> rfl
  have e2 : ((PySem.W.clsIn K S).isSome && PySem.W.typeIn K (.ref S) == some (.type "type")) = true := by
    have h2' : (PySem.W.clsIn K S).isSome = true := h2
    rw [h2', h3] <;> rfl
  show (if (PySem.W.subIn K (.ref S) (.type "BaseException") == some true) = true then (if ((PySem.W.clsIn K S).isSome && PySem.W.typeIn K (.ref S) == some (.type "type")) = true then PySem.W.subIn K (.ref S) (.ref S) else none) else none) = some true
  rw [if_pos e1, if_pos e2]
  exact h4
/-- as FunC.ok, for a def that may raise -/
theorem FunC.okX {P : Program} {w : World} {K : PySem.W.Frag} {mg : Str → Option Value} {base : Heap} {x : Str} {st : Stmt} {f c : Addr} {fd : FuncData} {N ps : List Str} {k : Nat} {sp : Sp} (F : FunC K x st f fd c) (S : FnScope N ps (defScope st)) (len : ∀ vs H Q E, sp vs H Q E → vs.length = ps.length)
    (body : ∀ (A : Around) (outer : List Env) (s : Shared) (H : Hp) (vs : List V) (Q : VK) (E : XK), Room k (A.deeper (envOfC x (defScope st) s.heap.objs.size f (.ref c))) → sp vs H Q E →
      ∃ t, PSs (cxOf (L2.CX P w) P w K mg base N x (defScope st) f (.ref c) A outer s H E) (defBody st) t ∧ t { nx := fun _ H' => Q .non H', rt := Q } (start N vs) H) : FnOk P w K mg base (L2.CX P w) (k + 1) f fd ps sp := by
  obtain ⟨oc, od, kV, doc, pm, an, ct, osl, e, lk, hcd⟩ := F.ex
  subst e
  exact fn_of lk hcd S len fun A outer s H vs Q E hr hsp => body A outer s H vs Q E hr hsp
theorem w_callS {sp : Sp} {E : L2.St → XK} {tq : TA} {σ : L2.St} {H : Hp} {Q : VK} (q : tq σ H fun vs H1 => sp vs H1 Q (E σ)) : tCallS sp E tq σ H Q := q
theorem w_bm0 {K : PySem.W.Frag} {σ : L2.St} {H : Hp} {Q : VK} {T : String} {r : V → List V → Hp → VK → Prop} {te : TE} (q : te σ H fun x H1 => tyV K T x H1 ∧ r x [] H1 Q) : tBM0 K T r te σ H Q := q
end Ky

namespace Ky
open PySem PySem.Spec PyProof.Rows L2
theorem dpT_rows {K : PySem.W.Frag} {H : Hp} {a : Addr} {ps : List Addr} {cs : List (List Int)} (h1 : ClsAt H ps cs) (ha : H a = some (.tup (ps.map V.ref))) : Dp K H (.ref a) (.tuple (cs.map rowD)) := by
  refine .tup (SqT.of ha) (dpAll_of (by rw [List.length_map, List.length_map, h1.1]) fun i x d hx hd => ?_)
  rw [List.getElem?_map] at hx hd
  obtain ⟨b, hb, rfl⟩ := Option.map_eq_some_iff.mp hx
  obtain ⟨c, hc, rfl⟩ := Option.map_eq_some_iff.mp hd
  exact dp_ints (h1.2 i b c hb hc)
theorem dpL_rows {K : PySem.W.Frag} {H : Hp} {a : Addr} {ps : List Addr} {cs : List (List Int)} (h1 : ClsAt H ps cs) (ha : H a = some (.lst (ps.map V.ref))) : Dp K H (.ref a) (.list (cs.map rowD)) := by
  refine .lst (SqL.of ha) (dpAll_of (by rw [List.length_map, List.length_map, h1.1]) fun i x d hx hd => ?_)
  rw [List.getElem?_map] at hx hd
  obtain ⟨b, hb, rfl⟩ := Option.map_eq_some_iff.mp hx
  obtain ⟨c, hc, rfl⟩ := Option.map_eq_some_iff.mp hd
  exact dp_ints (h1.2 i b c hb hc)
section
variable {K : PySem.W.Frag} {H : Hp} {Q : VK} {a b : Addr} {ps : List Addr} {cs : List (List Int)} {c d : List Int}
theorem w_inRT (ha : H a = some (.tup (ps.map V.ref))) (hp : ClsAt H ps cs) (hb : H b = some (.tup (c.map V.int))) (q : Q (.bl (decide (c ∈ cs))) H) : rInTD K (.ref b) (.ref a) H Q :=
  ⟨_, cs.map rowD, dp_ints hb, dpT_rows hp ha, shT_ints c, shL_rows cs, by rw [any_rows]; exact q⟩
theorem w_ninRT (ha : H a = some (.tup (ps.map V.ref))) (hp : ClsAt H ps cs) (hb : H b = some (.tup (c.map V.int))) (q : Q (.bl (decide (c ∉ cs))) H) : rNotInTD K (.ref b) (.ref a) H Q :=
  ⟨_, cs.map rowD, dp_ints hb, dpT_rows hp ha, shT_ints c, shL_rows cs, by rw [any_rows]; rw [decide_not] at q; exact q⟩
theorem w_inRL (ha : H a = some (.lst (ps.map V.ref))) (hp : ClsAt H ps cs) (hb : H b = some (.tup (c.map V.int))) (q : Q (.bl (decide (c ∈ cs))) H) : rInD K (.ref b) (.ref a) H Q :=
  ⟨_, cs.map rowD, dp_ints hb, dpL_rows hp ha, shT_ints c, shL_rows cs, by rw [any_rows]; exact q⟩
theorem w_neCI (ha : H a = some (.tup (c.map V.int))) (hb : H b = some (.tup (d.map V.int))) (q : Q (.bl (decide (c ≠ d))) H) : rNeD K (.ref a) (.ref b) H Q :=
  ⟨_, _, dp_ints ha, dp_ints hb, shT_ints _, shT_ints _, by rw [eqv_ints]; rw [show decide (c ≠ d) = !decide (c = d) from decide_not] at q; exact q⟩
end
theorem clsAt_pickF {H : Hp} {bs : List Addr} {cs : List (List Int)} (h : ClsAt H bs cs) (p : List Int → Bool) : ∃ qs : List Addr, ((List.range bs.length).filter fun i => p (cs.getD i [])).map (fun i => V.ref (bs.getD i 0)) = qs.map V.ref ∧ ClsAt H qs (cs.filter p) := by
  refine ⟨((List.range bs.length).filter fun i => p (cs.getD i [])).map (fun i => bs.getD i 0), by rw [List.map_map] <;> rfl, ?_⟩
  have e : cs.filter p = ((List.range bs.length).filter fun i => p (cs.getD i [])).map (fun i => cs.getD i []) := by
    rw [h.1]
    have := range_filter [] p id cs
    rw [List.map_id] at this
    exact this.symm
  rw [e]
  refine ⟨by rw [List.length_map, List.length_map], fun i b c h1 h2 => ?_⟩
  rw [List.getElem?_map] at h1 h2
  obtain ⟨j, hj, rfl⟩ := Option.map_eq_some_iff.mp h1
  rw [hj] at h2
  cases h2
  have hjl := List.mem_range.mp (List.mem_filter.mp (List.mem_of_getElem? hj)).1
  have hjc : j < cs.length := by rw [← h.1]; exact hjl
  show H (bs.getD j 0) = some (.tup ((cs.getD j []).map V.int))
  rw [show bs.getD j 0 = bs[j] from by rw [List.getD_eq_getElem?_getD, List.getElem?_eq_getElem hjl] <;> rfl, show cs.getD j [] = cs[j] from by rw [List.getD_eq_getElem?_getD, List.getElem?_eq_getElem hjc] <;> rfl]
  exact h.2 j _ _ (List.getElem?_eq_getElem hjl) (List.getElem?_eq_getElem hjc)
section
variable {K : PySem.W.Frag} {σ : L2.St} {Q : VK} {te : TE} {tt : TT} {a : Addr} {bs : List Addr} {cs : List (List Int)} {j : Nat} {H0 : Hp}
/-- a comprehension over clauses that keeps some of them -/
theorem LcT.cls (p : List Int → Bool) (hn : cs.length ≤ 1000) (ha : H0 a = some (.tup (bs.map V.ref))) (hc : ClsAt H0 bs cs)
    (step : ∀ b c H (k : Hp → Prop) (k2 : VK), c ∈ cs → H b = some (.tup (c.map V.int)) → Kept H0 H → (∀ H4, Kept H H4 → p c = true → k2 (.ref b) H4) → (∀ H4, Kept H H4 → p c = false → k H4) → tt ((wipe σ [j]).set j (some (.ref b))) H fun z H3 => if z = true then te ((wipe σ [j]).set j (some (.ref b))) H3 k2 else k H3)
    (fin : ∀ D H (qs : List Addr), H0 D = none → Kept H0 H → H D = some (.lst (qs.map V.ref)) → ClsAt H qs (cs.filter p) → Q (.ref D) H) : LcT K (gName j) tt te [j] σ Q (.ref a) H0 := by
  have hsl : 1001 ≤ sizeLine := by decide
  refine LcT.run (xs := bs.map V.ref) (fun i => p (cs.getD i [])) (fun i => V.ref (bs.getD i 0)) (by rw [List.length_map, hc.1]; omega) ha (fun i x H k k2 hx kp h1 h2 => ?_) fun D H hD kp h => ?_
  · rw [List.getElem?_map] at hx
    obtain ⟨b, hb, rfl⟩ := Option.map_eq_some_iff.mp hx
    have hi : i < cs.length := by rw [← hc.1]; exact (List.getElem?_eq_some_iff.mp hb).1
    have hci : cs[i]? = some cs[i] := List.getElem?_eq_getElem hi
    have hcd : cs.getD i [] = cs[i] := by rw [List.getD_eq_getElem?_getD, hci] <;> rfl
    have hbd : bs.getD i 0 = b := by rw [List.getD_eq_getElem?_getD, hb] <;> rfl
    rw [hcd, hbd] at h1
    rw [hcd] at h2
    exact step b cs[i] H k k2 (List.getElem_mem hi) (kp.tup (hc.2 i b _ hb hci)) kp h1 h2
  · obtain ⟨qs, e, hq⟩ := clsAt_pickF hc p
    rw [List.length_map, e] at h
    exact fin D H qs hD kp h (hq.kept kp)
theorem LcL.cls (p : List Int → Bool) (hn : cs.length ≤ 1000) (ha : H0 a = some (.lst (bs.map V.ref))) (hc : ClsAt H0 bs cs)
    (step : ∀ b c H (k : Hp → Prop) (k2 : VK), c ∈ cs → H b = some (.tup (c.map V.int)) → Kept H0 H → (∀ H4, Kept H H4 → p c = true → k2 (.ref b) H4) → (∀ H4, Kept H H4 → p c = false → k H4) → tt ((wipe σ [j]).set j (some (.ref b))) H fun z H3 => if z = true then te ((wipe σ [j]).set j (some (.ref b))) H3 k2 else k H3)
    (fin : ∀ D H (qs : List Addr), H0 D = none → Kept H0 H → H D = some (.lst (qs.map V.ref)) → ClsAt H qs (cs.filter p) → Q (.ref D) H) : LcL K (gName j) tt te [j] σ Q (.ref a) H0 := by
  have hsl : 1001 ≤ sizeLine := by decide
  refine LcL.run (xs := bs.map V.ref) (fun i => p (cs.getD i [])) (fun i => V.ref (bs.getD i 0)) (by rw [List.length_map, hc.1]; omega) ha (fun i x H k k2 hx kp h1 h2 => ?_) fun D H hD kp h => ?_
  · rw [List.getElem?_map] at hx
    obtain ⟨b, hb, rfl⟩ := Option.map_eq_some_iff.mp hx
    have hi : i < cs.length := by rw [← hc.1]; exact (List.getElem?_eq_some_iff.mp hb).1
    have hci : cs[i]? = some cs[i] := List.getElem?_eq_getElem hi
    have hcd : cs.getD i [] = cs[i] := by rw [List.getD_eq_getElem?_getD, hci] <;> rfl
    have hbd : bs.getD i 0 = b := by rw [List.getD_eq_getElem?_getD, hb] <;> rfl
    rw [hcd, hbd] at h1
    rw [hcd] at h2
    exact step b cs[i] H k k2 (List.getElem_mem hi) (kp.tup (hc.2 i b _ hb hci)) kp h1 h2
  · obtain ⟨qs, e, hq⟩ := clsAt_pickF hc p
    rw [List.length_map, e] at h
    exact fin D H qs hD kp h (hq.kept kp)
end
/-! ### formulas as data -/
def formD (S Hd : List Int) (rc : List (List Int)) : PyData := .tuple [.tuple (S.map PyData.int), .tuple (Hd.map PyData.int), .tuple (rc.map rowD)]
theorem dp_form {K : PySem.W.Frag} {H : Hp} {p a b r : Addr} {bs : List Addr} {S Hd : List Int} {rc : List (List Int)} (hp : H p = some (.tup [.ref a, .ref b, .ref r])) (ha : H a = some (.tup (S.map V.int))) (hb : H b = some (.tup (Hd.map V.int))) (hr : H r = some (.tup (bs.map V.ref))) (hc : ClsAt H bs rc) :
    Dp K H (.ref p) (formD S Hd rc) := .tup (SqT.of hp) (.cons (dp_ints ha) (.cons (dp_ints hb) (.cons (dpT_rows hc hr) .nil)))
theorem sh_form (S Hd : List Int) (rc : List (List Int)) : SeqAt.shaped (formD S Hd rc) = true := by
  have h1 := depth_rows rc
  have h2 := canLay_rows rc
  unfold formD SeqAt.shaped
  simp only [PyData.canLay0, PyData.canLayAll0, canLay_ints, h2, PyData.depth, PyData.depthAll, PySem.W.depth_ints, Bool.and_self, Bool.true_and, Bool.and_true]
  exact decide_eq_true (by omega)
theorem eqv_rows : ∀ as bs : List (List Int), PyData.eqvAll (as.map rowD) (bs.map rowD) = decide (as = bs)
  | [], [] => by simp [PyData.eqvAll]
  | [], y :: ys => by simp [PyData.eqvAll]
  | x :: xs, [] => by simp [PyData.eqvAll]
  | x :: xs, y :: ys => by
    rw [List.map_cons, List.map_cons]
    show (PyData.eqv (rowD x) (rowD y) && PyData.eqvAll (xs.map rowD) (ys.map rowD)) = _
    rw [eqv_rows xs ys, show PyData.eqv (rowD x) (rowD y) = decide (x = y) from eqv_ints x y]
    by_cases h1 : x = y <;> by_cases h2 : xs = ys <;> simp [h1, h2]
theorem eqv_form (S Hd S' Hd' : List Int) (rc rc' : List (List Int)) : PyData.eqv (formD S Hd rc) (formD S' Hd' rc') = decide (S = S' ∧ Hd = Hd' ∧ rc = rc') := by
  unfold formD
  simp only [PyData.eqv, PyData.eqvAll, eqvAll_ints, eqv_rows, Bool.and_true]
  rw [Bool.decide_and, Bool.decide_and]
end Ky

namespace Ky
open PySem PySem.Spec PyProof.Rows L2
/-! ### how often a variable stands in clauses; the best of an ascending row -/
theorem adj_lt {g : Int → Int} {ls : List Int} (h : ∀ j (h1 : j < ls.length) (h2 : j + 1 < ls.length), g ls[j] < g ls[j + 1]) : ls.Pairwise fun a b => g a < g b := by
  refine List.pairwise_iff_getElem.mpr fun i j hi hj hij => ?_
  obtain ⟨k, rfl⟩ : ∃ k, j = i + 1 + k := ⟨j - (i + 1), by omega⟩
  induction k with
  | zero => exact h i hi hj
  | succ k ih =>
    have a := ih (by omega) (by omega)
    have b := h (i + 1 + k) (by omega) hj
    exact Int.lt_trans a b
theorem ascD_lt {g : Int → Int} {ls : List Int} (h : ascD (ls.map fun n => .int (g n)) = true) : ls.Pairwise fun a b => g a < g b := by
  refine adj_lt fun j h1 h2 => ?_
  have q := List.all_eq_true.mp h j (List.mem_range.mpr (by rw [List.length_map]; omega))
  have e1 : (ls.map fun n => PyData.int (g n)).getD j .none = .int (g ls[j]) := by rw [List.getD_eq_getElem?_getD, List.getElem?_map, List.getElem?_eq_getElem h1] <;> rfl
  have e2 : (ls.map fun n => PyData.int (g n)).getD (j + 1) .none = .int (g ls[j + 1]) := by rw [List.getD_eq_getElem?_getD, List.getElem?_map, List.getElem?_eq_getElem h2] <;> rfl
  rw [e1, e2, PySem.W.dataLt_int] at q
  simpa using q
theorem clause_abs {c : List Int} (h : isClauseF c = true) : c.Pairwise fun a b => absI a < absI b := by
  rw [isClauseF_all, Bool.and_eq_true] at h
  exact ascD_lt h.2
theorem clause_lit {c : List Int} (h : isClauseF c = true) : ∀ n ∈ c, isLit n = true := by
  rw [isClauseF_all, Bool.and_eq_true] at h
  exact List.all_eq_true.mp h.1
theorem abs_mem {c : List Int} {v : Int} (hv : 1 ≤ v) : v ∈ c.map absI ↔ v ∈ c ∨ -v ∈ c := by
  rw [List.mem_map]
  constructor
  · rintro ⟨n, hn, e⟩
    unfold absI at e
    split at e
    · exact .inr (by rw [← e, Int.neg_neg]; exact hn)
    · exact .inl (by rw [← e]; exact hn)
  · rintro (h | h)
    · exact ⟨v, h, by unfold absI; rw [if_neg (by omega)]⟩
    · exact ⟨-v, h, by unfold absI; rw [if_pos (by omega), Int.neg_neg]⟩
def cntC (cs : List (List Int)) (v : Int) : Nat := (cs.filter fun c => decide (v ∈ c) || decide (-v ∈ c)).length
theorem cnt_eq {cs : List (List Int)} (h : ∀ c ∈ cs, isClauseF c = true) {v : Int} (hv : 1 ≤ v) : (absAll cs).count v = cntC cs v := by
  unfold cntC
  induction cs with
  | nil => rfl
  | cons c cs ih =>
    have e : absAll (c :: cs) = c.map absI ++ absAll cs := by
      unfold absAll
      rw [List.flatten_cons, List.map_append]
    rw [e, List.count_append, ih fun x hx => h x (List.mem_cons_of_mem _ hx)]
    have hn : (c.map absI).Nodup := by
      have p := List.pairwise_map.mpr (clause_abs (h c List.mem_cons_self))
      exact p.imp fun {a b} z e => by omega
    rw [hn.count]
    by_cases m : v ∈ c.map absI
    · have m2 := (abs_mem hv).mp m
      rw [if_pos m, List.filter_cons_of_pos (by rcases m2 with z | z <;> simp [z]), List.length_cons]
      omega
    · have m2 : ¬ (v ∈ c ∨ -v ∈ c) := fun z => m ((abs_mem hv).mpr z)
      have m3 := not_or.mp m2
      rw [if_neg m, List.filter_cons_of_neg (by simp [m3.1, m3.2])]
      omega
theorem range_filterL {α : Type} (P : α → Bool) (d : α) (cs : List α) : ((List.range cs.length).filter fun i => P (cs.getD i d)).length = (cs.filter P).length := by
  have e : cs = (List.range cs.length).map fun i => cs.getD i d := by
    refine List.ext_getElem (by rw [List.length_map, List.length_range]) fun i h1 h2 => ?_
    rw [List.getElem_map, List.getElem_range, List.getD_eq_getElem?_getD, List.getElem?_eq_getElem h1] <;> rfl
  conv => rhs; rw [e]
  rw [List.filter_map, List.length_map] <;> rfl
def pick (f : Int → Nat) (m v : Int) : Int := if f m < f v then v else m
def bestF (f : Int → Nat) (ns : List Int) : Int := ns.foldl (pick f) (ns.headD 0)
theorem fold_best (f : Int → Nat) : ∀ (l : List Int) (m : Int), (m :: l).Pairwise (· < ·) → l.foldl (pick f) m ∈ m :: l ∧ ∀ y ∈ m :: l, f y ≤ f (l.foldl (pick f) m) ∧ (f y = f (l.foldl (pick f) m) → l.foldl (pick f) m ≤ y)
  | [], m, _ => ⟨List.mem_cons_self, fun y hy => by
    rw [List.mem_singleton.mp hy]
    exact ⟨Nat.le_refl _, fun _ => Int.le_refl _⟩⟩
  | x :: l, m, h => by
    obtain ⟨h1, h2⟩ := List.pairwise_cons.mp h
    rw [List.foldl_cons]
    by_cases c : f m < f x
    · have e : pick f m x = x := if_pos c
      rw [e]
      obtain ⟨g1, g2⟩ := fold_best f l x h2
      refine ⟨List.mem_cons_of_mem _ g1, fun y hy => ?_⟩
      rcases List.mem_cons.mp hy with z | z
      · have := (g2 x List.mem_cons_self).1
        rw [z]
        exact ⟨by omega, fun q => by omega⟩
      · exact g2 y z
    · have e : pick f m x = m := if_neg c
      rw [e]
      obtain ⟨a1, a2⟩ := List.pairwise_cons.mp h2
      obtain ⟨g1, g2⟩ := fold_best f l m (List.pairwise_cons.mpr ⟨fun y hy => h1 y (List.mem_cons_of_mem _ hy), a2⟩)
      have gm := g2 m List.mem_cons_self
      refine ⟨?_, fun y hy => ?_⟩
      · rcases List.mem_cons.mp g1 with z | z
        · rw [z]; exact List.mem_cons_self
        · exact List.mem_cons_of_mem _ (List.mem_cons_of_mem _ z)
      · rcases List.mem_cons.mp hy with z | z
        · rw [z]; exact gm
        · rcases List.mem_cons.mp z with z | z
          · have := h1 x List.mem_cons_self
            rw [z]
            exact ⟨by omega, fun q => by have := gm.2 (by omega); omega⟩
          · exact g2 y (List.mem_cons_of_mem _ z)
/-- the best of an ascending row is the least of those that have the most -/
theorem best_is {f : Int → Nat} {ns : List Int} (h : ns.Pairwise (· < ·)) {m : Int} (hm : m ∈ ns) (h1 : ∀ y ∈ ns, f y ≤ f m) (h2 : ∀ y ∈ ns, f y = f m → m ≤ y) : bestF f ns = m := by
  cases ns with
  | nil => cases hm
  | cons x l =>
    have e : bestF f (x :: l) = l.foldl (pick f) x := by
      show (x :: l).foldl (pick f) x = _
      rw [List.foldl_cons, show pick f x x = x from if_neg (Nat.lt_irrefl _)]
    obtain ⟨g1, g2⟩ := fold_best f l x h
    rw [e]
    generalize l.foldl (pick f) x = b at g1 g2
    have a := g2 m hm
    have b1 := h1 b g1
    have c := h2 b g1 (by omega)
    have d := a.2 (by omega)
    omega
theorem head_least {ns : List Int} (h : ns.Pairwise (· < ·)) {m : Int} (hm : m ∈ ns) (h1 : ∀ y ∈ ns, m ≤ y) : ns.headD 0 = m := by
  cases ns with
  | nil => cases hm
  | cons x l =>
    have a := h1 x List.mem_cons_self
    rcases List.mem_cons.mp hm with z | z
    · exact z.symm
    · have := (List.pairwise_cons.mp h).1 m z
      show x = m
      omega
theorem Form2.flat {most : Nat} {S Hd : List Int} {rc : List (List Int)} (h : Form2 most S Hd rc) : rc.flatten.length ≤ 4 * (most + 7) := by
  have aux : ∀ rc : List (List Int), (∀ c ∈ rc, c.length ≤ 4) → rc.flatten.length ≤ 4 * rc.length := by
    intro rc
    induction rc with
    | nil => exact fun _ => Nat.zero_le _
    | cons c rc ih =>
      intro hc
      have h1 := hc c List.mem_cons_self
      have h2 := ih fun x hx => hc x (List.mem_cons_of_mem _ hx)
      rw [List.flatten_cons, List.length_append, List.length_cons]
      omega
  have h1 := aux rc fun c hc => (h.cls c hc).2.1
  have h2 := h.len
  omega
end Ky

namespace Ky
open PySem PySem.Spec PyProof.Rows L2
def topS (i : Nat) : Stmt := PySem.Challenge.pw_countsworn_k41_formulas_changed.main.body.getD i (.Pass ⟨0, 0, 0, 0⟩)
abbrev s_literal_key : Stmt := topS 1
abbrev n_literal_key : List Str := ["literal"]
theorem sc_literal_key : FnScope n_literal_key ["literal"] (defScope s_literal_key) := ⟨rfl, rfl, rfl, by decide +kernel, rfl, by decide +kernel, by decide +kernel⟩
abbrev s_clause_key : Stmt := topS 2
abbrev n_clause_key : List Str := ["clause", "literal"]
theorem sc_clause_key : FnScope n_clause_key ["clause"] (defScope s_clause_key) := ⟨rfl, rfl, rfl, by decide +kernel, rfl, by decide +kernel, by decide +kernel⟩
abbrev s_clause_of : Stmt := topS 3
abbrev n_clause_of : List Str := ["literals", "once", "literal"]
theorem sc_clause_of : FnScope n_clause_of ["literals"] (defScope s_clause_of) := ⟨rfl, rfl, rfl, by decide +kernel, rfl, by decide +kernel, by decide +kernel⟩
abbrev s_residue_of : Stmt := topS 4
abbrev n_residue_of : List Str := ["clauses", "once", "clause"]
theorem sc_residue_of : FnScope n_residue_of ["clauses"] (defScope s_residue_of) := ⟨rfl, rfl, rfl, by decide +kernel, rfl, by decide +kernel, by decide +kernel⟩
abbrev s_place_of : Stmt := topS 5
abbrev n_place_of : List Str := ["clause", "rows", "key", "low", "high", "middle"]
theorem sc_place_of : FnScope n_place_of ["clause", "rows"] (defScope s_place_of) := ⟨rfl, rfl, rfl, by decide +kernel, rfl, by decide +kernel, by decide +kernel⟩
abbrev s_merged : Stmt := topS 6
abbrev n_merged : List Str := ["rows", "clauses", "found", "clause", "at"]
theorem sc_merged : FnScope n_merged ["rows", "clauses"] (defScope s_merged) := ⟨rfl, rfl, rfl, by decide +kernel, rfl, by decide +kernel, by decide +kernel⟩
abbrev s_residue_with : Stmt := topS 7
abbrev n_residue_with : List Str := ["residue", "clause"]
theorem sc_residue_with : FnScope n_residue_with ["residue", "clause"] (defScope s_residue_with) := ⟨rfl, rfl, rfl, by decide +kernel, rfl, by decide +kernel, by decide +kernel⟩
abbrev s_hide : Stmt := topS 12
abbrev n_hide : List Str := ["formula", "variables", "shown", "hidden", "residue", "gone", "variable", "left"]
theorem sc_hide : FnScope n_hide ["formula", "variables"] (defScope s_hide) := ⟨rfl, rfl, rfl, by decide +kernel, rfl, by decide +kernel, by decide +kernel⟩
abbrev s_new_names : Stmt := topS 13
abbrev n_new_names : List Str := ["first", "second", "taken", "variable", "names", "last"]
theorem sc_new_names : FnScope n_new_names ["first", "second"] (defScope s_new_names) := ⟨rfl, rfl, rfl, by decide +kernel, rfl, by decide +kernel, by decide +kernel⟩
abbrev s_renamed : Stmt := topS 14
abbrev n_renamed : List Str := ["clause", "names", "literals", "literal", "name"]
theorem sc_renamed : FnScope n_renamed ["clause", "names"] (defScope s_renamed) := ⟨rfl, rfl, rfl, by decide +kernel, rfl, by decide +kernel, by decide +kernel⟩
abbrev s_l_draw : Stmt := topS 19
abbrev n_l_draw : List Str := ["script", "seed", "cell"]
theorem sc_l_draw : FnScope n_l_draw ["script"] (defScope s_l_draw) := ⟨rfl, rfl, rfl, by decide +kernel, rfl, by decide +kernel, by decide +kernel⟩
abbrev s_l_take : Stmt := topS 20
abbrev n_l_take : List Str := ["draw", "many", "found"]
theorem sc_l_take : FnScope n_l_take ["draw", "many"] (defScope s_l_take) := ⟨rfl, rfl, rfl, by decide +kernel, rfl, by decide +kernel, by decide +kernel⟩
abbrev s_l_key : Stmt := topS 21
abbrev n_l_key : List Str := ["literal"]
theorem sc_l_key : FnScope n_l_key ["literal"] (defScope s_l_key) := ⟨rfl, rfl, rfl, by decide +kernel, rfl, by decide +kernel, by decide +kernel⟩
abbrev s_l_once : Stmt := topS 22
abbrev n_l_once : List Str := ["row", "found", "item"]
theorem sc_l_once : FnScope n_l_once ["row"] (defScope s_l_once) := ⟨rfl, rfl, rfl, by decide +kernel, rfl, by decide +kernel, by decide +kernel⟩
abbrev s_l_clause : Stmt := topS 23
abbrev n_l_clause : List Str := ["literals", "literal"]
theorem sc_l_clause : FnScope n_l_clause ["literals"] (defScope s_l_clause) := ⟨rfl, rfl, rfl, by decide +kernel, rfl, by decide +kernel, by decide +kernel⟩
abbrev s_l_clause_key : Stmt := topS 24
abbrev n_l_clause_key : List Str := ["clause", "literal"]
theorem sc_l_clause_key : FnScope n_l_clause_key ["clause"] (defScope s_l_clause_key) := ⟨rfl, rfl, rfl, by decide +kernel, rfl, by decide +kernel, by decide +kernel⟩
abbrev s_l_residue : Stmt := topS 25
abbrev n_l_residue : List Str := ["clauses"]
theorem sc_l_residue : FnScope n_l_residue ["clauses"] (defScope s_l_residue) := ⟨rfl, rfl, rfl, by decide +kernel, rfl, by decide +kernel, by decide +kernel⟩
abbrev s_l_literal : Stmt := topS 28
abbrev n_l_literal : List Str := ["draw", "variables", "v"]
theorem sc_l_literal : FnScope n_l_literal ["draw", "variables"] (defScope s_l_literal) := ⟨rfl, rfl, rfl, by decide +kernel, rfl, by decide +kernel, by decide +kernel⟩
abbrev s_l_clauses : Stmt := topS 29
abbrev n_l_clauses : List Str := ["draw", "variables", "many", "rows", "k", "size", "clause", "j"]
theorem sc_l_clauses : FnScope n_l_clauses ["draw", "variables", "many"] (defScope s_l_clauses) := ⟨rfl, rfl, rfl, by decide +kernel, rfl, by decide +kernel, by decide +kernel⟩
abbrev s_l_formula : Stmt := topS 30
abbrev n_l_formula : List Str := ["draw", "most", "gap", "count", "more", "variables", "k", "hidden", "v", "shown"]
theorem sc_l_formula : FnScope n_l_formula ["draw", "most"] (defScope s_l_formula) := ⟨rfl, rfl, rfl, by decide +kernel, rfl, by decide +kernel, by decide +kernel⟩
abbrev s_l_fillings : Stmt := topS 31
abbrev n_l_fillings : List Str := ["variables", "rows", "v", "longer", "row"]
theorem sc_l_fillings : FnScope n_l_fillings ["variables"] (defScope s_l_fillings) := ⟨rfl, rfl, rfl, by decide +kernel, rfl, by decide +kernel, by decide +kernel⟩
abbrev s_l_keeps : Stmt := topS 32
abbrev n_l_keeps : List Str := ["residue", "filling", "clause", "literal"]
theorem sc_l_keeps : FnScope n_l_keeps ["residue", "filling"] (defScope s_l_keeps) := ⟨rfl, rfl, rfl, by decide +kernel, rfl, by decide +kernel, by decide +kernel⟩
abbrev s_l_models : Stmt := topS 33
abbrev n_l_models : List Str := ["shown", "hidden", "residue", "found", "others", "row", "other"]
theorem sc_l_models : FnScope n_l_models ["shown", "hidden", "residue"] (defScope s_l_models) := ⟨rfl, rfl, rfl, by decide +kernel, rfl, by decide +kernel, by decide +kernel⟩
abbrev s_both : Stmt := topS 15
abbrev n_both : List Str := ["first", "second", "shown", "hidden", "residue", "names", "clauses", "clause"]
theorem sc_both : FnScope n_both ["first", "second"] (defScope s_both) := ⟨rfl, rfl, rfl, by decide +kernel, rfl, by decide +kernel, by decide +kernel⟩
abbrev s_with_clause : Stmt := topS 16
abbrev n_with_clause : List Str := ["formula", "clause", "shown", "hidden", "residue", "known", "variable", "literal"]
theorem sc_with_clause : FnScope n_with_clause ["formula", "clause"] (defScope s_with_clause) := ⟨rfl, rfl, rfl, by decide +kernel, rfl, by decide +kernel, by decide +kernel⟩
abbrev s_without_clause : Stmt := topS 17
abbrev n_without_clause : List Str := ["formula", "clause", "shown", "hidden", "residue", "other"]
theorem sc_without_clause : FnScope n_without_clause ["formula", "clause"] (defScope s_without_clause) := ⟨rfl, rfl, rfl, by decide +kernel, rfl, by decide +kernel, by decide +kernel⟩
abbrev s_l_changed : Stmt := topS 40
abbrev n_l_changed : List Str := ["formula", "clause", "put", "known", "literal", "other"]
theorem sc_l_changed : FnScope n_l_changed ["formula", "clause", "put"] (defScope s_l_changed) := ⟨rfl, rfl, rfl, by decide +kernel, rfl, by decide +kernel, by decide +kernel⟩
abbrev s_l_change_right : Stmt := topS 41
abbrev n_l_change_right : List Str := ["formula", "clause", "put", "due", "found"]
theorem sc_l_change_right : FnScope n_l_change_right ["formula", "clause", "put"] (defScope s_l_change_right) := ⟨rfl, rfl, rfl, by decide +kernel, rfl, by decide +kernel, by decide +kernel⟩
abbrev s_l_renamed : Stmt := topS 42
abbrev n_l_renamed : List Str := ["residue", "names", "rows", "clause", "row", "literal", "v"]
theorem sc_l_renamed : FnScope n_l_renamed ["residue", "names"] (defScope s_l_renamed) := ⟨rfl, rfl, rfl, by decide +kernel, rfl, by decide +kernel, by decide +kernel⟩
abbrev s_law : Stmt := topS 43
abbrev n_law : List Str := ["script", "draw", "first", "more", "k", "hidden", "v", "second", "gone", "due", "free", "names", "whole", "found", "ours", "theirs", "row", "variables", "clause", "j"]
theorem sc_law : FnScope n_law ["script"] (defScope s_law) := ⟨rfl, rfl, rfl, by decide +kernel, rfl, by decide +kernel, by decide +kernel⟩
end Ky

namespace Ky
open PySem PySem.Spec PyProof.Rows L2
local macro_rules | `(tactic| walk_at "rd") => `(tactic| repeat (first
  | with_reducible refine w_seq ?_
  | with_reducible refine w_asg ?_
  | with_reducible refine w_ret ?_
  | with_reducible refine w_drop ?_
  | with_reducible refine w_ifs ?_
  | ((with_reducible refine' w_var ?hh ?_); (case hh => exact rfl))
  | with_reducible refine w_c ?_
  | with_reducible refine w_op ?_
  | with_reducible refine w_un ?_
  | with_reducible refine w_I0 ?_
  | with_reducible refine w_U ?_
  | with_reducible refine w_nil ?_
  | with_reducible refine w_cons ?_
  | with_reducible refine w_call ?_
  | with_reducible refine w_cb ?_
  | with_reducible refine w_test ?_
  | with_reducible refine w_B ?_
  | with_reducible refine w_bl ?_
  | with_reducible refine w_and ?_
  | with_reducible refine w_or ?_
  | with_reducible refine w_not ?_
  | with_reducible refine w_ife ?_
  | with_reducible refine w_gRd ?_
  | with_reducible refine w_andV ?_
  | with_reducible refine w_orV ?_
  | with_reducible refine w_notV ?_
  | with_reducible refine w_chain ?_
  | with_reducible refine w_din ?_
  | with_reducible refine w_isi_ii ?_
  | with_reducible refine w_isi_ib ?_
  | with_reducible refine w_isi_it ?_
  | with_reducible refine w_isi_st ?_
  | ((with_reducible refine w_isi_tt ?h1 ?_); (case h1 => first | assumption | exact upd_same))
  | with_reducible refine if_t rfl ?_
  | with_reducible refine if_f rfl ?_
  | with_reducible refine w_tup ?_
  | with_reducible refine w_lst ?_
  | with_reducible refine w_next ?_
  | with_reducible refine w_bm ?_
  | with_reducible refine w_sl ?_
  | with_reducible refine w_part ?_
  | with_reducible refine w_nop ?_
  | with_reducible refine w_isI ?_
  | with_reducible refine w_yes ?_
  | with_reducible refine w_gn ?_
  | with_reducible refine w_gsub ?_
  | ((with_reducible refine' w_setL ?h1 ?h2 ?_); (case h1 => first | assumption | exact upd_same); (case h2 => exact rfl))
  | with_reducible refine w_asgG ?_
  | with_reducible refine w_m1 ?_
  | with_reducible refine w_isS ?_
  | with_reducible refine w_tyS ?_
  | ((with_reducible refine' w_tyL ?h1 ?_); (case h1 => first | assumption | exact upd_same))
  | ((with_reducible refine' w_ixT ?h1 ?h2 ?_); (case h1 => first | assumption | exact upd_same); (case h2 => exact rfl))
  | ((with_reducible refine' w_ixL ?h1 ?h2 ?_); (case h1 => first | assumption | exact upd_same); (case h2 => exact rfl))
  | ((with_reducible refine w_eq ?h1 ?_); (case h1 => exact rfl))
  | ((with_reducible refine w_ne ?h1 ?_); (case h1 => exact rfl))
  | dsimp only [List.set_cons_zero, List.set_cons_succ, List.append_nil, List.cons_append, List.nil_append, cxOf]))

structure Tx (K : PySem.W.Frag) (mg : Str → Option Value) : Prop where
  z_int : mg "int" = none
  z_tuple : mg "tuple" = none
  z_abs : mg "abs" = none
  z_any : mg "any" = none
  z_all : mg "all" = none
  z_len : mg "len" = none
  z_list : mg "list" = none
  z_range : mg "range" = none
  z_sorted : mg "sorted" = none
  z_set : mg "set" = none
  z_isinstance : mg "isinstance" = none
  z_max : mg "max" = none
  z_bool : mg "bool" = none
section
variable {P : Program} {w : World} {K : PySem.W.Frag} {mg : Str → Option Value} {base : Heap} {uG : Value} {f : Addr} {fd : FuncData}
theorem ok_literal_key (F : Fun K "literal_key" "literal_key" s_literal_key f fd) (T : Tx K mg) : FnOk P w K mg base CX0 1 f fd ["literal"] spKey := by
  refine F.ok sc_literal_key (fun vs H Q E h => ?_) (fun cdv A outer s H vs Q E hr h => ?_)
  · obtain ⟨n, rfl, _⟩ := h
    rfl
  · obtain ⟨n, rfl, k⟩ := h
    refine ⟨_, (pss_one (ps_ret (pe_tup (pa_cons (pe_callB call_abs (by rfl) T.z_abs (by decide +kernel) (pa_cons (pv 0) pa_nil)) (pa_cons (pe_ifExp (pt_cmpR op_gt (pv 0) pe_int (nomark _)) pe_int pe_int) pa_nil))))), ?_⟩
    rw [show start n_literal_key [(.int n : V)] = ([some (.int n)] : List (Option V)) from rfl]
    walk_at "rd"
    refine ⟨n, rfl, ?_⟩
    walk_at "rd"
    have e : (if decide ((0 : Int) < n) = true then (1 : Int) else 0) = sgI n := by
      unfold sgI
      by_cases h : (0 : Int) < n
      · rw [decide_eq_true h, if_pos rfl, if_pos h]
      · rw [decide_eq_false h, if_neg Bool.false_ne_true, if_neg h]
    by_cases h : (0 : Int) < n
    · rw [decide_eq_true h] at e ⊢
      walk_at "rd"
      refine ⟨by show 2 ≤ sizeLine; decide, fun p hp => ?_⟩
      have q := k p hp
      unfold keyV at q
      rw [← e] at q
      exact q
    · rw [decide_eq_false h] at e ⊢
      walk_at "rd"
      refine ⟨by show 2 ≤ sizeLine; decide, fun p hp => ?_⟩
      have q := k p hp
      unfold keyV at q
      rw [← e] at q
      exact q
theorem ok_clause_key (F : Fun K "clause_key" "clause_key" s_clause_key f fd) (T : Tx K mg) (D_literal_key : Df P w K mg base 1 "literal_key" ["literal"] spKey) : FnOk P w K mg base CX0 2 f fd ["clause"] spCKey := by
  refine F.ok sc_clause_key (fun vs H Q E h => ?_) (fun cdv A outer s H vs Q E hr h => ?_)
  · obtain ⟨a, ls, rfl, _⟩ := h
    rfl
  · obtain ⟨a, ls, rfl, ha, hz, k⟩ := h
    refine ⟨_, (pss_one (ps_ret (pe_callTy call_tuple_of (by rfl) T.z_tuple (by decide +kernel) (pa_cons (pe_lc (own := [("literal", 1)]) (g := gName 1) (by rfl) sc_clause_key.nd (pi_tupK (K := K) rfl (pv 0)) (blkOk_by (own := [("literal", 1)]) (N := n_clause_key) (sc := defScope s_clause_key) (by decide +kernel)) (fun _ _ _ _ _ => pg_name (i := 1) sc_clause_key.nd rfl (Or.inl rfl)) (fun _ _ _ _ _ => pts_nil) (fun _ _ _ _ _ => (pe_df D_literal_key (hr.mono (by decide)) (by rfl) (pa_cons (pv 1) pa_nil)))) pa_nil)))), ?_⟩
    rw [show start n_clause_key [(.ref a : V)] = ([some (.ref a), none] : List (Option V)) from rfl]
    walk_at "rd"
    refine ⟨_, rfl, a, rfl, ⟨_, SqT.of ha⟩, fun D hD => lc_tup (K := K) (xs := ls.map V.int) (fun i H1 => ∃ ps : List Addr, H1 D = some (.lst (ps.map V.ref)) ∧ ps.length = i ∧ Kept H H1 ∧ ∀ (j : Nat) (q : Addr) (n : Int), ps[j]? = some q → ls[j]? = some n → H1 q = some (.tup (keyV n))) ⟨[], upd_same, rfl, Kept.new hD, fun j q n h => by simp at h⟩ (fun i H1 _ h => by
      obtain ⟨_, _, _, k1, _⟩ := h
      exact SqT.of (k1.tup ha)) ?_ ?_⟩
    · rintro i y H1 hi ⟨ps, h1, h2, k1, h3⟩
      obtain ⟨u, rfl, hu⟩ := map_int hi
      refine ⟨rfl, ?_⟩
      walk_at "rd"
      refine ⟨u, rfl, fun p hp => ?_⟩
      have hi2 : i < ls.length := (List.getElem?_eq_some_iff.mp hu).1
      have nD : D ≠ p := ne_of_none h1 hp
      refine ⟨ps.map V.ref, by rw [upd_ne nD]; exact h1, by rw [List.length_map]; omega, ps ++ [p], by rw [List.map_append]; exact upd_same, by rw [List.length_append, h2]; rfl, Kept.mut (k1.trans (Kept.new hp)) hD, fun j q n hq hn => ?_⟩
      by_cases hj : j < ps.length
      · rw [List.getElem?_append_left hj] at hq
        have e := h3 j q n hq hn
        have n1 : q ≠ D := fun z => by
          rw [z, h1] at e
          cases e
        have n2 : q ≠ p := ne_of_none e hp
        rw [upd_ne n1, upd_ne n2]
        exact e
      · have hj2 : j < (ps ++ [p]).length := (List.getElem?_eq_some_iff.mp hq).1
        rw [List.length_append] at hj2
        have ej : j = ps.length := by
          have : j < ps.length + 1 := hj2
          omega
        subst ej
        have eq : q = p := by simpa using hq.symm
        subst eq
        rw [h2, hu] at hn
        cases hn
        rw [upd_ne (Ne.symm nD), upd_same]
    · rintro H1 ⟨ps, h1, h2, k1, h3⟩
      walk_at "rd"
      refine ⟨D, ps.map V.ref, rfl, .inl ⟨SqL.of h1, fun l hl => ?_⟩⟩
      refine k ps l _ (k1.trans (Kept.new hl)) (k1.free _ hl) upd_same (by rw [h2, List.length_map]) fun i q n hq hn => ?_
      have e := h3 i q n hq hn
      rw [upd_ne (ne_of_none e hl)]
      exact e
theorem ok_clause_of {c P0 : Addr} (F : FunC K "clause_of" s_clause_of f fd c) (T : Tx K mg) (TB : GxR.TabB base mg c P0) (D_literal_key : Df P w K mg base 1 "literal_key" ["literal"] spKey) : FnOk P w K mg base CX0 4 f fd ["literals"] (spClauseOf P0) := by
  obtain ⟨fK, fdK, FK, mK, kK, bK⟩ := D_literal_key.ex
  refine F.ok sc_clause_of (fun vs H Q E h => ?_) (fun A outer s H vs Q E hr h => ?_)
  · obtain ⟨a, ls, rfl, _⟩ := h
    rfl
  · obtain ⟨a, ls, rfl, ha, hz, hT, k1, k2⟩ := h
    refine ⟨_, (pss_cons (ps_set (i := 1) sc_clause_of.nd rfl (.inr rfl) (pe_dc (own := [("literal", 2)]) (g := gName 2) (by rfl) sc_clause_of.nd (pi_listK (K := K) rfl (pv 0)) (blkOk_by (own := [("literal", 2)]) (N := n_clause_of) (sc := defScope s_clause_of) (by decide +kernel)) (fun _ _ _ _ _ => pg_name (i := 2) sc_clause_of.nd rfl (Or.inl rfl)) (fun _ _ _ _ _ => pts_nil) (fun _ _ _ _ _ => (pv 2)) (fun _ _ _ _ _ => pe_bl)))
    (pss_cons (ps_if (pt_val (pe_anyG (k := 1) (own := [("literal", 2)]) (g := gName 2) (hr.mono (by decide)) (by rfl) T.z_any (by decide +kernel) rfl sc_clause_of.nd TB rfl ⟨blkOk_by (own := [("literal", 2)]) (N := n_clause_of) (sc := defScope s_clause_of) (by decide +kernel), rfl, by decide +kernel, rfl⟩ (pi_listK (K := K) rfl (pv 0)) (fun _ _ _ _ _ => pg_name (i := 2) sc_clause_of.nd rfl (Or.inl rfl)) (fun _ _ _ _ _ hr => (pe_cmp (pc_din hr.u1 (pe_un un_neg (pv 2)) (pv 1))))))
      (pss_one (ps_ret pe_non))
      pss_nil)
    (pss_one (ps_ret (pe_callTy call_tuple_of (by rfl) T.z_tuple (by decide +kernel) (pa_cons (pe_callBK (cr_sortedF (hr.mono (by decide)) FK bK) (by rfl) T.z_sorted (by decide +kernel) (pa_cons (pe_callTy (call_list_dK rfl) (by rfl) T.z_list (by decide +kernel) (pa_cons (pv 1) pa_nil)) pa_nil) (pk_cons (pe_glob (by rfl) mK (show RelV (.ref fK) _ from rfl)) pk_nil)) pa_nil)))))), ?_⟩
    rw [show start n_clause_of [(.ref a : V)] = ([some (.ref a), none, none] : List (Option V)) from rfl]
    walk_at "rd"
    refine rd_dcI (i0 := 0) (j := 2) rfl (by show 2 < 3; decide) ha (Nat.le_trans hz (by decide)) fun D hD => ?_
    walk_at "rd"
    have kD := Kept.new (o := .dK (setDict (keysI (dd ls)))) hD
    refine ⟨_, rfl, a, rfl, ⟨_, SqL.of (kD.lst ha)⟩, kD.tab P0 hT, fun H2 hT2 => ?_⟩
    have kp2 := Kept.tabbed (kD.tab P0 hT) hT2
    refine g_list (xs := ls.map V.int) (σ := [some (.ref a), some (.ref D), none]) (j := 2) (fun i => decide (-(ls.getD i 0) ∈ ls)) (fun H1 => Kept (upd H D (.dK (setDict (keysI (dd ls))))) H1) kp2 (fun H1 kp => SqL.of ((kD.trans kp).lst ha)) (fun i x H1 k' hx kp hk => ?_) (fun H1 kp => ?_)
    · obtain ⟨n, rfl, hn⟩ := map_int hx
      walk_at "rd"
      refine ⟨D, _, rfl, DGet.k (k := Sum.inl (-n)) (kp.keep D _ (fun ps z => by cases z) upd_same), ?_⟩
      have q := hk H1 kp
      have e1 : ls.getD i 0 = n := by rw [List.getD_eq_getElem?_getD, hn] <;> rfl
      have e2 : (valV (setDict (keysI (dd ls))) (Sum.inl (-n))).isSome = decide (-n ∈ ls) := by
        rw [valV_set]
        refine decide_eq_decide.mpr ⟨fun h => ?_, fun h => ?_⟩
        · obtain ⟨y, hy, e⟩ := List.mem_map.mp h
          rw [← Sum.inl.inj e]
          exact mem_dd.mp hy
        · exact List.mem_map.mpr ⟨_, mem_dd.mpr h, rfl⟩
      rw [e1] at q
      rw [e2]
      exact q
    · refine ⟨_, rfl, ?_⟩
      show if bothS ls = true then _ else _
      cases hb : bothS ls with
      | true =>
        refine if_t rfl ?_
        walk_at "rd"
        exact k1 hb H1 (kD.trans kp)
      | false =>
        refine if_f rfl ?_
        walk_at "rd"
        refine w_ckw ?_
        walk_at "rd"
        refine ⟨D, _, rfl, kp.keep D _ (fun ps z => by cases z) upd_same, fun q hq => ?_⟩
        walk_at "rd"
        rw [set_keys]
        have kq := (kD.trans kp).trans (Kept.new (o := .lst ((dd ls).map V.int)) hq)
        refine ⟨q, (dd ls).map V.int, (dd ls).map keyD, rfl, rfl, SqL.of upd_same, by rw [List.length_map, List.length_map], PySem.W.AllAlike.of keyD_alike, .inl fun d hd => ?_, fun d hd => ?_, fun i x d H3 hx hd kp3 => ?_, fun H3 kp3 p hp => ?_⟩
        · obtain ⟨n, _, rfl⟩ := List.mem_map.mp hd
          exact ⟨_, rfl⟩
        · obtain ⟨n, _, rfl⟩ := List.mem_map.mp hd
          exact keyD_depth n
        · obtain ⟨n, rfl, hn⟩ := map_int hx
          rw [List.getElem?_map, hn] at hd
          cases hd
          exact ⟨n, rfl, fun p hp => ⟨Kept.new hp, dp_key upd_same⟩⟩
        · walk_at "rd"
          refine ⟨p, _, rfl, .inl ⟨SqL.of upd_same, fun l hl => ?_⟩⟩
          have kp4 := (kq.trans kp3).trans (Kept.new (o := .lst (sortD ((dd ls).map V.int) ((dd ls).map keyD))) hp)
          refine k2 hb l _ (kp4.trans (Kept.new hl)) (kp4.free _ hl) ?_
          rw [sortD_map]
          exact upd_same
theorem ok_residue_of (F : Fun K "residue_of" "residue_of" s_residue_of f fd) (T : Tx K mg) (D_clause_key : Df P w K mg base 2 "clause_key" ["clause"] spCKey) : FnOk P w K mg base CX0 4 f fd ["clauses"] spResidueOf := by
  obtain ⟨fK, fdK, FK, mK, kK, bK⟩ := D_clause_key.ex
  refine F.ok sc_residue_of (fun vs H Q E h => ?_) (fun cdv A outer s H vs Q E hr h => ?_)
  · obtain ⟨a, bs, cs, rfl, _⟩ := h
    rfl
  · obtain ⟨a, bs, cs, rfl, ha, hc, hz, hz2, k⟩ := h
    refine ⟨_, (pss_cons (ps_setDcT (i := 1) (own := [("clause", 2)]) (g := gName 2) rfl rfl (sw_trueD rfl rfl rfl (by decide +kernel)) hr.u1 (by rfl) sc_residue_of.nd (pi_listK (K := K) rfl (pv 0)) (blkOk_by (own := [("clause", 2)]) (N := n_residue_of) (sc := defScope s_residue_of) (by decide +kernel)) (fun _ _ _ _ _ => pg_name (i := 2) sc_residue_of.nd rfl (Or.inl rfl)) (fun _ _ _ _ _ => pts_nil) (fun _ _ _ _ _ => (pv 2)) (fun _ _ _ _ _ => pe_bl))
    (pss_one (ps_ret (pe_callTy call_tuple_of (by rfl) T.z_tuple (by decide +kernel) (pa_cons (pe_callBK (cr_sortedF (hr.mono (by decide)) FK bK) (by rfl) T.z_sorted (by decide +kernel) (pa_cons (pe_callTy (call_list_dT rfl) (by rfl) T.z_list (by decide +kernel) (pa_cons (pv 1) pa_nil)) pa_nil) (pk_cons (pe_glob (by rfl) mK (show RelV (.ref fK) _ from rfl)) pk_nil)) pa_nil))))), ?_⟩
    rw [show start n_residue_of [(.ref a : V)] = ([some (.ref a), none, none] : List (Option V)) from rfl]
    walk_at "rd"
    refine rd_dcT (i0 := 0) (j := 2) rfl (by show 2 < 3; decide) ha hc.1 hc.2 (Nat.le_trans hz (by decide)) fun D hD => ?_
    have kD := Kept.new (o := .dT (setDict ((dd cs).map keysI))) hD
    walk_at "rd"
    refine w_ckw ?_
    walk_at "rd"
    refine ⟨D, _, rfl, .inl upd_same, fun q bs2 hq hk => ?_⟩
    walk_at "rd"
    have kq := kD.trans (Kept.new (o := .lst (bs2.map V.ref)) hq)
    have hc2 := isKeys_cls hk
    have hz3 : ∀ c ∈ dd cs, c.length ≤ 1000 := fun c hm => hz2 c (mem_dd.mp hm)
    refine ⟨q, bs2.map V.ref, (dd cs).map ckD, rfl, rfl, SqL.of upd_same, by rw [List.length_map, List.length_map, hc2.1], PySem.W.AllAlike.of ckD_alike, .inl fun d hd => ?_, fun d hd => ?_, fun i x d H3 hx hd kp3 => ?_, fun H3 kp3 p hp => ?_⟩
    · obtain ⟨n, _, rfl⟩ := List.mem_map.mp hd
      exact ⟨_, rfl⟩
    · obtain ⟨n, _, rfl⟩ := List.mem_map.mp hd
      exact ckD_depth n
    · rw [List.getElem?_map] at hx hd
      obtain ⟨b, hb, rfl⟩ := Option.map_eq_some_iff.mp hx
      obtain ⟨c, hcc, rfl⟩ := Option.map_eq_some_iff.mp hd
      have e := ((hc2.kept (Kept.new (o := .lst (bs2.map V.ref)) hq)).kept kp3).2 i b c hb hcc
      exact ⟨b, c, rfl, e, Nat.le_trans (hz3 c (List.mem_of_getElem? hcc)) (by decide), fun ps p H' kp hp e1 e2 e3 => ⟨kp, dp_ckey e1 e2 e3⟩⟩
    · walk_at "rd"
      obtain ⟨bs', es, hs⟩ := sort_cls ((hc2.kept (Kept.new (o := .lst (bs2.map V.ref)) hq)).kept kp3)
      rw [es]
      refine ⟨p, _, rfl, .inl ⟨SqL.of upd_same, fun l hl => ?_⟩⟩
      have k5 := Kept.new (o := .lst (bs'.map V.ref)) hp
      have k6 := Kept.new (o := .tup (bs'.map V.ref)) hl
      have kp4 := ((kq.trans kp3).trans k5).trans k6
      exact k l _ bs' kp4 (((kq.trans kp3).trans k5).free _ hl) upd_same ((hs.kept k5).kept k6)
theorem ok_place_of (F : Fun K "place_of" "place_of" s_place_of f fd) (T : Tx K mg) (D_clause_key : Df P w K mg base 2 "clause_key" ["clause"] spCKey) : FnOk P w K mg base CX0 3 f fd ["clause", "rows"] spPlace := by
  refine F.ok sc_place_of (fun vs H Q E h => ?_) (fun cdv A outer s H vs Q E hr h => ?_)
  · obtain ⟨a, b, bs, cs, c, rfl, _⟩ := h
    rfl
  · obtain ⟨a, b, bs, cs, c, rfl, ha, hz, hb, hc, hasc, hz1, hz2, k⟩ := h
    refine ⟨_, (pss_cons (ps_set (i := 2) sc_place_of.nd rfl (.inl rfl) (pe_df D_clause_key (hr.mono (by decide)) (by rfl) (pa_cons (pv 0) pa_nil)))
    (pss_cons (ps_set (i := 3) sc_place_of.nd rfl (.inl rfl) pe_int)
    (pss_cons (ps_set (i := 4) sc_place_of.nd rfl (.inl rfl) (pe_callB call_len_seq (by rfl) T.z_len (by decide +kernel) (pa_cons (pv 1) pa_nil)))
    (pss_cons (ps_while PassesOwn.never (pt_cmpR op_lt (pv 3) (pv 4) (nomark _))
      (pss_cons (ps_set (i := 5) sc_place_of.nd rfl (.inl rfl) (pe_op op_fdivW (pe_op op_add (pv 3) (pv 4)) pe_int))
    (pss_one (ps_if (pt_cmpR (opK (K := K) (r := rLtD) rfl (op_ltD hr.units)) (pe_df D_clause_key (hr.mono (by decide)) (by rfl) (pa_cons (pe_ix (ix_listK (K := K) rfl) (pv 1) (pv 5) (fun _ _ => rfl)) pa_nil)) (pv 2) (nomark _))
      (pss_one (ps_set (i := 3) sc_place_of.nd rfl (.inl rfl) (pe_op op_add (pv 5) pe_int)))
      (pss_one (ps_set (i := 4) sc_place_of.nd rfl (.inl rfl) (pv 5)))))))
    (pss_one (ps_ret (pv 3))))))), ?_⟩
    rw [show start n_place_of [(.ref a : V), (.ref b : V)] = ([some (.ref a), some (.ref b), none, none, none, none] : List (Option V)) from rfl]
    walk_at "rd"
    refine ⟨a, c, rfl, ha, Nat.le_trans hz (by decide), fun ps p H1 k1 hp p1 p2 p3 => ?_⟩
    walk_at "rd"
    refine ⟨b, bs.map V.ref, rfl, .inl (SqL.of (k1.lst hb)), ?_⟩
    walk_at "rd"
    have hlb : (bs.map V.ref).length = cs.length := by rw [List.length_map, hc.1]
    rw [hlb]
    have lt_of : ∀ i j, i < j → j < cs.length → PySem.W.dataLt (ckD (cs.getD i [])) (ckD (cs.getD j [])) = true := fun i j hij hj => by
      have e := List.pairwise_iff_getElem.mp hasc i j (by omega) hj hij
      rw [List.getD_eq_getElem?_getD, List.getD_eq_getElem?_getD, List.getElem?_eq_getElem (by omega : i < cs.length), List.getElem?_eq_getElem hj]
      exact e
    refine ⟨fun m σ' H' => ∃ (lo hi : Nat) (v : Option V), σ' = [some (.ref a), some (.ref b), some (.ref p), some (.int (lo : Nat)), some (.int (hi : Nat)), v] ∧ m = hi - lo ∧ lo ≤ hi ∧ hi ≤ cs.length ∧ Kept H1 H' ∧ (∀ i, i < lo → PySem.W.dataLt (ckD (cs.getD i [])) (ckD c) = true) ∧ (∀ i, hi ≤ i → i < cs.length → PySem.W.dataLt (ckD (cs.getD i [])) (ckD c) = false),
      ⟨cs.length, 0, cs.length, none, rfl, rfl, Nat.zero_le _, Nat.le_refl _, Kept.refl _, fun i hi => absurd hi (Nat.not_lt_zero _), fun i h1 h2 => absurd h2 (by omega)⟩, ?_⟩
    rintro m σ' H' ⟨lo, hi, v, rfl, rfl, h1, h2, k2, h3, h4⟩
    walk_at "rd"
    by_cases hlt : lo < hi
    · have e : decide ((lo : Int) < (hi : Int)) = true := decide_eq_true (by exact_mod_cast hlt)
      rw [e]
      refine if_t rfl ?_
      have hm1 : lo ≤ (lo + hi) / 2 := by omega
      have hm2 : (lo + hi) / 2 < hi := by omega
      have hml : (lo + hi) / 2 < cs.length := by omega
      have em : ((lo : Int) + (hi : Int)) / 2 = (((lo + hi) / 2 : Nat) : Int) := by push_cast; rfl
      generalize hmid : (lo + hi) / 2 = mid at hm1 hm2 hml em
      have hcm : cs[mid]? = some cs[mid] := List.getElem?_eq_getElem hml
      have hbm : bs[mid]? = some (bs[mid]'(by rw [hc.1]; exact hml)) := List.getElem?_eq_getElem _
      have egm : cs.getD mid [] = cs[mid] := by rw [List.getD_eq_getElem?_getD, hcm] <;> rfl
      refine ⟨fun σ2 H2 => ∃ m', m' < hi - lo ∧ ∃ (lo hi : Nat) (v : Option V), σ2 = [some (.ref a), some (.ref b), some (.ref p), some (.int (lo : Nat)), some (.int (hi : Nat)), v] ∧ m' = hi - lo ∧ lo ≤ hi ∧ hi ≤ cs.length ∧ Kept H1 H2 ∧ (∀ i, i < lo → PySem.W.dataLt (ckD (cs.getD i [])) (ckD c) = true) ∧ (∀ i, hi ≤ i → i < cs.length → PySem.W.dataLt (ckD (cs.getD i [])) (ckD c) = false), fun σ2 H2 h => h, ?_⟩
      walk_at "rd"
      refine w_I ?hdiv ?_
      case hdiv => exact (show (0 : Int) < 2 ∧ (2 : Int).natAbs.log2 < 9000 by decide)
      rw [em]
      walk_at "rd"
      refine ⟨b, bs.map V.ref, _, _, rfl, rfl, SqL.of (k2.lst (k1.lst hb)), atI_eq (j := mid) rfl (by rw [List.getElem?_map, hbm] <;> rfl), ?_⟩
      walk_at "rd"
      refine ⟨_, cs[mid], rfl, (k1.trans k2).tup (hc.2 mid _ _ hbm hcm), Nat.le_trans (hz2 _ (List.getElem_mem hml)) (by decide), fun qs p' H4 k4 hp' q1 q2 q3 => ?_⟩
      walk_at "rd"
      refine ⟨ckD cs[mid], ckD c, dp_ckey q1 q2 q3, Kept.dp (k2.trans k4) _ _ (dp_ckey p1 p2 p3), ckD_alike _ _, fun z => (by cases z), ckD_depth _, ?_⟩
      walk_at "rd"
      cases hb2 : PySem.W.dataLt (ckD cs[mid]) (ckD c) with
      | true =>
        refine if_t rfl ?_
        walk_at "rd"
        refine ⟨hi - (mid + 1), by omega, mid + 1, hi, _, rfl, rfl, by omega, h2, k2.trans k4, fun i hi2 => ?_, h4⟩
        by_cases e2 : i = mid
        · rw [e2, egm]; exact hb2
        · have q := lt_of i mid (by omega) hml
          rw [egm] at q
          exact dataLt_trans q hb2
      | false =>
        refine if_f rfl ?_
        walk_at "rd"
        refine ⟨mid - lo, by omega, lo, mid, _, rfl, rfl, hm1, by omega, k2.trans k4, h3, fun i hi2 hi3 => ?_⟩
        by_cases e2 : i = mid
        · rw [e2, egm]; exact hb2
        · have q := lt_of mid i (by omega) hi3
          rw [egm] at q
          cases w : PySem.W.dataLt (ckD (cs.getD i [])) (ckD c) with
          | false => rfl
          | true =>
            have y := dataLt_trans q w
            rw [hb2] at y
            cases y
    · have e : decide ((lo : Int) < (hi : Int)) = false := decide_eq_false (fun z => hlt (by exact_mod_cast z))
      rw [e]
      refine if_f rfl ?_
      walk_at "rd"
      have el : lo = hi := by omega
      subst el
      exact k lo H' (k1.trans k2) ⟨h2, h3, h4⟩
end
end Ky

namespace Ky
open PySem PySem.Spec PyProof.Rows L2
local macro_rules | `(tactic| walk_at "rd") => `(tactic| repeat (first
  | with_reducible refine w_seq ?_
  | with_reducible refine w_asg ?_
  | with_reducible refine w_ret ?_
  | with_reducible refine w_drop ?_
  | with_reducible refine w_ifs ?_
  | ((with_reducible refine' w_var ?hh ?_); (case hh => exact rfl))
  | with_reducible refine w_c ?_
  | with_reducible refine w_op ?_
  | with_reducible refine w_un ?_
  | with_reducible refine w_I0 ?_
  | with_reducible refine w_U ?_
  | with_reducible refine w_nil ?_
  | with_reducible refine w_cons ?_
  | with_reducible refine w_call ?_
  | with_reducible refine w_cb ?_
  | with_reducible refine w_test ?_
  | with_reducible refine w_B ?_
  | with_reducible refine w_bl ?_
  | with_reducible refine w_and ?_
  | with_reducible refine w_or ?_
  | with_reducible refine w_not ?_
  | with_reducible refine w_ife ?_
  | with_reducible refine w_gRd ?_
  | with_reducible refine w_andV ?_
  | with_reducible refine w_orV ?_
  | with_reducible refine w_notV ?_
  | with_reducible refine w_chain ?_
  | with_reducible refine w_din ?_
  | with_reducible refine w_isi_ii ?_
  | with_reducible refine w_isi_ib ?_
  | with_reducible refine w_isi_it ?_
  | with_reducible refine w_isi_st ?_
  | ((with_reducible refine w_isi_tt ?h1 ?_); (case h1 => first | assumption | exact upd_same))
  | with_reducible refine if_t rfl ?_
  | with_reducible refine if_f rfl ?_
  | with_reducible refine w_tup ?_
  | with_reducible refine w_lst ?_
  | with_reducible refine w_next ?_
  | with_reducible refine w_bm ?_
  | with_reducible refine w_sl ?_
  | with_reducible refine w_part ?_
  | with_reducible refine w_nop ?_
  | with_reducible refine w_isI ?_
  | with_reducible refine w_yes ?_
  | with_reducible refine w_gn ?_
  | with_reducible refine w_gsub ?_
  | ((with_reducible refine' w_setL ?h1 ?h2 ?_); (case h1 => first | assumption | exact upd_same); (case h2 => exact rfl))
  | with_reducible refine w_asgG ?_
  | with_reducible refine w_m1 ?_
  | with_reducible refine w_isS ?_
  | with_reducible refine w_tyS ?_
  | ((with_reducible refine' w_tyL ?h1 ?_); (case h1 => first | assumption | exact upd_same))
  | ((with_reducible refine' w_ixT ?h1 ?h2 ?_); (case h1 => first | assumption | exact upd_same); (case h2 => exact rfl))
  | ((with_reducible refine' w_ixL ?h1 ?h2 ?_); (case h1 => first | assumption | exact upd_same); (case h2 => exact rfl))
  | ((with_reducible refine w_eq ?h1 ?_); (case h1 => exact rfl))
  | ((with_reducible refine w_ne ?h1 ?_); (case h1 => exact rfl))
  | dsimp only [List.set_cons_zero, List.set_cons_succ, List.append_nil, List.cons_append, List.nil_append, cxOf]))

def spMerged : Sp := fun vs H Q _ => ∃ (a b : Addr) (bs ps : List Addr) (cs ds : List (List Int)), vs = [.ref a, .ref b] ∧ (H a = some (.lst (bs.map V.ref)) ∨ H a = some (.tup (bs.map V.ref))) ∧ ClsAt H bs cs ∧ ascC cs ∧ H b = some (.lst (ps.map V.ref)) ∧ ClsAt H ps ds ∧ cs.length + ds.length ≤ 900 ∧ (∀ d, d ∈ cs ∨ d ∈ ds → d.length ≤ 900) ∧
  ∀ D H' qs es, Kept H H' → H D = none → H' D = some (.lst (qs.map V.ref)) → ClsAt H' qs es → ascC es → (∀ d, d ∈ es ↔ d ∈ cs ∨ d ∈ ds) → Q (.ref D) H'
theorem clsAt_snoc0 {H : Hp} {ps : List Addr} {ds : List (List Int)} {s : Addr} {sh : List Int} (h : ClsAt H ps ds) (hs : H s = some (.tup (sh.map V.int))) : ClsAt H (ps ++ [s]) (ds ++ [sh]) := by
  refine ⟨by rw [List.length_append, List.length_append, h.1] <;> rfl, fun j q d hq hd => ?_⟩
  by_cases hj : j < ps.length
  · rw [List.getElem?_append_left hj] at hq
    rw [List.getElem?_append_left (by rw [← h.1]; exact hj)] at hd
    exact h.2 j q d hq hd
  · rw [List.getElem?_append_right (by omega)] at hq
    rw [List.getElem?_append_right (by rw [← h.1]; omega)] at hd
    rw [← h.1] at hd
    cases z : j - ps.length with
    | zero =>
      rw [z] at hq hd
      cases hq
      cases hd
      exact hs
    | succ m =>
      rw [z] at hq
      simp at hq
section
variable {P : Program} {w : World} {K : PySem.W.Frag} {mg : Str → Option Value} {base : Heap} {uG : Value} {f : Addr} {fd : FuncData}
theorem ok_merged (F : Fun K "merged" "merged" s_merged f fd) (T : Tx K mg) (D_place_of : Df P w K mg base 3 "place_of" ["clause", "rows"] spPlace) : FnOk P w K mg base CX0 4 f fd ["rows", "clauses"] spMerged := by
  refine F.ok sc_merged (fun vs H Q E h => ?_) (fun cdv A outer s H vs Q E hr h => ?_)
  · obtain ⟨a, b, bs, ps, cs, ds, rfl, _⟩ := h
    rfl
  · obtain ⟨a, b, bs, ps, cs, ds, rfl, ha, hc, hasc, hb, hd, hz, hz2, k⟩ := h
    refine ⟨_, (pss_cons (ps_set (i := 2) sc_merged.nd rfl (.inl rfl) (pe_callTy call_list_of (by rfl) T.z_list (by decide +kernel) (pa_cons (pv 0) pa_nil)))
    (pss_cons (ps_for PassesOwn.never rfl (pi_listK (K := K) rfl (pv 1)) (pg_name (i := 3) sc_merged.nd rfl (.inl rfl))
      (pss_cons (ps_set (i := 4) sc_merged.nd rfl (.inl rfl) (pe_df D_place_of (hr.mono (by decide)) (by rfl) (pa_cons (pv 3) (pa_cons (pv 2) pa_nil))))
    (pss_one (ps_if (PW.pt (pw_or (pt_cmpR op_eq (pv 4) (pe_callB call_len_seq (by rfl) T.z_len (by decide +kernel) (pa_cons (pv 2) pa_nil)) (nomark _)) (pw_or1 (pt_cmpR (opK (K := K) (r := rNeD) rfl (op_neD hr.units)) (pe_ix (ix_listK (K := K) rfl) (pv 2) (pv 4) (fun _ _ => rfl)) (pv 3) (nomark _)))))
      (pss_one (ps_expr (pe_bm PySem.F.plainAttrs_list PySem.F.slot_list_insert PySem.F.type_list_insert mt_insert (pv 2) (pa_cons (pv 4) (pa_cons (pv 3) pa_nil)))))
      pss_nil))))
    (pss_one (ps_ret (pv 2))))), ?_⟩
    rw [show start n_merged [(.ref a : V), (.ref b : V)] = ([some (.ref a), some (.ref b), none, none, none] : List (Option V)) from rfl]
    have hsl : 1001 ≤ sizeLine := by decide
    have hlb : (ps.map V.ref).length = ds.length := by rw [List.length_map, hd.1]
    walk_at "rd"
    refine ⟨a, bs.map V.ref, rfl, ha.imp SqL.of SqT.of, fun D hD => ?_⟩
    have kD := Kept.new (o := .lst (bs.map V.ref)) hD
    walk_at "rd"
    refine ⟨_, rfl, b, rfl, ⟨_, SqL.of (kD.lst hb)⟩, for_list (K := K) (a := b) (xs := ps.map V.ref) (fun i σ' H' => ∃ (v3 v4 : Option V) (qs : List Addr) (es : List (List Int)), σ' = [some (.ref a), some (.ref b), some (.ref D), v3, v4] ∧ H' D = some (.lst (qs.map V.ref)) ∧ Kept H H' ∧ ClsAt H' qs es ∧ ascC es ∧ es.length ≤ cs.length + i ∧ (∀ d ∈ es, d.length ≤ 900) ∧ ∀ d, d ∈ es ↔ d ∈ cs ∨ d ∈ ds.take i)
      ⟨none, none, bs, cs, rfl, upd_same, kD, hc.kept kD, hasc, Nat.le_add_right _ _, fun d hd => hz2 d (.inl hd), fun d => by simp⟩ (fun i σ' H' _ h => by
        obtain ⟨_, _, _, _, _, _, k1, _⟩ := h
        exact SqL.of (k1.lst hb)) ?_ ?_⟩
    · rintro i x σ' H' hx ⟨v3, v4, qs, es, rfl, hDs, k1, hp, hes, hel, hez, hmem⟩
      rw [List.getElem?_map] at hx
      obtain ⟨s, hs, rfl⟩ := Option.map_eq_some_iff.mp hx
      have hi : i < ds.length := by rw [← hd.1]; exact (List.getElem?_eq_some_iff.mp hs).1
      have hdi : ds[i]? = some ds[i] := List.getElem?_eq_getElem hi
      have hs1 := k1.tup (hd.2 i s _ hs hdi)
      have et : ds.take (i + 1) = ds.take i ++ [ds[i]] := by rw [List.take_add_one, hdi]; rfl
      have hshl := hz2 _ (.inr (List.getElem_mem hi))
      generalize ds[i] = sh at hs1 et hshl
      walk_at "rd"
      refine ⟨s, D, qs, es, sh, rfl, hs1, by omega, hDs, hp, hes, by omega, fun d hd => Nat.le_trans (hez d hd) (by decide), fun n H4 k4 hpl => ?_⟩
      have hD4 := k4.lst hDs
      have k5 := k1.trans k4
      have hp4 := hp.kept k4
      walk_at "rd"
      refine ⟨D, qs.map V.ref, rfl, .inl (SqL.of hD4), ?_⟩
      walk_at "rd"
      have hs4 := k4.tup hs1
      have hpl1 := hpl.1
      have hm2 : ∀ d, (d ∈ es ∨ d = sh) ↔ (d ∈ cs ∨ d ∈ ds.take (i + 1)) := fun d => by
        rw [hmem d, et, List.mem_append, List.mem_singleton]
        exact or_assoc
      have hDH : H D = none := hD
      have hlp : qs.length = es.length := hp.1
      have hfin : sh ∉ es → ∃ (v3 v4 : Option V) (qs' : List Addr) (es' : List (List Int)), [some (V.ref a), some (V.ref b), some (V.ref D), some (V.ref s), some (V.int (n : Nat))] = [some (.ref a), some (.ref b), some (.ref D), v3, v4] ∧
          upd H4 D (.lst ((qs.map V.ref).take n ++ [V.ref s] ++ (qs.map V.ref).drop n)) D = some (.lst (qs'.map V.ref)) ∧ Kept H (upd H4 D (.lst ((qs.map V.ref).take n ++ [V.ref s] ++ (qs.map V.ref).drop n))) ∧ ClsAt (upd H4 D (.lst ((qs.map V.ref).take n ++ [V.ref s] ++ (qs.map V.ref).drop n))) qs' es' ∧ ascC es' ∧ es'.length ≤ cs.length + (i + 1) ∧ (∀ d ∈ es', d.length ≤ 900) ∧
          ∀ d, d ∈ es' ↔ d ∈ cs ∨ d ∈ ds.take (i + 1) := fun hno => by
        obtain ⟨a1, a2⟩ := place_ins hpl hes hno
        refine ⟨_, _, qs.take n ++ [s] ++ qs.drop n, es.take n ++ [sh] ++ es.drop n, rfl, ?_, Kept.mut k5 hDH, clsAt_upd (clsAt_ins hp4 hs4 n) hD4, a1, ?_, fun d hd => ?_, fun d => (a2 d).trans (hm2 d)⟩
        · rw [upd_same, List.map_append, List.map_append, List.map_take, List.map_drop] <;> rfl
        · rw [List.length_append, List.length_append, List.length_take, List.length_drop, List.length_singleton]
          omega
        · rcases (a2 d).mp hd with h | h
          · exact hez d h
          · rw [h]; exact hshl
      have hap : (qs.map V.ref).length < sizeLine := by
        rw [List.length_map, hlp]
        omega
      have hn63 : (n : Int) < 2 ^ 63 := by
        have h3 : (n : Int) ≤ 900 := by exact_mod_cast (by omega : n ≤ 900)
        omega
      by_cases hnl : n = es.length
      · have ed : decide (V.int (n : Nat) = V.int ((qs.map V.ref).length : Nat)) = true := decide_eq_true (by rw [List.length_map, hlp, hnl])
        rw [ed]
        refine if_t rfl ?_
        refine if_t rfl ?_
        walk_at "rd"
        exact ⟨D, qs.map V.ref, n, .ref s, rfl, rfl, hD4, hap, by omega, hn63, hfin (place_has hpl hes fun h => absurd h (by omega))⟩
      · have ed : decide (V.int (n : Nat) = V.int ((qs.map V.ref).length : Nat)) = false := decide_eq_false (fun z => hnl (by
          rw [List.length_map, hlp] at z
          have z := V.int.inj z
          exact_mod_cast z))
        rw [ed]
        refine if_f rfl ?_
        walk_at "rd"
        have hn2 : n < es.length := by omega
        have hdn : es[n]? = some es[n] := List.getElem?_eq_getElem hn2
        have hpn : qs[n]? = some (qs[n]'(by omega)) := List.getElem?_eq_getElem _
        refine ⟨D, qs.map V.ref, _, _, rfl, rfl, SqL.of hD4, atI_eq (j := n) rfl (by rw [List.getElem?_map, hpn] <;> rfl), ?_⟩
        walk_at "rd"
        refine ⟨_, _, dp_ints (hp4.2 n _ _ hpn hdn), dp_ints hs4, shT_ints _, shT_ints _, ?_⟩
        rw [eqv_ints]
        refine ⟨_, rfl, ?_⟩
        by_cases heq : es[n] = sh
        · rw [decide_eq_true heq]
          refine if_f rfl ?_
          walk_at "rd"
          refine ⟨_, _, qs, es, rfl, hD4, k5, hp4, hes, by omega, hez, fun d => ?_⟩
          rw [← hm2 d]
          exact ⟨.inl, fun h => h.elim id fun e => by rw [e, ← heq]; exact List.getElem_mem hn2⟩
        · rw [decide_eq_false heq]
          refine if_t rfl ?_
          walk_at "rd"
          exact ⟨D, qs.map V.ref, n, .ref s, rfl, rfl, hD4, hap, by omega, hn63, hfin (place_has hpl hes fun _ z => heq (by rw [hdn] at z; exact Option.some.inj z))⟩
    · rintro σ' H' ⟨v3, v4, qs, es, rfl, hDs, k1, hp, hes, hel, hez, hmem⟩
      rw [hlb, List.take_length] at hmem
      walk_at "rd"
      exact k D H' qs es k1 hD hDs hp hes hmem
end
end Ky

namespace Ky
open PySem PySem.Spec PyProof.Rows L2
local macro_rules | `(tactic| walk_at "rd") => `(tactic| repeat (first
  | with_reducible refine w_for1 ?_
  | with_reducible refine w_for2 ?_
  | with_reducible refine w_forL ?_
  | with_reducible refine w_forT ?_
  | with_reducible refine w_lc1 ?_
  | with_reducible refine w_lcL ?_
  | with_reducible refine w_lcT ?_
  | with_reducible refine w_dcL ?_
  | with_reducible refine w_dcT ?_
  | with_reducible refine w_seq ?_
  | with_reducible refine w_asg ?_
  | with_reducible refine w_ret ?_
  | with_reducible refine w_drop ?_
  | with_reducible refine w_ifs ?_
  | ((with_reducible refine' w_var ?hh ?_); (case hh => exact rfl))
  | with_reducible refine w_c ?_
  | with_reducible refine w_op ?_
  | with_reducible refine w_un ?_
  | with_reducible refine w_I0 ?_
  | with_reducible refine w_U ?_
  | with_reducible refine w_nil ?_
  | with_reducible refine w_cons ?_
  | with_reducible refine w_call ?_
  | with_reducible refine w_cb ?_
  | with_reducible refine w_test ?_
  | with_reducible refine w_B ?_
  | with_reducible refine w_bl ?_
  | with_reducible refine w_and ?_
  | with_reducible refine w_or ?_
  | with_reducible refine w_not ?_
  | with_reducible refine w_ife ?_
  | with_reducible refine w_gRd ?_
  | with_reducible refine w_andV ?_
  | with_reducible refine w_orV ?_
  | with_reducible refine w_notV ?_
  | with_reducible refine w_chain ?_
  | with_reducible refine w_din ?_
  | with_reducible refine w_isi_ii ?_
  | with_reducible refine w_isi_bi ?_
  | with_reducible refine w_isi_bb ?_
  | with_reducible refine w_isi_bt ?_
  | with_reducible refine w_isi_si ?_
  | with_reducible refine w_isi_nt ?_
  | with_reducible refine w_isi_ib ?_
  | with_reducible refine w_isi_it ?_
  | with_reducible refine w_isi_st ?_
  | ((with_reducible refine w_isi_tt ?h1 ?_); (case h1 => first | assumption | exact upd_same))
  | with_reducible refine if_t rfl ?_
  | with_reducible refine if_f rfl ?_
  | with_reducible refine w_tup ?_
  | with_reducible refine w_lst ?_
  | with_reducible refine w_next ?_
  | with_reducible refine w_bm ?_
  | with_reducible refine w_sl ?_
  | with_reducible refine w_part ?_
  | with_reducible refine w_nop ?_
  | with_reducible refine w_isI ?_
  | with_reducible refine w_yes ?_
  | with_reducible refine w_gn ?_
  | with_reducible refine w_gsub ?_
  | ((with_reducible refine' w_setL ?h1 ?h2 ?_); (case h1 => first | assumption | exact upd_same); (case h2 => exact rfl))
  | with_reducible refine w_asgG ?_
  | with_reducible refine w_m1 ?_
  | with_reducible refine w_isS ?_
  | with_reducible refine w_tyS ?_
  | ((with_reducible refine' w_tyL ?h1 ?_); (case h1 => first | assumption | exact upd_same))
  | ((with_reducible refine' w_ixT ?h1 ?h2 ?_); (case h1 => first | assumption | exact upd_same); (case h2 => exact rfl))
  | ((with_reducible refine' w_ixL ?h1 ?h2 ?_); (case h1 => first | assumption | exact upd_same); (case h2 => exact rfl))
  | ((with_reducible refine w_eq ?h1 ?_); (case h1 => exact rfl))
  | ((with_reducible refine w_ne ?h1 ?_); (case h1 => exact rfl))
  | dsimp only [List.set_cons_zero, List.set_cons_succ, List.append_nil, List.cons_append, List.nil_append, cxOf]))

def spResWith : Sp := fun vs H Q _ => ∃ (a b : Addr) (bs : List Addr) (cs : List (List Int)) (c : List Int), vs = [.ref a, .ref b] ∧ H a = some (.tup (bs.map V.ref)) ∧ ClsAt H bs cs ∧ ascC cs ∧ H b = some (.tup (c.map V.int)) ∧ cs.length ≤ 800 ∧ (∀ d, d ∈ cs ∨ d = c → d.length ≤ 900) ∧
  ∀ p H' qs es, Kept H H' → H' p = some (.tup (qs.map V.ref)) → ClsAt H' qs es → ascC es → (∀ d, d ∈ es ↔ d ∈ cs ∨ d = c) → Q (.ref p) H'
section
variable {P : Program} {w : World} {K : PySem.W.Frag} {mg : Str → Option Value} {base : Heap} {uG : Value} {f : Addr} {fd : FuncData}
theorem ok_residue_with (F : Fun K "residue_with" "residue_with" s_residue_with f fd) (T : Tx K mg) (D_merged : Df P w K mg base 4 "merged" ["rows", "clauses"] spMerged) : FnOk P w K mg base CX0 5 f fd ["residue", "clause"] spResWith := by
  refine F.ok sc_residue_with (fun vs H Q E h => ?_) (fun cdv A outer s H vs Q E hr h => ?_)
  · obtain ⟨a, b, bs, cs, c, rfl, _⟩ := h
    rfl
  · obtain ⟨a, b, bs, cs, c, rfl, ha, hc, hasc, hb, hz, hz2, k⟩ := h
    have hsl : 1001 ≤ sizeLine := by decide
    refine ⟨_, (pss_one (ps_ret (pe_callTy call_tuple_of (by rfl) T.z_tuple (by decide +kernel) (pa_cons (pe_df D_merged (hr.mono (by decide)) (by rfl) (pa_cons (pv 0) (pa_cons (pe_lst (pa_cons (pv 1) pa_nil)) pa_nil))) pa_nil)))), ?_⟩
    rw [show start n_residue_with [(.ref a : V), (.ref b : V)] = ([some (.ref a), some (.ref b)] : List (Option V)) from rfl]
    walk_at "rd"
    refine ⟨by show 1 ≤ sizeLine; omega, fun L hL => ?_⟩
    have kL := Kept.new (o := .lst [.ref b]) hL
    have eL : (upd H L (.lst [.ref b])) L = some (.lst (([b] : List Addr).map V.ref)) := upd_same
    generalize upd H L (.lst [.ref b]) = H1 at kL eL
    walk_at "rd"
    refine ⟨a, L, bs, [b], cs, [c], rfl, .inr (kL.tup ha), hc.kept kL, hasc, eL, ⟨rfl, fun i q d h1 h2 => ?_⟩, by rw [List.length_singleton]; omega, fun d hd => hz2 d (hd.imp id fun z => List.mem_singleton.mp z), fun D H2 qs es k2 hn hD hq hes hmem => ?_⟩
    · cases i with
      | zero =>
        cases h1
        cases h2
        exact kL.tup hb
      | succ i => simp at h1
    · walk_at "rd"
      refine ⟨D, _, rfl, .inl ⟨SqL.of hD, fun p hp => ?_⟩⟩
      have k3 := Kept.new (o := .tup (qs.map V.ref)) hp
      exact k p _ qs es (kL.trans (k2.trans k3)) upd_same (hq.kept k3) hes fun d => (hmem d).trans ⟨fun z => z.imp id fun z => List.mem_singleton.mp z, fun z => z.imp id fun z => List.mem_singleton.mpr z⟩
end
end Ky

namespace Ky
open PySem PySem.Spec PyProof.Rows L2
local macro_rules | `(tactic| walk_at "rd") => `(tactic| repeat (first
  | with_reducible refine w_seq ?_
  | with_reducible refine w_asg ?_
  | with_reducible refine w_ret ?_
  | with_reducible refine w_drop ?_
  | with_reducible refine w_ifs ?_
  | ((with_reducible refine' w_var ?hh ?_); (case hh => exact rfl))
  | with_reducible refine w_c ?_
  | with_reducible refine w_op ?_
  | with_reducible refine w_un ?_
  | with_reducible refine w_I0 ?_
  | with_reducible refine w_U ?_
  | with_reducible refine w_nil ?_
  | with_reducible refine w_cons ?_
  | with_reducible refine w_call ?_
  | with_reducible refine w_cb ?_
  | with_reducible refine w_test ?_
  | with_reducible refine w_B ?_
  | with_reducible refine w_bl ?_
  | with_reducible refine w_and ?_
  | with_reducible refine w_or ?_
  | with_reducible refine w_not ?_
  | with_reducible refine w_ife ?_
  | with_reducible refine w_gRd ?_
  | with_reducible refine w_andV ?_
  | with_reducible refine w_orV ?_
  | with_reducible refine w_notV ?_
  | with_reducible refine w_chain ?_
  | with_reducible refine w_din ?_
  | with_reducible refine w_isi_ii ?_
  | with_reducible refine w_isi_ib ?_
  | with_reducible refine w_isi_it ?_
  | with_reducible refine w_isi_st ?_
  | ((with_reducible refine w_isi_tt ?h1 ?_); (case h1 => first | assumption | exact upd_same))
  | with_reducible refine if_t rfl ?_
  | with_reducible refine if_f rfl ?_
  | with_reducible refine w_tup ?_
  | with_reducible refine w_lst ?_
  | with_reducible refine w_next ?_
  | with_reducible refine w_bm ?_
  | with_reducible refine w_sl ?_
  | with_reducible refine w_part ?_
  | with_reducible refine w_nop ?_
  | with_reducible refine w_isI ?_
  | with_reducible refine w_yes ?_
  | with_reducible refine w_gn ?_
  | with_reducible refine w_gsub ?_
  | ((with_reducible refine' w_setL ?h1 ?h2 ?_); (case h1 => first | assumption | exact upd_same); (case h2 => exact rfl))
  | with_reducible refine w_asgG ?_
  | with_reducible refine w_m1 ?_
  | with_reducible refine w_isS ?_
  | with_reducible refine w_tyS ?_
  | ((with_reducible refine' w_tyL ?h1 ?_); (case h1 => first | assumption | exact upd_same))
  | ((with_reducible refine' w_ixT ?h1 ?h2 ?_); (case h1 => first | assumption | exact upd_same); (case h2 => exact rfl))
  | ((with_reducible refine' w_ixL ?h1 ?h2 ?_); (case h1 => first | assumption | exact upd_same); (case h2 => exact rfl))
  | ((with_reducible refine w_eq ?h1 ?_); (case h1 => exact rfl))
  | ((with_reducible refine w_ne ?h1 ?_); (case h1 => exact rfl))
  | dsimp only [List.set_cons_zero, List.set_cons_succ, List.append_nil, List.cons_append, List.nil_append, cxOf]))

theorem w_gTup3 {K : PySem.W.Frag} {H : Hp} {b : Addr} {x y z : V} {i j l : Nat} {σ : L2.St} {R : L2.St → Hp → Prop} (h : H b = some (.tup [x, y, z])) (q : R (((σ.set i (some x)).set j (some y)).set l (some z)) H) : gTup K 3 (gCons (gName i) (gCons (gName j) (gCons (gName l) gNil))) (.ref b) σ H R :=
  ⟨b, _, rfl, SqT.of h, rfl, _, _, rfl, _, _, rfl, _, _, rfl, rfl, q⟩
theorem w_dnin {td ty : TE} {σ : L2.St} {H : Hp} {Q : VK} (q : ty σ H fun y H1 => td σ H1 fun x H2 => ∃ a o, x = .ref a ∧ DGet H2 a y o ∧ Q (.bl (!o.isSome)) H2) : tDNotIn ty td σ H Q := q
def spHide : Sp := fun vs H Q _ => ∃ (fp va fs fh : Addr) (fr : V) (S Hd ns : List Int), vs = [.ref fp, .ref va] ∧ H fp = some (.tup [.ref fs, .ref fh, fr]) ∧ H fs = some (.tup (S.map V.int)) ∧ H fh = some (.tup (Hd.map V.int)) ∧ H va = some (.lst (ns.map V.int)) ∧ S.length ≤ 400 ∧ Hd.length ≤ 400 ∧ ns.length ≤ 400 ∧
  ∀ p a b H', Kept H H' → H' p = some (.tup [.ref a, .ref b, fr]) → H' a = some (.tup ((S.filter fun n => decide (n ∉ ns)).map V.int)) → H' b = some (.tup ((srtBy PyData.int (Hd ++ dd ns)).map V.int)) → Q (.ref p) H'
section
variable {P : Program} {w : World} {K : PySem.W.Frag} {mg : Str → Option Value} {base : Heap} {uG : Value} {f : Addr} {fd : FuncData}
theorem ok_hide (F : Fun K "hide" "hide" s_hide f fd) (T : Tx K mg) : FnOk P w K mg base CX0 1 f fd ["formula", "variables"] spHide := by
  refine F.ok sc_hide (fun vs H Q E h => ?_) (fun cdv A outer s H vs Q E hr h => ?_)
  · obtain ⟨fp, va, fs, fh, fr, S, Hd, ns, rfl, _⟩ := h
    rfl
  · obtain ⟨fp, va, fs, fh, fr, S, Hd, ns, rfl, hfp, hfs, hfh, hva, hz1, hz2, hz3, k⟩ := h
    have hsl : 1001 ≤ sizeLine := by decide
    refine ⟨_, (pss_cons (ps_asg (pv 0) (pg_tupK (K := K) rfl (by rfl) (pgs_cons (pg_name (i := 2) sc_hide.nd rfl (.inl rfl)) (pgs_cons (pg_name (i := 3) sc_hide.nd rfl (.inl rfl)) (pgs_cons (pg_name (i := 4) sc_hide.nd rfl (.inl rfl)) pgs_nil)))))
    (pss_cons (ps_set (i := 5) sc_hide.nd rfl (.inr rfl) (pe_dc (own := [("variable", 6)]) (g := gName 6) (by rfl) sc_hide.nd (pi_listK (K := K) rfl (pv 1)) (blkOk_by (own := [("variable", 6)]) (N := n_hide) (sc := defScope s_hide) (by decide +kernel)) (fun _ _ _ _ _ => pg_name (i := 6) sc_hide.nd rfl (Or.inl rfl)) (fun _ _ _ _ _ => pts_nil) (fun _ _ _ _ _ => (pv 6)) (fun _ _ _ _ _ => pe_bl)))
    (pss_cons (ps_set (i := 7) sc_hide.nd rfl (.inl rfl) (pe_callTy call_tuple_of (by rfl) T.z_tuple (by decide +kernel) (pa_cons (pe_lc (own := [("variable", 6)]) (g := gName 6) (by rfl) sc_hide.nd (pi_tupK (K := K) rfl (pv 2)) (blkOk_by (own := [("variable", 6)]) (N := n_hide) (sc := defScope s_hide) (by decide +kernel)) (fun _ _ _ _ _ => pg_name (i := 6) sc_hide.nd rfl (Or.inl rfl)) (fun _ _ _ _ _ => pts_one (pt_cmp (pc_dnotin hr.u1 (pv 6) (pv 5)) (by rfl))) (fun _ _ _ _ _ => (pv 6))) pa_nil)))
    (pss_one (ps_ret (pe_tup (pa_cons (pv 7) (pa_cons (pe_callTy call_tuple_of (by rfl) T.z_tuple (by decide +kernel) (pa_cons (pe_callB (cr_sortedD hr.units) (by rfl) T.z_sorted (by decide +kernel) (pa_cons (pe_op op_cat (pe_callTy call_list_of (by rfl) T.z_list (by decide +kernel) (pa_cons (pv 3) pa_nil)) (pe_callTy (call_list_dK rfl) (by rfl) T.z_list (by decide +kernel) (pa_cons (pv 5) pa_nil))) pa_nil)) pa_nil)) (pa_cons (pv 4) pa_nil))))))))), ?_⟩
    rw [show start n_hide [(.ref fp : V), (.ref va : V)] = ([some (.ref fp), some (.ref va), none, none, none, none, none, none] : List (Option V)) from rfl]
    walk_at "rd"
    refine w_gTup3 hfp ?_
    walk_at "rd"
    refine rd_dcI (i0 := 1) (j := 6) rfl (by show 6 < 8; decide) hva (by omega) fun D hD => ?_
    have kD := Kept.new (o := .dK (setDict (keysI (dd ns)))) hD
    have eD : (upd H D (.dK (setDict (keysI (dd ns))))) D = some (.dK (setDict (keysI (dd ns)))) := upd_same
    generalize upd H D (.dK (setDict (keysI (dd ns)))) = H1 at kD eD
    walk_at "rd"
    refine w_lcT ?_
    walk_at "rd"
    refine LcT.ints (fun n => decide (n ∉ ns)) V.int (by omega) (kD.tup hfs) (fun n H2 kk kk2 hn k2 h5 h6 => ?_) fun D2 H2 hD2 k2 h2 => ?_
    · refine w_B ?_
      refine w_dnin ?_
      walk_at "rd"
      have eD2 : H2 D = some (.dK (setDict (keysI (dd ns)))) := k2.keep D _ (fun ps z => by cases z) eD
      refine ⟨D, _, rfl, DGet.k (k := Sum.inl n) eD2, ?_⟩
      have e2 : (valV (setDict (keysI (dd ns))) (Sum.inl n)).isSome = decide (n ∈ ns) := by
        rw [valV_set]
        refine decide_eq_decide.mpr ⟨fun h => ?_, fun h => ?_⟩
        · obtain ⟨y, hy, e⟩ := List.mem_map.mp h
          rw [← Sum.inl.inj e]
          exact mem_dd.mp hy
        · exact List.mem_map.mpr ⟨_, mem_dd.mpr h, rfl⟩
      rw [e2]
      by_cases m : n ∈ ns
      · rw [decide_eq_true m]
        exact ⟨_, rfl, if_f rfl (h6 H2 (Kept.refl _) (decide_eq_false fun z => z m))⟩
      · rw [decide_eq_false m]
        refine ⟨_, rfl, if_t rfl ?_⟩
        walk_at "rd"
        exact h5 H2 (Kept.refl _) (decide_eq_true m)
    · walk_at "rd"
      refine ⟨D2, _, rfl, .inl ⟨SqL.of h2, fun a ha => ?_⟩⟩
      have k3 := Kept.new (o := .tup ((S.filter fun n => decide (n ∉ ns)).map V.int)) ha
      have ea : (upd H2 a (.tup ((S.filter fun n => decide (n ∉ ns)).map V.int))) a = some (.tup ((S.filter fun n => decide (n ∉ ns)).map V.int)) := upd_same
      generalize upd H2 a (.tup ((S.filter fun n => decide (n ∉ ns)).map V.int)) = H3 at k3 ea
      have k13 := kD.trans (k2.trans k3)
      have eD3 : H3 D = some (.dK (setDict (keysI (dd ns)))) := (k2.trans k3).keep D _ (fun ps z => by cases z) eD
      walk_at "rd"
      refine ⟨fh, _, rfl, .inr (SqT.of (k13.tup hfh)), fun l1 hl1 => ?_⟩
      have k4 := Kept.new (o := .lst (Hd.map V.int)) hl1
      have el1 : (upd H3 l1 (.lst (Hd.map V.int))) l1 = some (.lst (Hd.map V.int)) := upd_same
      generalize upd H3 l1 (.lst (Hd.map V.int)) = H4 at k4 el1
      have eD4 : H4 D = some (.dK (setDict (keysI (dd ns)))) := k4.keep D _ (fun ps z => by cases z) eD3
      walk_at "rd"
      refine ⟨D, _, rfl, eD4, fun l2 hl2 => ?_⟩
      rw [set_keys]
      have k5 := Kept.new (o := .lst ((dd ns).map V.int)) hl2
      have el2 : (upd H4 l2 (.lst ((dd ns).map V.int))) l2 = some (.lst ((dd ns).map V.int)) := upd_same
      have el1 := k5.lst el1
      generalize upd H4 l2 (.lst ((dd ns).map V.int)) = H5 at k5 el2 el1
      have hdl := len_dd ns
      refine ⟨l1, l2, _, _, rfl, rfl, el1, el2, by rw [List.length_map, List.length_map]; omega, fun l3 hl3 => ?_⟩
      rw [← List.map_append]
      have k6 := Kept.new (o := .lst ((Hd ++ dd ns).map V.int)) hl3
      have el3 : (upd H5 l3 (.lst ((Hd ++ dd ns).map V.int))) l3 = some (.lst ((Hd ++ dd ns).map V.int)) := upd_same
      generalize upd H5 l3 (.lst ((Hd ++ dd ns).map V.int)) = H6 at k6 el3
      walk_at "rd"
      refine ⟨l3, (Hd ++ dd ns).map V.int, (Hd ++ dd ns).map PyData.int, rfl, SqL.of el3, dpAll_ints _, allAlike_ints _, srt_intsS _, depth_intsS _, fun l4 hl4 => ?_⟩
      rw [sortD_map V.int PyData.int (Hd ++ dd ns)]
      have k7 := Kept.new (o := .lst ((srtBy PyData.int (Hd ++ dd ns)).map V.int)) hl4
      have el4 : (upd H6 l4 (.lst ((srtBy PyData.int (Hd ++ dd ns)).map V.int))) l4 = some (.lst ((srtBy PyData.int (Hd ++ dd ns)).map V.int)) := upd_same
      generalize upd H6 l4 (.lst ((srtBy PyData.int (Hd ++ dd ns)).map V.int)) = H7 at k7 el4
      walk_at "rd"
      refine ⟨l4, _, rfl, .inl ⟨SqL.of el4, fun b hb => ?_⟩⟩
      have k8 := Kept.new (o := .tup ((srtBy PyData.int (Hd ++ dd ns)).map V.int)) hb
      have eb : (upd H7 b (.tup ((srtBy PyData.int (Hd ++ dd ns)).map V.int))) b = some (.tup ((srtBy PyData.int (Hd ++ dd ns)).map V.int)) := upd_same
      generalize upd H7 b (.tup ((srtBy PyData.int (Hd ++ dd ns)).map V.int)) = H8 at k8 eb
      walk_at "rd"
      refine ⟨by show 3 ≤ sizeLine; omega, fun p hp => ?_⟩
      have k9 := Kept.new (o := .tup [.ref a, .ref b, fr]) hp
      have k48 := k4.trans (k5.trans (k6.trans (k7.trans k8)))
      exact k p a b _ (k13.trans (k48.trans k9)) upd_same (k9.tup (k48.tup ea)) (k9.tup eb)
end
end Ky

namespace Ky
open PySem PySem.Spec PyProof.Rows L2
local macro_rules | `(tactic| walk_at "rd") => `(tactic| repeat (first
  | with_reducible refine w_for1 ?_
  | with_reducible refine w_for2 ?_
  | with_reducible refine w_forL ?_
  | with_reducible refine w_forT ?_
  | with_reducible refine w_lc1 ?_
  | with_reducible refine w_lcL ?_
  | with_reducible refine w_lcT ?_
  | with_reducible refine w_dcL ?_
  | with_reducible refine w_dcT ?_
  | with_reducible refine w_seq ?_
  | with_reducible refine w_asg ?_
  | with_reducible refine w_ret ?_
  | with_reducible refine w_drop ?_
  | with_reducible refine w_ifs ?_
  | ((with_reducible refine' w_var ?hh ?_); (case hh => exact rfl))
  | with_reducible refine w_c ?_
  | with_reducible refine w_op ?_
  | with_reducible refine w_un ?_
  | with_reducible refine w_I0 ?_
  | with_reducible refine w_U ?_
  | with_reducible refine w_nil ?_
  | with_reducible refine w_cons ?_
  | with_reducible refine w_call ?_
  | with_reducible refine w_cb ?_
  | with_reducible refine w_test ?_
  | with_reducible refine w_B ?_
  | with_reducible refine w_bl ?_
  | with_reducible refine w_and ?_
  | with_reducible refine w_or ?_
  | with_reducible refine w_not ?_
  | with_reducible refine w_ife ?_
  | with_reducible refine w_gRd ?_
  | with_reducible refine w_andV ?_
  | with_reducible refine w_orV ?_
  | with_reducible refine w_notV ?_
  | with_reducible refine w_chain ?_
  | with_reducible refine w_din ?_
  | with_reducible refine w_isi_ii ?_
  | with_reducible refine w_isi_bi ?_
  | with_reducible refine w_isi_bb ?_
  | with_reducible refine w_isi_bt ?_
  | with_reducible refine w_isi_si ?_
  | with_reducible refine w_isi_nt ?_
  | with_reducible refine w_isi_ib ?_
  | with_reducible refine w_isi_it ?_
  | with_reducible refine w_isi_st ?_
  | ((with_reducible refine w_isi_tt ?h1 ?_); (case h1 => first | assumption | exact upd_same))
  | with_reducible refine if_t rfl ?_
  | with_reducible refine if_f rfl ?_
  | with_reducible refine w_tup ?_
  | with_reducible refine w_lst ?_
  | with_reducible refine w_next ?_
  | with_reducible refine w_bm ?_
  | with_reducible refine w_sl ?_
  | with_reducible refine w_part ?_
  | with_reducible refine w_nop ?_
  | with_reducible refine w_isI ?_
  | with_reducible refine w_yes ?_
  | with_reducible refine w_gn ?_
  | with_reducible refine w_gsub ?_
  | ((with_reducible refine' w_setL ?h1 ?h2 ?_); (case h1 => first | assumption | exact upd_same); (case h2 => exact rfl))
  | with_reducible refine w_asgG ?_
  | with_reducible refine w_m1 ?_
  | with_reducible refine w_isS ?_
  | with_reducible refine w_tyS ?_
  | ((with_reducible refine' w_tyL ?h1 ?_); (case h1 => first | assumption | exact upd_same))
  | ((with_reducible refine' w_ixT ?h1 ?h2 ?_); (case h1 => first | assumption | exact upd_same); (case h2 => exact rfl))
  | ((with_reducible refine' w_ixL ?h1 ?h2 ?_); (case h1 => first | assumption | exact upd_same); (case h2 => exact rfl))
  | ((with_reducible refine w_eq ?h1 ?_); (case h1 => exact rfl))
  | ((with_reducible refine w_ne ?h1 ?_); (case h1 => exact rfl))
  | dsimp only [List.set_cons_zero, List.set_cons_succ, List.append_nil, List.cons_append, List.nil_append, cxOf]))

/-- new names of variables: what the dict at g says, each other its own -/
def NamAt (H : Hp) (g : Addr) (nm : Int → Int) : Prop := ∃ kvs : List (L2.Key × V), H g = some (.dK kvs) ∧ ∀ k, (valV kvs (.inl k)).getD (.int k) = .int (nm k)
theorem NamAt.kept {H H' : Hp} {g : Addr} {nm : Int → Int} (h : NamAt H g nm) (k : Kept H H') : NamAt H' g nm := by
  obtain ⟨kvs, h1, h2⟩ := h
  exact ⟨kvs, k.keep g _ (fun ps z => by cases z) h1, h2⟩
def renL (nm : Int → Int) (n : Int) : Int := if n > 0 then nm (absI n) else -nm (absI n)
def spRenamed (P0 : Addr) : Sp := fun vs H Q E => ∃ (a g : Addr) (c : List Int) (nm : Int → Int), vs = [.ref a, .ref g] ∧ H a = some (.tup (c.map V.int)) ∧ c.length ≤ 400 ∧ NamAt H g nm ∧ (∀ L H', Kept H H' → H' L = some (.lst ((c.map (renL nm)).map V.int)) → spClauseOf P0 [.ref L] H' Q E)
section
variable {P : Program} {w : World} {K : PySem.W.Frag} {mg : Str → Option Value} {base : Heap} {uG : Value} {f : Addr} {fd : FuncData}
theorem ok_renamed {P0 : Addr} (F : Fun K "renamed" "renamed" s_renamed f fd) (T : Tx K mg) (D_clause_of : Df P w K mg base 4 "clause_of" ["literals"] (spClauseOf P0)) : FnOk P w K mg base CX0 5 f fd ["clause", "names"] (spRenamed P0) := by
  refine F.ok sc_renamed (fun vs H Q E h => ?_) (fun cdv A outer s H vs Q E hr h => ?_)
  · obtain ⟨a, g, c, nm, rfl, _⟩ := h
    rfl
  · obtain ⟨a, g, c, nm, rfl, ha, hz, hg, k⟩ := h
    have hsl : 1001 ≤ sizeLine := by decide
    refine ⟨_, (pss_cons (ps_set (i := 2) sc_renamed.nd rfl (.inl rfl) (pe_lst pa_nil))
    (pss_cons (ps_for PassesOwn.never rfl (pi_tupK (K := K) rfl (pv 0)) (pg_name (i := 3) sc_renamed.nd rfl (.inl rfl))
      (pss_cons (ps_set (i := 4) sc_renamed.nd rfl (.inl rfl) (pe_dget2 hr.u1 (pv 1) (pe_callB call_abs (by rfl) T.z_abs (by decide +kernel) (pa_cons (pv 3) pa_nil)) (pe_callB call_abs (by rfl) T.z_abs (by decide +kernel) (pa_cons (pv 3) pa_nil)) ⟨rfl, rfl, rfl, rfl⟩))
    (pss_one (ps_expr (pe_bm PySem.F.plainAttrs_list PySem.F.slot_list_append PySem.F.type_list_append mt_append (pv 2) (pa_cons (pe_ifExp (pt_cmpR op_gt (pv 3) pe_int (nomark _)) (pv 4) (pe_un un_neg (pv 4))) pa_nil))))))
    (pss_one (ps_ret (pe_df D_clause_of (hr.mono (by decide)) (by rfl) (pa_cons (pv 2) pa_nil)))))), ?_⟩
    rw [show start n_renamed [(.ref a : V), (.ref g : V)] = ([some (.ref a), some (.ref g), none, none, none] : List (Option V)) from rfl]
    walk_at "rd"
    refine ⟨Nat.zero_le _, fun L hL => ?_⟩
    have kF : H L = none → H L = none := id
    have kL := Kept.new (o := .lst []) hL
    have eL : (upd H L (.lst [])) L = some (.lst (([] : List Int).map V.int)) := upd_same
    generalize upd H L (.lst []) = H1 at kL eL
    walk_at "rd"
    refine FrT.mk (xs := c.map V.int) (fun i σ' H' => ∃ v3 v4, σ' = [some (.ref a), some (.ref g), some (.ref L), v3, v4] ∧ Kept H H' ∧ H' L = some (.lst (((c.take i).map (renL nm)).map V.int)))
      ⟨none, none, rfl, kL, eL⟩ (fun i σ' H' _ h => by
        obtain ⟨_, _, _, k1, _⟩ := h
        exact SqT.of (k1.tup ha)) ?_ ?_
    · rintro i x σ' H' hx ⟨v3, v4, rfl, k1, hLs⟩
      obtain ⟨n, rfl, hn⟩ := map_int hx
      have hi : i < c.length := (List.getElem?_eq_some_iff.mp hn).1
      have en : c.take (i + 1) = c.take i ++ [n] := by rw [List.take_add_one, hn]; rfl
      obtain ⟨kvs, g1, g2⟩ := hg.kept k1
      walk_at "rd"
      refine (show tDGet2 _ _ _ _ _ _ from w_var rfl ⟨g, rfl, .inl ⟨_, .inl g1⟩, ?_⟩)
      walk_at "rd"
      refine ⟨n, rfl, ?_⟩
      walk_at "rd"
      refine ⟨n, rfl, ?_⟩
      refine ⟨_, DGet.k (k := Sum.inl (absI n)) g1, ?_⟩
      show tDrop _ _ _ _
      rw [show (Option.getD (valV kvs (Sum.inl (absI n))) (V.int (if n < 0 then -n else n))) = V.int (nm (absI n)) from g2 (absI n)]
      have hsz : ((List.map (renL nm) (List.take i c)).map V.int).length < sizeLine := by
        rw [List.length_map, List.length_map, List.length_take]
        omega
      have fin : ∀ m : Int, m = renL nm n → (upd H' L (.lst (((c.take i).map (renL nm)).map V.int ++ [.int m]))) L = some (.lst (((c.take (i + 1)).map (renL nm)).map V.int)) := fun m e => by
        rw [upd_same, en, List.map_append, List.map_append, e] <;> rfl
      walk_at "rd"
      by_cases h : 0 < n
      · refine if_t (decide_eq_true h) ?_
        walk_at "rd"
        exact ⟨L, _, .int (nm (absI n)), rfl, rfl, hLs, hsz, _, _, rfl, Kept.mut k1 (kF hL), fin _ (by unfold renL; rw [if_pos h])⟩
      · refine if_f (decide_eq_false h) ?_
        walk_at "rd"
        exact ⟨L, _, .int (-nm (absI n)), rfl, rfl, hLs, hsz, _, _, rfl, Kept.mut k1 (kF hL), fin _ (by unfold renL; rw [if_neg h])⟩
    · rintro σ' H' ⟨v3, v4, rfl, k1, hLs⟩
      rw [List.length_map, List.take_length] at hLs
      walk_at "rd"
      exact k L H' k1 hLs
end
end Ky

namespace Ky
open PySem PySem.Spec PyProof.Rows L2
local macro_rules | `(tactic| walk_at "rd") => `(tactic| repeat (first
  | with_reducible refine w_for1 ?_
  | with_reducible refine w_for2 ?_
  | with_reducible refine w_forL ?_
  | with_reducible refine w_forT ?_
  | with_reducible refine w_lc1 ?_
  | with_reducible refine w_lcL ?_
  | with_reducible refine w_lcT ?_
  | with_reducible refine w_dcL ?_
  | with_reducible refine w_dcT ?_
  | with_reducible refine w_seq ?_
  | with_reducible refine w_asg ?_
  | with_reducible refine w_ret ?_
  | with_reducible refine w_drop ?_
  | with_reducible refine w_ifs ?_
  | ((with_reducible refine' w_var ?hh ?_); (case hh => exact rfl))
  | with_reducible refine w_c ?_
  | with_reducible refine w_op ?_
  | with_reducible refine w_un ?_
  | with_reducible refine w_I0 ?_
  | with_reducible refine w_U ?_
  | with_reducible refine w_nil ?_
  | with_reducible refine w_cons ?_
  | with_reducible refine w_call ?_
  | with_reducible refine w_cb ?_
  | with_reducible refine w_test ?_
  | with_reducible refine w_B ?_
  | with_reducible refine w_bl ?_
  | with_reducible refine w_and ?_
  | with_reducible refine w_or ?_
  | with_reducible refine w_not ?_
  | with_reducible refine w_ife ?_
  | with_reducible refine w_gRd ?_
  | with_reducible refine w_andV ?_
  | with_reducible refine w_orV ?_
  | with_reducible refine w_notV ?_
  | with_reducible refine w_chain ?_
  | with_reducible refine w_din ?_
  | with_reducible refine w_isi_ii ?_
  | with_reducible refine w_isi_bi ?_
  | with_reducible refine w_isi_bb ?_
  | with_reducible refine w_isi_bt ?_
  | with_reducible refine w_isi_si ?_
  | with_reducible refine w_isi_nt ?_
  | with_reducible refine w_isi_ib ?_
  | with_reducible refine w_isi_it ?_
  | with_reducible refine w_isi_st ?_
  | ((with_reducible refine w_isi_tt ?h1 ?_); (case h1 => first | assumption | exact upd_same))
  | with_reducible refine if_t rfl ?_
  | with_reducible refine if_f rfl ?_
  | with_reducible refine w_tup ?_
  | with_reducible refine w_lst ?_
  | with_reducible refine w_next ?_
  | with_reducible refine w_bm ?_
  | with_reducible refine w_sl ?_
  | with_reducible refine w_part ?_
  | with_reducible refine w_nop ?_
  | with_reducible refine w_isI ?_
  | with_reducible refine w_yes ?_
  | with_reducible refine w_gn ?_
  | with_reducible refine w_gsub ?_
  | ((with_reducible refine' w_setL ?h1 ?h2 ?_); (case h1 => first | assumption | exact upd_same); (case h2 => exact rfl))
  | with_reducible refine w_asgG ?_
  | with_reducible refine w_m1 ?_
  | with_reducible refine w_isS ?_
  | with_reducible refine w_tyS ?_
  | ((with_reducible refine' w_tyL ?h1 ?_); (case h1 => first | assumption | exact upd_same))
  | ((with_reducible refine' w_ixT ?h1 ?h2 ?_); (case h1 => first | assumption | exact upd_same); (case h2 => exact rfl))
  | ((with_reducible refine' w_ixL ?h1 ?h2 ?_); (case h1 => first | assumption | exact upd_same); (case h2 => exact rfl))
  | ((with_reducible refine w_eq ?h1 ?_); (case h1 => exact rfl))
  | ((with_reducible refine w_ne ?h1 ?_); (case h1 => exact rfl))
  | dsimp only [List.set_cons_zero, List.set_cons_succ, List.append_nil, List.cons_append, List.nil_append, cxOf]))

/-- numbers from 1 to last that are not taken, rising: all of them -/
def NewP (T : List Int) (last : Int) (ms : List Int) : Prop := ms.Pairwise (· < ·) ∧ (∀ m ∈ ms, 1 ≤ m ∧ m ≤ last ∧ m ∉ T) ∧ ∀ k, 1 ≤ k → k ≤ last → k ∈ T ∨ k ∈ ms
theorem NewP.snoc {T : List Int} {last m : Int} {ms : List Int} (h : NewP T last ms) (h1 : last < m) (h0 : 0 ≤ last) (h2 : m ∉ T) (h3 : ∀ k, last < k → k < m → k ∈ T) : NewP T m (ms ++ [m]) := by
  obtain ⟨a, b, c⟩ := h
  refine ⟨List.pairwise_append.mpr ⟨a, List.pairwise_singleton _ _, fun x hx y hy => ?_⟩, fun x hx => ?_, fun k k1 k2 => ?_⟩
  · rw [List.mem_singleton.mp hy]
    have := b x hx
    omega
  · rcases List.mem_append.mp hx with q | q
    · have := b x q
      exact ⟨this.1, by omega, this.2.2⟩
    · rw [List.mem_singleton.mp q]
      exact ⟨by omega, Int.le_refl _, h2⟩
  · by_cases e : k ≤ last
    · exact (c k k1 e).imp id fun z => List.mem_append_left _ z
    · by_cases e2 : k = m
      · exact .inr (by rw [e2]; exact List.mem_append_right _ List.mem_cons_self)
      · exact .inl (h3 k (by omega) (by omega))
def namesKv (vs ms : List Int) : List (L2.Key × V) := (vs.zip ms).map fun x => (Sum.inl x.1, V.int x.2)
theorem namesKv_none {vs ms : List Int} {v : Int} (h : v ∉ vs) : valV (namesKv vs ms) (Sum.inl v) = none := by
  unfold valV namesKv
  rw [Option.map_eq_none_iff, List.find?_eq_none]
  intro x hx
  obtain ⟨y, hy, rfl⟩ := List.mem_map.mp hx
  have hm := (List.of_mem_zip hy).1
  simp only [decide_eq_true_eq]
  intro e
  exact h (Sum.inl.inj e ▸ hm)
def spNewNames : Sp := fun vs H Q _ => ∃ (fa sb fs fh ss sh : Addr) (fr sr : V) (S Hd Hs : List Int), vs = [.ref fa, .ref sb] ∧ H fa = some (.tup [.ref fs, .ref fh, fr]) ∧ H fs = some (.tup (S.map V.int)) ∧ H fh = some (.tup (Hd.map V.int)) ∧ H sb = some (.tup [.ref ss, .ref sh, sr]) ∧ H sh = some (.tup (Hs.map V.int)) ∧ S.length + Hd.length ≤ 400 ∧ Hs.length ≤ 400 ∧ Hs.Nodup ∧ (∀ k, k ∈ S ∨ k ∈ Hd → k ≤ 999) ∧
  ∀ g H' ms last, Kept H H' → H' g = some (.dK (namesKv Hs ms)) → ms.length = Hs.length → NewP (S ++ Hd) last ms → Q (.ref g) H'
section
variable {P : Program} {w : World} {K : PySem.W.Frag} {mg : Str → Option Value} {base : Heap} {uG : Value} {f : Addr} {fd : FuncData}
theorem ok_new_names (F : Fun K "new_names" "new_names" s_new_names f fd) (T : Tx K mg) : FnOk P w K mg base CX0 1 f fd ["first", "second"] spNewNames := by
  refine F.ok sc_new_names (fun vs H Q E h => ?_) (fun cdv A outer s H vs Q E hr h => ?_)
  · obtain ⟨fa, sb, fs, fh, ss, sh, fr, sr, S, Hd, Hs, rfl, _⟩ := h
    rfl
  · obtain ⟨fa, sb, fs, fh, ss, sh, fr, sr, S, Hd, Hs, rfl, hfa, hfs, hfh, hsb, hsh, hz1, hz2, hnd, hle, k⟩ := h
    have hsl : 1001 ≤ sizeLine := by decide
    refine ⟨_, (pss_cons (ps_setDc (i := 2) (own := [("variable", 3)]) (g := gName 3) rfl rfl (sw_trueD rfl rfl rfl (by decide +kernel)) (by rfl) sc_new_names.nd (pi_tupK (K := K) rfl (pe_op op_catA (pe_ix (ix_tupK (K := K) rfl) (pv 0) pe_int (fun _ _ => rfl)) (pe_ix (ix_tupK (K := K) rfl) (pv 0) pe_int (fun _ _ => rfl)))) (blkOk_by (own := [("variable", 3)]) (N := n_new_names) (sc := defScope s_new_names) (by decide +kernel)) (fun _ _ _ _ _ => pg_name (i := 3) sc_new_names.nd rfl (Or.inl rfl)) (fun _ _ _ _ _ => pts_nil) (fun _ _ _ _ _ => (pv 3)) (fun _ _ _ _ _ => pe_bl))
    (pss_cons (ps_set (i := 4) sc_new_names.nd rfl (.inl rfl) pe_dnewK)
    (pss_cons (ps_set (i := 5) sc_new_names.nd rfl (.inl rfl) pe_int)
    (pss_cons (ps_for PassesOwn.never rfl (pi_tupK (K := K) rfl (pe_ix (ix_tupK (K := K) rfl) (pv 1) pe_int (fun _ _ => rfl))) (pg_name (i := 3) sc_new_names.nd rfl (.inl rfl))
      (pss_cons (ps_aug (i := 5) sc_new_names.nd rfl (.inl rfl) pe_int ip_add)
    (pss_cons (ps_while PassesOwn.never (pt_cmp (pc_din hr.u1 (pv 5) (pv 2)) (by rfl))
      (pss_one (ps_aug (i := 5) sc_new_names.nd rfl (.inl rfl) pe_int ip_add)))
    (pss_one (ps_asg (pv 5) (pg_sub (pv 4) (pv 3) (set_dict hr.u1)))))))
    (pss_one (ps_ret (pv 4))))))), ?_⟩
    rw [show start n_new_names [(.ref fa : V), (.ref sb : V)] = ([some (.ref fa), some (.ref sb), none, none, none, none] : List (Option V)) from rfl]
    walk_at "rd"
    refine w_catA hfs hfh (by omega) fun p H1 k1 hp => ?_
    refine DcT.ints (by show 3 < 6; decide) hp (by rw [List.length_append]; omega) fun D H2 kvs hD k2 h2 hov => ?_
    have k02 := k1.trans k2
    walk_at "rd"
    refine fun g hg => ?_
    have kg := Kept.new (o := .dK []) hg
    have eg : (upd H2 g (.dK [])) g = some (.dK (namesKv (Hs.take 0) [])) := by rw [List.take_zero]; exact upd_same
    have h3 : (upd H2 g (.dK [])) D = some (.dK kvs) := kg.keep D _ (fun ps z => by cases z) h2
    have ne : D ≠ g := ne_of_none h2 hg
    have hgH : H g = none := k02.free _ hg
    generalize upd H2 g (.dK []) = H3 at kg eg h3
    have k03 := k02.trans kg
    walk_at "rd"
    refine w_ixT (k03.tup hsb) (v := .ref sh) (atI_nat (j := 1) rfl) ?_
    have hDall : ∀ {H' : Hp}, H' D = some (.dK kvs) → ∀ n, DGet H' D (.int n) (valV kvs (.inl n)) := fun h n => DGet.k (k := Sum.inl n) h
    refine FrT.mk (xs := Hs.map V.int) (fun i σ' H' => ∃ (v3 : Option V) (last : Int) (ms : List Int), σ' = [some (.ref fa), some (.ref sb), some (.ref D), v3, some (.ref g), some (.int last)] ∧ Kept H H' ∧ H' D = some (.dK kvs) ∧ H' g = some (.dK (namesKv (Hs.take i) ms)) ∧ ms.length = i ∧ 0 ≤ last ∧ NewP (S ++ Hd) last ms)
      ⟨none, 0, [], rfl, k03, h3, eg, rfl, Int.le_refl _, List.Pairwise.nil, fun m hm => (by cases hm), fun k h1 h2 => by omega⟩ (fun i σ' H' _ h => by
        obtain ⟨_, _, _, _, kk, _⟩ := h
        exact SqT.of (kk.tup hsh)) ?_ ?_
    · rintro i x σ' H' hx ⟨v3, last, ms, rfl, kk, hDs, hgs, hml, hl0, hnp⟩
      obtain ⟨n, rfl, hn⟩ := map_int hx
      have hi : i < Hs.length := (List.getElem?_eq_some_iff.mp hn).1
      walk_at "rd"
      refine ⟨_, rfl, last, 1, rfl, rfl, ?_⟩
      walk_at "rd"
      refine ⟨fun m σ' H'' => ∃ b : Int, σ' = [some (.ref fa), some (.ref sb), some (.ref D), some (.int n), some (.ref g), some (.int b)] ∧ H'' = H' ∧ last < b ∧ m = (1000 - b).toNat ∧ ∀ k, last < k → k < b → k ∈ S ++ Hd, ⟨_, last + 1, rfl, rfl, by omega, rfl, fun k h1 h2 => by omega⟩, ?_⟩
      rintro m σ' H'' ⟨b, rfl, rfl, hb, rfl, hall⟩
      walk_at "rd"
      refine ⟨D, _, rfl, hDall hDs b, ?_⟩
      rw [hov.has b]
      by_cases hm : b ∈ S ++ Hd
      · rw [decide_eq_true hm]
        refine ⟨_, rfl, if_t rfl ?_⟩
        refine ⟨_, fun σ' H' h => h, ?_⟩
        have hb9 := hle b (List.mem_append.mp hm)
        walk_at "rd"
        refine ⟨_, rfl, b, 1, rfl, rfl, ?_⟩
        exact ⟨(1000 - (b + 1)).toNat, by omega, b + 1, rfl, rfl, by omega, rfl, fun k h1 h2 => by
          by_cases e : k = b
          · rw [e]; exact hm
          · exact hall k h1 (by omega)⟩
      · rw [decide_eq_false hm]
        refine ⟨_, rfl, if_f rfl ?_⟩
        walk_at "rd"
        have hni : n ∉ Hs.take i := fun z => by
          obtain ⟨j, hj, e⟩ := List.getElem_of_mem z
          rw [List.length_take] at hj
          rw [List.getElem_take] at e
          have e2 : Hs[i] = n := (List.getElem?_eq_some_iff.mp hn).2
          have := (List.getElem_inj hnd).mp (e.trans e2.symm)
          omega
        have htl : (Hs.take i).length = ms.length := by rw [List.length_take, hml]; omega
        have hkl : (namesKv (Hs.take i) ms).length < sizeLine := by
          unfold namesKv
          rw [List.length_map, List.length_zip, hml]
          omega
        refine ⟨g, _, rfl, DPut.k (k := Sum.inl n) hgs hkl, ?_⟩
        have en : Hs.take (i + 1) = Hs.take i ++ [n] := by rw [List.take_add_one, hn] <;> rfl
        refine ⟨_, b, ms ++ [b], rfl, Kept.mut kk hgH, by rw [upd_ne ne]; exact hDs, ?_, by rw [List.length_append, hml] <;> rfl, by omega, hnp.snoc hb hl0 hm hall⟩
        rw [upd_same, putK_new _ (namesKv_none hni), en]
        unfold namesKv
        rw [List.zip_append htl, List.map_append] <;> rfl
    · rintro σ' H' ⟨v3, last, ms, rfl, kk, hDs, hgs, hml, hl0, hnp⟩
      rw [List.length_map] at hml
      rw [List.length_map, List.take_length] at hgs
      walk_at "rd"
      exact k g H' ms last kk hgs hml hnp
end
end Ky

namespace Ky
open PySem PySem.Spec PyProof.Rows L2
local macro_rules | `(tactic| walk_at "rd") => `(tactic| repeat (first
  | with_reducible refine w_seq ?_
  | with_reducible refine w_asg ?_
  | with_reducible refine w_ret ?_
  | with_reducible refine w_drop ?_
  | with_reducible refine w_ifs ?_
  | ((with_reducible refine' w_var ?hh ?_); (case hh => exact rfl))
  | with_reducible refine w_c ?_
  | with_reducible refine w_op ?_
  | with_reducible refine w_un ?_
  | with_reducible refine w_I0 ?_
  | with_reducible refine w_U ?_
  | with_reducible refine w_nil ?_
  | with_reducible refine w_cons ?_
  | with_reducible refine w_call ?_
  | with_reducible refine w_cb ?_
  | with_reducible refine w_test ?_
  | with_reducible refine w_B ?_
  | with_reducible refine w_bl ?_
  | with_reducible refine w_and ?_
  | with_reducible refine w_or ?_
  | with_reducible refine w_not ?_
  | with_reducible refine w_ife ?_
  | with_reducible refine w_gRd ?_
  | with_reducible refine w_andV ?_
  | with_reducible refine w_orV ?_
  | with_reducible refine w_notV ?_
  | with_reducible refine w_chain ?_
  | with_reducible refine w_din ?_
  | with_reducible refine w_isi_ii ?_
  | with_reducible refine w_isi_ib ?_
  | with_reducible refine w_isi_it ?_
  | with_reducible refine w_isi_st ?_
  | ((with_reducible refine w_isi_tt ?h1 ?_); (case h1 => first | assumption | exact upd_same))
  | with_reducible refine if_t rfl ?_
  | with_reducible refine if_f rfl ?_
  | with_reducible refine w_tup ?_
  | with_reducible refine w_lst ?_
  | with_reducible refine w_next ?_
  | with_reducible refine w_bm ?_
  | with_reducible refine w_sl ?_
  | with_reducible refine w_part ?_
  | with_reducible refine w_nop ?_
  | with_reducible refine w_isI ?_
  | with_reducible refine w_yes ?_
  | with_reducible refine w_gn ?_
  | with_reducible refine w_gsub ?_
  | ((with_reducible refine' w_setL ?h1 ?h2 ?_); (case h1 => first | assumption | exact upd_same); (case h2 => exact rfl))
  | with_reducible refine w_asgG ?_
  | with_reducible refine w_m1 ?_
  | with_reducible refine w_isS ?_
  | with_reducible refine w_tyS ?_
  | ((with_reducible refine' w_tyL ?h1 ?_); (case h1 => first | assumption | exact upd_same))
  | ((with_reducible refine' w_ixT ?h1 ?h2 ?_); (case h1 => first | assumption | exact upd_same); (case h2 => exact rfl))
  | ((with_reducible refine' w_ixL ?h1 ?h2 ?_); (case h1 => first | assumption | exact upd_same); (case h2 => exact rfl))
  | ((with_reducible refine w_eq ?h1 ?_); (case h1 => exact rfl))
  | ((with_reducible refine w_ne ?h1 ?_); (case h1 => exact rfl))
  | dsimp only [List.set_cons_zero, List.set_cons_succ, List.append_nil, List.cons_append, List.nil_append, cxOf]))

section
variable {P : Program} {w : World} {K : PySem.W.Frag} {mg : Str → Option Value} {base : Heap} {uG : Value} {f : Addr} {fd : FuncData}
theorem ok_l_draw (F : Fun K "_law_draw" "_law_draw" s_l_draw f fd) (T : Tx K mg) : FnOk P w K mg base CX0 1 f fd ["script"] (spDrawC K) := by
  refine F.ok sc_l_draw (fun vs H Q E h => ?_) (fun cdv A outer s H vs Q E hr h => ?_)
  · obtain ⟨a, ns, rfl, _⟩ := h
    rfl
  · obtain ⟨a, ns, rfl, hS, hlen, k⟩ := h
    refine ⟨_, (pss_cons (ps_set (i := 1) sc_l_draw.nd rfl (.inl rfl) pe_int)
    (pss_cons (ps_for PassesOwn.never rfl (pi_listK (K := K) rfl (pv 0)) (pg_name (i := 2) sc_l_draw.nd rfl (.inl rfl))
      (pss_one (ps_set (i := 1) sc_l_draw.nd rfl (.inl rfl) (pe_op op_mod (pe_callTy call_int1 (by rfl) T.z_int (by decide +kernel) (pa_cons (pe_op op_add (pe_op op_add (pe_op op_mul (pv 1) pe_int) (pe_op op_mod (pe_callB call_abs (by rfl) T.z_abs (by decide +kernel) (pa_cons (pe_callTy call_int1 (by rfl) T.z_int (by decide +kernel) (pa_cons (pv 2) pa_nil)) pa_nil)) pe_int)) pe_int) pa_nil)) pe_int))))
    (pss_one (ps_ret (pe_lst (pa_cons (pe_lc (own := [("cell", 2)]) (g := gName 2) (by rfl) sc_l_draw.nd (pi_listK (K := K) rfl (pv 0)) (blkOk_by (own := [("cell", 2)]) (N := n_l_draw) (sc := defScope s_l_draw) (by decide +kernel)) (fun _ _ _ _ _ => pg_name (i := 2) sc_l_draw.nd rfl (Or.inl rfl)) (fun _ _ _ _ _ => pts_nil) (fun _ _ _ _ _ => (pe_callB call_abs (by rfl) T.z_abs (by decide +kernel) (pa_cons (pe_callTy call_int1 (by rfl) T.z_int (by decide +kernel) (pa_cons (pv 2) pa_nil)) pa_nil)))) (pa_cons (pe_un un_neg pe_int) (pa_cons pe_int (pa_cons (pv 1) pa_nil))))))))), ?_⟩
    rw [show start n_l_draw [(.ref a : V)] = ([some (.ref a), none, none] : List (Option V)) from rfl]
    walk_at "rd"
    refine ⟨_, rfl, a, rfl, ⟨_, hS⟩, for_list (K := K) (a := a) (xs := ns.map V.int) (fun i σ' H' => ∃ z v, σ' = [some (.ref a), some (.int z), v] ∧ H' = H) ⟨7, none, rfl, rfl⟩ (fun i σ' H' _ h => by
      obtain ⟨_, _, _, rfl⟩ := h
      exact hS) ?_ ?_⟩
    · rintro i y σ' H' hi ⟨z, v, rfl, rfl⟩
      obtain ⟨u, rfl, _⟩ := map_int hi
      walk_at "rd"
      refine w_I (.inr ⟨by decide, by decide⟩) ?_
      walk_at "rd"
      refine .inl ⟨_, rfl, ?_⟩
      walk_at "rd"
      refine ⟨_, rfl, ?_⟩
      walk_at "rd"
      refine w_I (by show (0 : Int) < 65521; decide) ?_
      walk_at "rd"
      refine .inl ⟨_, rfl, ?_⟩
      walk_at "rd"
      refine w_I (by show (0 : Int) < 2147483647; decide) ?_
      exact ⟨_, _, rfl, rfl⟩
    · rintro σ' H' ⟨z, v, rfl, rfl⟩
      walk_at "rd"
      refine ⟨_, rfl, a, rfl, ⟨_, hS⟩, fun D hD => lc_list (K := K) (xs := ns.map V.int) (fun i H1 => ∃ acc : List Int, H1 D = some (.lst (acc.map V.int)) ∧ acc.length = i ∧ Kept H' H1) ⟨[], upd_same, rfl, Kept.new hD⟩ (fun i H1 _ h => by
        obtain ⟨_, _, _, k1⟩ := h
        exact k1.sq hS) ?_ ?_⟩
      · rintro i y H1 hi ⟨acc, h1, h2, k1⟩
        obtain ⟨u, rfl, hu⟩ := map_int hi
        have hi2 : i < ns.length := (List.getElem?_eq_some_iff.mp hu).1
        refine ⟨rfl, w_yes (if_t rfl ?_)⟩
        walk_at "rd"
        refine .inl ⟨_, rfl, ?_⟩
        walk_at "rd"
        refine ⟨_, rfl, ?_⟩
        refine ⟨acc.map V.int, h1, ?_, acc ++ [if u < 0 then -u else u], ?_, ?_, Kept.mut k1 hD⟩
        · rw [List.length_map]
          exact small1000 (by omega)
        · rw [List.map_append]
          exact upd_same
        · rw [List.length_append, h2]
          rfl
      · rintro H1 ⟨acc, h1, h2, k1⟩
        walk_at "rd"
        refine ⟨by show 4 ≤ sizeLine; decide, fun d hd => ?_⟩
        refine k d D _ (k1.free _ hd) (k1.trans (Kept.new hd)) ⟨acc, -1, 0, z, ne_of_none h1 hd, upd_same, ?_, by decide⟩
        rw [upd_ne (ne_of_none h1 hd)]
        exact h1
theorem ok_l_take (F : Fun K "_law_take" "_law_take" s_l_take f fd) (T : Tx K mg) : FnOk P w K mg base CX0 1 f fd ["draw", "many"] spTakeC := by
  refine F.ok sc_l_take (fun vs H Q E h => ?_) (fun cdv A outer s H vs Q E hr h => ?_)
  · obtain ⟨d, c, m, rfl, _⟩ := h
    rfl
  · obtain ⟨d, c, m, rfl, m0, m1, hD, k⟩ := h
    have hD0 := hD
    obtain ⟨ns, a, u, z, ne, hd, hc, ha⟩ := hD
    have st0 : TakeSt H c d H := ⟨fun _ _ => rfl, a, u, z, hd, ha⟩
    refine ⟨_, (Evl.pss_cut (ps_if (pt_cmpR op_eq (pe_ix (ix_listK (K := K) rfl) (pv 0) pe_int (fun _ _ => rfl)) pe_int (nomark _))
      (pss_cons (ps_asg (pe_op op_add (pe_ix (ix_listK (K := K) rfl) (pv 0) pe_int (fun _ _ => rfl)) pe_int) (pg_sub (pv 0) pe_int set_list))
    (Evl.pss_cut (ps_if (pt_cmpR op_lt (pe_ix (ix_listK (K := K) rfl) (pv 0) pe_int (fun _ _ => rfl)) (pe_callB call_len_seq (by rfl) T.z_len (by decide +kernel) (pa_cons (pe_ix (ix_listK (K := K) rfl) (pv 0) pe_int (fun _ _ => rfl)) pa_nil)) (nomark _))
      (pss_one (ps_asg (pe_ix (ix_listK (K := K) rfl) (pe_ix (ix_listK (K := K) rfl) (pv 0) pe_int (fun _ _ => rfl)) (pe_ix (ix_listK (K := K) rfl) (pv 0) pe_int (fun _ _ => rfl)) (fun _ _ => rfl)) (pg_sub (pv 0) pe_int set_list)))
      pss_nil)
    (pss_one (ps_if (pt_cmpR op_eq (pe_ix (ix_listK (K := K) rfl) (pv 0) pe_int (fun _ _ => rfl)) pe_int (nomark _))
      (pss_cons (ps_asg (pe_op op_mod (pe_callTy call_int1 (by rfl) T.z_int (by decide +kernel) (pa_cons (pe_op op_add (pe_op op_mul (pe_ix (ix_listK (K := K) rfl) (pv 0) pe_int (fun _ _ => rfl)) pe_int) pe_int) pa_nil)) pe_int) (pg_sub (pv 0) pe_int set_list))
    (pss_one (ps_asg (pe_ix (ix_listK (K := K) rfl) (pv 0) pe_int (fun _ _ => rfl)) (pg_sub (pv 0) pe_int set_list))))
      pss_nil))))
      pss_nil)
    (pss_cons (ps_set (i := 2) sc_l_take.nd rfl (.inl rfl) (pe_op op_mod (pe_callTy call_int1 (by rfl) T.z_int (by decide +kernel) (pa_cons (pe_ix (ix_listK (K := K) rfl) (pv 0) pe_int (fun _ _ => rfl)) pa_nil)) (pv 1)))
    (pss_cons (ps_asg (pe_op op_fdivW (pe_ix (ix_listK (K := K) rfl) (pv 0) pe_int (fun _ _ => rfl)) (pv 1)) (pg_sub (pv 0) pe_int set_list))
    (pss_one (ps_ret (pv 2)))))), ?_⟩
    rw [show start n_l_take [(.ref d : V), (.int m : V)] = ([some (.ref d), some (.int m), none] : List (Option V)) from rfl]
    refine ⟨fun σ' H' => σ' = [some (.ref d), some (.int m), none] ∧ TakeSt H c d H', ?_, ?_⟩
    · walk_at "rd"
      refine ite2 (fun _ => ?_) (fun _ => ?_)
      · walk_at "rd"
        refine ⟨fun σ' H' => σ' = [some (.ref d), some (.int m), none] ∧ TakeSt H c d H', ?_, ?_⟩
        · have st1 : TakeSt H c d (upd H d (.lst [.ref c, .int (a + 1), .int u, .int z])) := st0.upd (by omega)
          have hc1 : (upd H d (.lst [.ref c, .int (a + 1), .int u, .int z])) c = some (.lst (ns.map V.int)) := by rw [st1.1 c ne]; exact hc
          walk_at "rd"
          refine ⟨c, ns.map V.int, rfl, .inl (SqL.of hc1), ?_⟩
          walk_at "rd"
          refine ite2 (fun e => ?_) (fun _ => ⟨rfl, st1⟩)
          have e' : a + 1 < (ns.length : Int) := by
            have := of_decide_eq_true e
            rw [List.length_map] at this
            exact this
          obtain ⟨v, _, hv⟩ := pick_int (ns := ns) (r := a + 1) (by omega) e'
          walk_at "rd"
          refine w_ixL hc1 hv ?_
          walk_at "rd"
          exact ⟨rfl, st1.upd (by omega)⟩
        · rintro σ' H' ⟨rfl, st1⟩
          have st2 := st1
          obtain ⟨_, a1, u1, z1, hd1, ha1⟩ := st2
          walk_at "rd"
          refine ite2 (fun _ => ?_) (fun _ => ⟨rfl, st1⟩)
          walk_at "rd"
          refine w_I (.inr ⟨by decide, by decide⟩) ?_
          walk_at "rd"
          refine .inl ⟨_, rfl, ?_⟩
          walk_at "rd"
          refine w_I (by show (0 : Int) < 2147483647; decide) ?_
          walk_at "rd"
          exact ⟨rfl, (st1.upd ha1).upd ha1⟩
      · exact ⟨rfl, st0⟩
    · rintro σ' H' ⟨rfl, st1⟩
      have st2 := st1
      obtain ⟨_, a1, u1, z1, hd1, ha1⟩ := st2
      walk_at "rd"
      refine .inl ⟨_, rfl, ?_⟩
      walk_at "rd"
      refine w_I m0 ?_
      walk_at "rd"
      refine w_I (wide_div (b := 62) m0 (by omega) (by decide) (by decide)) ?_
      walk_at "rd"
      exact k _ _ (Int.emod_nonneg _ (by omega)) (Int.emod_lt_of_pos _ m0) ((st1.upd ha1).keptC hd hc ne)
theorem ok_l_key (F : Fun K "_law_key" "_law_key" s_l_key f fd) (T : Tx K mg) : FnOk P w K mg base CX0 1 f fd ["literal"] spKey := by
  refine F.ok sc_l_key (fun vs H Q E h => ?_) (fun cdv A outer s H vs Q E hr h => ?_)
  · obtain ⟨n, rfl, _⟩ := h
    rfl
  · obtain ⟨n, rfl, k⟩ := h
    refine ⟨_, (pss_one (ps_ret (pe_tup (pa_cons (pe_callB call_abs (by rfl) T.z_abs (by decide +kernel) (pa_cons (pv 0) pa_nil)) (pa_cons (pe_callTy call_int1 (by rfl) T.z_int (by decide +kernel) (pa_cons (pe_cmpR op_gt (pv 0) pe_int (nomark _)) pa_nil)) pa_nil))))), ?_⟩
    rw [show start n_l_key [(.int n : V)] = ([some (.int n)] : List (Option V)) from rfl]
    walk_at "rd"
    refine ⟨n, rfl, ?_⟩
    walk_at "rd"
    refine .inr ⟨_, rfl, ?_⟩
    walk_at "rd"
    refine ⟨by show 2 ≤ sizeLine; decide, fun p hp => ?_⟩
    have q := k p hp
    have e : (if decide (n > 0) = true then (1 : Int) else 0) = sgI n := by
      unfold sgI
      by_cases h : n > 0
      · rw [decide_eq_true h, if_pos rfl, if_pos h]
      · rw [decide_eq_false h, if_neg Bool.false_ne_true, if_neg h]
    unfold keyV absI at q
    rw [← e] at q
    exact q
theorem ok_l_clause_key (F : Fun K "_law_clause_key" "_law_clause_key" s_l_clause_key f fd) (T : Tx K mg) (D_l_key : Df P w K mg base 1 "_law_key" ["literal"] spKey) : FnOk P w K mg base CX0 2 f fd ["clause"] spCKey := by
  refine F.ok sc_l_clause_key (fun vs H Q E h => ?_) (fun cdv A outer s H vs Q E hr h => ?_)
  · obtain ⟨a, ls, rfl, _⟩ := h
    rfl
  · obtain ⟨a, ls, rfl, ha, hz, k⟩ := h
    refine ⟨_, (pss_one (ps_ret (pe_callTy call_tuple_of (by rfl) T.z_tuple (by decide +kernel) (pa_cons (pe_lc (own := [("literal", 1)]) (g := gName 1) (by rfl) sc_l_clause_key.nd (pi_tupK (K := K) rfl (pv 0)) (blkOk_by (own := [("literal", 1)]) (N := n_l_clause_key) (sc := defScope s_l_clause_key) (by decide +kernel)) (fun _ _ _ _ _ => pg_name (i := 1) sc_l_clause_key.nd rfl (Or.inl rfl)) (fun _ _ _ _ _ => pts_nil) (fun _ _ _ _ _ => (pe_df D_l_key (hr.mono (by decide)) (by rfl) (pa_cons (pv 1) pa_nil)))) pa_nil)))), ?_⟩
    rw [show start n_l_clause_key [(.ref a : V)] = ([some (.ref a), none] : List (Option V)) from rfl]
    walk_at "rd"
    refine ⟨_, rfl, a, rfl, ⟨_, SqT.of ha⟩, fun D hD => lc_tup (K := K) (xs := ls.map V.int) (fun i H1 => ∃ ps : List Addr, H1 D = some (.lst (ps.map V.ref)) ∧ ps.length = i ∧ Kept H H1 ∧ ∀ (j : Nat) (q : Addr) (n : Int), ps[j]? = some q → ls[j]? = some n → H1 q = some (.tup (keyV n))) ⟨[], upd_same, rfl, Kept.new hD, fun j q n h => by simp at h⟩ (fun i H1 _ h => by
      obtain ⟨_, _, _, k1, _⟩ := h
      exact SqT.of (k1.tup ha)) ?_ ?_⟩
    · rintro i y H1 hi ⟨ps, h1, h2, k1, h3⟩
      obtain ⟨u, rfl, hu⟩ := map_int hi
      refine ⟨rfl, ?_⟩
      walk_at "rd"
      refine ⟨u, rfl, fun p hp => ?_⟩
      have hi2 : i < ls.length := (List.getElem?_eq_some_iff.mp hu).1
      have nD : D ≠ p := ne_of_none h1 hp
      refine ⟨ps.map V.ref, by rw [upd_ne nD]; exact h1, by rw [List.length_map]; omega, ps ++ [p], by rw [List.map_append]; exact upd_same, by rw [List.length_append, h2]; rfl, Kept.mut (k1.trans (Kept.new hp)) hD, fun j q n hq hn => ?_⟩
      by_cases hj : j < ps.length
      · rw [List.getElem?_append_left hj] at hq
        have e := h3 j q n hq hn
        have n1 : q ≠ D := fun z => by
          rw [z, h1] at e
          cases e
        have n2 : q ≠ p := ne_of_none e hp
        rw [upd_ne n1, upd_ne n2]
        exact e
      · have hj2 : j < (ps ++ [p]).length := (List.getElem?_eq_some_iff.mp hq).1
        rw [List.length_append] at hj2
        have ej : j = ps.length := by
          have : j < ps.length + 1 := hj2
          omega
        subst ej
        have eq : q = p := by simpa using hq.symm
        subst eq
        rw [h2, hu] at hn
        cases hn
        rw [upd_ne (Ne.symm nD), upd_same]
    · rintro H1 ⟨ps, h1, h2, k1, h3⟩
      walk_at "rd"
      refine ⟨D, ps.map V.ref, rfl, .inl ⟨SqL.of h1, fun l hl => ?_⟩⟩
      refine k ps l _ (k1.trans (Kept.new hl)) (k1.free _ hl) upd_same (by rw [h2, List.length_map]) fun i q n hq hn => ?_
      have e := h3 i q n hq hn
      rw [upd_ne (ne_of_none e hl)]
      exact e
end
end Ky

namespace Ky
open PySem PySem.Spec PyProof.Rows L2
local macro_rules | `(tactic| walk_at "rd") => `(tactic| repeat (first
  | with_reducible refine w_for1 ?_
  | with_reducible refine w_for2 ?_
  | with_reducible refine w_forL ?_
  | with_reducible refine w_forT ?_
  | with_reducible refine w_lc1 ?_
  | with_reducible refine w_lcL ?_
  | with_reducible refine w_lcT ?_
  | with_reducible refine w_dcL ?_
  | with_reducible refine w_dcT ?_
  | with_reducible refine w_seq ?_
  | with_reducible refine w_asg ?_
  | with_reducible refine w_ret ?_
  | with_reducible refine w_drop ?_
  | with_reducible refine w_ifs ?_
  | ((with_reducible refine' w_var ?hh ?_); (case hh => exact rfl))
  | with_reducible refine w_c ?_
  | with_reducible refine w_op ?_
  | with_reducible refine w_un ?_
  | with_reducible refine w_I0 ?_
  | with_reducible refine w_U ?_
  | with_reducible refine w_nil ?_
  | with_reducible refine w_cons ?_
  | with_reducible refine w_call ?_
  | with_reducible refine w_cb ?_
  | with_reducible refine w_test ?_
  | with_reducible refine w_B ?_
  | with_reducible refine w_bl ?_
  | with_reducible refine w_and ?_
  | with_reducible refine w_or ?_
  | with_reducible refine w_not ?_
  | with_reducible refine w_ife ?_
  | with_reducible refine w_gRd ?_
  | with_reducible refine w_andV ?_
  | with_reducible refine w_orV ?_
  | with_reducible refine w_notV ?_
  | with_reducible refine w_chain ?_
  | with_reducible refine w_din ?_
  | with_reducible refine w_isi_ii ?_
  | with_reducible refine w_isi_bi ?_
  | with_reducible refine w_isi_bb ?_
  | with_reducible refine w_isi_bt ?_
  | with_reducible refine w_isi_si ?_
  | with_reducible refine w_isi_nt ?_
  | with_reducible refine w_isi_ib ?_
  | with_reducible refine w_isi_it ?_
  | with_reducible refine w_isi_st ?_
  | ((with_reducible refine w_isi_tt ?h1 ?_); (case h1 => first | assumption | exact upd_same))
  | with_reducible refine if_t rfl ?_
  | with_reducible refine if_f rfl ?_
  | with_reducible refine w_tup ?_
  | with_reducible refine w_lst ?_
  | with_reducible refine w_next ?_
  | with_reducible refine w_bm ?_
  | with_reducible refine w_sl ?_
  | with_reducible refine w_part ?_
  | with_reducible refine w_nop ?_
  | with_reducible refine w_isI ?_
  | with_reducible refine w_yes ?_
  | with_reducible refine w_gn ?_
  | with_reducible refine w_gsub ?_
  | ((with_reducible refine' w_setL ?h1 ?h2 ?_); (case h1 => first | assumption | exact upd_same); (case h2 => exact rfl))
  | with_reducible refine w_asgG ?_
  | with_reducible refine w_m1 ?_
  | with_reducible refine w_isS ?_
  | with_reducible refine w_tyS ?_
  | ((with_reducible refine' w_tyL ?h1 ?_); (case h1 => first | assumption | exact upd_same))
  | ((with_reducible refine' w_ixT ?h1 ?h2 ?_); (case h1 => first | assumption | exact upd_same); (case h2 => exact rfl))
  | ((with_reducible refine' w_ixL ?h1 ?h2 ?_); (case h1 => first | assumption | exact upd_same); (case h2 => exact rfl))
  | ((with_reducible refine w_eq ?h1 ?_); (case h1 => exact rfl))
  | ((with_reducible refine w_ne ?h1 ?_); (case h1 => exact rfl))
  | dsimp only [List.set_cons_zero, List.set_cons_succ, List.append_nil, List.cons_append, List.nil_append, cxOf]))

section
variable {P : Program} {w : World} {K : PySem.W.Frag} {mg : Str → Option Value} {base : Heap} {uG : Value} {f : Addr} {fd : FuncData}
theorem ok_l_once (F : Fun K "_law_once" "_law_once" s_l_once f fd) (T : Tx K mg) : FnOk P w K mg base CX0 1 f fd ["row"] (spOnce K) := by
  refine F.ok sc_l_once (fun vs H Q E h => ?_) (fun cdv A outer s H vs Q E hr h => ?_)
  · obtain ⟨α, _, e, a, L, _, rfl, _⟩ := h
    rfl
  · obtain ⟨α, _, e, a, L, hk, rfl, ha, hd, hz, k⟩ := h
    refine ⟨_, (pss_cons (ps_set (i := 1) sc_l_once.nd rfl (.inl rfl) (pe_lst pa_nil))
    (pss_cons (ps_for PassesOwn.never rfl (pi_listK (K := K) rfl (pv 0)) (pg_name (i := 2) sc_l_once.nd rfl (.inl rfl))
      (pss_one (ps_if (pt_cmpR (opK (K := K) (r := rNotInD) rfl (op_notInD hr.u65)) (pv 2) (pv 1) (by rfl))
      (pss_one (ps_expr (pe_bm PySem.F.plainAttrs_list PySem.F.slot_list_append PySem.F.type_list_append mt_append (pv 1) (pa_cons (pv 2) pa_nil))))
      pss_nil)))
    (pss_one (ps_ret (pv 1))))), ?_⟩
    rw [show start n_l_once [(.ref a : V)] = ([some (.ref a), none, none] : List (Option V)) from rfl]
    walk_at "rd"
    refine ⟨Nat.zero_le _, fun D hD => ?_⟩
    have k0 := Kept.new (o := .lst []) hD
    walk_at "rd"
    refine FrL.mk (xs := L.map (·.1)) (fun i σ' H' => ∃ v2, σ' = [some (.ref a), some (.ref D), v2] ∧ Kept H H' ∧ H' D = some (.lst ((onceP (L.take i)).map (·.1)))) ⟨none, rfl, k0, by rw [List.take_zero]; exact upd_same⟩ (fun i σ' H' _ h => by
      obtain ⟨_, _, k1, _⟩ := h
      exact SqL.of (k1.lst ha)) ?_ ?_
    · rintro i x σ' H' hx ⟨v2, rfl, k1, h1⟩
      rw [List.getElem?_map] at hx
      obtain ⟨p, hp, rfl⟩ := Option.map_eq_some_iff.mp hx
      have et : L.take (i + 1) = L.take i ++ [p] := by rw [List.take_add_one, hp]; rfl
      have hdp : ∀ q ∈ L, Dp K H' q.1 (e q.2) := fun q hq => Kept.dp k1 _ _ (hd q hq)
      have hdl : Dp K H' (.ref D) (.list (((onceP (L.take i)).map (·.2)).map e)) := by
        refine .lst (SqL.of h1) (dpAll_of (by rw [List.length_map, List.length_map, List.length_map]) fun j y d hy hd2 => ?_)
        rw [List.getElem?_map] at hy
        rw [List.getElem?_map, List.getElem?_map] at hd2
        obtain ⟨q, hq, rfl⟩ := Option.map_eq_some_iff.mp hy
        rw [hq] at hd2
        cases hd2
        exact hdp q (List.mem_of_mem_take (once_sub q (List.mem_of_getElem? hq)))
      walk_at "rd"
      refine ⟨_, _, hdp p (List.mem_of_getElem? hp), hdl, sh_key hk _, shL_keys hk _, ?_⟩
      rw [any_keys hk]
      refine ⟨_, rfl, ?_⟩
      have eo := once_snoc (L.take i) p
      by_cases hm : p.2 ∈ (onceP (L.take i)).map (·.2)
      · rw [if_pos hm] at eo
        rw [decide_eq_true hm]
        refine if_f rfl ?_
        walk_at "rd"
        exact ⟨_, rfl, k1, by rw [et, eo]; exact h1⟩
      · rw [if_neg hm] at eo
        rw [decide_eq_false hm]
        refine if_t rfl ?_
        walk_at "rd"
        refine ⟨_, _, _, rfl, rfl, h1, ?_, _, rfl, Kept.mut k1 hD, ?_⟩
        · have h8 := once_len (L.take i)
          rw [List.length_take] at h8
          have h9 : 1001 ≤ sizeLine := by decide
          rw [List.length_map]
          omega
        · rw [et, eo, List.map_append]
          exact upd_same
    · rintro σ' H' ⟨v2, rfl, k1, h1⟩
      rw [List.length_map, List.take_length] at h1
      walk_at "rd"
      exact k D H' k1 hD h1
end
end Ky

namespace Ky
open PySem PySem.Spec PyProof.Rows L2
local macro_rules | `(tactic| walk_at "rd") => `(tactic| repeat (first
  | with_reducible refine w_for1 ?_
  | with_reducible refine w_for2 ?_
  | with_reducible refine w_forL ?_
  | with_reducible refine w_forT ?_
  | with_reducible refine w_lc1 ?_
  | with_reducible refine w_lcL ?_
  | with_reducible refine w_lcT ?_
  | with_reducible refine w_dcL ?_
  | with_reducible refine w_dcT ?_
  | with_reducible refine w_seq ?_
  | with_reducible refine w_asg ?_
  | with_reducible refine w_ret ?_
  | with_reducible refine w_drop ?_
  | with_reducible refine w_ifs ?_
  | ((with_reducible refine' w_var ?hh ?_); (case hh => exact rfl))
  | with_reducible refine w_c ?_
  | with_reducible refine w_op ?_
  | with_reducible refine w_un ?_
  | with_reducible refine w_I0 ?_
  | with_reducible refine w_U ?_
  | with_reducible refine w_nil ?_
  | with_reducible refine w_cons ?_
  | with_reducible refine w_call ?_
  | with_reducible refine w_cb ?_
  | with_reducible refine w_test ?_
  | with_reducible refine w_B ?_
  | with_reducible refine w_bl ?_
  | with_reducible refine w_and ?_
  | with_reducible refine w_or ?_
  | with_reducible refine w_not ?_
  | with_reducible refine w_ife ?_
  | with_reducible refine w_gRd ?_
  | with_reducible refine w_andV ?_
  | with_reducible refine w_orV ?_
  | with_reducible refine w_notV ?_
  | with_reducible refine w_chain ?_
  | with_reducible refine w_din ?_
  | with_reducible refine w_isi_ii ?_
  | with_reducible refine w_isi_bi ?_
  | with_reducible refine w_isi_bb ?_
  | with_reducible refine w_isi_bt ?_
  | with_reducible refine w_isi_si ?_
  | with_reducible refine w_isi_nt ?_
  | with_reducible refine w_isi_ib ?_
  | with_reducible refine w_isi_it ?_
  | with_reducible refine w_isi_st ?_
  | ((with_reducible refine w_isi_tt ?h1 ?_); (case h1 => first | assumption | exact upd_same))
  | with_reducible refine if_t rfl ?_
  | with_reducible refine if_f rfl ?_
  | with_reducible refine w_tup ?_
  | with_reducible refine w_lst ?_
  | with_reducible refine w_next ?_
  | with_reducible refine w_bm ?_
  | with_reducible refine w_sl ?_
  | with_reducible refine w_part ?_
  | with_reducible refine w_nop ?_
  | with_reducible refine w_isI ?_
  | with_reducible refine w_yes ?_
  | with_reducible refine w_gn ?_
  | with_reducible refine w_gsub ?_
  | ((with_reducible refine' w_setL ?h1 ?h2 ?_); (case h1 => first | assumption | exact upd_same); (case h2 => exact rfl))
  | with_reducible refine w_asgG ?_
  | with_reducible refine w_m1 ?_
  | with_reducible refine w_isS ?_
  | with_reducible refine w_tyS ?_
  | ((with_reducible refine' w_tyL ?h1 ?_); (case h1 => first | assumption | exact upd_same))
  | ((with_reducible refine' w_ixT ?h1 ?h2 ?_); (case h1 => first | assumption | exact upd_same); (case h2 => exact rfl))
  | ((with_reducible refine' w_ixL ?h1 ?h2 ?_); (case h1 => first | assumption | exact upd_same); (case h2 => exact rfl))
  | ((with_reducible refine w_eq ?h1 ?_); (case h1 => exact rfl))
  | ((with_reducible refine w_ne ?h1 ?_); (case h1 => exact rfl))
  | dsimp only [List.set_cons_zero, List.set_cons_succ, List.append_nil, List.cons_append, List.nil_append, cxOf]))

def bothL (ls : List Int) : Bool := ls.any fun n => decide (-n ∈ ls)
theorem noBoth_of {ls : List Int} (h : bothL ls = false) : noBoth ls := fun l h1 h2 => by
  have : bothL ls = true := List.any_eq_true.mpr ⟨l, h1, decide_eq_true h2⟩
  rw [h] at this
  cases this
def spLClause2 : Sp := fun vs H Q _ => ∃ (a : Addr) (ls : List Int), vs = [.ref a] ∧ H a = some (.lst (ls.map V.int)) ∧ ls.length ≤ 1000 ∧ (bothL ls = true → ∀ H', Kept H H' → Q .non H') ∧
  (bothL ls = false → ∀ p H', Kept H H' → H p = none → H' p = some (.tup ((clauseF ls).map V.int)) → Q (.ref p) H')
def spLResidue : Sp := fun vs H Q _ => ∃ (a : Addr) (bs : List Addr) (cs : List (List Int)), vs = [.ref a] ∧ H a = some (.lst (bs.map V.ref)) ∧ ClsAt H bs cs ∧ cs.length ≤ 1000 ∧ (∀ c ∈ cs, c.length ≤ 1000) ∧
  ∀ p H' bs', Kept H H' → H p = none → H' p = some (.tup (bs'.map V.ref)) → ClsAt H' bs' (residueF cs) → Q (.ref p) H'
theorem w_inLn {K : PySem.W.Frag} {H : Hp} {Q : VK} {b : Addr} {n : Int} {ls : List Int} (h : H b = some (.lst (ls.map V.int))) (q : Q (.bl (decide (n ∈ ls))) H) : rIn K false (.int n) (.ref b) H Q := ⟨b, _, rfl, .inl (SqL.of h), rfl, flat_ints ls, by rw [inV_ints, if_neg Bool.false_ne_true]; exact q⟩
theorem dpL_ints {K : PySem.W.Frag} {H : Hp} {b : Addr} {ls : List Int} (h : H b = some (.lst (ls.map V.int))) : Dp K H (.ref b) (.list (ls.map PyData.int)) := .lst (SqL.of h) (dpAll_ints ls)
theorem eqvL_ints (xs ys : List Int) : PyData.eqv (.list (xs.map PyData.int)) (.list (ys.map PyData.int)) = decide (xs = ys) := by
  simp only [PyData.eqv]
  exact eqvAll_ints xs ys
theorem shL_ints (ls : List Int) : SeqAt.shaped (.list (ls.map PyData.int)) = true := shLi ls
/-- != of two lists of numbers -/
theorem w_neLI {K : PySem.W.Frag} {H : Hp} {Q : VK} {a b : Addr} {xs ys : List Int} (h1 : H a = some (.lst (xs.map V.int))) (h2 : H b = some (.lst (ys.map V.int))) (q : Q (.bl (!decide (xs = ys))) H) : rNeD K (.ref a) (.ref b) H Q :=
  ⟨_, _, dpL_ints h1, dpL_ints h2, shL_ints _, shL_ints _, by rw [eqvL_ints]; exact q⟩
section
variable {P : Program} {w : World} {K : PySem.W.Frag} {mg : Str → Option Value} {base : Heap} {uG : Value} {f : Addr} {fd : FuncData}
theorem ok_l_clause (F : Fun K "_law_clause" "_law_clause" s_l_clause f fd) (T : Tx K mg) (D_l_key : Df P w K mg base 1 "_law_key" ["literal"] spKey) (D_l_once : Df P w K mg base 1 "_law_once" ["row"] (spOnce K)) : FnOk P w K mg base CX0 4 f fd ["literals"] spLClause2 := by
  obtain ⟨fK, fdK, FK, mK, kK, bK⟩ := D_l_key.ex
  refine F.ok sc_l_clause (fun vs H Q E h => ?_) (fun cdv A outer s H vs Q E hr h => ?_)
  · obtain ⟨a, ls, rfl, _⟩ := h
    rfl
  · obtain ⟨a, ls, rfl, ha, hz, k1, k2⟩ := h
    have hsl : 1001 ≤ sizeLine := by decide
    refine ⟨_, (pss_cons (ps_if (pt_cmpR (opK (K := K) (r := rNeD) rfl (op_neD hr.units)) (pe_lc (own := [("literal", 1)]) (g := gName 1) (by rfl) sc_l_clause.nd (pi_listK (K := K) rfl (pv 0)) (blkOk_by (own := [("literal", 1)]) (N := n_l_clause) (sc := defScope s_l_clause) (by decide +kernel)) (fun _ _ _ _ _ => pg_name (i := 1) sc_l_clause.nd rfl (Or.inl rfl)) (fun _ _ _ _ _ => pts_one (pt_cmpR (opK (K := K) (r := fun K => rIn K false) rfl op_in_seq) (pe_un un_neg (pv 1)) (pv 0) (by rfl))) (fun _ _ _ _ _ => (pv 1))) (pe_lst pa_nil) (nomark _))
      (pss_one (ps_ret pe_non))
      pss_nil)
    (pss_one (ps_ret (pe_callTy call_tuple_of (by rfl) T.z_tuple (by decide +kernel) (pa_cons (pe_callBK (cr_sortedF (hr.mono (by decide)) FK bK) (by rfl) T.z_sorted (by decide +kernel) (pa_cons (pe_df D_l_once (hr.mono (by decide)) (by rfl) (pa_cons (pv 0) pa_nil)) pa_nil) (pk_cons (pe_glob (by rfl) mK (show RelV (.ref fK) _ from rfl)) pk_nil)) pa_nil))))), ?_⟩
    rw [show start n_l_clause [(.ref a : V)] = ([some (.ref a), none] : List (Option V)) from rfl]
    walk_at "rd"
    refine LcL.ints (fun n => decide (-n ∈ ls)) V.int (by omega) ha (fun n H4 kk kk2 hn k4 h5 h6 => ?_) fun D H1 hD kp h1 => ?_
    · walk_at "rd"
      refine w_inLn (k4.lst ha) ?_
      by_cases m : -n ∈ ls
      · rw [decide_eq_true m]
        refine ⟨_, rfl, if_t rfl ?_⟩
        walk_at "rd"
        exact h5 H4 (Kept.refl _) (decide_eq_true m)
      · rw [decide_eq_false m]
        exact ⟨_, rfl, if_f rfl (h6 H4 (Kept.refl _) (decide_eq_false m))⟩
    · walk_at "rd"
      refine ⟨Nat.zero_le _, fun Z hZ => ?_⟩
      rw [show ((ls.filter fun n => decide (-n ∈ ls)).map V.int) = ((ls.filter fun n => decide (-n ∈ ls))).map V.int from rfl] at h1
      have kz := kp.trans (Kept.new (o := .lst []) hZ)
      refine w_neLI (ys := []) ((Kept.new (o := .lst []) hZ).lst h1) upd_same ?_
      have e : (!decide ((ls.filter fun n => decide (-n ∈ ls)) = [])) = bothL ls := by
        unfold bothL
        cases hb : ls.any fun n => decide (-n ∈ ls) with
        | true =>
          obtain ⟨x, hx, hp⟩ := List.any_eq_true.mp hb
          rw [decide_eq_false (fun z => by
            have : x ∈ ls.filter fun n => decide (-n ∈ ls) := List.mem_filter.mpr ⟨hx, hp⟩
            rw [z] at this
            cases this)] <;> rfl
        | false =>
          rw [decide_eq_true (List.filter_eq_nil_iff.mpr fun x hx hp => by
            have : (ls.any fun n => decide (-n ∈ ls)) = true := List.any_eq_true.mpr ⟨x, hx, hp⟩
            rw [hb] at this
            cases this)] <;> rfl
      rw [e]
      refine ⟨_, rfl, ?_⟩
      generalize upd H1 Z (.lst []) = H2 at kz
      cases hb : bothL ls with
      | true =>
        refine if_t rfl ?_
        walk_at "rd"
        exact k1 hb H2 kz
      | false =>
        refine if_f rfl ?_
        walk_at "rd"
        refine w_ckw ?_
        walk_at "rd"
        refine once_ints (kz.lst ha) hz fun q H3 k3 hq hql => ?_
        walk_at "rd"
        have kq := kz.trans k3
        refine ⟨q, (dd ls).map V.int, (dd ls).map keyD, rfl, rfl, SqL.of hql, by rw [List.length_map, List.length_map], PySem.W.AllAlike.of keyD_alike, .inl fun d hd => ?_, fun d hd => ?_, fun i x d H5 hx hd kp3 => ?_, fun H5 kp3 p hp => ?_⟩
        · obtain ⟨n, _, rfl⟩ := List.mem_map.mp hd
          exact ⟨_, rfl⟩
        · obtain ⟨n, _, rfl⟩ := List.mem_map.mp hd
          exact keyD_depth n
        · obtain ⟨n, rfl, hn⟩ := map_int hx
          rw [List.getElem?_map, hn] at hd
          cases hd
          exact ⟨n, rfl, fun p hp => ⟨Kept.new hp, dp_key upd_same⟩⟩
        · walk_at "rd"
          refine ⟨p, _, rfl, .inl ⟨SqL.of upd_same, fun l hl => ?_⟩⟩
          have kp4 := (kq.trans kp3).trans (Kept.new (o := .lst (sortD ((dd ls).map V.int) ((dd ls).map keyD))) hp)
          refine k2 hb l _ (kp4.trans (Kept.new hl)) (kp4.free _ hl) ?_
          rw [sortD_map]
          exact upd_same
theorem ok_l_residue (F : Fun K "_law_residue" "_law_residue" s_l_residue f fd) (T : Tx K mg) (D_l_clause_key : Df P w K mg base 2 "_law_clause_key" ["clause"] spCKey) (D_l_once : Df P w K mg base 1 "_law_once" ["row"] (spOnce K)) : FnOk P w K mg base CX0 4 f fd ["clauses"] spLResidue := by
  obtain ⟨fK, fdK, FK, mK, kK, bK⟩ := D_l_clause_key.ex
  refine F.ok sc_l_residue (fun vs H Q E h => ?_) (fun cdv A outer s H vs Q E hr h => ?_)
  · obtain ⟨a, bs, cs, rfl, _⟩ := h
    rfl
  · obtain ⟨a, bs, cs, rfl, ha, hc, hz, hz2, k⟩ := h
    refine ⟨_, (pss_one (ps_ret (pe_callTy call_tuple_of (by rfl) T.z_tuple (by decide +kernel) (pa_cons (pe_callBK (cr_sortedF (hr.mono (by decide)) FK bK) (by rfl) T.z_sorted (by decide +kernel) (pa_cons (pe_df D_l_once (hr.mono (by decide)) (by rfl) (pa_cons (pv 0) pa_nil)) pa_nil) (pk_cons (pe_glob (by rfl) mK (show RelV (.ref fK) _ from rfl)) pk_nil)) pa_nil)))), ?_⟩
    rw [show start n_l_residue [(.ref a : V)] = ([some (.ref a)] : List (Option V)) from rfl]
    walk_at "rd"
    refine w_ckw ?_
    walk_at "rd"
    refine once_cls ha hc hz fun q H1 bs2 kq hq hql hc2 => ?_
    walk_at "rd"
    have hz3 : ∀ c ∈ dd cs, c.length ≤ 1000 := fun c hm => hz2 c (mem_dd.mp hm)
    refine ⟨q, bs2.map V.ref, (dd cs).map ckD, rfl, rfl, SqL.of hql, by rw [List.length_map, List.length_map, hc2.1], PySem.W.AllAlike.of ckD_alike, .inl fun d hd => ?_, fun d hd => ?_, fun i x d H3 hx hd kp3 => ?_, fun H3 kp3 p hp => ?_⟩
    · obtain ⟨n, _, rfl⟩ := List.mem_map.mp hd
      exact ⟨_, rfl⟩
    · obtain ⟨n, _, rfl⟩ := List.mem_map.mp hd
      exact ckD_depth n
    · rw [List.getElem?_map] at hx hd
      obtain ⟨b, hb, rfl⟩ := Option.map_eq_some_iff.mp hx
      obtain ⟨c, hcc, rfl⟩ := Option.map_eq_some_iff.mp hd
      have e := (hc2.kept kp3).2 i b c hb hcc
      exact ⟨b, c, rfl, e, Nat.le_trans (hz3 c (List.mem_of_getElem? hcc)) (by decide), fun ps p H' kp hp e1 e2 e3 => ⟨kp, dp_ckey e1 e2 e3⟩⟩
    · walk_at "rd"
      obtain ⟨bs', es, hs⟩ := sort_cls (hc2.kept kp3)
      rw [es]
      refine ⟨p, _, rfl, .inl ⟨SqL.of upd_same, fun l hl => ?_⟩⟩
      have k5 := Kept.new (o := .lst (bs'.map V.ref)) hp
      have k6 := Kept.new (o := .tup (bs'.map V.ref)) hl
      have kp4 := ((kq.trans kp3).trans k5).trans k6
      exact k l _ bs' kp4 (((kq.trans kp3).trans k5).free _ hl) upd_same ((hs.kept k5).kept k6)
end
end Ky

namespace Ky
open PySem PySem.Spec PyProof.Rows L2
local macro_rules | `(tactic| walk_at "rd") => `(tactic| repeat (first
  | with_reducible refine w_for1 ?_
  | with_reducible refine w_for2 ?_
  | with_reducible refine w_forL ?_
  | with_reducible refine w_forT ?_
  | with_reducible refine w_lc1 ?_
  | with_reducible refine w_lcL ?_
  | with_reducible refine w_lcT ?_
  | with_reducible refine w_dcL ?_
  | with_reducible refine w_dcT ?_
  | with_reducible refine w_seq ?_
  | with_reducible refine w_asg ?_
  | with_reducible refine w_ret ?_
  | with_reducible refine w_drop ?_
  | with_reducible refine w_ifs ?_
  | ((with_reducible refine' w_var ?hh ?_); (case hh => exact rfl))
  | with_reducible refine w_c ?_
  | with_reducible refine w_op ?_
  | with_reducible refine w_un ?_
  | with_reducible refine w_I0 ?_
  | with_reducible refine w_U ?_
  | with_reducible refine w_nil ?_
  | with_reducible refine w_cons ?_
  | with_reducible refine w_call ?_
  | with_reducible refine w_cb ?_
  | with_reducible refine w_test ?_
  | with_reducible refine w_B ?_
  | with_reducible refine w_bl ?_
  | with_reducible refine w_and ?_
  | with_reducible refine w_or ?_
  | with_reducible refine w_not ?_
  | with_reducible refine w_ife ?_
  | with_reducible refine w_gRd ?_
  | with_reducible refine w_andV ?_
  | with_reducible refine w_orV ?_
  | with_reducible refine w_notV ?_
  | with_reducible refine w_chain ?_
  | with_reducible refine w_din ?_
  | with_reducible refine w_isi_ii ?_
  | with_reducible refine w_isi_bi ?_
  | with_reducible refine w_isi_bb ?_
  | with_reducible refine w_isi_bt ?_
  | with_reducible refine w_isi_si ?_
  | with_reducible refine w_isi_nt ?_
  | with_reducible refine w_isi_ib ?_
  | with_reducible refine w_isi_it ?_
  | with_reducible refine w_isi_st ?_
  | ((with_reducible refine w_isi_tt ?h1 ?_); (case h1 => first | assumption | exact upd_same))
  | with_reducible refine if_t rfl ?_
  | with_reducible refine if_f rfl ?_
  | with_reducible refine w_tup ?_
  | with_reducible refine w_lst ?_
  | with_reducible refine w_next ?_
  | with_reducible refine w_bm ?_
  | with_reducible refine w_sl ?_
  | with_reducible refine w_part ?_
  | with_reducible refine w_nop ?_
  | with_reducible refine w_isI ?_
  | with_reducible refine w_yes ?_
  | with_reducible refine w_gn ?_
  | with_reducible refine w_gsub ?_
  | ((with_reducible refine' w_setL ?h1 ?h2 ?_); (case h1 => first | assumption | exact upd_same); (case h2 => exact rfl))
  | with_reducible refine w_asgG ?_
  | with_reducible refine w_m1 ?_
  | with_reducible refine w_isS ?_
  | with_reducible refine w_tyS ?_
  | ((with_reducible refine' w_tyL ?h1 ?_); (case h1 => first | assumption | exact upd_same))
  | ((with_reducible refine' w_ixT ?h1 ?h2 ?_); (case h1 => first | assumption | exact upd_same); (case h2 => exact rfl))
  | ((with_reducible refine' w_ixL ?h1 ?h2 ?_); (case h1 => first | assumption | exact upd_same); (case h2 => exact rfl))
  | ((with_reducible refine w_eq ?h1 ?_); (case h1 => exact rfl))
  | ((with_reducible refine w_ne ?h1 ?_); (case h1 => exact rfl))
  | dsimp only [List.set_cons_zero, List.set_cons_succ, List.append_nil, List.cons_append, List.nil_append, cxOf]))

section
variable {P : Program} {w : World} {K : PySem.W.Frag} {mg : Str → Option Value} {base : Heap} {uG : Value} {f : Addr} {fd : FuncData}
theorem ok_l_literal (F : Fun K "_law_literal" "_law_literal" s_l_literal f fd) (T : Tx K mg) (D_l_take : Df P w K mg base 1 "_law_take" ["draw", "many"] spTakeC) : FnOk P w K mg base CX0 2 f fd ["draw", "variables"] spLLit := by
  refine F.ok sc_l_literal (fun vs H Q E h => ?_) (fun cdv A outer s H vs Q E hr h => ?_)
  · obtain ⟨d, c, a, ns, rfl, _⟩ := h
    rfl
  · obtain ⟨d, c, a, ns, rfl, hD, ha, hn0, hz, hv, k⟩ := h
    refine ⟨_, (pss_cons (ps_set (i := 2) sc_l_literal.nd rfl (.inl rfl) (pe_ix (ix_eitherK (K := K) rfl) (pv 1) (pe_df D_l_take (hr.mono (by decide)) (by rfl) (pa_cons (pv 0) (pa_cons (pe_callB (call_lenK (K := K) rfl) (by rfl) T.z_len (by decide +kernel) (pa_cons (pv 1) pa_nil)) pa_nil))) (fun _ _ => rfl)))
    (pss_one (ps_ret (pe_ix (ix_eitherK (K := K) rfl) (pe_lst (pa_cons (pv 2) (pa_cons (pe_un un_neg (pv 2)) pa_nil))) (pe_df D_l_take (hr.mono (by decide)) (by rfl) (pa_cons (pv 0) (pa_cons pe_int pa_nil))) (fun _ _ => rfl))))), ?_⟩
    rw [show start n_l_literal [(.ref d : V), (.ref a : V)] = ([some (.ref d), some (.ref a), none] : List (Option V)) from rfl]
    walk_at "rd"
    refine ⟨a, ns.map V.int, rfl, ha.seq, ?_⟩
    walk_at "rd"
    refine ⟨d, c, _, rfl, by rw [List.length_map]; omega, by rw [List.length_map]; omega, hD, fun r H1 l1 g1 k1 => ?_⟩
    rw [List.length_map] at g1
    obtain ⟨v, hvm, ev⟩ := pick_int l1 g1
    have hD1 := k1.drw hD
    have step : ∀ Q2 : VK, Q2 (.int v) H1 → rIxE K (.ref a) (.int r) H1 Q2 := fun Q2 q => by
      rcases (ha.keptC k1).2.2 with z | z
      · exact .inl (w_ixL z ev q)
      · exact .inr (w_ixT z ev q)
    refine step _ ?_
    walk_at "rd"
    refine ⟨by show 2 ≤ sizeLine; decide, fun L hL => ?_⟩
    have nL := hD1.old hL
    have k2 : KeptC d c H1 (upd H1 L (.lst [V.int v, V.int (-v)])) := (Kept.new hL).toC
    walk_at "rd"
    refine ⟨d, c, 2, rfl, by decide, by decide, k2.drw hD1, fun r2 H2 l2 g2 k3 => ?_⟩
    obtain ⟨x, hx, ex⟩ := pick_int (ns := [v, -v]) l2 g2
    have hl2 := k3.lst nL.1 (upd_same : upd H1 L (.lst [V.int v, V.int (-v)]) L = _)
    have hv1 := hv v hvm
    refine .inl (w_ixL hl2 ex ?_)
    have hab : isLit x = true ∧ absI x = v := by
      have e := hx
      simp only [List.mem_cons, List.not_mem_nil, or_false] at e
      have q := isLit_of (u := v) (z := if x = v then 1 else -1) hv1 (by split <;> simp)
      rcases e with e | e
      · rw [if_pos e, Int.mul_one] at q
        rw [e]; exact q
      · by_cases e2 : x = v
        · rw [if_pos e2, Int.mul_one] at q
          rw [e2]; exact q
        · rw [if_neg e2, Int.mul_neg, Int.mul_one] at q
          rw [e]; exact q
    exact k x H2 ((k1.trans k2).trans k3) hab.1 (by rw [hab.2]; exact hvm)
theorem ok_l_clauses (F : Fun K "_law_clauses" "_law_clauses" s_l_clauses f fd) (T : Tx K mg) (D_l_take : Df P w K mg base 1 "_law_take" ["draw", "many"] spTakeC) (D_l_literal : Df P w K mg base 2 "_law_literal" ["draw", "variables"] spLLit) (D_l_clause : Df P w K mg base 4 "_law_clause" ["literals"] spLClause2) (D_l_residue : Df P w K mg base 4 "_law_residue" ["clauses"] spLResidue) : FnOk P w K mg base CX0 5 f fd ["draw", "variables", "many"] spLClauses := by
  refine F.ok sc_l_clauses (fun vs H Q E h => ?_) (fun cdv A outer s H vs Q E hr h => ?_)
  · obtain ⟨d, c, a, ns, many, rfl, _⟩ := h
    rfl
  · obtain ⟨d, c, a, ns, many, rfl, hm, hD, ha, hn0, hz, hv, k⟩ := h
    have hsl : 1001 ≤ sizeLine := by decide
    refine ⟨_, (pss_cons (ps_set (i := 3) sc_l_clauses.nd rfl (.inl rfl) (pe_lst pa_nil))
    (pss_cons (ps_for PassesOwn.never rfl (pi_range1 (by rfl) T.z_range (pa_cons (pe_df D_l_take (hr.mono (by decide)) (by rfl) (pa_cons (pv 0) (pa_cons (pe_op op_add (pv 2) pe_int) pa_nil))) pa_nil)) (pg_name (i := 4) sc_l_clauses.nd rfl (.inl rfl))
      (pss_cons (ps_set (i := 5) sc_l_clauses.nd rfl (.inl rfl) (pe_ix (ix_listK (K := K) rfl) (pe_lst (pa_cons pe_int (pa_cons pe_int (pa_cons pe_int (pa_cons pe_int (pa_cons pe_int (pa_cons pe_int (pa_cons pe_int (pa_cons pe_int pa_nil))))))))) (pe_df D_l_take (hr.mono (by decide)) (by rfl) (pa_cons (pv 0) (pa_cons pe_int pa_nil))) (fun _ _ => rfl)))
    (Evl.pss_cut (ps_if (pt_cmpR op_eq (pe_df D_l_take (hr.mono (by decide)) (by rfl) (pa_cons (pv 0) (pa_cons pe_int pa_nil))) pe_int (nomark _))
      (pss_one (ps_set (i := 5) sc_l_clauses.nd rfl (.inl rfl) pe_int))
      pss_nil)
    (pss_cons (ps_set (i := 6) sc_l_clauses.nd rfl (.inl rfl) (pe_df D_l_clause (hr.mono (by decide)) (by rfl) (pa_cons (pe_lc (own := [("j", 7)]) (g := gName 7) (by rfl) sc_l_clauses.nd (pi_range1 (by rfl) T.z_range (pa_cons (pv 5) pa_nil)) (blkOk_by (own := [("j", 7)]) (N := n_l_clauses) (sc := defScope s_l_clauses) (by decide +kernel)) (fun _ _ _ _ _ => pg_name (i := 7) sc_l_clauses.nd rfl (Or.inl rfl)) (fun _ _ _ _ _ => pts_nil) (fun _ _ _ _ _ => (pe_df D_l_literal (hr.mono (by decide)) (by rfl) (pa_cons (pv 0) (pa_cons (pv 1) pa_nil))))) pa_nil)))
    (pss_one (ps_if (pt_cmpR op_notN (pv 6) pe_non (nomark _))
      (pss_one (ps_expr (pe_bm PySem.F.plainAttrs_list PySem.F.slot_list_append PySem.F.type_list_append mt_append (pv 3) (pa_cons (pv 6) pa_nil))))
      pss_nil))))))
    (pss_one (ps_ret (pe_df D_l_residue (hr.mono (by decide)) (by rfl) (pa_cons (pv 3) pa_nil)))))), ?_⟩
    rw [show start n_l_clauses [(.ref d : V), (.ref a : V), (.int many : V)] = ([some (.ref d), some (.ref a), some (.int many), none, none, none, none, none] : List (Option V)) from rfl]
    walk_at "rd"
    refine ⟨Nat.zero_le _, fun R hR => ?_⟩
    have k0 : KeptC d c H (upd H R (.lst [])) := (Kept.new hR).toC
    walk_at "rd"
    refine ⟨d, c, (many : Int) + 1, rfl, by omega, by omega, k0.drw hD, fun r0 H1 l0 g0 k1 => ?_⟩
    obtain ⟨rn, rfl⟩ : ∃ m : Nat, r0 = (m : Int) := ⟨r0.toNat, by omega⟩
    have nR := (hD.old hR)
    have hRH : H R = none := hR
    have kA := k0.trans k1
    refine Fr1.mk (by omega) (fun i σ' H' => ∃ (v4 v5 v6 : Option V) (bs : List Addr) (rc : List (List Int)), σ' = [some (.ref d), some (.ref a), some (.int many), some (.ref R), v4, v5, v6, none] ∧ KeptC d c H H' ∧ H' R = some (.lst (bs.map V.ref)) ∧ ClsAt H' bs rc ∧ rc.length ≤ i ∧ ∀ x ∈ rc, isClauseF x = true ∧ x.length ≤ 4 ∧ ∀ n ∈ x, absI n ∈ ns)
      ⟨none, none, none, [], [], rfl, kA, k1.lst nR.1 upd_same, ⟨rfl, fun i b c h1 _ => by simp at h1⟩, Nat.le_refl _, fun x hx => by cases hx⟩ ?_ ?_
    · rintro i σ' H2 hi ⟨v4, v5, v6, bs, rc, rfl, k2, hRb, hcl, hlen, hcs⟩
      have hD2 := k2.drw hD
      have ha2 := ha.keptC k2
      walk_at "rd"
      refine ⟨by show 8 ≤ sizeLine; omega, fun S hS => ?_⟩
      have nS := hD2.old hS
      have k3 : KeptC d c H2 (upd H2 S (.lst [V.int 2, V.int 3, V.int 2, V.int 3, V.int 1, V.int 4, V.int 2, V.int 3])) := (Kept.new hS).toC
      walk_at "rd"
      refine ⟨d, c, 8, rfl, by decide, by decide, k3.drw hD2, fun r3 H3 l3 g3 k4 => ?_⟩
      obtain ⟨sz, hsz, esz⟩ := pick_int (ns := [2, 3, 2, 3, 1, 4, 2, 3]) l3 g3
      refine w_ixL (k4.lst nS.1 upd_same) esz ?_
      have k34 := k3.trans k4
      have hD3 := k34.drw hD2
      have hsz1 : 0 ≤ sz ∧ sz ≤ 4 := by
        simp only [List.mem_cons, List.not_mem_nil, or_false] at hsz
        omega
      refine ⟨fun σ4 H4 => ∃ z : Nat, σ4 = [some (.ref d), some (.ref a), some (.int many), some (.ref R), some (.int (i : Int)), some (.int (z : Nat)), v6, none] ∧ z ≤ 4 ∧ KeptC d c H2 H4, ?_, ?_⟩
      · walk_at "rd"
        refine ⟨d, c, 60, rfl, by decide, by decide, hD3, fun r4 H4 l4 g4 k5 => ?_⟩
        walk_at "rd"
        refine ite2 (fun _ => ?_) (fun _ => ?_)
        · walk_at "rd"
          exact ⟨0, rfl, by decide, k34.trans k5⟩
        · walk_at "rd"
          exact ⟨sz.toNat, by rw [Int.toNat_of_nonneg hsz1.1], by omega, k34.trans k5⟩
      · rintro σ4 H4 ⟨z, rfl, hz4, k5⟩
        have hD4 := k5.drw hD2
        have ha4 := ha2.keptC k5
        have hR4 := k5.lst nR.1 hRb
        walk_at "rd"
        refine Lc1.drawsP (fun n => isLit n = true ∧ absI n ∈ ns) hD4 (by omega) (fun j H5 q hj k6 hq => ?_) fun L H5 ls hL k6 hLl hll hls => ?_
        · walk_at "rd"
          exact ⟨d, c, a, ns, rfl, k6.drw hD4, ha4.keptC k6, hn0, hz, hv, fun n H6 k7 h1 h2 => hq n H6 k7 ⟨h1, h2⟩⟩
        · have kB := (k2.trans k5).trans k6
          have hR5 := k6.lst nR.1 hR4
          have hc5 := (hcl.keptC k5 hD2).keptC k6 hD4
          refine ⟨L, ls, rfl, hLl, by omega, fun hb H6 k7 => ?_, fun hb p H6 k7 hp hpl => ?_⟩
          · walk_at "rd"
            refine ⟨rfl, _, rfl, if_f rfl ?_⟩
            walk_at "rd"
            exact ⟨_, _, _, bs, rc, rfl, kB.trans k7.toC, k7.lst hR5, hc5.kept k7, by omega, hcs⟩
          · walk_at "rd"
            refine ⟨rfl, _, rfl, if_t rfl ?_⟩
            have hR6 := k7.lst hR5
            walk_at "rd"
            refine ⟨_, _, _, rfl, rfl, k7.lst hR5, by rw [List.length_map, hcl.1]; omega, _, _, _, bs ++ [p], rc ++ [clauseF ls], rfl, KeptC.mut (kB.trans k7.toC) hRH, by rw [List.map_append]; exact upd_same, ?_, by rw [List.length_append, List.length_singleton]; omega, fun x hx => ?_⟩
            · exact clsAt_upd (clsAt_snoc (hc5.kept k7) hpl) (k7.lst hR5)
            · rcases List.mem_append.mp hx with z | z
              · exact hcs x z
              · rw [List.mem_singleton.mp z]
                refine ⟨clauseF_ok (noBoth_of hb) fun n hn => (hls n hn).1, ?_, fun n hn => (hls n (mem_clauseF.mp hn)).2⟩
                have := len_clauseF ls
                omega
    · rintro σ' H2 ⟨v4, v5, v6, bs, rc, rfl, k2, hRb, hcl, hlen, hcs⟩
      walk_at "rd"
      refine ⟨R, bs, rc, rfl, hRb, hcl, by omega, fun x hx => by have := (hcs x hx).2.1; omega, fun p H3 bs' k3 hp hpb hc3 => ?_⟩
      refine k p H3 bs' _ (k2.trans k3.toC) hpb hc3 ⟨?_, residueF_asc rc, fun x hx => hcs x (mem_residueF.mp hx)⟩
      have := len_residueF rc
      omega
end
end Ky

namespace Ky
open PySem PySem.Spec PyProof.Rows L2
local macro_rules | `(tactic| walk_at "rd") => `(tactic| repeat (first
  | with_reducible refine w_for1 ?_
  | with_reducible refine w_for2 ?_
  | with_reducible refine w_forL ?_
  | with_reducible refine w_forT ?_
  | with_reducible refine w_lc1 ?_
  | with_reducible refine w_lcL ?_
  | with_reducible refine w_lcT ?_
  | with_reducible refine w_dcL ?_
  | with_reducible refine w_dcT ?_
  | with_reducible refine w_seq ?_
  | with_reducible refine w_asg ?_
  | with_reducible refine w_ret ?_
  | with_reducible refine w_drop ?_
  | with_reducible refine w_ifs ?_
  | ((with_reducible refine' w_var ?hh ?_); (case hh => exact rfl))
  | with_reducible refine w_c ?_
  | with_reducible refine w_op ?_
  | with_reducible refine w_un ?_
  | with_reducible refine w_I0 ?_
  | with_reducible refine w_U ?_
  | with_reducible refine w_nil ?_
  | with_reducible refine w_cons ?_
  | with_reducible refine w_call ?_
  | with_reducible refine w_cb ?_
  | with_reducible refine w_test ?_
  | with_reducible refine w_B ?_
  | with_reducible refine w_bl ?_
  | with_reducible refine w_and ?_
  | with_reducible refine w_or ?_
  | with_reducible refine w_not ?_
  | with_reducible refine w_ife ?_
  | with_reducible refine w_gRd ?_
  | with_reducible refine w_andV ?_
  | with_reducible refine w_orV ?_
  | with_reducible refine w_notV ?_
  | with_reducible refine w_chain ?_
  | with_reducible refine w_din ?_
  | with_reducible refine w_isi_ii ?_
  | with_reducible refine w_isi_bi ?_
  | with_reducible refine w_isi_bb ?_
  | with_reducible refine w_isi_bt ?_
  | with_reducible refine w_isi_si ?_
  | with_reducible refine w_isi_nt ?_
  | with_reducible refine w_isi_ib ?_
  | with_reducible refine w_isi_it ?_
  | with_reducible refine w_isi_st ?_
  | ((with_reducible refine w_isi_tt ?h1 ?_); (case h1 => first | assumption | exact upd_same))
  | with_reducible refine if_t rfl ?_
  | with_reducible refine if_f rfl ?_
  | with_reducible refine w_tup ?_
  | with_reducible refine w_lst ?_
  | with_reducible refine w_next ?_
  | with_reducible refine w_bm ?_
  | with_reducible refine w_sl ?_
  | with_reducible refine w_part ?_
  | with_reducible refine w_nop ?_
  | with_reducible refine w_isI ?_
  | with_reducible refine w_yes ?_
  | with_reducible refine w_gn ?_
  | with_reducible refine w_gsub ?_
  | ((with_reducible refine' w_setL ?h1 ?h2 ?_); (case h1 => first | assumption | exact upd_same); (case h2 => exact rfl))
  | with_reducible refine w_asgG ?_
  | with_reducible refine w_m1 ?_
  | with_reducible refine w_isS ?_
  | with_reducible refine w_tyS ?_
  | ((with_reducible refine' w_tyL ?h1 ?_); (case h1 => first | assumption | exact upd_same))
  | ((with_reducible refine' w_ixT ?h1 ?h2 ?_); (case h1 => first | assumption | exact upd_same); (case h2 => exact rfl))
  | ((with_reducible refine' w_ixL ?h1 ?h2 ?_); (case h1 => first | assumption | exact upd_same); (case h2 => exact rfl))
  | ((with_reducible refine w_eq ?h1 ?_); (case h1 => exact rfl))
  | ((with_reducible refine w_ne ?h1 ?_); (case h1 => exact rfl))
  | dsimp only [List.set_cons_zero, List.set_cons_succ, List.append_nil, List.cons_append, List.nil_append, cxOf]))

theorem w_ninL2 {K : PySem.W.Frag} {H : Hp} {Q : VK} {b : Addr} {n : Int} {ls : List Int} (h : H b = some (.lst (ls.map V.int))) (q : Q (.bl (decide (n ∉ ls))) H) : rIn K true (.int n) (.ref b) H Q := ⟨b, _, rfl, .inl (SqL.of h), rfl, flat_ints ls, by rw [inV_ints, if_pos rfl]; rw [decide_not] at q; exact q⟩
section
variable {P : Program} {w : World} {K : PySem.W.Frag} {mg : Str → Option Value} {base : Heap} {uG : Value} {f : Addr} {fd : FuncData}
theorem ok_l_formula (F : Fun K "_law_formula" "_law_formula" s_l_formula f fd) (T : Tx K mg) (D_l_take : Df P w K mg base 1 "_law_take" ["draw", "many"] spTakeC) (D_l_clauses : Df P w K mg base 5 "_law_clauses" ["draw", "variables", "many"] spLClauses) : FnOk P w K mg base CX0 6 f fd ["draw", "most"] spLFormula2 := by
  refine F.ok sc_l_formula (fun vs H Q E h => ?_) (fun cdv A outer s H vs Q E hr h => ?_)
  · obtain ⟨d, c, most, rfl, _⟩ := h
    rfl
  · obtain ⟨d, c, most, rfl, m0, m1, hD, k⟩ := h
    have hsl : 1001 ≤ sizeLine := by decide
    refine ⟨_, (pss_cons (ps_set (i := 2) sc_l_formula.nd rfl (.inr rfl) (pe_op op_add pe_int (pe_df D_l_take (hr.mono (by decide)) (by rfl) (pa_cons (pv 0) (pa_cons pe_int pa_nil)))))
    (pss_cons (ps_set (i := 3) sc_l_formula.nd rfl (.inl rfl) (pe_op op_add pe_int (pe_df D_l_take (hr.mono (by decide)) (by rfl) (pa_cons (pv 0) (pa_cons (pv 1) pa_nil)))))
    (pss_cons (ps_set (i := 4) sc_l_formula.nd rfl (.inl rfl) (pe_ix (ix_listK (K := K) rfl) (pe_lst (pa_cons pe_int (pa_cons pe_int (pa_cons pe_int (pa_cons pe_int (pa_cons pe_int pa_nil)))))) (pe_df D_l_take (hr.mono (by decide)) (by rfl) (pa_cons (pv 0) (pa_cons pe_int pa_nil))) (fun _ _ => rfl)))
    (pss_cons (ps_setLc (i := 5) (own := [("k", 6)]) (g := gName 6) (by rfl) sc_l_formula.nd rfl rfl (sw_true rfl rfl rfl (by decide +kernel)) (pi_range1 (by rfl) T.z_range (pa_cons (pe_op op_add (pv 3) (pv 4)) pa_nil)) (blkOk_by (own := [("k", 6)]) (N := n_l_formula) (sc := defScope s_l_formula) (by decide +kernel)) (fun _ _ _ _ _ => pg_name (i := 6) sc_l_formula.nd rfl (Or.inl rfl)) (fun _ _ _ _ _ => pts_nil) (fun _ _ _ _ _ => (pe_op op_add pe_int (pe_op op_mulW (pv 2) (pv 6)))))
    (pss_cons (ps_set (i := 7) sc_l_formula.nd rfl (.inr rfl) (pe_lst pa_nil))
    (pss_cons (ps_for PassesOwn.never rfl (pi_range1 (by rfl) T.z_range (pa_cons (pv 4) pa_nil)) (pg_name (i := 6) sc_l_formula.nd rfl (.inl rfl))
      (pss_cons (ps_set (i := 8) sc_l_formula.nd rfl (.inl rfl) (pe_ix (ix_listK (K := K) rfl) (pv 5) (pe_df D_l_take (hr.mono (by decide)) (by rfl) (pa_cons (pv 0) (pa_cons (pe_callB (call_lenK (K := K) rfl) (by rfl) T.z_len (by decide +kernel) (pa_cons (pv 5) pa_nil)) pa_nil))) (fun _ _ => rfl)))
    (pss_one (ps_if (PW.pt (pw_and (pt_cmpR (opK (K := K) (r := fun K => rIn K true) rfl op_notIn_seq) (pv 8) (pv 7) (by rfl)) (pw_and1 (pt_cmpR op_lt (pe_op op_add (pe_callB (call_lenK (K := K) rfl) (by rfl) T.z_len (by decide +kernel) (pa_cons (pv 7) pa_nil)) pe_int) (pe_callB (call_lenK (K := K) rfl) (by rfl) T.z_len (by decide +kernel) (pa_cons (pv 5) pa_nil)) (nomark _)))))
      (pss_one (ps_expr (pe_bm PySem.F.plainAttrs_list PySem.F.slot_list_append PySem.F.type_list_append mt_append (pv 7) (pa_cons (pv 8) pa_nil))))
      pss_nil))))
    (pss_cons (ps_set (i := 9) sc_l_formula.nd rfl (.inl rfl) (pe_callTy call_tuple_of (by rfl) T.z_tuple (by decide +kernel) (pa_cons (pe_lc (own := [("v", 8)]) (g := gName 8) (by rfl) sc_l_formula.nd (pi_listK (K := K) rfl (pv 5)) (blkOk_by (own := [("v", 8)]) (N := n_l_formula) (sc := defScope s_l_formula) (by decide +kernel)) (fun _ _ _ _ _ => pg_name (i := 8) sc_l_formula.nd rfl (Or.inl rfl)) (fun _ _ _ _ _ => pts_one (pt_cmpR (opK (K := K) (r := fun K => rIn K true) rfl op_notIn_seq) (pv 8) (pv 7) (by rfl))) (fun _ _ _ _ _ => (pv 8))) pa_nil)))
    (pss_one (ps_ret (pe_tup (pa_cons (pv 9) (pa_cons (pe_callTy call_tuple_of (by rfl) T.z_tuple (by decide +kernel) (pa_cons (pe_callB (cr_sortedD hr.units) (by rfl) T.z_sorted (by decide +kernel) (pa_cons (pv 7) pa_nil)) pa_nil)) (pa_cons (pe_df D_l_clauses (hr.mono (by decide)) (by rfl) (pa_cons (pv 0) (pa_cons (pv 5) (pa_cons (pe_op op_add (pe_op op_add (pv 3) (pv 4)) pe_int) pa_nil)))) pa_nil))))))))))))), ?_⟩
    rw [show start n_l_formula [(.ref d : V), (.int most : V)] = ([some (.ref d), some (.int most), none, none, none, none, none, none, none, none] : List (Option V)) from rfl]
    walk_at "rd"
    refine ⟨d, c, 3, rfl, by decide, by decide, hD, fun r1 H1 l1 g1 k1 => ?_⟩
    have hD1 := k1.drw hD
    walk_at "rd"
    refine ⟨d, c, most, rfl, by omega, by omega, hD1, fun r2 H2 l2 g2 k2 => ?_⟩
    have kA := k1.trans k2
    have hD2 := k2.drw hD1
    walk_at "rd"
    refine ⟨by show 5 ≤ sizeLine; omega, fun S hS => ?_⟩
    have nS := hD2.old hS
    have k3 : KeptC d c H2 (upd H2 S (.lst [V.int 0, V.int 0, V.int 1, V.int 2, V.int 3])) := (Kept.new hS).toC
    walk_at "rd"
    refine ⟨d, c, 5, rfl, by decide, by decide, k3.drw hD2, fun r3 H3 l3 g3 k4 => ?_⟩
    obtain ⟨mo, hmo, emo⟩ := pick_int (ns := [0, 0, 1, 2, 3]) l3 g3
    refine w_ixL (k4.lst nS.1 upd_same) emo ?_
    have kB := (kA.trans k3).trans k4
    have hD3 := kB.drw hD
    obtain ⟨more, rfl, hmo3⟩ : ∃ m : Nat, mo = (m : Int) ∧ m ≤ 3 := by
      simp only [List.mem_cons, List.not_mem_nil, or_false] at hmo
      exact ⟨mo.toNat, by omega, by omega⟩
    obtain ⟨ct, rfl⟩ : ∃ m : Nat, r2 = (m : Int) := ⟨r2.toNat, by omega⟩
    obtain ⟨gp, rfl⟩ : ∃ m : Nat, r1 = (m : Int) := ⟨r1.toNat, by omega⟩
    walk_at "rd"
    rw [show (1 : Int) + (ct : Int) + (more : Int) = ((1 + ct + more : Nat) : Int) by omega]
    refine Lc1.run (fun _ => true) (fun i => V.int (1 + (1 + (gp : Int)) * (i : Int))) (by omega) (fun i H4 kk kk2 hi k5 h5 h6 => ?_) fun N H4 hN k5 hNl => ?_
    · refine w_yes (if_t rfl ?_)
      walk_at "rd"
      refine w_I (show (1 + (gp : Int)).natAbs.log2 + (i : Int).natAbs.log2 < 1000000 by
        have a1 := Nat.log2_le_self (1 + (gp : Int)).natAbs
        have a2 := Nat.log2_le_self (i : Int).natAbs
        omega) ?_
      walk_at "rd"
      exact h5 H4 (Kept.refl _) rfl
    · walk_at "rd"
      have hnl : ((List.range (1 + ct + more)).filter fun _ => true) = List.range (1 + ct + more) := List.filter_eq_self.mpr fun _ _ => rfl
      obtain ⟨nm, enm⟩ : ∃ nm : List Int, nm = (List.range (1 + ct + more)).map fun i : Nat => 1 + (1 + (gp : Int)) * (i : Int) := ⟨_, rfl⟩
      have hNl : H4 N = some (.lst (nm.map V.int)) := by
        rw [hNl, hnl, enm, List.map_map] <;> rfl
      have hnn : nm.length = 1 + ct + more := by rw [enm, List.length_map, List.length_range]
      have hnv : ∀ v ∈ nm, 1 ≤ v ∧ v ≤ 999 := fun v hv => by
        rw [enm] at hv
        obtain ⟨i, hi, rfl⟩ := List.mem_map.mp hv
        rw [List.mem_range] at hi
        have b1 : (1 + (gp : Int)) * (i : Int) ≤ 3 * 11 := Int.mul_le_mul (by omega) (by omega) (by omega) (by omega)
        have b2 : 0 ≤ (1 + (gp : Int)) * (i : Int) := Int.mul_nonneg (by omega) (by omega)
        omega
      have hna : nm.Pairwise (· < ·) := by
        rw [enm, List.pairwise_map]
        refine List.pairwise_lt_range.imp fun {x y} hxy => ?_
        have : (1 + (gp : Int)) * (x : Int) < (1 + (gp : Int)) * (y : Int) := Int.mul_lt_mul_of_pos_left (by omega) (by omega)
        omega
      have k5 : KeptC d c H3 H4 := k5.toC
      have hD4 := k5.drw hD3
      have nN := hD3.old hN
      refine ⟨Nat.zero_le _, fun Z hZ => ?_⟩
      have nZ := hD4.old hZ
      have neNZ : N ≠ Z := ne_of_none hNl hZ
      have kZ : KeptC d c H4 (upd H4 Z (.lst [])) := (Kept.new hZ).toC
      walk_at "rd"
      refine Fr1.mk (by omega) (fun i σ' H' => ∃ (v6 v8 : Option V) (hd : List Int), σ' = [some (.ref d), some (.int most), some (.int (1 + (gp : Int))), some (.int (1 + (ct : Int))), some (.int (more : Int)), some (.ref N), v6, some (.ref Z), v8, none] ∧ KeptC d c H4 H' ∧ H' Z = some (.lst (hd.map V.int)) ∧ hd.Nodup ∧ (∀ v ∈ hd, v ∈ nm) ∧ hd.length ≤ i ∧ hd.length < nm.length)
        ⟨_, _, [], rfl, kZ, upd_same, List.nodup_nil, fun v hv => (by cases hv), Nat.zero_le _, by show 0 < nm.length; omega⟩ ?_ ?_
      · rintro i σ' H' hi ⟨v6, v8, hd, rfl, k6, hZl, hnd, hsub, hle, hlt⟩
        have hD6 := k6.drw hD4
        have hN6 := k6.lst nN.1 hNl
        walk_at "rd"
        refine ⟨N, nm.map V.int, rfl, .inl (SqL.of hN6), ?_⟩
        walk_at "rd"
        refine ⟨d, c, _, rfl, by rw [List.length_map]; omega, by rw [List.length_map]; omega, hD6, fun r H7 l7 g7 k7 => ?_⟩
        rw [List.length_map] at g7
        obtain ⟨y, hy, ey⟩ := pick_int l7 g7
        refine w_ixL (k7.lst nN.1 hN6) ey ?_
        have hZ7 := k7.lst nZ.1 hZl
        have hN7 := k7.lst nN.1 hN6
        walk_at "rd"
        refine w_ninL2 hZ7 ?_
        by_cases hm : y ∈ hd
        · rw [decide_eq_false (fun z => z hm)]
          refine ⟨_, rfl, if_f rfl ?_⟩
          walk_at "rd"
          exact ⟨_, _, hd, rfl, k6.trans k7, hZ7, hnd, hsub, by omega, hlt⟩
        · rw [decide_eq_true hm]
          refine ⟨_, rfl, if_t rfl ?_⟩
          walk_at "rd"
          refine ⟨Z, hd.map V.int, rfl, .inl (SqL.of hZ7), ?_⟩
          walk_at "rd"
          refine ⟨N, nm.map V.int, rfl, .inl (SqL.of hN7), ?_⟩
          refine ⟨_, _, rfl, rfl, _, rfl, ?_⟩
          rw [List.length_map, List.length_map]
          by_cases hb : hd.length + 1 < nm.length
          · refine if_t (decide_eq_true (by omega)) ?_
            walk_at "rd"
            refine ⟨_, _, _, rfl, rfl, hZ7, by rw [List.length_map]; omega, _, _, hd ++ [y], rfl, KeptC.mut (k6.trans k7) hZ, by rw [List.map_append]; exact upd_same, ?_, fun v hv => ?_, by rw [List.length_append, List.length_singleton]; omega, by rw [List.length_append, List.length_singleton]; exact hb⟩
            · exact List.nodup_append.mpr ⟨hnd, by simp, fun x hx z hz e => hm (by rw [List.mem_singleton] at hz; rw [← hz, ← e]; exact hx)⟩
            · rcases List.mem_append.mp hv with z | z
              · exact hsub v z
              · rw [List.mem_singleton.mp z]; exact hy
          · refine if_f (decide_eq_false (by omega)) ?_
            walk_at "rd"
            exact ⟨_, _, hd, rfl, k6.trans k7, hZ7, hnd, hsub, by omega, hlt⟩
      · rintro σ' H' ⟨v6, v8, hd, rfl, k6, hZl, hnd, hsub, hle, hlt⟩
        have hD6 := k6.drw hD4
        have hN6 := k6.lst nN.1 hNl
        walk_at "rd"
        refine LcL.ints (fun n => decide (n ∉ hd)) V.int (by omega) hN6 (fun n H7 kk kk2 hn k7 h5 h6 => ?_) fun D2 H7 hD2 k7 h7 => ?_
        · walk_at "rd"
          refine w_ninL2 (k7.lst hZl) ?_
          by_cases m : n ∈ hd
          · rw [decide_eq_false (fun z => z m)]
            exact ⟨_, rfl, if_f rfl (h6 H7 (Kept.refl _) (decide_eq_false fun z => z m))⟩
          · rw [decide_eq_true m]
            refine ⟨_, rfl, if_t rfl ?_⟩
            walk_at "rd"
            exact h5 H7 (Kept.refl _) (decide_eq_true m)
        · obtain ⟨S2, eS⟩ : ∃ S2, S2 = nm.filter fun n => decide (n ∉ hd) := ⟨_, rfl⟩
          rw [← eS] at h7
          walk_at "rd"
          refine ⟨D2, _, rfl, .inl ⟨SqL.of h7, fun s1 hs1 => ?_⟩⟩
          have k8 := Kept.new (o := .tup (S2.map V.int)) hs1
          have hs1' : upd H7 s1 (.tup (S2.map V.int)) s1 = some (.tup (S2.map V.int)) := upd_same
          have hZ8 := k8.lst (k7.lst hZl)
          generalize upd H7 s1 (.tup (S2.map V.int)) = H8 at k8 hs1' hZ8
          have k78 := k7.trans k8
          walk_at "rd"
          refine ⟨Z, hd.map V.int, hd.map PyData.int, rfl, SqL.of hZ8, dpAll_ints hd, allAlike_ints hd, srt_intsS hd, depth_intsS hd, fun p2 hp2 => ?_⟩
          rw [sortD_map V.int PyData.int hd]
          have kp2 := Kept.new (o := .lst ((srtBy PyData.int hd).map V.int)) hp2
          walk_at "rd"
          refine ⟨p2, _, rfl, .inl ⟨SqL.of upd_same, fun s2 hs2 => ?_⟩⟩
          have ks2 := kp2.trans (Kept.new (o := .tup ((srtBy PyData.int hd).map V.int)) hs2)
          have hs2' : upd (upd H8 p2 (.lst ((srtBy PyData.int hd).map V.int))) s2 (.tup ((srtBy PyData.int hd).map V.int)) s2 = some (.tup ((srtBy PyData.int hd).map V.int)) := upd_same
          generalize upd (upd H8 p2 (.lst ((srtBy PyData.int hd).map V.int))) s2 (.tup ((srtBy PyData.int hd).map V.int)) = H9 at ks2 hs2'
          have kC : KeptC d c H' H9 := (k78.trans ks2).toC
          have hD9 := kC.drw hD6
          have hN9 := kC.lst nN.1 hN6
          have hs19 := ks2.tup hs1'
          walk_at "rd"
          refine ⟨d, c, N, nm, 1 + ct + more + 4, by simp [Int.natCast_add], by omega, hD9, ⟨nN.1, nN.2, .inl hN9⟩, by omega, by omega, hnv, fun rp H10 bs rc k10 hrp hbs hcf => ?_⟩
          walk_at "rd"
          refine ⟨by show 3 ≤ sizeLine; omega, fun p hp => ?_⟩
          have kN := Kept.new (o := .tup [V.ref s1, V.ref s2, V.ref rp]) hp
          have hD10 := k10.drw hD9
          have hmS : ∀ v, v ∈ S2 ↔ v ∈ nm ∧ v ∉ hd := fun v => by rw [eS, List.mem_filter, decide_eq_true_eq]
          have hmH : ∀ v, v ∈ srtBy PyData.int hd ↔ v ∈ hd := fun v => mem_srtBy
          have hperm : (S2 ++ hd).Perm nm := by
            have q := List.filter_append_perm (fun n => decide (n ∉ hd)) nm
            refine (List.Perm.append_left S2 ?_).trans (by rw [eS]; exact q)
            refine perm_mem hnd (asc_nodup (hna.filter _)) fun v => ?_
            rw [List.mem_filter]
            simp only [Bool.not_eq_true', decide_eq_false_iff_not, Decidable.not_not]
            exact ⟨fun z => ⟨hsub v z, z⟩, fun z => z.2⟩
          have hsum : S2.length + hd.length = nm.length := by rw [← List.length_append, hperm.length_eq]
          have hlH : (srtBy PyData.int hd).length = hd.length := (srtBy_perm _ _).length_eq
          refine k p _ S2 (srtBy PyData.int hd) rc ((((kB.trans k5).trans k6).trans kC).trans (k10.trans kN.toC)) ⟨s1, s2, rp, bs, upd_same, kN.tup (k10.tup hD9 hs19), kN.tup (k10.tup hD9 hs2'), kN.tup hrp, hbs.kept kN⟩
            ⟨by rw [eS]; exact hna.filter _, srt_ints hnd, fun v h1 h2 => ((hmS v).mp h1).2 ((hmH v).mp h2), fun v hv => hnv v ?_, by omega, by omega, by omega, Nat.le_trans hcf.len (by omega), hcf.asc, fun x hx => ?_⟩
          · rcases hv with z | z
            · exact ((hmS v).mp z).1
            · exact hsub v ((hmH v).mp z)
          · obtain ⟨a1, a2, a3⟩ := hcf.cls x hx
            refine ⟨a1, a2, fun n hn => ?_⟩
            by_cases hh : absI n ∈ hd
            · exact .inr ((hmH _).mpr hh)
            · exact .inl ((hmS _).mpr ⟨a3 n hn, hh⟩)
end
end Ky

namespace Ky
open PySem PySem.Spec PyProof.Rows L2
local macro_rules | `(tactic| walk_at "rd") => `(tactic| repeat (first
  | with_reducible refine w_seq ?_
  | with_reducible refine w_asg ?_
  | with_reducible refine w_ret ?_
  | with_reducible refine w_drop ?_
  | with_reducible refine w_ifs ?_
  | ((with_reducible refine' w_var ?hh ?_); (case hh => exact rfl))
  | with_reducible refine w_c ?_
  | with_reducible refine w_op ?_
  | with_reducible refine w_un ?_
  | with_reducible refine w_I0 ?_
  | with_reducible refine w_U ?_
  | with_reducible refine w_nil ?_
  | with_reducible refine w_cons ?_
  | with_reducible refine w_call ?_
  | with_reducible refine w_cb ?_
  | with_reducible refine w_test ?_
  | with_reducible refine w_B ?_
  | with_reducible refine w_bl ?_
  | with_reducible refine w_and ?_
  | with_reducible refine w_or ?_
  | with_reducible refine w_not ?_
  | with_reducible refine w_ife ?_
  | with_reducible refine w_gRd ?_
  | with_reducible refine w_andV ?_
  | with_reducible refine w_orV ?_
  | with_reducible refine w_notV ?_
  | with_reducible refine w_chain ?_
  | with_reducible refine w_din ?_
  | with_reducible refine w_isi_ii ?_
  | with_reducible refine w_isi_ib ?_
  | with_reducible refine w_isi_it ?_
  | with_reducible refine w_isi_st ?_
  | ((with_reducible refine w_isi_tt ?h1 ?_); (case h1 => first | assumption | exact upd_same))
  | with_reducible refine if_t rfl ?_
  | with_reducible refine if_f rfl ?_
  | with_reducible refine w_tup ?_
  | with_reducible refine w_lst ?_
  | with_reducible refine w_next ?_
  | with_reducible refine w_bm ?_
  | with_reducible refine w_sl ?_
  | with_reducible refine w_part ?_
  | with_reducible refine w_nop ?_
  | with_reducible refine w_isI ?_
  | with_reducible refine w_yes ?_
  | with_reducible refine w_gn ?_
  | with_reducible refine w_gsub ?_
  | ((with_reducible refine' w_setL ?h1 ?h2 ?_); (case h1 => first | assumption | exact upd_same); (case h2 => exact rfl))
  | with_reducible refine w_asgG ?_
  | with_reducible refine w_m1 ?_
  | with_reducible refine w_isS ?_
  | with_reducible refine w_tyS ?_
  | ((with_reducible refine' w_tyL ?h1 ?_); (case h1 => first | assumption | exact upd_same))
  | ((with_reducible refine' w_ixT ?h1 ?h2 ?_); (case h1 => first | assumption | exact upd_same); (case h2 => exact rfl))
  | ((with_reducible refine' w_ixL ?h1 ?h2 ?_); (case h1 => first | assumption | exact upd_same); (case h2 => exact rfl))
  | ((with_reducible refine w_eq ?h1 ?_); (case h1 => exact rfl))
  | ((with_reducible refine w_ne ?h1 ?_); (case h1 => exact rfl))
  | dsimp only [List.set_cons_zero, List.set_cons_succ, List.append_nil, List.cons_append, List.nil_append, cxOf]))

section
variable {P : Program} {w : World} {K : PySem.W.Frag} {mg : Str → Option Value} {base : Heap} {uG : Value} {f : Addr} {fd : FuncData}
theorem ok_l_keeps (F : Fun K "_law_keeps" "_law_keeps" s_l_keeps f fd) (T : Tx K mg) : FnOk P w K mg base CX0 1 f fd ["residue", "filling"] spLKeeps := by
  refine F.ok sc_l_keeps (fun vs H Q E h => ?_) (fun cdv A outer s H vs Q E hr h => ?_)
  · obtain ⟨a, b, bs, cs, fs, rfl, _⟩ := h
    rfl
  · obtain ⟨a, b, bs, cs, fs, rfl, ha, hc, hz, hb, k⟩ := h
    have hlb : (bs.map V.ref).length = cs.length := by rw [List.length_map, hc.1]
    refine ⟨_, (pss_cons (ps_for PassesOwn.never rfl (pi_tupK (K := K) rfl (pv 0)) (pg_name (i := 2) sc_l_keeps.nd rfl (.inl rfl))
      (pss_one (ps_if (pt_cmpR (opK (K := K) (r := rEqD) rfl (op_eqD hr.units)) (pe_lc (own := [("literal", 3)]) (g := gName 3) (by rfl) sc_l_keeps.nd (pi_tupK (K := K) rfl (pv 2)) (blkOk_by (own := [("literal", 3)]) (N := n_l_keeps) (sc := defScope s_l_keeps) (by decide +kernel)) (fun _ _ _ _ _ => pg_name (i := 3) sc_l_keeps.nd rfl (Or.inl rfl)) (fun _ _ _ _ _ => pts_one (pt_cmpR (opK (K := K) (r := fun K => rIn K false) rfl op_in_seq) (pv 3) (pv 1) (by rfl))) (fun _ _ _ _ _ => (pv 3))) (pe_lst pa_nil) (nomark _))
      (pss_one (ps_ret pe_bl))
      pss_nil)))
    (pss_one (ps_ret pe_bl))), ?_⟩
    rw [show start n_l_keeps [(.ref a : V), (.ref b : V)] = ([some (.ref a), some (.ref b), none, none] : List (Option V)) from rfl]
    walk_at "rd"
    refine ⟨_, rfl, a, rfl, ⟨_, SqT.of ha⟩, for_tup (K := K) (a := a) (xs := bs.map V.ref) (fun i σ' H' => ∃ (v2 : Option V), σ' = [some (.ref a), some (.ref b), v2, none] ∧ Kept H H' ∧ ((cs.take i).all fun c => c.any fun x => decide (x ∈ fs)) = true)
        ⟨none, rfl, Kept.refl _, rfl⟩ (fun i σ' H' _ h => by
          obtain ⟨_, _, k1, _⟩ := h
          exact SqT.of (k1.tup ha)) ?_ ?_⟩
    · rintro i x σ' H' hx ⟨v2, rfl, k1, hall⟩
      rw [List.getElem?_map] at hx
      obtain ⟨q, hq, rfl⟩ := Option.map_eq_some_iff.mp hx
      have hi : i < cs.length := by rw [← hc.1]; exact (List.getElem?_eq_some_iff.mp hq).1
      have hci : cs[i]? = some cs[i] := List.getElem?_eq_getElem hi
      have hcm : cs[i] ∈ cs := List.getElem_mem hi
      have e1 := k1.tup (hc.2 i q _ hq hci)
      have eb := k1.tup hb
      have et : cs.take (i + 1) = cs.take i ++ [cs[i]] := by rw [List.take_add_one, hci]; rfl
      walk_at "rd"
      refine ⟨_, rfl, q, rfl, ⟨_, SqT.of e1⟩, fun D2 hD2 => ?_⟩
      refine c_tup (xs := cs[i].map V.int) (fun j H2 => H2 = upd H' D2 (.lst (((cs[i].take j).filter fun x => decide (x ∈ fs)).map V.int))) (by rw [List.take_zero]; rfl) (fun j H2 _ h => by rw [h]; exact SqT.of ((Kept.new hD2).tup e1)) (fun j x H2 hx h => ?_) fun H2 h => ?_
      · obtain ⟨n, rfl, hn⟩ := map_int hx
        have en : cs[i].take (j + 1) = cs[i].take j ++ [n] := by rw [List.take_add_one, hn]; rfl
        have eb2 : H2 b = some (.tup (fs.map V.int)) := by rw [h]; exact (Kept.new hD2).tup eb
        refine ⟨rfl, ?_⟩
        walk_at "rd"
        refine w_inT (ls := fs) eb2 ?_
        by_cases z : n ∈ fs
        · rw [decide_eq_true z]
          refine ⟨_, rfl, if_t rfl ?_⟩
          walk_at "rd"
          refine ⟨_, by rw [h]; exact upd_same, ?_, ?_⟩
          · rw [List.length_map]
            have h1 := List.length_filter_le (fun x => decide (x ∈ fs)) (cs[i].take j)
            rw [List.length_take] at h1
            have h2 := hz _ hcm
            have h3 : 1001 ≤ sizeLine := by decide
            have h4 : j < cs[i].length := (List.getElem?_eq_some_iff.mp hn).1
            omega
          · have hf : List.filter (fun x => decide (x ∈ fs)) [n] = [n] := List.filter_cons_of_pos (p := fun x => decide (x ∈ fs)) (decide_eq_true z)
            rw [h, upd_again, en, List.filter_append, hf, List.map_append] <;> rfl
        · rw [decide_eq_false z]
          refine ⟨_, rfl, if_f rfl ?_⟩
          have hf : List.filter (fun x => decide (x ∈ fs)) [n] = [] := List.filter_cons_of_neg (p := fun x => decide (x ∈ fs)) (by rw [decide_eq_false z]; exact Bool.false_ne_true)
          show H2 = _
          rw [h, en, List.filter_append, hf, List.append_nil]
      · rw [List.length_map, List.take_length] at h
        generalize hsh : cs[i].filter (fun x => decide (x ∈ fs)) = sh at h
        have kD2 := Kept.new (o := .lst (sh.map V.int)) hD2
        rw [← h] at kD2
        have hD3 : H2 D2 = some (.lst (sh.map V.int)) := by rw [h]; exact upd_same
        have eany : (cs[i].any fun x => decide (x ∈ fs)) = !decide (sh = []) := by
          rw [← hsh]
          cases e : cs[i].any fun x => decide (x ∈ fs) with
          | true =>
            obtain ⟨x, h1, h2⟩ := List.any_eq_true.mp e
            have hne : cs[i].filter (fun x => decide (x ∈ fs)) ≠ [] := List.ne_nil_of_mem (List.mem_filter.mpr ⟨h1, h2⟩)
            rw [decide_eq_false hne] <;> rfl
          | false =>
            have hn : cs[i].filter (fun x => decide (x ∈ fs)) = [] := List.filter_eq_nil_iff.mpr fun x hx hy => by
              rw [List.any_eq_false] at e
              exact e x hx hy
            rw [decide_eq_true hn] <;> rfl
        walk_at "rd"
        refine ⟨Nat.zero_le _, fun q2 hq2 => ?_⟩
        have kQ := Kept.new (o := .lst []) hq2
        refine ⟨.list (sh.map PyData.int), .list [], .lst (SqL.of (kQ.lst hD3)) (dpAll_ints sh), .lst (SqL.of upd_same) .nil, shLi sh, shLi [], ?_⟩
        have ee : PyData.eqv (.list (sh.map PyData.int)) (.list []) = decide (sh = []) := by
          simp only [PyData.eqv]
          exact eqvAll_ints sh []
        rw [ee]
        have kA := (k1.trans kD2).trans kQ
        refine ⟨_, rfl, ?_⟩
        by_cases z : sh = []
        · rw [decide_eq_true z]
          refine if_t rfl ?_
          walk_at "rd"
          have ev : (cs.all fun c => c.any fun x => decide (x ∈ fs)) = false := List.all_eq_false.mpr ⟨_, hcm, by rw [eany, decide_eq_true z]; exact Bool.false_ne_true⟩
          rw [← ev]
          exact k _ kA
        · rw [decide_eq_false z]
          refine if_f rfl ?_
          refine ⟨_, rfl, kA, ?_⟩
          rw [et, List.all_append, hall, Bool.true_and, List.all_cons, eany, decide_eq_false z] <;> rfl
    · rintro σ' H' ⟨v2, rfl, k1, hall⟩
      rw [hlb, List.take_length] at hall
      walk_at "rd"
      rw [← hall]
      exact k _ k1
end
end Ky

namespace Ky
open PySem PySem.Spec PyProof.Rows L2
local macro_rules | `(tactic| walk_at "rd") => `(tactic| repeat (first
  | with_reducible refine w_for1 ?_
  | with_reducible refine w_for2 ?_
  | with_reducible refine w_forL ?_
  | with_reducible refine w_forT ?_
  | with_reducible refine w_lc1 ?_
  | with_reducible refine w_lcL ?_
  | with_reducible refine w_lcT ?_
  | with_reducible refine w_dcL ?_
  | with_reducible refine w_dcT ?_
  | with_reducible refine w_seq ?_
  | with_reducible refine w_asg ?_
  | with_reducible refine w_ret ?_
  | with_reducible refine w_drop ?_
  | with_reducible refine w_ifs ?_
  | ((with_reducible refine' w_var ?hh ?_); (case hh => exact rfl))
  | with_reducible refine w_c ?_
  | with_reducible refine w_op ?_
  | with_reducible refine w_un ?_
  | with_reducible refine w_I0 ?_
  | with_reducible refine w_U ?_
  | with_reducible refine w_nil ?_
  | with_reducible refine w_cons ?_
  | with_reducible refine w_call ?_
  | with_reducible refine w_cb ?_
  | with_reducible refine w_test ?_
  | with_reducible refine w_B ?_
  | with_reducible refine w_bl ?_
  | with_reducible refine w_and ?_
  | with_reducible refine w_or ?_
  | with_reducible refine w_not ?_
  | with_reducible refine w_ife ?_
  | with_reducible refine w_gRd ?_
  | with_reducible refine w_andV ?_
  | with_reducible refine w_orV ?_
  | with_reducible refine w_notV ?_
  | with_reducible refine w_chain ?_
  | with_reducible refine w_din ?_
  | with_reducible refine w_isi_ii ?_
  | with_reducible refine w_isi_bi ?_
  | with_reducible refine w_isi_bb ?_
  | with_reducible refine w_isi_bt ?_
  | with_reducible refine w_isi_si ?_
  | with_reducible refine w_isi_nt ?_
  | with_reducible refine w_isi_ib ?_
  | with_reducible refine w_isi_it ?_
  | with_reducible refine w_isi_st ?_
  | ((with_reducible refine w_isi_tt ?h1 ?_); (case h1 => first | assumption | exact upd_same))
  | with_reducible refine if_t rfl ?_
  | with_reducible refine if_f rfl ?_
  | with_reducible refine w_tup ?_
  | with_reducible refine w_lst ?_
  | with_reducible refine w_next ?_
  | with_reducible refine w_bm ?_
  | with_reducible refine w_sl ?_
  | with_reducible refine w_part ?_
  | with_reducible refine w_nop ?_
  | with_reducible refine w_isI ?_
  | with_reducible refine w_yes ?_
  | with_reducible refine w_gn ?_
  | with_reducible refine w_gsub ?_
  | ((with_reducible refine' w_setL ?h1 ?h2 ?_); (case h1 => first | assumption | exact upd_same); (case h2 => exact rfl))
  | with_reducible refine w_asgG ?_
  | with_reducible refine w_m1 ?_
  | with_reducible refine w_isS ?_
  | with_reducible refine w_tyS ?_
  | ((with_reducible refine' w_tyL ?h1 ?_); (case h1 => first | assumption | exact upd_same))
  | ((with_reducible refine' w_ixT ?h1 ?h2 ?_); (case h1 => first | assumption | exact upd_same); (case h2 => exact rfl))
  | ((with_reducible refine' w_ixL ?h1 ?h2 ?_); (case h1 => first | assumption | exact upd_same); (case h2 => exact rfl))
  | ((with_reducible refine w_eq ?h1 ?_); (case h1 => exact rfl))
  | ((with_reducible refine w_ne ?h1 ?_); (case h1 => exact rfl))
  | dsimp only [List.set_cons_zero, List.set_cons_succ, List.append_nil, List.cons_append, List.nil_append, cxOf]))

def spLFill : Sp := fun vs H Q _ => ∃ (a : Addr) (vs0 : List Int), vs = [.ref a] ∧ H a = some (.tup (vs0.map V.int)) ∧ vs0.length ≤ 8 ∧ ∀ q H' bs, Kept H H' → H q = none → H' q = some (.lst (bs.map V.ref)) → ClsAt H' bs (fillF vs0) → Q (.ref q) H'
theorem longF_snoc (cs : List (List Int)) (c : List Int) (v : Int) : longF (cs ++ [c]) v = longF cs v ++ [c ++ [-v], c ++ [v]] := by rw [longF_app, longF_one]
theorem take_fill {vs : List Int} {i : Nat} (h : vs.length ≤ 8) : (fillF (vs.take i)).length ≤ 256 := by
  rw [fillF_len]
  exact Nat.pow_le_pow_right (by decide) (Nat.le_trans (by rw [List.length_take]; omega) h)
theorem w_oneT {K : PySem.W.Frag} {H : Hp} {Q : VK} {a b : Addr} {c : List Int} {v : Int} (ha : H a = some (.tup (c.map V.int))) (hb : H b = some (.tup [.int v])) (hl : c.length ≤ 900) (q : ∀ p H', Kept H H' → H' p = some (.tup ((c ++ [v]).map V.int)) → Q (.ref p) H') : rCatA K (.ref a) (.ref b) H Q :=
  w_catA (ys := [v]) ha hb (by rw [List.length_singleton]; omega) q
section
variable {P : Program} {w : World} {K : PySem.W.Frag} {mg : Str → Option Value} {base : Heap} {uG : Value} {f : Addr} {fd : FuncData}
theorem ok_l_fillings (F : Fun K "_law_fillings" "_law_fillings" s_l_fillings f fd) (T : Tx K mg) : FnOk P w K mg base CX0 1 f fd ["variables"] spLFill := by
  refine F.ok sc_l_fillings (fun vs H Q E h => ?_) (fun cdv A outer s H vs Q E hr h => ?_)
  · obtain ⟨a, vs0, rfl, _⟩ := h
    rfl
  · obtain ⟨a, vs0, rfl, ha, hz, k⟩ := h
    have hsl : 1001 ≤ sizeLine := by decide
    refine ⟨_, (pss_cons (ps_set (i := 1) sc_l_fillings.nd rfl (.inl rfl) (pe_lst (pa_cons (pe_tup pa_nil) pa_nil)))
    (pss_cons (ps_for PassesOwn.never rfl (pi_tupK (K := K) rfl (pv 0)) (pg_name (i := 2) sc_l_fillings.nd rfl (.inl rfl))
      (pss_cons (ps_set (i := 3) sc_l_fillings.nd rfl (.inl rfl) (pe_lst pa_nil))
    (pss_cons (ps_for PassesOwn.never rfl (pi_listK (K := K) rfl (pv 1)) (pg_name (i := 4) sc_l_fillings.nd rfl (.inl rfl))
      (pss_one (ps_set (i := 3) sc_l_fillings.nd rfl (.inl rfl) (pe_op op_cat (pv 3) (pe_lst (pa_cons (pe_op op_catA (pv 4) (pe_tup (pa_cons (pe_un un_neg (pv 2)) pa_nil))) (pa_cons (pe_op op_catA (pv 4) (pe_tup (pa_cons (pv 2) pa_nil))) pa_nil)))))))
    (pss_one (ps_set (i := 1) sc_l_fillings.nd rfl (.inl rfl) (pv 3))))))
    (pss_one (ps_ret (pv 1))))), ?_⟩
    rw [show start n_l_fillings [(.ref a : V)] = ([some (.ref a), none, none, none, none] : List (Option V)) from rfl]
    walk_at "rd"
    refine ⟨Nat.zero_le _, fun p0 hp0 => ?_⟩
    have k0 := Kept.new (o := .tup []) hp0
    have e0 : (upd H p0 (.tup [])) p0 = some (.tup []) := upd_same
    generalize upd H p0 (.tup []) = H1 at k0 e0
    walk_at "rd"
    refine ⟨by show 1 ≤ sizeLine; omega, fun L hL => ?_⟩
    have k1 := Kept.new (o := .lst [.ref p0]) hL
    have eL : (upd H1 L (.lst [.ref p0])) L = some (.lst (([p0] : List Addr).map V.ref)) := upd_same
    have e0 := k1.tup e0
    generalize upd H1 L (.lst [.ref p0]) = H2 at k1 eL e0
    walk_at "rd"
    refine FrT.mk (xs := vs0.map V.int) (fun i σ' H' => ∃ v2 v3 v4 q bs, σ' = [some (.ref a), some (.ref q), v2, v3, v4] ∧ Kept H H' ∧ H q = none ∧ H' q = some (.lst (bs.map V.ref)) ∧ ClsAt H' bs (fillF (vs0.take i)))
      ⟨none, none, none, L, [p0], rfl, k0.trans k1, k0.free _ hL, eL, ⟨rfl, fun i b c h1 h2 => ?_⟩⟩ (fun i σ' H' _ h => by
        obtain ⟨_, _, _, _, _, _, kk, _⟩ := h
        exact SqT.of (kk.tup ha)) ?_ ?_
    · cases i with
      | zero =>
        cases h1
        rw [List.take_zero] at h2
        cases h2
        exact e0
      | succ i => simp at h1
    · rintro i x σ' H' hx ⟨v2, v3, v4, q, bs, rfl, kk, hqn, hq, hbs⟩
      obtain ⟨n, rfl, hn⟩ := map_int hx
      have hi : i < vs0.length := (List.getElem?_eq_some_iff.mp hn).1
      have en : vs0.take (i + 1) = vs0.take i ++ [n] := by rw [List.take_add_one, hn] <;> rfl
      have hf := take_fill (i := i) hz
      walk_at "rd"
      refine ⟨Nat.zero_le _, fun M hM => ?_⟩
      have k3 := Kept.new (o := .lst []) hM
      have eM : (upd H' M (.lst [])) M = some (.lst (([] : List Addr).map V.ref)) := upd_same
      have hq3 := k3.lst hq
      have hbs3 := hbs.kept k3
      generalize upd H' M (.lst []) = H3 at k3 eM hq3 hbs3
      walk_at "rd"
      refine FrL.mk (xs := bs.map V.ref) (fun j σ' H'' => ∃ v4 m ms, σ' = [some (.ref a), some (.ref q), some (.int n), some (.ref m), v4] ∧ Kept H3 H'' ∧ H m = none ∧ H'' m = some (.lst (ms.map V.ref)) ∧ ClsAt H'' ms (longF ((fillF (vs0.take i)).take j) n))
        ⟨v4, M, [], rfl, Kept.refl _, kk.free _ hM, eM, ⟨by rw [List.take_zero] <;> rfl, fun i b c h1 h2 => by simp at h1⟩⟩ (fun j σ' H'' _ h => by
          obtain ⟨_, _, _, _, k4, _⟩ := h
          exact SqL.of (k4.lst hq3)) ?_ ?_
      · rintro j x σ' H'' hx ⟨v4, m, ms, rfl, k4, hmn, hm, hms⟩
        rw [List.getElem?_map] at hx
        obtain ⟨b, hb, rfl⟩ := Option.map_eq_some_iff.mp hx
        have hj : j < (fillF (vs0.take i)).length := by rw [← hbs3.1]; exact (List.getElem?_eq_some_iff.mp hb).1
        have hcj : (fillF (vs0.take i))[j]? = some (fillF (vs0.take i))[j] := List.getElem?_eq_getElem hj
        have hbc := (hbs3.kept k4).2 j b _ hb hcj
        have ej : (fillF (vs0.take i)).take (j + 1) = (fillF (vs0.take i)).take j ++ [(fillF (vs0.take i))[j]] := by rw [List.take_add_one, hcj] <;> rfl
        walk_at "rd"
        have hcl : (fillF (vs0.take i))[j].length ≤ 8 := by
          rw [isFill_len (fillF_is (List.getElem_mem hj)), List.length_take]
          omega
        generalize (fillF (vs0.take i))[j] = c at hbc ej hcl
        refine ⟨by show 1 ≤ sizeLine; omega, fun p1 hp1 => ?_⟩
        have k5 := Kept.new (o := .tup [.int (-n)]) hp1
        refine w_oneT (k5.tup hbc) upd_same (by omega) fun c1 H4 k6 hc1 => ?_
        have k56 := k5.trans k6
        walk_at "rd"
        refine ⟨by show 1 ≤ sizeLine; omega, fun p2 hp2 => ?_⟩
        have k7 := Kept.new (o := .tup [.int n]) hp2
        refine w_oneT (k7.tup (k56.tup hbc)) upd_same (by omega) fun c2 H5 k8 hc2 => ?_
        have k78 := k7.trans k8
        walk_at "rd"
        refine ⟨by show 2 ≤ sizeLine; omega, fun l hl => ?_⟩
        have k9 := Kept.new (o := .lst [.ref c1, .ref c2]) hl
        have el : (upd H5 l (.lst [.ref c1, .ref c2])) l = some (.lst (([c1, c2] : List Addr).map V.ref)) := upd_same
        have hc1 := k9.tup (k78.tup hc1)
        have hc2 := k9.tup hc2
        generalize upd H5 l (.lst [.ref c1, .ref c2]) = H6 at k9 el hc1 hc2
        have k59 := k56.trans (k78.trans k9)
        have hmsl : ms.length ≤ 512 := by
          rw [hms.1, longF_len, List.length_take]
          omega
        refine ⟨m, l, _, _, rfl, rfl, k59.lst hm, el, by rw [List.length_map]; show _ + 2 ≤ _; omega, fun r hr => ?_⟩
        have k10 := Kept.new (o := .lst (ms.map V.ref ++ [c1, c2].map V.ref)) hr
        refine ⟨_, r, ms ++ [c1, c2], rfl, k4.trans (k59.trans k10), kk.free _ (k3.free _ (k4.free _ (k59.free _ hr))), by rw [upd_same, List.map_append], ?_⟩
        rw [ej, longF_snoc]
        exact (hms.kept (k59.trans k10)).app ⟨rfl, fun i b d h1 h2 => by
          rcases i with _ | _ | i
          · cases h1; cases h2; exact k10.tup hc1
          · cases h1; cases h2; exact k10.tup hc2
          · simp at h1⟩
      · rintro σ' H'' ⟨v4, m, ms, rfl, k4, hmn, hm, hms⟩
        rw [List.length_map, hbs3.1, List.take_length] at hms
        walk_at "rd"
        exact ⟨_, _, _, m, ms, rfl, kk.trans (k3.trans k4), hmn, hm, by rw [en, fillF_snoc]; exact hms⟩
    · rintro σ' H' ⟨v2, v3, v4, q, bs, rfl, kk, hqn, hq, hbs⟩
      rw [List.length_map, List.take_length] at hbs
      walk_at "rd"
      exact k q H' bs kk hqn hq hbs
end
end Ky

namespace Ky
open PySem PySem.Spec PyProof.Rows L2
local macro_rules | `(tactic| walk_at "rd") => `(tactic| repeat (first
  | with_reducible refine w_for1 ?_
  | with_reducible refine w_for2 ?_
  | with_reducible refine w_forL ?_
  | with_reducible refine w_forT ?_
  | with_reducible refine w_lc1 ?_
  | with_reducible refine w_lcL ?_
  | with_reducible refine w_lcT ?_
  | with_reducible refine w_dcL ?_
  | with_reducible refine w_dcT ?_
  | with_reducible refine w_seq ?_
  | with_reducible refine w_asg ?_
  | with_reducible refine w_ret ?_
  | with_reducible refine w_drop ?_
  | with_reducible refine w_ifs ?_
  | ((with_reducible refine' w_var ?hh ?_); (case hh => exact rfl))
  | with_reducible refine w_c ?_
  | with_reducible refine w_op ?_
  | with_reducible refine w_un ?_
  | with_reducible refine w_I0 ?_
  | with_reducible refine w_U ?_
  | with_reducible refine w_nil ?_
  | with_reducible refine w_cons ?_
  | with_reducible refine w_call ?_
  | with_reducible refine w_cb ?_
  | with_reducible refine w_test ?_
  | with_reducible refine w_B ?_
  | with_reducible refine w_bl ?_
  | with_reducible refine w_and ?_
  | with_reducible refine w_or ?_
  | with_reducible refine w_not ?_
  | with_reducible refine w_ife ?_
  | with_reducible refine w_gRd ?_
  | with_reducible refine w_andV ?_
  | with_reducible refine w_orV ?_
  | with_reducible refine w_notV ?_
  | with_reducible refine w_chain ?_
  | with_reducible refine w_din ?_
  | with_reducible refine w_isi_ii ?_
  | with_reducible refine w_isi_bi ?_
  | with_reducible refine w_isi_bb ?_
  | with_reducible refine w_isi_bt ?_
  | with_reducible refine w_isi_si ?_
  | with_reducible refine w_isi_nt ?_
  | with_reducible refine w_isi_ib ?_
  | with_reducible refine w_isi_it ?_
  | with_reducible refine w_isi_st ?_
  | ((with_reducible refine w_isi_tt ?h1 ?_); (case h1 => first | assumption | exact upd_same))
  | with_reducible refine if_t rfl ?_
  | with_reducible refine if_f rfl ?_
  | with_reducible refine w_tup ?_
  | with_reducible refine w_lst ?_
  | with_reducible refine w_next ?_
  | with_reducible refine w_bm ?_
  | with_reducible refine w_sl ?_
  | with_reducible refine w_part ?_
  | with_reducible refine w_nop ?_
  | with_reducible refine w_isI ?_
  | with_reducible refine w_yes ?_
  | with_reducible refine w_gn ?_
  | with_reducible refine w_gsub ?_
  | ((with_reducible refine' w_setL ?h1 ?h2 ?_); (case h1 => first | assumption | exact upd_same); (case h2 => exact rfl))
  | with_reducible refine w_asgG ?_
  | with_reducible refine w_m1 ?_
  | with_reducible refine w_isS ?_
  | with_reducible refine w_tyS ?_
  | ((with_reducible refine' w_tyL ?h1 ?_); (case h1 => first | assumption | exact upd_same))
  | ((with_reducible refine' w_ixT ?h1 ?h2 ?_); (case h1 => first | assumption | exact upd_same); (case h2 => exact rfl))
  | ((with_reducible refine' w_ixL ?h1 ?h2 ?_); (case h1 => first | assumption | exact upd_same); (case h2 => exact rfl))
  | ((with_reducible refine w_eq ?h1 ?_); (case h1 => exact rfl))
  | ((with_reducible refine w_ne ?h1 ?_); (case h1 => exact rfl))
  | dsimp only [List.set_cons_zero, List.set_cons_succ, List.append_nil, List.cons_append, List.nil_append, cxOf]))

def modF (S Hd : List Int) (rc : List (List Int)) : List (List Int) := (fillF S).filter fun f => (fillF Hd).any fun g => keepsF rc (f ++ g)
theorem dl_rows {K : PySem.W.Frag} {H : Hp} {a : Addr} {ps : List Addr} {cs : List (List Int)} (h1 : ClsAt H ps cs) (ha : H a = some (.lst (ps.map V.ref))) : Dp K H (.ref a) (.list (cs.map rowD)) := by
  refine .lst (SqL.of ha) (dpAll_of (by rw [List.length_map, List.length_map, h1.1]) fun i x d hx hd => ?_)
  rw [List.getElem?_map] at hx hd
  obtain ⟨b, hb, rfl⟩ := Option.map_eq_some_iff.mp hx
  obtain ⟨c, hc, rfl⟩ := Option.map_eq_some_iff.mp hd
  exact dp_ints (h1.2 i b c hb hc)
def spLMod : Sp := fun vs H Q _ => ∃ (a b r : Addr) (rb : List Addr) (S Hd : List Int) (rc : List (List Int)), vs = [.ref a, .ref b, .ref r] ∧ H a = some (.tup (S.map V.int)) ∧ H b = some (.tup (Hd.map V.int)) ∧ H r = some (.tup (rb.map V.ref)) ∧ ClsAt H rb rc ∧ S.length ≤ 8 ∧ Hd.length ≤ 8 ∧ (∀ c ∈ rc, c.length ≤ 1000) ∧
  ∀ q H' bs, Kept H H' → H' q = some (.lst (bs.map V.ref)) → ClsAt H' bs (modF S Hd rc) → Q (.ref q) H'
section
variable {P : Program} {w : World} {K : PySem.W.Frag} {mg : Str → Option Value} {base : Heap} {uG : Value} {f : Addr} {fd : FuncData}
theorem ok_l_models (F : Fun K "_law_models" "_law_models" s_l_models f fd) (T : Tx K mg) (D_l_fillings : Df P w K mg base 1 "_law_fillings" ["variables"] spLFill) (D_l_keeps : Df P w K mg base 1 "_law_keeps" ["residue", "filling"] spLKeeps) : FnOk P w K mg base CX0 2 f fd ["shown", "hidden", "residue"] spLMod := by
  refine F.ok sc_l_models (fun vs H Q E h => ?_) (fun cdv A outer s H vs Q E hr h => ?_)
  · obtain ⟨a, b, r, rb, S, Hd, rc, rfl, _⟩ := h
    rfl
  · obtain ⟨a, b, r, rb, S, Hd, rc, rfl, ha, hb, hr0, hrb, hS, hH, hz, k⟩ := h
    have hsl : 1001 ≤ sizeLine := by decide
    refine ⟨_, (pss_cons (ps_set (i := 3) sc_l_models.nd rfl (.inl rfl) (pe_lst pa_nil))
    (pss_cons (ps_set (i := 4) sc_l_models.nd rfl (.inl rfl) (pe_df D_l_fillings (hr.mono (by decide)) (by rfl) (pa_cons (pv 1) pa_nil)))
    (pss_cons (ps_for PassesOwn.never rfl (pi_listK (K := K) rfl (pe_df D_l_fillings (hr.mono (by decide)) (by rfl) (pa_cons (pv 0) pa_nil))) (pg_name (i := 5) sc_l_models.nd rfl (.inr rfl))
      (pss_one (ps_if (pt_cmpR (opK (K := K) (r := rNeD) rfl (op_neD hr.units)) (pe_lc (own := [("other", 6)]) (g := gName 6) (by rfl) sc_l_models.nd (pi_listK (K := K) rfl (pv 4)) (blkOk_by (own := [("other", 6)]) (N := n_l_models) (sc := defScope s_l_models) (by decide +kernel)) (fun _ _ _ _ _ => pg_name (i := 6) sc_l_models.nd rfl (Or.inl rfl)) (fun _ _ _ _ _ => pts_one (pt_val (pe_df D_l_keeps (hr.mono (by decide)) (by rfl) (pa_cons (pv 2) (pa_cons (pe_op (opK (K := K) (r := rCatA) rfl op_catA) (pv 5) (pv 6)) pa_nil))))) (fun _ _ _ _ _ => (pv 6))) (pe_lst pa_nil) (nomark _))
      (pss_one (ps_expr (pe_bm PySem.F.plainAttrs_list PySem.F.slot_list_append PySem.F.type_list_append mt_append (pv 3) (pa_cons (pv 5) pa_nil))))
      pss_nil)))
    (pss_one (ps_ret (pv 3)))))), ?_⟩
    rw [show start n_l_models [(.ref a : V), (.ref b : V), (.ref r : V)] = ([some (.ref a), some (.ref b), some (.ref r), none, none, none, none] : List (Option V)) from rfl]
    walk_at "rd"
    refine ⟨Nat.zero_le _, fun D hD => ?_⟩
    have kD := Kept.new (o := .lst []) hD
    have eD : (upd H D (.lst [])) D = some (.lst (([] : List Addr).map V.ref)) := upd_same
    generalize upd H D (.lst []) = H1 at kD eD
    walk_at "rd"
    refine ⟨b, Hd, rfl, kD.tup hb, hH, fun q1 H2 b1 k1 hq1n hq1 hb1 => ?_⟩
    have k2 := kD.trans k1
    walk_at "rd"
    refine ⟨a, S, rfl, k2.tup ha, hS, fun q2 H3 b2 k3 hq2n hq2 hb2 => ?_⟩
    have k4 := k2.trans k3
    have hf2 := take_fill (vs := S) (i := S.length) hS
    have hf1 := take_fill (vs := Hd) (i := Hd.length) hH
    rw [List.take_length] at hf1 hf2
    walk_at "rd"
    have neq1 : D ≠ q1 := ne_of_none eD hq1n
    have eD2 := k1.lst eD
    have neq2 : D ≠ q2 := ne_of_none eD2 hq2n
    have eD3 := k3.lst eD2
    have hfz : ∀ c ∈ fillF S, c.length ≤ 8 := fun c hc => by rw [isFill_len (fillF_is hc)]; exact hS
    have hgz : ∀ c ∈ fillF Hd, c.length ≤ 8 := fun c hc => by rw [isFill_len (fillF_is hc)]; exact hH
    have hq1' := k3.lst hq1
    have hb1' := hb1.kept k3
    unfold modF at k
    generalize fillF S = fs at *
    generalize fillF Hd = gs at *
    refine FrL.mk (xs := b2.map V.ref) (fun i σ' H' => ∃ (v5 v6 : Option V) (qs : List Addr), σ' = [some (.ref a), some (.ref b), some (.ref r), some (.ref D), some (.ref q1), v5, v6] ∧ Kept H H' ∧ H' q1 = some (.lst (b1.map V.ref)) ∧ ClsAt H' b1 gs ∧ H' q2 = some (.lst (b2.map V.ref)) ∧ ClsAt H' b2 fs ∧ H' D = some (.lst (qs.map V.ref)) ∧ ClsAt H' qs ((fs.take i).filter fun f => gs.any fun g => keepsF rc (f ++ g)))
      ⟨none, none, [], rfl, k4, hq1', hb1', hq2, hb2, eD3, ⟨by rw [List.take_zero] <;> rfl, fun i b c h1 h2 => by simp at h1⟩⟩ (fun i σ' H' _ h => by
        obtain ⟨_, _, _, _, _, _, _, k1, _⟩ := h
        exact SqL.of k1) ?_ ?_
    · rintro i x σ' H' hx ⟨v5, v6, qs, rfl, k5, g1, g2, g3, g4, hDq, hqs⟩
      rw [List.getElem?_map] at hx
      obtain ⟨e, he, rfl⟩ := Option.map_eq_some_iff.mp hx
      have hi : i < fs.length := by rw [← hb2.1]; exact (List.getElem?_eq_some_iff.mp he).1
      have hfi : fs[i]? = some fs[i] := List.getElem?_eq_getElem hi
      have hfiz := hfz _ (List.getElem_mem hi)
      have hbt := g4.2 i e _ he hfi
      have et : fs.take (i + 1) = fs.take i ++ [fs[i]] := by rw [List.take_add_one, hfi] <;> rfl
      have hql : qs.length ≤ 256 := by
        rw [hqs.1]
        refine Nat.le_trans (List.length_filter_le _ _) ?_
        rw [List.length_take]
        omega
      rw [et, List.filter_append]
      generalize fs[i] = fi at *
      walk_at "rd"
      refine LcL.run (xs := b1.map V.ref) (fun j => keepsF rc (fi ++ gs.getD j [])) (fun j => V.ref (b1.getD j 0)) (by rw [List.length_map, hb1.1]; omega) g1 (fun j x H4 kk kk2 hx k6 h5 h6 => ?_) fun M H4 hM k6 hMl => ?_
      · rw [List.getElem?_map] at hx
        obtain ⟨o, ho, rfl⟩ := Option.map_eq_some_iff.mp hx
        have hj : j < gs.length := by rw [← hb1.1]; exact (List.getElem?_eq_some_iff.mp ho).1
        have hgj : gs[j]? = some gs[j] := List.getElem?_eq_getElem hj
        have hgd : gs.getD j [] = gs[j] := by rw [List.getD_eq_getElem?_getD, hgj] <;> rfl
        have hod : b1.getD j 0 = o := by rw [List.getD_eq_getElem?_getD, ho] <;> rfl
        have hgjz := hgz _ (List.getElem_mem hj)
        have hot := (g2.kept k6).2 j o _ ho hgj
        rw [hgd, hod] at h5
        rw [hgd] at h6
        generalize gs[j] = gj at *
        walk_at "rd"
        refine w_catA (k6.tup hbt) hot (by omega) fun p H5 k7 hp => ?_
        walk_at "rd"
        refine ⟨r, p, rb, rc, fi ++ gj, rfl, k7.tup ((k5.trans k6).tup hr0), (hrb.kept (k5.trans k6)).kept k7, hz, hp, fun H6 k8 => ?_⟩
        rw [← keepsF_all]
        refine ⟨_, rfl, ?_⟩
        cases hb0 : keepsF rc (fi ++ gj) with
        | true =>
          refine if_t rfl ?_
          walk_at "rd"
          exact h5 H6 (k7.trans k8) hb0
        | false => exact if_f rfl (h6 H6 (k7.trans k8) hb0)
      · walk_at "rd"
        refine ⟨Nat.zero_le _, fun Z hZ => ?_⟩
        have k9 := Kept.new (o := .lst []) hZ
        have eZ : (upd H4 Z (.lst [])) Z = some (.lst (([] : List Addr).map V.ref)) := upd_same
        have hM9 := k9.lst hMl
        generalize upd H4 Z (.lst []) = H5 at k9 eZ hM9
        have k69 := k6.trans k9
        have hl1 : (b1.map V.ref).length = gs.length := by rw [List.length_map, g2.1]
        rw [hl1] at hM9
        have hany : (gs.any fun g => keepsF rc (fi ++ g)) = !decide (((List.range gs.length).filter fun j => keepsF rc (fi ++ gs.getD j [])) = []) := by
          rw [Bool.eq_iff_iff, List.any_eq_true, Bool.not_eq_true', decide_eq_false_iff_not, List.filter_eq_nil_iff]
          constructor
          · rintro ⟨g, hg, hgk⟩ hno
            obtain ⟨j, hj, rfl⟩ := List.getElem_of_mem hg
            refine hno j (List.mem_range.mpr hj) ?_
            rw [List.getD_eq_getElem?_getD, List.getElem?_eq_getElem hj]
            exact hgk
          · intro hno
            rcases Classical.not_forall.mp hno with ⟨j, hno⟩
            rcases Classical.not_imp.mp hno with ⟨hj, hjk⟩
            have hj := List.mem_range.mp hj
            refine ⟨gs[j], List.getElem_mem hj, ?_⟩
            have := Classical.not_not.mp hjk
            rw [List.getD_eq_getElem?_getD, List.getElem?_eq_getElem hj] at this
            exact this
        have hcM : ClsAt H5 (((List.range gs.length).filter fun j => keepsF rc (fi ++ gs.getD j [])).map fun j => b1.getD j 0) (((List.range gs.length).filter fun j => keepsF rc (fi ++ gs.getD j [])).map fun j => gs.getD j []) := by
          refine ⟨by rw [List.length_map, List.length_map], fun i o d h1 h2 => ?_⟩
          rw [List.getElem?_map] at h1 h2
          obtain ⟨j, hj, rfl⟩ := Option.map_eq_some_iff.mp h1
          rw [hj] at h2
          cases h2
          have hjl := List.mem_range.mp (List.mem_filter.mp (List.mem_of_getElem? hj)).1
          have hjb : j < b1.length := by rw [g2.1]; exact hjl
          show H5 (b1.getD j 0) = some (.tup ((gs.getD j []).map V.int))
          rw [show b1.getD j 0 = b1[j] from by rw [List.getD_eq_getElem?_getD, List.getElem?_eq_getElem hjb] <;> rfl, show gs.getD j [] = gs[j] from by rw [List.getD_eq_getElem?_getD, List.getElem?_eq_getElem hjl] <;> rfl]
          exact k69.tup (g2.2 j _ _ (List.getElem?_eq_getElem hjb) (List.getElem?_eq_getElem hjl))
        generalize (List.range gs.length).filter (fun j => keepsF rc (fi ++ gs.getD j [])) = js at hany hcM hM9
        have hM9 : H5 M = some (.lst ((js.map fun j => b1.getD j 0).map V.ref)) := by rw [hM9, List.map_map] <;> rfl
        refine ⟨_, _, dl_rows hcM hM9, dl_rows (cs := []) ⟨rfl, fun i b c h1 h2 => by simp at h1⟩ eZ, shL_rows _, shL_rows _, ?_⟩
        rw [show PyData.eqv (.list ((js.map fun j => gs.getD j []).map rowD)) (.list (([] : List (List Int)).map rowD)) = decide (js = []) from by cases js <;> simp [PyData.eqv, PyData.eqvAll]]
        refine ⟨_, rfl, ?_⟩
        have hq59 := k69.lst hDq
        have c1 := k69.lst g1
        have c2 := g2.kept k69
        have c3 := k69.lst g3
        have c4 := g4.kept k69
        have cq := hqs.kept k69
        by_cases hjs : js = []
        · rw [decide_eq_true hjs] at hany ⊢
          refine if_f rfl ?_
          walk_at "rd"
          rw [List.filter_cons_of_neg (by rw [hany]; exact Bool.false_ne_true), List.filter_nil, List.append_nil]
          exact ⟨_, _, qs, rfl, k5.trans k69, c1, c2, c3, c4, hq59, cq⟩
        · rw [decide_eq_false hjs] at hany ⊢
          refine if_t rfl ?_
          walk_at "rd"
          rw [List.filter_cons_of_pos (by rw [hany] <;> rfl), List.filter_nil]
          refine ⟨D, qs.map V.ref, .ref e, rfl, rfl, hq59, by rw [List.length_map]; omega, _, _, qs ++ [e], rfl, Kept.mut (k5.trans k69) hD, by rw [upd_ne neq1.symm]; exact c1, clsAt_upd c2 hq59, by rw [upd_ne neq2.symm]; exact c3, clsAt_upd c4 hq59, by rw [List.map_append]; exact upd_same, clsAt_upd (clsAt_snoc cq (k69.tup hbt)) hq59⟩
    · rintro σ' H' ⟨v5, v6, qs, rfl, k5, g1, g2, g3, g4, hDq, hqs⟩
      rw [List.length_map, hb2.1, List.take_length] at hqs
      walk_at "rd"
      exact k D H' qs k5 hDq hqs
end
end Ky

namespace Ky
open PySem PySem.Spec PyProof.Rows L2
local macro_rules | `(tactic| walk_at "rd") => `(tactic| repeat (first
  | with_reducible refine w_for1 ?_
  | with_reducible refine w_for2 ?_
  | with_reducible refine w_forL ?_
  | with_reducible refine w_forT ?_
  | with_reducible refine w_lc1 ?_
  | with_reducible refine w_lcL ?_
  | with_reducible refine w_lcT ?_
  | with_reducible refine w_dcL ?_
  | with_reducible refine w_dcT ?_
  | with_reducible refine w_seq ?_
  | with_reducible refine w_asg ?_
  | with_reducible refine w_ret ?_
  | with_reducible refine w_drop ?_
  | with_reducible refine w_ifs ?_
  | ((with_reducible refine' w_var ?hh ?_); (case hh => exact rfl))
  | with_reducible refine w_c ?_
  | with_reducible refine w_op ?_
  | with_reducible refine w_un ?_
  | with_reducible refine w_I0 ?_
  | with_reducible refine w_U ?_
  | with_reducible refine w_nil ?_
  | with_reducible refine w_cons ?_
  | with_reducible refine w_call ?_
  | with_reducible refine w_cb ?_
  | with_reducible refine w_test ?_
  | with_reducible refine w_B ?_
  | with_reducible refine w_bl ?_
  | with_reducible refine w_and ?_
  | with_reducible refine w_or ?_
  | with_reducible refine w_not ?_
  | with_reducible refine w_ife ?_
  | with_reducible refine w_gRd ?_
  | with_reducible refine w_andV ?_
  | with_reducible refine w_orV ?_
  | with_reducible refine w_notV ?_
  | with_reducible refine w_chain ?_
  | with_reducible refine w_din ?_
  | with_reducible refine w_isi_ii ?_
  | with_reducible refine w_isi_bi ?_
  | with_reducible refine w_isi_bb ?_
  | with_reducible refine w_isi_bt ?_
  | with_reducible refine w_isi_si ?_
  | with_reducible refine w_isi_nt ?_
  | with_reducible refine w_isi_ib ?_
  | with_reducible refine w_isi_it ?_
  | with_reducible refine w_isi_st ?_
  | ((with_reducible refine w_isi_tt ?h1 ?_); (case h1 => first | assumption | exact upd_same))
  | with_reducible refine if_t rfl ?_
  | with_reducible refine if_f rfl ?_
  | with_reducible refine w_tup ?_
  | with_reducible refine w_lst ?_
  | with_reducible refine w_next ?_
  | with_reducible refine w_bm ?_
  | with_reducible refine w_sl ?_
  | with_reducible refine w_part ?_
  | with_reducible refine w_nop ?_
  | with_reducible refine w_isI ?_
  | with_reducible refine w_yes ?_
  | with_reducible refine w_gn ?_
  | with_reducible refine w_gsub ?_
  | ((with_reducible refine' w_setL ?h1 ?h2 ?_); (case h1 => first | assumption | exact upd_same); (case h2 => exact rfl))
  | with_reducible refine w_asgG ?_
  | with_reducible refine w_m1 ?_
  | with_reducible refine w_isS ?_
  | with_reducible refine w_tyS ?_
  | ((with_reducible refine' w_tyL ?h1 ?_); (case h1 => first | assumption | exact upd_same))
  | ((with_reducible refine' w_ixT ?h1 ?h2 ?_); (case h1 => first | assumption | exact upd_same); (case h2 => exact rfl))
  | ((with_reducible refine' w_ixL ?h1 ?h2 ?_); (case h1 => first | assumption | exact upd_same); (case h2 => exact rfl))
  | ((with_reducible refine w_eq ?h1 ?_); (case h1 => exact rfl))
  | ((with_reducible refine w_ne ?h1 ?_); (case h1 => exact rfl))
  | dsimp only [List.set_cons_zero, List.set_cons_succ, List.append_nil, List.cons_append, List.nil_append, cxOf]))

/-- the new name of a variable -/
def nmOf (vs ms : List Int) (k : Int) : Int := ((vs.zip ms).find? fun x => decide (x.1 = k)).elim k (·.2)
theorem valV_names {k : Int} : ∀ zs : List (Int × Int), (valV (zs.map fun x => ((Sum.inl x.1 : L2.Key), V.int x.2)) (Sum.inl k)).getD (.int k) = .int ((zs.find? fun x => decide (x.1 = k)).elim k (·.2))
  | [] => rfl
  | (a, b) :: r => by
    by_cases e : a = k
    · rw [List.map_cons, valV_pos (by rw [e]), List.find?_cons_of_pos (by simp [e])] <;> rfl
    · rw [List.map_cons, valV_neg (fun z => e (Sum.inl.inj z)), List.find?_cons_of_neg (by simp [e])]
      exact valV_names r
theorem namAt_of {H : Hp} {g : Addr} {vs ms : List Int} (h : H g = some (.dK (namesKv vs ms))) : NamAt H g (nmOf vs ms) := ⟨_, h, fun k => valV_names _⟩
theorem names_vals {vs ms : List Int} (h : ms.length = vs.length) : (namesKv vs ms).map (·.2) = ms.map V.int := by
  unfold namesKv
  rw [List.map_map]
  have e : (vs.zip ms).map Prod.snd = ms := List.map_snd_zip (by omega)
  have e2 : (vs.zip ms).map (fun x => V.int x.2) = ((vs.zip ms).map Prod.snd).map V.int := by rw [List.map_map] <;> rfl
  rw [e] at e2
  exact e2
def renC (vs ms : List Int) (rc : List (List Int)) : List (List Int) := rc.map fun c => clauseF (c.map (renL (nmOf vs ms)))
def spBoth (P0 : Addr) : Sp := fun vs H Q _ => ∃ (fa sb fs fh fr ss sh sr : Addr) (rb1 rb2 : List Addr) (S Hd Hs : List Int) (rc1 rc2 : List (List Int)), vs = [.ref fa, .ref sb] ∧ H fa = some (.tup [.ref fs, .ref fh, .ref fr]) ∧ H fs = some (.tup (S.map V.int)) ∧ H fh = some (.tup (Hd.map V.int)) ∧ H fr = some (.tup (rb1.map V.ref)) ∧ ClsAt H rb1 rc1 ∧ H sb = some (.tup [.ref ss, .ref sh, .ref sr]) ∧ H sh = some (.tup (Hs.map V.int)) ∧ H sr = some (.tup (rb2.map V.ref)) ∧ ClsAt H rb2 rc2 ∧
  S.length + Hd.length ≤ 400 ∧ Hs.length ≤ 400 ∧ Hs.Nodup ∧ (∀ k, k ∈ S ∨ k ∈ Hd → k ≤ 999) ∧ rc1.length + rc2.length ≤ 400 ∧ (∀ c, c ∈ rc1 ∨ c ∈ rc2 → c.length ≤ 400) ∧ GxR.TabG H P0 ∧
  ∀ ms last, ms.length = Hs.length → NewP (S ++ Hd) last ms → (∀ c ∈ rc2, bothS (c.map (renL (nmOf Hs ms))) = false) ∧
    ∀ p a b rb H', Kept H H' → H' p = some (.tup [.ref fs, .ref a, .ref b]) → H' a = some (.tup ((srtBy PyData.int (Hd ++ ms)).map V.int)) → H' b = some (.tup (rb.map V.ref)) → ClsAt H' rb (residueF (rc1 ++ renC Hs ms rc2)) → Q (.ref p) H'
section
variable {P : Program} {w : World} {K : PySem.W.Frag} {mg : Str → Option Value} {base : Heap} {uG : Value} {f : Addr} {fd : FuncData}
theorem ok_both {P0 : Addr} (F : Fun K "both" "both" s_both f fd) (T : Tx K mg) (D_new_names : Df P w K mg base 1 "new_names" ["first", "second"] spNewNames) (D_renamed : Df P w K mg base 5 "renamed" ["clause", "names"] (spRenamed P0)) (D_residue_of : Df P w K mg base 4 "residue_of" ["clauses"] spResidueOf) : FnOk P w K mg base CX0 6 f fd ["first", "second"] (spBoth P0) := by
  refine F.ok sc_both (fun vs H Q E h => ?_) (fun cdv A outer s H vs Q E hr h => ?_)
  · obtain ⟨fa, sb, fs, fh, fr, ss, sh, sr, rb1, rb2, S, Hd, Hs, rc1, rc2, rfl, _⟩ := h
    rfl
  · obtain ⟨fa, sb, fs, fh, fr, ss, sh, sr, rb1, rb2, S, Hd, Hs, rc1, rc2, rfl, hfa, hfs, hfh, hfr, hc1, hsb, hsh, hsr, hc2, hz1, hz2, hnd, hle, hz3, hz4, hTB, k⟩ := h
    have hsl : 1001 ≤ sizeLine := by decide
    refine ⟨_, (pss_cons (ps_asg (pv 0) (pg_tupK (K := K) rfl (by rfl) (pgs_cons (pg_name (i := 2) sc_both.nd rfl (.inl rfl)) (pgs_cons (pg_name (i := 3) sc_both.nd rfl (.inl rfl)) (pgs_cons (pg_name (i := 4) sc_both.nd rfl (.inl rfl)) pgs_nil)))))
    (pss_cons (ps_set (i := 5) sc_both.nd rfl (.inr rfl) (pe_df D_new_names (hr.mono (by decide)) (by rfl) (pa_cons (pv 0) (pa_cons (pv 1) pa_nil))))
    (pss_cons (ps_set (i := 6) sc_both.nd rfl (.inl rfl) (pe_op op_cat (pe_callTy call_list_of (by rfl) T.z_list (by decide +kernel) (pa_cons (pv 4) pa_nil)) (pe_lc (own := [("clause", 7)]) (g := gName 7) (by rfl) sc_both.nd (pi_tupK (K := K) rfl (pe_ix (ix_tupK (K := K) rfl) (pv 1) pe_int (fun _ _ => rfl))) (blkOk_by (own := [("clause", 7)]) (N := n_both) (sc := defScope s_both) (by decide +kernel)) (fun _ _ _ _ _ => pg_name (i := 7) sc_both.nd rfl (Or.inl rfl)) (fun _ _ _ _ _ => pts_nil) (fun _ _ _ _ _ => (pe_df D_renamed (hr.mono (by decide)) (by rfl) (pa_cons (pv 7) (pa_cons (pv 5) pa_nil)))))))
    (pss_one (ps_ret (pe_tup (pa_cons (pv 2) (pa_cons (pe_callTy call_tuple_of (by rfl) T.z_tuple (by decide +kernel) (pa_cons (pe_callB (cr_sortedD hr.units) (by rfl) T.z_sorted (by decide +kernel) (pa_cons (pe_op op_cat (pe_callTy call_list_of (by rfl) T.z_list (by decide +kernel) (pa_cons (pv 3) pa_nil)) (pe_callTy (call_list_vals rfl) (by rfl) T.z_list (by decide +kernel) (pa_cons (pe_bm0 PySem.F.plainAttrs_dict PySem.F.slot_dict_values PySem.F.type_dict_values mt_valsK (pv 5)) pa_nil))) pa_nil)) pa_nil)) (pa_cons (pe_df D_residue_of (hr.mono (by decide)) (by rfl) (pa_cons (pv 6) pa_nil)) pa_nil))))))))), ?_⟩
    rw [show start n_both [(.ref fa : V), (.ref sb : V)] = ([some (.ref fa), some (.ref sb), none, none, none, none, none, none] : List (Option V)) from rfl]
    walk_at "rd"
    refine w_gTup3 hfa ?_
    walk_at "rd"
    refine ⟨fa, sb, fs, fh, ss, sh, .ref fr, .ref sr, S, Hd, Hs, rfl, hfa, hfs, hfh, hsb, hsh, hz1, hz2, hnd, hle, fun g H1 ms last k1 hg hml hnp => ?_⟩
    obtain ⟨hno, k⟩ := k ms last hml hnp
    walk_at "rd"
    refine ⟨fr, _, rfl, .inr (SqT.of (k1.tup hfr)), fun l1 hl1 => ?_⟩
    have k2 := Kept.new (o := .lst (rb1.map V.ref)) hl1
    have el1 : (upd H1 l1 (.lst (rb1.map V.ref))) l1 = some (.lst (rb1.map V.ref)) := upd_same
    have hg2 : (upd H1 l1 (.lst (rb1.map V.ref))) g = some (.dK (namesKv Hs ms)) := k2.keep g _ (fun ps z => by cases z) hg
    generalize upd H1 l1 (.lst (rb1.map V.ref)) = H2 at k2 el1 hg2
    have k02 := k1.trans k2
    have hsb2 := k02.tup hsb
    walk_at "rd"
    have hlb : (rb2.map V.ref).length = rc2.length := by rw [List.length_map, hc2.1]
    refine LcT.tups (xs := rb2.map V.ref) (fun i => (clauseF ((rc2.getD i []).map (renL (nmOf Hs ms)))).map V.int) (by rw [hlb]; omega) (k02.tup hsr) (fun i x H3 kk2 hx k3 fin => ?_) fun L H3 qs hL k3 hLq hqn hq => ?_
    · rw [List.getElem?_map] at hx
      obtain ⟨e, he, rfl⟩ := Option.map_eq_some_iff.mp hx
      have hi : i < rc2.length := by rw [← hc2.1]; exact (List.getElem?_eq_some_iff.mp he).1
      have hci : rc2[i]? = some rc2[i] := List.getElem?_eq_getElem hi
      have hcd : rc2.getD i [] = rc2[i] := by rw [List.getD_eq_getElem?_getD, hci] <;> rfl
      have k03 := k02.trans k3
      have hz5 := hz4 rc2[i] (.inr (List.getElem_mem hi))
      rw [hcd] at fin
      walk_at "rd"
      refine ⟨e, g, rc2[i], nmOf Hs ms, rfl, k03.tup (hc2.2 i e _ he hci), hz5, (namAt_of hg2).kept k3, fun M H4 k4 hM => ?_⟩
      refine ⟨M, _, rfl, hM, by rw [List.length_map]; omega, (k03.trans k4).tab _ hTB, fun z => ?_, fun _ p H5 k5 hp hp2 => fin H5 p (k4.trans k5) hp2⟩
      rw [hno _ (List.getElem_mem hi)] at z
      cases z
    · have hg3 : H3 g = some (.dK (namesKv Hs ms)) := k3.keep g _ (fun ps z => by cases z) hg2
      have k03 := k02.trans k3
      have el3 := k3.lst el1
      walk_at "rd"
      have hqn2 : qs.length = rc2.length := hqn.trans hlb
      refine ⟨l1, L, _, _, rfl, rfl, el3, hLq, by rw [List.length_map, List.length_map, hqn2, hc1.1]; omega, fun l3 hl3 => ?_⟩
      rw [← List.map_append]
      have k4 := Kept.new (o := .lst ((rb1 ++ qs).map V.ref)) hl3
      have el4 : (upd H3 l3 (.lst ((rb1 ++ qs).map V.ref))) l3 = some (.lst ((rb1 ++ qs).map V.ref)) := upd_same
      have hg4 : (upd H3 l3 (.lst ((rb1 ++ qs).map V.ref))) g = some (.dK (namesKv Hs ms)) := k4.keep g _ (fun ps z => by cases z) hg3
      have hqc : ClsAt H3 (rb1 ++ qs) (rc1 ++ renC Hs ms rc2) := by
        refine ⟨by unfold renC; rw [List.length_append, List.length_append, List.length_map, hqn2, hc1.1], fun i b c h1 h2 => ?_⟩
        by_cases hi : i < rb1.length
        · rw [List.getElem?_append_left hi] at h1
          rw [List.getElem?_append_left (by rw [← hc1.1]; exact hi)] at h2
          exact k03.tup (hc1.2 i b c h1 h2)
        · rw [List.getElem?_append_right (by omega)] at h1
          rw [List.getElem?_append_right (by rw [← hc1.1]; omega), ← hc1.1] at h2
          unfold renC at h2
          rw [List.getElem?_map] at h2
          obtain ⟨d, hd, rfl⟩ := Option.map_eq_some_iff.mp h2
          have := hq _ b h1
          rw [List.getD_eq_getElem?_getD, hd] at this
          exact this
      generalize upd H3 l3 (.lst ((rb1 ++ qs).map V.ref)) = H4 at k4 el4 hg4
      have k04 := k03.trans k4
      walk_at "rd"
      refine ⟨fh, _, rfl, .inr (SqT.of (k04.tup hfh)), fun l5 hl5 => ?_⟩
      have k5 := Kept.new (o := .lst (Hd.map V.int)) hl5
      have el5 : (upd H4 l5 (.lst (Hd.map V.int))) l5 = some (.lst (Hd.map V.int)) := upd_same
      have hg5 : (upd H4 l5 (.lst (Hd.map V.int))) g = some (.dK (namesKv Hs ms)) := k5.keep g _ (fun ps z => by cases z) hg4
      have el45 := k5.lst el4
      generalize upd H4 l5 (.lst (Hd.map V.int)) = H5 at k5 el5 hg5 el45
      walk_at "rd"
      refine w_bm0 ?_
      walk_at "rd"
      refine ⟨.inr (.inr (.inl ⟨rfl, .inl ⟨_, hg5⟩⟩)), g, _, rfl, rfl, hg5, fun v hv => ?_⟩
      have k6 := Kept.new (o := valsO v g) hv
      have ev : (upd H5 v (valsO v g)) v = some (valsO v g) := upd_same
      have hg6 : (upd H5 v (valsO v g)) g = some (.dK (namesKv Hs ms)) := k6.keep g _ (fun ps z => by cases z) hg5
      have el6 := k6.lst el5
      have el46 := k6.lst el45
      generalize upd H5 v (valsO v g) = H6 at k6 ev hg6 el6 el46
      walk_at "rd"
      refine ⟨v, g, _, rfl, ev, hg6, fun l7 hl7 => ?_⟩
      rw [names_vals hml]
      have k7 := Kept.new (o := .lst (ms.map V.int)) hl7
      have el7 : (upd H6 l7 (.lst (ms.map V.int))) l7 = some (.lst (ms.map V.int)) := upd_same
      have el57 := k7.lst el6
      have el47 := k7.lst el46
      generalize upd H6 l7 (.lst (ms.map V.int)) = H7 at k7 el7 el57 el47
      walk_at "rd"
      refine ⟨l5, l7, _, _, rfl, rfl, el57, el7, by rw [List.length_map, List.length_map, hml]; omega, fun l8 hl8 => ?_⟩
      rw [← List.map_append]
      have k8 := Kept.new (o := .lst ((Hd ++ ms).map V.int)) hl8
      have el8 : (upd H7 l8 (.lst ((Hd ++ ms).map V.int))) l8 = some (.lst ((Hd ++ ms).map V.int)) := upd_same
      have el48 := k8.lst el47
      generalize upd H7 l8 (.lst ((Hd ++ ms).map V.int)) = H8 at k8 el8 el48
      walk_at "rd"
      refine ⟨l8, (Hd ++ ms).map V.int, (Hd ++ ms).map PyData.int, rfl, SqL.of el8, dpAll_ints _, allAlike_ints _, srt_intsS _, depth_intsS _, fun l9 hl9 => ?_⟩
      rw [sortD_map V.int PyData.int (Hd ++ ms)]
      have k9 := Kept.new (o := .lst ((srtBy PyData.int (Hd ++ ms)).map V.int)) hl9
      have el9 : (upd H8 l9 (.lst ((srtBy PyData.int (Hd ++ ms)).map V.int))) l9 = some (.lst ((srtBy PyData.int (Hd ++ ms)).map V.int)) := upd_same
      have el49 := k9.lst el48
      generalize upd H8 l9 (.lst ((srtBy PyData.int (Hd ++ ms)).map V.int)) = H9 at k9 el9 el49
      walk_at "rd"
      refine ⟨l9, _, rfl, .inl ⟨SqL.of el9, fun a ha => ?_⟩⟩
      have kA := Kept.new (o := .tup ((srtBy PyData.int (Hd ++ ms)).map V.int)) ha
      have ea : (upd H9 a (.tup ((srtBy PyData.int (Hd ++ ms)).map V.int))) a = some (.tup ((srtBy PyData.int (Hd ++ ms)).map V.int)) := upd_same
      have el4A := kA.lst el49
      generalize upd H9 a (.tup ((srtBy PyData.int (Hd ++ ms)).map V.int)) = HA at kA ea el4A
      have k3A := k4.trans (k5.trans (k6.trans (k7.trans (k8.trans (k9.trans kA)))))
      walk_at "rd"
      refine ⟨l3, rb1 ++ qs, _, rfl, el4A, hqc.kept k3A, by unfold renC; rw [List.length_append, List.length_map]; omega, fun c hc => ?_, fun b HB rb kB hbn hb hrb => ?_⟩
      · rcases List.mem_append.mp hc with z | z
        · have := hz4 c (.inl z)
          omega
        · obtain ⟨d, hd, rfl⟩ := List.mem_map.mp z
          have h1 := len_clauseF (d.map (renL (nmOf Hs ms)))
          have h2 := hz4 d (.inr hd)
          rw [List.length_map] at h1
          omega
      · walk_at "rd"
        refine ⟨by show 3 ≤ sizeLine; omega, fun p hp => ?_⟩
        have kC := Kept.new (o := .tup [.ref fs, .ref a, .ref b]) hp
        exact k p a b rb _ (k03.trans (k3A.trans (kB.trans kC))) upd_same (kC.tup (kB.tup ea)) (kC.tup hb) (hrb.kept kC)
end
end Ky

namespace Ky
open PySem PySem.Spec PyProof.Rows L2
local macro_rules | `(tactic| walk_at "rd") => `(tactic| repeat (first
  | with_reducible refine w_for1 ?_
  | with_reducible refine w_for2 ?_
  | with_reducible refine w_forL ?_
  | with_reducible refine w_forT ?_
  | with_reducible refine w_lc1 ?_
  | with_reducible refine w_lcL ?_
  | with_reducible refine w_lcT ?_
  | with_reducible refine w_dcL ?_
  | with_reducible refine w_dcT ?_
  | with_reducible refine w_seq ?_
  | with_reducible refine w_asg ?_
  | with_reducible refine w_ret ?_
  | with_reducible refine w_drop ?_
  | with_reducible refine w_ifs ?_
  | ((with_reducible refine' w_var ?hh ?_); (case hh => exact rfl))
  | with_reducible refine w_c ?_
  | with_reducible refine w_op ?_
  | with_reducible refine w_un ?_
  | with_reducible refine w_I0 ?_
  | with_reducible refine w_U ?_
  | with_reducible refine w_nil ?_
  | with_reducible refine w_cons ?_
  | with_reducible refine w_call ?_
  | with_reducible refine w_cb ?_
  | with_reducible refine w_test ?_
  | with_reducible refine w_B ?_
  | with_reducible refine w_bl ?_
  | with_reducible refine w_and ?_
  | with_reducible refine w_or ?_
  | with_reducible refine w_not ?_
  | with_reducible refine w_ife ?_
  | with_reducible refine w_gRd ?_
  | with_reducible refine w_andV ?_
  | with_reducible refine w_orV ?_
  | with_reducible refine w_notV ?_
  | with_reducible refine w_chain ?_
  | with_reducible refine w_din ?_
  | with_reducible refine w_isi_ii ?_
  | with_reducible refine w_isi_bi ?_
  | with_reducible refine w_isi_bb ?_
  | with_reducible refine w_isi_bt ?_
  | with_reducible refine w_isi_si ?_
  | with_reducible refine w_isi_nt ?_
  | with_reducible refine w_isi_ib ?_
  | with_reducible refine w_isi_it ?_
  | with_reducible refine w_isi_st ?_
  | ((with_reducible refine w_isi_tt ?h1 ?_); (case h1 => first | assumption | exact upd_same))
  | with_reducible refine if_t rfl ?_
  | with_reducible refine if_f rfl ?_
  | with_reducible refine w_tup ?_
  | with_reducible refine w_lst ?_
  | with_reducible refine w_next ?_
  | with_reducible refine w_bm ?_
  | with_reducible refine w_sl ?_
  | with_reducible refine w_part ?_
  | with_reducible refine w_nop ?_
  | with_reducible refine w_isI ?_
  | with_reducible refine w_yes ?_
  | with_reducible refine w_gn ?_
  | with_reducible refine w_gsub ?_
  | ((with_reducible refine' w_setL ?h1 ?h2 ?_); (case h1 => first | assumption | exact upd_same); (case h2 => exact rfl))
  | with_reducible refine w_asgG ?_
  | with_reducible refine w_m1 ?_
  | with_reducible refine w_isS ?_
  | with_reducible refine w_tyS ?_
  | ((with_reducible refine' w_tyL ?h1 ?_); (case h1 => first | assumption | exact upd_same))
  | ((with_reducible refine' w_ixT ?h1 ?h2 ?_); (case h1 => first | assumption | exact upd_same); (case h2 => exact rfl))
  | ((with_reducible refine' w_ixL ?h1 ?h2 ?_); (case h1 => first | assumption | exact upd_same); (case h2 => exact rfl))
  | ((with_reducible refine w_eq ?h1 ?_); (case h1 => exact rfl))
  | ((with_reducible refine w_ne ?h1 ?_); (case h1 => exact rfl))
  | dsimp only [List.set_cons_zero, List.set_cons_succ, List.append_nil, List.cons_append, List.nil_append, cxOf]))

/-- the clauses behind a change, or none if it is refused -/
def dueF (vs : List Int) (rc : List (List Int)) (c : List Int) : Bool → Option (List (List Int))
  | true => if c ∈ rc ∨ ∃ n ∈ c, absI n ∉ vs then none else some (residueF (rc ++ [c]))
  | false => if c ∈ rc then some (rc.filter fun d => decide (d ≠ c)) else none
/-- a formula at fp and a clause at ca -/
structure ChgAt (H : Hp) (fp ca fs fh fr : Addr) (bs : List Addr) (S Hd : List Int) (rc : List (List Int)) (c : List Int) : Prop where
  p : H fp = some (.tup [.ref fs, .ref fh, .ref fr])
  s : H fs = some (.tup (S.map V.int))
  h : H fh = some (.tup (Hd.map V.int))
  r : H fr = some (.tup (bs.map V.ref))
  cl : ClsAt H bs rc
  a : H ca = some (.tup (c.map V.int))
  z1 : S.length + Hd.length ≤ 400
  z2 : rc.length ≤ 400
  z3 : ∀ d ∈ rc, d.length ≤ 400
  z4 : c.length ≤ 400
  asc : ascC rc
theorem ChgAt.kept {H H' : Hp} {fp ca fs fh fr : Addr} {bs : List Addr} {S Hd : List Int} {rc : List (List Int)} {c : List Int} (h : ChgAt H fp ca fs fh fr bs S Hd rc c) (k : Kept H H') : ChgAt H' fp ca fs fh fr bs S Hd rc c :=
  ⟨k.tup h.p, k.tup h.s, k.tup h.h, k.tup h.r, h.cl.kept k, k.tup h.a, h.z1, h.z2, h.z3, h.z4, h.asc⟩
def spChange (P0 C : Addr) (put : Bool) : Sp := fun vs H Q E => ∃ (fp ca fs fh fr : Addr) (bs : List Addr) (S Hd : List Int) (rc : List (List Int)) (c : List Int), vs = [.ref fp, .ref ca] ∧ ChgAt H fp ca fs fh fr bs S Hd rc c ∧ GxR.TabG H P0 ∧
  (dueF (S ++ Hd) rc c put = none → ∀ H', Kept H H' → E (.ref C) none H') ∧
  ∀ es, dueF (S ++ Hd) rc c put = some es → ∀ p q qs H', Kept H H' → H' p = some (.tup [.ref fs, .ref fh, .ref q]) → H' q = some (.tup (qs.map V.ref)) → ClsAt H' qs es → Q (.ref p) H'
section
variable {P : Program} {w : World} {K : PySem.W.Frag} {mg : Str → Option Value} {base : Heap} {uG : Value} {f C : Addr} {fd : FuncData}
theorem ok_with_clause {c P0 : Addr} (F : FunC K "with_clause" s_with_clause f fd c) (T : Tx K mg) (TC : ExC K mg "ChangeError" C) (TB : GxR.TabB base mg c P0) (D_residue_with : Df P w K mg base 5 "residue_with" ["residue", "clause"] spResWith) : FnOk P w K mg base (L2.CX P w) 6 f fd ["formula", "clause"] (spChange P0 C true) := by
  refine F.okX sc_with_clause (fun vs H Q E h => ?_) (fun A outer s H vs Q E hr h => ?_)
  · obtain ⟨fp, ca, fs, fh, fr, bs, S, Hd, rc, c, rfl, _⟩ := h
    rfl
  · obtain ⟨fp, ca, fs, fh, fr, bs, S, Hd, rc, c, rfl, h, hT, kE, k⟩ := h
    have hsl : 1001 ≤ sizeLine := by decide
    have hz1 := h.z1
    have hz4 := h.z4
    refine ⟨_, (pss_cons (ps_asg (pv 0) (pg_tupK (K := K) rfl (by rfl) (pgs_cons (pg_name (i := 2) sc_with_clause.nd rfl (.inl rfl)) (pgs_cons (pg_name (i := 3) sc_with_clause.nd rfl (.inl rfl)) (pgs_cons (pg_name (i := 4) sc_with_clause.nd rfl (.inl rfl)) pgs_nil)))))
    (pss_cons (ps_set (i := 5) sc_with_clause.nd rfl (.inr rfl) (pe_dc (own := [("variable", 6)]) (g := gName 6) (by rfl) sc_with_clause.nd (pi_tupK (K := K) rfl (pe_op op_catA (pv 2) (pv 3))) (blkOk_by (own := [("variable", 6)]) (N := n_with_clause) (sc := defScope s_with_clause) (by decide +kernel)) (fun _ _ _ _ _ => pg_name (i := 6) sc_with_clause.nd rfl (Or.inl rfl)) (fun _ _ _ _ _ => pts_nil) (fun _ _ _ _ _ => (pv 6)) (fun _ _ _ _ _ => pe_bl)))
    (pss_cons (ps_if (pt_cmpR (opK (K := K) (r := rInTD) rfl (op_inTD hr.u65)) (pv 1) (pv 4) (by rfl))
      (pss_one (ps_raise rfl (takes_of rfl rfl rfl rfl) (pmk_own PySem.F.excBase_ValueError TC.x TC.g TC.k (raises_own TC.b TC.t) (by rfl))))
      pss_nil)
    (pss_cons (ps_if (pt_not (pt_val (pe_allG (k := 1) (own := [("literal", 7)]) (g := gName 7) (hr.mono (by decide)) (by rfl) T.z_all (by decide +kernel) rfl sc_with_clause.nd TB rfl ⟨blkOk_by (own := [("literal", 7)]) (N := n_with_clause) (sc := defScope s_with_clause) (by decide +kernel), rfl, by decide +kernel, rfl⟩ (pi_tupK (K := K) rfl (pv 1)) (fun _ _ _ _ _ => pg_name (i := 7) sc_with_clause.nd rfl (Or.inl rfl)) (fun _ _ _ _ _ hr => (pe_cmp (pc_din hr.u1 (pe_callB call_abs (by rfl) T.z_abs (by decide +kernel) (pa_cons (pv 7) pa_nil)) (pv 5)))))))
      (pss_one (ps_raise rfl (takes_of rfl rfl rfl rfl) (pmk_own PySem.F.excBase_ValueError TC.x TC.g TC.k (raises_own TC.b TC.t) (by rfl))))
      pss_nil)
    (pss_one (ps_ret (pe_tup (pa_cons (pv 2) (pa_cons (pv 3) (pa_cons (pe_df D_residue_with (hr.mono (by decide)) (by rfl) (pa_cons (pv 4) (pa_cons (pv 1) pa_nil))) pa_nil)))))))))), ?_⟩
    rw [show start n_with_clause [(.ref fp : V), (.ref ca : V)] = ([some (.ref fp), some (.ref ca), none, none, none, none, none, none] : List (Option V)) from rfl]
    walk_at "rd"
    refine w_gTup3 h.p ?_
    walk_at "rd"
    refine w_catA h.s h.h (by omega) fun p H1 k1 hp => ?_
    refine DcT.ints (by show 6 < 8; decide) hp (by rw [List.length_append]; omega) fun D H2 kvs hD k2 h2 hov => ?_
    have k02 := k1.trans k2
    have hh2 := h.kept k02
    walk_at "rd"
    refine w_inRT hh2.r hh2.cl hh2.a ?_
    refine ⟨_, rfl, ?_⟩
    by_cases hm : c ∈ rc
    · rw [decide_eq_true hm]
      refine if_t rfl ?_
      exact kE (if_pos (.inl hm)) H2 k02
    · rw [decide_eq_false hm]
      refine if_f rfl ?_
      walk_at "rd"
      refine ⟨_, rfl, ca, rfl, ⟨_, SqT.of hh2.a⟩, k02.tab P0 hT, fun H3 hT3 => ?_⟩
      have kp3 := Kept.tabbed (k02.tab P0 hT) hT3
      refine g_tup (xs := c.map V.int) (σ := [some (.ref fp), some (.ref ca), some (.ref fs), some (.ref fh), some (.ref fr), some (.ref D), none, none]) (j := 7) (fun i => decide (absI (c.getD i 0) ∈ S ++ Hd)) (fun H4 => Kept H2 H4) kp3 (fun H4 kp => SqT.of ((k02.trans kp).tup h.a)) (fun i x H4 k' hx kp hk => ?_) (fun H4 kp => ?_)
      · obtain ⟨n, rfl, hn⟩ := map_int hx
        walk_at "rd"
        refine ⟨n, rfl, ?_⟩
        walk_at "rd"
        have e1 : c.getD i 0 = n := by rw [List.getD_eq_getElem?_getD, hn] <;> rfl
        refine ⟨D, _, rfl, DGet.k (k := Sum.inl (absI n)) (kp.keep D _ (fun ps z => by cases z) h2), ?_⟩
        have q := hk H4 kp
        rw [e1] at q
        rw [hov.has]
        exact q
      · have k04 := k02.trans kp
        have hh4 := h.kept k04
        have eall : ((List.range (c.map V.int).length).all fun i => decide (absI (c.getD i 0) ∈ S ++ Hd)) = decide (∀ n ∈ c, absI n ∈ S ++ Hd) := by
          rw [List.length_map, Bool.eq_iff_iff, List.all_eq_true, decide_eq_true_eq]
          constructor
          · intro z n hn
            obtain ⟨i, hi, rfl⟩ := List.getElem_of_mem hn
            have := of_decide_eq_true (z i (List.mem_range.mpr hi))
            rw [List.getD_eq_getElem?_getD, List.getElem?_eq_getElem hi] at this
            exact this
          · intro z i hi
            have hi := List.mem_range.mp hi
            rw [List.getD_eq_getElem?_getD, List.getElem?_eq_getElem hi]
            exact decide_eq_true (z _ (List.getElem_mem hi))
        refine ⟨_, rfl, ?_⟩
        show if (!((List.range (c.map V.int).length).all fun i => decide (absI (c.getD i 0) ∈ S ++ Hd))) = true then _ else _
        rw [eall]
        by_cases ha : ∀ n ∈ c, absI n ∈ S ++ Hd
        · rw [decide_eq_true ha]
          refine if_f rfl ?_
          walk_at "rd"
          refine ⟨fr, ca, bs, rc, c, rfl, hh4.r, hh4.cl, h.asc, hh4.a, Nat.le_trans h.z2 (by decide), fun d hd => ?_, fun q H5 qs es k5 hq hqs hes hmem => ?_⟩
          · rcases hd with z | z
            · have := h.z3 d z
              omega
            · rw [z]; omega
          · walk_at "rd"
            refine ⟨by show 3 ≤ sizeLine; omega, fun pp hpp => ?_⟩
            have k6 := Kept.new (o := .tup [.ref fs, .ref fh, .ref q]) hpp
            have ees : es = residueF (rc ++ [c]) := asc_is hes fun d => by rw [hmem d, List.mem_append, List.mem_singleton]
            have hno : ¬ (c ∈ rc ∨ ∃ n ∈ c, absI n ∉ S ++ Hd) := fun z => by
              rcases z with z | ⟨n, hn, z⟩
              · exact hm z
              · exact z (ha n hn)
            refine k es (by rw [ees]; exact if_neg hno) pp q qs _ (k04.trans (k5.trans k6)) upd_same (k6.tup hq) (hqs.kept k6)
        · rw [decide_eq_false ha]
          refine if_t rfl ?_
          refine kE (if_pos (.inr ?_)) H4 k04
          rcases Classical.not_forall.mp ha with ⟨n, z⟩
          rcases Classical.not_imp.mp z with ⟨z1, z2⟩
          exact ⟨n, z1, z2⟩
theorem ok_without_clause {P0 : Addr} (F : Fun K "without_clause" "without_clause" s_without_clause f fd) (T : Tx K mg) (TC : ExC K mg "ChangeError" C) : FnOk P w K mg base (L2.CX P w) 6 f fd ["formula", "clause"] (spChange P0 C false) := by
  refine F.okX sc_without_clause (fun vs H Q E h => ?_) (fun cdv A outer s H vs Q E hr h => ?_)
  · obtain ⟨fp, ca, fs, fh, fr, bs, S, Hd, rc, c, rfl, _⟩ := h
    rfl
  · obtain ⟨fp, ca, fs, fh, fr, bs, S, Hd, rc, c, rfl, h, hT, kE, k⟩ := h
    have hsl : 1001 ≤ sizeLine := by decide
    have hz2 := h.z2
    refine ⟨_, (pss_cons (ps_asg (pv 0) (pg_tupK (K := K) rfl (by rfl) (pgs_cons (pg_name (i := 2) sc_without_clause.nd rfl (.inl rfl)) (pgs_cons (pg_name (i := 3) sc_without_clause.nd rfl (.inl rfl)) (pgs_cons (pg_name (i := 4) sc_without_clause.nd rfl (.inl rfl)) pgs_nil)))))
    (pss_cons (ps_if (pt_cmpR (opK (K := K) (r := rNotInTD) rfl (op_notInTD hr.u65)) (pv 1) (pv 4) (by rfl))
      (pss_one (ps_raise rfl (takes_of rfl rfl rfl rfl) (pmk_own PySem.F.excBase_ValueError TC.x TC.g TC.k (raises_own TC.b TC.t) (by rfl))))
      pss_nil)
    (pss_one (ps_ret (pe_tup (pa_cons (pv 2) (pa_cons (pv 3) (pa_cons (pe_callTy call_tuple_of (by rfl) T.z_tuple (by decide +kernel) (pa_cons (pe_lc (own := [("other", 5)]) (g := gName 5) (by rfl) sc_without_clause.nd (pi_tupK (K := K) rfl (pv 4)) (blkOk_by (own := [("other", 5)]) (N := n_without_clause) (sc := defScope s_without_clause) (by decide +kernel)) (fun _ _ _ _ _ => pg_name (i := 5) sc_without_clause.nd rfl (Or.inl rfl)) (fun _ _ _ _ _ => pts_one (pt_cmpR (opK (K := K) (r := rNeD) rfl (op_neD hr.units)) (pv 5) (pv 1) (nomark _))) (fun _ _ _ _ _ => (pv 5))) pa_nil)) pa_nil)))))))), ?_⟩
    rw [show start n_without_clause [(.ref fp : V), (.ref ca : V)] = ([some (.ref fp), some (.ref ca), none, none, none, none] : List (Option V)) from rfl]
    walk_at "rd"
    refine w_gTup3 h.p ?_
    walk_at "rd"
    refine w_ninRT h.r h.cl h.a ?_
    refine ⟨_, rfl, ?_⟩
    by_cases hm : c ∈ rc
    · rw [decide_eq_false (fun z => z hm)]
      refine if_f rfl ?_
      walk_at "rd"
      refine LcT.cls (fun d => decide (d ≠ c)) (by omega) h.r h.cl (fun b d H1 kk kk2 hd hb k1 h5 h6 => ?_) fun D H1 qs hD k1 hDl hqs => ?_
      · walk_at "rd"
        refine w_neCI hb (k1.tup h.a) ?_
        by_cases e : d = c
        · rw [decide_eq_false (fun z => z e)]
          exact ⟨_, rfl, if_f rfl (h6 H1 (Kept.refl _) (decide_eq_false fun z => z e))⟩
        · rw [decide_eq_true e]
          refine ⟨_, rfl, if_t rfl ?_⟩
          walk_at "rd"
          exact h5 H1 (Kept.refl _) (decide_eq_true e)
      · walk_at "rd"
        refine ⟨D, _, rfl, .inl ⟨SqL.of hDl, fun q hq => ?_⟩⟩
        have k2 := Kept.new (o := .tup (qs.map V.ref)) hq
        have eq : (upd H1 q (.tup (qs.map V.ref))) q = some (.tup (qs.map V.ref)) := upd_same
        generalize upd H1 q (.tup (qs.map V.ref)) = H2 at k2 eq
        walk_at "rd"
        refine ⟨by show 3 ≤ sizeLine; omega, fun pp hpp => ?_⟩
        have k3 := Kept.new (o := .tup [.ref fs, .ref fh, .ref q]) hpp
        exact k _ (if_pos hm) pp q qs _ (k1.trans (k2.trans k3)) upd_same (k3.tup eq) (hqs.kept (k2.trans k3))
    · rw [decide_eq_true hm]
      refine if_t rfl ?_
      exact kE (if_neg hm) H (Kept.refl _)
end
end Ky

namespace Ky
open PySem PySem.Spec PyProof.Rows L2
local macro_rules | `(tactic| walk_at "rd") => `(tactic| repeat (first
  | with_reducible refine w_for1 ?_
  | with_reducible refine w_for2 ?_
  | with_reducible refine w_forL ?_
  | with_reducible refine w_forT ?_
  | with_reducible refine w_lc1 ?_
  | with_reducible refine w_lcL ?_
  | with_reducible refine w_lcT ?_
  | with_reducible refine w_dcL ?_
  | with_reducible refine w_dcT ?_
  | with_reducible refine w_seq ?_
  | with_reducible refine w_asg ?_
  | with_reducible refine w_ret ?_
  | with_reducible refine w_drop ?_
  | with_reducible refine w_ifs ?_
  | ((with_reducible refine' w_var ?hh ?_); (case hh => exact rfl))
  | with_reducible refine w_c ?_
  | with_reducible refine w_op ?_
  | with_reducible refine w_un ?_
  | with_reducible refine w_I0 ?_
  | with_reducible refine w_U ?_
  | with_reducible refine w_nil ?_
  | with_reducible refine w_cons ?_
  | with_reducible refine w_call ?_
  | with_reducible refine w_cb ?_
  | with_reducible refine w_test ?_
  | with_reducible refine w_B ?_
  | with_reducible refine w_bl ?_
  | with_reducible refine w_and ?_
  | with_reducible refine w_or ?_
  | with_reducible refine w_not ?_
  | with_reducible refine w_ife ?_
  | with_reducible refine w_gRd ?_
  | with_reducible refine w_andV ?_
  | with_reducible refine w_orV ?_
  | with_reducible refine w_notV ?_
  | with_reducible refine w_chain ?_
  | with_reducible refine w_din ?_
  | with_reducible refine w_isi_ii ?_
  | with_reducible refine w_isi_bi ?_
  | with_reducible refine w_isi_bb ?_
  | with_reducible refine w_isi_bt ?_
  | with_reducible refine w_isi_si ?_
  | with_reducible refine w_isi_nt ?_
  | with_reducible refine w_isi_ib ?_
  | with_reducible refine w_isi_it ?_
  | with_reducible refine w_isi_st ?_
  | ((with_reducible refine w_isi_tt ?h1 ?_); (case h1 => first | assumption | exact upd_same))
  | with_reducible refine if_t rfl ?_
  | with_reducible refine if_f rfl ?_
  | with_reducible refine w_tup ?_
  | with_reducible refine w_lst ?_
  | with_reducible refine w_next ?_
  | with_reducible refine w_bm ?_
  | with_reducible refine w_sl ?_
  | with_reducible refine w_part ?_
  | with_reducible refine w_nop ?_
  | with_reducible refine w_isI ?_
  | with_reducible refine w_yes ?_
  | with_reducible refine w_gn ?_
  | with_reducible refine w_gsub ?_
  | ((with_reducible refine' w_setL ?h1 ?h2 ?_); (case h1 => first | assumption | exact upd_same); (case h2 => exact rfl))
  | with_reducible refine w_asgG ?_
  | with_reducible refine w_m1 ?_
  | with_reducible refine w_isS ?_
  | with_reducible refine w_tyS ?_
  | ((with_reducible refine' w_tyL ?h1 ?_); (case h1 => first | assumption | exact upd_same))
  | ((with_reducible refine' w_ixT ?h1 ?h2 ?_); (case h1 => first | assumption | exact upd_same); (case h2 => exact rfl))
  | ((with_reducible refine' w_ixL ?h1 ?h2 ?_); (case h1 => first | assumption | exact upd_same); (case h2 => exact rfl))
  | ((with_reducible refine w_eq ?h1 ?_); (case h1 => exact rfl))
  | ((with_reducible refine w_ne ?h1 ?_); (case h1 => exact rfl))
  | dsimp only [List.set_cons_zero, List.set_cons_succ, List.append_nil, List.cons_append, List.nil_append, cxOf]))

def spLChanged : Sp := fun vs H Q _ => ∃ (fp ca fs fh fr : Addr) (bs : List Addr) (S Hd : List Int) (rc : List (List Int)) (c : List Int) (put : Bool), vs = [.ref fp, .ref ca, .bl put] ∧ ChgAt H fp ca fs fh fr bs S Hd rc c ∧
  (dueF (S ++ Hd) rc c put = none → ∀ H', Kept H H' → Q .non H') ∧
  ∀ es, dueF (S ++ Hd) rc c put = some es → ∀ p q qs H', Kept H H' → H' p = some (.tup [.ref fs, .ref fh, .ref q]) → H' q = some (.tup (qs.map V.ref)) → ClsAt H' qs es → Q (.ref p) H'
def spLRight (P0 : Addr) : Sp := fun vs H Q _ => ∃ (fp ca fs fh fr : Addr) (bs : List Addr) (S Hd : List Int) (rc : List (List Int)) (c : List Int) (put : Bool), vs = [.ref fp, .ref ca, .bl put] ∧ ChgAt H fp ca fs fh fr bs S Hd rc c ∧ GxR.TabG H P0 ∧ ∀ H', Kept H H' → Q (.bl true) H'
section
variable {P : Program} {w : World} {K : PySem.W.Frag} {mg : Str → Option Value} {base : Heap} {uG : Value} {f C : Addr} {fd : FuncData}
theorem ok_l_changed (F : Fun K "_law_changed" "_law_changed" s_l_changed f fd) (T : Tx K mg) (D_l_residue : Df P w K mg base 4 "_law_residue" ["clauses"] spLResidue) : FnOk P w K mg base CX0 5 f fd ["formula", "clause", "put"] spLChanged := by
  refine F.ok sc_l_changed (fun vs H Q E h => ?_) (fun cdv A outer s H vs Q E hr h => ?_)
  · obtain ⟨fp, ca, fs, fh, fr, bs, S, Hd, rc, c, put, rfl, _⟩ := h
    rfl
  · obtain ⟨fp, ca, fs, fh, fr, bs, S, Hd, rc, c, put, rfl, h, kN, k⟩ := h
    have hsl : 1001 ≤ sizeLine := by decide
    have hz1 := h.z1
    have hz2 := h.z2
    have hz4 := h.z4
    have hp0 := h.p
    refine ⟨_, (pss_cons (ps_set (i := 3) sc_l_changed.nd rfl (.inr rfl) (pe_op op_catA (pe_ix (ix_tupK (K := K) rfl) (pv 0) pe_int (fun _ _ => rfl)) (pe_ix (ix_tupK (K := K) rfl) (pv 0) pe_int (fun _ _ => rfl))))
    (pss_cons (ps_if (pt_val (pv 2))
      (pss_cons (ps_if (PW.pt (pw_or (pt_cmpR (opK (K := K) (r := rInTD) rfl (op_inTD hr.u65)) (pv 1) (pe_ix (ix_tupK (K := K) rfl) (pv 0) pe_int (fun _ _ => rfl)) (by rfl)) (pw_or1 (pt_cmpR (opK (K := K) (r := rNeD) rfl (op_neD hr.units)) (pe_lc (own := [("literal", 4)]) (g := gName 4) (by rfl) sc_l_changed.nd (pi_tupK (K := K) rfl (pv 1)) (blkOk_by (own := [("literal", 4)]) (N := n_l_changed) (sc := defScope s_l_changed) (by decide +kernel)) (fun _ _ _ _ _ => pg_name (i := 4) sc_l_changed.nd rfl (Or.inl rfl)) (fun _ _ _ _ _ => pts_one (pt_cmpR (opK (K := K) (r := fun K => rIn K true) rfl op_notIn_seq) (pe_callB call_abs (by rfl) T.z_abs (by decide +kernel) (pa_cons (pv 4) pa_nil)) (pv 3) (by rfl))) (fun _ _ _ _ _ => (pv 4))) (pe_lst pa_nil) (nomark _)))))
      (pss_one (ps_ret pe_non))
      pss_nil)
    (pss_one (ps_ret (pe_tup (pa_cons (pe_ix (ix_tupK (K := K) rfl) (pv 0) pe_int (fun _ _ => rfl)) (pa_cons (pe_ix (ix_tupK (K := K) rfl) (pv 0) pe_int (fun _ _ => rfl)) (pa_cons (pe_df D_l_residue (hr.mono (by decide)) (by rfl) (pa_cons (pe_op op_cat (pe_callTy call_list_of (by rfl) T.z_list (by decide +kernel) (pa_cons (pe_ix (ix_tupK (K := K) rfl) (pv 0) pe_int (fun _ _ => rfl)) pa_nil)) (pe_lst (pa_cons (pv 1) pa_nil))) pa_nil)) pa_nil)))))))
      pss_nil)
    (pss_cons (ps_if (pt_cmpR (opK (K := K) (r := rNotInTD) rfl (op_notInTD hr.u65)) (pv 1) (pe_ix (ix_tupK (K := K) rfl) (pv 0) pe_int (fun _ _ => rfl)) (by rfl))
      (pss_one (ps_ret pe_non))
      pss_nil)
    (pss_one (ps_ret (pe_tup (pa_cons (pe_ix (ix_tupK (K := K) rfl) (pv 0) pe_int (fun _ _ => rfl)) (pa_cons (pe_ix (ix_tupK (K := K) rfl) (pv 0) pe_int (fun _ _ => rfl)) (pa_cons (pe_callTy call_tuple_of (by rfl) T.z_tuple (by decide +kernel) (pa_cons (pe_lc (own := [("other", 5)]) (g := gName 5) (by rfl) sc_l_changed.nd (pi_tupK (K := K) rfl (pe_ix (ix_tupK (K := K) rfl) (pv 0) pe_int (fun _ _ => rfl))) (blkOk_by (own := [("other", 5)]) (N := n_l_changed) (sc := defScope s_l_changed) (by decide +kernel)) (fun _ _ _ _ _ => pg_name (i := 5) sc_l_changed.nd rfl (Or.inl rfl)) (fun _ _ _ _ _ => pts_one (pt_cmpR (opK (K := K) (r := rNeD) rfl (op_neD hr.units)) (pv 5) (pv 1) (nomark _))) (fun _ _ _ _ _ => (pv 5))) pa_nil)) pa_nil))))))))), ?_⟩
    rw [show start n_l_changed [(.ref fp : V), (.ref ca : V), (.bl put : V)] = ([some (.ref fp), some (.ref ca), some (.bl put), none, none, none] : List (Option V)) from rfl]
    walk_at "rd"
    refine w_catA h.s h.h (by omega) fun p H1 k1 hp => ?_
    have h1 := h.kept k1
    have hp1 := h1.p
    cases put with
    | true =>
      walk_at "rd"
      refine w_inRT h1.r h1.cl h1.a ?_
      refine ⟨_, rfl, ?_⟩
      by_cases hm : c ∈ rc
      · rw [decide_eq_true hm]
        refine if_t rfl ?_
        refine if_t rfl ?_
        walk_at "rd"
        exact kN (if_pos (.inl hm)) H1 k1
      · rw [decide_eq_false hm]
        refine if_f rfl ?_
        walk_at "rd"
        refine LcT.ints (fun n => decide (absI n ∉ S ++ Hd)) V.int (by omega) h1.a (fun n H4 kk kk2 hn k4 h5 h6 => ?_) fun D H2 hD k2 hDl => ?_
        · walk_at "rd"
          refine ⟨n, rfl, ?_⟩
          walk_at "rd"
          refine w_ninT (k4.tup hp) ?_
          show ∃ k, V.bl (decide (absI n ∉ S ++ Hd)) = .bl k ∧ _
          by_cases m : absI n ∈ S ++ Hd
          · rw [decide_eq_false (fun z => z m)]
            exact ⟨_, rfl, if_f rfl (h6 H4 (Kept.refl _) (decide_eq_false fun z => z m))⟩
          · rw [decide_eq_true m]
            refine ⟨_, rfl, if_t rfl ?_⟩
            walk_at "rd"
            exact h5 H4 (Kept.refl _) (decide_eq_true m)
        · walk_at "rd"
          refine ⟨Nat.zero_le _, fun Z hZ => ?_⟩
          have k3 := Kept.new (o := .lst []) hZ
          have eZ : (upd H2 Z (.lst [])) Z = some (.lst (([] : List Int).map V.int)) := upd_same
          have hD3 := k3.lst hDl
          generalize upd H2 Z (.lst []) = H3 at k3 eZ hD3
          have k13 := k1.trans (k2.trans k3)
          have h3 := h.kept k13
          have hp3 := h3.p
          refine w_neLI hD3 eZ ?_
          refine ⟨_, rfl, ?_⟩
          have enil : (c.filter (fun n => decide (absI n ∉ S ++ Hd)) = []) ↔ ∀ n ∈ c, absI n ∈ S ++ Hd := by
            rw [List.filter_eq_nil_iff]
            constructor
            · intro z n hn
              exact Classical.not_not.mp fun q => z n hn (decide_eq_true q)
            · intro z n hn q
              exact of_decide_eq_true q (z n hn)
          by_cases ha : ∀ n ∈ c, absI n ∈ S ++ Hd
          · rw [decide_eq_true (enil.mpr ha)]
            refine if_f rfl ?_
            walk_at "rd"
            refine ⟨fr, _, rfl, .inr (SqT.of h3.r), fun l1 hl1 => ?_⟩
            have k4 := Kept.new (o := .lst (bs.map V.ref)) hl1
            have el1 : (upd H3 l1 (.lst (bs.map V.ref))) l1 = some (.lst (bs.map V.ref)) := upd_same
            generalize upd H3 l1 (.lst (bs.map V.ref)) = H4 at k4 el1
            walk_at "rd"
            refine ⟨by show 1 ≤ sizeLine; omega, fun l2 hl2 => ?_⟩
            have k5 := Kept.new (o := .lst [.ref ca]) hl2
            have el2 : (upd H4 l2 (.lst [.ref ca])) l2 = some (.lst ([ca].map V.ref)) := upd_same
            have el1 := k5.lst el1
            generalize upd H4 l2 (.lst [.ref ca]) = H5 at k5 el2 el1
            refine ⟨l1, l2, _, _, rfl, rfl, el1, el2, by rw [List.length_map, List.length_map, h.cl.1]; show rc.length + 1 ≤ _; omega, fun l3 hl3 => ?_⟩
            rw [← List.map_append]
            have k6 := Kept.new (o := .lst ((bs ++ [ca]).map V.ref)) hl3
            have el3 : (upd H5 l3 (.lst ((bs ++ [ca]).map V.ref))) l3 = some (.lst ((bs ++ [ca]).map V.ref)) := upd_same
            generalize upd H5 l3 (.lst ((bs ++ [ca]).map V.ref)) = H6 at k6 el3
            have k16 := k13.trans (k4.trans (k5.trans k6))
            have h6 := h.kept k16
            have hp6 := h6.p
            walk_at "rd"
            refine ⟨l3, bs ++ [ca], rc ++ [c], rfl, el3, clsAt_snoc0 h6.cl h6.a, by rw [List.length_append, List.length_singleton]; omega, fun d hd => ?_, fun q H7 qs k7 hqn hq hqs => ?_⟩
            · rcases List.mem_append.mp hd with z | z
              · have := h.z3 d z
                omega
              · rw [List.mem_singleton.mp z]; omega
            · walk_at "rd"
              refine ⟨by show 3 ≤ sizeLine; omega, fun pp hpp => ?_⟩
              have k8 := Kept.new (o := .tup [.ref fs, .ref fh, .ref q]) hpp
              have hno : ¬ (c ∈ rc ∨ ∃ n ∈ c, absI n ∉ S ++ Hd) := fun z => by
                rcases z with z | ⟨n, hn, z⟩
                · exact hm z
                · exact z (ha n hn)
              exact k _ (if_neg hno) pp q qs _ (k16.trans (k7.trans k8)) upd_same (k8.tup hq) (hqs.kept k8)
          · rw [decide_eq_false fun z => ha (enil.mp z)]
            refine if_t rfl ?_
            walk_at "rd"
            refine kN (if_pos (.inr ?_)) H3 k13
            rcases Classical.not_forall.mp ha with ⟨n, z⟩
            rcases Classical.not_imp.mp z with ⟨z1, z2⟩
            exact ⟨n, z1, z2⟩
    | false =>
      walk_at "rd"
      refine w_ninRT h1.r h1.cl h1.a ?_
      refine ⟨_, rfl, ?_⟩
      by_cases hm : c ∈ rc
      · rw [decide_eq_false (fun z => z hm)]
        refine if_f rfl ?_
        walk_at "rd"
        refine LcT.cls (fun d => decide (d ≠ c)) (by omega) h1.r h1.cl (fun b d H2 kk kk2 hd hb k2 h5 h6 => ?_) fun D H2 qs hD k2 hDl hqs => ?_
        · walk_at "rd"
          refine w_neCI hb (k2.tup h1.a) ?_
          by_cases e : d = c
          · rw [decide_eq_false (fun z => z e)]
            exact ⟨_, rfl, if_f rfl (h6 H2 (Kept.refl _) (decide_eq_false fun z => z e))⟩
          · rw [decide_eq_true e]
            refine ⟨_, rfl, if_t rfl ?_⟩
            walk_at "rd"
            exact h5 H2 (Kept.refl _) (decide_eq_true e)
        · walk_at "rd"
          refine ⟨D, _, rfl, .inl ⟨SqL.of hDl, fun q hq => ?_⟩⟩
          have k3 := Kept.new (o := .tup (qs.map V.ref)) hq
          have eq : (upd H2 q (.tup (qs.map V.ref))) q = some (.tup (qs.map V.ref)) := upd_same
          generalize upd H2 q (.tup (qs.map V.ref)) = H3 at k3 eq
          walk_at "rd"
          refine ⟨by show 3 ≤ sizeLine; omega, fun pp hpp => ?_⟩
          have k4 := Kept.new (o := .tup [.ref fs, .ref fh, .ref q]) hpp
          exact k _ (if_pos hm) pp q qs _ (k1.trans (k2.trans (k3.trans k4))) upd_same (k4.tup eq) (hqs.kept (k3.trans k4))
      · rw [decide_eq_true hm]
        refine if_t rfl ?_
        walk_at "rd"
        exact kN (if_neg hm) H1 k1
theorem ok_l_change_right {P0 : Addr} (F : Fun K "_law_change_right" "_law_change_right" s_l_change_right f fd) (T : Tx K mg) (TC : ExC K mg "ChangeError" C) (D_l_changed : Df P w K mg base 5 "_law_changed" ["formula", "clause", "put"] spLChanged) (D_with_clause : DfX P w K mg base 6 "with_clause" ["formula", "clause"] (spChange P0 C true)) (D_without_clause : DfX P w K mg base 6 "without_clause" ["formula", "clause"] (spChange P0 C false)) : FnOk P w K mg base CX0 7 f fd ["formula", "clause", "put"] (spLRight P0) := by
  refine F.ok sc_l_change_right (fun vs H Q E h => ?_) (fun cdv A outer s H vs Q E hr h => ?_)
  · obtain ⟨fp, ca, fs, fh, fr, bs, S, Hd, rc, c, put, rfl, _⟩ := h
    rfl
  · obtain ⟨fp, ca, fs, fh, fr, bs, S, Hd, rc, c, put, rfl, h, hT, k⟩ := h
    refine ⟨_, (pss_cons (ps_set (i := 3) sc_l_change_right.nd rfl (.inl rfl) (pe_df D_l_changed (hr.mono (by decide)) (by rfl) (pa_cons (pv 0) (pa_cons (pv 1) (pa_cons (pv 2) pa_nil)))))
    (pss_cons (ps_try_only rfl rfl ⟨rfl, by decide, .inl TC.g⟩ takes0 (fun W pn xe tk _ => (pss_one (ps_if (pt_val (pv 2))
      (pss_one (ps_set (i := 4) sc_l_change_right.nd rfl (.inl rfl) (pe_dfX D_with_clause (hr.mono (by decide)) (fun σ => passAt tk σ) (by rfl) (pa_cons (pv 0) (pa_cons (pv 1) pa_nil)))))
      (pss_one (ps_set (i := 4) sc_l_change_right.nd rfl (.inl rfl) (pe_dfX D_without_clause (hr.mono (by decide)) (fun σ => passAt tk σ) (by rfl) (pa_cons (pv 0) (pa_cons (pv 1) pa_nil))))))))
      (fun _ _ _ _ _ _ _ => (pss_one (ps_ret (pe_cmpR op_isN (pv 3) pe_non (nomark _))))))
    (pss_one (ps_ret (pe_and (pe_cmpR op_notN (pv 3) pe_non (nomark _)) (pe_one (pe_cmpR (opK (K := K) (r := rEqD) rfl (op_eqD hr.units)) (pv 4) (pv 3) (nomark _)))))))), ?_⟩
    rw [show start n_l_change_right [(.ref fp : V), (.ref ca : V), (.bl put : V)] = ([some (.ref fp), some (.ref ca), some (.bl put), none, none] : List (Option V)) from rfl]
    walk_at "rd"
    refine ⟨fp, ca, fs, fh, fr, bs, S, Hd, rc, c, put, rfl, h, fun hn H1 k1 => ?_, fun es he p q qs H1 k1 hp hq hqs => ?_⟩
    · have h1 := h.kept k1
      walk_at "rd"
      cases put with
      | true =>
        walk_at "rd"
        refine w_callS ?_
        walk_at "rd"
        refine ⟨fp, ca, fs, fh, fr, bs, S, Hd, rc, c, rfl, h1, k1.tab _ hT, fun _ H2 k2 => ?_, fun es he => by rw [hn] at he; cases he⟩
        refine ⟨true, TC.e, fun _ a0 _ => ?_, fun z => by cases z⟩
        walk_at "rd"
        exact ⟨rfl, k H2 (k1.trans k2)⟩
      | false =>
        walk_at "rd"
        refine w_callS ?_
        walk_at "rd"
        refine ⟨fp, ca, fs, fh, fr, bs, S, Hd, rc, c, rfl, h1, k1.tab _ hT, fun _ H2 k2 => ?_, fun es he => by rw [hn] at he; cases he⟩
        refine ⟨true, TC.e, fun _ a0 _ => ?_, fun z => by cases z⟩
        walk_at "rd"
        exact ⟨rfl, k H2 (k1.trans k2)⟩
    · have h1 := h.kept k1
      walk_at "rd"
      have fin : ∀ (p2 q2 : Addr) (qs2 : List Addr) (H2 : Hp), Kept H1 H2 → H2 p2 = some (.tup [.ref fs, .ref fh, .ref q2]) → H2 q2 = some (.tup (qs2.map V.ref)) → ClsAt H2 qs2 es → rEqD K (.ref p2) (.ref p) H2 Q := fun p2 q2 qs2 H2 k2 g1 g2 g3 => by
        have h2 := h1.kept k2
        refine ⟨_, _, dp_form g1 h2.s h2.h g2 g3, dp_form (k2.tup hp) h2.s h2.h (k2.tup hq) (hqs.kept k2), sh_form _ _ _, sh_form _ _ _, ?_⟩
        rw [eqv_form, decide_eq_true ⟨rfl, rfl, rfl⟩]
        exact k H2 (k1.trans k2)
      cases put with
      | true =>
        walk_at "rd"
        refine w_callS ?_
        walk_at "rd"
        refine ⟨fp, ca, fs, fh, fr, bs, S, Hd, rc, c, rfl, h1, k1.tab _ hT, fun hn => (nomatch hn.symm.trans he), fun es2 he2 p2 q2 qs2 H2 k2 g1 g2 g3 => ?_⟩
        obtain rfl : es = es2 := Option.some.inj (he.symm.trans he2)
        walk_at "rd"
        refine ⟨rfl, ?_⟩
        refine ⟨_, rfl, if_t rfl ?_⟩
        walk_at "rd"
        exact fin p2 q2 qs2 H2 k2 g1 g2 g3
      | false =>
        walk_at "rd"
        refine w_callS ?_
        walk_at "rd"
        refine ⟨fp, ca, fs, fh, fr, bs, S, Hd, rc, c, rfl, h1, k1.tab _ hT, fun hn => (nomatch hn.symm.trans he), fun es2 he2 p2 q2 qs2 H2 k2 g1 g2 g3 => ?_⟩
        obtain rfl : es = es2 := Option.some.inj (he.symm.trans he2)
        walk_at "rd"
        refine ⟨rfl, ?_⟩
        refine ⟨_, rfl, if_t rfl ?_⟩
        walk_at "rd"
        exact fin p2 q2 qs2 H2 k2 g1 g2 g3
end
end Ky

namespace Ky
open PySem PySem.Spec PyProof.Rows L2
local macro_rules | `(tactic| walk_at "rd") => `(tactic| repeat (first
  | with_reducible refine w_for1 ?_
  | with_reducible refine w_for2 ?_
  | with_reducible refine w_forL ?_
  | with_reducible refine w_forT ?_
  | with_reducible refine w_lc1 ?_
  | with_reducible refine w_lcL ?_
  | with_reducible refine w_lcT ?_
  | with_reducible refine w_dcL ?_
  | with_reducible refine w_dcT ?_
  | with_reducible refine w_seq ?_
  | with_reducible refine w_asg ?_
  | with_reducible refine w_ret ?_
  | with_reducible refine w_drop ?_
  | with_reducible refine w_ifs ?_
  | ((with_reducible refine' w_var ?hh ?_); (case hh => exact rfl))
  | with_reducible refine w_c ?_
  | with_reducible refine w_op ?_
  | with_reducible refine w_un ?_
  | with_reducible refine w_I0 ?_
  | with_reducible refine w_U ?_
  | with_reducible refine w_nil ?_
  | with_reducible refine w_cons ?_
  | with_reducible refine w_call ?_
  | with_reducible refine w_cb ?_
  | with_reducible refine w_test ?_
  | with_reducible refine w_B ?_
  | with_reducible refine w_bl ?_
  | with_reducible refine w_and ?_
  | with_reducible refine w_or ?_
  | with_reducible refine w_not ?_
  | with_reducible refine w_ife ?_
  | with_reducible refine w_gRd ?_
  | with_reducible refine w_andV ?_
  | with_reducible refine w_orV ?_
  | with_reducible refine w_notV ?_
  | with_reducible refine w_chain ?_
  | with_reducible refine w_din ?_
  | with_reducible refine w_isi_ii ?_
  | with_reducible refine w_isi_bi ?_
  | with_reducible refine w_isi_bb ?_
  | with_reducible refine w_isi_bt ?_
  | with_reducible refine w_isi_si ?_
  | with_reducible refine w_isi_nt ?_
  | with_reducible refine w_isi_ib ?_
  | with_reducible refine w_isi_it ?_
  | with_reducible refine w_isi_st ?_
  | ((with_reducible refine w_isi_tt ?h1 ?_); (case h1 => first | assumption | exact upd_same))
  | with_reducible refine if_t rfl ?_
  | with_reducible refine if_f rfl ?_
  | with_reducible refine w_tup ?_
  | with_reducible refine w_lst ?_
  | with_reducible refine w_next ?_
  | with_reducible refine w_bm ?_
  | with_reducible refine w_sl ?_
  | with_reducible refine w_part ?_
  | with_reducible refine w_nop ?_
  | with_reducible refine w_isI ?_
  | with_reducible refine w_yes ?_
  | with_reducible refine w_gn ?_
  | with_reducible refine w_gsub ?_
  | ((with_reducible refine' w_setL ?h1 ?h2 ?_); (case h1 => first | assumption | exact upd_same); (case h2 => exact rfl))
  | with_reducible refine w_asgG ?_
  | with_reducible refine w_m1 ?_
  | with_reducible refine w_isS ?_
  | with_reducible refine w_tyS ?_
  | ((with_reducible refine' w_tyL ?h1 ?_); (case h1 => first | assumption | exact upd_same))
  | ((with_reducible refine' w_ixT ?h1 ?h2 ?_); (case h1 => first | assumption | exact upd_same); (case h2 => exact rfl))
  | ((with_reducible refine' w_ixL ?h1 ?h2 ?_); (case h1 => first | assumption | exact upd_same); (case h2 => exact rfl))
  | ((with_reducible refine w_eq ?h1 ?_); (case h1 => exact rfl))
  | ((with_reducible refine w_ne ?h1 ?_); (case h1 => exact rfl))
  | dsimp only [List.set_cons_zero, List.set_cons_succ, List.append_nil, List.cons_append, List.nil_append, cxOf]))

def spLRenamed : Sp := fun vs H Q _ => ∃ (a g : Addr) (bs : List Addr) (rc : List (List Int)) (nm : Int → Int), vs = [.ref a, .ref g] ∧ H a = some (.tup (bs.map V.ref)) ∧ ClsAt H bs rc ∧ rc.length ≤ 400 ∧ (∀ c ∈ rc, c.length ≤ 400) ∧ NamAt H g nm ∧ (∀ c ∈ rc, bothL (c.map (renL nm)) = false) ∧
  ∀ q H' qs, Kept H H' → H' q = some (.lst (qs.map V.ref)) → ClsAt H' qs (rc.map fun c => clauseF (c.map (renL nm))) → Q (.ref q) H'
section
variable {P : Program} {w : World} {K : PySem.W.Frag} {mg : Str → Option Value} {base : Heap} {uG : Value} {f C : Addr} {fd : FuncData}
theorem ok_l_renamed (F : Fun K "_law_renamed" "_law_renamed" s_l_renamed f fd) (T : Tx K mg) (D_l_clause : Df P w K mg base 4 "_law_clause" ["literals"] spLClause2) : FnOk P w K mg base CX0 5 f fd ["residue", "names"] spLRenamed := by
  refine F.ok sc_l_renamed (fun vs H Q E h => ?_) (fun cdv A outer s H vs Q E hr h => ?_)
  · obtain ⟨a, g, bs, rc, nm, rfl, _⟩ := h
    rfl
  · obtain ⟨a, g, bs, rc, nm, rfl, ha, hc, hz, hz2, hg, hno, k⟩ := h
    have hsl : 1001 ≤ sizeLine := by decide
    refine ⟨_, (pss_cons (ps_set (i := 2) sc_l_renamed.nd rfl (.inl rfl) (pe_lst pa_nil))
    (pss_cons (ps_for PassesOwn.never rfl (pi_tupK (K := K) rfl (pv 0)) (pg_name (i := 3) sc_l_renamed.nd rfl (.inl rfl))
      (pss_cons (ps_set (i := 4) sc_l_renamed.nd rfl (.inl rfl) (pe_lst pa_nil))
    (pss_cons (ps_for PassesOwn.never rfl (pi_tupK (K := K) rfl (pv 3)) (pg_name (i := 5) sc_l_renamed.nd rfl (.inl rfl))
      (pss_cons (ps_set (i := 6) sc_l_renamed.nd rfl (.inl rfl) (pe_dget2 hr.u1 (pv 1) (pe_callB call_abs (by rfl) T.z_abs (by decide +kernel) (pa_cons (pv 5) pa_nil)) (pe_callB call_abs (by rfl) T.z_abs (by decide +kernel) (pa_cons (pv 5) pa_nil)) ⟨rfl, rfl, rfl, rfl⟩))
    (pss_one (ps_expr (pe_bm PySem.F.plainAttrs_list PySem.F.slot_list_append PySem.F.type_list_append mt_append (pv 4) (pa_cons (pe_ix (ix_listK (K := K) rfl) (pe_lst (pa_cons (pe_un un_neg (pv 6)) (pa_cons (pv 6) pa_nil))) (pe_callTy call_int1 (by rfl) T.z_int (by decide +kernel) (pa_cons (pe_cmpR op_gt (pv 5) pe_int (nomark _)) pa_nil)) (fun _ _ => rfl)) pa_nil))))))
    (pss_one (ps_expr (pe_bm PySem.F.plainAttrs_list PySem.F.slot_list_append PySem.F.type_list_append mt_append (pv 2) (pa_cons (pe_df D_l_clause (hr.mono (by decide)) (by rfl) (pa_cons (pv 4) pa_nil)) pa_nil)))))))
    (pss_one (ps_ret (pv 2))))), ?_⟩
    rw [show start n_l_renamed [(.ref a : V), (.ref g : V)] = ([some (.ref a), some (.ref g), none, none, none, none, none] : List (Option V)) from rfl]
    walk_at "rd"
    refine ⟨Nat.zero_le _, fun L hL => ?_⟩
    have kL := Kept.new (o := .lst []) hL
    have eL : (upd H L (.lst [])) L = some (.lst (([] : List Addr).map V.ref)) := upd_same
    generalize upd H L (.lst []) = H1 at kL eL
    walk_at "rd"
    have hlb : (bs.map V.ref).length = rc.length := by rw [List.length_map, hc.1]
    refine FrT.mk (xs := bs.map V.ref) (fun i σ' H' => ∃ (v3 v4 v5 v6 : Option V) (qs : List Addr), σ' = [some (.ref a), some (.ref g), some (.ref L), v3, v4, v5, v6] ∧ Kept H H' ∧ H' L = some (.lst (qs.map V.ref)) ∧ ClsAt H' qs ((rc.take i).map fun c => clauseF (c.map (renL nm))))
      ⟨none, none, none, none, [], rfl, kL, eL, ⟨rfl, fun i b c h1 h2 => by simp at h1⟩⟩ (fun i σ' H' _ h => by
        obtain ⟨_, _, _, _, _, _, k1, _⟩ := h
        exact SqT.of (k1.tup ha)) ?_ ?_
    · rintro i x σ' H' hx ⟨v3, v4, v5, v6, qs, rfl, k1, hLs, hqs⟩
      rw [List.getElem?_map] at hx
      obtain ⟨e, he, rfl⟩ := Option.map_eq_some_iff.mp hx
      have hi : i < rc.length := by rw [← hc.1]; exact (List.getElem?_eq_some_iff.mp he).1
      have hci : rc[i]? = some rc[i] := List.getElem?_eq_getElem hi
      have et : rc.take (i + 1) = rc.take i ++ [rc[i]] := by rw [List.take_add_one, hci] <;> rfl
      have hcz := hz2 _ (List.getElem_mem hi)
      have hcn := hno _ (List.getElem_mem hi)
      have hce := k1.tup (hc.2 i e _ he hci)
      have hql : qs.length ≤ i := by rw [hqs.1, List.length_map, List.length_take]; omega
      rw [et, List.map_append]
      generalize rc[i] = c at hcz hcn hce
      walk_at "rd"
      refine ⟨Nat.zero_le _, fun M hM => ?_⟩
      have kM := Kept.new (o := .lst []) hM
      have eM : (upd H' M (.lst [])) M = some (.lst (([] : List Int).map V.int)) := upd_same
      generalize upd H' M (.lst []) = H2 at kM eM
      walk_at "rd"
      refine FrT.mk (xs := c.map V.int) (fun j σ2 H3 => ∃ v5 v6, σ2 = [some (.ref a), some (.ref g), some (.ref L), some (.ref e), some (.ref M), v5, v6] ∧ Kept H' H3 ∧ H3 M = some (.lst (((c.take j).map (renL nm)).map V.int)))
        ⟨v5, v6, rfl, kM, eM⟩ (fun j σ2 H3 _ h => by
          obtain ⟨_, _, _, k2, _⟩ := h
          exact SqT.of (k2.tup hce)) ?_ ?_
      · rintro j y σ2 H3 hy ⟨v5, v6, rfl, k2, hMs⟩
        obtain ⟨n, rfl, hn⟩ := map_int hy
        have hj : j < c.length := (List.getElem?_eq_some_iff.mp hn).1
        have en : c.take (j + 1) = c.take j ++ [n] := by rw [List.take_add_one, hn]; rfl
        obtain ⟨kvs, g1, g2⟩ := hg.kept (k1.trans k2)
        walk_at "rd"
        refine (show tDGet2 _ _ _ _ _ _ from w_var rfl ⟨g, rfl, .inl ⟨_, .inl g1⟩, ?_⟩)
        walk_at "rd"
        refine ⟨n, rfl, ?_⟩
        walk_at "rd"
        refine ⟨n, rfl, ?_⟩
        refine ⟨_, DGet.k (k := Sum.inl (absI n)) g1, ?_⟩
        rw [show (Option.getD (valV kvs (Sum.inl (absI n))) (V.int (if n < 0 then -n else n))) = V.int (nm (absI n)) from g2 (absI n)]
        have hsz : ((List.map (renL nm) (List.take j c)).map V.int).length < sizeLine := by
          rw [List.length_map, List.length_map, List.length_take]
          omega
        walk_at "rd"
        refine ⟨by show 2 ≤ sizeLine; omega, fun Z hZ => ?_⟩
        have kZ := Kept.new (o := .lst [.int (-nm (absI n)), .int (nm (absI n))]) hZ
        have eZ : (upd H3 Z (.lst [.int (-nm (absI n)), .int (nm (absI n))])) Z = some (.lst [.int (-nm (absI n)), .int (nm (absI n))]) := upd_same
        have hM4 := kZ.lst hMs
        generalize upd H3 Z (.lst [.int (-nm (absI n)), .int (nm (absI n))]) = H4 at kZ eZ hM4
        have fin : ∀ m : Int, m = renL nm n → (upd H4 M (.lst (((c.take j).map (renL nm)).map V.int ++ [.int m]))) M = some (.lst (((c.take (j + 1)).map (renL nm)).map V.int)) := fun m e => by
          rw [upd_same, en, List.map_append, List.map_append, e] <;> rfl
        walk_at "rd"
        by_cases h0 : 0 < n
        · rw [decide_eq_true h0]
          refine .inr ⟨true, rfl, ?_⟩
          refine w_ixL (i := 1) (v := .int (nm (absI n))) eZ rfl ?_
          walk_at "rd"
          exact ⟨M, _, .int (nm (absI n)), rfl, rfl, hM4, hsz, _, _, rfl, Kept.mut (k2.trans kZ) hM, fin _ (by unfold renL; rw [if_pos h0])⟩
        · rw [decide_eq_false h0]
          refine .inr ⟨false, rfl, ?_⟩
          refine w_ixL (i := 0) (v := .int (-nm (absI n))) eZ rfl ?_
          walk_at "rd"
          exact ⟨M, _, .int (-nm (absI n)), rfl, rfl, hM4, hsz, _, _, rfl, Kept.mut (k2.trans kZ) hM, fin _ (by unfold renL; rw [if_neg h0])⟩
      · rintro σ2 H3 ⟨v5, v6, rfl, k2, hMs⟩
        rw [List.length_map, List.take_length] at hMs
        have hL3 := k2.lst hLs
        walk_at "rd"
        refine ⟨M, _, rfl, hMs, by rw [List.length_map]; omega, fun z => ?_, fun _ p H4 k4 hpn hp => ?_⟩
        · rw [hcn] at z
          cases z
        · have hL4 := k4.lst hL3
          have k24 := k2.trans k4
          exact ⟨L, _, .ref p, rfl, rfl, hL4, by rw [List.length_map]; omega, _, _, _, _, qs ++ [p], rfl, Kept.mut (k1.trans k24) hL, by rw [List.map_append]; exact upd_same, clsAt_upd (clsAt_snoc0 (hqs.kept k24) hp) hL4⟩
    · rintro σ' H' ⟨v3, v4, v5, v6, qs, rfl, k1, hLs, hqs⟩
      rw [hlb, List.take_length] at hqs
      walk_at "rd"
      exact k L H' qs k1 hLs hqs
end
end Ky

namespace Ky
open PySem PySem.Spec PyProof.Rows L2
local macro_rules | `(tactic| walk_at "rd") => `(tactic| repeat (first
  | with_reducible refine w_seq ?_
  | with_reducible refine w_asg ?_
  | with_reducible refine w_ret ?_
  | with_reducible refine w_drop ?_
  | with_reducible refine w_ifs ?_
  | ((with_reducible refine' w_var ?hh ?_); (case hh => exact rfl))
  | with_reducible refine w_c ?_
  | with_reducible refine w_op ?_
  | with_reducible refine w_un ?_
  | with_reducible refine w_I0 ?_
  | with_reducible refine w_U ?_
  | with_reducible refine w_nil ?_
  | with_reducible refine w_cons ?_
  | with_reducible refine w_call ?_
  | with_reducible refine w_cb ?_
  | with_reducible refine w_test ?_
  | with_reducible refine w_B ?_
  | with_reducible refine w_bl ?_
  | with_reducible refine w_and ?_
  | with_reducible refine w_or ?_
  | with_reducible refine w_not ?_
  | with_reducible refine w_ife ?_
  | with_reducible refine w_gRd ?_
  | with_reducible refine w_andV ?_
  | with_reducible refine w_orV ?_
  | with_reducible refine w_notV ?_
  | with_reducible refine w_chain ?_
  | with_reducible refine w_din ?_
  | with_reducible refine w_isi_ii ?_
  | with_reducible refine w_isi_ib ?_
  | with_reducible refine w_isi_it ?_
  | with_reducible refine w_isi_st ?_
  | ((with_reducible refine w_isi_tt ?h1 ?_); (case h1 => first | assumption | exact upd_same))
  | with_reducible refine if_t rfl ?_
  | with_reducible refine if_f rfl ?_
  | with_reducible refine w_tup ?_
  | with_reducible refine w_lst ?_
  | with_reducible refine w_next ?_
  | with_reducible refine w_bm ?_
  | with_reducible refine w_sl ?_
  | with_reducible refine w_part ?_
  | with_reducible refine w_nop ?_
  | with_reducible refine w_isI ?_
  | with_reducible refine w_yes ?_
  | with_reducible refine w_gn ?_
  | with_reducible refine w_gsub ?_
  | ((with_reducible refine' w_setL ?h1 ?h2 ?_); (case h1 => first | assumption | exact upd_same); (case h2 => exact rfl))
  | with_reducible refine w_asgG ?_
  | with_reducible refine w_m1 ?_
  | with_reducible refine w_isS ?_
  | with_reducible refine w_tyS ?_
  | ((with_reducible refine' w_tyL ?h1 ?_); (case h1 => first | assumption | exact upd_same))
  | ((with_reducible refine' w_ixT ?h1 ?h2 ?_); (case h1 => first | assumption | exact upd_same); (case h2 => exact rfl))
  | ((with_reducible refine' w_ixL ?h1 ?h2 ?_); (case h1 => first | assumption | exact upd_same); (case h2 => exact rfl))
  | ((with_reducible refine w_eq ?h1 ?_); (case h1 => exact rfl))
  | ((with_reducible refine w_ne ?h1 ?_); (case h1 => exact rfl))
  | dsimp only [List.set_cons_zero, List.set_cons_succ, List.append_nil, List.cons_append, List.nil_append, cxOf]))

theorem nm_cons {v m k : Int} {vs ms : List Int} : nmOf (v :: vs) (m :: ms) k = if v = k then m else nmOf vs ms k := by
  unfold nmOf
  rw [List.zip_cons_cons]
  by_cases e : v = k
  · rw [List.find?_cons_of_pos (by simp [e]), if_pos e] <;> rfl
  · rw [List.find?_cons_of_neg (by simp [e]), if_neg e]
theorem nm_out : ∀ {vs ms : List Int} {k : Int}, k ∉ vs → nmOf vs ms k = k
  | [], _, k, _ => rfl
  | v :: vs, [], k, _ => rfl
  | v :: vs, m :: ms, k, h => by
    rw [nm_cons, if_neg fun e => h (by rw [e]; exact List.mem_cons_self)]
    exact nm_out fun z => h (List.mem_cons_of_mem _ z)
theorem nm_inv : ∀ {vs ms : List Int} {k : Int}, vs.Nodup → ms.Nodup → ms.length = vs.length → k ∈ vs → nmOf vs ms k ∈ ms ∧ nmOf ms vs (nmOf vs ms k) = k
  | [], _, k, _, _, _, h => by cases h
  | v :: vs, [], k, _, _, hl, _ => by cases hl
  | v :: vs, m :: ms, k, hv, hm, hl, h => by
    rw [nm_cons]
    by_cases e : v = k
    · rw [if_pos e, nm_cons, if_pos rfl]
      exact ⟨List.mem_cons_self, e⟩
    · rw [if_neg e]
      rcases List.mem_cons.mp h with z | z
      · exact absurd z.symm e
      · obtain ⟨h1, h2⟩ := nm_inv (List.nodup_cons.mp hv).2 (List.nodup_cons.mp hm).2 (by simpa using hl) z
        refine ⟨List.mem_cons_of_mem _ h1, ?_⟩
        rw [nm_cons, if_neg fun q => (List.nodup_cons.mp hm).1 (by rw [q]; exact h1)]
        exact h2
theorem nm_map : ∀ {vs ms : List Int}, vs.Nodup → ms.length = vs.length → vs.map (nmOf vs ms) = ms
  | [], [], _, _ => rfl
  | [], m :: ms, _, h => by cases h
  | v :: vs, [], _, h => by cases h
  | v :: vs, m :: ms, hv, h => by
    rw [List.map_cons, nm_cons, if_pos rfl]
    congr 1
    have hv2 := List.nodup_cons.mp hv
    rw [← nm_map (vs := vs) (ms := ms) hv2.2 (by simpa using h)]
    refine List.map_congr_left fun u hu => ?_
    rw [nm_cons, if_neg fun e => hv2.1 (by rw [e]; exact hu), nm_map hv2.2 (by simpa using h)]
theorem valV_nm {vs ms : List Int} (hl : ms.length = vs.length) {k : Int} (h : k ∈ vs) : valV (namesKv vs ms) (Sum.inl k) = some (.int (nmOf vs ms k)) := by
  have e := valV_names (k := k) (vs.zip ms)
  have hs : (valV (namesKv vs ms) (Sum.inl k)).isSome = true := by
    rw [← valV_any, List.any_eq_true]
    obtain ⟨i, hi, rfl⟩ := List.getElem_of_mem h
    have hi2 : i < ms.length := by omega
    refine ⟨(Sum.inl vs[i], V.int ms[i]), ?_, by simp⟩
    unfold namesKv
    refine List.mem_map.mpr ⟨(vs[i], ms[i]), ?_, rfl⟩
    have hz : i < (vs.zip ms).length := by rw [List.length_zip]; omega
    have : (vs.zip ms)[i] = (vs[i], ms[i]) := List.getElem_zip
    rw [← this]
    exact List.getElem_mem hz
  unfold namesKv at hs ⊢
  cases hq : valV ((vs.zip ms).map fun x => ((Sum.inl x.1 : L2.Key), V.int x.2)) (Sum.inl k) with
  | none => rw [hq] at hs; cases hs
  | some y =>
    rw [hq] at e
    exact congrArg some e
/-! ### clauses keep no variable twice -/
theorem lit_pos {n : Int} (h : isLit n = true) : 1 ≤ absI n := by
  unfold isLit isVar at h
  rw [Bool.and_eq_true, decide_eq_true_eq, decide_eq_true_eq] at h
  exact h.1
theorem absI_neg (n : Int) : absI (-n) = absI n := by
  unfold absI
  split <;> split <;> omega
theorem clause_uniq {c : List Int} (h : isClauseF c = true) {a b : Int} (ha : a ∈ c) (hb : b ∈ c) (e : absI a = absI b) : a = b := by
  have hp := clause_abs h
  obtain ⟨i, hi, rfl⟩ := List.getElem_of_mem ha
  obtain ⟨j, hj, rfl⟩ := List.getElem_of_mem hb
  rw [List.pairwise_iff_getElem] at hp
  rcases Nat.lt_trichotomy i j with z | z | z
  · have := hp i j hi hj z
    omega
  · subst z; rfl
  · have := hp j i hj hi z
    omega
/-- the renamed clause has no variable twice -/
theorem ren_noBoth {c vs : List Int} {nm : Int → Int} (h : isClauseF c = true) (hv : ∀ n ∈ c, absI n ∈ vs) (hpos : ∀ v ∈ vs, 1 ≤ nm v) (hinj : ∀ u ∈ vs, ∀ v ∈ vs, nm u = nm v → u = v) : noBoth (c.map (renL nm)) := fun l h1 h2 => by
  obtain ⟨a, ha, ea⟩ := List.mem_map.mp h1
  obtain ⟨b, hb, eb⟩ := List.mem_map.mp h2
  have pa := hpos _ (hv a ha)
  have pb := hpos _ (hv b hb)
  have la := lit_pos (clause_lit h a ha)
  unfold renL at ea eb
  have key : nm (absI a) = nm (absI b) → a = b := fun e => clause_uniq h ha hb (hinj _ (hv a ha) _ (hv b hb) e)
  by_cases h0 : a > 0 <;> by_cases h3 : b > 0
  · rw [if_pos h0] at ea
    rw [if_pos h3] at eb
    omega
  · rw [if_pos h0] at ea
    rw [if_neg h3] at eb
    have := key (by omega)
    omega
  · rw [if_neg h0] at ea
    rw [if_pos h3] at eb
    have := key (by omega)
    omega
  · rw [if_neg h0] at ea
    rw [if_neg h3] at eb
    omega
theorem bothL_no {ls : List Int} (h : noBoth ls) : bothL ls = false := by
  unfold bothL
  rw [List.any_eq_false]
  intro n hn z
  exact h n hn (of_decide_eq_true z)
theorem bothS_nob {ls : List Int} (h : noBoth ls) : bothS ls = false := by
  unfold bothS
  rw [List.any_eq_false]
  intro i hi z
  rw [List.length_map] at hi
  have hi := List.mem_range.mp hi
  have z := of_decide_eq_true z
  rw [List.getD_eq_getElem?_getD, List.getElem?_eq_getElem hi] at z
  exact h _ (List.getElem_mem hi) z
theorem dd_same {ls : List Int} : ∀ {acc : List Int}, ls.Nodup → (∀ x ∈ ls, x ∉ acc) → ls.foldl dstep acc = acc ++ ls := by
  induction ls with
  | nil => intro acc _ _; rw [List.append_nil] <;> rfl
  | cons x ls ih =>
    intro acc hn hd
    have hn2 := List.nodup_cons.mp hn
    rw [List.foldl_cons, show dstep acc x = acc ++ [x] from if_neg (hd x List.mem_cons_self), ih hn2.2 fun y hy z => ?_, List.append_assoc] <;> try rfl
    rcases List.mem_append.mp z with q | q
    · exact hd y (List.mem_cons_of_mem _ hy) q
    · rw [List.mem_singleton.mp q] at hy
      exact hn2.1 hy
theorem dd_nodup {ls : List Int} (h : ls.Nodup) : dd ls = ls := by
  unfold dd
  rw [dd_same h fun x _ z => absurd z List.not_mem_nil, List.nil_append]
/-! ### the least free numbers -/
def freeF (T : List Int) : List Int := ((List.range 59).map fun i : Nat => (1 : Int) + (i : Int)).filter fun n => decide (n ∉ T)
theorem free_asc (T : List Int) : (freeF T).Pairwise (· < ·) := by
  refine List.Pairwise.filter _ ?_
  rw [List.pairwise_map]
  exact List.pairwise_lt_range.imp fun {a b} z => by omega
theorem mem_free {T : List Int} {n : Int} : n ∈ freeF T ↔ 1 ≤ n ∧ n ≤ 59 ∧ n ∉ T := by
  unfold freeF
  rw [List.mem_filter, List.mem_map, decide_eq_true_eq]
  constructor
  · rintro ⟨⟨i, hi, rfl⟩, h⟩
    have := List.mem_range.mp hi
    exact ⟨by omega, by omega, h⟩
  · rintro ⟨h1, h2, h3⟩
    exact ⟨⟨(n - 1).toNat, List.mem_range.mpr (by omega), by omega⟩, h3⟩
theorem small_len {xs : List Int} (h : ∀ k : Int, 1 ≤ k → k ≤ 59 → k ∈ xs) : 59 ≤ xs.length := by
  have hn : ((List.range 59).map fun i : Nat => (1 : Int) + (i : Int)).Nodup := by
    refine asc_nodup ?_
    rw [List.pairwise_map]
    exact List.pairwise_lt_range.imp fun {a b} z => by omega
  have := List.Nodup.length_le_of_subset hn (l₂ := xs) fun x hx => by
    obtain ⟨i, hi, rfl⟩ := List.mem_map.mp hx
    have := List.mem_range.mp hi
    exact h _ (by omega) (by omega)
  rwa [List.length_map, List.length_range] at this
theorem free_len (T : List Int) : 59 ≤ (freeF T).length + T.length := by
  rw [← List.length_append]
  refine small_len fun k h1 h2 => List.mem_append.mpr ?_
  by_cases h : k ∈ T
  · exact .inr h
  · exact .inl (mem_free.mpr ⟨h1, h2, h⟩)
theorem asc_take {x : Int} : ∀ {F : List Int}, F.Pairwise (· < ·) → F.filter (fun n => decide (n ≤ x)) = F.take (F.filter fun n => decide (n ≤ x)).length
  | [], _ => rfl
  | a :: F, h => by
    have h2 := List.pairwise_cons.mp h
    by_cases e : a ≤ x
    · rw [List.filter_cons_of_pos (p := fun n => decide (n ≤ x)) (decide_eq_true e), List.length_cons, List.take_succ_cons]
      congr 1
      exact asc_take h2.2
    · have : F.filter (fun n => decide (n ≤ x)) = [] := List.filter_eq_nil_iff.mpr fun y hy z => by
        have := h2.1 y hy
        have := of_decide_eq_true z
        omega
      rw [List.filter_cons_of_neg (p := fun n => decide (n ≤ x)) (by simpa using e), this] <;> rfl
theorem free_is {T ms : List Int} {last : Int} (h : NewP T last ms) (hl : T.length + ms.length < 59) : ms = (freeF T).take ms.length := by
  have hlast : last ≤ 59 := by
    by_cases e : last ≤ 59
    · exact e
    · have := small_len (xs := T ++ ms) fun k h1 h2 => List.mem_append.mpr (h.2.2 k h1 (by omega))
      rw [List.length_append] at this
      omega
  have e : ms = (freeF T).filter fun n => decide (n ≤ last) := asc_eq h.1 ((free_asc T).filter _) fun k => by
    rw [List.mem_filter, mem_free, decide_eq_true_eq]
    constructor
    · intro hk
      have := h.2.1 k hk
      exact ⟨⟨this.1, by omega, this.2.2⟩, this.2.1⟩
    · rintro ⟨⟨h1, h2, h3⟩, h4⟩
      exact (h.2.2 k h1 h4).resolve_left h3
  have e2 := asc_take (x := last) (free_asc T)
  rw [← e] at e2
  exact e2
/-- the names that the second formula's hidden variables get -/
def newF (S Hd Hs : List Int) : List Int := (freeF (S ++ Hd)).take Hs.length
structure NewOk (S Hd Hs : List Int) (M : List Int) : Prop where
  len : M.length = Hs.length
  nd : M.Nodup
  mem : ∀ m ∈ M, 1 ≤ m ∧ m ∉ S ∧ m ∉ Hd
  is : ∀ ms last, ms.length = Hs.length → NewP (S ++ Hd) last ms → ms = M
theorem new_ok {S Hd Hs : List Int} (h : S.length + Hd.length + Hs.length < 59) : NewOk S Hd Hs (newF S Hd Hs) := by
  have hl := free_len (S ++ Hd)
  rw [List.length_append] at hl
  refine ⟨?_, asc_nodup ((free_asc _).sublist (List.take_sublist _ _)), fun m hm => ?_, fun ms last h1 h2 => ?_⟩
  · unfold newF
    rw [List.length_take]
    omega
  · have := mem_free.mp (List.mem_of_mem_take hm)
    exact ⟨this.1, fun z => this.2.2 (List.mem_append_left _ z), fun z => this.2.2 (List.mem_append_right _ z)⟩
  · have := free_is h2 (by rw [List.length_append]; omega)
    unfold newF
    rw [← h1]
    exact this
theorem NewOk.noBoth {S Hd Hs M : List Int} (h : NewOk S Hd Hs M) (hpS : ∀ v ∈ S, 1 ≤ v) (hHs : Hs.Nodup) (hd2 : ∀ v ∈ Hs, v ∉ S) {c : List Int} (hc : isClauseF c = true) (hv : ∀ n ∈ c, absI n ∈ S ++ Hs) : Ky.noBoth (c.map (renL (nmOf Hs M))) := by
  have h1 : ∀ v ∈ S, nmOf Hs M v = v := fun v hv => nm_out fun z => hd2 v z hv
  have h2 : ∀ v ∈ Hs, nmOf Hs M v ∈ M ∧ nmOf M Hs (nmOf Hs M v) = v := fun v hv => nm_inv hHs h.nd h.len hv
  refine ren_noBoth (vs := S ++ Hs) hc hv (fun v hv => ?_) fun u hu v hv e => ?_
  · rcases List.mem_append.mp hv with z | z
    · rw [h1 v z]; exact hpS v z
    · exact (h.mem _ (h2 v z).1).1
  · rcases List.mem_append.mp hu with a | a <;> rcases List.mem_append.mp hv with b | b
    · rw [h1 u a, h1 v b] at e
      exact e
    · rw [h1 u a] at e
      exact absurd a (by rw [e]; exact (h.mem _ (h2 v b).1).2.1)
    · rw [h1 v b] at e
      exact absurd b (by rw [← e]; exact (h.mem _ (h2 u a).1).2.1)
    · rw [← (h2 u a).2, e, (h2 v b).2]
/-! ### the models of both -/
theorem mod_both {S Hd Hs ms : List Int} {rc1 rc2 : List (List Int)} (hS : S.Nodup) (hpS : ∀ v ∈ S, 1 ≤ v) (hHd : Hd.Nodup) (hpH : ∀ v ∈ Hd, 1 ≤ v) (hd1 : ∀ v ∈ S, v ∉ Hd) (hHs : Hs.Nodup) (hpHs : ∀ v ∈ Hs, 1 ≤ v) (hd2 : ∀ v ∈ S, v ∉ Hs)
    (hms : ms.Nodup) (hml : ms.length = Hs.length) (hmp : ∀ m ∈ ms, 1 ≤ m ∧ m ∉ S ∧ m ∉ Hd) (hv1 : ∀ c ∈ rc1, ∀ n ∈ c, absI n ∈ S ∨ absI n ∈ Hd) (hv2 : ∀ c ∈ rc2, ∀ n ∈ c, absI n ∈ S ∨ absI n ∈ Hs) :
    modF S (srtBy PyData.int (Hd ++ ms)) (residueF (rc1 ++ renC Hs ms rc2)) = (modF S Hd rc1).filter fun r => decide (r ∈ modF S Hs rc2) := by
  unfold modF
  rw [List.filter_filter]
  refine List.filter_congr fun f hf => ?_
  obtain ⟨s0, rfl⟩ := (mem_fillF_s hS hpS).mp hf
  have hren : ∀ v ∈ S, nmOf Hs ms v = v := fun v hv => nm_out (hd2 v hv)
  have hrin : ∀ v ∈ Hs, nmOf Hs ms v ∈ ms := fun v hv => (nm_inv hHs hms hml hv).1
  have m1 := model_iff (S := S) (Hd := Hd) (rc := rc1) (fun v h => h.elim (hpS v) (hpH v)) hHd hd1 hv1 s0
  have m2 := model_iff (S := S) (Hd := Hs) (rc := rc2) (fun v h => h.elim (hpS v) (hpHs v)) hHs hd2 hv2 s0
  have mr : ∀ d, d ∈ residueF (rc1 ++ renC Hs ms rc2) ↔ d ∈ rc1 ∨ ∃ c ∈ rc2, clauseF (c.map (renL (nmOf Hs ms))) = d := fun d => by
    rw [mem_residueF, List.mem_append]
    unfold renC
    rw [List.mem_map]
  have hrl : ∀ n : Int, absI n ∈ S ∨ absI n ∈ Hs → absI (renL (nmOf Hs ms) n) = nmOf Hs ms (absI n) ∧ 1 ≤ nmOf Hs ms (absI n) := fun n h => by
    have hp : 1 ≤ nmOf Hs ms (absI n) := by
      rcases h with z | z
      · rw [hren _ z]; exact hpS _ z
      · exact (hmp _ (hrin _ z)).1
    refine ⟨?_, hp⟩
    unfold renL
    by_cases h0 : n > 0
    · rw [if_pos h0]
      generalize nmOf Hs ms (absI n) = x at hp
      unfold absI
      rw [if_neg (by omega)]
    · rw [if_neg h0, absI_neg]
      generalize nmOf Hs ms (absI n) = x at hp
      unfold absI
      rw [if_neg (by omega)]
  have m3 := model_iff (S := S) (Hd := srtBy PyData.int (Hd ++ ms)) (rc := residueF (rc1 ++ renC Hs ms rc2)) (fun v h => by
      rcases h with h | h
      · exact hpS v h
      · rw [mem_srtBy, List.mem_append] at h
        exact h.elim (hpH v) fun z => (hmp v z).1)
    ((srtBy_perm _ _).nodup_iff.mpr (List.nodup_append.mpr ⟨hHd, hms, fun a ha b hb e => (hmp b hb).2.2 (by rw [← e]; exact ha)⟩))
    (fun v hv z => by
      rw [mem_srtBy, List.mem_append] at z
      exact z.elim (hd1 v hv) fun q => (hmp v q).2.1 hv)
    (fun d hd n hn => by
      rw [mem_srtBy, List.mem_append]
      rcases (mr d).mp hd with z | ⟨c, hc, rfl⟩
      · exact (hv1 d z n hn).imp id Or.inl
      · rw [mem_clauseF] at hn
        obtain ⟨m, hm, rfl⟩ := List.mem_map.mp hn
        rw [(hrl m (hv2 c hc m hm)).1]
        rcases hv2 c hc m hm with q | q
        · rw [hren _ q]; exact .inl q
        · exact .inr (.inr (hrin _ q))) s0
  have hsat : ∀ s, satC s (residueF (rc1 ++ renC Hs ms rc2)) ↔ satC s rc1 ∧ satC s (rc2.map fun c => c.map fun n => if n > 0 then nmOf Hs ms (absI n) else -nmOf Hs ms (absI n)) := fun s => by
    unfold satC
    constructor
    · intro h
      refine ⟨fun c hc => h c ((mr c).mpr (.inl hc)), fun c' hc' => ?_⟩
      obtain ⟨c, hc, rfl⟩ := List.mem_map.mp hc'
      obtain ⟨n, hn, e⟩ := h _ ((mr _).mpr (.inr ⟨c, hc, rfl⟩))
      rw [mem_clauseF] at hn
      exact ⟨n, hn, e⟩
    · rintro ⟨h1, h2⟩ d hd
      rcases (mr d).mp hd with z | ⟨c, hc, rfl⟩
      · exact h1 d z
      · obtain ⟨n, hn, e⟩ := h2 _ (List.mem_map.mpr ⟨c, hc, rfl⟩)
        exact ⟨n, mem_clauseF.mpr hn, e⟩
  have sb := sat_both (S := S) (H1 := Hd) (H2 := Hs) (R1 := rc1) (R2 := rc2) (ren := nmOf Hs ms) (inv := nmOf ms Hs) s0 hren (fun v hv => (nm_inv hHs hms hml hv).2) (fun v hv => (hmp _ (hrin v hv)).2) hd2
    (fun v h => by
      rcases h with z | z
      · rw [hren _ z]; exact hpS _ z
      · exact (hmp _ (hrin _ z)).1) hv1 hv2
  rw [Bool.eq_iff_iff, Bool.and_eq_true, decide_eq_true_eq, List.mem_filter, m3, m1, m2]
  constructor
  · rintro ⟨s, h1, h2⟩
    have := sb.mp ⟨s, h1, (hsat s).mp h2⟩
    exact ⟨⟨fillS_mem s0 S, this.2⟩, this.1⟩
  · rintro ⟨⟨_, h2⟩, h1⟩
    obtain ⟨s, q1, q2⟩ := sb.mpr ⟨h1, h2⟩
    exact ⟨s, q1, (hsat s).mpr q2⟩
end Ky

namespace Ky
open PySem PySem.Spec PyProof.Rows L2
local macro_rules | `(tactic| walk_at "rd") => `(tactic| repeat (first
  | with_reducible refine w_for1 ?_
  | with_reducible refine w_for2 ?_
  | with_reducible refine w_forL ?_
  | with_reducible refine w_forT ?_
  | with_reducible refine w_lc1 ?_
  | with_reducible refine w_lcL ?_
  | with_reducible refine w_lcT ?_
  | with_reducible refine w_dcL ?_
  | with_reducible refine w_dcT ?_
  | with_reducible refine w_seq ?_
  | with_reducible refine w_asg ?_
  | with_reducible refine w_ret ?_
  | with_reducible refine w_drop ?_
  | with_reducible refine w_ifs ?_
  | ((with_reducible refine' w_var ?hh ?_); (case hh => exact rfl))
  | with_reducible refine w_c ?_
  | with_reducible refine w_op ?_
  | with_reducible refine w_un ?_
  | with_reducible refine w_I0 ?_
  | with_reducible refine w_U ?_
  | with_reducible refine w_nil ?_
  | with_reducible refine w_cons ?_
  | with_reducible refine w_call ?_
  | with_reducible refine w_cb ?_
  | with_reducible refine w_test ?_
  | with_reducible refine w_B ?_
  | with_reducible refine w_bl ?_
  | with_reducible refine w_and ?_
  | with_reducible refine w_or ?_
  | with_reducible refine w_not ?_
  | with_reducible refine w_ife ?_
  | with_reducible refine w_gRd ?_
  | with_reducible refine w_andV ?_
  | with_reducible refine w_orV ?_
  | with_reducible refine w_notV ?_
  | with_reducible refine w_chain ?_
  | with_reducible refine w_din ?_
  | with_reducible refine w_isi_ii ?_
  | with_reducible refine w_isi_bi ?_
  | with_reducible refine w_isi_bb ?_
  | with_reducible refine w_isi_bt ?_
  | with_reducible refine w_isi_si ?_
  | with_reducible refine w_isi_nt ?_
  | with_reducible refine w_isi_ib ?_
  | with_reducible refine w_isi_it ?_
  | with_reducible refine w_isi_st ?_
  | ((with_reducible refine w_isi_tt ?h1 ?_); (case h1 => first | assumption | exact upd_same))
  | with_reducible refine if_t rfl ?_
  | with_reducible refine if_f rfl ?_
  | with_reducible refine w_tup ?_
  | with_reducible refine w_lst ?_
  | with_reducible refine w_next ?_
  | with_reducible refine w_bm ?_
  | with_reducible refine w_sl ?_
  | with_reducible refine w_part ?_
  | with_reducible refine w_nop ?_
  | with_reducible refine w_isI ?_
  | with_reducible refine w_yes ?_
  | with_reducible refine w_gn ?_
  | with_reducible refine w_gsub ?_
  | ((with_reducible refine' w_setL ?h1 ?h2 ?_); (case h1 => first | assumption | exact upd_same); (case h2 => exact rfl))
  | with_reducible refine w_asgG ?_
  | with_reducible refine w_m1 ?_
  | with_reducible refine w_isS ?_
  | with_reducible refine w_tyS ?_
  | ((with_reducible refine' w_tyL ?h1 ?_); (case h1 => first | assumption | exact upd_same))
  | ((with_reducible refine' w_ixT ?h1 ?h2 ?_); (case h1 => first | assumption | exact upd_same); (case h2 => exact rfl))
  | ((with_reducible refine' w_ixL ?h1 ?h2 ?_); (case h1 => first | assumption | exact upd_same); (case h2 => exact rfl))
  | ((with_reducible refine w_eq ?h1 ?_); (case h1 => exact rfl))
  | ((with_reducible refine w_ne ?h1 ?_); (case h1 => exact rfl))
  | dsimp only [List.set_cons_zero, List.set_cons_succ, List.append_nil, List.cons_append, List.nil_append, cxOf]))

/-! ### pieces that the law's walk leaves -/
def Lc2 (g : TG) (tt : TT) (te : TE) (vs : List Nat) (σ : L2.St) (Q : VK) (ws : List V) (H1 : Hp) : Prop := ∃ i j : Int, ws = [.int i, .int j] ∧ (-(2 ^ 62) ≤ i ∧ i < 2 ^ 62 ∧ -(2 ^ 62) ≤ j ∧ j < 2 ^ 62) ∧ LcJ g tt te vs σ Q (Itr i (j - i).toNat) H1
theorem w_lc2 {σ : L2.St} {H : Hp} {Q : VK} {g : TG} {ta : TA} {te : TE} {tt : TT} {vs : List Nat} (q : ta σ H (Lc2 g tt te vs σ Q)) : tLc (iRng2 ta) g tt te vs σ H Q := q
theorem w_sortSet {T : Type} [DecidableEq T] {X : Cx} {K : PySem.W.Frag} {kd : PySem.KeyKind X.prog X.w T} {rd : Value → T} {tv : T → V} {sr : List T → Prop} {ta : TE} {σ : L2.St} {H : Hp} {Q : VK} (q : ta σ H fun x H1 => SrtSet K kd rd tv sr x H1 Q) : tSortSet K kd rd tv sr ta σ H Q := q
/-- a comprehension over numbers of a tuple whose condition draws: some of them, in order -/
theorem LcT.drawSub {K : PySem.W.Frag} {te : TE} {tt : TT} {σ : L2.St} {d c a : Addr} {ns : List Int} {j : Nat} {H0 : Hp} {Q : VK} (hd : DrwC d c H0) (hn : ns.length ≤ 1000) (ha : H0 a = some (.tup (ns.map V.int)))
    (step : ∀ n H (k : Hp → Prop) (k2 : VK), n ∈ ns → KeptC d c H0 H → (∀ H4, KeptC d c H H4 → k2 (.int n) H4) → (∀ H4, KeptC d c H H4 → k H4) → tt ((wipe σ [j]).set j (some (.int n))) H fun b H3 => if b = true then te ((wipe σ [j]).set j (some (.int n))) H3 k2 else k H3)
    (fin : ∀ D H (gs : List Int), H0 D = none → KeptC d c H0 H → H D = some (.lst (gs.map V.int)) → gs.Sublist ns → Q (.ref D) H) : LcT K (gName j) tt te [j] σ Q (.ref a) H0 := by
  have hsl : 1001 ≤ sizeLine := by decide
  refine ⟨a, rfl, ⟨_, SqT.of ha⟩, fun D hD => ?_⟩
  have nd := (hd.old hD).1
  refine c_walk (xv := fun i => (ns.map V.int).getD i .non) (n := (ns.map V.int).length) (fun i H => KeptC d c H0 H ∧ ∃ gs : List Int, H D = some (.lst (gs.map V.int)) ∧ gs.Sublist (ns.take i)) ⟨(Kept.new hD).toC, [], upd_same, List.nil_sublist _⟩
    (fun i H h s => ⟨ns.map V.int, (ns.map V.int)[i], SqT.of (s.1.tup hd ha), List.getElem?_eq_getElem h⟩) (fun i H x H' h s q => ?_) (fun H s => ⟨ns.map V.int, SqT.of (s.1.tup hd ha), Nat.le_refl _⟩) (fun i H hi s => ?_) fun H s => ?_
  · obtain ⟨e, q⟩ := q
    subst e
    refine ⟨rfl, ?_⟩
    rw [List.getD_eq_getElem?_getD, q (ns.map V.int) (SqT.of (s.1.tup hd ha))] <;> rfl
  · obtain ⟨kp, gs, h1, h2⟩ := s
    rw [List.length_map] at hi
    have hni : ns[i]? = some ns[i] := List.getElem?_eq_getElem hi
    have ex : (ns.map V.int).getD i .non = .int ns[i] := by rw [List.getD_eq_getElem?_getD, List.getElem?_map, hni] <;> rfl
    have et : ns.take (i + 1) = ns.take i ++ [ns[i]] := by rw [List.take_add_one, hni] <;> rfl
    have hgl := h2.length_le
    rw [List.length_take] at hgl
    dsimp only
    rw [ex]
    refine ⟨wipe_one, step ns[i] H _ _ (List.getElem_mem hi) kp (fun H4 k4 => ⟨_, k4.lst nd h1, ?_, (kp.trans k4).mut hD, gs ++ [ns[i]], ?_, ?_⟩) fun H4 k4 => ⟨kp.trans k4, gs, k4.lst nd h1, ?_⟩⟩
    · rw [List.length_map]
      omega
    · rw [List.map_append]
      exact upd_same
    · rw [et]
      exact List.Sublist.append h2 (List.Sublist.refl _)
    · rw [et]
      exact h2.trans (List.sublist_append_left _ _)
  · obtain ⟨kp, gs, h1, h2⟩ := s
    rw [List.length_map, List.take_length] at h2
    exact fin D H gs hD kp h1 h2
theorem w_neForm {K : PySem.W.Frag} {H : Hp} {x y : V} {S Hd : List Int} {rc : List (List Int)} {Q : VK} (h1 : Dp K H x (formD S Hd rc)) (h2 : Dp K H y (formD S Hd rc)) (q : Q (.bl false) H) : rNeD K x y H Q :=
  ⟨_, _, h1, h2, sh_form _ _ _, sh_form _ _ _, by rw [eqv_form, decide_eq_true ⟨rfl, rfl, rfl⟩]; exact q⟩
theorem w_neRows {K : PySem.W.Frag} {H : Hp} {a b : Addr} {ps qs : List Addr} {cs : List (List Int)} {Q : VK} (h1 : H a = some (.lst (ps.map V.ref))) (c1 : ClsAt H ps cs) (h2 : H b = some (.lst (qs.map V.ref))) (c2 : ClsAt H qs cs) (q : Q (.bl false) H) : rNeD K (.ref a) (.ref b) H Q := by
  refine ⟨_, _, dl_rows c1 h1, dl_rows c2 h2, shL_rows _, shL_rows _, ?_⟩
  have e : ∀ ds : List (List Int), PyData.eqv (.list (cs.map rowD)) (.list (ds.map rowD)) = decide (cs = ds) := fun ds => by
    simp only [PyData.eqv]
    exact eqv_rows cs ds
  rw [e cs, decide_eq_true rfl]
  exact q
theorem sh_rowsT (cs : List (List Int)) : SeqAt.shaped (.tuple (cs.map rowD)) = true := by
  have h1 := depth_rows cs
  have h2 := canLay_rows cs
  unfold SeqAt.shaped
  simp only [PyData.canLay0, h2, PyData.depth, Bool.true_and]
  exact decide_eq_true (by omega)
theorem w_neRT {K : PySem.W.Frag} {H : Hp} {a b : Addr} {ps : List Addr} {cs : List (List Int)} {Q : VK} (h1 : H a = some (.tup (ps.map V.ref))) (c1 : ClsAt H ps cs) (h2 : H b = some (.tup [])) (q : Q (.bl (!decide (cs = []))) H) : rNeD K (.ref a) (.ref b) H Q := by
  refine ⟨_, _, dpT_rows c1 h1, .tup (SqT.of h2) .nil, sh_rowsT _, by decide +kernel, ?_⟩
  rw [show PyData.eqv (.tuple (cs.map rowD)) (.tuple []) = decide (cs = []) from by cases cs <;> simp [PyData.eqv, PyData.eqvAll]]
  exact q
theorem zip_snoc {α β : Type} : ∀ (xs : List α) (ys : List β) (x : α) (y : β), ys[xs.length]? = some y → (xs ++ [x]).zip ys = xs.zip ys ++ [(x, y)]
  | [], [], _, _, h => by simp at h
  | [], y0 :: ys, x, y, h => by simp at h; simp [h]
  | a :: xs, [], x, y, h => by simp at h
  | a :: xs, b :: ys, x, y, h => by
    rw [List.cons_append, List.zip_cons_cons, List.zip_cons_cons, List.cons_append, zip_snoc xs ys x y (by simpa using h)]
theorem zip_trunc {α β : Type} : ∀ (xs : List α) (ys : List β), xs.zip (ys.take xs.length) = xs.zip ys
  | [], _ => rfl
  | a :: xs, [] => rfl
  | a :: xs, b :: ys => by
    rw [List.length_cons, List.take_succ_cons, List.zip_cons_cons, List.zip_cons_cons, zip_trunc xs ys]
/-- the two formulas -/
structure TwoAt (H : Hp) (fp fs fh fr : Addr) (bs : List Addr) (S Hd : List Int) (rc : List (List Int)) (sb hid sr : Addr) (bs2 : List Addr) (Hs : List Int) (rc2 : List (List Int)) : Prop where
  p : H fp = some (.tup [.ref fs, .ref fh, .ref fr])
  s : H fs = some (.tup (S.map V.int))
  h : H fh = some (.tup (Hd.map V.int))
  r : H fr = some (.tup (bs.map V.ref))
  c : ClsAt H bs rc
  p2 : H sb = some (.tup [.ref fs, .ref hid, .ref sr])
  h2 : H hid = some (.tup (Hs.map V.int))
  r2 : H sr = some (.tup (bs2.map V.ref))
  c2 : ClsAt H bs2 rc2
section
variable {H H' : Hp} {fp fs fh fr : Addr} {bs : List Addr} {S Hd : List Int} {rc : List (List Int)} {sb hid sr : Addr} {bs2 : List Addr} {Hs : List Int} {rc2 : List (List Int)}
theorem TwoAt.kept (t : TwoAt H fp fs fh fr bs S Hd rc sb hid sr bs2 Hs rc2) (k : Kept H H') : TwoAt H' fp fs fh fr bs S Hd rc sb hid sr bs2 Hs rc2 :=
  ⟨k.tup t.p, k.tup t.s, k.tup t.h, k.tup t.r, t.c.kept k, k.tup t.p2, k.tup t.h2, k.tup t.r2, t.c2.kept k⟩
theorem TwoAt.keptC {d c : Addr} (t : TwoAt H fp fs fh fr bs S Hd rc sb hid sr bs2 Hs rc2) (k : KeptC d c H H') (hd : DrwC d c H) : TwoAt H' fp fs fh fr bs S Hd rc sb hid sr bs2 Hs rc2 :=
  ⟨k.tup hd t.p, k.tup hd t.s, k.tup hd t.h, k.tup hd t.r, t.c.keptC k hd, k.tup hd t.p2, k.tup hd t.h2, k.tup hd t.r2, t.c2.keptC k hd⟩
end
/-- a drawn clause, or none -/
def ClV (H : Hp) (v : V) : Prop := v = .non ∨ ∃ (ca : Addr) (c0 : List Int), v = .ref ca ∧ H ca = some (.tup (c0.map V.int)) ∧ c0.length ≤ 4
theorem ClV.keptC {d c : Addr} {H H' : Hp} {v : V} (h : ClV H v) (k : KeptC d c H H') (hd : DrwC d c H) : ClV H' v := by
  rcases h with h | ⟨ca, c0, e, h1, h2⟩
  · exact .inl h
  · exact .inr ⟨ca, c0, e, k.tup hd h1, h2⟩
theorem ClV.kept {H H' : Hp} {v : V} (h : ClV H v) (k : Kept H H') : ClV H' v := by
  rcases h with h | ⟨ca, c0, e, h1, h2⟩
  · exact .inl h
  · exact .inr ⟨ca, c0, e, k.tup h1, h2⟩
def spLaw (K : PySem.W.Frag) (P0 P1 : Addr) : Sp := fun vs H Q _ => ∃ (sa : Addr) (ns : List Int), vs = [.ref sa] ∧ SqL K H sa (ns.map V.int) ∧ ns.length ≤ 63 ∧ GxR.TabG H P0 ∧ GxR.TabG H P1 ∧ ∀ H', Q (.bl true) H'
section
variable {P : Program} {w : World} {K : PySem.W.Frag} {mg : Str → Option Value} {base : Heap} {uG : Value} {f C : Addr} {fd : FuncData}
theorem ok_law {P0 P1 : Addr} (F : Fun K "law" "law" s_law f fd) (T : Tx K mg) (D_l_draw : Df P w K mg base 1 "_law_draw" ["script"] (spDrawC K)) (D_l_take : Df P w K mg base 1 "_law_take" ["draw", "many"] spTakeC) (D_l_formula : Df P w K mg base 6 "_law_formula" ["draw", "most"] spLFormula2) (D_l_clauses : Df P w K mg base 5 "_law_clauses" ["draw", "variables", "many"] spLClauses) (D_hide : Df P w K mg base 1 "hide" ["formula", "variables"] spHide)
    (D_l_residue : Df P w K mg base 4 "_law_residue" ["clauses"] spLResidue) (D_l_renamed : Df P w K mg base 5 "_law_renamed" ["residue", "names"] spLRenamed) (D_both : Df P w K mg base 6 "both" ["first", "second"] (spBoth P0)) (D_l_models : Df P w K mg base 2 "_law_models" ["shown", "hidden", "residue"] spLMod) (D_l_literal : Df P w K mg base 2 "_law_literal" ["draw", "variables"] spLLit) (D_l_clause : Df P w K mg base 4 "_law_clause" ["literals"] spLClause2) (D_l_change_right : Df P w K mg base 7 "_law_change_right" ["formula", "clause", "put"] (spLRight P1)) : FnOk P w K mg base CX0 8 f fd ["script"] (spLaw K P0 P1) := by
  refine F.ok sc_law (fun vs H Q E h => ?_) (fun cdv A outer s H vs Q E hr h => ?_)
  · obtain ⟨a, ns, rfl, _⟩ := h
    rfl
  · obtain ⟨sa, ns, rfl, hSq, hlen, hT0, hT1, k⟩ := h
    have hsl : 1001 ≤ sizeLine := by decide
    refine ⟨_, (pss_cons (ps_set (i := 1) sc_law.nd rfl (.inr rfl) (pe_df D_l_draw (hr.mono (by decide)) (by rfl) (pa_cons (pv 0) pa_nil)))
    (pss_cons (ps_set (i := 2) sc_law.nd rfl (.inr rfl) (pe_df D_l_formula (hr.mono (by decide)) (by rfl) (pa_cons (pv 1) (pa_cons pe_int pa_nil))))
    (pss_cons (ps_set (i := 3) sc_law.nd rfl (.inl rfl) (pe_setInts (K := K) rfl rfl (by rfl) T.z_sorted (by rfl) T.z_set (pe_lc (own := [("k", 4)]) (g := gName 4) (by rfl) sc_law.nd (pi_range1 (by rfl) T.z_range (pa_cons (pe_df D_l_take (hr.mono (by decide)) (by rfl) (pa_cons (pv 1) (pa_cons pe_int pa_nil))) pa_nil)) (blkOk_by (own := [("k", 4)]) (N := n_law) (sc := defScope s_law) (by decide +kernel)) (fun _ _ _ _ _ => pg_name (i := 4) sc_law.nd rfl (Or.inl rfl)) (fun _ _ _ _ _ => pts_nil) (fun _ _ _ _ _ => (pe_op op_add pe_int (pe_df D_l_take (hr.mono (by decide)) (by rfl) (pa_cons (pv 1) (pa_cons pe_int pa_nil)))))) (by rfl)))
    (pss_cons (ps_set (i := 5) sc_law.nd rfl (.inl rfl) (pe_callTy call_tuple_of (by rfl) T.z_tuple (by decide +kernel) (pa_cons (pe_lc (own := [("v", 6)]) (g := gName 6) (by rfl) sc_law.nd (pi_listK (K := K) rfl (pv 3)) (blkOk_by (own := [("v", 6)]) (N := n_law) (sc := defScope s_law) (by decide +kernel)) (fun _ _ _ _ _ => pg_name (i := 6) sc_law.nd rfl (Or.inl rfl)) (fun _ _ _ _ _ => pts_one (pt_cmpR (opK (K := K) (r := fun K => rIn K true) rfl op_notIn_seq) (pv 6) (pe_ix (ix_tupK (K := K) rfl) (pv 2) pe_int (fun _ _ => rfl)) (by rfl))) (fun _ _ _ _ _ => (pv 6))) pa_nil)))
    (pss_cons (ps_set (i := 7) sc_law.nd rfl (.inl rfl) (pe_tup (pa_cons (pe_ix (ix_tupK (K := K) rfl) (pv 2) pe_int (fun _ _ => rfl)) (pa_cons (pv 5) (pa_cons (pe_df D_l_clauses (hr.mono (by decide)) (by rfl) (pa_cons (pv 1) (pa_cons (pe_op (opK (K := K) (r := rCatA) rfl op_catA) (pe_ix (ix_tupK (K := K) rfl) (pv 2) pe_int (fun _ _ => rfl)) (pv 5)) (pa_cons pe_int pa_nil)))) pa_nil)))))
    (pss_cons (ps_set (i := 8) sc_law.nd rfl (.inr rfl) (pe_lc (own := [("v", 6)]) (g := gName 6) (by rfl) sc_law.nd (pi_tupK (K := K) rfl (pe_ix (ix_tupK (K := K) rfl) (pv 2) pe_int (fun _ _ => rfl))) (blkOk_by (own := [("v", 6)]) (N := n_law) (sc := defScope s_law) (by decide +kernel)) (fun _ _ _ _ _ => pg_name (i := 6) sc_law.nd rfl (Or.inl rfl)) (fun _ _ _ _ _ => pts_one (pt_cmpR op_eq (pe_df D_l_take (hr.mono (by decide)) (by rfl) (pa_cons (pv 1) (pa_cons pe_int pa_nil))) pe_int (nomark _))) (fun _ _ _ _ _ => (pv 6))))
    (pss_cons (ps_set (i := 9) sc_law.nd rfl (.inl rfl) (pe_tup (pa_cons (pe_callTy call_tuple_of (by rfl) T.z_tuple (by decide +kernel) (pa_cons (pe_lc (own := [("v", 6)]) (g := gName 6) (by rfl) sc_law.nd (pi_tupK (K := K) rfl (pe_ix (ix_tupK (K := K) rfl) (pv 2) pe_int (fun _ _ => rfl))) (blkOk_by (own := [("v", 6)]) (N := n_law) (sc := defScope s_law) (by decide +kernel)) (fun _ _ _ _ _ => pg_name (i := 6) sc_law.nd rfl (Or.inl rfl)) (fun _ _ _ _ _ => pts_one (pt_cmpR (opK (K := K) (r := fun K => rIn K true) rfl op_notIn_seq) (pv 6) (pv 8) (by rfl))) (fun _ _ _ _ _ => (pv 6))) pa_nil)) (pa_cons (pe_callTy call_tuple_of (by rfl) T.z_tuple (by decide +kernel) (pa_cons (pe_callB (cr_sortedD hr.units) (by rfl) T.z_sorted (by decide +kernel) (pa_cons (pe_op op_cat (pe_callTy call_list_of (by rfl) T.z_list (by decide +kernel) (pa_cons (pe_ix (ix_tupK (K := K) rfl) (pv 2) pe_int (fun _ _ => rfl)) pa_nil)) (pv 8)) pa_nil)) pa_nil)) (pa_cons (pe_ix (ix_tupK (K := K) rfl) (pv 2) pe_int (fun _ _ => rfl)) pa_nil)))))
    (pss_cons (ps_if (pt_cmpR (opK (K := K) (r := rNeD) rfl (op_neD hr.units)) (pe_df D_hide (hr.mono (by decide)) (by rfl) (pa_cons (pv 2) (pa_cons (pe_callTy call_list_of (by rfl) T.z_list (by decide +kernel) (pa_cons (pv 8) pa_nil)) pa_nil))) (pv 9) (nomark _))
      (pss_one (ps_ret pe_bl))
      pss_nil)
    (pss_cons (ps_setLc (i := 10) (own := [("v", 6)]) (g := gName 6) (by rfl) sc_law.nd rfl rfl (sw_true rfl rfl rfl (by decide +kernel)) (pi_range2 (by rfl) T.z_range (pa_cons pe_int (pa_cons pe_int pa_nil))) (blkOk_by (own := [("v", 6)]) (N := n_law) (sc := defScope s_law) (by decide +kernel)) (fun _ _ _ _ _ => pg_name (i := 6) sc_law.nd rfl (Or.inl rfl)) (fun _ _ _ _ _ => pts_one (pt_cmpR (opK (K := K) (r := fun K => rIn K true) rfl op_notIn_seq) (pv 6) (pe_op (opK (K := K) (r := rCatA) rfl op_catA) (pe_ix (ix_tupK (K := K) rfl) (pv 2) pe_int (fun _ _ => rfl)) (pe_ix (ix_tupK (K := K) rfl) (pv 2) pe_int (fun _ _ => rfl))) (by rfl))) (fun _ _ _ _ _ => (pv 6)))
    (pss_cons (ps_set (i := 11) sc_law.nd rfl (.inr rfl) pe_dnewK)
    (pss_cons (ps_for PassesOwn.never rfl (pi_range1 (by rfl) T.z_range (pa_cons (pe_callB (call_lenK (K := K) rfl) (by rfl) T.z_len (by decide +kernel) (pa_cons (pv 5) pa_nil)) pa_nil)) (pg_name (i := 4) sc_law.nd rfl (.inl rfl))
      (pss_one (ps_asg (pe_ix (ix_listK (K := K) rfl) (pv 10) (pv 4) (fun _ _ => rfl)) (pg_sub (pv 11) (pe_ix (ix_tupK (K := K) rfl) (pv 5) (pv 4) (fun _ _ => rfl)) (set_dict hr.u1)))))
    (pss_cons (ps_set (i := 12) sc_law.nd rfl (.inl rfl) (pe_df D_l_residue (hr.mono (by decide)) (by rfl) (pa_cons (pe_op op_cat (pe_callTy call_list_of (by rfl) T.z_list (by decide +kernel) (pa_cons (pe_ix (ix_tupK (K := K) rfl) (pv 2) pe_int (fun _ _ => rfl)) pa_nil)) (pe_df D_l_renamed (hr.mono (by decide)) (by rfl) (pa_cons (pe_ix (ix_tupK (K := K) rfl) (pv 7) pe_int (fun _ _ => rfl)) (pa_cons (pv 11) pa_nil)))) pa_nil)))
    (pss_cons (ps_set (i := 13) sc_law.nd rfl (.inl rfl) (pe_df D_both (hr.mono (by decide)) (by rfl) (pa_cons (pv 2) (pa_cons (pv 7) pa_nil))))
    (pss_cons (ps_if (pt_cmpR (opK (K := K) (r := rNeD) rfl (op_neD hr.units)) (pv 13) (pe_tup (pa_cons (pe_ix (ix_tupK (K := K) rfl) (pv 2) pe_int (fun _ _ => rfl)) (pa_cons (pe_callTy call_tuple_of (by rfl) T.z_tuple (by decide +kernel) (pa_cons (pe_callB (cr_sortedD hr.units) (by rfl) T.z_sorted (by decide +kernel) (pa_cons (pe_op op_cat (pe_callTy call_list_of (by rfl) T.z_list (by decide +kernel) (pa_cons (pe_ix (ix_tupK (K := K) rfl) (pv 2) pe_int (fun _ _ => rfl)) pa_nil)) (pe_lc (own := [("v", 6)]) (g := gName 6) (by rfl) sc_law.nd (pi_tupK (K := K) rfl (pv 5)) (blkOk_by (own := [("v", 6)]) (N := n_law) (sc := defScope s_law) (by decide +kernel)) (fun _ _ _ _ _ => pg_name (i := 6) sc_law.nd rfl (Or.inl rfl)) (fun _ _ _ _ _ => pts_nil) (fun _ _ _ _ _ => (pe_dget hr.u1 (pv 11) (pv 6) (fun _ _ => rfl))))) pa_nil)) pa_nil)) (pa_cons (pv 12) pa_nil)))) (nomark _))
      (pss_one (ps_ret pe_bl))
      pss_nil)
    (pss_cons (ps_set (i := 14) sc_law.nd rfl (.inl rfl) (pe_df D_l_models (hr.mono (by decide)) (by rfl) (pa_cons (pe_ix (ix_tupK (K := K) rfl) (pv 2) pe_int (fun _ _ => rfl)) (pa_cons (pe_ix (ix_tupK (K := K) rfl) (pv 2) pe_int (fun _ _ => rfl)) (pa_cons (pe_ix (ix_tupK (K := K) rfl) (pv 2) pe_int (fun _ _ => rfl)) pa_nil)))))
    (pss_cons (ps_set (i := 15) sc_law.nd rfl (.inr rfl) (pe_df D_l_models (hr.mono (by decide)) (by rfl) (pa_cons (pe_ix (ix_tupK (K := K) rfl) (pv 7) pe_int (fun _ _ => rfl)) (pa_cons (pe_ix (ix_tupK (K := K) rfl) (pv 7) pe_int (fun _ _ => rfl)) (pa_cons (pe_ix (ix_tupK (K := K) rfl) (pv 7) pe_int (fun _ _ => rfl)) pa_nil)))))
    (pss_cons (ps_if (pt_cmpR (opK (K := K) (r := rNeD) rfl (op_neD hr.units)) (pe_df D_l_models (hr.mono (by decide)) (by rfl) (pa_cons (pe_ix (ix_tupK (K := K) rfl) (pv 13) pe_int (fun _ _ => rfl)) (pa_cons (pe_ix (ix_tupK (K := K) rfl) (pv 13) pe_int (fun _ _ => rfl)) (pa_cons (pe_ix (ix_tupK (K := K) rfl) (pv 13) pe_int (fun _ _ => rfl)) pa_nil)))) (pe_lc (own := [("row", 16)]) (g := gName 16) (by rfl) sc_law.nd (pi_listK (K := K) rfl (pv 14)) (blkOk_by (own := [("row", 16)]) (N := n_law) (sc := defScope s_law) (by decide +kernel)) (fun _ _ _ _ _ => pg_name (i := 16) sc_law.nd rfl (Or.inl rfl)) (fun _ _ _ _ _ => pts_one (pt_cmpR (opK (K := K) (r := rInD) rfl (op_inD hr.u65)) (pv 16) (pv 15) (by rfl))) (fun _ _ _ _ _ => (pv 16))) (nomark _))
      (pss_one (ps_ret pe_bl))
      pss_nil)
    (pss_cons (ps_set (i := 17) sc_law.nd rfl (.inr rfl) (pe_op (opK (K := K) (r := rCatA) rfl op_catA) (pe_ix (ix_tupK (K := K) rfl) (pv 2) pe_int (fun _ _ => rfl)) (pe_ix (ix_tupK (K := K) rfl) (pv 2) pe_int (fun _ _ => rfl))))
    (pss_cons (ps_for PassesOwn.never rfl (pi_range1 (by rfl) T.z_range (pa_cons pe_int pa_nil)) (pg_name (i := 4) sc_law.nd rfl (.inl rfl))
      (Evl.pss_cut (ps_set (i := 18) sc_law.nd rfl (.inl rfl) (pe_df D_l_clause (hr.mono (by decide)) (by rfl) (pa_cons (pe_lc (own := [("j", 19)]) (g := gName 19) (by rfl) sc_law.nd (pi_range1 (by rfl) T.z_range (pa_cons (pe_df D_l_take (hr.mono (by decide)) (by rfl) (pa_cons (pv 1) (pa_cons pe_int pa_nil))) pa_nil)) (blkOk_by (own := [("j", 19)]) (N := n_law) (sc := defScope s_law) (by decide +kernel)) (fun _ _ _ _ _ => pg_name (i := 19) sc_law.nd rfl (Or.inl rfl)) (fun _ _ _ _ _ => pts_nil) (fun _ _ _ _ _ => (pe_df D_l_literal (hr.mono (by decide)) (by rfl) (pa_cons (pv 1) (pa_cons (pe_op (opK (K := K) (r := rCatA) rfl op_catA) (pv 17) (pe_tup (pa_cons pe_int pa_nil))) pa_nil))))) pa_nil)))
    (Evl.pss_cut (ps_if (PW.pt (pw_and (pt_cmpR (opK (K := K) (r := rNeD) rfl (op_neD hr.units)) (pe_ix (ix_tupK (K := K) rfl) (pv 2) pe_int (fun _ _ => rfl)) (pe_tup pa_nil) (nomark _)) (pw_and1 (pt_cmpR op_eq (pe_df D_l_take (hr.mono (by decide)) (by rfl) (pa_cons (pv 1) (pa_cons pe_int pa_nil))) pe_int (nomark _)))))
      (pss_one (ps_set (i := 18) sc_law.nd rfl (.inl rfl) (pe_ix (ix_tupK (K := K) rfl) (pe_ix (ix_tupK (K := K) rfl) (pv 2) pe_int (fun _ _ => rfl)) (pe_df D_l_take (hr.mono (by decide)) (by rfl) (pa_cons (pv 1) (pa_cons (pe_callB (call_lenK (K := K) rfl) (by rfl) T.z_len (by decide +kernel) (pa_cons (pe_ix (ix_tupK (K := K) rfl) (pv 2) pe_int (fun _ _ => rfl)) pa_nil)) pa_nil))) (fun _ _ => rfl))))
      pss_nil)
    (pss_one (ps_if (PW.pt (pw_and (pt_cmpR op_notN (pv 18) pe_non (nomark _)) (pw_and1 (pt_not (pt_val (pe_df D_l_change_right (hr.mono (by decide)) (by rfl) (pa_cons (pv 2) (pa_cons (pv 18) (pa_cons (pe_cmpR op_eq (pe_df D_l_take (hr.mono (by decide)) (by rfl) (pa_cons (pv 1) (pa_cons pe_int pa_nil))) pe_int (nomark _)) pa_nil)))))))))
      (pss_one (ps_ret pe_bl))
      pss_nil)))))
    (pss_one (ps_ret pe_bl))))))))))))))))))))), ?_⟩
    rw [show start n_law [(.ref sa : V)] = ([some (.ref sa), none, none, none, none, none, none, none, none, none, none, none, none, none, none, none, none, none, none, none] : List (Option V)) from rfl]
    walk_at "rd"
    refine ⟨sa, ns, rfl, hSq, hlen, fun d c H1 hd k1 hD => ?_⟩
    walk_at "rd"
    refine ⟨d, c, 4, rfl, by decide, by decide, hD, fun fp H2 S Hd rc k2 hF hf => ?_⟩
    obtain ⟨fs, fh, fr, bs, hfp, hfs, hfh, hfr, hbs⟩ := hF.ex
    have hD2 := k2.drw hD
    have hsum := hf.sum
    have hhl := hf.hLen
    have hSp := hf.sPos
    walk_at "rd"
    refine w_sortSet ?_
    walk_at "rd"
    refine ⟨d, c, 3, rfl, by decide, by decide, hD2, fun r1 H3 l1 g1 k3 => ?_⟩
    have hD3 := k3.drw hD2
    obtain ⟨ct, rfl⟩ : ∃ m : Nat, r1 = (m : Int) := ⟨r1.toNat, by omega⟩
    refine Lc1.drawsP (fun v => 1 ≤ v ∧ v ≤ 20) hD3 (by omega) (fun i H4 kk hi k4 fin => ?_) fun N H4 nn hN k4 hNl hnn hnw => ?_
    · walk_at "rd"
      refine ⟨d, c, 20, rfl, by decide, by decide, k4.drw hD3, fun r H5 l g k5 => ?_⟩
      refine ⟨_, _, rfl, rfl, ?_⟩
      exact fin (1 + r) H5 k5 ⟨by omega, by omega⟩
    · refine SrtSet.mk (ks := nn) (SqL.of hNl) (by omega) fun ds mo H5 hle hnd hmem hmo k5 hmol => ?_
      have hdasc := ints_lt hle hnd
      have hdl : ds.length ≤ 2 := by
        have := List.Nodup.length_le_of_subset hnd (fun x hx => (hmem x).mp hx)
        omega
      have k35 := k4.trans k5.toC
      have hD5 := k35.drw hD3
      have k25 := k3.trans k35
      have hfp5 := k25.tup hD2 hfp
      have hfs5 := k25.tup hD2 hfs
      walk_at "rd"
      refine LcL.ints (fun n => decide (n ∉ S)) V.int (by omega) hmol (fun n H6 kk kk2 hn k6 h5 h6 => ?_) fun D2 H6 hD2n k6 h7 => ?_
      · have hfp6 := k6.tup hfp5
        walk_at "rd"
        refine w_ninT (k6.tup hfs5) ?_
        by_cases m : n ∈ S
        · rw [decide_eq_false (fun z => z m)]
          exact ⟨_, rfl, if_f rfl (h6 H6 (Kept.refl _) (decide_eq_false fun z => z m))⟩
        · rw [decide_eq_true m]
          refine ⟨_, rfl, if_t rfl ?_⟩
          walk_at "rd"
          exact h5 H6 (Kept.refl _) (decide_eq_true m)
      · obtain ⟨Hs, eHs⟩ : ∃ Hs, Hs = ds.filter fun n => decide (n ∉ S) := ⟨_, rfl⟩
        rw [← eHs] at h7
        have hHasc : Hs.Pairwise (· < ·) := by rw [eHs]; exact hdasc.filter _
        have hHl : Hs.length ≤ 2 := by
          rw [eHs]
          exact Nat.le_trans (List.length_filter_le _ _) hdl
        have hHv : ∀ v ∈ Hs, v ∉ S ∧ 1 ≤ v ∧ v ≤ 20 := fun v hv => by
          rw [eHs] at hv
          obtain ⟨z1, z2⟩ := List.mem_filter.mp hv
          exact ⟨of_decide_eq_true z2, hnw v ((hmem v).mp z1)⟩
        walk_at "rd"
        refine ⟨D2, _, rfl, .inl ⟨SqL.of h7, fun hid hhid => ?_⟩⟩
        have k7 := Kept.new (o := .tup (Hs.map V.int)) hhid
        have ehid : (upd H6 hid (.tup (Hs.map V.int))) hid = some (.tup (Hs.map V.int)) := upd_same
        generalize upd H6 hid (.tup (Hs.map V.int)) = H7 at k7 ehid
        have k57 := k6.trans k7
        have hfp7 := k57.tup hfp5
        have hfs7 := k57.tup hfs5
        have hD7 := k57.toC.drw hD5
        walk_at "rd"
        refine w_catA hfs7 ehid (by omega) fun va H8 k8 hva => ?_
        have hD8 := k8.toC.drw hD7
        walk_at "rd"
        refine ⟨d, c, va, S ++ Hs, 6, rfl, by decide, hD8, Away.tup hD8 hva, by rw [List.length_append]; omega, by rw [List.length_append]; omega, fun v hv => ?_, fun sr H9 bs2 rc2 k9 hsr hbs2 hcf => ?_⟩
        · rcases List.mem_append.mp hv with z | z
          · exact hf.vars v (.inl z)
          · have := hHv v z
            exact ⟨this.2.1, by omega⟩
        · have k79 := k8.toC.trans k9
          have hD9 := k9.drw hD8
          have k59 := k57.toC.trans k79
          have k29 := k25.trans k59
          walk_at "rd"
          refine ⟨by show 3 ≤ sizeLine; omega, fun sb hsb => ?_⟩
          have kA := Kept.new (o := .tup [.ref fs, .ref hid, .ref sr]) hsb
          have esb : (upd H9 sb (.tup [.ref fs, .ref hid, .ref sr])) sb = some (.tup [.ref fs, .ref hid, .ref sr]) := upd_same
          have tw : TwoAt (upd H9 sb (.tup [.ref fs, .ref hid, .ref sr])) fp fs fh fr bs S Hd rc sb hid sr bs2 Hs rc2 :=
            ⟨kA.tup (k29.tup hD2 hfp), kA.tup (k29.tup hD2 hfs), kA.tup (k29.tup hD2 hfh), kA.tup (k29.tup hD2 hfr), (hbs.keptC k29 hD2).kept kA, esb, kA.tup (k79.tup hD7 ehid), kA.tup hsr, hbs2.kept kA⟩
          have kT := (k1.toC.trans k2).trans (k29.trans kA.toC)
          have hDA := kA.toC.drw hD9
          have hT0A := kT.tab _ hT0
          have hT1A := kT.tab _ hT1
          generalize upd H9 sb (.tup [.ref fs, .ref hid, .ref sr]) = HA at tw hDA hT0A hT1A
          clear kT kA k29 k59 k79 k57 k25 k35 hfp7 hfs7 hfp5 hfs5 hbs hfr hfh hfs hfp hbs2 hsr esb
          clear hva k9 k8 hD9 hD8 hD7 k7 ehid h7 k6 hD5 k5 hmol hmo hmem hle hnd hdasc hdl hNl k4 hD3 k3 hD2 k2 hF hD k1 hd hT0 hT1
          clear hnw hnn eHs
          have hfpA := tw.p
          walk_at "rd"
          refine LcT.drawSub hDA (by omega) tw.s (fun n HB kk kk2 hn kB h5 h6 => ?_) fun G HB gs hG kB hGl hgs => ?_
          · walk_at "rd"
            refine ⟨d, c, 3, rfl, by decide, by decide, kB.drw hDA, fun r HC l g kC => ?_⟩
            walk_at "rd"
            cases hb : decide (V.int r = V.int 0) with
            | true =>
              refine if_t rfl ?_
              walk_at "rd"
              exact h5 HC kC
            | false => exact if_f rfl (h6 HC kC)
          · have hDB := kB.drw hDA
            have twB := tw.keptC kB hDA
            have hfpB := twB.p
            have hT0B := kB.tab _ hT0A
            have hT1B := kB.tab _ hT1A
            have hgn : gs.Nodup := hgs.nodup (asc_nodup hf.sAsc)
            have hgl : gs.length ≤ S.length := hgs.length_le
            clear kB hG tw hDA hT0A hT1A hfpA
            walk_at "rd"
            refine LcT.ints (fun n => decide (n ∉ gs)) V.int (by omega) twB.s (fun n HC kk kk2 hn kC h5 h6 => ?_) fun D3 HC hD3 kC h7 => ?_
            · walk_at "rd"
              refine w_ninL2 (kC.lst hGl) ?_
              by_cases m : n ∈ gs
              · rw [decide_eq_false (fun z => z m)]
                exact ⟨_, rfl, if_f rfl (h6 HC (Kept.refl _) (decide_eq_false fun z => z m))⟩
              · rw [decide_eq_true m]
                refine ⟨_, rfl, if_t rfl ?_⟩
                walk_at "rd"
                exact h5 HC (Kept.refl _) (decide_eq_true m)
            · walk_at "rd"
              refine ⟨D3, _, rfl, .inl ⟨SqL.of h7, fun a1 ha1 => ?_⟩⟩
              have kD := Kept.new (o := .tup ((S.filter fun n => decide (n ∉ gs)).map V.int)) ha1
              have ea1 : (upd HC a1 (.tup ((S.filter fun n => decide (n ∉ gs)).map V.int))) a1 = some (.tup ((S.filter fun n => decide (n ∉ gs)).map V.int)) := upd_same
              generalize upd HC a1 (.tup ((S.filter fun n => decide (n ∉ gs)).map V.int)) = HD at kD ea1
              have kBD := kC.trans kD
              have twD := twB.kept kBD
              have hfpD := twD.p
              have hGD := kBD.lst hGl
              walk_at "rd"
              refine ⟨fh, _, rfl, .inr (SqT.of twD.h), fun l1 hl1 => ?_⟩
              have kE := Kept.new (o := .lst (Hd.map V.int)) hl1
              have el1 : (upd HD l1 (.lst (Hd.map V.int))) l1 = some (.lst (Hd.map V.int)) := upd_same
              have hGE := kE.lst hGD
              generalize upd HD l1 (.lst (Hd.map V.int)) = HE at kE el1 hGE
              walk_at "rd"
              refine ⟨l1, G, _, _, rfl, rfl, el1, hGE, by rw [List.length_map, List.length_map]; omega, fun l3 hl3 => ?_⟩
              rw [← List.map_append]
              have kF := Kept.new (o := .lst ((Hd ++ gs).map V.int)) hl3
              have el3 : (upd HE l3 (.lst ((Hd ++ gs).map V.int))) l3 = some (.lst ((Hd ++ gs).map V.int)) := upd_same
              generalize upd HE l3 (.lst ((Hd ++ gs).map V.int)) = HF at kF el3
              walk_at "rd"
              refine ⟨l3, (Hd ++ gs).map V.int, (Hd ++ gs).map PyData.int, rfl, SqL.of el3, dpAll_ints _, allAlike_ints _, srt_intsS _, depth_intsS _, fun l4 hl4 => ?_⟩
              rw [sortD_map V.int PyData.int (Hd ++ gs)]
              have kG := Kept.new (o := .lst ((srtBy PyData.int (Hd ++ gs)).map V.int)) hl4
              have el4 : (upd HF l4 (.lst ((srtBy PyData.int (Hd ++ gs)).map V.int))) l4 = some (.lst ((srtBy PyData.int (Hd ++ gs)).map V.int)) := upd_same
              generalize upd HF l4 (.lst ((srtBy PyData.int (Hd ++ gs)).map V.int)) = HG at kG el4
              walk_at "rd"
              refine ⟨l4, _, rfl, .inl ⟨SqL.of el4, fun a2 ha2 => ?_⟩⟩
              have kH := Kept.new (o := .tup ((srtBy PyData.int (Hd ++ gs)).map V.int)) ha2
              have ea2 : (upd HG a2 (.tup ((srtBy PyData.int (Hd ++ gs)).map V.int))) a2 = some (.tup ((srtBy PyData.int (Hd ++ gs)).map V.int)) := upd_same
              generalize upd HG a2 (.tup ((srtBy PyData.int (Hd ++ gs)).map V.int)) = HH at kH ea2
              have kDH := kE.trans (kF.trans (kG.trans kH))
              have twH := twD.kept kDH
              have hfpH := twH.p
              walk_at "rd"
              refine ⟨by show 3 ≤ sizeLine; omega, fun du hdu => ?_⟩
              have kI := Kept.new (o := .tup [.ref a1, .ref a2, .ref fr]) hdu
              have edu : (upd HH du (.tup [.ref a1, .ref a2, .ref fr])) du = some (.tup [.ref a1, .ref a2, .ref fr]) := upd_same
              have hGI := kI.lst ((kE.trans (kF.trans (kG.trans kH))).lst hGD)
              generalize upd HH du (.tup [.ref a1, .ref a2, .ref fr]) = HI at kI edu hGI
              walk_at "rd"
              refine ⟨G, _, rfl, .inl (SqL.of hGI), fun lg hlg => ?_⟩
              have kJ := Kept.new (o := .lst (gs.map V.int)) hlg
              have elg : (upd HI lg (.lst (gs.map V.int))) lg = some (.lst (gs.map V.int)) := upd_same
              generalize upd HI lg (.lst (gs.map V.int)) = HJ at kJ elg
              have kHJ := kI.trans kJ
              have twJ := twH.kept kHJ
              walk_at "rd"
              refine ⟨fp, lg, fs, fh, .ref fr, S, Hd, gs, rfl, twJ.p, twJ.s, twJ.h, elg, by omega, by omega, by omega, fun p1 b1 b2 HK kK hp1 hb1 hb2 => ?_⟩
              rw [dd_nodup hgn] at hb2
              have twK := twJ.kept kK
              walk_at "rd"
              refine w_neForm (dp_form hp1 hb1 hb2 twK.r twK.c) (dp_form ((kJ.trans kK).tup edu) ((kDH.trans (kHJ.trans kK)).tup ea1) ((kHJ.trans kK).tup ea2) twK.r twK.c) ?_
              refine ⟨_, rfl, if_f rfl ?_⟩
              have kBK := kBD.trans (kDH.trans (kHJ.trans kK))
              have hDK := kBK.toC.drw hDB
              have hT0K := kBK.tab _ hT0B
              have hT1K := kBK.tab _ hT1B
              clear kBK kK kHJ kJ kI kDH kH kG kF kE kBD kD kC twJ twH twD twB hfpH hfpD hfpB hDB hT0B hT1B hGI hGE hGD hGl elg edu ea2 el4 el3 el1 ea1 h7 hD3 hp1 hb1 hb2 hl1 hl3 hl4 ha1 ha2 hdu hlg
              clear hgn hgl hgs
              have hNo := new_ok (S := S) (Hd := Hd) (Hs := Hs) (by omega)
              have hHn := asc_nodup hHasc
              have hpS : ∀ v ∈ S, 1 ≤ v := fun v hv => (hf.vars v (.inl hv)).1
              have hnb : ∀ c ∈ rc2, noBoth (c.map (renL (nmOf Hs (newF S Hd Hs)))) := fun c hc => hNo.noBoth hpS hHn (fun v hv => (hHv v hv).1) (hcf.cls c hc).1 (hcf.cls c hc).2.2
              have hFl : 59 ≤ (freeF (S ++ Hd)).length + (S ++ Hd).length := free_len _
              rw [List.length_append] at hFl
              walk_at "rd"
              refine w_lc2 ?_
              walk_at "rd"
              refine ⟨1, 60, rfl, by decide, ?_⟩
              rw [show ((60 : Int) - 1).toNat = 59 from by decide]
              refine LcJ.run (n := 59) (xv := fun i => .int (1 + (i : Int))) (fun i => decide ((1 : Int) + (i : Int) ∉ S ++ Hd)) (fun i => V.int (1 + (i : Int))) (by omega) (fun i H h _ => h) (fun i H x H' _ _ h => h) (fun H _ => Nat.le_refl _) (fun i HL kk kk2 hi kL h5 h6 => ?_) fun Fl HL hFln kL hFll => ?_
              · have twL := twK.kept kL
                have hfpL := twL.p
                walk_at "rd"
                refine w_catA twL.s twL.h (by omega) fun p HM kM hp => ?_
                walk_at "rd"
                refine w_ninT hp ?_
                by_cases m : (1 : Int) + (i : Int) ∈ S ++ Hd
                · rw [decide_eq_false (fun z => z m)]
                  exact ⟨_, rfl, if_f rfl (h6 HM kM (decide_eq_false fun z => z m))⟩
                · rw [decide_eq_true m]
                  refine ⟨_, rfl, if_t rfl ?_⟩
                  walk_at "rd"
                  exact h5 HM kM (decide_eq_true m)
              · have hFll : HL Fl = some (.lst ((freeF (S ++ Hd)).map V.int)) := by
                  rw [hFll]
                  unfold freeF
                  rw [List.filter_map, List.map_map] <;> rfl
                have twL := twK.kept kL
                walk_at "rd"
                refine fun g hg => ?_
                have kN := Kept.new (o := .dK []) hg
                have eg : (upd HL g (.dK [])) g = some (.dK (namesKv (Hs.take 0) (freeF (S ++ Hd)))) := by rw [List.take_zero]; exact upd_same
                generalize upd HL g (.dK []) = HM at kN eg
                have twM := twL.kept kN
                walk_at "rd"
                refine ⟨hid, _, rfl, .inr (SqT.of twM.h2), ?_⟩
                rw [List.length_map]
                refine Fr1.mk (by omega) (fun i σ' H' => ∃ v4, σ' = [some (.ref sa), some (.ref d), some (.ref fp), some (.ref mo), v4, some (.ref hid), none, some (.ref sb), some (.ref G), some (.ref du), some (.ref Fl), some (.ref g), none, none, none, none, none, none, none, none] ∧ Kept HL H' ∧ H' g = some (.dK (namesKv (Hs.take i) (freeF (S ++ Hd)))))
                  ⟨none, rfl, kN, eg⟩ ?_ ?_
                · rintro i σ' H' hi ⟨v4, rfl, kk, hgs⟩
                  have hni : Hs[i]? = some Hs[i] := List.getElem?_eq_getElem hi
                  have hif : i < (freeF (S ++ Hd)).length := by omega
                  have hfi : (freeF (S ++ Hd))[i]? = some (freeF (S ++ Hd))[i] := List.getElem?_eq_getElem hif
                  have hFl' := kk.lst hFll
                  have hid' := (twL.kept kk).h2
                  walk_at "rd"
                  refine w_ixL hFl' (v := .int (freeF (S ++ Hd))[i]) (atI_nat (j := i) (by rw [List.getElem?_map, hfi] <;> rfl)) ?_
                  walk_at "rd"
                  refine w_ixT hid' (v := .int Hs[i]) (atI_nat (j := i) (by rw [List.getElem?_map, hni] <;> rfl)) ?_
                  have hni2 : Hs[i] ∉ Hs.take i := fun z => by
                    obtain ⟨j, hj, e⟩ := List.getElem_of_mem z
                    rw [List.length_take] at hj
                    rw [List.getElem_take] at e
                    have := (List.getElem_inj hHn).mp e
                    omega
                  have hkl : (namesKv (Hs.take i) (freeF (S ++ Hd))).length < sizeLine := by
                    unfold namesKv
                    rw [List.length_map, List.length_zip, List.length_take]
                    omega
                  refine ⟨g, _, rfl, DPut.k (k := Sum.inl Hs[i]) hgs hkl, ?_⟩
                  refine ⟨_, rfl, Kept.mut kk hg, ?_⟩
                  rw [upd_same, putK_new _ (namesKv_none hni2), List.take_add_one, hni]
                  have ez := zip_snoc (Hs.take i) (freeF (S ++ Hd)) Hs[i] (freeF (S ++ Hd))[i] (by rw [List.length_take, Nat.min_eq_left (by omega)]; exact hfi)
                  rw [show (some Hs[i]).toList = [Hs[i]] from rfl]
                  unfold namesKv
                  rw [ez, List.map_append] <;> rfl
                · rintro σ' HN ⟨v4, rfl, kLN, hgN⟩
                  rw [List.take_length] at hgN
                  have hgN : HN g = some (.dK (namesKv Hs (newF S Hd Hs))) := by
                    rw [hgN]
                    unfold namesKv newF
                    rw [zip_trunc]
                  generalize newF S Hd Hs = M at hNo hnb hgN
                  have kKN := kL.trans kLN
                  have twN := twK.kept kKN
                  have hDN := kKN.toC.drw hDK
                  have hT0N := kKN.tab _ hT0K
                  have hT1N := kKN.tab _ hT1K
                  clear kKN kLN kL twL twK twM hDK hT0K hT1K kN eg hFll hFln
                  have hfpN := twN.p
                  have hsbN := twN.p2
                  have hMl := hNo.len
                  have hrl := hf.len
                  have hrl2 := hcf.len
                  walk_at "rd"
                  refine ⟨fr, _, rfl, .inr (SqT.of twN.r), fun l1 hl1 => ?_⟩
                  have kO := Kept.new (o := .lst (bs.map V.ref)) hl1
                  have el1 : (upd HN l1 (.lst (bs.map V.ref))) l1 = some (.lst (bs.map V.ref)) := upd_same
                  have hgO : (upd HN l1 (.lst (bs.map V.ref))) g = some (.dK (namesKv Hs M)) := kO.keep g _ (fun ps z => by cases z) hgN
                  generalize upd HN l1 (.lst (bs.map V.ref)) = HO at kO el1 hgO
                  have twO := twN.kept kO
                  have hsbO := twO.p2
                  walk_at "rd"
                  refine ⟨sr, g, bs2, rc2, nmOf Hs M, rfl, twO.r2, twO.c2, by omega, fun c hc => by have := (hcf.cls c hc).2.1; omega, namAt_of hgO, fun c hc => bothL_no (hnb c hc), fun q HP qs kP hq hqs => ?_⟩
                  have el1 := kP.lst el1
                  walk_at "rd"
                  refine ⟨l1, q, _, _, rfl, rfl, el1, hq, by rw [List.length_map, List.length_map, twN.c.1, hqs.1, List.length_map]; omega, fun l2 hl2 => ?_⟩
                  rw [← List.map_append]
                  have kQ := Kept.new (o := .lst ((bs ++ qs).map V.ref)) hl2
                  have el2 : (upd HP l2 (.lst ((bs ++ qs).map V.ref))) l2 = some (.lst ((bs ++ qs).map V.ref)) := upd_same
                  generalize upd HP l2 (.lst ((bs ++ qs).map V.ref)) = HQ at kQ el2
                  have kOQ := kP.trans kQ
                  have hcat : ClsAt HQ (bs ++ qs) (rc ++ renC Hs M rc2) := by
                    have c1 := (twO.kept kOQ).c
                    have c2 := hqs.kept kQ
                    refine ⟨by unfold renC; rw [List.length_append, List.length_append, c1.1, c2.1], fun i b x h1 h2 => ?_⟩
                    by_cases hi : i < bs.length
                    · rw [List.getElem?_append_left hi] at h1
                      rw [List.getElem?_append_left (by rw [← c1.1]; exact hi)] at h2
                      exact c1.2 i b x h1 h2
                    · rw [List.getElem?_append_right (by omega)] at h1
                      rw [List.getElem?_append_right (by rw [← c1.1]; omega), ← c1.1] at h2
                      exact c2.2 _ b x h1 h2
                  have hlen4 : ∀ x ∈ rc ++ renC Hs M rc2, x.length ≤ 4 := fun x hx => by
                    rcases List.mem_append.mp hx with z | z
                    · exact (hf.cls x z).2.1
                    · obtain ⟨y, hy, rfl⟩ := List.mem_map.mp z
                      have h1 := len_clauseF (y.map (renL (nmOf Hs M)))
                      have h2 := (hcf.cls y hy).2.1
                      rw [List.length_map] at h1
                      omega
                  walk_at "rd"
                  refine ⟨l2, bs ++ qs, _, rfl, el2, hcat, by unfold renC; rw [List.length_append, List.length_map]; omega, fun x hx => by have := hlen4 x hx; omega, fun wh HR wbs kR hwn hwh hwc => ?_⟩
                  have kNR := kO.trans (kOQ.trans kR)
                  have twR := twN.kept kNR
                  have hgR : HR g = some (.dK (namesKv Hs M)) := kNR.keep g _ (fun ps z => by cases z) hgN
                  have hDR := kNR.toC.drw hDN
                  have hT0R := kNR.tab _ hT0N
                  have hT1R := kNR.tab _ hT1N
                  clear kNR kR kOQ kQ kP kO twO twN hDN hT0N hT1N hgN hgO hcat hqs hq el1 el2 hfpN hsbN hsbO hl1 hl2 hwn
                  walk_at "rd"
                  refine ⟨fp, sb, fs, fh, fr, fs, hid, sr, bs, bs2, S, Hd, Hs, rc, rc2, rfl, twR.p, twR.s, twR.h, twR.r, twR.c, twR.p2, twR.h2, twR.r2, twR.c2, by omega, by omega, hHn, fun k hk => (hf.vars k hk).2, by omega, fun x hx => ?_, hT0R, fun ms last hml hnp => ⟨fun x hx => ?_, fun fo b1 b2 rb HS kS hfo hb1 hb2 hrb => ?_⟩⟩
                  · rcases hx with z | z
                    · have := (hf.cls x z).2.1
                      omega
                    · have := (hcf.cls x z).2.1
                      omega
                  · rw [hNo.is ms last hml hnp]
                    exact bothS_nob (hnb x hx)
                  · rw [hNo.is ms last hml hnp] at hb1 hrb
                    clear hnp hml
                    have twS := twR.kept kS
                    have hgS : HS g = some (.dK (namesKv Hs M)) := kS.keep g _ (fun ps z => by cases z) hgR
                    have hwhS := kS.tup hwh
                    have hwcS := hwc.kept kS
                    have hDS := kS.toC.drw hDR
                    have hT1S := kS.tab _ hT1R
                    clear kS twR hgR hwh hwc hDR hT0R hT1R
                    have hfpS := twS.p
                    walk_at "rd"
                    refine ⟨fh, _, rfl, .inr (SqT.of twS.h), fun l1 hl1 => ?_⟩
                    have kT := Kept.new (o := .lst (Hd.map V.int)) hl1
                    have el1 : (upd HS l1 (.lst (Hd.map V.int))) l1 = some (.lst (Hd.map V.int)) := upd_same
                    generalize upd HS l1 (.lst (Hd.map V.int)) = HT at kT el1
                    have hgT : HT g = some (.dK (namesKv Hs M)) := kT.keep g _ (fun ps z => by cases z) hgS
                    have twT := twS.kept kT
                    walk_at "rd"
                    refine LcT.ints (fun _ => true) (fun n => V.int (nmOf Hs M n)) (by omega) twT.h2 (fun n HU kk kk2 hn kU h5 h6 => ?_) fun L HU hL kU hLl => ?_
                    · refine w_yes (if_t rfl ?_)
                      walk_at "rd"
                      have hgU : HU g = some (.dK (namesKv Hs M)) := kU.keep g _ (fun ps z => by cases z) hgT
                      have hdg := DGet.k (k := Sum.inl n) hgU
                      rw [valV_nm hMl hn] at hdg
                      exact ⟨_, rfl, _, rfl, g, _, rfl, hdg, h5 HU (Kept.refl _) rfl⟩
                    · have hLl : HU L = some (.lst (M.map V.int)) := by
                        rw [hLl, List.filter_eq_self.mpr fun _ _ => rfl]
                        have e := nm_map hHn hMl
                        have e2 : Hs.map (fun n => V.int (nmOf Hs M n)) = (Hs.map (nmOf Hs M)).map V.int := by rw [List.map_map] <;> rfl
                        rw [e2, e]
                      have el1 := kU.lst el1
                      walk_at "rd"
                      refine ⟨l1, L, _, _, rfl, rfl, el1, hLl, by rw [List.length_map, List.length_map]; omega, fun l3 hl3 => ?_⟩
                      rw [← List.map_append]
                      have kV' := Kept.new (o := .lst ((Hd ++ M).map V.int)) hl3
                      have el3 : (upd HU l3 (.lst ((Hd ++ M).map V.int))) l3 = some (.lst ((Hd ++ M).map V.int)) := upd_same
                      generalize upd HU l3 (.lst ((Hd ++ M).map V.int)) = HV at kV' el3
                      walk_at "rd"
                      refine ⟨l3, (Hd ++ M).map V.int, (Hd ++ M).map PyData.int, rfl, SqL.of el3, dpAll_ints _, allAlike_ints _, srt_intsS _, depth_intsS _, fun l4 hl4 => ?_⟩
                      rw [sortD_map V.int PyData.int (Hd ++ M)]
                      have kW := Kept.new (o := .lst ((srtBy PyData.int (Hd ++ M)).map V.int)) hl4
                      have el4 : (upd HV l4 (.lst ((srtBy PyData.int (Hd ++ M)).map V.int))) l4 = some (.lst ((srtBy PyData.int (Hd ++ M)).map V.int)) := upd_same
                      generalize upd HV l4 (.lst ((srtBy PyData.int (Hd ++ M)).map V.int)) = HW at kW el4
                      walk_at "rd"
                      refine ⟨l4, _, rfl, .inl ⟨SqL.of el4, fun a2 ha2 => ?_⟩⟩
                      have kX := Kept.new (o := .tup ((srtBy PyData.int (Hd ++ M)).map V.int)) ha2
                      have ea2 : (upd HW a2 (.tup ((srtBy PyData.int (Hd ++ M)).map V.int))) a2 = some (.tup ((srtBy PyData.int (Hd ++ M)).map V.int)) := upd_same
                      generalize upd HW a2 (.tup ((srtBy PyData.int (Hd ++ M)).map V.int)) = HX at kX ea2
                      walk_at "rd"
                      refine ⟨by show 3 ≤ sizeLine; omega, fun du2 hdu2 => ?_⟩
                      have kY := Kept.new (o := .tup [.ref fs, .ref a2, .ref wh]) hdu2
                      have edu2 : (upd HX du2 (.tup [.ref fs, .ref a2, .ref wh])) du2 = some (.tup [.ref fs, .ref a2, .ref wh]) := upd_same
                      generalize upd HX du2 (.tup [.ref fs, .ref a2, .ref wh]) = HY at kY edu2
                      have kSY := kT.trans (kU.trans (kV'.trans (kW.trans (kX.trans kY))))
                      have twY := twS.kept kSY
                      have hfoY := kSY.tup hfo
                      refine w_neForm (dp_form hfoY twY.s (kSY.tup hb1) (kSY.tup hb2) (hrb.kept kSY)) (dp_form edu2 twY.s (kY.tup ea2) (kSY.tup hwhS) (hwcS.kept kSY)) ?_
                      refine ⟨_, rfl, if_f rfl ?_⟩
                      have hDY := kSY.toC.drw hDS
                      have hT1Y := kSY.tab _ hT1S
                      have hb1Y := kSY.tup hb1
                      have hb2Y := kSY.tup hb2
                      have hrbY := hrb.kept kSY
                      clear kSY kY kX kW kV' kU kT twS twT hDS hT1S hgS hgT hwhS hwcS el1 el3 el4 ea2 edu2 hLl hL hfo hb1 hb2 hrb hfpS hl1 hl3 hl4 ha2 hdu2
                      have hfpY := twY.p
                      have hmz : ∀ {cs : List (List Int)}, (∀ x ∈ cs, x.length ≤ 4) → ∀ x ∈ cs, x.length ≤ 1000 := fun h x hx => by have := h x hx; omega
                      have hMr : ∀ x ∈ residueF (rc ++ renC Hs M rc2), x.length ≤ 4 := fun x hx => hlen4 x (mem_residueF.mp hx)
                      have hsl2 : (srtBy PyData.int (Hd ++ M)).length = Hd.length + M.length := by rw [(srtBy_perm _ _).length_eq, List.length_append]
                      walk_at "rd"
                      refine ⟨fs, fh, fr, bs, S, Hd, rc, rfl, twY.s, twY.h, twY.r, twY.c, by omega, by omega, hmz fun x hx => (hf.cls x hx).2.1, fun q1 HZ o1 kZ hq1 ho1 => ?_⟩
                      have twZ := twY.kept kZ
                      have hsbZ := twZ.p2
                      walk_at "rd"
                      refine ⟨fs, hid, sr, bs2, S, Hs, rc2, rfl, twZ.s, twZ.h2, twZ.r2, twZ.c2, by omega, by omega, hmz fun x hx => (hcf.cls x hx).2.1, fun q2 H1' o2 k1' hq2 ho2 => ?_⟩
                      have kY1 := kZ.trans k1'
                      have hfo1 := kY1.tup hfoY
                      have hq1' := k1'.lst hq1
                      walk_at "rd"
                      refine ⟨fs, b1, b2, rb, S, srtBy PyData.int (Hd ++ M), residueF (rc ++ renC Hs M rc2), rfl, kY1.tup twY.s, kY1.tup hb1Y, kY1.tup hb2Y, hrbY.kept kY1, by omega, by omega, hmz hMr, fun q3 H2' o3 k2' hq3 ho3 => ?_⟩
                      have hq12 := k2'.lst hq1'
                      have hq22 := k2'.lst hq2
                      have ho12 := ho1.kept (k1'.trans k2')
                      have ho22 := ho2.kept k2'
                      have hml1 : (modF S Hd rc).length ≤ 1000 := by
                        have h1 := take_fill (vs := S) (i := S.length) (by omega)
                        rw [List.take_length] at h1
                        have h2 : (modF S Hd rc).length ≤ (fillF S).length := List.length_filter_le _ _
                        omega
                      walk_at "rd"
                      refine LcL.cls (fun r => decide (r ∈ modF S Hs rc2)) hml1 hq12 ho12 (fun b r H3' kk kk2 hr' hb k3' h5 h6 => ?_) fun D5 H3' qs5 hD5 k3' hD5l hqs5 => ?_
                      · walk_at "rd"
                        refine w_inRL (k3'.lst hq22) (ho22.kept k3') hb ?_
                        by_cases m : r ∈ modF S Hs rc2
                        · rw [decide_eq_true m]
                          refine ⟨_, rfl, if_t rfl ?_⟩
                          walk_at "rd"
                          exact h5 H3' (Kept.refl _) (decide_eq_true m)
                        · rw [decide_eq_false m]
                          exact ⟨_, rfl, if_f rfl (h6 H3' (Kept.refl _) (decide_eq_false m))⟩
                      · have hmb := mod_both (S := S) (Hd := Hd) (Hs := Hs) (ms := M) (rc1 := rc) (rc2 := rc2) (asc_nodup hf.sAsc) hpS (asc_nodup hf.hAsc) (fun v hv => (hf.vars v (.inr hv)).1) hf.dis hHn (fun v hv => (hHv v hv).2.1) (fun v hv z => (hHv v z).1 hv)
                          hNo.nd hMl hNo.mem (fun x hx => (hf.cls x hx).2.2) (fun x hx n hn => List.mem_append.mp ((hcf.cls x hx).2.2 n hn))
                        rw [hmb] at ho3
                        have kY3 := kY1.trans (k2'.trans k3')
                        refine w_neRows (k3'.lst hq3) (ho3.kept k3') hD5l hqs5 ?_
                        refine ⟨_, rfl, if_f rfl ?_⟩
                        have tw3 := twY.kept kY3
                        have hD3' := kY3.toC.drw hDY
                        have hT13 := kY3.tab _ hT1Y
                        clear kY3 kY1 k3' k2' k1' kZ twZ twY hDY hT1Y hq12 hq22 ho12 ho22 hq1' hq1 hq2 hq3 ho1 ho2 ho3 hfoY hb1Y hb2Y hrbY hD5l hqs5 hD5 hmb hfo1 hsbZ hfpY hsl2 hMr hml1
                        have hfp3 := tw3.p
                        walk_at "rd"
                        refine w_catA tw3.s tw3.h (by omega) fun va H4 k4 hva => ?_
                        have tw4 := tw3.kept k4
                        have hD4 := k4.toC.drw hD3'
                        have hT14 := k4.tab _ hT13
                        clear k4 tw3 hD3' hT13 hfp3
                        walk_at "rd"
                        refine Fr1.mk (m := 4) (by decide) (fun i σ' H' => ∃ v4 v18, σ' = [some (.ref sa), some (.ref d), some (.ref fp), some (.ref mo), v4, some (.ref hid), none, some (.ref sb), some (.ref G), some (.ref du), some (.ref Fl), some (.ref g), some (.ref wh), some (.ref fo), some (.ref q1), some (.ref q2), none, some (.ref va), v18, none] ∧ KeptC d c H4 H')
                          ⟨_, _, rfl, KeptC.refl _⟩ ?_ ?_
                        · rintro i σ' H' hi ⟨v4, v18, rfl, kk⟩
                          have hD5 := kk.drw hD4
                          have tw5 := tw4.keptC kk hD4
                          have hva5 := kk.tup hD4 hva
                          walk_at "rd"
                          refine ⟨fun σ2 H2 => ∃ v18, σ2 = [some (.ref sa), some (.ref d), some (.ref fp), some (.ref mo), some (.int (i : Int)), some (.ref hid), none, some (.ref sb), some (.ref G), some (.ref du), some (.ref Fl), some (.ref g), some (.ref wh), some (.ref fo), some (.ref q1), some (.ref q2), none, some (.ref va), some v18, none] ∧ KeptC d c H' H2 ∧ ClV H2 v18, ?_, ?_⟩
                          · walk_at "rd"
                            refine ⟨d, c, 4, rfl, by decide, by decide, hD5, fun r H5 l g0 k5 => ?_⟩
                            have hD6 := k5.drw hD5
                            obtain ⟨ct2, rfl⟩ : ∃ m : Nat, r = (m : Int) := ⟨r.toNat, by omega⟩
                            refine Lc1.drawsP (fun n => isLit n = true ∧ absI n ∈ (S ++ Hd) ++ [997]) hD6 (by omega) (fun j H6 kk2 hj k6 fin => ?_) fun L5 H6 ls hL5 k6 hLl hln hlw => ?_
                            · have hva6 := (k5.trans k6).tup hD5 hva5
                              walk_at "rd"
                              refine ⟨by show 1 ≤ sizeLine; omega, fun p hp => ?_⟩
                              have k7 := Kept.new (o := .tup [.int 997]) hp
                              have ep : (upd H6 p (.tup [.int 997])) p = some (.tup (([997] : List Int).map V.int)) := upd_same
                              generalize upd H6 p (.tup [.int 997]) = H7 at k7 ep
                              refine w_catA (k7.tup hva6) ep (by rw [List.length_append, List.length_singleton]; omega) fun p2 H8 k8 hp2 => ?_
                              have k78 := k7.trans k8
                              have hD8 := k78.toC.drw (k6.drw hD6)
                              walk_at "rd"
                              refine ⟨d, c, p2, (S ++ Hd) ++ [997], rfl, hD8, Away.tup hD8 hp2, by rw [List.length_append, List.length_append]; omega, by rw [List.length_append, List.length_append, List.length_singleton]; omega, fun v hv => ?_, fun n H9 k9 hlit hmem => fin n H9 (k78.toC.trans k9) ⟨hlit, hmem⟩⟩
                              rcases List.mem_append.mp hv with z | z
                              · rcases List.mem_append.mp z with z | z
                                · exact hf.vars v (.inl z)
                                · exact hf.vars v (.inr z)
                              · rw [List.mem_singleton.mp z]
                                decide
                            · have k56 := k5.trans k6
                              walk_at "rd"
                              refine ⟨L5, ls, rfl, hLl, by omega, fun _ H7 k7 => ?_, fun _ p H7 k7 hpn hp => ?_⟩
                              · walk_at "rd"
                                exact ⟨_, rfl, k56.trans k7.toC, .inl rfl⟩
                              · walk_at "rd"
                                exact ⟨_, rfl, k56.trans k7.toC, .inr ⟨p, _, rfl, hp, by have := len_clauseF ls; omega⟩⟩
                          · rintro σ2 H5 ⟨w18, rfl, k5, hv5⟩
                            have hD6 := k5.drw hD5
                            have tw6 := tw5.keptC k5 hD5
                            have hfp6 := tw6.p
                            walk_at "rd"
                            refine ⟨fun σ2 H2 => ∃ v18, σ2 = [some (.ref sa), some (.ref d), some (.ref fp), some (.ref mo), some (.int (i : Int)), some (.ref hid), none, some (.ref sb), some (.ref G), some (.ref du), some (.ref Fl), some (.ref g), some (.ref wh), some (.ref fo), some (.ref q1), some (.ref q2), none, some (.ref va), some v18, none] ∧ KeptC d c H5 H2 ∧ ClV H2 v18, ?_, ?_⟩
                            · walk_at "rd"
                              refine ⟨Nat.zero_le _, fun z hz => ?_⟩
                              have k7 := Kept.new (o := .tup []) hz
                              have ez : (upd H5 z (.tup [])) z = some (.tup []) := upd_same
                              generalize upd H5 z (.tup []) = H7 at k7 ez
                              have tw7 := tw6.kept k7
                              have hfp7 := tw7.p
                              have hD7 := k7.toC.drw hD6
                              have hv7 := hv5.kept k7
                              refine w_neRT tw7.r tw7.c ez ?_
                              refine ⟨_, rfl, ?_⟩
                              by_cases hrc : rc = []
                              · rw [decide_eq_true hrc]
                                refine if_f rfl ?_
                                walk_at "rd"
                                exact ⟨_, rfl, k7.toC, hv7⟩
                              · rw [decide_eq_false hrc]
                                refine if_t rfl ?_
                                walk_at "rd"
                                refine ⟨d, c, 2, rfl, by decide, by decide, hD7, fun r H8 l g0 k8 => ?_⟩
                                have k78 := k7.toC.trans k8
                                have hD8 := k8.drw hD7
                                have tw8 := tw7.keptC k8 hD7
                                have hfp8 := tw8.p
                                walk_at "rd"
                                cases hb : decide (V.int r = V.int 0) with
                                | false =>
                                  refine if_f rfl ?_
                                  walk_at "rd"
                                  exact ⟨_, rfl, k78, hv7.keptC k8 hD7⟩
                                | true =>
                                  refine if_t rfl ?_
                                  walk_at "rd"
                                  refine ⟨fr, _, rfl, .inr (SqT.of tw8.r), ?_⟩
                                  rw [List.length_map]
                                  have hbl : bs.length = rc.length := tw8.c.1
                                  have hrp : 0 < rc.length := List.length_pos_iff.mpr hrc
                                  walk_at "rd"
                                  refine ⟨d, c, _, rfl, by omega, by omega, hD8, fun r2 H9 l2 g2 k9 => ?_⟩
                                  have tw9 := tw8.keptC k9 hD8
                                  obtain ⟨m2, rfl⟩ : ∃ m : Nat, r2 = (m : Int) := ⟨r2.toNat, by omega⟩
                                  have hmb : m2 < bs.length := by omega
                                  have hmr : m2 < rc.length := by omega
                                  refine w_ixT tw9.r (v := .ref bs[m2]) (atI_nat (j := m2) (by rw [List.getElem?_map, List.getElem?_eq_getElem hmb] <;> rfl)) ?_
                                  walk_at "rd"
                                  exact ⟨_, rfl, k78.trans k9, .inr ⟨_, rc[m2], rfl, tw9.c.2 m2 _ _ (List.getElem?_eq_getElem hmb) (List.getElem?_eq_getElem hmr), (hf.cls _ (List.getElem_mem hmr)).2.1⟩⟩
                            · rintro σ2 H7 ⟨u18, rfl, k7, hv7⟩
                              have hD7 := k7.drw hD6
                              have tw7 := tw6.keptC k7 hD6
                              have k47 := kk.trans (k5.trans k7)
                              rcases hv7 with rfl | ⟨ca, c0, rfl, hca, hcl⟩
                              · walk_at "rd"
                                refine ⟨rfl, ?_⟩
                                refine ⟨_, rfl, if_f rfl ?_⟩
                                walk_at "rd"
                                exact ⟨_, _, rfl, k47⟩
                              · walk_at "rd"
                                refine ⟨rfl, ?_⟩
                                refine ⟨_, rfl, if_t rfl ?_⟩
                                walk_at "rd"
                                refine ⟨d, c, 2, rfl, by decide, by decide, hD7, fun r H8 l g0 k8 => ?_⟩
                                have tw8 := tw7.keptC k8 hD7
                                have hca8 := k8.tup hD7 hca
                                have hT18 := (k47.trans k8).tab _ hT14
                                walk_at "rd"
                                refine ⟨fp, ca, fs, fh, fr, bs, S, Hd, rc, c0, _, rfl, ⟨tw8.p, tw8.s, tw8.h, tw8.r, tw8.c, hca8, by omega, by omega, fun x hx => by have := (hf.cls x hx).2.1; omega, by omega, hf.asc⟩, hT18, fun H9 k9 => ?_⟩
                                refine ⟨_, rfl, if_f rfl ?_⟩
                                walk_at "rd"
                                exact ⟨_, _, rfl, (k47.trans k8).trans k9.toC⟩
                        · rintro σ' H' ⟨v4, v18, rfl, kk⟩
                          walk_at "rd"
                          exact k H'
end
end Ky

namespace Ky
open PySem PySem.Spec PyProof.Rows L2
/-- the end of a row by what the top has left: the law's promise may lean on the tables of code objects -/
theorem walk_own {l : PySem.W.OpenLaw} {n k : Nat} {q : Program} {loose : List Str} {XP : (Str → Option Value) → Heap → Prop} {YP : World → Heap → Prop} {d : DefRec} {K : Params → PySem.W.Frag} {x : Str}
    (hn : l.most = some n) (hn2 : n ≤ sizeLine) (hdf : d.params.defaults = []) (hr : Room k callerA) (hK : ∀ (w : World) (h : Heap), YP w h → (K w.params).In h)
    (F : ∀ (w : World) (s0 : Shared) (mg mb : Str → Option Value) (fa : Addr) (h : Heap), PySem.W.Ground q loose [] XP w s0 mg mb h → YP w h →
      mg d.name = some (.ref fa) → (K w.params).In h → LamX.LawAtS l w (K w.params) CX0 k n x mg fa h) :
    PySem.W.WalkO q loose XP YP l.row.toRowW d [] (fun f vs => PySem.call f vs) :=
  Att.attach_callB hn hdf fun w s0 s1 mg mb fa _ _ _ _ a _ ns G Y _ _ _ hm ho hi hl hz hg => by
    have X := hK w s1.heap Y
    obtain ⟨fd, cs, sp, t1, t2, t3, t4, t5, t6⟩ := F w s0 mg mb fa s1.heap G Y hm X
    have T := G.T
    exact LamX.law_callTs X T.g T.b T.builtins T.nolimit hg t1 t2 t3 T.bmain ho hi (Nat.le_trans hl hn2) hr t6 t4 (fun H a1 a2 => t5 H a ns hl hz a1 a2) fun _ _ _ z => z
theorem df_of {P : Program} {w : World} {K : PySem.W.Frag} {mg : Str → Option Value} {base : Heap} {k : Nat} {x : Str} {ps : List Str} {sp : Sp} {f : Addr} {fd : FuncData} (F : FnOk P w K mg base CX0 k f fd ps sp) (m : mg x = some (.ref f)) (kp : PySem.W.keepIn K (.ref f) = true) (b : Binds K fd ps []) : Df P w K mg base k x ps sp := ⟨f, fd, F, m, kp, b⟩
theorem dfx_of {P : Program} {w : World} {K : PySem.W.Frag} {mg : Str → Option Value} {base : Heap} {k : Nat} {x : Str} {ps : List Str} {sp : Sp} {f : Addr} {fd : FuncData} (F : FnOk P w K mg base (L2.CX P w) k f fd ps sp) (m : mg x = some (.ref f)) (kp : PySem.W.keepIn K (.ref f) = true) (b : Binds K fd ps []) : DfX P w K mg base k x ps sp := ⟨f, fd, F, m, kp, b⟩
theorem func_mk {K : PySem.W.Frag} {x : Str} {st : Stmt} {f c : Addr} {oc : Value} {od an : Option Addr} {osl : Array (Option Value)} {kV doc pm ct : Value} (l : K.lookup f = some ⟨oc, od, .func (PySem.W.fnOf x x (defArgs st) (defBody st) (defScope st) .none kV doc pm an (.ref c) ct), osl⟩) (b : PySem.W.codeIn K (.ref c) x = true) : FunC K x st f (PySem.W.fnOf x x (defArgs st) (defBody st) (defScope st) .none kV doc pm an (.ref c) ct) c := ⟨⟨oc, od, kV, doc, pm, an, ct, osl, rfl, l, b⟩⟩
theorem tab_in {K : PySem.W.Frag} {x : Str} {f c t : Addr} {oc e : Value} {od dd : Option Addr} {fd : FuncData} {sl sv : Array (Option Value)} {vs : Array Value} (a : PySem.W.nsIn K mainGlobals x = some (some (.ref f))) (l : K.lookup f = some ⟨oc, od, .func fd, sl⟩) (hc : fd.code = .ref c)
    (lc : K.lookup c = some ⟨e, dd, .fields vs, sv⟩) (lv : vs[11]? = some (.ref t)) : PySem.W.tabIn K x = some (c, t) := by
  unfold PySem.W.tabIn
  simp only [a, l, hc, lc, lv]
theorem all_mk {l : PySem.W.OpenLaw} {w : World} {K : PySem.W.Frag} {q : Program} {lo : List Str} {lv : List (Str × PySem.W.WData)} {s0 : Shared} {h : Heap} {mg mb : Str → Option Value} {fa : Addr} {dR_clause_of : DefRec} {dR_with_clause : DefRec} (X : K.In h)
    (G : PySem.W.Ground q lo [] (PySem.W.XL q lv) w s0 mg mb h) (hfa : mg "law" = some (.ref fa)) (hR_clause_of : (recsOf q).find? (fun e => e.name == ("clause_of" : Str)) = some dR_clause_of) (hR_with_clause : (recsOf q).find? (fun e => e.name == ("with_clause" : Str)) = some dR_with_clause)
    {f_literal_key : Addr} {od_literal_key an_literal_key : Option Addr} {sl_literal_key : Array (Option Value)} {oc_literal_key kV_literal_key dc_literal_key pm_literal_key cd_literal_key ct_literal_key : Value}
    (a_literal_key : PySem.W.nsIn K mainGlobals "literal_key" = some (some (.ref f_literal_key))) (l_literal_key : K.lookup f_literal_key = some ⟨oc_literal_key, od_literal_key, .func (PySem.W.fnOf "literal_key" "literal_key" (defArgs s_literal_key) (defBody s_literal_key) (defScope s_literal_key) .none kV_literal_key dc_literal_key pm_literal_key an_literal_key (cd_literal_key) ct_literal_key), sl_literal_key⟩)
    (b_literal_key : PySem.W.codeIn K (cd_literal_key) "literal_key" = true) (k_literal_key : PySem.W.keepIn K (.ref f_literal_key) = true)
    {f_clause_key : Addr} {od_clause_key an_clause_key : Option Addr} {sl_clause_key : Array (Option Value)} {oc_clause_key kV_clause_key dc_clause_key pm_clause_key cd_clause_key ct_clause_key : Value}
    (a_clause_key : PySem.W.nsIn K mainGlobals "clause_key" = some (some (.ref f_clause_key))) (l_clause_key : K.lookup f_clause_key = some ⟨oc_clause_key, od_clause_key, .func (PySem.W.fnOf "clause_key" "clause_key" (defArgs s_clause_key) (defBody s_clause_key) (defScope s_clause_key) .none kV_clause_key dc_clause_key pm_clause_key an_clause_key (cd_clause_key) ct_clause_key), sl_clause_key⟩)
    (b_clause_key : PySem.W.codeIn K (cd_clause_key) "clause_key" = true) (k_clause_key : PySem.W.keepIn K (.ref f_clause_key) = true)
    {f_clause_of : Addr} {od_clause_of an_clause_of : Option Addr} {sl_clause_of : Array (Option Value)} {oc_clause_of kV_clause_of dc_clause_of pm_clause_of ct_clause_of : Value} {c_clause_of t_clause_of : Addr}
    (a_clause_of : PySem.W.nsIn K mainGlobals "clause_of" = some (some (.ref f_clause_of))) (l_clause_of : K.lookup f_clause_of = some ⟨oc_clause_of, od_clause_of, .func (PySem.W.fnOf "clause_of" "clause_of" (defArgs s_clause_of) (defBody s_clause_of) (defScope s_clause_of) .none kV_clause_of dc_clause_of pm_clause_of an_clause_of (.ref c_clause_of) ct_clause_of), sl_clause_of⟩)
    (b_clause_of : PySem.W.codeIn K (.ref c_clause_of) "clause_of" = true) (k_clause_of : PySem.W.keepIn K (.ref f_clause_of) = true)
    {f_residue_of : Addr} {od_residue_of an_residue_of : Option Addr} {sl_residue_of : Array (Option Value)} {oc_residue_of kV_residue_of dc_residue_of pm_residue_of cd_residue_of ct_residue_of : Value}
    (a_residue_of : PySem.W.nsIn K mainGlobals "residue_of" = some (some (.ref f_residue_of))) (l_residue_of : K.lookup f_residue_of = some ⟨oc_residue_of, od_residue_of, .func (PySem.W.fnOf "residue_of" "residue_of" (defArgs s_residue_of) (defBody s_residue_of) (defScope s_residue_of) .none kV_residue_of dc_residue_of pm_residue_of an_residue_of (cd_residue_of) ct_residue_of), sl_residue_of⟩)
    (b_residue_of : PySem.W.codeIn K (cd_residue_of) "residue_of" = true) (k_residue_of : PySem.W.keepIn K (.ref f_residue_of) = true)
    {f_place_of : Addr} {od_place_of an_place_of : Option Addr} {sl_place_of : Array (Option Value)} {oc_place_of kV_place_of dc_place_of pm_place_of cd_place_of ct_place_of : Value}
    (a_place_of : PySem.W.nsIn K mainGlobals "place_of" = some (some (.ref f_place_of))) (l_place_of : K.lookup f_place_of = some ⟨oc_place_of, od_place_of, .func (PySem.W.fnOf "place_of" "place_of" (defArgs s_place_of) (defBody s_place_of) (defScope s_place_of) .none kV_place_of dc_place_of pm_place_of an_place_of (cd_place_of) ct_place_of), sl_place_of⟩)
    (b_place_of : PySem.W.codeIn K (cd_place_of) "place_of" = true) (k_place_of : PySem.W.keepIn K (.ref f_place_of) = true)
    {f_merged : Addr} {od_merged an_merged : Option Addr} {sl_merged : Array (Option Value)} {oc_merged kV_merged dc_merged pm_merged cd_merged ct_merged : Value}
    (a_merged : PySem.W.nsIn K mainGlobals "merged" = some (some (.ref f_merged))) (l_merged : K.lookup f_merged = some ⟨oc_merged, od_merged, .func (PySem.W.fnOf "merged" "merged" (defArgs s_merged) (defBody s_merged) (defScope s_merged) .none kV_merged dc_merged pm_merged an_merged (cd_merged) ct_merged), sl_merged⟩)
    (b_merged : PySem.W.codeIn K (cd_merged) "merged" = true) (k_merged : PySem.W.keepIn K (.ref f_merged) = true)
    {f_residue_with : Addr} {od_residue_with an_residue_with : Option Addr} {sl_residue_with : Array (Option Value)} {oc_residue_with kV_residue_with dc_residue_with pm_residue_with cd_residue_with ct_residue_with : Value}
    (a_residue_with : PySem.W.nsIn K mainGlobals "residue_with" = some (some (.ref f_residue_with))) (l_residue_with : K.lookup f_residue_with = some ⟨oc_residue_with, od_residue_with, .func (PySem.W.fnOf "residue_with" "residue_with" (defArgs s_residue_with) (defBody s_residue_with) (defScope s_residue_with) .none kV_residue_with dc_residue_with pm_residue_with an_residue_with (cd_residue_with) ct_residue_with), sl_residue_with⟩)
    (b_residue_with : PySem.W.codeIn K (cd_residue_with) "residue_with" = true) (k_residue_with : PySem.W.keepIn K (.ref f_residue_with) = true)
    {f_hide : Addr} {od_hide an_hide : Option Addr} {sl_hide : Array (Option Value)} {oc_hide kV_hide dc_hide pm_hide cd_hide ct_hide : Value}
    (a_hide : PySem.W.nsIn K mainGlobals "hide" = some (some (.ref f_hide))) (l_hide : K.lookup f_hide = some ⟨oc_hide, od_hide, .func (PySem.W.fnOf "hide" "hide" (defArgs s_hide) (defBody s_hide) (defScope s_hide) .none kV_hide dc_hide pm_hide an_hide (cd_hide) ct_hide), sl_hide⟩)
    (b_hide : PySem.W.codeIn K (cd_hide) "hide" = true) (k_hide : PySem.W.keepIn K (.ref f_hide) = true)
    {f_new_names : Addr} {od_new_names an_new_names : Option Addr} {sl_new_names : Array (Option Value)} {oc_new_names kV_new_names dc_new_names pm_new_names cd_new_names ct_new_names : Value}
    (a_new_names : PySem.W.nsIn K mainGlobals "new_names" = some (some (.ref f_new_names))) (l_new_names : K.lookup f_new_names = some ⟨oc_new_names, od_new_names, .func (PySem.W.fnOf "new_names" "new_names" (defArgs s_new_names) (defBody s_new_names) (defScope s_new_names) .none kV_new_names dc_new_names pm_new_names an_new_names (cd_new_names) ct_new_names), sl_new_names⟩)
    (b_new_names : PySem.W.codeIn K (cd_new_names) "new_names" = true) (k_new_names : PySem.W.keepIn K (.ref f_new_names) = true)
    {f_renamed : Addr} {od_renamed an_renamed : Option Addr} {sl_renamed : Array (Option Value)} {oc_renamed kV_renamed dc_renamed pm_renamed cd_renamed ct_renamed : Value}
    (a_renamed : PySem.W.nsIn K mainGlobals "renamed" = some (some (.ref f_renamed))) (l_renamed : K.lookup f_renamed = some ⟨oc_renamed, od_renamed, .func (PySem.W.fnOf "renamed" "renamed" (defArgs s_renamed) (defBody s_renamed) (defScope s_renamed) .none kV_renamed dc_renamed pm_renamed an_renamed (cd_renamed) ct_renamed), sl_renamed⟩)
    (b_renamed : PySem.W.codeIn K (cd_renamed) "renamed" = true) (k_renamed : PySem.W.keepIn K (.ref f_renamed) = true)
    {f_both : Addr} {od_both an_both : Option Addr} {sl_both : Array (Option Value)} {oc_both kV_both dc_both pm_both cd_both ct_both : Value}
    (a_both : PySem.W.nsIn K mainGlobals "both" = some (some (.ref f_both))) (l_both : K.lookup f_both = some ⟨oc_both, od_both, .func (PySem.W.fnOf "both" "both" (defArgs s_both) (defBody s_both) (defScope s_both) .none kV_both dc_both pm_both an_both (cd_both) ct_both), sl_both⟩)
    (b_both : PySem.W.codeIn K (cd_both) "both" = true) (k_both : PySem.W.keepIn K (.ref f_both) = true)
    {f_with_clause : Addr} {od_with_clause an_with_clause : Option Addr} {sl_with_clause : Array (Option Value)} {oc_with_clause kV_with_clause dc_with_clause pm_with_clause ct_with_clause : Value} {c_with_clause t_with_clause : Addr}
    (a_with_clause : PySem.W.nsIn K mainGlobals "with_clause" = some (some (.ref f_with_clause))) (l_with_clause : K.lookup f_with_clause = some ⟨oc_with_clause, od_with_clause, .func (PySem.W.fnOf "with_clause" "with_clause" (defArgs s_with_clause) (defBody s_with_clause) (defScope s_with_clause) .none kV_with_clause dc_with_clause pm_with_clause an_with_clause (.ref c_with_clause) ct_with_clause), sl_with_clause⟩)
    (b_with_clause : PySem.W.codeIn K (.ref c_with_clause) "with_clause" = true) (k_with_clause : PySem.W.keepIn K (.ref f_with_clause) = true)
    {f_without_clause : Addr} {od_without_clause an_without_clause : Option Addr} {sl_without_clause : Array (Option Value)} {oc_without_clause kV_without_clause dc_without_clause pm_without_clause cd_without_clause ct_without_clause : Value}
    (a_without_clause : PySem.W.nsIn K mainGlobals "without_clause" = some (some (.ref f_without_clause))) (l_without_clause : K.lookup f_without_clause = some ⟨oc_without_clause, od_without_clause, .func (PySem.W.fnOf "without_clause" "without_clause" (defArgs s_without_clause) (defBody s_without_clause) (defScope s_without_clause) .none kV_without_clause dc_without_clause pm_without_clause an_without_clause (cd_without_clause) ct_without_clause), sl_without_clause⟩)
    (b_without_clause : PySem.W.codeIn K (cd_without_clause) "without_clause" = true) (k_without_clause : PySem.W.keepIn K (.ref f_without_clause) = true)
    {f_l_draw : Addr} {od_l_draw an_l_draw : Option Addr} {sl_l_draw : Array (Option Value)} {oc_l_draw kV_l_draw dc_l_draw pm_l_draw cd_l_draw ct_l_draw : Value}
    (a_l_draw : PySem.W.nsIn K mainGlobals "_law_draw" = some (some (.ref f_l_draw))) (l_l_draw : K.lookup f_l_draw = some ⟨oc_l_draw, od_l_draw, .func (PySem.W.fnOf "_law_draw" "_law_draw" (defArgs s_l_draw) (defBody s_l_draw) (defScope s_l_draw) .none kV_l_draw dc_l_draw pm_l_draw an_l_draw (cd_l_draw) ct_l_draw), sl_l_draw⟩)
    (b_l_draw : PySem.W.codeIn K (cd_l_draw) "_law_draw" = true) (k_l_draw : PySem.W.keepIn K (.ref f_l_draw) = true)
    {f_l_take : Addr} {od_l_take an_l_take : Option Addr} {sl_l_take : Array (Option Value)} {oc_l_take kV_l_take dc_l_take pm_l_take cd_l_take ct_l_take : Value}
    (a_l_take : PySem.W.nsIn K mainGlobals "_law_take" = some (some (.ref f_l_take))) (l_l_take : K.lookup f_l_take = some ⟨oc_l_take, od_l_take, .func (PySem.W.fnOf "_law_take" "_law_take" (defArgs s_l_take) (defBody s_l_take) (defScope s_l_take) .none kV_l_take dc_l_take pm_l_take an_l_take (cd_l_take) ct_l_take), sl_l_take⟩)
    (b_l_take : PySem.W.codeIn K (cd_l_take) "_law_take" = true) (k_l_take : PySem.W.keepIn K (.ref f_l_take) = true)
    {f_l_key : Addr} {od_l_key an_l_key : Option Addr} {sl_l_key : Array (Option Value)} {oc_l_key kV_l_key dc_l_key pm_l_key cd_l_key ct_l_key : Value}
    (a_l_key : PySem.W.nsIn K mainGlobals "_law_key" = some (some (.ref f_l_key))) (l_l_key : K.lookup f_l_key = some ⟨oc_l_key, od_l_key, .func (PySem.W.fnOf "_law_key" "_law_key" (defArgs s_l_key) (defBody s_l_key) (defScope s_l_key) .none kV_l_key dc_l_key pm_l_key an_l_key (cd_l_key) ct_l_key), sl_l_key⟩)
    (b_l_key : PySem.W.codeIn K (cd_l_key) "_law_key" = true) (k_l_key : PySem.W.keepIn K (.ref f_l_key) = true)
    {f_l_once : Addr} {od_l_once an_l_once : Option Addr} {sl_l_once : Array (Option Value)} {oc_l_once kV_l_once dc_l_once pm_l_once cd_l_once ct_l_once : Value}
    (a_l_once : PySem.W.nsIn K mainGlobals "_law_once" = some (some (.ref f_l_once))) (l_l_once : K.lookup f_l_once = some ⟨oc_l_once, od_l_once, .func (PySem.W.fnOf "_law_once" "_law_once" (defArgs s_l_once) (defBody s_l_once) (defScope s_l_once) .none kV_l_once dc_l_once pm_l_once an_l_once (cd_l_once) ct_l_once), sl_l_once⟩)
    (b_l_once : PySem.W.codeIn K (cd_l_once) "_law_once" = true) (k_l_once : PySem.W.keepIn K (.ref f_l_once) = true)
    {f_l_clause : Addr} {od_l_clause an_l_clause : Option Addr} {sl_l_clause : Array (Option Value)} {oc_l_clause kV_l_clause dc_l_clause pm_l_clause cd_l_clause ct_l_clause : Value}
    (a_l_clause : PySem.W.nsIn K mainGlobals "_law_clause" = some (some (.ref f_l_clause))) (l_l_clause : K.lookup f_l_clause = some ⟨oc_l_clause, od_l_clause, .func (PySem.W.fnOf "_law_clause" "_law_clause" (defArgs s_l_clause) (defBody s_l_clause) (defScope s_l_clause) .none kV_l_clause dc_l_clause pm_l_clause an_l_clause (cd_l_clause) ct_l_clause), sl_l_clause⟩)
    (b_l_clause : PySem.W.codeIn K (cd_l_clause) "_law_clause" = true) (k_l_clause : PySem.W.keepIn K (.ref f_l_clause) = true)
    {f_l_clause_key : Addr} {od_l_clause_key an_l_clause_key : Option Addr} {sl_l_clause_key : Array (Option Value)} {oc_l_clause_key kV_l_clause_key dc_l_clause_key pm_l_clause_key cd_l_clause_key ct_l_clause_key : Value}
    (a_l_clause_key : PySem.W.nsIn K mainGlobals "_law_clause_key" = some (some (.ref f_l_clause_key))) (l_l_clause_key : K.lookup f_l_clause_key = some ⟨oc_l_clause_key, od_l_clause_key, .func (PySem.W.fnOf "_law_clause_key" "_law_clause_key" (defArgs s_l_clause_key) (defBody s_l_clause_key) (defScope s_l_clause_key) .none kV_l_clause_key dc_l_clause_key pm_l_clause_key an_l_clause_key (cd_l_clause_key) ct_l_clause_key), sl_l_clause_key⟩)
    (b_l_clause_key : PySem.W.codeIn K (cd_l_clause_key) "_law_clause_key" = true) (k_l_clause_key : PySem.W.keepIn K (.ref f_l_clause_key) = true)
    {f_l_residue : Addr} {od_l_residue an_l_residue : Option Addr} {sl_l_residue : Array (Option Value)} {oc_l_residue kV_l_residue dc_l_residue pm_l_residue cd_l_residue ct_l_residue : Value}
    (a_l_residue : PySem.W.nsIn K mainGlobals "_law_residue" = some (some (.ref f_l_residue))) (l_l_residue : K.lookup f_l_residue = some ⟨oc_l_residue, od_l_residue, .func (PySem.W.fnOf "_law_residue" "_law_residue" (defArgs s_l_residue) (defBody s_l_residue) (defScope s_l_residue) .none kV_l_residue dc_l_residue pm_l_residue an_l_residue (cd_l_residue) ct_l_residue), sl_l_residue⟩)
    (b_l_residue : PySem.W.codeIn K (cd_l_residue) "_law_residue" = true) (k_l_residue : PySem.W.keepIn K (.ref f_l_residue) = true)
    {f_l_literal : Addr} {od_l_literal an_l_literal : Option Addr} {sl_l_literal : Array (Option Value)} {oc_l_literal kV_l_literal dc_l_literal pm_l_literal cd_l_literal ct_l_literal : Value}
    (a_l_literal : PySem.W.nsIn K mainGlobals "_law_literal" = some (some (.ref f_l_literal))) (l_l_literal : K.lookup f_l_literal = some ⟨oc_l_literal, od_l_literal, .func (PySem.W.fnOf "_law_literal" "_law_literal" (defArgs s_l_literal) (defBody s_l_literal) (defScope s_l_literal) .none kV_l_literal dc_l_literal pm_l_literal an_l_literal (cd_l_literal) ct_l_literal), sl_l_literal⟩)
    (b_l_literal : PySem.W.codeIn K (cd_l_literal) "_law_literal" = true) (k_l_literal : PySem.W.keepIn K (.ref f_l_literal) = true)
    {f_l_clauses : Addr} {od_l_clauses an_l_clauses : Option Addr} {sl_l_clauses : Array (Option Value)} {oc_l_clauses kV_l_clauses dc_l_clauses pm_l_clauses cd_l_clauses ct_l_clauses : Value}
    (a_l_clauses : PySem.W.nsIn K mainGlobals "_law_clauses" = some (some (.ref f_l_clauses))) (l_l_clauses : K.lookup f_l_clauses = some ⟨oc_l_clauses, od_l_clauses, .func (PySem.W.fnOf "_law_clauses" "_law_clauses" (defArgs s_l_clauses) (defBody s_l_clauses) (defScope s_l_clauses) .none kV_l_clauses dc_l_clauses pm_l_clauses an_l_clauses (cd_l_clauses) ct_l_clauses), sl_l_clauses⟩)
    (b_l_clauses : PySem.W.codeIn K (cd_l_clauses) "_law_clauses" = true) (k_l_clauses : PySem.W.keepIn K (.ref f_l_clauses) = true)
    {f_l_formula : Addr} {od_l_formula an_l_formula : Option Addr} {sl_l_formula : Array (Option Value)} {oc_l_formula kV_l_formula dc_l_formula pm_l_formula cd_l_formula ct_l_formula : Value}
    (a_l_formula : PySem.W.nsIn K mainGlobals "_law_formula" = some (some (.ref f_l_formula))) (l_l_formula : K.lookup f_l_formula = some ⟨oc_l_formula, od_l_formula, .func (PySem.W.fnOf "_law_formula" "_law_formula" (defArgs s_l_formula) (defBody s_l_formula) (defScope s_l_formula) .none kV_l_formula dc_l_formula pm_l_formula an_l_formula (cd_l_formula) ct_l_formula), sl_l_formula⟩)
    (b_l_formula : PySem.W.codeIn K (cd_l_formula) "_law_formula" = true) (k_l_formula : PySem.W.keepIn K (.ref f_l_formula) = true)
    {f_l_fillings : Addr} {od_l_fillings an_l_fillings : Option Addr} {sl_l_fillings : Array (Option Value)} {oc_l_fillings kV_l_fillings dc_l_fillings pm_l_fillings cd_l_fillings ct_l_fillings : Value}
    (a_l_fillings : PySem.W.nsIn K mainGlobals "_law_fillings" = some (some (.ref f_l_fillings))) (l_l_fillings : K.lookup f_l_fillings = some ⟨oc_l_fillings, od_l_fillings, .func (PySem.W.fnOf "_law_fillings" "_law_fillings" (defArgs s_l_fillings) (defBody s_l_fillings) (defScope s_l_fillings) .none kV_l_fillings dc_l_fillings pm_l_fillings an_l_fillings (cd_l_fillings) ct_l_fillings), sl_l_fillings⟩)
    (b_l_fillings : PySem.W.codeIn K (cd_l_fillings) "_law_fillings" = true) (k_l_fillings : PySem.W.keepIn K (.ref f_l_fillings) = true)
    {f_l_keeps : Addr} {od_l_keeps an_l_keeps : Option Addr} {sl_l_keeps : Array (Option Value)} {oc_l_keeps kV_l_keeps dc_l_keeps pm_l_keeps cd_l_keeps ct_l_keeps : Value}
    (a_l_keeps : PySem.W.nsIn K mainGlobals "_law_keeps" = some (some (.ref f_l_keeps))) (l_l_keeps : K.lookup f_l_keeps = some ⟨oc_l_keeps, od_l_keeps, .func (PySem.W.fnOf "_law_keeps" "_law_keeps" (defArgs s_l_keeps) (defBody s_l_keeps) (defScope s_l_keeps) .none kV_l_keeps dc_l_keeps pm_l_keeps an_l_keeps (cd_l_keeps) ct_l_keeps), sl_l_keeps⟩)
    (b_l_keeps : PySem.W.codeIn K (cd_l_keeps) "_law_keeps" = true) (k_l_keeps : PySem.W.keepIn K (.ref f_l_keeps) = true)
    {f_l_models : Addr} {od_l_models an_l_models : Option Addr} {sl_l_models : Array (Option Value)} {oc_l_models kV_l_models dc_l_models pm_l_models cd_l_models ct_l_models : Value}
    (a_l_models : PySem.W.nsIn K mainGlobals "_law_models" = some (some (.ref f_l_models))) (l_l_models : K.lookup f_l_models = some ⟨oc_l_models, od_l_models, .func (PySem.W.fnOf "_law_models" "_law_models" (defArgs s_l_models) (defBody s_l_models) (defScope s_l_models) .none kV_l_models dc_l_models pm_l_models an_l_models (cd_l_models) ct_l_models), sl_l_models⟩)
    (b_l_models : PySem.W.codeIn K (cd_l_models) "_law_models" = true) (k_l_models : PySem.W.keepIn K (.ref f_l_models) = true)
    {f_l_changed : Addr} {od_l_changed an_l_changed : Option Addr} {sl_l_changed : Array (Option Value)} {oc_l_changed kV_l_changed dc_l_changed pm_l_changed cd_l_changed ct_l_changed : Value}
    (a_l_changed : PySem.W.nsIn K mainGlobals "_law_changed" = some (some (.ref f_l_changed))) (l_l_changed : K.lookup f_l_changed = some ⟨oc_l_changed, od_l_changed, .func (PySem.W.fnOf "_law_changed" "_law_changed" (defArgs s_l_changed) (defBody s_l_changed) (defScope s_l_changed) .none kV_l_changed dc_l_changed pm_l_changed an_l_changed (cd_l_changed) ct_l_changed), sl_l_changed⟩)
    (b_l_changed : PySem.W.codeIn K (cd_l_changed) "_law_changed" = true) (k_l_changed : PySem.W.keepIn K (.ref f_l_changed) = true)
    {f_l_change_right : Addr} {od_l_change_right an_l_change_right : Option Addr} {sl_l_change_right : Array (Option Value)} {oc_l_change_right kV_l_change_right dc_l_change_right pm_l_change_right cd_l_change_right ct_l_change_right : Value}
    (a_l_change_right : PySem.W.nsIn K mainGlobals "_law_change_right" = some (some (.ref f_l_change_right))) (l_l_change_right : K.lookup f_l_change_right = some ⟨oc_l_change_right, od_l_change_right, .func (PySem.W.fnOf "_law_change_right" "_law_change_right" (defArgs s_l_change_right) (defBody s_l_change_right) (defScope s_l_change_right) .none kV_l_change_right dc_l_change_right pm_l_change_right an_l_change_right (cd_l_change_right) ct_l_change_right), sl_l_change_right⟩)
    (b_l_change_right : PySem.W.codeIn K (cd_l_change_right) "_law_change_right" = true) (k_l_change_right : PySem.W.keepIn K (.ref f_l_change_right) = true)
    {f_l_renamed : Addr} {od_l_renamed an_l_renamed : Option Addr} {sl_l_renamed : Array (Option Value)} {oc_l_renamed kV_l_renamed dc_l_renamed pm_l_renamed cd_l_renamed ct_l_renamed : Value}
    (a_l_renamed : PySem.W.nsIn K mainGlobals "_law_renamed" = some (some (.ref f_l_renamed))) (l_l_renamed : K.lookup f_l_renamed = some ⟨oc_l_renamed, od_l_renamed, .func (PySem.W.fnOf "_law_renamed" "_law_renamed" (defArgs s_l_renamed) (defBody s_l_renamed) (defScope s_l_renamed) .none kV_l_renamed dc_l_renamed pm_l_renamed an_l_renamed (cd_l_renamed) ct_l_renamed), sl_l_renamed⟩)
    (b_l_renamed : PySem.W.codeIn K (cd_l_renamed) "_law_renamed" = true) (k_l_renamed : PySem.W.keepIn K (.ref f_l_renamed) = true)
    {f_law : Addr} {od_law an_law : Option Addr} {sl_law : Array (Option Value)} {oc_law kV_law dc_law pm_law cd_law ct_law : Value}
    (a_law : PySem.W.nsIn K mainGlobals "law" = some (some (.ref f_law))) (l_law : K.lookup f_law = some ⟨oc_law, od_law, .func (PySem.W.fnOf "law" "law" (defArgs s_law) (defBody s_law) (defScope s_law) .none kV_law dc_law pm_law an_law (cd_law) ct_law), sl_law⟩)
    (b_law : PySem.W.codeIn K (cd_law) "law" = true) (k_law : PySem.W.keepIn K (.ref f_law) = true)
    {e_clause_of : Value} {dd_clause_of : Option Addr} {vs_clause_of : Array Value} {sv_clause_of : Array (Option Value)} (lc_clause_of : K.lookup c_clause_of = some ⟨e_clause_of, dd_clause_of, .fields vs_clause_of, sv_clause_of⟩) (lv_clause_of : vs_clause_of[11]? = some (.ref t_clause_of)) (nt_clause_of : K.lookup t_clause_of = none)
    {e_with_clause : Value} {dd_with_clause : Option Addr} {vs_with_clause : Array Value} {sv_with_clause : Array (Option Value)} (lc_with_clause : K.lookup c_with_clause = some ⟨e_with_clause, dd_with_clause, .fields vs_with_clause, sv_with_clause⟩) (lv_with_clause : vs_with_clause[11]? = some (.ref t_with_clause)) (nt_with_clause : K.lookup t_with_clause = none)
    (z_int : PySem.W.nsIn K mainGlobals "int" = some none)
    (z_tuple : PySem.W.nsIn K mainGlobals "tuple" = some none)
    (z_abs : PySem.W.nsIn K mainGlobals "abs" = some none)
    (z_any : PySem.W.nsIn K mainGlobals "any" = some none)
    (z_all : PySem.W.nsIn K mainGlobals "all" = some none)
    (z_len : PySem.W.nsIn K mainGlobals "len" = some none)
    (z_list : PySem.W.nsIn K mainGlobals "list" = some none)
    (z_range : PySem.W.nsIn K mainGlobals "range" = some none)
    (z_sorted : PySem.W.nsIn K mainGlobals "sorted" = some none)
    (z_set : PySem.W.nsIn K mainGlobals "set" = some none)
    (z_isinstance : PySem.W.nsIn K mainGlobals "isinstance" = some none)
    (z_max : PySem.W.nsIn K mainGlobals "max" = some none)
    (z_bool : PySem.W.nsIn K mainGlobals "bool" = some none)
    {aC : Addr} (g_CE : PySem.W.nsIn K mainGlobals "ChangeError" = some (some (.ref aC))) (x_CE : PySem.W.excIn K aC [.type "ValueError", .type "Exception", .type "BaseException", .type "object"] "ValueError.__new__" = true) (kp_CE : PySem.W.keepIn K (.ref aC) = true) (b0_CE : PySem.W.subIn K (.ref aC) (.type "BaseException") = some true) (ty_CE : PySem.W.typeIn K (.ref aC) = some (.type "type")) (i_CE : PySem.W.isClsIn K aC = true) (s0_CE : PySem.W.subIn K (.ref aC) (.ref aC) = some true) : LamX.LawAtS l w K CX0 8 63 "script" mg fa h := by
  have Gg := G.T.g
  have e := hfa.symm.trans (PySem.W.mg_of X Gg a_law)
  cases e
  have T : Tx K mg  := ⟨PySem.W.mg_none_of X Gg z_int, PySem.W.mg_none_of X Gg z_tuple, PySem.W.mg_none_of X Gg z_abs, PySem.W.mg_none_of X Gg z_any, PySem.W.mg_none_of X Gg z_all, PySem.W.mg_none_of X Gg z_len, PySem.W.mg_none_of X Gg z_list, PySem.W.mg_none_of X Gg z_range, PySem.W.mg_none_of X Gg z_sorted, PySem.W.mg_none_of X Gg z_set, PySem.W.mg_none_of X Gg z_isinstance, PySem.W.mg_none_of X Gg z_max, PySem.W.mg_none_of X Gg z_bool⟩
  have TC : ExC K mg "ChangeError" aC := ⟨PySem.W.mg_of X Gg g_CE, x_CE, kp_CE, b0_CE, ty_CE, exm_self b0_CE i_CE ty_CE s0_CE⟩
  obtain ⟨CH_clause_of, tE_clause_of⟩ := PySem.W.tab_of G.T X hR_clause_of (tab_in a_clause_of l_clause_of rfl lc_clause_of lv_clause_of)
  obtain ⟨CH_with_clause, tE_with_clause⟩ := PySem.W.tab_of G.T X hR_with_clause (tab_in a_with_clause l_with_clause rfl lc_with_clause lv_with_clause)
  have F_literal_key := fun_mk (st := s_literal_key) l_literal_key b_literal_key k_literal_key
  have F_clause_key := fun_mk (st := s_clause_key) l_clause_key b_clause_key k_clause_key
  have F_clause_of := func_mk (st := s_clause_of) l_clause_of b_clause_of
  have F_residue_of := fun_mk (st := s_residue_of) l_residue_of b_residue_of k_residue_of
  have F_place_of := fun_mk (st := s_place_of) l_place_of b_place_of k_place_of
  have F_merged := fun_mk (st := s_merged) l_merged b_merged k_merged
  have F_residue_with := fun_mk (st := s_residue_with) l_residue_with b_residue_with k_residue_with
  have F_hide := fun_mk (st := s_hide) l_hide b_hide k_hide
  have F_new_names := fun_mk (st := s_new_names) l_new_names b_new_names k_new_names
  have F_renamed := fun_mk (st := s_renamed) l_renamed b_renamed k_renamed
  have F_both := fun_mk (st := s_both) l_both b_both k_both
  have F_with_clause := func_mk (st := s_with_clause) l_with_clause b_with_clause
  have F_without_clause := fun_mk (st := s_without_clause) l_without_clause b_without_clause k_without_clause
  have F_l_draw := fun_mk (st := s_l_draw) l_l_draw b_l_draw k_l_draw
  have F_l_take := fun_mk (st := s_l_take) l_l_take b_l_take k_l_take
  have F_l_key := fun_mk (st := s_l_key) l_l_key b_l_key k_l_key
  have F_l_once := fun_mk (st := s_l_once) l_l_once b_l_once k_l_once
  have F_l_clause := fun_mk (st := s_l_clause) l_l_clause b_l_clause k_l_clause
  have F_l_clause_key := fun_mk (st := s_l_clause_key) l_l_clause_key b_l_clause_key k_l_clause_key
  have F_l_residue := fun_mk (st := s_l_residue) l_l_residue b_l_residue k_l_residue
  have F_l_literal := fun_mk (st := s_l_literal) l_l_literal b_l_literal k_l_literal
  have F_l_clauses := fun_mk (st := s_l_clauses) l_l_clauses b_l_clauses k_l_clauses
  have F_l_formula := fun_mk (st := s_l_formula) l_l_formula b_l_formula k_l_formula
  have F_l_fillings := fun_mk (st := s_l_fillings) l_l_fillings b_l_fillings k_l_fillings
  have F_l_keeps := fun_mk (st := s_l_keeps) l_l_keeps b_l_keeps k_l_keeps
  have F_l_models := fun_mk (st := s_l_models) l_l_models b_l_models k_l_models
  have F_l_changed := fun_mk (st := s_l_changed) l_l_changed b_l_changed k_l_changed
  have F_l_change_right := fun_mk (st := s_l_change_right) l_l_change_right b_l_change_right k_l_change_right
  have F_l_renamed := fun_mk (st := s_l_renamed) l_l_renamed b_l_renamed k_l_renamed
  have F_law := fun_mk (st := s_law) l_law b_law k_law
  refine ⟨PySem.W.fnOf "law" "law" (defArgs s_law) (defBody s_law) (defScope s_law) .none kV_law dc_law pm_law an_law cd_law ct_law, [(c_clause_of, t_clause_of), (c_with_clause, t_with_clause)], spLaw K t_clause_of t_with_clause, ?_, ?_, ?_, fun s v => .of_eq rfl, ?_, fun base KB MB hTB => ?_⟩
  · intro p hp
    simp only [List.mem_cons, List.not_mem_nil, or_false] at hp
    rcases hp with rfl | rfl
    · exact tE_clause_of
    · exact tE_with_clause
  · intro p hp
    simp only [List.mem_cons, List.not_mem_nil, or_false] at hp
    rcases hp with rfl | rfl
    · exact nt_clause_of
    · exact nt_with_clause
  · intro p hp
    simp only [List.mem_cons, List.not_mem_nil, or_false] at hp
    rcases hp with rfl | rfl
    · exact CH_clause_of
    · exact CH_with_clause
  · intro H a ns hl _ ht hS
    exact ⟨a, ns, rfl, hS, hl, ⟨#[], ht _ (.head _), True.intro⟩, ⟨#[], ht _ (.tail _ (.head _)), True.intro⟩, fun _ => rfl⟩
  have TB0_clause_of := hTB _ (.head _)
  have TB_clause_of : GxR.TabB base mg c_clause_of t_clause_of := ⟨TB0_clause_of.code, TB0_clause_of.bm, TB0_clause_of.gP⟩
  have TB0_with_clause := hTB _ (.tail _ (.head _))
  have TB_with_clause : GxR.TabB base mg c_with_clause t_with_clause := ⟨TB0_with_clause.code, TB0_with_clause.bm, TB0_with_clause.gP⟩
  have D_literal_key : Df l.prog w K mg base 1 "literal_key" ["literal"] spKey := df_of (ok_literal_key F_literal_key T) (PySem.W.mg_of X Gg a_literal_key) k_literal_key (Binds.all fun us hl => match us, hl with | [_], _ => rfl)
  have D_clause_key : Df l.prog w K mg base 2 "clause_key" ["clause"] spCKey := df_of (ok_clause_key F_clause_key T D_literal_key) (PySem.W.mg_of X Gg a_clause_key) k_clause_key (Binds.all fun us hl => match us, hl with | [_], _ => rfl)
  have D_clause_of : Df l.prog w K mg base 4 "clause_of" ["literals"] (spClauseOf t_clause_of) := df_of (ok_clause_of F_clause_of T TB_clause_of D_literal_key) (PySem.W.mg_of X Gg a_clause_of) k_clause_of (Binds.all fun us hl => match us, hl with | [_], _ => rfl)
  have D_residue_of : Df l.prog w K mg base 4 "residue_of" ["clauses"] spResidueOf := df_of (ok_residue_of F_residue_of T D_clause_key) (PySem.W.mg_of X Gg a_residue_of) k_residue_of (Binds.all fun us hl => match us, hl with | [_], _ => rfl)
  have D_place_of : Df l.prog w K mg base 3 "place_of" ["clause", "rows"] spPlace := df_of (ok_place_of F_place_of T D_clause_key) (PySem.W.mg_of X Gg a_place_of) k_place_of (Binds.all fun us hl => match us, hl with | [_, _], _ => rfl)
  have D_merged : Df l.prog w K mg base 4 "merged" ["rows", "clauses"] spMerged := df_of (ok_merged F_merged T D_place_of) (PySem.W.mg_of X Gg a_merged) k_merged (Binds.all fun us hl => match us, hl with | [_, _], _ => rfl)
  have D_residue_with : Df l.prog w K mg base 5 "residue_with" ["residue", "clause"] spResWith := df_of (ok_residue_with F_residue_with T D_merged) (PySem.W.mg_of X Gg a_residue_with) k_residue_with (Binds.all fun us hl => match us, hl with | [_, _], _ => rfl)
  have D_hide : Df l.prog w K mg base 1 "hide" ["formula", "variables"] spHide := df_of (ok_hide F_hide T) (PySem.W.mg_of X Gg a_hide) k_hide (Binds.all fun us hl => match us, hl with | [_, _], _ => rfl)
  have D_new_names : Df l.prog w K mg base 1 "new_names" ["first", "second"] spNewNames := df_of (ok_new_names F_new_names T) (PySem.W.mg_of X Gg a_new_names) k_new_names (Binds.all fun us hl => match us, hl with | [_, _], _ => rfl)
  have D_renamed : Df l.prog w K mg base 5 "renamed" ["clause", "names"] (spRenamed t_clause_of) := df_of (ok_renamed F_renamed T D_clause_of) (PySem.W.mg_of X Gg a_renamed) k_renamed (Binds.all fun us hl => match us, hl with | [_, _], _ => rfl)
  have D_both : Df l.prog w K mg base 6 "both" ["first", "second"] (spBoth t_clause_of) := df_of (ok_both F_both T D_new_names D_renamed D_residue_of) (PySem.W.mg_of X Gg a_both) k_both (Binds.all fun us hl => match us, hl with | [_, _], _ => rfl)
  have D_with_clause : DfX l.prog w K mg base 6 "with_clause" ["formula", "clause"] (spChange t_with_clause aC true) := dfx_of (ok_with_clause F_with_clause T TC TB_with_clause D_residue_with) (PySem.W.mg_of X Gg a_with_clause) k_with_clause (Binds.all fun us hl => match us, hl with | [_, _], _ => rfl)
  have D_without_clause : DfX l.prog w K mg base 6 "without_clause" ["formula", "clause"] (spChange t_with_clause aC false) := dfx_of (ok_without_clause F_without_clause T TC) (PySem.W.mg_of X Gg a_without_clause) k_without_clause (Binds.all fun us hl => match us, hl with | [_, _], _ => rfl)
  have D_l_draw : Df l.prog w K mg base 1 "_law_draw" ["script"] (spDrawC K) := df_of (ok_l_draw F_l_draw T) (PySem.W.mg_of X Gg a_l_draw) k_l_draw (Binds.all fun us hl => match us, hl with | [_], _ => rfl)
  have D_l_take : Df l.prog w K mg base 1 "_law_take" ["draw", "many"] spTakeC := df_of (ok_l_take F_l_take T) (PySem.W.mg_of X Gg a_l_take) k_l_take (Binds.all fun us hl => match us, hl with | [_, _], _ => rfl)
  have D_l_key : Df l.prog w K mg base 1 "_law_key" ["literal"] spKey := df_of (ok_l_key F_l_key T) (PySem.W.mg_of X Gg a_l_key) k_l_key (Binds.all fun us hl => match us, hl with | [_], _ => rfl)
  have D_l_once : Df l.prog w K mg base 1 "_law_once" ["row"] (spOnce K) := df_of (ok_l_once F_l_once T) (PySem.W.mg_of X Gg a_l_once) k_l_once (Binds.all fun us hl => match us, hl with | [_], _ => rfl)
  have D_l_clause : Df l.prog w K mg base 4 "_law_clause" ["literals"] spLClause2 := df_of (ok_l_clause F_l_clause T D_l_key D_l_once) (PySem.W.mg_of X Gg a_l_clause) k_l_clause (Binds.all fun us hl => match us, hl with | [_], _ => rfl)
  have D_l_clause_key : Df l.prog w K mg base 2 "_law_clause_key" ["clause"] spCKey := df_of (ok_l_clause_key F_l_clause_key T D_l_key) (PySem.W.mg_of X Gg a_l_clause_key) k_l_clause_key (Binds.all fun us hl => match us, hl with | [_], _ => rfl)
  have D_l_residue : Df l.prog w K mg base 4 "_law_residue" ["clauses"] spLResidue := df_of (ok_l_residue F_l_residue T D_l_clause_key D_l_once) (PySem.W.mg_of X Gg a_l_residue) k_l_residue (Binds.all fun us hl => match us, hl with | [_], _ => rfl)
  have D_l_literal : Df l.prog w K mg base 2 "_law_literal" ["draw", "variables"] spLLit := df_of (ok_l_literal F_l_literal T D_l_take) (PySem.W.mg_of X Gg a_l_literal) k_l_literal (Binds.all fun us hl => match us, hl with | [_, _], _ => rfl)
  have D_l_clauses : Df l.prog w K mg base 5 "_law_clauses" ["draw", "variables", "many"] spLClauses := df_of (ok_l_clauses F_l_clauses T D_l_take D_l_literal D_l_clause D_l_residue) (PySem.W.mg_of X Gg a_l_clauses) k_l_clauses (Binds.all fun us hl => match us, hl with | [_, _, _], _ => rfl)
  have D_l_formula : Df l.prog w K mg base 6 "_law_formula" ["draw", "most"] spLFormula2 := df_of (ok_l_formula F_l_formula T D_l_take D_l_clauses) (PySem.W.mg_of X Gg a_l_formula) k_l_formula (Binds.all fun us hl => match us, hl with | [_, _], _ => rfl)
  have D_l_fillings : Df l.prog w K mg base 1 "_law_fillings" ["variables"] spLFill := df_of (ok_l_fillings F_l_fillings T) (PySem.W.mg_of X Gg a_l_fillings) k_l_fillings (Binds.all fun us hl => match us, hl with | [_], _ => rfl)
  have D_l_keeps : Df l.prog w K mg base 1 "_law_keeps" ["residue", "filling"] spLKeeps := df_of (ok_l_keeps F_l_keeps T) (PySem.W.mg_of X Gg a_l_keeps) k_l_keeps (Binds.all fun us hl => match us, hl with | [_, _], _ => rfl)
  have D_l_models : Df l.prog w K mg base 2 "_law_models" ["shown", "hidden", "residue"] spLMod := df_of (ok_l_models F_l_models T D_l_fillings D_l_keeps) (PySem.W.mg_of X Gg a_l_models) k_l_models (Binds.all fun us hl => match us, hl with | [_, _, _], _ => rfl)
  have D_l_changed : Df l.prog w K mg base 5 "_law_changed" ["formula", "clause", "put"] spLChanged := df_of (ok_l_changed F_l_changed T D_l_residue) (PySem.W.mg_of X Gg a_l_changed) k_l_changed (Binds.all fun us hl => match us, hl with | [_, _, _], _ => rfl)
  have D_l_change_right : Df l.prog w K mg base 7 "_law_change_right" ["formula", "clause", "put"] (spLRight t_with_clause) := df_of (ok_l_change_right F_l_change_right T TC D_l_changed D_with_clause D_without_clause) (PySem.W.mg_of X Gg a_l_change_right) k_l_change_right (Binds.all fun us hl => match us, hl with | [_, _, _], _ => rfl)
  have D_l_renamed : Df l.prog w K mg base 5 "_law_renamed" ["residue", "names"] spLRenamed := df_of (ok_l_renamed F_l_renamed T D_l_clause) (PySem.W.mg_of X Gg a_l_renamed) k_l_renamed (Binds.all fun us hl => match us, hl with | [_, _], _ => rfl)
  exact ok_law F_law T D_l_draw D_l_take D_l_formula D_l_clauses D_hide D_l_residue D_l_renamed D_both D_l_models D_l_literal D_l_clause D_l_change_right
end Ky
open PySem PySem.W PyProof.Rows in
set_option maxRecDepth 100000 in
set_option maxHeartbeats 0 in
theorem PySem.Challenge.cw_countsworn_k41_formulas_changed_holds : PySem.Challenge.rw_countsworn_k41_formulas_changed.Holds := by
  w_on; o_law; k_head; (case hw => w_witness2)
  k_fill
  refine Ky.walk_own (l := PySem.Challenge.rw_countsworn_k41_formulas_changed) (n := 63) (k := 8) (x := "script") rfl (by decide) rfl ⟨rfl, by decide, by decide⟩ (fun w h Y => PySem.W.kIn_of Y) ?F
  case F =>
    intro w s0 mg mb fa h G Y hmg KX
    refine' Ky.all_mk KX G hmg ?hR_clause_of ?hR_with_clause ?a_literal_key ?l_literal_key ?b_literal_key ?k_literal_key ?a_clause_key ?l_clause_key ?b_clause_key ?k_clause_key ?a_clause_of ?l_clause_of ?b_clause_of ?k_clause_of ?a_residue_of ?l_residue_of ?b_residue_of ?k_residue_of ?a_place_of ?l_place_of ?b_place_of ?k_place_of ?a_merged ?l_merged ?b_merged ?k_merged ?a_residue_with ?l_residue_with ?b_residue_with ?k_residue_with ?a_hide ?l_hide ?b_hide ?k_hide ?a_new_names ?l_new_names ?b_new_names ?k_new_names ?a_renamed ?l_renamed ?b_renamed ?k_renamed ?a_both ?l_both ?b_both ?k_both ?a_with_clause ?l_with_clause ?b_with_clause ?k_with_clause ?a_without_clause ?l_without_clause ?b_without_clause ?k_without_clause ?a_l_draw ?l_l_draw ?b_l_draw ?k_l_draw ?a_l_take ?l_l_take ?b_l_take ?k_l_take ?a_l_key ?l_l_key ?b_l_key ?k_l_key ?a_l_once ?l_l_once ?b_l_once ?k_l_once ?a_l_clause ?l_l_clause ?b_l_clause ?k_l_clause ?a_l_clause_key ?l_l_clause_key ?b_l_clause_key ?k_l_clause_key ?a_l_residue ?l_l_residue ?b_l_residue ?k_l_residue ?a_l_literal ?l_l_literal ?b_l_literal ?k_l_literal ?a_l_clauses ?l_l_clauses ?b_l_clauses ?k_l_clauses ?a_l_formula ?l_l_formula ?b_l_formula ?k_l_formula ?a_l_fillings ?l_l_fillings ?b_l_fillings ?k_l_fillings ?a_l_keeps ?l_l_keeps ?b_l_keeps ?k_l_keeps ?a_l_models ?l_l_models ?b_l_models ?k_l_models ?a_l_changed ?l_l_changed ?b_l_changed ?k_l_changed ?a_l_change_right ?l_l_change_right ?b_l_change_right ?k_l_change_right ?a_l_renamed ?l_l_renamed ?b_l_renamed ?k_l_renamed ?a_law ?l_law ?b_law ?k_law ?lc_clause_of ?lv_clause_of ?nt_clause_of ?lc_with_clause ?lv_with_clause ?nt_with_clause ?z_int ?z_tuple ?z_abs ?z_any ?z_all ?z_len ?z_list ?z_range ?z_sorted ?z_set ?z_isinstance ?z_max ?z_bool ?g_CE ?x_CE ?kp_CE ?b0_CE ?ty_CE ?i_CE ?s0_CE
    (case hR_clause_of => rfl)
    (case hR_with_clause => rfl)
    (case a_literal_key => k_is)
    (case l_literal_key => k_is)
    (case b_literal_key => k_is)
    (case k_literal_key => k_is)
    (case a_clause_key => k_is)
    (case l_clause_key => k_is)
    (case b_clause_key => k_is)
    (case k_clause_key => k_is)
    (case a_clause_of => k_is)
    (case l_clause_of => k_is)
    (case b_clause_of => k_is)
    (case k_clause_of => k_is)
    (case a_residue_of => k_is)
    (case l_residue_of => k_is)
    (case b_residue_of => k_is)
    (case k_residue_of => k_is)
    (case a_place_of => k_is)
    (case l_place_of => k_is)
    (case b_place_of => k_is)
    (case k_place_of => k_is)
    (case a_merged => k_is)
    (case l_merged => k_is)
    (case b_merged => k_is)
    (case k_merged => k_is)
    (case a_residue_with => k_is)
    (case l_residue_with => k_is)
    (case b_residue_with => k_is)
    (case k_residue_with => k_is)
    (case a_hide => k_is)
    (case l_hide => k_is)
    (case b_hide => k_is)
    (case k_hide => k_is)
    (case a_new_names => k_is)
    (case l_new_names => k_is)
    (case b_new_names => k_is)
    (case k_new_names => k_is)
    (case a_renamed => k_is)
    (case l_renamed => k_is)
    (case b_renamed => k_is)
    (case k_renamed => k_is)
    (case a_both => k_is)
    (case l_both => k_is)
    (case b_both => k_is)
    (case k_both => k_is)
    (case a_with_clause => k_is)
    (case l_with_clause => k_is)
    (case b_with_clause => k_is)
    (case k_with_clause => k_is)
    (case a_without_clause => k_is)
    (case l_without_clause => k_is)
    (case b_without_clause => k_is)
    (case k_without_clause => k_is)
    (case a_l_draw => k_is)
    (case l_l_draw => k_is)
    (case b_l_draw => k_is)
    (case k_l_draw => k_is)
    (case a_l_take => k_is)
    (case l_l_take => k_is)
    (case b_l_take => k_is)
    (case k_l_take => k_is)
    (case a_l_key => k_is)
    (case l_l_key => k_is)
    (case b_l_key => k_is)
    (case k_l_key => k_is)
    (case a_l_once => k_is)
    (case l_l_once => k_is)
    (case b_l_once => k_is)
    (case k_l_once => k_is)
    (case a_l_clause => k_is)
    (case l_l_clause => k_is)
    (case b_l_clause => k_is)
    (case k_l_clause => k_is)
    (case a_l_clause_key => k_is)
    (case l_l_clause_key => k_is)
    (case b_l_clause_key => k_is)
    (case k_l_clause_key => k_is)
    (case a_l_residue => k_is)
    (case l_l_residue => k_is)
    (case b_l_residue => k_is)
    (case k_l_residue => k_is)
    (case a_l_literal => k_is)
    (case l_l_literal => k_is)
    (case b_l_literal => k_is)
    (case k_l_literal => k_is)
    (case a_l_clauses => k_is)
    (case l_l_clauses => k_is)
    (case b_l_clauses => k_is)
    (case k_l_clauses => k_is)
    (case a_l_formula => k_is)
    (case l_l_formula => k_is)
    (case b_l_formula => k_is)
    (case k_l_formula => k_is)
    (case a_l_fillings => k_is)
    (case l_l_fillings => k_is)
    (case b_l_fillings => k_is)
    (case k_l_fillings => k_is)
    (case a_l_keeps => k_is)
    (case l_l_keeps => k_is)
    (case b_l_keeps => k_is)
    (case k_l_keeps => k_is)
    (case a_l_models => k_is)
    (case l_l_models => k_is)
    (case b_l_models => k_is)
    (case k_l_models => k_is)
    (case a_l_changed => k_is)
    (case l_l_changed => k_is)
    (case b_l_changed => k_is)
    (case k_l_changed => k_is)
    (case a_l_change_right => k_is)
    (case l_l_change_right => k_is)
    (case b_l_change_right => k_is)
    (case k_l_change_right => k_is)
    (case a_l_renamed => k_is)
    (case l_l_renamed => k_is)
    (case b_l_renamed => k_is)
    (case k_l_renamed => k_is)
    (case a_law => k_is)
    (case l_law => k_is)
    (case b_law => k_is)
    (case k_law => k_is)
    (case lc_clause_of => k_is)
    (case lv_clause_of => exact rfl)
    (case nt_clause_of => first | exact rfl | decide +kernel)
    (case lc_with_clause => k_is)
    (case lv_with_clause => exact rfl)
    (case nt_with_clause => first | exact rfl | decide +kernel)
    (case z_int => k_is)
    (case z_tuple => k_is)
    (case z_abs => k_is)
    (case z_any => k_is)
    (case z_all => k_is)
    (case z_len => k_is)
    (case z_list => k_is)
    (case z_range => k_is)
    (case z_sorted => k_is)
    (case z_set => k_is)
    (case z_isinstance => k_is)
    (case z_max => k_is)
    (case z_bool => k_is)
    (case g_CE => first | k_is | rfl | k_exc)
    (case x_CE => first | k_is | rfl | k_exc)
    (case kp_CE => first | k_is | rfl | k_exc)
    (case b0_CE => first | k_is | rfl | k_exc)
    (case ty_CE => first | k_is | rfl | k_exc)
    (case i_CE => first | k_is | rfl | k_exc)
    (case s0_CE => first | k_is | rfl | k_exc)

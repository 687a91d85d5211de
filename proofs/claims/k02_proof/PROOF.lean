import PyProof.Rows.All
import Wide.All
import OpenK.AllK
import Wide.FinOn
import HandS.ForMost
import HandS.AnyAll
import HandS.EndTab
import HandS.Style
import HandS.Gcd
import HandS.Wide
import HandS.StrMore
import HandS.Evl
import KE.KNest
import HandS.GenList
import PyProof.GenArm
import KE.SortKeyHeap
import KE.SortData
import KE.DataCmp
import HandS.SortKw
import HandS.DictComp
import HandS.Conv
import HandS.SetBool
import HandS.Strs
import HandS.IsInst
import HandS.More
import HandS.TupLe
import HandS.Deep
import KE.LtData
import HandS.TupAny
import PySem.Challenge.RW_countsworn_k02_faults_of_formulas
set_option Elab.async false
set_option linter.all false
set_option maxRecDepth 100000
set_option maxHeartbeats 4000000
namespace Ky
open PySem PySem.Spec PyProof.Rows L2
/-! ### what stays -/
def NoTab (o : HO) : Prop := ∀ ps, o ≠ HO.tbl ps
theorem noTab_tup {xs : List V} : NoTab (.tup xs) := fun ps e => by cases e
theorem noTab_lst {xs : List V} : NoTab (.lst xs) := fun ps e => by cases e
/-- the cells to draw from, at d -/
def Drw (K : PySem.W.Frag) (H : Hp) (d : Addr) : Prop := ∃ (c : Addr) (ns : List Int) (a u z : Int),
  H d = some (.lst [.ref c, .int a, .int u, .int z]) ∧ H c = some (.lst (ns.map V.int)) ∧ -1 ≤ a
theorem Drw.ne {K : PySem.W.Frag} {H : Hp} {d : Addr} (h : Drw K H d) : ∃ xs, H d = some (.lst xs) := by
  obtain ⟨c, ns, a, u, z, h1, _⟩ := h
  exact ⟨_, h1⟩
structure Kept (H H' : Hp) : Prop where
  keep : ∀ b o, NoTab o → H b = some o → H' b = some o
  tab : ∀ P, GxR.TabG H P → GxR.TabG H' P
  free : ∀ b, H' b = none → H b = none
structure KeptD (K : PySem.W.Frag) (d : Addr) (H H' : Hp) : Prop where
  keep : ∀ b o, b ≠ d → NoTab o → H b = some o → H' b = some o
  drw : Drw K H d → Drw K H' d
  tab : ∀ P, GxR.TabG H P → GxR.TabG H' P
  free : ∀ b, H' b = none → H b = none
theorem Kept.refl (H : Hp) : Kept H H := ⟨fun _ _ _ h => h, fun _ h => h, fun _ h => h⟩
theorem Kept.trans {H H1 H2 : Hp} (a : Kept H H1) (b : Kept H1 H2) : Kept H H2 := ⟨fun c o n h => b.keep c o n (a.keep c o n h), fun P h => b.tab P (a.tab P h), fun c h => a.free c (b.free c h)⟩
theorem KeptD.refl {K : PySem.W.Frag} {d : Addr} (H : Hp) : KeptD K d H H := ⟨fun _ _ _ _ h => h, fun h => h, fun _ h => h, fun _ h => h⟩
theorem KeptD.trans {K : PySem.W.Frag} {d : Addr} {H H1 H2 : Hp} (a : KeptD K d H H1) (b : KeptD K d H1 H2) : KeptD K d H H2 :=
  ⟨fun c o n m h => b.keep c o n m (a.keep c o n m h), fun h => b.drw (a.drw h), fun P h => b.tab P (a.tab P h), fun c h => a.free c (b.free c h)⟩
theorem Kept.toD {K : PySem.W.Frag} {d : Addr} {H H' : Hp} (a : Kept H H') : KeptD K d H H' := ⟨fun b o _ n h => a.keep b o n h, fun h => by
  obtain ⟨c, ns, i, u, z, h1, h2, h3⟩ := h
  exact ⟨c, ns, i, u, z, a.keep _ _ noTab_lst h1, a.keep _ _ noTab_lst h2, h3⟩, a.tab, a.free⟩
theorem upd_free {H : Hp} {p b : Addr} {o : HO} (h : upd H p o b = none) : H b = none ∧ b ≠ p := by
  by_cases z : b = p
  · rw [z, upd_same] at h
    cases h
  · rw [upd_ne z] at h
    exact ⟨h, z⟩
theorem Kept.new {H : Hp} {p : Addr} {o : HO} (h : H p = none) : Kept H (upd H p o) := ⟨fun a u _ e => by
  rw [upd_ne (ne_of_none e h)]
  exact e, fun P hP => by
  obtain ⟨ps, h1, h2⟩ := hP
  exact ⟨ps, by rw [upd_ne (ne_of_none h1 h)]; exact h1, h2⟩, fun b hb => (upd_free hb).1⟩
theorem Kept.mut {H H' : Hp} {p : Addr} {o : HO} (e : Kept H H') (h : H p = none) : Kept H (upd H' p o) := ⟨fun a u n ha => by
  rw [upd_ne (ne_of_none ha h)]
  exact e.keep a u n ha, fun P hP => by
  obtain ⟨ps, h1, h2⟩ := hP
  have nP := ne_of_none h1 h
  obtain ⟨qs, g1, g2⟩ := e.tab P ⟨ps, h1, h2⟩
  exact ⟨qs, by rw [upd_ne nP]; exact g1, g2⟩, fun b hb => e.free b (upd_free hb).1⟩
theorem Kept.tabbed {H H' : Hp} {P : Addr} (hP : GxR.TabG H P) (e : GxR.Tabbed P H H') : Kept H H' := ⟨fun b o n h => by
  have nP : b ≠ P := fun z => by
    obtain ⟨ps, h1, _⟩ := hP
    rw [z, h1] at h
    exact n ps (Option.some.inj h).symm
  rw [e.2 b nP]
  exact h, fun P' h' => by
  by_cases z : P' = P
  · rw [z]
    exact e.1
  · obtain ⟨ps, h1, h2⟩ := h'
    exact ⟨ps, by rw [e.2 P' z]; exact h1, h2⟩, fun b h => by
  by_cases z : b = P
  · obtain ⟨ps, h1, _⟩ := e.1
    rw [z, h1] at h
    cases h
  · rw [e.2 b z] at h
    exact h⟩
theorem Kept.sq {K : PySem.W.Frag} {H H' : Hp} {a : Addr} {xs : List V} (e : Kept H H') (h : SqL K H a xs) : SqL K H' a xs := by
  rcases h with (h | ⟨o, h⟩) | h
  · exact .inl (.inl (e.keep _ _ noTab_lst h))
  · exact .inl (.inr ⟨o, e.keep _ _ (fun ps z => by cases z) h⟩)
  · exact .inr h
theorem Kept.tup {H H' : Hp} {p : Addr} {xs : List V} (e : Kept H H') (h : H p = some (.tup xs)) : H' p = some (.tup xs) := e.keep _ _ noTab_tup h
theorem Kept.lst {H H' : Hp} {p : Addr} {xs : List V} (e : Kept H H') (h : H p = some (.lst xs)) : H' p = some (.lst xs) := e.keep _ _ noTab_lst h
theorem KeptD.tup {K : PySem.W.Frag} {d : Addr} {H H' : Hp} {p : Addr} {xs : List V} (e : KeptD K d H H') (hd : Drw K H d) (h : H p = some (.tup xs)) : H' p = some (.tup xs) := e.keep _ _ (fun z => by
  obtain ⟨ys, h'⟩ := hd.ne
  rw [z, h'] at h
  cases h) noTab_tup h
theorem KeptD.lst {K : PySem.W.Frag} {d : Addr} {H H' : Hp} {p : Addr} {xs : List V} (e : KeptD K d H H') (hd : p ≠ d) (h : H p = some (.lst xs)) : H' p = some (.lst xs) := e.keep _ _ hd noTab_lst h
/-! ### a def of the module, to be called -/
structure Df (P : Program) (w : World) (K : PySem.W.Frag) (mg : Str → Option Value) (base : Heap) (k : Nat) (x : Str) (ps : List Str) (sp : Sp) : Prop where
  ex : ∃ f fd, FnOk P w K mg base CX0 k f fd ps sp ∧ mg x = some (.ref f) ∧ PySem.W.keepIn K (.ref f) = true ∧ Binds K fd ps []
section
variable {X : Cx} {k : Nat} {ps : List Str} {sp : Sp} {x : Str} {p pos : Pos} {e : Expr} {es : List Expr} {t : TA}
theorem pe_df (D : Df X.prog X.w X.K X.mg X.base k x ps sp) (hr : Room k X.A) (hg : Gl X x) (ha : PA X (e :: es) t) (hdb : (x == ("__debug__" : Str)) = false := by decide)
    (he : starEach (e :: es) X.env = (false, eval e X.env) :: starEach es X.env := by rfl) (hpl : (backTo pos (starEach es X.env)).any (·.1) = false := by rfl) :
    PE X (.Call (.Name x p) (e :: es) [] pos) (tCall sp [] E0 t) := by
  obtain ⟨f, fd, F, hm, hk, hb⟩ := D.ex
  exact pe_call F hr hg hm hk hb .nil pass0 ha hdb he hpl
end
/-! ### a def whose code object is told -/
structure FunC (K : PySem.W.Frag) (x : Str) (st : Stmt) (f : Addr) (fd : FuncData) (c : Addr) : Prop where
  ex : ∃ (oc : Value) (od : Option Addr) (kV doc pm : Value) (an : Option Addr) (ct : Value) (osl : Array (Option Value)),
    fd = PySem.W.fnOf x x (defArgs st) (defBody st) (defScope st) .none kV doc pm an (.ref c) ct ∧ K.lookup f = some ⟨oc, od, .func fd, osl⟩ ∧ PySem.W.codeIn K (.ref c) x = true
theorem FunC.ok {P : Program} {w : World} {K : PySem.W.Frag} {mg : Str → Option Value} {base : Heap} {x : Str} {st : Stmt} {f c : Addr} {fd : FuncData} {N ps : List Str} {k : Nat} {sp : Sp} (F : FunC K x st f fd c) (S : FnScope N ps (defScope st)) (len : ∀ vs H Q E, sp vs H Q E → vs.length = ps.length)
    (body : ∀ (A : Around) (outer : List Env) (s : Shared) (H : Hp) (vs : List V) (Q : VK) (E : XK), Room k (A.deeper (envOfC x (defScope st) s.heap.objs.size f (.ref c))) → sp vs H Q E →
      ∃ t, PSs (cxOf CX0 P w K mg base N x (defScope st) f (.ref c) A outer s H E).nox (defBody st) t ∧ t { nx := fun _ H' => Q .non H', rt := Q } (start N vs) H) : FnOk P w K mg base CX0 (k + 1) f fd ps sp := by
  obtain ⟨oc, od, kV, doc, pm, an, ct, osl, e, lk, hcd⟩ := F.ex
  subst e
  refine fn_of lk hcd S len fun A outer s H vs Q E hr hsp => ?_
  obtain ⟨t, h, q⟩ := body A outer s H vs Q E hr hsp
  exact ⟨t, h.nox, q⟩
/-- one sign among those of a written text, as the test of a generator expression -/
theorem elt_in {prog : Program} {w : World} {scope : Scope} {x k : Str} {j : Nat} {p1 p2 p3 : Pos} (hk : scope.kind = .function) (hl : scope.names.lookup x = some .local) (hd : (x == ("__debug__" : Str)) = false := by decide) :
    GxR.EltP prog w scope x (.Compare (.Name x p1) [.In] [.Constant (.str k) j p2] p3) (fun c => decide (c ∈ k.cps.toList)) := by
  intro cenv A' E' c t s2 m2 hs hn hm
  refine wpAny_Compare1 ?_
  refine wpAny_Name (wpAny_loadName_local (by rw [hs]; exact hk) (show cenv.scope.names.lookup x = some .local by rw [hs]; exact hl) hn hm ?_) hd
  refine Calls.Constant_str ?_
  exact PyProof.Rows.in_str ⟨congrArg Value.bool (PySem.StrLaws.found_one k c), GxR.keeps_tok _ _⟩
/-! ### // by any divisor but 0 -/
section
variable {X : Cx}
def CDivA (_ j : Int) : Prop := j ≠ 0 ∧ j.natAbs.log2 < 9000
theorem op_fdivA : OpR X (binaryOp .FloorDiv) (rI CDivA fun i j => .int (i.fdiv j)) := opI fun i j _ _ _ _ _ hc q =>
  floordiv_int hc.1 q (.inl (PyProof.noPylong_of_log2 hc.2))
theorem divA {i j : Int} {b : Nat} (h : j ≠ 0) (hb : j.natAbs < 2 ^ b) (h0 : 0 < b) (h9 : b ≤ 9000) : CDivA i j := ⟨h, Nat.lt_of_lt_of_le (PySem.Flt.log2_lt_of h0 hb) h9⟩
end
/-! ### one step of a reading -/
section
variable {σ σ' : L2.St} {H : Hp} {Q : VK} {D : Ends} {ta tb te : TE} {t u c : TT} {tq : TA} {s1 s2 : TS} {K : PySem.W.Frag} {v x y : V} {i : Nat} {G : TG}
theorem w_seq (q : s1 { nx := s2 D, rt := D.rt, bk := D.bk, ct := D.ct } σ H) : tSeq s1 s2 D σ H := q
theorem w_next (q : D.nx σ H) : tNext D σ H := q
theorem w_asg (q : te σ H fun v H1 => D.nx (σ.set i (some v)) H1) : tAsg te (gName i) D σ H := q
theorem w_asgG (q : te σ H fun v H1 => G v σ H1 D.nx) : tAsg te G D σ H := q
theorem w_drop (q : te σ H fun _ H1 => D.nx σ H1) : tDrop te D σ H := q
theorem w_ret (q : te σ H D.rt) : tRet te D σ H := q
theorem w_ifs (q : c σ H fun b H1 => if b = true then s1 D σ H1 else s2 D σ H1) : tIfS c s1 s2 D σ H := q
theorem w_var (h : σ[i]? = some (some v)) (q : Q v H) : tVar i σ H Q := ⟨v, h, q⟩
theorem w_c (q : Q v H) : tC v σ H Q := q
theorem w_op {r : R2} (q : ta σ H fun x H1 => tb σ H1 fun y H2 => r x y H2 Q) : tOp r ta tb σ H Q := q
theorem w_un {r : V → Hp → VK → Prop} (q : ta σ H fun x H1 => r x H1 Q) : tUn r ta σ H Q := q
theorem w_I0 {g : Int → Int → V} {i j : Int} (q : Q (g i j) H) : rI0 g (.int i) (.int j) H Q := ⟨i, j, rfl, rfl, q⟩
theorem w_I {C : Int → Int → Prop} {g : Int → Int → V} {i j : Int} (h : C i j) (q : Q (g i j) H) : rI C g (.int i) (.int j) H Q := ⟨i, j, rfl, rfl, h, q⟩
theorem w_U {g : Int → V} {i : Int} (q : Q (g i) H) : rU g (.int i) H Q := ⟨i, rfl, q⟩
theorem w_nil {R : List V → Hp → Prop} (q : R [] H) : tNil σ H R := q
theorem w_cons {R : List V → Hp → Prop} (q : te σ H fun x H1 => tq σ H1 fun xs H2 => R (x :: xs) H2) : tCons te tq σ H R := q
theorem w_call {sp : Sp} {dvs : List V} {E : XK} (q : tq σ H fun vs H1 => sp (vs ++ dvs) H1 Q E) : tCall sp dvs E tq σ H Q := q
theorem w_cb {r : List V → Hp → VK → Prop} (q : tq σ H fun vs H1 => r vs H1 Q) : tCB r tq σ H Q := q
theorem w_test {R : Bool → Hp → Prop} (q : te σ H fun x H' => ∃ k, x = .bl k ∧ R k H') : tTest te σ H R := q
theorem w_B {R : Bool → Hp → Prop} (q : te σ H fun x H' => ∃ k, x = .bl k ∧ R k H') : tB te σ H R := q
theorem w_bl {R : Bool → Prop} {b : Bool} (q : R b) : ∃ k, V.bl b = .bl k ∧ R k := ⟨b, rfl, q⟩
theorem w_and {R : Bool → Hp → Prop} (q : t σ H fun b H1 => if b = true then u σ H1 R else R false H1) : tAnd t u σ H R := q
theorem w_or {R : Bool → Hp → Prop} (q : t σ H fun b H1 => if b = true then R true H1 else u σ H1 R) : tOr t u σ H R := q
theorem w_not {R : Bool → Hp → Prop} (q : t σ H fun b H1 => R (!b) H1) : tNot t σ H R := q
theorem w_ife (q : t σ H fun b H1 => if b = true then ta σ H1 Q else tb σ H1 Q) : tIf t ta tb σ H Q := q
theorem w_ixT {p : Addr} {xs : List V} {i : Int} (h : H p = some (.tup xs)) (ha : atI xs i = some v) (q : Q v H) : rIxT K (.ref p) (.int i) H Q := ⟨p, xs, i, v, rfl, rfl, SqT.of h, ha, q⟩
theorem w_ixL {p : Addr} {xs : List V} {i : Int} (h : H p = some (.lst xs)) (ha : atI xs i = some v) (q : Q v H) : rIxL K (.ref p) (.int i) H Q := ⟨p, xs, i, v, rfl, rfl, SqL.of h, ha, q⟩
theorem w_eq (h : scal x y = true) (q : Q (.bl (decide (x = y))) H) : rEq x y H Q := ⟨h, q⟩
theorem w_ne (h : scal x y = true) (q : Q (.bl (!decide (x = y))) H) : rNe x y H Q := ⟨h, q⟩
theorem w_tup (q : tq σ H fun xs H1 => xs.length ≤ sizeLine ∧ ∀ p, H1 p = none → Q (.ref p) (upd H1 p (.tup xs))) : tTup tq σ H Q := q
theorem w_lst (q : tq σ H fun xs H1 => xs.length ≤ sizeLine ∧ ∀ p, H1 p = none → Q (.ref p) (upd H1 p (.lst xs))) : tLst tq σ H Q := q
theorem w_bm {T : String} {r : V → List V → Hp → VK → Prop} (q : te σ H fun x H1 => tyV K T x H1 ∧ tq σ H1 fun xs H2 => r x xs H2 Q) : tBM K T r te tq σ H Q := q
theorem w_m1 {r : V → List V → Hp → VK → Prop} (q : ta σ H fun x H1 => (∃ a, x = .str a) ∧ tb σ H1 fun y H2 => r x [y] H2 Q) : tM1 r ta tb σ H Q := q
theorem w_tyL {A : Prop} {l : Addr} {xs : List V} (h : H l = some (.lst xs)) (q : A) : tyV K "list" (.ref l) H ∧ A := ⟨.inl ⟨rfl, _, SqL.of h⟩, q⟩
theorem w_tyS {A : Prop} {z : Str} (q : A) : tyV K "str" (.str z) H ∧ A := ⟨rfl, q⟩
theorem w_isS {A : Prop} {z : Str} (q : A) : (∃ a, V.str z = .str a) ∧ A := ⟨⟨_, rfl⟩, q⟩
theorem w_app {l : Addr} {xs : List V} (h : H l = some (.lst xs)) (hl : xs.length < sizeLine) (q : Q .non (upd H l (.lst (xs ++ [y])))) : rAppend (.ref l) [y] H Q := ⟨l, xs, y, rfl, rfl, h, hl, q⟩
theorem w_gn {R : L2.St → Hp → Prop} (q : R (σ.set i (some v)) H) : gName i v σ H R := q
theorem w_gsub {ts : TSet} {R : L2.St → Hp → Prop} (q : ta σ H fun o H1 => tb σ H1 fun i H2 => ts o i v H2 fun H3 => R σ H3) : gSub ta tb ts v σ H R := q
theorem w_setL {p : Addr} {xs : List V} {k : Int} {j : Nat} {R : Hp → Prop} (h : H p = some (.lst xs)) (hj : ixN xs.length k = some j) (q : R (upd H p (.lst (xs.set j v)))) : rSetL (.ref p) (.int k) v H R := ⟨p, xs, k, j, rfl, rfl, h, hj, q⟩
theorem w_yes {R : Bool → Hp → Prop} (q : R true H) : tYes σ H R := q
theorem w_sl {r : V → Option Int → Option Int → Hp → VK → Prop} {tl th : TO} (q : te σ H fun x H1 => tl σ H1 fun l H2 => th σ H2 fun u H3 => r x l u H3 Q) : tSl r te tl th σ H Q := q
theorem w_part {R : Option Int → Hp → Prop} (q : te σ H fun x H1 => ∃ i, x = .int i ∧ R (some i) H1) : tPart te σ H R := q
theorem w_nop {R : Option Int → Hp → Prop} (q : R none H) : tNoPart σ H R := q
theorem w_isI {R : Int → Prop} {n : Int} (q : R n) : ∃ i, V.int n = .int i ∧ R i := ⟨n, rfl, q⟩
theorem if_t {A B : Prop} {b : Bool} (h : b = true) (q : A) : if b = true then A else B := by rw [if_pos h]; exact q
theorem if_f {A B : Prop} {b : Bool} (h : b = false) (q : B) : if b = true then A else B := by rw [h]; exact iteF q
end
local macro_rules | `(tactic| walk_at "rd") => `(tactic| repeat (first
  | with_reducible refine w_seq ?_
  | with_reducible refine w_asg ?_
  | with_reducible refine w_ret ?_
  | with_reducible refine w_drop ?_
  | with_reducible refine w_ifs ?_
  | ((with_reducible refine' w_var ?hh ?_); (case hh => exact rfl))
  | with_reducible refine w_c ?_
  | with_reducible refine w_op ?_
  | with_reducible refine w_un ?_
  | with_reducible refine w_I0 ?_
  | with_reducible refine w_U ?_
  | with_reducible refine w_nil ?_
  | with_reducible refine w_cons ?_
  | with_reducible refine w_call ?_
  | with_reducible refine w_cb ?_
  | with_reducible refine w_test ?_
  | with_reducible refine w_B ?_
  | with_reducible refine w_bl ?_
  | with_reducible refine w_and ?_
  | with_reducible refine w_or ?_
  | with_reducible refine w_not ?_
  | with_reducible refine w_ife ?_
  | with_reducible refine w_tup ?_
  | with_reducible refine w_lst ?_
  | with_reducible refine w_next ?_
  | with_reducible refine w_bm ?_
  | with_reducible refine w_sl ?_
  | with_reducible refine w_part ?_
  | with_reducible refine w_nop ?_
  | with_reducible refine w_isI ?_
  | with_reducible refine w_yes ?_
  | with_reducible refine w_gn ?_
  | with_reducible refine w_gsub ?_
  | ((with_reducible refine' w_setL ?h1 ?h2 ?_); (case h1 => first | assumption | exact upd_same); (case h2 => exact rfl))
  | with_reducible refine w_asgG ?_
  | with_reducible refine w_m1 ?_
  | with_reducible refine w_isS ?_
  | with_reducible refine w_tyS ?_
  | ((with_reducible refine' w_tyL ?h1 ?_); (case h1 => first | assumption | exact upd_same))
  | ((with_reducible refine' w_ixT ?h1 ?h2 ?_); (case h1 => first | assumption | exact upd_same); (case h2 => exact rfl))
  | ((with_reducible refine' w_ixL ?h1 ?h2 ?_); (case h1 => first | assumption | exact upd_same); (case h2 => exact rfl))
  | ((with_reducible refine w_eq ?h1 ?_); (case h1 => exact rfl))
  | ((with_reducible refine w_ne ?h1 ?_); (case h1 => exact rfl))
  | dsimp only [List.set_cons_zero, List.set_cons_succ, List.append_nil, List.cons_append, List.nil_append, cxOf]))
/-! ### the law's own draws -/
/-- only the list at d has changed, and it is still cells, a place, a rest, a mixed row -/
def TakeSt (H : Hp) (c d : Addr) (H' : Hp) : Prop := (∀ b, b ≠ d → H' b = H b) ∧ ∃ a u z : Int, H' d = some (.lst [.ref c, .int a, .int u, .int z]) ∧ -1 ≤ a
theorem TakeSt.upd {H H' : Hp} {c d : Addr} {a u z : Int} (h : TakeSt H c d H') (ha : -1 ≤ a) : TakeSt H c d (L2.upd H' d (.lst [.ref c, .int a, .int u, .int z])) :=
  ⟨fun b hb => by rw [upd_ne hb]; exact h.1 b hb, a, u, z, upd_same, ha⟩
theorem TakeSt.kept {K : PySem.W.Frag} {H H' : Hp} {c d : Addr} {ns : List Int} {xs : List V} (h : TakeSt H c d H') (hd : H d = some (.lst xs)) (hc : H c = some (.lst (ns.map V.int))) (ne : c ≠ d) : KeptD K d H H' := by
  obtain ⟨h1, a, u, z, h2, h3⟩ := h
  refine ⟨fun b o hb _ q => by rw [h1 b hb]; exact q, fun _ => ⟨c, ns, a, u, z, h2, by rw [h1 c ne]; exact hc, h3⟩, fun P hP => ?_, fun b q => ?_⟩
  · obtain ⟨ps, p1, p2⟩ := hP
    have : P ≠ d := fun e => by
      rw [e, hd] at p1
      cases p1
    exact ⟨ps, by rw [h1 P this]; exact p1, p2⟩
  · by_cases e : b = d
    · rw [e, h2] at q
      cases q
    · rw [h1 b e] at q
      exact q
def spTake (K : PySem.W.Frag) : Sp := fun vs H Q _ => ∃ (d : Addr) (m : Int), vs = [.ref d, .int m] ∧ 0 < m ∧ m < 2 ^ 62 ∧ Drw K H d ∧ ∀ (r : Int) H', 0 ≤ r → r < m → KeptD K d H H' → Q (.int r) H'
def spDraw (K : PySem.W.Frag) : Sp := fun vs H Q _ => ∃ (a : Addr) (ns : List Int), vs = [.ref a] ∧ SqL K H a (ns.map V.int) ∧ ns.length ≤ 63 ∧ ∀ d H', H d = none → Kept H H' → Drw K H' d → Q (.ref d) H'
theorem pick_int {ns : List Int} {r : Int} (h0 : 0 ≤ r) (h1 : r < (ns.length : Int)) : ∃ v ∈ ns, atI (ns.map V.int) r = some (V.int v) := by
  obtain ⟨j, rfl⟩ : ∃ j : Nat, r = (j : Int) := ⟨r.toNat, by omega⟩
  have hj : j < ns.length := by omega
  refine ⟨ns[j], List.getElem_mem hj, atI_nat ?_⟩
  rw [List.getElem?_map, List.getElem?_eq_getElem hj]
  rfl
theorem map_int {ns : List Int} {i : Nat} {y : V} (h : (ns.map V.int)[i]? = some y) : ∃ u, y = V.int u ∧ ns[i]? = some u := by
  rw [List.getElem?_map] at h
  cases e : ns[i]? with
  | none =>
    rw [e] at h
    cases h
  | some u =>
    rw [e] at h
    exact ⟨u, (Option.some.inj h).symm, rfl⟩
/-! ### fractions -/
def frc (n d : Int) : Int × Int := (n.fdiv (if d < 0 then -((Nat.gcd n.natAbs d.natAbs : Nat) : Int) else ((Nat.gcd n.natAbs d.natAbs : Nat) : Int)),
  d.fdiv (if d < 0 then -((Nat.gcd n.natAbs d.natAbs : Nat) : Int) else ((Nat.gcd n.natAbs d.natAbs : Nat) : Int)))
def FrAt (H : Hp) (p : Addr) (a : Int × Int) : Prop := H p = some (.tup [.int a.1, .int a.2])
def Small (n : Nat) (a : Int × Int) : Prop := a.1.natAbs < 2 ^ n ∧ a.2.natAbs < 2 ^ n
def spFrac : Sp := fun vs H Q _ => ∃ n d : Int, vs = [.int n, .int d] ∧ d ≠ 0 ∧ n.natAbs < 2 ^ 1000 ∧ d.natAbs < 2 ^ 1000 ∧
  ∀ p H', H p = none → Kept H H' → FrAt H' p (frc n d) → Q (.ref p) H'
end Ky

namespace Ky
open PySem PySem.Spec PyProof.Rows L2
/-! ### a generator expression's frame -/
abbrev gxEnv (X : Cx) (s : Shared) (scope : Scope) (code : Value) : Env := genEnv scope (cloFrom X.env.cells scope.names []) s.heap.objs.size code builtinsNs X.env
abbrev gx (X : Cx) (A' : Around) (s : Shared) (H : Hp) (scope : Scope) (code : Value) (fp : List Addr) : Cx :=
  { X with A := A', s_0 := s, H_0 := H, env := gxEnv X s scope code, outer := X.stack, stack := gxEnv X s scope code :: X.stack, ex := fp, fn := fun _ => false, pn := [], xe := fun _ _ => False }
theorem over_gen {A : Around} {elt : Expr} {cs : List Comprehension} {sc : Scope} {pos : Pos} {it acc : Value} {env : Env} : A.over (.compLoop (.GeneratorExp elt cs sc pos) 0 it acc env) [] = A.deeper env := by
  first
    | rfl
    | (obtain ⟨hd, d, fr, gs, u⟩ := A; simp [Around.over, Around.deeper, marksOver, frameCount, unitsOf, envsOf, guardsOf, pushEnvs, pushGuards, Code.envs, Code.env?, Code.isFrame, Code.guards, Code.isGuard, Code.weight, Code.frames, Code.isCreation, Code.isCaller, Code.cUnits])
theorem over_gen0 {A : Around} {elt : Expr} {cs : List Comprehension} {sc : Scope} {pos : Pos} {it acc : Value} {env : Env} : A.over (.compStart (.GeneratorExp elt cs sc pos) 0 it acc env) [] = A.deeper env := by
  first
    | rfl
    | (obtain ⟨hd, d, fr, gs, u⟩ := A; simp [Around.over, Around.deeper, marksOver, frameCount, unitsOf, envsOf, guardsOf, pushEnvs, pushGuards, Code.envs, Code.env?, Code.isFrame, Code.guards, Code.isGuard, Code.weight, Code.frames, Code.isCreation, Code.isCaller, Code.cUnits])
section
variable {X : Cx} {pins : List (Addr × Obj)} {σ : L2.St} {H : Hp} {s : Shared}
theorem gx_start {A' : Around} {scope : Scope} {code : Value} {own : List (Str × Nat)} {fp : List Addr} {h' : Heap} {m : Str → Option Value} {g' : Array GenState} {t' : Nat} (I : Inv X pins σ H s) (ok : BlkOk X.N X.env.scope scope own) (hcell : ∀ y ∈ scope.names, y.2 ≠ .cell) (hN : X.N.Nodup)
    (hfp : ∀ b ∈ fp, FpOk X pins H b ∧ b < s.heap.objs.size) (hh : A'.handled = none) (hfr : A'.frames = some (gxEnv X s scope code :: X.stack)) (hn : h'.Ns s.heap.objs.size m) (kp : ∀ b o, s.heap.get? b = some o → h'.get? b = some o) (hg : AllBare g') :
    Inv (gx X A' s H scope code fp) [] (wipe σ (own.map (·.2))) H { s with heap := h', gens := g', toks := t' } := by
  have hfree : ∀ y ∈ scope.names, y.2 = .free → ∃ c, X.env.cells.lookup y.1 = some c := fun y hy e => by
    rcases ok.free y hy e with k | k
    · exact I.ok.has _ (.inl k)
    · exact I.ok.has _ (.inr k)
  have cm : ∀ {y c}, (cloFrom X.env.cells scope.names []).lookup y = some c → X.env.cells.lookup y = some c ∧ c < s.heap.objs.size := fun {y c} e => by
    rcases cloFrom_mem (PySem.mem_of_lookup e) with hm | ⟨h1, rfl⟩
    · cases hm
    · obtain ⟨c, hc⟩ := hfree _ h1 rfl
      rw [hc]
      obtain ⟨w, z⟩ := I.cell _ _ hc
      exact ⟨rfl, z.lt⟩
  have look : ∀ {y}, scope.names.lookup y = some .free → ∃ c, (cloFrom X.env.cells scope.names []).lookup y = some c ∧ X.env.cells.lookup y = some c := fun {y} hl => by
    have hy : (y, NameKind.free) ∈ scope.names := PySem.mem_of_lookup hl
    obtain ⟨c', e'⟩ := mem_lookup (cloFrom_has (cells := X.env.cells) (acc := []) hy)
    exact ⟨c', e', (cm e').1⟩
  have okB : (gx X A' s H scope code fp).Ok := by
    refine ⟨I.ok.mod, ok.kind, I.ok.glob, rfl, Nat.le_refl _, fun y z c e1 e2 => I.ok.inj y z c (cm e1).1 (cm e2).1, fun y hy => ?_, fun y c z e => absurd z Bool.false_ne_true, fun _ => hh, hfr, .inr ⟨rfl, rfl⟩, fun b hb => ⟨Nat.ne_of_lt (hfp b hb).2, fun y c e => (hfp b hb).1.2.2.2.2.1 y c (cm e).1⟩,
      I.bs, Nat.le_trans I.ok.bsz I.sz, fun b o e hb => ?_, fun b hb z => ?_, I.stack, I.stkFree⟩
    · rcases hy with hy | hy
      · exact absurd rfl (hcell _ (PySem.mem_of_lookup (show scope.names.lookup y = some .cell from hy)))
      · obtain ⟨c, h1, _⟩ := look (show scope.names.lookup y = some .free from hy)
        exact ⟨c, h1⟩
    · rcases (hfp b hb).1.2.2.2.1 with z | z
      · exact I.ok.noex b o e z
      · exact absurd (Nat.lt_of_lt_of_le (Heap.lt_size e) (Nat.le_trans I.ok.bsz z)) (Nat.lt_irrefl _)
    · rcases List.mem_cons.mp (I.stkSub b z) with z | z
      · exact (hfp b hb).1.2.1 z
      · exact (hfp b hb).1.2.2.1 z
  refine ⟨okB, rfl, hg, Un.kept kp, ⟨m, hn, fun i y av e1 e2 e3 => ?_⟩, fun y c e => ?_, I.hok.fresh (Nat.le_refl _), fun y c e => I.freeC y c (cm e).1, fun p hp => absurd (show p ∈ ([] : List (Addr × Obj)) ++ [] from hp) (by simp), I.hok.kept kp, by rw [wipe_length]; exact I.len⟩
  · obtain ⟨e2, hne⟩ := wipe_some e2
    have hfr : scope.names.lookup y = some .free := by
      have no : ∀ k', scope.names.lookup y = some k' → ¬ (k' = .local ∨ k' = .cell) := fun k' e hh => by
        rcases ok.own _ (PySem.mem_of_lookup e) hh with e' | e'
        · obtain ⟨p, hp, hpy⟩ := List.mem_map.mp e'
          have e3 := ok.ix p hp
          have : p.1 = y := hpy
          rw [this] at e3
          exact hne (List.mem_map.mpr ⟨p, hp, nodup_ix hN e3 e1⟩)
        · exact e' (List.mem_of_getElem? e1)
      have e3 : Vis scope y := e3
      rcases e3 with e3 | e3 | e3
      · exact absurd (.inl rfl) (no _ e3)
      · exact absurd (.inr rfl) (no _ e3)
      · exact e3
    obtain ⟨m, hn, hl⟩ := I.loc
    have hvis : Vis X.env.scope y := (ok.free _ (PySem.mem_of_lookup hfr) rfl).elim (fun k => .inr (.inl k)) (fun k => .inr (.inr k))
    obtain ⟨w, r, q⟩ := hl i y av e1 e2 hvis
    refine ⟨w, r, .inr ⟨.inr hfr, ?_⟩⟩
    obtain ⟨c, h1, h2⟩ := look hfr
    rcases q with ⟨k, _⟩ | ⟨_, c', e', z⟩
    · have k : X.env.scope.names.lookup y = some .local := k
      rcases ok.free _ (PySem.mem_of_lookup hfr) rfl with k' | k' <;> rw [show X.env.scope.names.lookup y = _ from k'] at k <;> cases k
    · rw [h2] at e'; cases e'
      exact ⟨c, h1, z.keeps kp⟩
  · obtain ⟨w, z⟩ := I.cell y c (cm e).1
    exact ⟨w, z.keeps kp⟩
end
end Ky
namespace Ky
open PySem PySem.Spec PyProof.Rows L2
theorem not_of_ne {b c : Bool} (h : ¬ b = c) : b = !c := by
  cases b <;> cases c <;> first | rfl | exact absurd rfl h
/-- what a generator expression of tests still does: cont: the answer that goes on (all: true, any: false) -/
def Live (X : Cx) (pins : List (Addr × Obj)) (σ : L2.St) (Q : VK) (cont : Bool) (a : Addr) : Nat → Shared → Prop
  | 0, s => ∀ (QQ : Option Value → Shared → Prop) (E : Value → Shared → Prop), (∀ s' H, Inv X pins σ H s' → Q (.bl (!cont)) H → QQ (some (.bool (!cont))) s') → (∀ s' H, Inv X pins σ H s' → Q (.bl cont) H → QQ none s') → wpAny (model X.prog X.w) X.A.in1 (pyNext (.ref a)) QQ E s
  | n + 1, s => ∀ (QQ : Option Value → Shared → Prop) (E : Value → Shared → Prop), (∀ s', Live X pins σ Q cont a n s' → QQ (some (.bool cont)) s') → (∀ s' H, Inv X pins σ H s' → Q (.bl (!cont)) H → QQ (some (.bool (!cont))) s') → (∀ s' H, Inv X pins σ H s' → Q (.bl cont) H → QQ none s') →
      wpAny (model X.prog X.w) X.A.in1 (pyNext (.ref a)) QQ E s
section
variable {X : Cx} {pins : List (Addr × Obj)} {σ : L2.St} {Q : VK} {a : Addr}
theorem live_all {R : Result → Shared → Prop} : ∀ (n : Nat) (s : Shared), Live X pins σ Q true a n s → (∀ s' H b, Inv X pins σ H s' → Q (.bl b) H → R (.ok (.ret (.bool b))) s') → codeAny (model X.prog X.w) X.A (.builtin "all.loop" ⟨[.ref a], []⟩) R s := by
  intro n
  induction n with
  | zero =>
    intro s h hR
    refine codeAny_builtin F.entry_all_loop ?_
    rw [Around.under_plainId F.plain_all_loop _]
    show wpAny _ X.A.in1 (pyNext (.ref a) >>= _) _ _ s
    refine wpAny_bind (h _ _ (fun s' H I q => ?_) fun s' H I q => ?_)
    · refine wpAny_bind (wpAny_holding (wpAny_truthy_bool ?_))
      refine wpAny_bind (wpAny_letGo ?_)
      simp only [Bool.not_true, Bool.false_eq_true, if_false]
      exact wpAny_bind (wpAny_rule (wpAny_pure (hR s' H _ I q)))
    · exact wpAny_bind (wpAny_rule (wpAny_pure (hR s' H _ I q)))
  | succ n ih =>
    intro s h hR
    refine codeAny_builtin F.entry_all_loop ?_
    rw [Around.under_plainId F.plain_all_loop _]
    show wpAny _ X.A.in1 (pyNext (.ref a) >>= _) _ _ s
    refine wpAny_bind (h _ _ (fun s' hl => ?_) (fun s' H I q => ?_) fun s' H I q => ?_)
    · refine wpAny_bind (wpAny_holding (wpAny_truthy_bool ?_))
      refine wpAny_bind (wpAny_letGo ?_)
      simp only [if_true]
      exact wpAny_pure ⟨plainId_quiet F.plain_all_loop _, ih s' hl hR⟩
    · refine wpAny_bind (wpAny_holding (wpAny_truthy_bool ?_))
      refine wpAny_bind (wpAny_letGo ?_)
      simp only [Bool.not_true, Bool.false_eq_true, if_false]
      exact wpAny_bind (wpAny_rule (wpAny_pure (hR s' H _ I q)))
    · exact wpAny_bind (wpAny_rule (wpAny_pure (hR s' H _ I q)))
theorem live_any {R : Result → Shared → Prop} : ∀ (n : Nat) (s : Shared), Live X pins σ Q false a n s → (∀ s' H b, Inv X pins σ H s' → Q (.bl b) H → R (.ok (.ret (.bool b))) s') → codeAny (model X.prog X.w) X.A (.builtin "any.loop" ⟨[.ref a], []⟩) R s := by
  intro n
  induction n with
  | zero =>
    intro s h hR
    refine codeAny_builtin F.entry_any_loop ?_
    rw [Around.under_plainId F.plain_any_loop _]
    show wpAny _ X.A.in1 (pyNext (.ref a) >>= _) _ _ s
    refine wpAny_bind (h _ _ (fun s' H I q => ?_) fun s' H I q => ?_)
    · refine wpAny_bind (wpAny_holding (wpAny_truthy_bool ?_))
      refine wpAny_bind (wpAny_letGo ?_)
      simp only [Bool.not_false, if_true]
      exact wpAny_bind (wpAny_rule (wpAny_pure (hR s' H _ I q)))
    · exact wpAny_bind (wpAny_rule (wpAny_pure (hR s' H _ I q)))
  | succ n ih =>
    intro s h hR
    refine codeAny_builtin F.entry_any_loop ?_
    rw [Around.under_plainId F.plain_any_loop _]
    show wpAny _ X.A.in1 (pyNext (.ref a) >>= _) _ _ s
    refine wpAny_bind (h _ _ (fun s' hl => ?_) (fun s' H I q => ?_) fun s' H I q => ?_)
    · refine wpAny_bind (wpAny_holding (wpAny_truthy_bool ?_))
      refine wpAny_bind (wpAny_letGo ?_)
      simp only [Bool.false_eq_true, if_false]
      exact wpAny_pure ⟨plainId_quiet F.plain_any_loop _, ih s' hl hR⟩
    · refine wpAny_bind (wpAny_holding (wpAny_truthy_bool ?_))
      refine wpAny_bind (wpAny_letGo ?_)
      simp only [Bool.not_false, if_true]
      exact wpAny_bind (wpAny_rule (wpAny_pure (hR s' H _ I q)))
    · exact wpAny_bind (wpAny_rule (wpAny_pure (hR s' H _ I q)))
end
/-! ### one turn after another -/
/-- the state between turns -/
abbrev GAt (G : Cx) (pa : List (Addr × Obj)) (σw : L2.St) (fp : List Addr) (tn : Nat → Heap → Prop) (i : Nat) (H : Hp) (s : Shared) : Prop := Inv G pa σw H s ∧ tn i s.heap ∧ ∀ b ∈ fp, H b = none
/-- it has come to its end -/
def GEnd (G : Cx) (pa : List (Addr × Obj)) (σw : L2.St) (Q : VK) (cont : Bool) : Nat → Shared → Shared → Prop := fun _ _ s1 => ∃ H, Inv G pa σw H s1 ∧ Q (.bl cont) H
/-- a test's answer is handed out -/
def GYld (G : Cx) (pa : List (Addr × Obj)) (σw : L2.St) (fp : List Addr) (tn : Nat → Heap → Prop) (W : Nat → Nat → Hp → Prop) (Q : VK) (cont : Bool) : Protocol := fun n _ v s1 kap =>
  ∃ (b : Bool) (H : Hp), v = .bool b ∧ Inv G pa σw H s1 ∧ ((b = cont ∧ 0 < n ∧ ∀ g', AllBare g' → kap (.send .none) { s1 with gens := g' }) ∨ (b = (!cont) ∧ Q (.bl (!cont)) H))
/-- the turns: what an answer leads to -/
def GTurn (J : It) (g : TG) (te : TE) (σw : L2.St) (vs : List Nat) (Q : VK) (cont : Bool) (W : Nat → Nat → Hp → Prop) : Prop := ∀ i m H, W i m H →
  (J.stop i H ∧ Q (.bl cont) H) ∨ (J.go i H ∧ ∀ x H', J.yld i H x H' → g x σw H' fun σ2 H2 => wipe σ2 vs = σw ∧ te σ2 H2 fun y H3 => ∃ b, y = .bl b ∧ if b = cont then ∃ m', m' < m ∧ W (i + 1) m' H3 else Q (.bl (!cont)) H3)
section
variable {G : Cx} {pa : List (Addr × Obj)} {σ : L2.St} {vs : List Nat} {fp : List Addr} {it : Addr} {tn : Nat → Heap → Prop} {J : It} {tg elt iter : Expr} {g : TG} {te : TE} {scope : Scope} {gpos : Pos} {Q : VK} {cont : Bool} {W : Nat → Nat → Hp → Prop} {A : Around}
theorem seg_turns (hA : G.A = A.deeper G.env) (hc : G.calm = true) (hco : G.env.scope.isCoroutine = false) (hxe : G.xe = fun _ _ => False) (T : Turn G.prog G.w G.K tg J fp it tn) (pg : PG G tg g) (pe : PE G elt te) (hpn : G.pn = []) (hex : G.ex = fp)
    (hpa : ∀ p ∈ pa, ∀ b ∈ fp, p.1 ≠ b) (turn : GTurn J g te (wipe σ vs) vs Q cont W) :
    ∀ (n i m : Nat) (s₀ s : Shared) (H : Hp), m < n → GAt G pa (wipe σ vs) fp tn i H s → W i m H →
      Seg (model G.prog G.w) A (fun n s₀ r s₁ => r = .ok .next ∧ GEnd G pa (wipe σ vs) Q cont n s₀ s₁) (GYld G pa (wipe σ vs) fp tn W Q cont) n s₀
        (.compLoop (.GeneratorExp elt [⟨tg, iter, [], 0⟩] scope gpos) 0 (.ref it) .none G.env)
        ((model G.prog G.w).den (.compLoop (.GeneratorExp elt [⟨tg, iter, [], 0⟩] scope gpos) 0 (.ref it) .none G.env)) [] s := by
  have hov : A.over (.compLoop (.GeneratorExp elt [⟨tg, iter, [], 0⟩] scope gpos) 0 (.ref it) .none G.env) [] = G.A := by rw [over_gen, hA]
  have stat : ∀ {σ' : L2.St} {H' : Hp} {s' : Shared}, Inv G pa σ' H' s' → (∀ b ∈ fp, H' b = none) → ∀ b ∈ fp, FpOk G pa H' b := fun {σ' H' s'} I' hn b hb =>
    ⟨hn b hb, (I'.ok.exf b (by rw [hex]; exact hb)).1, I'.ok.exfs b (by rw [hex]; exact hb), .inl (by rw [hex]; exact hb), fun x c e => (I'.ok.exf b (by rw [hex]; exact hb)).2 x c e, fun p hp => by
      rw [hpn] at hp
      exact hpa p (by simpa using hp) b hb⟩
  intro n
  induction n with
  | zero => intro i m s₀ s H hm; exact absurd hm (Nat.not_lt_zero _)
  | succ n ih =>
    intro i m s₀ s H hm ⟨I, st, fr⟩ w
    show Seg _ A _ _ _ s₀ _ ((compTurn (.GeneratorExp elt [⟨tg, iter, [], 0⟩] scope gpos) 0 (.ref it) .none G.env).onRaise (leaving G.env)) [] s
    rw [compTurn_gen, Sem.onRaise_eq_wrap]
    refine seg_bind_wrap (wpAny_standAt ?_)
    refine seg_bind_wrap ?_
    rw [hov]
    rcases turn i m H w with ⟨stop, q⟩ | ⟨go, step⟩
    · refine thnF (T.done G rfl rfl rfl hc i pa s _ H (fun _ _ => False) I (stat I fr) st stop) fun r s1 ⟨hr, I1⟩ => ?_
      subst hr
      exact seg_end (.ok .next) ⟨rfl, H, I1, q⟩
    · refine thnF (T.item G rfl rfl rfl hc i pa s _ H (fun _ _ => False) I (stat I fr) st go) fun r s1 ⟨u, hr, h1⟩ => ?_
      subst hr
      refine seg_bind_wrap ?_
      rw [hov]
      refine thnF h1 fun _ s2 ⟨x, H2, I2, r2, y2, st2, n2⟩ => ?_
      have I2' := I2.pinned (stat I2 n2) (T.obj _ _ st2)
      refine seg_bind_wrap ?_
      rw [hov]
      have hpr := pg.run _ s2 _ H2 x u _ I2' r2 (step x H2 y2)
      rw [hxe] at hpr
      refine thnF hpr fun _ s3 ⟨σ3, H3, I3, hw3, q3⟩ => ?_
      refine seg_bind_wrap ?_
      simp only [List.forIn_nil]
      refine wpAny_pure ?_
      simp only [if_true]
      have hy : ∀ v, yieldOut G.env v = yieldValue v := fun v => by simp only [yieldOut, hco, Bool.false_eq_true, if_false]
      simp only [hy]
      rw [Sem.bind_eq_wrap', Sem.bind_eq_wrap', Sem.wrap_wrap, Sem.wrap_wrap]
      refine seg_wrap ?_
      rw [hov]
      have her := pe.run _ s3 σ3 H3 _ I3 q3
      rw [hxe] at her
      refine thnF her fun v s4 ⟨y, H4, I4, r4, b, hb, q4⟩ => ?_
      subst hb
      obtain rfl : v = Value.bool b := r4
      have pin' : ∀ c ∈ fp, ∀ o, s2.heap.get? c = some o → s4.heap.get? c = some o ∧ H4 c = none := fun c hc' o e =>
        let z := I4.pin (c, o) (List.mem_append_right _ (List.mem_append_right _ (mem_pinsAt hc' e)))
        ⟨z.1, z.2.1⟩
      have I5 : Inv G pa (wipe σ vs) H4 s4 := I4.unpinned.weak (by rw [← hw3, wipe_length]) fun j v e => by
        rw [← hw3] at e
        exact (wipe_some e).1
      have st4 : tn (i + 1) s4.heap := T.keep _ _ _ st2 fun c hc' o e => (pin' c hc' o e).1
      have fr4 : ∀ c ∈ fp, H4 c = none := fun c hc' => by
        obtain ⟨o, e, _⟩ := T.obj _ _ st2 c hc'
        exact (pin' c hc' o e).2
      refine seg_at (seg_yield rfl rfl rfl ⟨b, H4, rfl, I5, ?_⟩)
      by_cases hbc : b = cont
      · rw [if_pos hbc] at q4
        obtain ⟨m', hm', w'⟩ := q4
        refine .inl ⟨hbc, by omega, fun g' hg' => ?_⟩
        refine seg_again rfl (ih (i + 1) m' _ _ H4 (by omega) ⟨?_, st4, fr4⟩ w')
        exact ⟨I5.ok, I5.os, hg', I5.base, I5.loc, I5.cell, I5.free, I5.freeC, I5.pin, I5.hok, I5.len⟩
      · rw [if_neg hbc] at q4
        exact .inr ⟨not_of_ne hbc, q4⟩
end
end Ky
namespace Ky
open PySem PySem.Spec PyProof.Rows L2
section
variable {G : Cx} {pa : List (Addr × Obj)} {σ : L2.St} {vs : List Nat} {fp : List Addr} {it : Addr} {tn : Nat → Heap → Prop} {J : It} {tg elt iter : Expr} {g : TG} {te : TE} {scope : Scope} {gpos : Pos} {Q : VK} {cont : Bool} {W : Nat → Nat → Hp → Prop} {A : Around}
theorem seg_begin (hA : G.A = A.deeper G.env) (hc : G.calm = true) (hco : G.env.scope.isCoroutine = false) (hxe : G.xe = fun _ _ => False) (T : Turn G.prog G.w G.K tg J fp it tn) (pg : PG G tg g) (pe : PE G elt te) (hpn : G.pn = []) (hex : G.ex = fp)
    (hpa : ∀ p ∈ pa, ∀ b ∈ fp, p.1 ≠ b) (turn : GTurn J g te (wipe σ vs) vs Q cont W) (n i m : Nat) (s₀ s : Shared) (H : Hp) (hm : m < n) (hat : GAt G pa (wipe σ vs) fp tn i H s) (w : W i m H) :
    Seg (model G.prog G.w) A (fun n s₀ r s₁ => r = .ok .next ∧ GEnd G pa (wipe σ vs) Q cont n s₀ s₁) (GYld G pa (wipe σ vs) fp tn W Q cont) n s₀
      (.compStart (.GeneratorExp elt [⟨tg, iter, [], 0⟩] scope gpos) 0 (.ref it) .none G.env)
      ((model G.prog G.w).den (.compStart (.GeneratorExp elt [⟨tg, iter, [], 0⟩] scope gpos) 0 (.ref it) .none G.env)) [] s := by
  have loop := seg_turns (iter := iter) (scope := scope) (gpos := gpos) hA hc hco hxe T pg pe hpn hex hpa turn n i m s₀ s H hm hat w
  show Seg _ A _ _ _ s₀ _ ((compStart (.GeneratorExp elt [⟨tg, iter, [], 0⟩] scope gpos) 0 (.ref it) .none G.env).onRaise (leaving G.env)) [] s
  unfold compStart
  rw [Sem.onRaise_eq_wrap]
  show Seg _ A _ _ _ s₀ _ ((ask >>= _).wrap _ _ _ _) [] s
  refine seg_bind_wrap (wpAny_askSetting ?_)
  split
  · exact seg_again rfl loop
  · first
      | exact seg_bind_wrap (wpAny_rule (seg_bind_wrap (wpAny_standAt (seg_bind_wrap (T.self _ i s _ _ hat.2.1 (seg_again rfl loop))))))
      | (refine seg_bind_wrap (wpAny_rule ?_); show Seg _ A _ _ _ s₀ _ ((standAt iter.pos >>= _).wrap _ _ _ _) [] s; exact seg_bind_wrap (wpAny_standAt (seg_bind_wrap (T.self _ i s _ _ hat.2.1 (seg_again rfl loop)))))
end
theorem allBare_upd {s : Shared} {g : Nat} {x : GenState} (h : AllBare s.gens) (hx : x.bare = true) : AllBare (s.setGen g x).gens := allBare_setGen h hx
section
variable {X G : Cx} {pins pa : List (Addr × Obj)} {σ σw : L2.St} {fp : List Addr} {tn : Nat → Heap → Prop} {Q : VK} {cont : Bool} {W : Nat → Nat → Hp → Prop} {a : Addr} {gi : Nat}
theorem live_of (hh : X.A.handled = none) (hd : X.A.depth < recursionLimit) (isg : ∀ H s, Inv G pa σw H s → s.heap.IsGen a gi)
    (back : ∀ H s h' g', Inv G pa σw H s → AllBare g' → (∀ b o, s.heap.get? b = some o → h'.get? b = some o) → Inv X pins σ H { s with heap := h', gens := g' }) :
    ∀ (n : Nat) (s : Shared), s.heap.IsGen a gi → s.heap.NoLimit →
      (∃ gs, s.gens[gi]? = some gs ∧ gs.Goes (model X.prog X.w) X.A.in1.in1 (fun n s₀ r s₁ => r = .ok .next ∧ GEnd G pa σw Q cont n s₀ s₁) (GYld G pa σw fp tn W Q cont) n (.send .none) (s.setGen gi .running)) →
      Live X pins σ Q cont a n s := by
  intro n
  induction n with
  | zero =>
    intro s hg hl ⟨gs, hgs, hgo⟩ QQ E h1 h2
    refine wpAny_pyNext_genexpQ (A := X.A.in1) (P := GEnd G pa σw Q cont) hh hl hd hg hgs hgo (fun v s₁ gs' hb hv => ?_) (fun s₁ hp h' hk => ?_)
    · obtain ⟨b, H, rfl, I, ⟨_, h0, _⟩ | ⟨hb2, q⟩⟩ := hv
      · exact absurd h0 (Nat.lt_irrefl _)
      · subst hb2
        exact h1 _ H (back H s₁ s₁.heap _ I (allBare_upd I.bare hb) fun _ _ e => e) q
    · obtain ⟨H, I, q⟩ := hp
      exact h2 _ H (back H s₁ h' _ I (allBare_upd I.bare rfl) hk) q
  | succ n ih =>
    intro s hg hl ⟨gs, hgs, hgo⟩ QQ E h0 h1 h2
    have hgl : gi < s.gens.size := (Array.getElem?_eq_some_iff.mp hgs).1
    refine GenW.wpAny_gsz (n := gi + 1) hgl ?_
    refine wpAny_pyNext_genexpQ (A := X.A.in1) (P := GEnd G pa σw Q cont) hh hl hd hg hgs hgo (fun v s₁ gs' hb hv => ?_) (fun s₁ hp h' hk => ?_)
    · intro hsz
      obtain ⟨b, H, rfl, I, ⟨hbc, _, kap⟩ | ⟨hb2, q⟩⟩ := hv
      · subst hbc
        have hsz1 : gi < s₁.gens.size := by
          have q : (s₁.setGen gi gs').gens.size = s₁.gens.size := GenW.setGen_size _ _ _
          have hsz' : gi + 1 ≤ (s₁.setGen gi gs').gens.size := hsz
          omega
        refine h0 _ (ih _ (isg H s₁ I) I.nolimit ⟨gs', setGen_at hsz1, ?_⟩)
        exact kap _ (allBare_upd (s := s₁.setGen gi gs') (allBare_upd I.bare hb) rfl)
      · subst hb2
        exact h1 _ H (back H s₁ s₁.heap _ I (allBare_upd I.bare hb) fun _ _ e => e) q
    · intro _
      obtain ⟨H, I, q⟩ := hp
      exact h2 _ H (back H s₁ h' _ I (allBare_upd I.bare rfl) hk) q
end
/-! ### its making -/
/-- the generator expression's scope: no cells of its own -/
structure GxS (N : List Str) (sc scope : Scope) (own : List (Str × Nat)) : Prop where
  blk : BlkOk N sc scope own
  co : scope.isCoroutine = false
  cell : ∀ y ∈ scope.names, y.2 ≠ .cell
  dot : scope.names.lookup (".0" : Str) = some NameKind.local
/-- what its reader wants: the table may have grown by its code -/
def gRd (P : Addr) (wi : TI) (g : TG) (te : TE) (vs : List Nat) (cont : Bool) : TE := fun σ H Q => wi σ H fun J H1 => GxR.TabG H1 P ∧ ∀ H2, GxR.Tabbed P H1 H2 → ∃ W : Nat → Nat → Hp → Prop, (∃ m, W 0 m H2) ∧ GTurn J g te (wipe σ vs) vs Q cont W
section
variable {X : Cx} {pins : List (Addr × Obj)} {σ : L2.St} {H : Hp} {s : Shared} {Q : VK} {cont : Bool} {k : Nat} {c P : Addr} {tg elt iter : Expr} {scope : Scope} {own : List (Str × Nat)} {gpos : Pos} {wi : TI} {g : TG} {te : TE} {Q' : Value → Shared → Prop}
theorem gx_make (hc : X.calm = true) (hN : X.N.Nodup) (hr : Room (k + 2) X.A) (TB : GxR.TabB X.base X.mg c P) (hcode : X.env.code = .ref c) (S : GxS X.N X.env.scope scope own) (hi : PI X tg iter wi)
    (hg : ∀ A' s H code fp, PG (gx X A' s H scope code fp) tg g) (he : ∀ A' s H code fp, Room k A' → PE (gx X A' s H scope code fp) elt te) (hs : ∀ v, genFold iter X.env v = pure v)
    (I : Inv X pins σ H s) (h : gRd P wi g te (own.map (·.2)) cont σ H Q) (hQ : ∀ a gi n s', s'.heap.IsGen a gi → Live X pins σ Q cont a n s' → Q' (.ref a) s') :
    wpAny (model X.prog X.w) X.A (eval (.GeneratorExp elt [⟨tg, iter, [], 0⟩] scope gpos) X.env) Q' X.xe s := by
  have hfree : ∀ y ∈ scope.names, y.2 = .free → ∃ c, X.env.cells.lookup y.1 = some c := fun y hy e => by
    rcases S.blk.free y hy e with k | k
    · exact I.ok.has _ (.inl k)
    · exact I.ok.has _ (.inr k)
  refine wpAny_GeneratorExp_make S.co (closure_ok hfree) S.cell S.dot S.blk.kind (by have := hr.dp; omega) ?_ hs
  refine thn (hi.run pins s σ H _ I h) fun xv s1 hx => thn hx fun itv s2 h2 => ?_
  obtain ⟨it, fp, tn, J, H2, e, I2, T, st2, f2, ⟨ps, hP, ht⟩, q⟩ := h2
  subst e
  have hPs : s2.heap.get? P = some { cls := .none, data := .fields ps } := I2.hok P _ hP
  have cd : PySem.W.CodeHd s2.heap c P := TB.code.keeps I2.bk
  refine ⟨I2.nolimit, ?_⟩
  have szf : ∀ b ∈ fp, b < s2.heap.objs.size := fun b hb => by
    obtain ⟨o, e, _⟩ := T.obj _ _ st2 b hb
    exact Heap.lt_size e
  have cont' : ∀ (code : Value) (h3 : Heap) (tk : Nat) (ps' : Array Value), Heap.ExtBut P s2.heap h3 → s2.heap.objs.size ≤ h3.objs.size → h3.get? P = some { cls := .none, data := .fields ps' } → (∃ more, ps' = ps ++ more) → TriplesOk ps'.toList →
      wpAny (model X.prog X.w) X.A (builtinsFor X.env.globals X.env.builtins) (fun bi s₄ => ∀ h', h'.Ns s₄.heap.objs.size (fun y => if y = ".0" then some (.ref it) else none) → Heap.SameBut s₄.heap.objs.size (s₄.heap.push { cls := .type "frame", data := .dict #[] }) h' →
          Q' (.ref h'.objs.size) { s₄ with
            gens := s₄.gens.push (.fresh (.compStart (.GeneratorExp elt [⟨tg, iter, [], 0⟩] scope gpos) 0 (.ref it) .none (genEnv scope (cloFrom X.env.cells scope.names []) s₄.heap.objs.size code bi X.env))),
            toks := s₄.toks + 1 + 1 + 1,
            heap := h'.push { cls := .type "generator", data := .fields #[.int s₄.gens.size 0, .str "<genexpr>" (s₄.toks + 1), .str (X.env.qual ++ "<genexpr>") (s₄.toks + 1 + 1)] } }) X.xe { s2 with heap := h3, toks := tk } := by
    intro code h3 tk ps' hx hsz hP3 hmore ht3
    obtain ⟨bm, ob, e1, e2, e3, e4, e5, e6, e7, e8⟩ := TB.bm
    obtain ⟨more, em⟩ := hmore
    have keep3 : ∀ b u, b ≠ P → s2.heap.get? b = some u → h3.get? b = some u := fun b u hb e => hx b u hb e
    refine wpAny_builtinsFor (m := X.mg) (by rw [I2.ok.glob]; exact (I2.mod.glob.keeps I2.bk).extBut hx TB.gP) e1 e2 (keep3 _ _ e4 (I2.bk _ _ e5)) e6 e7 e8 ?_
    have I3 : Inv X pins σ (upd H2 P (.tbl (ps ++ more))) { s2 with heap := h3, gens := s2.gens, drawn := s2.drawn, toks := tk } := GxR.inv_tab (more := more) I2 hP keep3 (by rw [← em]; exact hP3) I2.bare
    have hTb : GxR.Tabbed P H2 (upd H2 P (.tbl (ps ++ more))) := ⟨⟨ps ++ more, upd_same, by rw [← em]; exact ht3⟩, fun b hb => upd_ne hb⟩
    obtain ⟨W, ⟨m0, w0⟩, turn⟩ := q _ hTb
    generalize hH3 : upd H2 P (.tbl (ps ++ more)) = H3 at I3 hTb w0
    generalize hs4 : ({ s2 with heap := h3, gens := s2.gens, drawn := s2.drawn, toks := tk } : Shared) = s4 at I3 ⊢
    have h4 : s4.heap = h3 := by rw [← hs4]
    have nfP : ∀ b ∈ fp, b ≠ P := fun b hb z => by
      have := (f2 b hb).1
      rw [z, hP] at this
      cases this
    have f4 : ∀ b ∈ fp, FpOk X pins H3 b ∧ b < s4.heap.objs.size := fun b hb => by
      refine ⟨⟨?_, (f2 b hb).2⟩, by rw [h4]; exact Nat.lt_of_lt_of_le (szf b hb) hsz⟩
      rw [← hH3, upd_ne (nfP b hb)]
      exact (f2 b hb).1
    have st4 : tn 0 s4.heap := T.keep _ _ _ st2 fun b hb o e => by rw [h4]; exact keep3 b o (nfP b hb) e
    intro h' hn' hs'
    have hszC : h'.objs.size = s4.heap.objs.size + 1 := by rw [hs'.1, Heap.size_push]
    have keep' : ∀ b o, s4.heap.get? b = some o → h'.get? b = some o := fun b o e => hs'.extBut b o (Nat.ne_of_lt (Heap.lt_size e)) (Heap.get?_push_of_some _ e)
    generalize hoa : ({ cls := .type "generator", data := .fields #[.int s4.gens.size 0, .str "<genexpr>" (s4.toks + 1), .str (X.env.qual ++ "<genexpr>") (s4.toks + 1 + 1)] } : Obj) = oa
    have keep5 : ∀ b o, s4.heap.get? b = some o → (h'.push oa).get? b = some o := fun b o e => Heap.get?_push_of_some _ (keep' b o e)
    have hoa5 : (h'.push oa).get? h'.objs.size = some oa := Heap.get?_push_size _ (by rw [← hoa]; rfl)
    have isG : ∀ {hh : Heap}, hh.get? h'.objs.size = some oa → hh.IsGen h'.objs.size s4.gens.size := fun {hh} e => by
      exact ⟨oa, .str "<genexpr>" (s4.toks + 1), .str (X.env.qual ++ "<genexpr>") (s4.toks + 1 + 1), e, by rw [← hoa], by rw [← hoa], by rw [← hoa]⟩
    have hh2 : (X.A.in1.in1.deeper (gxEnv X s4 scope code)).handled = none := hr.hd
    have hfr : (X.A.in1.in1.deeper (gxEnv X s4 scope code)).frames = some (gxEnv X s4 scope code :: X.stack) := Around.frames_deeper (A := X.A.in1.in1) I3.ok.frames
    have hroom : Room k (X.A.in1.in1.deeper (gxEnv X s4 scope code)) := Room.deeper (A := X.A.in1.in1) (k := k) ⟨hr.hd, by have := hr.dp; show X.A.depth + 3 * (k + 1) + 5 < _; omega, by have := hr.un; show X.A.units + 1 + 1 + 16 * (k + 1) + 200 < _; omega⟩ _
    have inv5 : ∀ g' t', AllBare g' → Inv (gx X (X.A.in1.in1.deeper (gxEnv X s4 scope code)) s4 H3 scope code fp) [(h'.objs.size, oa)] (wipe σ (own.map (·.2))) H3 { s4 with heap := h'.push oa, gens := g', toks := t' } := fun g' t' hg' => by
      have I5 := gx_start (t' := t') (code := code) I3 S.blk S.cell hN f4 hh2 hfr (hn'.push oa) keep5 hg'
      refine I5.pins_of fun p hp => ?_
      have e : p = (h'.objs.size, oa) := by simpa using hp
      subst e
      have hge : s4.heap.objs.size ≤ h'.objs.size := by omega
      refine ⟨hoa5, I3.hok.fresh hge, ?_, fun z => ?_, fun v e => ?_⟩
      · show h'.objs.size ≠ s4.heap.objs.size
        omega
      · rcases List.mem_cons.mp (I3.stkSub _ z) with z | z
        · have := I3.lt
          rw [← z] at this
          exact absurd (Nat.lt_of_lt_of_le this hge) (Nat.lt_irrefl _)
        · exact I3.nofs hge z
      · rw [← hoa] at e
        cases e
    have isg : ∀ H s, Inv (gx X (X.A.in1.in1.deeper (gxEnv X s4 scope code)) s4 H3 scope code fp) [(h'.objs.size, oa)] (wipe σ (own.map (·.2))) H s → s.heap.IsGen h'.objs.size s4.gens.size := fun H s I => isG (I.pin (h'.objs.size, oa) (by simp)).1
    have back : ∀ H s h9 g', Inv (gx X (X.A.in1.in1.deeper (gxEnv X s4 scope code)) s4 H3 scope code fp) [(h'.objs.size, oa)] (wipe σ (own.map (·.2))) H s → AllBare g' → (∀ b o, s.heap.get? b = some o → h9.get? b = some o) → Inv X pins σ H { s with heap := h9, gens := g' } := fun H s h9 g' I hg' kp =>
      I3.call' (ch := fp) I.os (I.base.trans (Un.kept kp)) (I.hok.kept kp) hg' fun b hb => ⟨(f4 b hb).1.2.2.2.1, (f4 b hb).1.2.1, (f4 b hb).1.2.2.2.2.1, (f4 b hb).1.2.2.2.2.2⟩
    refine hQ h'.objs.size s4.gens.size (m0 + 1) _ (isG hoa5) (live_of (G := gx X (X.A.in1.in1.deeper (gxEnv X s4 scope code)) s4 H3 scope code fp) (pa := [(h'.objs.size, oa)]) (σw := wipe σ (own.map (·.2))) (fp := fp) (tn := tn) (W := W) hr.hd (by have := hr.dp; omega) isg back (m0 + 1) _ (isG hoa5) (I3.nolimit.keeps keep5) ⟨_, Array.getElem?_push_size .., rfl, ?_⟩)
    have fr3 : ∀ b ∈ fp, H3 b = none := fun b hb => (f4 b hb).1.1
    have st5 : tn 0 (h'.push oa) := T.keep _ _ _ st4 fun b _ o e => keep5 b o e
    exact seg_begin (G := gx X (X.A.in1.in1.deeper (gxEnv X s4 scope code)) s4 H3 scope code fp) (A := X.A.in1.in1) rfl hc S.co rfl T (hg _ _ _ _ _) (he _ _ _ _ _ hroom) rfl rfl (fun p hp b hb => by
      have e : p = (h'.objs.size, oa) := by simpa using hp
      subst e
      have h9 : b < s4.heap.objs.size := (f4 b hb).2
      have hge : s4.heap.objs.size ≤ h'.objs.size := by omega
      exact Nat.ne_of_gt (Nat.lt_of_lt_of_le h9 hge)) turn (m0 + 1) 0 m0 _ _ H3 (Nat.lt_succ_self _) ⟨inv5 _ _ (allBare_upd (I3.bare.push rfl) rfl), st5, fr3⟩ w0
  cases hf : codeAmong gpos ps.toList with
  | none =>
    refine wpAny_genexprCodeX hcode (cd.code hPs ht) (cd.tab hPs) hf fun c' h' tk hx hge hlt hco' _ htab' _ => ?_
    obtain ⟨o1, vs, f1, tf, fl, tg, inF, tx, tt, op, _, _, _, _, _, _, _, _, _, htr, _⟩ := hco'
    exact cont' _ h' tk _ hx (Nat.le_trans hge (Nat.le_of_lt hlt)) htab'.2 ⟨_, rfl⟩ htr
  | some cv =>
    refine wpAny_genexprCode_hit hcode (cd.code hPs ht) hf ?_
    exact cont' cv s2.heap s2.toks ps (Heap.ExtBut.refl _ _) (Nat.le_refl _) hPs ⟨#[], by simp⟩ ht
end
end Ky
namespace Ky
open PySem PySem.Spec PyProof.Rows L2
section
variable {X : Cx} {k : Nat} {c P : Addr} {tg elt iter : Expr} {scope : Scope} {own : List (Str × Nat)} {gpos p pos : Pos} {wi : TI} {g : TG} {te : TE}
theorem pe_allG (hr : Room (k + 2) X.A) (hgl : Gl X "all") (hm : X.mg "all" = none) (hb : bootBuiltins "all" = some (.builtin "all")) (hc : X.calm = true) (hN : X.N.Nodup) (TB : GxR.TabB X.base X.mg c P) (hcode : X.env.code = .ref c) (S : GxS X.N X.env.scope scope own) (hi : PI X tg iter wi)
    (hg : ∀ A' s H code fp, PG (gx X A' s H scope code fp) tg g) (hel : ∀ A' s H code fp, Room k A' → PE (gx X A' s H scope code fp) elt te) (hs : ∀ v, genFold iter X.env v = pure v := by intro _; rfl)
    (he : starEach [.GeneratorExp elt [⟨tg, iter, [], 0⟩] scope gpos] X.env = (false, eval (.GeneratorExp elt [⟨tg, iter, [], 0⟩] scope gpos) X.env) :: starEach [] X.env := by rfl) :
    PE X (.Call (.Name "all" p) [.GeneratorExp elt [⟨tg, iter, [], 0⟩] scope gpos] [] pos) (gRd P wi g te (own.map (·.2)) true) := by
  refine ⟨fun pins s σ H Q I h => ?_⟩
  refine wpAny_Call_Name_kw (ld_blt I hgl hm hb ?_)
  refine PyProof.Rows.callWith_builtin1 ?_ he (by rfl)
  rw [he]
  show wpAny _ _ (spliced ((false, eval (.GeneratorExp elt [⟨tg, iter, [], 0⟩] scope gpos) X.env) :: backTo pos (starEach [] X.env))) _ _ s
  refine Calls.spliced_cons (gx_make hc hN hr TB hcode S hi hg hel hs I h fun a gi n s' hG hL => ?_)
  refine Calls.spliced_nil ?_
  refine call_function_tree F.kind_all F.plain_all F.entry_all (F.args_all1 _) ?_
  unfold Builtin.«all»
  refine wpAny_bind (m := oneArg "all" _) (wpAny_pure ?_)
  refine wpAny_bind (wpAny_pyIter_gen hG ?_)
  exact wpAny_pure ⟨plainId_quiet F.plain_all_loop _, live_all n s' hL fun s'' H' b I' q => ⟨.bl b, H', I', rfl, q⟩⟩
theorem pe_anyG (hr : Room (k + 2) X.A) (hgl : Gl X "any") (hm : X.mg "any" = none) (hb : bootBuiltins "any" = some (.builtin "any")) (hc : X.calm = true) (hN : X.N.Nodup) (TB : GxR.TabB X.base X.mg c P) (hcode : X.env.code = .ref c) (S : GxS X.N X.env.scope scope own) (hi : PI X tg iter wi)
    (hg : ∀ A' s H code fp, PG (gx X A' s H scope code fp) tg g) (hel : ∀ A' s H code fp, Room k A' → PE (gx X A' s H scope code fp) elt te) (hs : ∀ v, genFold iter X.env v = pure v := by intro _; rfl)
    (he : starEach [.GeneratorExp elt [⟨tg, iter, [], 0⟩] scope gpos] X.env = (false, eval (.GeneratorExp elt [⟨tg, iter, [], 0⟩] scope gpos) X.env) :: starEach [] X.env := by rfl) :
    PE X (.Call (.Name "any" p) [.GeneratorExp elt [⟨tg, iter, [], 0⟩] scope gpos] [] pos) (gRd P wi g te (own.map (·.2)) false) := by
  refine ⟨fun pins s σ H Q I h => ?_⟩
  refine wpAny_Call_Name_kw (ld_blt I hgl hm hb ?_)
  refine PyProof.Rows.callWith_builtin1 ?_ he (by rfl)
  rw [he]
  show wpAny _ _ (spliced ((false, eval (.GeneratorExp elt [⟨tg, iter, [], 0⟩] scope gpos) X.env) :: backTo pos (starEach [] X.env))) _ _ s
  refine Calls.spliced_cons (gx_make hc hN hr TB hcode S hi hg hel hs I h fun a gi n s' hG hL => ?_)
  refine Calls.spliced_nil ?_
  refine call_function_tree F.kind_any F.plain_any F.entry_any (F.args_any1 _) ?_
  unfold Builtin.«any»
  refine wpAny_bind (m := oneArg "any" _) (wpAny_pure ?_)
  refine wpAny_bind (wpAny_pyIter_gen hG ?_)
  exact wpAny_pure ⟨plainId_quiet F.plain_any_loop _, live_any n s' hL fun s'' H' b I' q => ⟨.bl b, H', I', rfl, q⟩⟩
end
end Ky

namespace Kz
open PySem PySem.SeqAt PySem.W PyProof.Rows
/-! ### sorting of tuples, the empty one among them -/
section
variable {prog : Program} {w : World} {A : Around} {E : Value → Shared → Prop} {s : Shared}
theorem call_tuple_lt {Q : Value → Shared → Prop} {l b : Addr} {items items2 : Array Value} {e r : Nat → Bool} (hl : s.heap.IsTuple l items) (hb : s.heap.IsTuple b items2)
    (he : ∀ j (h1 : j < items.size) (h2 : j < items2.size), EqAt A.in1 s items[j] items2[j] (e j)) (hr : ∀ j (h1 : j < items.size) (h2 : j < items2.size), e j = false → RcLt A.in1 s items[j] items2[j] (r j))
    (h : Q (.bool (firstLt e r (decide (items.size < items2.size)) (List.range (min items.size items2.size)))) s) : wpAny (model prog w) A (call (.builtin "tuple.__lt__") [.ref l, .ref b]) Q E s := by
  obtain ⟨⟨cls, dd, data, sl⟩, ho, hc, n, hd⟩ := id hl
  obtain ⟨⟨cls2, dd2, data2, sl2⟩, ho2, hc2, n2, hd2⟩ := id hb
  simp only at hc hd hc2 hd2
  subst hc hd hc2 hd2
  exact call_meets F.slot_tuple_lt ⟨_, ho, rfl⟩ F.entry_tuple_lt (F.args_tuple_lt_2 _ _) (tuple_ltAt l b items items2 n n2 dd dd2 sl sl2 e r) ⟨ho, ho2, he, hr, h⟩
theorem oneLt_any {f : Bool} {da db : PyData} {a b : Value} {as bs : List Addr} {Q : Bool → Shared → Prop} (ra : Reads s.heap a da as) (rb : Reads s.heap b db bs) (h : alike da db = true) (hn : da ≠ .none)
    (hu : A.units + min da.depth db.depth < cLine) (hq : Q (dataLt da db) s) : wpAny (model prog w) A (oneLt' f a b) Q E s := by
  by_cases ht : f = true ∧ ∃ xs, da = .tuple xs
  · obtain ⟨rfl, xs, rfl⟩ := ht
    cases db with
    | tuple ys =>
      have hal : alikeAll xs ys = true := by simpa [alike] using h
      cases ra with
      | @tuple l o vs n _ as₁ h1 h2 h3 h4 =>
        cases rb with
        | @tuple l' o' vs' n' _ bs₁ k1 k2 k3 k4 =>
          have n1 : vs.size = xs.length := by simpa using ReadsAll.length _ _ _ h4
          have n2 : vs'.size = ys.length := by simpa using ReadsAll.length _ _ _ k4
          rw [dataLt_tuple, ← firstLt_toks xs ys hal, ← n1, ← n2] at hq
          rw [oneLt'_eq]
          simp only [if_true]
          refine wpAny_bind (wpAny_cRoomFor (room_here hu) ?_)
          refine wpAny_bind (wpAny_callSpecialIfBound?_slot (T := "tuple") ⟨_, h1, h2⟩ F.slot_tuple_lt (call_tuple_lt (e := pairEq xs ys) (r := fun j => dataLt (xs.getD j .none) (ys.getD j .none)) ⟨_, h1, h2, _, h3⟩ ⟨_, k1, k2, _, k3⟩ (fun j j1 j2 => ?_) (fun j j1 j2 hj => ?_) ?_))
          · have := eqAt_alikeAll xs ys A.in1 s vs.toList vs'.toList _ _ h4 k4 hal (room_in hu) j (by simpa using j1) (by simpa using j2)
            simpa using this
          · have := rcLt_alikeAll xs ys A.in1 s vs.toList vs'.toList _ _ h4 k4 hal (room_in hu) j (by simpa using j1) (by simpa using j2) hj
            simpa using this
          · exact wpAny_truthy_bool hq
    | _ => exact absurd h (by simp [alike])
  · exact oneLt_alike (fun hf xs hx => ht ⟨hf, xs, hx⟩) ra rb h hn hu hq
def hasItem : PyData → Bool
  | .tuple [] => false
  | _ => true
theorem keyLt_general (x y : Value) : keyLt' general' x y = oneLt' false x y := rfl
theorem firsts_any {M : Model} : ∀ {vs : List Value} {ds : List PyData}, EachIs (fun v d => ∃ as, Reads s.heap v d as) vs ds → (∀ d ∈ ds, ∃ r, d = .tuple r) →
    ∃ fs : List (Option Value), (∀ (Q : List (Option Value) → Shared → Prop), Q fs s → wpAny M A (vs.mapM firstOfTuple') Q E s) ∧ fs.map (·.isSome) = ds.map hasItem
  | _, _, .nil, _ => ⟨[], fun Q h => by rw [List.mapM_nil]; exact wpAny_pure h, rfl⟩
  | _, _, .cons (b := d) ⟨as, r⟩ t, ht => by
    obtain ⟨fs, h1, h2⟩ := firsts_any (M := M) t fun d hd => ht d (List.mem_cons_of_mem _ hd)
    obtain ⟨ds, rfl⟩ := ht d (List.mem_cons_self ..)
    cases r with
    | @tuple a o xs n _ _ ho hc hd hr =>
      refine ⟨xs[0]? :: fs, fun Q h => ?_, ?_⟩
      · rw [List.mapM_cons]
        refine wpAny_bind ?_
        rw [kas_first_eq]
        refine wpAny_bind (Looks.here (show Looks M s.heap (typeOf (.ref a)) o.cls from (Looks.ld ho).andThen .now) ?_)
        rw [hc, if_neg (by first | decide | simp)]
        refine wpAny_bind (listItems_at ho hd (wpAny_pure ?_))
        exact wpAny_bind (h1 (fun bs s' => wpAny M A (pure (xs[0]? :: bs)) Q E s') (wpAny_pure h))
      · rw [List.map_cons, List.map_cons, h2]
        congr 1
        cases q : xs.toList with
        | nil =>
          rw [q] at hr
          cases hr
          have e0 : xs = #[] := by
            apply Array.toList_inj.mp
            rw [q]
          subst e0
          rfl
        | cons f fr =>
          rw [q] at hr
          cases hr with
          | cons r1 r2 =>
            have hf : xs[0]? = some f := by rw [← Array.getElem?_toList, q]; rfl
            rw [hf]
            rfl
/-- values that read as alike tuples can be sorted -/
theorem sorts_tups {vs : List Value} {ds : List PyData} (e : EachIs (fun v d => ∃ as, Reads s.heap v d as) vs ds) (hal : AllAlike ds) (hk : ∀ d ∈ ds, ∃ r, d = .tuple r) (hu : ∀ d, d ∈ ds → A.units + d.depth < cLine) : SortsAt prog w A s (dataKind s.heap ds) vs := by
  by_cases hne : ∀ d, d ∈ ds → ∃ x r, d = PyData.tuple (x :: r)
  · exact SortsAt.data e hal (.inl hne) hu
  · have hemp : PyData.tuple [] ∈ ds := by
      apply Classical.byContradiction
      intro hno
      refine hne fun d hd => ?_
      obtain ⟨r, rfl⟩ := hk d hd
      cases r with
      | nil => exact absurd hd hno
      | cons x r => exact ⟨x, r, rfl⟩
    have room : ∀ {d d' : PyData}, d ∈ ds → A.units + min d.depth d'.depth < cLine := fun {d d'} hd => Nat.lt_of_le_of_lt (Nat.add_le_add_left (Nat.min_le_left _ _) _) (hu d hd)
    have ask : ∀ f : Bool, ∀ (E : Value → Shared → Prop) (x y : Value) (a b : (dataKind s.heap ds).α) {Q : Bool → Shared → Prop}, (dataKind s.heap ds).keyOf x = some a → (dataKind s.heap ds).keyOf y = some b → Q ((dataKind s.heap ds).blt a b) s → wpAny (model prog w) A (oneLt' f x y) Q E s := by
      intro f E x y a b Q ha hb hq
      obtain ⟨d, as, hd, ra, rfl⟩ := dataKind_inv ha
      obtain ⟨d', as', hd', rb, rfl⟩ := dataKind_inv hb
      refine oneLt_any ra rb (hal d hd d' hd') (fun z => ?_) (room hd) hq
      obtain ⟨r, rfl⟩ := hk d hd
      cases z
    refine ⟨fun v hv => ?_, ?_⟩
    · obtain ⟨d, hd, as, r⟩ := e.left v hv
      exact ⟨_, dataKind_some hal hd r⟩
    · cases ds with
      | nil => exact absurd hemp (by simp)
      | cons d₀ ds₀ =>
        have nall : ∀ fs : List (Option Value), fs.map (·.isSome) = (d₀ :: ds₀).map hasItem → ¬ (fs.toArray.all (·.isSome)) = true := fun fs hfs hall => by
          simp only [List.all_toArray] at hall
          have hm : false ∈ fs.map (·.isSome) := by
            rw [hfs]
            exact List.mem_map.mpr ⟨_, hemp, rfl⟩
          obtain ⟨f, hf, hb⟩ := List.mem_map.mp hm
          have := List.all_eq_true.mp hall f hf
          rw [hb] at this
          cases this
        by_cases h0 : d₀ = PyData.tuple []
        · refine ⟨oneType', fun E x y a b Q ha hb hq => by rw [keyLt'_oneType]; exact ask true E x y a b ha hb hq, fun h2 E Q hq => ?_⟩
          obtain ⟨fs, h1, hfs⟩ := firsts_any (M := model prog w) (A := A) (E := E) e hk
          rw [keyKind'_eq, List.mapM_toArray, map_eq_pure_bind]
          refine wpAny_bind (wpAny_bind (h1 _ (wpAny_pure ?_)))
          rw [if_neg (nall fs hfs)]
          have hf0 : ¬ ((fs.toArray[0]?.bind id).isSome = true) := by
            cases fs with
            | nil => simp
            | cons f fr =>
              rw [List.map_cons, List.map_cons] at hfs
              have := (List.cons.inj hfs).1
              rw [h0] at this
              have this : f.isSome = false := this
              simpa using this
          rw [if_neg hf0, oneTypeOnly'_eq, List.mapM_toArray, map_eq_pure_bind]
          refine wpAny_bind (wpAny_bind (wpAny_bind (kas_mapM (r := Value.type "tuple") _ (fun v hv Q' hq => ?_) (wpAny_pure ?_))))
          · obtain ⟨d, hd, as, r⟩ := e.left v hv
            obtain ⟨r', rfl⟩ := hk d hd
            exact Looks.here (looks_reads (M := model prog w) r) hq
          · have hall : ((List.map (fun _ => Value.type "tuple") vs).toArray.all fun x => x == Value.type "tuple") = true := by
              simp only [List.all_toArray, List.all_map, List.all_eq_true]
              intro _ _
              exact beq_self_eq_true _
            have h0' : (List.map (fun _ => Value.type "tuple") vs).toArray[0]? = some (Value.type "tuple") := by
              cases vs with
              | nil => exact absurd h2 (by simp)
              | cons v vr => simp
            rw [h0']
            simp only [hall, if_true]
            exact wpAny_pure (wpAny_pure hq)
        · refine ⟨general', fun E x y a b Q ha hb hq => by rw [keyLt_general]; exact ask false E x y a b ha hb hq, fun h2 E Q hq => ?_⟩
          obtain ⟨fs, h1, hfs⟩ := firsts_any (M := model prog w) (A := A) (E := E) e hk
          rw [keyKind'_eq, List.mapM_toArray, map_eq_pure_bind]
          refine wpAny_bind (wpAny_bind (h1 _ (wpAny_pure ?_)))
          rw [if_neg (nall fs hfs)]
          have hf0 : (fs.toArray[0]?.bind id).isSome = true := by
            cases fs with
            | nil =>
              rw [List.map_cons] at hfs
              cases hfs
            | cons f fr =>
              rw [List.map_cons, List.map_cons] at hfs
              have := (List.cons.inj hfs).1
              obtain ⟨r, hr⟩ := hk d₀ (List.mem_cons_self ..)
              have this : f.isSome = true := by
                rw [this, hr]
                cases r with
                | nil => exact absurd hr h0
                | cons _ _ => rfl
              simpa using this
          rw [if_pos hf0]
          exact wpAny_pure hq
end
end Kz

namespace Ky
open PySem PySem.Spec PyProof.Rows L2
/-! ### data in order -/
/-- keys that sorted takes: tuples (also the empty one), or no tuples and no None -/
def Srt (ds : List PyData) : Prop := (∀ d, d ∈ ds → ∃ r, d = PyData.tuple r) ∨ (∀ d, d ∈ ds → d ≠ .none ∧ ∀ xs, d ≠ .tuple xs)
theorem srt_sorts {prog : Program} {w : World} {A : Around} {s : Shared} {vs : List Value} {ds : List PyData} (e : PySem.W.EachIs (fun v d => ∃ as, Reads s.heap v d as) vs ds) (hal : PySem.W.AllAlike ds) (hk : Srt ds) (hu : ∀ d, d ∈ ds → A.units + d.depth < cLine) : PySem.W.SortsAt prog w A s (PySem.W.dataKind s.heap ds) vs := by
  rcases hk with hk | hk
  · exact Kz.sorts_tups e hal hk hu
  · exact PySem.W.SortsAt.data e hal (.inr hk) hu
section
variable {X : Cx} {pins : List (Addr × Obj)} {σ : L2.St} {H : Hp} {s : Shared}
theorem each_dp (I : Inv X pins σ H s) : ∀ {xs : List V} {us : List Value} {ds : List PyData}, Vals xs us → DpAll X.K H xs ds → PySem.W.EachIs (fun u (b : V × PyData) => RelV b.1 u ∧ ∃ as, Reads s.heap u b.2 as) us (xs.zip ds)
  | _, _, _, .nil, .nil => .nil
  | _, _, _, .cons r1 r2, .cons d1 d2 => .cons ⟨r1, Dp.reads I _ _ _ d1 r1⟩ (each_dp I r2 d2)
theorem dpAll_len {K : PySem.W.Frag} : ∀ {xs : List V} {ds : List PyData}, DpAll K H xs ds → xs.length = ds.length
  | _, _, .nil => rfl
  | _, _, .cons _ d => by rw [List.length_cons, List.length_cons, dpAll_len d]
theorem zip_snd {xs : List V} {ds : List PyData} (h : xs.length = ds.length) : (xs.zip ds).map (·.2) = ds := List.map_snd_zip (by omega)
theorem vals_each : ∀ {us : List Value} {bs : List (V × PyData)}, PySem.W.EachIs (fun u (b : V × PyData) => RelV b.1 u) us bs → Vals (bs.map (·.1)) us
  | _, _, .nil => .nil
  | _, _, .cons r t => .cons r (vals_each t)
/-- the items in the order of their data -/
def sortD (xs : List V) (ds : List PyData) : List V := ((xs.zip ds).mergeSort (PySem.W.dataLe false (·.2))).map (·.1)
theorem sortD_len {xs : List V} {ds : List PyData} (h : xs.length = ds.length) : (sortD xs ds).length = xs.length := by
  unfold sortD
  rw [List.length_map, List.length_mergeSort, List.length_zip, ← h, Nat.min_self]
def rSortedD (K : PySem.W.Frag) : List V → Hp → VK → Prop := fun vs H Q => ∃ (a : Addr) (xs : List V) (ds : List PyData), vs = [.ref a] ∧ SqL K H a xs ∧ DpAll K H xs ds ∧ PySem.W.AllAlike ds ∧ Srt ds ∧ (∀ d ∈ ds, d.depth ≤ 60) ∧ ∀ p, H p = none → Q (.ref p) (upd H p (.lst (sortD xs ds)))
theorem cr_sortedD (hu : X.A.units + 64 < cLine) : CallR X (.builtin "sorted") (rSortedD X.K) := by
  intro pins s σ H vs us Q I r h
  obtain ⟨a, xs, ds, rfl, hs, hd, hal, hk, hdep, q⟩ := h
  obtain rfl := Vals.ref1 r
  obtain ⟨its, rv, hl, hz⟩ := I.list hs
  have hlen := dpAll_len hd
  have e := each_dp I rv hd
  have hm := zip_snd hlen
  have er' : PySem.W.EachIs (fun v (b : V × PyData) => ∃ as, Reads (PySem.W.sortingHeap (PySem.W.copyHeap s.heap its) (s.heap.objs.size + 1) its) v b.2 as) its (xs.zip ds) := e.mono fun _ _ ⟨_, as, r⟩ => ⟨as, PyProof.Rows.Reads.keeps (fun _ _ => PySem.W.sorting_copy_old) r⟩
  have em := PySem.W.each_map (R := fun v d => ∃ as, Reads (PySem.W.sortingHeap (PySem.W.copyHeap s.heap its) (s.heap.objs.size + 1) its) v d as) (fun b : V × PyData => b.2) er'
  rw [hm] at em
  refine PySem.W.sorted_vals hl.isList (srt_sorts (s := { s with heap := PySem.W.sortingHeap (PySem.W.copyHeap s.heap its) (s.heap.objs.size + 1) its }) em hal hk fun d hm' => ?_) (by rw [← rv.length]; exact hz) ?_
  · have := hdep d hm'
    show X.A.units + 1 + 1 + d.depth < cLine
    omega
  · have out := PySem.W.sortVals_data (enc := fun b : V × PyData => b.2) (R := fun u (b : V × PyData) => RelV b.1 u) false (e.mono fun _ _ z => z.1) er' (by rw [hm]; exact hal)
    rw [hm] at out
    generalize PySem.W.sortVals (PySem.W.dataKind (PySem.W.sortingHeap (PySem.W.copyHeap s.heap its) (s.heap.objs.size + 1) its) ds) false its its = res at out ⊢
    obtain ⟨ep, he'⟩ := PyProof.Rows.sortedAll_at s.heap its res.toArray
    exact ⟨.ref _, upd H (s.heap.objs.size + 1) (.lst (sortD xs ds)), I.laid (t' := s.toks) (fun _ _ => PyProof.Rows.sortedAll_old) (Nat.le_succ _) ⟨by rw [sortD_len hlen]; exact hz, _, ep, vals_each out, he'⟩, rfl, q _ (I.hok.fresh (Nat.le_succ _))⟩
/-! ### < of data -/
def rLtD (K : PySem.W.Frag) : R2 := fun x y H Q => ∃ d e, Dp K H x d ∧ Dp K H y e ∧ PySem.W.alike d e = true ∧ d ≠ .none ∧ d.depth ≤ 60 ∧ Q (.bl (PySem.W.dataLt d e)) H
theorem op_ltD (hu : X.A.units + 64 < cLine) : OpR X (compareOp .Lt) (rLtD X.K) := by
  intro pins s σ H x y v u Q I rx ry h
  obtain ⟨d, e, hd, he, ha, hn, hz, q⟩ := h
  obtain ⟨as, r1⟩ := Dp.reads I d x v hd rx
  obtain ⟨bs, r2⟩ := Dp.reads I e y u he ry
  exact PySem.W.lt_data r1 r2 ha hn (by have := Nat.min_le_left d.depth e.depth; omega) ⟨.bl _, H, I, rfl, q⟩
end
end Ky

namespace Ky
open PySem PySem.Spec PyProof.Rows L2
/-! ### sorted(l, key=f), f a def of the program -/
theorem freed_none (h : Heap) (a : Addr) : (h.update a fun _ => ⟨.none, none, .freed, #[]⟩).get? a = none := by
  cases e : (h.update a fun _ => ⟨.none, none, .freed, #[]⟩).get? a with
  | none => rfl
  | some o =>
    obtain ⟨h1, h2⟩ := Heap.get?_some_iff.mp e
    exfalso
    obtain ⟨objs⟩ := h
    simp only [Heap.update, Array.getElem?_modify, if_pos] at h1
    cases q : objs[a]? with
    | none =>
      rw [q] at h1
      cases h1
    | some x =>
      rw [q] at h1
      cases h1
      cases h2
/-- a context at another place of the same calls, where nothing is raised -/
abbrev atA (X : Cx) (A' : Around) : Cx := { X with A := A', xe := fun _ _ => False }
section
variable {X : Cx} {pins : List (Addr × Obj)} {σ : L2.St} {H : Hp} {s : Shared}
theorem inAt {A' : Around} (I : Inv X pins σ H s) (hh : X.calm = true → A'.handled = none) (hf : A'.frames = X.A.frames) : Inv (atA X A') pins σ H s :=
  ⟨⟨I.ok.mod, I.ok.kind, I.ok.glob, I.ok.blt, I.ok.above, I.ok.inj, I.ok.has, I.ok.cab, hh, hf.trans I.ok.frames, I.ok.stk, I.ok.exf, I.ok.bs, I.ok.bsz, I.ok.noex, I.ok.exfs, I.ok.funs, I.ok.frf⟩, I.os, I.bare, I.base, I.loc, I.cell, I.free, I.freeC, I.pin, I.hok, I.len⟩
theorem outAt {A' : Around} (I : Inv (atA X A') pins σ H s) (ok : X.Ok) : Inv X pins σ H s := ⟨ok, I.os, I.bare, I.base, I.loc, I.cell, I.free, I.freeC, I.pin, I.hok, I.len⟩
/-- records of ours have turned, one of them is tracked from now on -/
theorem take_in {h' : Heap} {t' : Nat} {ch : List Addr} {it : Addr} {o : HO} (I : Inv X pins σ H s) (k : ∀ b ob, b ∉ ch → s.heap.get? b = some ob → h'.get? b = some ob) (f : ∀ b ∈ ch, FpOk X pins H b) (hit : it ∈ ch)
    (new : ObjOk X.prog X.w (upd H it o) h' it o) : Inv X pins σ (upd H it o) { s with heap := h', toks := t' } := by
  have nch : ∀ b u, H b = some u → b ∉ ch := fun b u e z => by
    have := (f b z).1
    rw [e] at this
    cases this
  have up : ∀ b u, H b = some u → upd H it o b = some u := fun b u e => by rw [upd_ne (fun z => nch b u e (by rw [z]; exact hit))]; exact e
  refine I.step (g' := s.gens) (d' := s.drawn) (ch := ch) (fun b hb => ?_) (fun b ob _ _ hc e _ => k b ob hc e) (fun b ob _ _ hc e _ => ⟨ob.slots, k b ob hc e⟩)
    (fun b ob hc _ n => by rw [upd_ne (fun z => hc (by rw [z]; exact hit))]; exact n) (fun b ob hc e => ⟨ob, k b ob hc e⟩) (fun b _ e => up b _ e) (fun b _ _ e => up b _ e) (fun b ps e => ⟨#[], by rw [up b _ e]; simp⟩) (fun m hm => ?_) (fun b u e => ?_) I.bare
  · obtain ⟨_, h1, _, h2, h3, h4⟩ := f b hb
    exact ⟨h2, h1, h3, h4⟩
  · obtain ⟨ob, es, ep, ho, r⟩ := hm
    exact ⟨ob, es, ep, k _ ob (fun z => (f _ z).2.1 rfl) ho, r⟩
  · by_cases hb : b = it
    · rw [hb, upd_same] at e
      cases e
      rw [hb]
      exact new
    · rw [upd_ne hb] at e
      refine (I.hok b u e).stay (fun c v hc q => k c v ?_ q) (fun c q => up c _ q) fun c _ q => up c _ q
      rcases hc with z | z
      · rw [z]; exact nch b u e
      · exact nch c _ z
theorem dpAll_snoc {K : PySem.W.Frag} : ∀ {xs : List V} {ds : List PyData} {x : V} {d : PyData}, DpAll K H xs ds → Dp K H x d → DpAll K H (xs ++ [x]) (ds ++ [d])
  | _, _, _, _, .nil, h => .cons h .nil
  | _, _, _, _, .cons h1 h2, h => .cons h1 (dpAll_snoc h2 h)
mutual
theorem Kept.dp {K : PySem.W.Frag} {H H' : Hp} (e : Kept H H') : ∀ (d : PyData) (v : V), Dp K H v d → Dp K H' v d
  | .none, _, h => by cases h; exact .non
  | .bool b, _, h => by cases h; exact .bl b
  | .int i, _, h => by cases h; exact .int i
  | .str x, _, h => by cases h; exact .str x
  | .list ds, _, h => by
    cases h with
    | lst hs ha => exact .lst (e.sq hs) (Kept.dpAll e ds _ ha)
  | .tuple ds, _, h => by
    cases h with
    | tup hs ha =>
      refine .tup ?_ (Kept.dpAll e ds _ ha)
      rcases hs with (hs | ⟨o, hs⟩) | hs
      · exact .inl (.inl (e.tup hs))
      · exact .inl (.inr ⟨o, e.keep _ _ (fun ps z => by cases z) hs⟩)
      · exact .inr hs
  | .dict _, _, h => by cases h
theorem Kept.dpAll {K : PySem.W.Frag} {H H' : Hp} (e : Kept H H') : ∀ (ds : List PyData) (vs : List V), DpAll K H vs ds → DpAll K H' vs ds
  | [], _, h => by cases h; exact .nil
  | d :: ds, _, h => by
    cases h with
    | cons h1 h2 => exact .cons (Kept.dp e d _ h1) (Kept.dpAll e ds _ h2)
end
def rSortedF (K : PySem.W.Frag) (f : Addr) (sp : Sp) : List V → List V → Hp → VK → Prop := fun vs zs H Q => ∃ (a : Addr) (xs : List V) (ds : List PyData), vs = [.ref a] ∧ zs = [.ref f] ∧ SqL K H a xs ∧ xs.length = ds.length ∧ PySem.W.AllAlike ds ∧ Srt ds ∧ (∀ d ∈ ds, d.depth ≤ 60) ∧
  (∀ (i : Nat) (x : V) (d : PyData) (H1 : Hp), xs[i]? = some x → ds[i]? = some d → Kept H H1 → sp [x] H1 (fun y H2 => Kept H1 H2 ∧ Dp K H2 y d) E0) ∧ ∀ H2, Kept H H2 → ∀ p, H2 p = none → Q (.ref p) (upd H2 p (.lst (sortD xs ds)))
theorem vals_len {xs : List V} {us : List Value} (r : Vals xs us) : xs.length = us.length := r.length
theorem cr_sortedF {k : Nat} {f : Addr} {fd : FuncData} {ps : List Str} {sp : Sp} (hr : Room (k + 1) X.A) (F : FnOk X.prog X.w X.K X.mg X.base CX0 k f fd ps sp) (hb : Binds X.K fd ps []) : CallRK X (.builtin "sorted") [Str.ofString "key"] (rSortedF X.K f sp) := by
  intro pins s σ H vs zs us ws Q I r rz h
  obtain ⟨a, xs, ds, rfl, rfl, hs, hlen, hal, hk, hdep, call, q⟩ := h
  obtain rfl := Vals.ref1 r
  obtain ⟨w1, rfl, e1⟩ := vals1 rz
  obtain rfl : w1 = Value.ref f := e1
  obtain ⟨its, rv, hl, hz⟩ := I.list hs
  have hil : xs.length = its.length := rv.length
  have hZ : its.length ≤ sizeLine := by omega
  refine PySem.W.sorted_of_sort hl.isList hZ (PyProof.Rows.ksk_s1 _ _) (fun _ => PyProof.Rows.ksk_l1 _ _) fun E' => ?_
  show wpAny _ _ (Builtin.«list.sort» ⟨[.ref (s.heap.objs.size + 1)], [(Str.ofString "key", .ref f)]⟩) _ _ _
  rw [PyProof.Rows.ksk_t1]
  have hoL := PySem.W.copyHeap_at s.heap its
  have szc : (PySem.W.copyHeap s.heap its).objs.size = s.heap.objs.size + 2 := by
    unfold PySem.W.copyHeap
    rw [Heap.size_push, Heap.size_after_update, Heap.size_push]
  have k0 : ∀ b o, s.heap.get? b = some o → (PySem.W.sortingHeap (PySem.W.copyHeap s.heap its) (s.heap.objs.size + 1) its).get? b = some o := fun _ _ => PySem.W.sorting_copy_old
  generalize hL : s.heap.objs.size + 1 = L at hoL k0 ⊢
  obtain ⟨ep, ho1⟩ : ∃ ep, ((PySem.W.copyHeap s.heap its).update L (Obj.mapSeq fun _ => (#[] : Array Value))).get? L = some (PyProof.Rows.seqObj "list" #[] ep) := ⟨_, PyProof.Rows.get?_update_seq hoL fun _ => #[]⟩
  unfold PyProof.Rows.ksk_tree
  refine wpAny_bind (PyProof.Rows.listItems_at hoL rfl ?_)
  refine wpAny_bind (PyProof.Rows.listUpdate_at hoL rfl ?_ (by rw [List.size_toArray]; exact hZ) (Nat.zero_le _))
  refine wpAny_bind (PyProof.Rows.seqEpoch_at ho1 rfl ?_)
  refine wpAny_bind (wpAny_newTuple ?_ (by show its.length ≤ _; exact hZ))
  refine wpAny_bind (wpAny_newList ?_ (Nat.zero_le _))
  refine wpAny_holding ?_
  have hLS : (((PySem.W.copyHeap s.heap its).update L (Obj.mapSeq fun _ => (#[] : Array Value))).push (PyProof.Rows.seqObj "tuple" its.toArray 0)).objs.size = s.heap.objs.size + 3 := by rw [Heap.size_push, Heap.size_after_update, szc]
  have nk0 : (PySem.W.sortingHeap (PySem.W.copyHeap s.heap its) L its).get? (((PySem.W.copyHeap s.heap its).update L (Obj.mapSeq fun _ => (#[] : Array Value))).push (PyProof.Rows.seqObj "tuple" its.toArray 0)).objs.size = some (PyProof.Rows.seqObj "list" #[] 0) := Heap.get?_push_size _ rfl
  have nL0 : (PySem.W.sortingHeap (PySem.W.copyHeap s.heap its) L its).get? L = some (PyProof.Rows.seqObj "list" #[] ep) := Heap.get?_push_of_some _ (Heap.get?_push_of_some _ ho1)
  show wpAny (model X.prog X.w) X.A.in1.in1 (PyProof.Rows.ksk_rest L (.ref f) false its.toArray ep (.ref (((PySem.W.copyHeap s.heap its).update L (Obj.mapSeq fun _ => (#[] : Array Value))).push (PyProof.Rows.seqObj "tuple" its.toArray 0)).objs.size)) _ _ { s with heap := PySem.W.sortingHeap (PySem.W.copyHeap s.heap its) L its }
  generalize hkS : (((PySem.W.copyHeap s.heap its).update L (Obj.mapSeq fun _ => (#[] : Array Value))).push (PyProof.Rows.seqObj "tuple" its.toArray 0)).objs.size = kS at hLS nk0 ⊢
  generalize PySem.W.sortingHeap (PySem.W.copyHeap s.heap its) L its = h0 at k0 nk0 nL0 ⊢
  have hLs : s.heap.objs.size ≤ L := by omega
  have hkSs : s.heap.objs.size ≤ kS := by omega
  have hka : kS ≠ L := by omega
  have I0 : Inv (atA X X.A.in1.in1) pins σ H { s with heap := h0, toks := s.toks } := (inAt (A' := X.A.in1.in1) I (fun _ => hr.hd) rfl).kept (t' := s.toks) k0
  have fp : ∀ (b : Addr) (H' : Hp), s.heap.objs.size ≤ b → H' b = none → FpOk (atA X X.A.in1.in1) pins H' b := fun b H' hb' hn => (inAt (A' := X.A.in1.in1) I (fun _ => hr.hd) rfl).fpOk hb' hn
  have pk : ∀ {H' : Hp} {s' : Shared} {kA : Array Value} {e : Nat}, Inv (atA X X.A.in1.in1) pins σ H' s' → H' kS = none → H' L = none → s'.heap.get? kS = some (PyProof.Rows.seqObj "list" kA e) → s'.heap.get? L = some (PyProof.Rows.seqObj "list" #[] ep) →
      Inv (atA X X.A.in1.in1) (pins ++ [(L, PyProof.Rows.seqObj "list" #[] ep), (kS, PyProof.Rows.seqObj "list" kA e)]) σ H' s' := fun {H' s' kA e} I' n1 n2 g1 g2 => I'.pins_of fun p hp => by
    rcases List.mem_append.mp hp with hp | hp
    · exact I'.pin p (List.mem_append_right _ hp)
    · rcases List.mem_cons.mp hp with e2 | hp
      · subst e2
        exact ⟨g2, n2, (fp L H' hLs n2).2.1, (fp L H' hLs n2).2.2.1, fun v z => by cases z⟩
      · have e2 := List.mem_singleton.mp hp
        subst e2
        exact ⟨g1, n1, (fp kS H' hkSs n1).2.1, (fp kS H' hkSs n1).2.2.1, fun v z => by cases z⟩
  have upk : ∀ {H' : Hp} {s' : Shared} {kA : Array Value} {e : Nat}, Inv (atA X X.A.in1.in1) (pins ++ [(L, PyProof.Rows.seqObj "list" #[] ep), (kS, PyProof.Rows.seqObj "list" kA e)]) σ H' s' →
      Inv (atA X X.A.in1.in1) pins σ H' s' ∧ H' kS = none ∧ H' L = none ∧ s'.heap.get? kS = some (PyProof.Rows.seqObj "list" kA e) ∧ s'.heap.get? L = some (PyProof.Rows.seqObj "list" #[] ep) := fun {H' s' kA e} I' => by
    have a1 := I'.pin (kS, PyProof.Rows.seqObj "list" kA e) (by simp)
    have a2 := I'.pin (L, PyProof.Rows.seqObj "list" #[] ep) (by simp)
    exact ⟨I'.unpinned, a1.2.1, a2.2.1, a1.1, a2.1⟩
  unfold PyProof.Rows.ksk_rest
  refine wpAny_bind (wpAny_rule ?_)
  first
    | rw [List.forIn_toArray]
    | (rw [← Array.forIn_toList]; simp only [List.toList_toArray])
    | rw [← Array.forIn_toList]
  refine wpAny_bind (PyProof.Rows.ksk_fold (fun i s' => ∃ (H' : Hp) (kA : Array Value) (e : Nat) (ys : List V), Inv (atA X X.A.in1.in1) (pins ++ [(L, PyProof.Rows.seqObj "list" #[] ep), (kS, PyProof.Rows.seqObj "list" kA e)]) σ H' s' ∧ Kept H H' ∧ Vals ys kA.toList ∧ DpAll X.K H' ys (ds.take i)) its 0 _
    ⟨H, #[], 0, [], pk I0 (I.hok.fresh hkSs) (I.hok.fresh hLs) nk0 nL0, Kept.refl H, .nil, by rw [List.take_zero]; exact .nil⟩ ?step ?done)
  case step =>
    rintro j x s' hx ⟨H', kA, e, ys, I', kp, rv', dp'⟩
    simp only [Nat.zero_add] at dp' ⊢
    have hj : j < its.length := (List.getElem?_eq_some_iff.mp hx).1
    have hxj : xs[j]? = some (xs[j]'(by omega)) := List.getElem?_eq_getElem _
    have hdj : ds[j]? = some (ds[j]'(by omega)) := List.getElem?_eq_getElem _
    obtain ⟨u, hu', ru⟩ := rv.get hxj
    rw [hx] at hu'
    cases hu'
    have hrun := run_fn (X := atA X X.A.in1.in1) (k := k) F ⟨hr.hd, by have := hr.dp; show X.A.depth + 3 * k + 5 < _; omega, by have := hr.un; show X.A.units + 1 + 1 + 16 * k + 200 < _; omega⟩ hb .nil pass0 I' (.cons ru .nil) (call j _ _ H' hxj hdj kp)
    refine wpAny_bind (wpAny_attempt (thnF hrun fun v s'' ⟨y, H2, I2, ry, kp2, dy⟩ => ?_))
    try dsimp only
    obtain ⟨I3, n1, n2, g1, g2⟩ := upk I2
    have hsz : kA.size = j := by
      have h1 : ys.length = kA.size := by
        have z := rv'.length
        simpa using z
      have h2 := dpAll_len dp'
      rw [List.length_take] at h2
      have h3 : j ≤ ds.length := by omega
      rw [Nat.min_eq_left h3] at h2
      exact h1.symm.trans h2
    obtain ⟨c2, hc2⟩ : ∃ c2, (s''.heap.update kS (Obj.mapSeq (·.push v))).get? kS = some (PyProof.Rows.seqObj "list" (kA.push v) c2) := ⟨_, PyProof.Rows.get?_update_seq g1 (·.push v)⟩
    refine wpAny_bind (PyProof.Rows.listUpdate_at g1 rfl ?_ (by omega) (by rw [Array.size_push]; omega))
    obtain ⟨f0, f1, f2, f3, f4, f5⟩ := fp kS H2 hkSs n1
    have I4 : Inv (atA X X.A.in1.in1) pins σ H2 { s'' with heap := s''.heap.update kS (Obj.mapSeq (·.push v)), toks := s''.toks } := I3.turned (it := kS) (fun b o hbS e => (Heap.get?_update_other _ _ (Ne.symm hbS)).trans e) f0 f1 f3 f4 f5
    have ek : ds.take (j + 1) = ds.take j ++ [ds[j]'(by omega)] := by rw [List.take_add_one, hdj]; simp
    refine wpAny_pure ⟨rfl, H2, kA.push v, c2, ys ++ [y], pk I4 n1 n2 hc2 ((Heap.get?_update_other _ _ hka).trans g2), kp.trans kp2, ?_, ?_⟩
    · rw [Array.toList_push]
      exact rv'.append (.cons ry .nil)
    · rw [ek]
      exact dpAll_snoc (Kept.dpAll kp2 _ _ dp') dy
  case done =>
    rintro s' ⟨H', kA, e, ys, I', kp, rv', dp'⟩
    have e3 : ds.take (0 + its.length) = ds := List.take_of_length_le (by omega)
    rw [e3] at dp'
    obtain ⟨I3, n1, n2, g1, g2⟩ := upk I'
    try dsimp only
    refine wpAny_bind (PyProof.Rows.listItems_at g1 rfl ?_)
    have hly := dpAll_len dp'
    have hsz : kA.size = its.length := by
      have h1 : ys.length = kA.size := by
        have z := rv'.length
        simpa using z
      exact h1.symm.trans (hly.trans (hlen.symm.trans hil))
    have er := PySem.W.each_map (R := fun v d => ∃ as, Reads s'.heap v d as) (fun b : V × PyData => b.2) ((each_dp I3 rv' dp').mono fun _ _ z => z.2)
    rw [zip_snd hly] at er
    refine PySem.W.keyH_end (κ := PySem.W.dataKind s'.heap ds) (h₁ := s'.heap.update kS fun _ => ⟨.none, none, .freed, #[]⟩) (vs := its) (fun b o hbL eb => ?_) (freed_none _ _) g1 g2 hka (srt_sorts er hal hk fun d hm => ?_) hsz hZ fun h' tk c k3 n3 => ?_
    · by_cases hbS : b = kS
      · rw [hbS, freed_none] at eb
        cases eb
      · rw [Heap.get?_update_other _ _ (Ne.symm hbS)] at eb
        exact eb
    · have h1 := hdep d hm
      have h2 := hr.un
      show X.A.units + 1 + 1 + d.depth < cLine
      omega
    · have ko : PySem.W.KeyedOut false ((xs.zip ds).map fun b : V × PyData => b.2) its (PySem.W.sortVals (PySem.W.dataKind s'.heap ds) false kA.toList its) := by
        rw [zip_snd hlen]
        exact ⟨s'.heap, kA.toList, hal, rfl, er⟩
      have eR : PySem.W.EachIs (fun u (b : V × PyData) => RelV b.1 u) its (xs.zip ds) := by
        have aux : ∀ {xs : List V} {us : List Value} {ds : List PyData}, Vals xs us → xs.length = ds.length → PySem.W.EachIs (fun u (b : V × PyData) => RelV b.1 u) us (xs.zip ds) := by
          intro xs us ds r
          induction r generalizing ds with
          | nil => intro _; exact .nil
          | cons r1 r2 ih =>
            intro hl
            cases ds with
            | nil => cases hl
            | cons d ds => exact .cons r1 (ih (Nat.succ.inj hl))
        exact aux rv hlen
      have out := vals_each (PySem.W.keyedOut_each (R := fun u (b : V × PyData) => RelV b.1 u) (fun b : V × PyData => b.2) ko eR)
      refine ⟨rfl, .ref L, upd H' L (.lst (sortD xs ds)), outAt (take_in (t' := tk) (ch := [kS, L]) I3 (fun b ob hb' eb => ?_) (fun b hb' => ?_) (by simp) ⟨by rw [sortD_len hlen]; exact hz, _, c, out, n3⟩) I.ok, rfl, q H' kp L n2⟩
      · have hb1 : b ≠ kS := fun z => hb' (by simp [z])
        have hb2 : b ≠ L := fun z => hb' (by simp [z])
        exact k3 b ob hb2 ((Heap.get?_update_other _ _ (Ne.symm hb1)).trans eb)
      · rcases List.mem_cons.mp hb' with z | z
        · rw [z]; exact fp kS H' hkSs n1
        · rw [List.mem_singleton.mp z]; exact fp L H' hLs n2
end
end Ky

namespace Ky
open PySem PySem.Spec PyProof.Rows L2
/-! ### {k: v for ..} whose keys are tuples of numbers and texts -/
theorem dictSet_T {X : Cx} {pins : List (Addr × Obj)} {σ : L2.St} {H : Hp} {s : Shared} {E : Value → Shared → Prop} {D b : Addr} {kvs : List (List L2.Key × V)} {k : List L2.Key} {v : V} {r : Value} {Q : Unit → Shared → Prop} (hu : X.A.units + 1 < cLine) (I : Inv X pins σ H s) (hD : H D = some (.dT kvs)) (hb : H b = some (.tup (k.map kV)))
    (hz : kvs.length < sizeLine) (rv : RelV v r) (h : ∀ s', Inv X pins σ (upd H D (.dT (putK kvs k v))) s' → Q () s') : wpAny (model X.prog X.w) X.A (dictSet D (.ref b) r) Q E s := by
  obtain ⟨z, hd, xs, rel, dd⟩ := dt_of I.hok hD
  have hzx : xs.length ≤ sizeLine := by rw [← Paired.length rel]; exact z
  have hl : (putK kvs k v).length ≤ sizeLine := by have := length_putK kvs k v; omega
  refine wpAny_dictSet_heap (hsz := hzx) (show X.A.units < cLine by omega) (key_of I.hok hb) dd fun h' dd' hs => h _ ?_
  obtain ⟨q, es, ep, hq, h2, h3, h4, _, h5⟩ := dd'
  refine d_write I (by rw [hD]; exact True.intro) hs ⟨q, hq⟩ ⟨hl, hd, _, (rel.put k hb rv).keeps fun c ys ec => ?_, q, es, ep, hq, h2, h3, h4, h5⟩
  rw [upd_ne (ne_of ec hD (fun z => nomatch z))]
  exact ec
def tDcT (wi : TI) (g : TG) (tt : TT) (tk tv : TE) (vs : List Nat) : TE := fun σ H Q => wi σ H fun J H1 => ∀ D, H1 D = none → ∃ W : Nat → Nat → Hp → Prop, (∃ m, W 0 m (upd H1 D (.dT []))) ∧ ∀ i m H, W i m H →
  (J.stop i H ∧ Q (.ref D) H) ∨ (J.go i H ∧ ∃ Nx : Hp → Prop, (∀ H', Nx H' → ∃ m', m' < m ∧ W (i + 1) m' H') ∧ ∀ x H', J.yld i H x H' → g x (wipe σ vs) H' fun σ2 H2 => wipe σ2 vs = wipe σ vs ∧ tt σ2 H2 fun b H3 =>
    if b = true then tk σ2 H3 fun y H4 => tv σ2 H4 fun z H5 => ∃ kvs k p, y = .ref p ∧ H5 p = some (.tup (k.map kV)) ∧ H5 D = some (.dT kvs) ∧ kvs.length < sizeLine ∧ Nx (upd H5 D (.dT (putK kvs k z))) else Nx H3)
theorem dcT_core {X : Cx} {pins : List (Addr × Obj)} {s : Shared} {σ : L2.St} {H : Hp} {Q : VK} {kx vx tg iter : Expr} {ifs : List Expr} {scope : Scope} {own : List (Str × Nat)} {pos pos' : Pos} {wi : TI} {g : TG} {tt : TT} {tk tv : TE} {use : Option (Value → Sem Unit)} {Qf : Value → Shared → Prop} (hu : X.A.units + 1 < cLine) (hc : X.calm = true) (hN : X.N.Nodup) (hi : PI X tg iter wi) (ok : BlkOk X.N X.env.scope scope own)
    (hg : ∀ (s : Shared) (H : Hp) (C : Addr) (cl : List (Str × Addr)) (fp : List Addr), PG (X.blk s H scope (compEnvC scope cl C X.env) fp) tg g) (ht : ∀ (s : Shared) (H : Hp) (C : Addr) (cl : List (Str × Addr)) (fp : List Addr), PTs (X.blk s H scope (compEnvC scope cl C X.env) fp) ifs tt)
    (hk : ∀ (s : Shared) (H : Hp) (C : Addr) (cl : List (Str × Addr)) (fp : List Addr), PE (X.blk s H scope (compEnvC scope cl C X.env) fp) kx tk)
    (he : ∀ (s : Shared) (H : Hp) (C : Addr) (cl : List (Str × Addr)) (fp : List Addr), PE (X.blk s H scope (compEnvC scope cl C X.env) fp) vx tv) (hs : ∀ x, foldedSetIterable iter X.env x = pure x) (I : Inv X pins σ H s) (h : tDcT wi g tt tk tv (own.map (·.2)) σ H Q)
    (hRR : ∀ D C s' m H', Inv X pins σ H' s' → Q (.ref D) H' → s'.heap.Ns C m → FpOk X pins H' C → compPost (model X.prog X.w) X.A X.xe use Qf (.ref D) C (.ok .next) s') :
    wpAny (model X.prog X.w) X.A (comprehension (.DictComp kx vx [⟨tg, iter, ifs, 0⟩] scope pos) scope X.env pos' newDict false (eval iter X.env) use) Qf X.xe s := by
  have hfree : ∀ y ∈ scope.names, y.2 = .free → ∃ c, X.env.cells.lookup y.1 = some c := fun y hy e => (ok.free y hy e).elim (fun k => I.ok.has _ (.inl k)) fun k => I.ok.has _ (.inr k)
  refine wpAny_comprehension_free (use := use) rfl hs (closure_ok hfree) ok.kind (fun y hy e => by rw [ok.uniq y hy, e]) (thn (hi.run pins s σ H _ I h) fun xv s1 hx => thn hx fun itv s2 h2 => ?_)
  obtain ⟨it, fp, tn, J, H2, rfl, I2, T, st2, f2, q⟩ := h2
  refine wpAny_newObj_type (newEnv_comp ?_)
  have hDn : H2 s2.heap.objs.size = none := I2.hok.fresh (Nat.le_refl _)
  obtain ⟨W, ⟨m0, w0⟩, turn⟩ := q _ hDn
  have I3 : Inv X pins σ (upd H2 s2.heap.objs.size (.dT [])) { s2 with heap := s2.heap.push { cls := .type "dict", data := .dict #[] }, toks := s2.toks } := I2.laid (fun b o e => Heap.get?_push_of_some _ e) (Nat.le_refl _) (dt_empty s2.heap I2.big)
  have sz : ∀ b ∈ fp, b < s2.heap.objs.size := fun b hb => let ⟨_, e, _⟩ := T.obj _ _ st2 b hb; Heap.lt_size e
  have st3 : tn 0 (s2.heap.push { cls := .type "dict", data := .dict #[] }) := T.keep _ _ _ st2 fun b _ o e => Heap.get?_push_of_some _ e
  have f3 : ∀ b ∈ fp, FpOk X pins (upd H2 s2.heap.objs.size (.dT [])) b ∧ b < (s2.heap.push ({ cls := .type "dict", data := .dict #[] } : Obj)).objs.size := fun b hb => by
    refine ⟨⟨?_, (f2 b hb).2⟩, by rw [Heap.size_push]; exact Nat.lt_succ_of_lt (sz b hb)⟩
    rw [upd_ne (Nat.ne_of_lt (sz b hb))]
    exact (f2 b hb).1
  generalize s2.heap.objs.size = D at hDn turn w0 I3 f3 ⊢
  generalize hH3 : upd H2 D (.dT []) = H3 at I3 w0 f3
  generalize hs3 : ({ s2 with heap := s2.heap.push { cls := .type "dict", data := .dict #[] }, toks := s2.toks } : Shared) = s3 at I3 ⊢
  have h3 : s3.heap = s2.heap.push { cls := .type "dict", data := .dict #[] } := by rw [← hs3]
  rw [← h3] at st3
  have f3 : ∀ b ∈ fp, FpOk X pins H3 b ∧ b < s3.heap.objs.size := fun b hb => by rw [h3]; exact f3 b hb
  have I4 := block_start I3 ok hN f3
  have pg := hg s3 H3 s3.heap.objs.size (cellsFrom (s3.heap.objs.size + 1) scope.names (cloFrom X.env.cells scope.names [])) fp
  have pt := ht s3 H3 s3.heap.objs.size (cellsFrom (s3.heap.objs.size + 1) scope.names (cloFrom X.env.cells scope.names [])) fp
  have pk := hk s3 H3 s3.heap.objs.size (cellsFrom (s3.heap.objs.size + 1) scope.names (cloFrom X.env.cells scope.names [])) fp
  have pe := he s3 H3 s3.heap.objs.size (cellsFrom (s3.heap.objs.size + 1) scope.names (cloFrom X.env.cells scope.names [])) fp
  have nfp : ∀ b ∈ fp, H3 b = none := fun b hb => (f3 b hb).1.1
  show codeAny _ _ (.compStart (.DictComp kx vx [⟨tg, iter, ifs, 0⟩] scope pos) 0 (.ref it) (.ref D) (compEnvC scope (cellsFrom (s3.heap.objs.size + 1) scope.names (cloFrom X.env.cells scope.names [])) s3.heap.objs.size X.env)) _ { s3 with heap := pushCells (s3.heap.push { cls := .type "dict", data := .dict #[] }) scope.names }
  have cL : (compEnvC scope (cellsFrom (s3.heap.objs.size + 1) scope.names (cloFrom X.env.cells scope.names [])) s3.heap.objs.size X.env).locals = s3.heap.objs.size := rfl
  generalize compEnvC scope (cellsFrom (s3.heap.objs.size + 1) scope.names (cloFrom X.env.cells scope.names [])) s3.heap.objs.size X.env = ce at I4 pg pt pk pe cL ⊢
  have st4 : tn 0 (pushCells (s3.heap.push { cls := .type "dict", data := .dict #[] }) scope.names) := T.keep _ _ _ st3 fun b _ o e => pushCells_keeps _ _ _ _ (Heap.get?_push_of_some _ e)
  generalize hs4 : ({ s3 with heap := pushCells (s3.heap.push { cls := .type "dict", data := .dict #[] }) scope.names } : Shared) = s4 at I4 ⊢
  have st4 : tn 0 s4.heap := by rw [← hs4]; exact st4
  have stat : ∀ {σ' : L2.St} {H' : Hp} {s' : Shared}, Inv (X.blk s3 H3 scope ce fp) [] σ' H' s' → (∀ b ∈ fp, H' b = none) → ∀ b ∈ fp, FpOk (X.blk s3 H3 scope ce fp) [] H' b := fun {σ' H' s'} I' hn b hb =>
    ⟨hn b hb, (I'.ok.exf b hb).1, I'.ok.exfs b hb, .inl hb, fun x c e => (I'.ok.exf b hb).2 x c e, fun p hp => absurd (show p ∈ ([] : List (Addr × Obj)) ++ [] from hp) (by simp)⟩
  refine codeAny_compStart_dict ?loop (T.self X.A 0 _ _ _ st4 ?loop)
  refine compLoop_anyD (fun n s' => ∃ i H', Inv (X.blk s3 H3 scope ce fp) [] (wipe σ (own.map (·.2))) H' s' ∧ tn i s'.heap ∧ (∀ b ∈ fp, H' b = none) ∧ W i n H') ?_ m0 ⟨0, H3, I4, st4, nfp, w0⟩
  rintro n s5 ⟨i, H5, I5, st5, n5, w5⟩
  rcases turn i n H5 w5 with ⟨stop, qq⟩ | ⟨go, Nx, hNx, step⟩
  · refine thnF (T.done (X.blk s3 H3 scope ce fp) rfl rfl rfl hc i [] s5 _ H5 (fun _ _ => False) I5 (stat I5 n5) st5 stop) fun r s6 ⟨hr, I6⟩ => ?_
    subst hr
    have I7 : Inv X pins σ H5 s6 := I3.call' (ch := fp) I6.os I6.base I6.hok I6.bare fun b hb => ⟨(f3 b hb).1.2.2.2.1, (f3 b hb).1.2.1, (f3 b hb).1.2.2.2.2.1, (f3 b hb).1.2.2.2.2.2⟩
    have nC : H5 ce.locals = none := I6.free
    obtain ⟨m, hn, _⟩ := I6.loc
    have hn : s6.heap.Ns ce.locals m := hn
    rw [cL] at nC hn
    exact hRR D _ s6 m H5 I7 qq hn (I3.fpOk (Nat.le_refl _) nC)
  · refine thnF (T.item (X.blk s3 H3 scope ce fp) rfl rfl rfl hc i [] s5 _ H5 (fun _ _ => False) I5 (stat I5 n5) st5 go) fun r s6 ⟨u, hr, h6⟩ => ?_
    subst hr
    refine thnF h6 fun _ s7 ⟨x, H7, I7, r7, y7, st7, n7⟩ => ?_
    refine thnF (pg.run _ s7 _ H7 x u _ (I7.pinned (stat I7 n7) (T.obj _ _ st7)) r7 (step x H7 y7)) fun _ s8 ⟨σ8, H8, I8, hw8, q8⟩ => ?_
    refine thnF (pt.run _ s8 σ8 H8 _ I8 q8) fun b s9 ⟨H9, I9, q9⟩ => ?_
    have fin : ∀ {s' : Shared} {H' : Hp}, Inv (X.blk s3 H3 scope ce fp) ([] ++ pinsAt fp s7.heap) σ8 H' s' → Nx H' → ∃ m, m < n ∧ ∃ i H', Inv (X.blk s3 H3 scope ce fp) [] (wipe σ (own.map (·.2))) H' s' ∧ tn i s'.heap ∧ (∀ b ∈ fp, H' b = none) ∧ W i m H' := fun {s' H'} I' nx => by
      obtain ⟨m', hm, w'⟩ := hNx H' nx
      have pin' : ∀ b ∈ fp, ∀ o, s7.heap.get? b = some o → s'.heap.get? b = some o ∧ H' b = none := fun b hb o e =>
        let z := I'.pin (b, o) (List.mem_append_right _ (List.mem_append_right _ (mem_pinsAt hb e)))
        ⟨z.1, z.2.1⟩
      refine ⟨m', hm, i + 1, H', (I'.unpinned (pins := [])).weak (by rw [← hw8, wipe_length]) (fun j v e => ?_), T.keep _ _ _ st7 fun b hb o e => (pin' b hb o e).1, fun b hb => ?_, w'⟩
      · rw [← hw8] at e
        exact (wipe_some e).1
      · obtain ⟨o, e, _⟩ := T.obj _ _ st7 b hb
        exact (pin' b hb o e).2
    cases b with
    | false =>
      simp only [Bool.false_eq_true, if_false] at q9 ⊢
      exact fin I9 q9
    | true =>
      simp only [if_true] at q9 ⊢
      refine thnF (pk.run _ s9 σ8 H9 _ I9 q9) fun z s10 ⟨yk, H10, I10, r10, q10⟩ => ?_
      refine thnF (pe.run _ s10 σ8 H10 _ I10 q10) fun z2 s11 ⟨yv, H11, I11, r11, kvs, k, p, ek, hp, hD11, hz11, nx⟩ => ?_
      subst ek
      obtain rfl : z = Value.ref p := r10
      exact dictSet_T (X := X.blk s3 H3 scope ce fp) hu I11 hD11 hp hz11 r11 fun s12 I12 => fin I12 nx
theorem pe_dcT {X : Cx} {kx vx tg iter : Expr} {ifs : List Expr} {scope : Scope} {own : List (Str × Nat)} {pos : Pos} {wi : TI} {g : TG} {tt : TT} {tk tv : TE} (hu : X.A.units + 1 < cLine) (hc : X.calm = true) (hN : X.N.Nodup) (hi : PI X tg iter wi) (ok : BlkOk X.N X.env.scope scope own)
    (hg : ∀ (s : Shared) (H : Hp) (C : Addr) (cl : List (Str × Addr)) (fp : List Addr), PG (X.blk s H scope (compEnvC scope cl C X.env) fp) tg g) (ht : ∀ (s : Shared) (H : Hp) (C : Addr) (cl : List (Str × Addr)) (fp : List Addr), PTs (X.blk s H scope (compEnvC scope cl C X.env) fp) ifs tt)
    (hk : ∀ (s : Shared) (H : Hp) (C : Addr) (cl : List (Str × Addr)) (fp : List Addr), PE (X.blk s H scope (compEnvC scope cl C X.env) fp) kx tk)
    (he : ∀ (s : Shared) (H : Hp) (C : Addr) (cl : List (Str × Addr)) (fp : List Addr), PE (X.blk s H scope (compEnvC scope cl C X.env) fp) vx tv) (hs : ∀ x, foldedSetIterable iter X.env x = pure x := by intro _; rfl) :
    PE X (.DictComp kx vx [⟨tg, iter, ifs, 0⟩] scope pos) (tDcT wi g tt tk tv (own.map (·.2))) := by
  refine ⟨fun pins s σ H Q I h => ?_⟩
  rw [arm_eval_DictComp]
  refine dcT_core hu hc hN hi ok hg ht hk he hs I h fun D C s' m H' I' q hn f => ⟨m, hn, fun h'' sb => ?_⟩
  obtain ⟨f0, f1, f2, f3, f4, f5⟩ := f
  exact ⟨.ref D, H', I'.turned (t' := s'.toks) (fun b o hb e => (sb.2 b hb).trans e) f0 f1 f3 f4 f5, rfl, q⟩
/-- name = {..} on one line, the name a local -/
theorem ps_setDcT {X : Cx} {i : Nat} {y : Str} {py : Pos} {kx vx tg iter : Expr} {ifs : List Expr} {scope : Scope} {own : List (Str × Nat)} {pos spos : Pos} {wi : TI} {g : TG} {tt : TT} {tk tv : TE} (hy : X.N[i]? = some y) (hyl : X.env.scope.names.lookup y = some .local)
    (hsw : swapsWith (.DictComp kx vx [⟨tg, iter, ifs, 0⟩] scope pos) (some (.Name y py)) spos.line X.env = pure true) (hu : X.A.units + 1 < cLine) (hc : X.calm = true) (hN : X.N.Nodup) (hi : PI X tg iter wi) (ok : BlkOk X.N X.env.scope scope own)
    (hg : ∀ (s : Shared) (H : Hp) (C : Addr) (cl : List (Str × Addr)) (fp : List Addr), PG (X.blk s H scope (compEnvC scope cl C X.env) fp) tg g) (ht : ∀ (s : Shared) (H : Hp) (C : Addr) (cl : List (Str × Addr)) (fp : List Addr), PTs (X.blk s H scope (compEnvC scope cl C X.env) fp) ifs tt)
    (hk : ∀ (s : Shared) (H : Hp) (C : Addr) (cl : List (Str × Addr)) (fp : List Addr), PE (X.blk s H scope (compEnvC scope cl C X.env) fp) kx tk)
    (he : ∀ (s : Shared) (H : Hp) (C : Addr) (cl : List (Str × Addr)) (fp : List Addr), PE (X.blk s H scope (compEnvC scope cl C X.env) fp) vx tv) (hs : ∀ x, foldedSetIterable iter X.env x = pure x := by intro _; rfl) :
    PS X (.Assign [.Name y py] (.DictComp kx vx [⟨tg, iter, ifs, 0⟩] scope pos) spos) (tAsg (tDcT wi g tt tk tv (own.map (·.2))) (gName i)) := by
  refine ⟨fun pins s σ H D I h => ?_⟩
  rw [exec_Assign_Name_used _ _ _ _ hsw]
  refine wpAny_bind (wpAny_standAt (wpAny_bind ?_))
  show wpAny _ X.A (do let _ ← comprehension (.DictComp kx vx [⟨tg, iter, ifs, 0⟩] scope pos) scope X.env (firstIterPos [⟨tg, iter, ifs, 0⟩] pos) newDict false (eval iter X.env) (some (assign (.Name y py) X.env))) _ _ s
  have h : tDcT wi g tt tk tv (own.map (·.2)) σ H (fun x H1 => gName i x σ H1 D.nx) := h
  refine wpAny_bind (thn (dcT_core (Qf := fun _ s' => SP X pins D .next s') hu hc hN hi ok hg ht hk he hs I h fun L C s' m H' I' q hn f => ?_) fun _ s' hq => wpAny_pure (wpAny_pure hq))
  show wpAny _ _ (assign (.Name y py) X.env (.ref L)) _ _ _
  refine wpAny_assign_Name (store_ok2 (v := V.ref L) I' hN hy (.inl hyl) rfl (fun s2 I2 ⟨a, sb, ha⟩ => ?_) (.inr hyl))
  obtain ⟨f0, f1, f2, f3, f4, f5⟩ := f
  have haC : C ≠ a := by
    rcases ha with z | z
    · rw [z]; exact f1
    · exact fun e => f4 y a z e.symm
  refine ⟨m, hn.sameBut sb haC, fun h3 sb3 => ?_⟩
  exact ⟨_, H', I2.turned (t' := s2.toks) (fun b o hb e => (sb3.2 b hb).trans e) f0 f1 f3 f4 f5, q⟩
theorem sw_trueD {kx vx : Expr} {gs : List Comprehension} {scope : Scope} {pos py : Pos} {y : Str} {l : Nat} {env : Env} (hk : env.scope.kind = .function) (hy : env.scope.names.lookup y = some .local) (hl : (py.line == pos.line) = true)
    (ha : (scope.names.any fun (n, k) => n == y && (k == .local || k == .cell)) = false) : swapsWith (.DictComp kx vx gs scope pos) (some (.Name y py)) l env = pure true := by
  have ky : env.kindOf y = some .local := hy
  have hb : env.blockKind = .function := by unfold Env.blockKind; rw [hk]; rfl
  unfold swapsWith
  simp only [hb, ky, ha, Expr.pos, hl]
  rfl
end Ky

namespace Ky
open PySem PySem.Spec PyProof.Rows L2
/-! ### {k for row in rows for x in row}, k a number -/
abbrev sc2 (elt t0 i0 t1 i1 : Expr) (scope : Scope) (pos : Pos) : Expr := .SetComp elt [⟨t0, i0, [], 0⟩, ⟨t1, i1, [], 0⟩] scope pos
theorem turn_out (elt t0 i0 t1 i1 : Expr) (scope : Scope) (pos : Pos) (it acc : Value) (env : Env) : compTurn (sc2 elt t0 i0 t1 i1 scope pos) 0 it acc env = (do
      standAt i0.pos
      match ← pyNext it with
      | none => pure (.done .next)
      | some v =>
        letOwnedTupleGo t0 it v
        assign t0 env v
        let mut ok := true
        for c in ([] : List Expr) do
          if ok then ok ← isTrue c env (eval c env)
        if ok then
          let x ← eval i1 env
          standAt i1.pos
          let x ← foldedSetIterable i1 env x
          let _ ← runOwn (.compStart (sc2 elt t0 i0 t1 i1 scope pos) 1 (← holding [x] (pyIter x)) acc env) env
        again (.compLoop (sc2 elt t0 i0 t1 i1 scope pos) 0 it acc env)) := by rfl
theorem turn_in (elt t0 i0 t1 i1 : Expr) (scope : Scope) (pos : Pos) (it acc : Value) (env : Env) : compTurn (sc2 elt t0 i0 t1 i1 scope pos) 1 it acc env = (do
      standAt i1.pos
      match ← pyNext it with
      | none => pure (.done .next)
      | some v =>
        letOwnedTupleGo t1 it v
        assign t1 env v
        let mut ok := true
        for c in ([] : List Expr) do
          if ok then ok ← isTrue c env (eval c env)
        if ok then
          (do let v ← eval elt env; standAt elt.pos; let _ ← call (.builtin "set.add") [acc, v])
        again (.compLoop (sc2 elt t0 i0 t1 i1 scope pos) 1 it acc env)) := by rfl
section
variable {prog : Program} {w : World} {A : Around} {R : Result → Shared → Prop} {s : Shared} {elt t0 i0 t1 i1 : Expr} {scope : Scope} {pos : Pos} {it acc : Value} {env : Env}
theorem loop_out (hs : ∀ x, foldedSetIterable i1 env x = pure x) (I : Nat → Shared → Prop)
    (turn : ∀ n s, I n s → wpAny (model prog w) A (pyNext it) (fun r s1 => match r with
      | none => R (.ok .next) s1
      | some v => wpAny (model prog w) A (letOwnedTupleGo t0 it v) (fun _ s2 => wpAny (model prog w) A (assign t0 env v) (fun _ s3 => wpAny (model prog w) A (eval i1 env) (fun x s4 => wpAny (model prog w) A (pyIter x) (fun it1 s5 =>
          codeAny (model prog w) A (.compStart (sc2 elt t0 i0 t1 i1 scope pos) 1 it1 acc env) (fun r s' => match r with
            | .ok _ => ∃ m, m < n ∧ I m s'
            | .error _ => False) s5) (fun _ _ => False) s4) (fun _ _ => False) s3) (fun _ _ => False) s2) (fun _ _ => False) s1) (fun _ _ => False) s) (n : Nat) (h : I n s) :
    codeAny (model prog w) A (.compLoop (sc2 elt t0 i0 t1 i1 scope pos) 0 it acc env) R s := by
  refine codeAny_loop rfl I (fun n s hI => ?_) n h
  show wpAny _ A ((compTurn (sc2 elt t0 i0 t1 i1 scope pos) 0 it acc env).onRaise (fun x => do noteFrame x env; theTreesLotGoes x)) _ _ s
  refine wpAny_noted ?_
  rw [turn_out]
  refine wpAny_bind (wpAny_standAt (wpAny_bind (thnF (turn n s hI) fun r s1 h1 => ?_)))
  cases r with
  | none => exact wpAny_pure h1
  | some v =>
    refine wpAny_bind (thnF h1 fun _ s2 h2 => ?_)
    refine wpAny_bind (thnF h2 fun _ s3 h3 => ?_)
    simp only [List.forIn_nil]
    refine wpAny_bind (wpAny_pure ?_)
    simp only [if_true]
    refine wpAny_bind (thnF h3 fun x s4 h4 => ?_)
    refine wpAny_bind (wpAny_standAt (wpAny_bind (wpAny_of_eq (hs x) (wpAny_bind (wpAny_holding (thnF h4 fun it1 s5 h5 => ?_))))))
    refine wpAny_bind (wpAny_runOwn ?_)
    rw [Around.mark_none]
    refine codeAny_mono h5 fun r s' hr => ?_
    cases r with
    | ok f =>
      first
        | exact wpAny_pure ⟨rfl, hr⟩
        | exact wpAny_bind (wpAny_pure (wpAny_pure ⟨rfl, hr⟩))
    | error e => exact hr.elim
theorem loop_in (I : Nat → Shared → Prop)
    (turn : ∀ n s, I n s → wpAny (model prog w) A (pyNext it) (fun r s1 => match r with
      | none => R (.ok .next) s1
      | some v => wpAny (model prog w) A (letOwnedTupleGo t1 it v) (fun _ s2 => wpAny (model prog w) A (assign t1 env v) (fun _ s3 => wpAny (model prog w) A (eval elt env) (fun x s4 =>
          wpAny (model prog w) A (call (.builtin "set.add") [acc, x]) (fun _ s5 => ∃ m, m < n ∧ I m s5) (fun _ _ => False) s4) (fun _ _ => False) s3) (fun _ _ => False) s2) (fun _ _ => False) s1) (fun _ _ => False) s) (n : Nat) (h : I n s) :
    codeAny (model prog w) A (.compLoop (sc2 elt t0 i0 t1 i1 scope pos) 1 it acc env) R s := by
  refine codeAny_loop rfl I (fun n s hI => ?_) n h
  show wpAny _ A ((compTurn (sc2 elt t0 i0 t1 i1 scope pos) 1 it acc env).onRaise (fun x => do noteFrame x env; theTreesLotGoes x)) _ _ s
  refine wpAny_noted ?_
  rw [turn_in]
  refine wpAny_bind (wpAny_standAt (wpAny_bind (thnF (turn n s hI) fun r s1 h1 => ?_)))
  cases r with
  | none => exact wpAny_pure h1
  | some v =>
    refine wpAny_bind (thnF h1 fun _ s2 h2 => ?_)
    refine wpAny_bind (thnF h2 fun _ s3 h3 => ?_)
    simp only [List.forIn_nil]
    refine wpAny_bind (wpAny_pure ?_)
    simp only [if_true]
    exact wpAny_bind (wpAny_bind (thnF h3 fun x s4 h4 => wpAny_bind (wpAny_standAt (wpAny_bind (thnF h4 fun _ s5 h5 => wpAny_pure (wpAny_pure ⟨rfl, h5⟩))))))
theorem start_in (h0 : codeAny (model prog w) A (.compLoop (sc2 elt t0 i0 t1 i1 scope pos) 1 it acc env) R s)
    (h : ∀ (Q : Value → Shared → Prop) (E : Value → Shared → Prop), Q it s → wpAny (model prog w) A (pyIter it) Q E s) : codeAny (model prog w) A (.compStart (sc2 elt t0 i0 t1 i1 scope pos) 1 it acc env) R s := by
  refine codeAny_of_tree ?_
  show wpAny _ _ ((compStart (sc2 elt t0 i0 t1 i1 scope pos) 1 it acc env).onRaise (fun x => do noteFrame x env; standAt theWindowsPlace)) _ _ s
  refine wpAny_notedAt ?_
  unfold compStart
  show wpAny _ _ (ask >>= _) _ _ s
  refine wpAny_bind (wpAny_askSetting (wpAny_ite ?_))
  split
  · first
      | exact wpAny_bind (wpAny_pure (wpAny_pure (And.intro rfl h0)))
      | exact wpAny_pure (And.intro rfl h0)
  · refine wpAny_bind (wpAny_rule ?_)
    show wpAny _ _ (standAt i1.pos >>= _) _ _ s
    exact wpAny_bind (wpAny_standAt (wpAny_bind (h _ _ (wpAny_pure (And.intro rfl h0)))))
end
section
variable {X : Cx} {pins : List (Addr × Obj)} {σ : L2.St} {H : Hp} {s : Shared}
theorem sadd_ok {E : Value → Shared → Prop} {a : Addr} {k : Int} {u : Value} {S : Int → Bool} {n : Nat} {Q : Value → Shared → Prop} (I : Inv X pins σ H s) (ha : H a = some (SetO X.w a S n)) (room : n + 1 < scanBound) (r : RelV (.int k) u)
    (h : ∀ s', Inv X pins σ (upd H a (SetO X.w a (fun j => S j || decide (j = k)) (if S k = true then n else n + 1))) s' → Q .none s') : wpAny (model X.prog X.w) X.A (call (.builtin "set.add") [.ref a, u]) Q E s := by
  obtain ⟨tk, rfl⟩ := r
  refine setR_add (setO_get I ha) room fun h' sb new => ?_
  have he : ∃ u, h'.get? a = some u := by
    have ⟨o, _, _, _, ho, _⟩ := new
    exact ⟨o, ho⟩
  exact h _ (I.write (e := a) (t' := s.toks + 1) (by rw [ha]; trivial) (.inl rfl) (fun b u hb hu => (sb.2 b hb).trans hu) he (setO_new new))
/-- its reading: for each item of the outer walk the inner walk -/
def tSc2 (w : World) (wi : TI) (g : TG) (wi1 : TI) (g1 : TG) (te : TE) (vs vs1 : List Nat) : TE := fun σ H Q => wi σ H fun J H1 => ∀ D, H1 D = none → ∃ W : Nat → Nat → Hp → Prop, (∃ m, W 0 m (upd H1 D (SetO w D (fun _ => false) 0))) ∧ ∀ i m H, W i m H →
  (J.stop i H ∧ Q (.ref D) H) ∨ (J.go i H ∧ ∃ Nx : Hp → Prop, (∀ H', Nx H' → ∃ m', m' < m ∧ W (i + 1) m' H') ∧ ∀ x H', J.yld i H x H' → g x (wipe σ vs) H' fun σ2 H2 => wipe σ2 vs = wipe σ vs ∧
    wi1 σ2 H2 fun J1 H4 => ∃ W1 : Nat → Nat → Hp → Prop, (∃ m, W1 0 m H4) ∧ ∀ j k H, W1 j k H →
      (J1.stop j H ∧ Nx H) ∨ (J1.go j H ∧ ∃ Nx1 : Hp → Prop, (∀ H', Nx1 H' → ∃ k', k' < k ∧ W1 (j + 1) k' H') ∧ ∀ x H', J1.yld j H x H' → g1 x (wipe σ2 vs1) H' fun σ3 H5 => wipe σ3 vs1 = wipe σ2 vs1 ∧
        te σ3 H5 fun y H7 => ∃ (c : Int) (S : Int → Bool) (n : Nat), y = .int c ∧ H7 D = some (SetO w D S n) ∧ n + 1 < scanBound ∧ Nx1 (upd H7 D (SetO w D (fun j => S j || decide (j = c)) (if S c = true then n else n + 1)))))
theorem pe_sc2 {elt tg iter tg1 iter1 : Expr} {scope : Scope} {own : List (Str × Nat)} {vs1 : List Nat} {pos : Pos} {wi wi1 : TI} {g g1 : TG} {te : TE} (hc : X.calm = true) (hN : X.N.Nodup) (hi : PI X tg iter wi) (ok : BlkOk X.N X.env.scope scope own) (hv : ∀ i ∈ vs1, i ∈ own.map (·.2))
    (hg : ∀ (s : Shared) (H : Hp) (C : Addr) (cl : List (Str × Addr)) (fp : List Addr), PG (X.blk s H scope (compEnvC scope cl C X.env) fp) tg g)
    (hi1 : ∀ (s : Shared) (H : Hp) (C : Addr) (cl : List (Str × Addr)) (fp : List Addr), PI (X.blk s H scope (compEnvC scope cl C X.env) fp) tg1 iter1 wi1)
    (hg1 : ∀ (s : Shared) (H : Hp) (C : Addr) (cl : List (Str × Addr)) (fp : List Addr), PG (X.blk s H scope (compEnvC scope cl C X.env) fp) tg1 g1)
    (he : ∀ (s : Shared) (H : Hp) (C : Addr) (cl : List (Str × Addr)) (fp : List Addr), PE (X.blk s H scope (compEnvC scope cl C X.env) fp) elt te) (hs : ∀ x, foldedSetIterable iter X.env x = pure x := by intro _; rfl) (hs1 : ∀ env x, foldedSetIterable iter1 env x = pure x := by intro _ _; rfl) :
    PE X (sc2 elt tg iter tg1 iter1 scope pos) (tSc2 X.w wi g wi1 g1 te (own.map (·.2)) vs1) := by
  refine ⟨fun pins s σ H Q I h => ?_⟩
  rw [PpSet.eval_SetComp]
  have hfree : ∀ y ∈ scope.names, y.2 = .free → ∃ c, X.env.cells.lookup y.1 = some c := fun y hy e => (ok.free y hy e).elim (fun k => I.ok.has _ (.inl k)) fun k => I.ok.has _ (.inr k)
  refine wpAny_comprehension_free rfl hs (closure_ok hfree) ok.kind (fun y hy e => by rw [ok.uniq y hy, e]) (thn (hi.run pins s σ H _ I h) fun xv s1 hx => thn hx fun itv s2 h2 => ?_)
  obtain ⟨it, fp, tn, J, H2, rfl, I2, T, st2, f2, q⟩ := h2
  refine PpSet.newSet_ok (newEnv_comp ?_)
  have hDn : H2 s2.heap.objs.size = none := I2.hok.fresh (Nat.le_refl _)
  obtain ⟨W, ⟨m0, w0⟩, turn⟩ := q _ hDn
  generalize hob : ({ cls := .type "set", dict := none, data := .set #[] 0 (.fresh 0 0 (!X.w.params.followText "set-order")) } : Obj) = ob
  have I3 : Inv X pins σ (upd H2 s2.heap.objs.size (SetO X.w s2.heap.objs.size (fun _ => false) 0)) { s2 with heap := s2.heap.push ob, toks := s2.toks } := I2.laid (fun b o e => Heap.get?_push_of_some _ e) (Nat.le_refl _) (setO_new (by rw [← hob]; exact setR_fresh X.w))
  have sz : ∀ b ∈ fp, b < s2.heap.objs.size := fun b hb => let ⟨_, e, _⟩ := T.obj _ _ st2 b hb; Heap.lt_size e
  have st3 : tn 0 (s2.heap.push ob) := T.keep _ _ _ st2 fun b _ o e => Heap.get?_push_of_some _ e
  have f3 : ∀ b ∈ fp, FpOk X pins (upd H2 s2.heap.objs.size (SetO X.w s2.heap.objs.size (fun _ => false) 0)) b ∧ b < (s2.heap.push ob).objs.size := fun b hb => by
    refine ⟨⟨?_, (f2 b hb).2⟩, by rw [Heap.size_push]; exact Nat.lt_succ_of_lt (sz b hb)⟩
    rw [upd_ne (Nat.ne_of_lt (sz b hb))]
    exact (f2 b hb).1
  generalize s2.heap.objs.size = D at hDn turn w0 I3 f3 ⊢
  generalize hH3 : upd H2 D (SetO X.w D (fun _ => false) 0) = H3 at I3 w0 f3
  generalize hs3 : ({ s2 with heap := s2.heap.push ob, toks := s2.toks } : Shared) = s3 at I3 ⊢
  have h3 : s3.heap = s2.heap.push ob := by rw [← hs3]
  rw [← h3] at st3
  have f3 : ∀ b ∈ fp, FpOk X pins H3 b ∧ b < s3.heap.objs.size := fun b hb => by rw [h3]; exact f3 b hb
  have I4 := block_start I3 ok hN f3
  have pg := hg s3 H3 s3.heap.objs.size (cellsFrom (s3.heap.objs.size + 1) scope.names (cloFrom X.env.cells scope.names [])) fp
  have pi1 := hi1 s3 H3 s3.heap.objs.size (cellsFrom (s3.heap.objs.size + 1) scope.names (cloFrom X.env.cells scope.names [])) fp
  have pg1 := hg1 s3 H3 s3.heap.objs.size (cellsFrom (s3.heap.objs.size + 1) scope.names (cloFrom X.env.cells scope.names [])) fp
  have pe := he s3 H3 s3.heap.objs.size (cellsFrom (s3.heap.objs.size + 1) scope.names (cloFrom X.env.cells scope.names [])) fp
  have nfp : ∀ b ∈ fp, H3 b = none := fun b hb => (f3 b hb).1.1
  show codeAny _ _ (.compStart (sc2 elt tg iter tg1 iter1 scope pos) 0 (.ref it) (.ref D) (compEnvC scope (cellsFrom (s3.heap.objs.size + 1) scope.names (cloFrom X.env.cells scope.names [])) s3.heap.objs.size X.env)) _ { s3 with heap := pushCells (s3.heap.push { cls := .type "dict", data := .dict #[] }) scope.names }
  have cL : (compEnvC scope (cellsFrom (s3.heap.objs.size + 1) scope.names (cloFrom X.env.cells scope.names [])) s3.heap.objs.size X.env).locals = s3.heap.objs.size := rfl
  generalize compEnvC scope (cellsFrom (s3.heap.objs.size + 1) scope.names (cloFrom X.env.cells scope.names [])) s3.heap.objs.size X.env = ce at I4 pg pi1 pg1 pe cL ⊢
  have st4 : tn 0 (pushCells (s3.heap.push { cls := .type "dict", data := .dict #[] }) scope.names) := T.keep _ _ _ st3 fun b _ o e => pushCells_keeps _ _ _ _ (Heap.get?_push_of_some _ e)
  generalize hs4 : ({ s3 with heap := pushCells (s3.heap.push { cls := .type "dict", data := .dict #[] }) scope.names } : Shared) = s4 at I4 ⊢
  have st4 : tn 0 s4.heap := by rw [← hs4]; exact st4
  have stat : ∀ {σ' : L2.St} {H' : Hp} {s' : Shared}, Inv (X.blk s3 H3 scope ce fp) [] σ' H' s' → (∀ b ∈ fp, H' b = none) → ∀ b ∈ fp, FpOk (X.blk s3 H3 scope ce fp) [] H' b := fun {σ' H' s'} I' hn b hb =>
    ⟨hn b hb, (I'.ok.exf b hb).1, I'.ok.exfs b hb, .inl hb, fun x c e => (I'.ok.exf b hb).2 x c e, fun p hp => absurd (show p ∈ ([] : List (Addr × Obj)) ++ [] from hp) (by simp)⟩
  refine PpSet.codeAny_compStart_set ?loop (T.self X.A 0 _ _ _ st4 ?loop)
  refine loop_out (hs1 ce) (fun n s' => ∃ i H', Inv (X.blk s3 H3 scope ce fp) [] (wipe σ (own.map (·.2))) H' s' ∧ tn i s'.heap ∧ (∀ b ∈ fp, H' b = none) ∧ W i n H') ?_ m0 ⟨0, H3, I4, st4, nfp, w0⟩
  rintro n s5 ⟨i, H5, I5, st5, n5, w5⟩
  rcases turn i n H5 w5 with ⟨stop, qq⟩ | ⟨go, Nx, hNx, step⟩
  · refine thnF (T.done (X.blk s3 H3 scope ce fp) rfl rfl rfl hc i [] s5 _ H5 (fun _ _ => False) I5 (stat I5 n5) st5 stop) fun r s6 ⟨hr, I6⟩ => ?_
    subst hr
    have I7 : Inv X pins σ H5 s6 := I3.call' (ch := fp) I6.os I6.base I6.hok I6.bare fun b hb => ⟨(f3 b hb).1.2.2.2.1, (f3 b hb).1.2.1, (f3 b hb).1.2.2.2.2.1, (f3 b hb).1.2.2.2.2.2⟩
    have nC : H5 ce.locals = none := I6.free
    obtain ⟨m, hn, _⟩ := I6.loc
    have hn : s6.heap.Ns ce.locals m := hn
    rw [cL] at nC hn
    obtain ⟨f0, f1, f2, f3, f4, f5⟩ := I3.fpOk (Nat.le_refl _) nC
    exact ⟨m, hn, fun h'' sb => ⟨.ref D, H5, I7.turned (t' := s6.toks) (fun b o hb e => (sb.2 b hb).trans e) f0 f1 f3 f4 f5, rfl, qq⟩⟩
  · refine thnF (T.item (X.blk s3 H3 scope ce fp) rfl rfl rfl hc i [] s5 _ H5 (fun _ _ => False) I5 (stat I5 n5) st5 go) fun r s6 ⟨u, hr, h6⟩ => ?_
    subst hr
    refine thnF h6 fun _ s7 ⟨x, H7, I7, r7, y7, st7, n7⟩ => ?_
    refine thnF (pg.run _ s7 _ H7 x u _ (I7.pinned (stat I7 n7) (T.obj _ _ st7)) r7 (step x H7 y7)) fun _ s8 ⟨σ8, H8, I8, hw8, q8⟩ => ?_
    refine thnF (pi1.run _ s8 σ8 H8 _ I8 q8) fun xv s10 hx => thnF hx fun itv s11 h11 => ?_
    obtain ⟨it1, fp1, tn1, J1, H11, rfl, I11, T1, st11, f11, W1, ⟨m1, w1⟩, turn1⟩ := h11
    have fin : ∀ {σ9 : L2.St} {s' : Shared} {H' : Hp}, Inv (X.blk s3 H3 scope ce fp) ([] ++ pinsAt fp s7.heap) σ9 H' s' → (wipe σ (own.map (·.2))).length = σ9.length → (∀ (j : Nat) v, (wipe σ (own.map (·.2)))[j]? = some (some v) → σ9[j]? = some (some v)) → Nx H' →
        ∃ m, m < n ∧ ∃ i H', Inv (X.blk s3 H3 scope ce fp) [] (wipe σ (own.map (·.2))) H' s' ∧ tn i s'.heap ∧ (∀ b ∈ fp, H' b = none) ∧ W i m H' := fun {σ9 s' H'} I' hl hk nx => by
      obtain ⟨m', hm, w'⟩ := hNx H' nx
      have pin' : ∀ b ∈ fp, ∀ o, s7.heap.get? b = some o → s'.heap.get? b = some o ∧ H' b = none := fun b hb o e =>
        let z := I'.pin (b, o) (List.mem_append_right _ (List.mem_append_right _ (mem_pinsAt hb e)))
        ⟨z.1, z.2.1⟩
      refine ⟨m', hm, i + 1, H', (I'.unpinned (pins := [])).weak hl hk, T.keep _ _ _ st7 fun b hb o e => (pin' b hb o e).1, fun b hb => ?_, w'⟩
      obtain ⟨o, e, _⟩ := T.obj _ _ st7 b hb
      exact (pin' b hb o e).2
    have hl8 : (wipe σ (own.map (·.2))).length = σ8.length := by rw [← hw8, wipe_length]
    have hk9 : ∀ (j : Nat) v, (wipe σ (own.map (·.2)))[j]? = some (some v) → (wipe σ8 vs1)[j]? = some (some v) := fun j v e => by
      rw [← hw8] at e
      obtain ⟨e1, e2⟩ := wipe_some e
      rw [wipe_out fun z => e2 (hv j z)]
      exact e1
    have stat1 : ∀ {H' : Hp}, (∀ b ∈ fp1, H' b = none) → ∀ b ∈ fp1, FpOk (X.blk s3 H3 scope ce fp) ([] ++ pinsAt fp s7.heap) H' b := fun hn b hb => ⟨hn b hb, (f11 b hb).2⟩
    refine start_in ?inner fun Q' E' hq => T1.self X.A 0 _ _ _ st11 hq
    refine loop_in (fun k s' => ∃ j H', Inv (X.blk s3 H3 scope ce fp) ([] ++ pinsAt fp s7.heap) (wipe σ8 vs1) H' s' ∧ tn1 j s'.heap ∧ (∀ b ∈ fp1, H' b = none) ∧ W1 j k H') ?_ m1 ⟨0, H11, I11.weak (wipe_length _ _) (fun j v e => (wipe_some e).1), st11, fun b hb => (f11 b hb).1, w1⟩
    rintro k s12 ⟨j, H12, I12, st12, n12, w12⟩
    rcases turn1 j k H12 w12 with ⟨stop1, nx1⟩ | ⟨go1, Nx1, hNx1, step1⟩
    · refine thnF (T1.done (X.blk s3 H3 scope ce fp) rfl rfl rfl hc j _ s12 (wipe σ8 vs1) H12 (fun _ _ => False) I12 (stat1 n12) st12 stop1) fun r s13 ⟨hr, I13⟩ => ?_
      subst hr
      exact fin I13 (hl8.trans (wipe_length σ8 vs1).symm) hk9 nx1
    · refine thnF (T1.item (X.blk s3 H3 scope ce fp) rfl rfl rfl hc j _ s12 (wipe σ8 vs1) H12 (fun _ _ => False) I12 (stat1 n12) st12 go1) fun r s13 ⟨u1, hr, h13⟩ => ?_
      subst hr
      refine thnF h13 fun _ s14 ⟨x1, H14, I14, r14, y14, st14, n14⟩ => ?_
      refine thnF (pg1.run _ s14 (wipe σ8 vs1) H14 x1 u1 _ (I14.pinned (stat1 n14) (T1.obj _ _ st14)) r14 (step1 x1 H14 y14)) fun _ s15 ⟨σ15, H15, I15, hw15, q15⟩ => ?_
      refine thnF (pe.run _ s15 σ15 H15 _ I15 q15) fun z s17 ⟨yv, H17, I17, r17, c, S, nn, ey, hD17, hz17, nx⟩ => ?_
      subst ey
      refine sadd_ok (X := X.blk s3 H3 scope ce fp) I17 hD17 hz17 r17 fun s18 I18 => ?_
      obtain ⟨m', hm, w'⟩ := hNx1 _ nx
      have pin' : ∀ b ∈ fp1, ∀ o, s14.heap.get? b = some o → s18.heap.get? b = some o ∧ _ := fun b hb o e =>
        let z := I18.pin (b, o) (List.mem_append_right _ (List.mem_append_right _ (mem_pinsAt hb e)))
        ⟨z.1, z.2.1⟩
      refine ⟨m', hm, j + 1, _, I18.unpinned.weak (by rw [← hw15, wipe_length]) (fun i v e => by rw [← hw15] at e; exact (wipe_some e).1), T1.keep _ _ _ st14 fun b hb o e => (pin' b hb o e).1, fun b hb => ?_, w'⟩
      obtain ⟨o, e, _⟩ := T1.obj _ _ st14 b hb
      exact (pin' b hb o e).2
end
end Ky

namespace Ky
open PySem PySem.Spec PyProof.Rows L2
theorem _root_.L2.Room.u1 {k : Nat} {A : Around} (r : Room k A) : A.units + 1 < cLine := by have := r.un; omega
theorem _root_.L2.Room.u65 {k : Nat} {A : Around} (r : Room k A) : A.units + 65 < cLine := by have := r.un; omega
theorem wipe_one {σ : L2.St} {j : Nat} {x : Option V} : wipe ((wipe σ [j]).set j x) [j] = wipe σ [j] := by
  simp [wipe, List.set_set]
/-- all or any, walked -/
theorem g_walk {J : It} {n : Nat} {xv : Nat → V} {te : TE} {σ : L2.St} {j : Nat} {H0 : Hp} {cont : Bool} {Q : VK} (bf : Nat → Bool) (Hs : Hp → Prop) (h0 : Hs H0) (hgo : ∀ i H, i < n → Hs H → J.go i H) (hy : ∀ i H x H', i < n → Hs H → J.yld i H x H' → H' = H ∧ x = xv i)
    (hstop : ∀ H, Hs H → J.stop n H) (step : ∀ i H (k : VK), i < n → Hs H → (∀ H', Hs H' → k (.bl (bf i)) H') → te ((wipe σ [j]).set j (some (xv i))) H k)
    (fin : ∀ H, Hs H → Q (.bl (if cont = true then (List.range n).all bf else (List.range n).any bf)) H) : ∃ W : Nat → Nat → Hp → Prop, (∃ m, W 0 m H0) ∧ GTurn J (gName j) te (wipe σ [j]) [j] Q cont W := by
  refine ⟨fun i m H => m = n - i ∧ i ≤ n ∧ Hs H ∧ ∀ k, k < i → bf k = cont, ⟨n, by simp, Nat.zero_le _, h0, fun k hk => absurd hk (Nat.not_lt_zero _)⟩, ?_⟩
  rintro i m H ⟨rfl, hi, hs, hb⟩
  by_cases hlt : i < n
  · refine .inr ⟨hgo i H hlt hs, fun x H' y => ?_⟩
    obtain ⟨rfl, rfl⟩ := hy i H x H' hlt hs y
    refine ⟨wipe_one, step i H' _ hlt hs fun H2 hs2 => ⟨bf i, rfl, ?_⟩⟩
    by_cases hc : bf i = cont
    · rw [if_pos hc]
      refine ⟨n - (i + 1), by omega, rfl, hlt, hs2, fun k hk => ?_⟩
      by_cases e : k = i
      · rw [e]; exact hc
      · exact hb k (by omega)
    · rw [if_neg hc]
      have q := fin H2 hs2
      have hn := not_of_ne hc
      have e : (if cont = true then (List.range n).all bf else (List.range n).any bf) = !cont := by
        cases cont with
        | true =>
          rw [if_pos rfl]
          refine Bool.eq_false_iff.mpr fun z => ?_
          rw [List.all_eq_true.mp z i (List.mem_range.mpr hlt)] at hn
          cases hn
        | false =>
          rw [if_neg Bool.false_ne_true]
          exact List.any_eq_true.mpr ⟨i, List.mem_range.mpr hlt, hn⟩
      rw [e] at q
      exact q
  · have ei : i = n := by omega
    subst ei
    refine .inl ⟨hstop H hs, ?_⟩
    have q := fin H hs
    have e : (if cont = true then (List.range i).all bf else (List.range i).any bf) = cont := by
      cases cont with
      | true =>
        rw [if_pos rfl]
        exact List.all_eq_true.mpr fun k hk => hb k (List.mem_range.mp hk)
      | false =>
        rw [if_neg Bool.false_ne_true]
        refine Bool.eq_false_iff.mpr fun z => ?_
        obtain ⟨k, hk, hk2⟩ := List.any_eq_true.mp z
        rw [hb k (List.mem_range.mp hk)] at hk2
        cases hk2
    rw [e] at q
    exact q
theorem g_range {lo : Int} {n : Nat} {te : TE} {σ : L2.St} {j : Nat} {H0 : Hp} {cont : Bool} {Q : VK} (bf : Nat → Bool) (Hs : Hp → Prop) (h0 : Hs H0)
    (step : ∀ i H (k : VK), i < n → Hs H → (∀ H', Hs H' → k (.bl (bf i)) H') → te ((wipe σ [j]).set j (some (.int (lo + i)))) H k)
    (fin : ∀ H, Hs H → Q (.bl (if cont = true then (List.range n).all bf else (List.range n).any bf)) H) : ∃ W : Nat → Nat → Hp → Prop, (∃ m, W 0 m H0) ∧ GTurn (Itr lo n) (gName j) te (wipe σ [j]) [j] Q cont W :=
  g_walk (xv := fun i => .int (lo + i)) bf Hs h0 (fun i H h _ => h) (fun i H x H' _ _ h => h) (fun H _ => Nat.le_refl n) step fin
theorem g_list {K : PySem.W.Frag} {a : Addr} {xs : List V} {te : TE} {σ : L2.St} {j : Nat} {H0 : Hp} {cont : Bool} {Q : VK} (bf : Nat → Bool) (Hs : Hp → Prop) (h0 : Hs H0) (hl : ∀ H, Hs H → SqL K H a xs)
    (step : ∀ i x H (k : VK), xs[i]? = some x → Hs H → (∀ H', Hs H' → k (.bl (bf i)) H') → te ((wipe σ [j]).set j (some x)) H k)
    (fin : ∀ H, Hs H → Q (.bl (if cont = true then (List.range xs.length).all bf else (List.range xs.length).any bf)) H) : ∃ W : Nat → Nat → Hp → Prop, (∃ m, W 0 m H0) ∧ GTurn (Itl K a) (gName j) te (wipe σ [j]) [j] Q cont W :=
  g_walk (xv := fun i => xs.getD i .non) bf Hs h0 (fun i H h hs => ⟨xs, xs[i], hl H hs, List.getElem?_eq_getElem h⟩) (fun i H x H' h hs q => by
    obtain ⟨e, q⟩ := q
    subst e
    refine ⟨rfl, ?_⟩
    rw [List.getD_eq_getElem?_getD, q xs (hl _ hs)] <;> rfl) (fun H hs => ⟨xs, hl H hs, Nat.le_refl _⟩) (fun i H k h hs hk => step i _ H k (by rw [List.getD_eq_getElem?_getD, List.getElem?_eq_getElem h] <;> rfl) hs hk) fin
theorem g_tup {K : PySem.W.Frag} {a : Addr} {xs : List V} {te : TE} {σ : L2.St} {j : Nat} {H0 : Hp} {cont : Bool} {Q : VK} (bf : Nat → Bool) (Hs : Hp → Prop) (h0 : Hs H0) (hl : ∀ H, Hs H → SqT K H a xs)
    (step : ∀ i x H (k : VK), xs[i]? = some x → Hs H → (∀ H', Hs H' → k (.bl (bf i)) H') → te ((wipe σ [j]).set j (some x)) H k)
    (fin : ∀ H, Hs H → Q (.bl (if cont = true then (List.range xs.length).all bf else (List.range xs.length).any bf)) H) : ∃ W : Nat → Nat → Hp → Prop, (∃ m, W 0 m H0) ∧ GTurn (Itt K a) (gName j) te (wipe σ [j]) [j] Q cont W :=
  g_walk (xv := fun i => xs.getD i .non) bf Hs h0 (fun i H h hs => ⟨xs, xs[i], hl H hs, List.getElem?_eq_getElem h⟩) (fun i H x H' h hs q => by
    obtain ⟨e, q⟩ := q
    subst e
    refine ⟨rfl, ?_⟩
    rw [List.getD_eq_getElem?_getD, q xs (hl _ hs)] <;> rfl) (fun H hs => ⟨xs, hl H hs, Nat.le_refl _⟩) (fun i H k h hs hk => step i _ H k (by rw [List.getD_eq_getElem?_getD, List.getElem?_eq_getElem h] <;> rfl) hs hk) fin
/-! ### more steps of a reading -/
section
variable {σ : L2.St} {H : Hp} {Q : VK} {ta tb tc td : TE} {K : PySem.W.Frag} {x y : V}
theorem w_chain {r r' : R2} (q : ta σ H fun x H1 => tb σ H1 fun y H2 => r x y H2 fun z H3 => ∃ k, z = .bl k ∧ (if k = true then tc σ H3 fun w' H4 => r' y w' H4 Q else Q (.bl false) H3)) : tChain r r' ta tb tc σ H Q := q
theorem w_isi_ii {n : Int} (q : Q (.bl true) H) : rIsi K [.int n, .ty "int"] H Q := ⟨_, _, _, _, true, rfl, .ty _, .base (.int n), kit_ty (by decide +kernel), q⟩
theorem w_isi_ib {n : Int} (q : Q (.bl false) H) : rIsi K [.int n, .ty "bool"] H Q := ⟨_, _, _, _, false, rfl, .ty _, .base (.int n), kit_ty (by decide +kernel), q⟩
theorem w_isi_it {n : Int} (q : Q (.bl false) H) : rIsi K [.int n, .ty "tuple"] H Q := ⟨_, _, _, _, false, rfl, .ty _, .base (.int n), kit_ty (by decide +kernel), q⟩
theorem w_isi_st {z : Str} (q : Q (.bl false) H) : rIsi K [.str z, .ty "tuple"] H Q := ⟨_, _, _, _, false, rfl, .ty _, .base (.str z), kit_ty (by decide +kernel), q⟩
theorem w_isi_tt {a : Addr} {xs : List V} (h : H a = some (.tup xs)) (q : Q (.bl true) H) : rIsi K [.ref a, .ty "tuple"] H Q := ⟨_, _, _, _, true, rfl, .ty _, .base (.tup h), kit_ty (by decide +kernel), q⟩
theorem w_gRd {P0 : Addr} {wi : TI} {g : TG} {vs : List Nat} {cont : Bool} (q : wi σ H fun J H1 => GxR.TabG H1 P0 ∧ ∀ H2, GxR.Tabbed P0 H1 H2 → ∃ W : Nat → Nat → Hp → Prop, (∃ m, W 0 m H2) ∧ GTurn J g ta (wipe σ vs) vs Q cont W) : gRd P0 wi g ta vs cont σ H Q := q
theorem w_andV (q : ta σ H fun x H1 => ∃ c, x = .bl c ∧ if c = true then tb σ H1 Q else Q (.bl false) H1) : tAndV ta tb σ H Q := q
theorem w_orV (q : ta σ H fun x H1 => ∃ c, x = .bl c ∧ if c = true then Q (.bl true) H1 else tb σ H1 Q) : tOrV ta tb σ H Q := q
theorem w_notV (q : ta σ H fun x H1 => ∃ c, x = .bl c ∧ Q (.bl (!c)) H1) : tNotV ta σ H Q := q
theorem w_din {ty : TE} (q : ty σ H fun y H1 => td σ H1 fun x H2 => ∃ a o, x = .ref a ∧ DGet H2 a y o ∧ Q (.bl o.isSome) H2) : tDIn ty td σ H Q := q
end
/-! ### the rules with the fragment told: inside a block or a generator's frame the context's own letter may not be left -/
section
variable {X : Cx} {K : PySem.W.Frag}
theorem opK {op : Value → Value → Sem Value} {r : PySem.W.Frag → R2} (hK : X.K = K) (h : OpR X op (r X.K)) : OpR X op (r K) := by subst hK; exact h
theorem ix_listK (hK : X.K = K) : IxR X (rIxL K) := by subst hK; exact ix_list
theorem ix_tupK (hK : X.K = K) : IxR X (rIxT K) := by subst hK; exact ix_tup
theorem sl_listK (hK : X.K = K) : SlR X (rSlL K) := by subst hK; exact sl_list
theorem sl_tupK (hK : X.K = K) : SlR X (rSlT K) := by subst hK; exact sl_tup
theorem pi_listK {tg l : Expr} {tl : TE} (hK : X.K = K) (hl : PE X l tl) : PI X tg l (iList K tl) := by subst hK; exact pi_list hl
theorem pi_tupK {tg l : Expr} {tl : TE} (hK : X.K = K) (hl : PE X l tl) : PI X tg l (iTup K tl) := by subst hK; exact pi_tup hl
end
end Ky

namespace Ky
open PySem PySem.Spec PyProof.Rows L2
/-! ### distinct items, in their first order -/
section
variable {κ : Type} [DecidableEq κ]
def dstep (acc : List κ) (k : κ) : List κ := if k ∈ acc then acc else acc ++ [k]
def dd (ls : List κ) : List κ := ls.foldl dstep []
def setDict (ks : List κ) : List (κ × V) := ks.map fun k => (k, V.bl true)
theorem dd_snoc (ls : List κ) (k : κ) : dd (ls ++ [k]) = dstep (dd ls) k := by unfold dd; rw [List.foldl_append]; rfl
theorem setDict_len (ks : List κ) : (setDict ks).length = ks.length := List.length_map ..
theorem putK_set (ks : List κ) (k : κ) : putK (setDict ks) k (V.bl true) = setDict (dstep ks k) := by
  unfold putK dstep
  by_cases h : k ∈ ks
  · rw [if_pos h, if_pos (by
      unfold setDict
      rw [List.any_map]
      exact List.any_eq_true.mpr ⟨k, h, by simp⟩)]
    unfold setDict
    rw [List.map_map]
    refine List.map_congr_left fun x _ => ?_
    show (if x = k then (x, V.bl true) else (x, V.bl true)) = _
    by_cases e : x = k
    · rw [if_pos e]
    · rw [if_neg e]
  · rw [if_neg h, if_neg (by
      unfold setDict
      rw [List.any_map]
      intro z
      obtain ⟨x, hx, e⟩ := List.any_eq_true.mp z
      have e : x = k := by simpa using e
      rw [e] at hx
      exact h hx)]
    unfold setDict
    rw [List.map_append] <;> rfl
theorem valV_set (ks : List κ) (k : κ) : (valV (setDict ks) k).isSome = decide (k ∈ ks) := by
  induction ks with
  | nil => rfl
  | cons x ks ih =>
    unfold setDict at ih ⊢
    rw [List.map_cons]
    by_cases e : x = k
    · rw [valV_pos (p := (x, V.bl true)) e]
      rw [e]
      simp
    · rw [valV_neg (p := (x, V.bl true)) e, ih]
      exact decide_eq_decide.mpr ⟨fun h => List.mem_cons_of_mem _ h, fun h => (List.mem_cons.mp h).resolve_left fun z => e z.symm⟩
theorem mem_dstep {acc : List κ} {k x : κ} : x ∈ dstep acc k ↔ x ∈ acc ∨ x = k := by
  unfold dstep
  by_cases h : k ∈ acc
  · rw [if_pos h]
    exact ⟨.inl, fun z => z.elim id fun e => e ▸ h⟩
  · rw [if_neg h, List.mem_append, List.mem_singleton]
theorem mem_foldl {x : κ} : ∀ {ls acc : List κ}, x ∈ ls.foldl dstep acc ↔ x ∈ acc ∨ x ∈ ls
  | [], acc => by simp
  | k :: ls, acc => by
    rw [List.foldl_cons, mem_foldl, mem_dstep, List.mem_cons, or_assoc]
theorem mem_dd {ls : List κ} {x : κ} : x ∈ dd ls ↔ x ∈ ls := by unfold dd; rw [mem_foldl]; simp
theorem nodup_dstep {acc : List κ} {k : κ} (h : acc.Nodup) : (dstep acc k).Nodup := by
  unfold dstep
  by_cases e : k ∈ acc
  · rw [if_pos e]; exact h
  · rw [if_neg e]
    exact List.nodup_append.mpr ⟨h, List.nodup_cons.mpr ⟨by simp, List.nodup_nil⟩, fun a ha b hb z => by
      rw [List.mem_singleton.mp hb] at z
      exact e (z ▸ ha)⟩
theorem nodup_foldl : ∀ {ls acc : List κ}, acc.Nodup → (ls.foldl dstep acc).Nodup
  | [], _, h => h
  | k :: ls, acc, h => by
    rw [List.foldl_cons]
    exact nodup_foldl (nodup_dstep h)
theorem nodup_dd (ls : List κ) : (dd ls).Nodup := nodup_foldl List.nodup_nil
theorem len_dstep (acc : List κ) (k : κ) : (dstep acc k).length ≤ acc.length + 1 := by
  unfold dstep
  by_cases h : k ∈ acc
  · rw [if_pos h]; omega
  · rw [if_neg h, List.length_append]; exact Nat.le_refl _
theorem len_foldl : ∀ (ls acc : List κ), (ls.foldl dstep acc).length ≤ acc.length + ls.length
  | [], _ => Nat.le_refl _
  | k :: ls, acc => by
    have h := len_foldl ls (dstep acc k)
    have h2 := len_dstep acc k
    rw [List.foldl_cons, List.length_cons]
    omega
theorem len_dd (ls : List κ) : (dd ls).length ≤ ls.length := by have := len_foldl ls ([] : List κ); simpa [dd] using this
theorem dd_map {μ : Type} [DecidableEq μ] {f : κ → μ} (hf : ∀ a b, f a = f b → a = b) (ls : List κ) : dd (ls.map f) = (dd ls).map f := by
  have aux : ∀ (ls acc : List κ), (ls.map f).foldl dstep (acc.map f) = (ls.foldl dstep acc).map f := by
    intro ls
    induction ls with
    | nil => intro acc; rfl
    | cons k ls ih =>
      intro acc
      rw [List.map_cons, List.foldl_cons, List.foldl_cons, ← ih]
      congr 1
      unfold dstep
      by_cases h : k ∈ acc
      · rw [if_pos h, if_pos (List.mem_map.mpr ⟨k, h, rfl⟩)]
      · rw [if_neg h, if_neg (fun z => by
          obtain ⟨x, hx, e⟩ := List.mem_map.mp z
          exact h (hf _ _ e ▸ hx)), List.map_append] <;> rfl
  exact aux ls []
end
/-! ### sorting by data -/
section
variable {β γ : Type}
def srtBy (g : β → PyData) (bs : List β) : List β := bs.mergeSort (PySem.W.dataLe false g)
theorem sortD_map (f : β → V) (g : β → PyData) (bs : List β) : sortD (bs.map f) (bs.map g) = (srtBy g bs).map f := by
  unfold sortD srtBy
  have e : (bs.map f).zip (bs.map g) = bs.map fun b => (f b, g b) := by
    induction bs with
    | nil => rfl
    | cons b bs ih => rw [List.map_cons, List.map_cons, List.zip_cons_cons, ih] <;> rfl
  rw [e, ← PySem.W.sort_maps (fun b => (f b, g b)) (r := PySem.W.dataLe false g) (s := PySem.W.dataLe false fun p : V × PyData => p.2) (fun _ _ _ _ => rfl), List.map_map]
  rfl
theorem srtBy_map (h : β → γ) (g : γ → PyData) (bs : List β) : (srtBy (fun b => g (h b)) bs).map h = srtBy g (bs.map h) :=
  PySem.W.sort_maps h (r := PySem.W.dataLe false fun b => g (h b)) (s := PySem.W.dataLe false g) fun _ _ _ _ => rfl
theorem srtBy_perm (g : β → PyData) (bs : List β) : (srtBy g bs).Perm bs := List.mergeSort_perm _ _
theorem mem_srtBy {g : β → PyData} {bs : List β} {x : β} : x ∈ srtBy g bs ↔ x ∈ bs := (srtBy_perm g bs).mem_iff
theorem srtBy_pair (g : β → PyData) (bs : List β) : (srtBy g bs).Pairwise fun a b => PySem.W.dataLe false g a b = true :=
  PySem.W.sort_pairwise (PySem.W.sortLe_total _ _ _) bs
theorem srtBy_congr {g g' : β → PyData} {bs : List β} (h : ∀ a ∈ bs, ∀ b ∈ bs, PySem.W.dataLt (g a) (g b) = PySem.W.dataLt (g' a) (g' b)) : srtBy g bs = srtBy g' bs :=
  PySem.W.sort_congr fun a ha b hb => by
    show (!PySem.W.dataLt (g b) (g a)) = (!PySem.W.dataLt (g' b) (g' a))
    rw [h b hb a ha]
end
end Ky

namespace Ky
open PySem PySem.Spec PyProof.Rows L2
/-- any comprehension's walk -/
theorem c_walk {J : It} {n : Nat} {xv : Nat → V} {Body : V → Hp → (Hp → Prop) → Prop} {Qd : Hp → Prop} {H0 : Hp} (Pv : Nat → Hp → Prop) (h0 : Pv 0 H0) (hgo : ∀ i H, i < n → Pv i H → J.go i H) (hy : ∀ i H x H', i < n → Pv i H → J.yld i H x H' → H' = H ∧ x = xv i)
    (hstop : ∀ H, Pv n H → J.stop n H) (step : ∀ i H, i < n → Pv i H → Body (xv i) H (Pv (i + 1))) (fin : ∀ H, Pv n H → Qd H) :
    ∃ W : Nat → Nat → Hp → Prop, (∃ m, W 0 m H0) ∧ ∀ i m H, W i m H → (J.stop i H ∧ Qd H) ∨ (J.go i H ∧ ∃ Nx : Hp → Prop, (∀ H', Nx H' → ∃ m', m' < m ∧ W (i + 1) m' H') ∧ ∀ x H', J.yld i H x H' → Body x H' Nx) := by
  refine ⟨fun i m H => m = n - i ∧ i ≤ n ∧ Pv i H, ⟨n, by simp, Nat.zero_le _, h0⟩, ?_⟩
  rintro i m H ⟨rfl, hi, p⟩
  by_cases hlt : i < n
  · refine .inr ⟨hgo i H hlt p, Pv (i + 1), fun H' p' => ⟨n - (i + 1), by omega, rfl, hlt, p'⟩, fun x H' y => ?_⟩
    obtain ⟨rfl, rfl⟩ := hy i H x H' hlt p y
    exact step i H' hlt p
  · have e : i = n := by omega
    subst e
    exact .inl ⟨hstop H p, fin H p⟩
theorem c_list {K : PySem.W.Frag} {a : Addr} {xs : List V} {Body : V → Hp → (Hp → Prop) → Prop} {Qd : Hp → Prop} {H0 : Hp} (Pv : Nat → Hp → Prop) (h0 : Pv 0 H0) (hl : ∀ i H, i ≤ xs.length → Pv i H → SqL K H a xs)
    (step : ∀ i x H, xs[i]? = some x → Pv i H → Body x H (Pv (i + 1))) (fin : ∀ H, Pv xs.length H → Qd H) :
    ∃ W : Nat → Nat → Hp → Prop, (∃ m, W 0 m H0) ∧ ∀ i m H, W i m H → ((Itl K a).stop i H ∧ Qd H) ∨ ((Itl K a).go i H ∧ ∃ Nx : Hp → Prop, (∀ H', Nx H' → ∃ m', m' < m ∧ W (i + 1) m' H') ∧ ∀ x H', (Itl K a).yld i H x H' → Body x H' Nx) :=
  c_walk (xv := fun i => xs.getD i .non) Pv h0 (fun i H h hs => ⟨xs, xs[i], hl i H (Nat.le_of_lt h) hs, List.getElem?_eq_getElem h⟩) (fun i H x H' h hs q => by
    obtain ⟨e, q⟩ := q
    subst e
    refine ⟨rfl, ?_⟩
    rw [List.getD_eq_getElem?_getD, q xs (hl i _ (Nat.le_of_lt h) hs)] <;> rfl) (fun H hs => ⟨xs, hl _ H (Nat.le_refl _) hs, Nat.le_refl _⟩) (fun i H h hs => step i _ H (by rw [List.getD_eq_getElem?_getD, List.getElem?_eq_getElem h] <;> rfl) hs) fin
theorem c_tup {K : PySem.W.Frag} {a : Addr} {xs : List V} {Body : V → Hp → (Hp → Prop) → Prop} {Qd : Hp → Prop} {H0 : Hp} (Pv : Nat → Hp → Prop) (h0 : Pv 0 H0) (hl : ∀ i H, i ≤ xs.length → Pv i H → SqT K H a xs)
    (step : ∀ i x H, xs[i]? = some x → Pv i H → Body x H (Pv (i + 1))) (fin : ∀ H, Pv xs.length H → Qd H) :
    ∃ W : Nat → Nat → Hp → Prop, (∃ m, W 0 m H0) ∧ ∀ i m H, W i m H → ((Itt K a).stop i H ∧ Qd H) ∨ ((Itt K a).go i H ∧ ∃ Nx : Hp → Prop, (∀ H', Nx H' → ∃ m', m' < m ∧ W (i + 1) m' H') ∧ ∀ x H', (Itt K a).yld i H x H' → Body x H' Nx) :=
  c_walk (xv := fun i => xs.getD i .non) Pv h0 (fun i H h hs => ⟨xs, xs[i], hl i H (Nat.le_of_lt h) hs, List.getElem?_eq_getElem h⟩) (fun i H x H' h hs q => by
    obtain ⟨e, q⟩ := q
    subst e
    refine ⟨rfl, ?_⟩
    rw [List.getD_eq_getElem?_getD, q xs (hl i _ (Nat.le_of_lt h) hs)] <;> rfl) (fun H hs => ⟨xs, hl _ H (Nat.le_refl _) hs, Nat.le_refl _⟩) (fun i H h hs => step i _ H (by rw [List.getD_eq_getElem?_getD, List.getElem?_eq_getElem h] <;> rfl) hs) fin
theorem upd_again {H : Hp} {D : Addr} {a b : HO} : upd (upd H D a) D b = upd H D b := by
  funext x
  by_cases e : x = D
  · rw [e, upd_same, upd_same]
  · rw [upd_ne e, upd_ne e, upd_ne e]
def keysI (ns : List Int) : List L2.Key := ns.map Sum.inl
theorem inl_inj (a b : Int) (h : (Sum.inl a : L2.Key) = Sum.inl b) : a = b := Sum.inl.inj h
theorem keysI_inj : ∀ (a b : List Int), keysI a = keysI b → a = b
  | [], [], _ => rfl
  | x :: a, y :: b, h => by
    unfold keysI at h
    rw [List.map_cons, List.map_cons] at h
    obtain ⟨h1, h2⟩ := List.cons.inj h
    rw [Sum.inl.inj h1, keysI_inj a b h2]
  | [], _ :: _, h => by cases h
  | _ :: _, [], h => by cases h
theorem keysI_kV (ns : List Int) : (keysI ns).map kV = ns.map V.int := by unfold keysI; rw [List.map_map] <;> rfl
section
variable {K : PySem.W.Frag} {a : Addr} {σ : L2.St} {H : Hp} {Q : VK} {i0 j : Nat}
theorem var_set {x : V} (hj : j < σ.length) : ((wipe σ [j]).set j (some x))[j]? = some (some x) := by
  rw [List.getElem?_set_self (by rw [wipe_length]; exact hj)]
/-- {x: True for x in e}, e a list (a tuple) of numbers -/
theorem rd_dcI {ns : List Int} (hσ : σ[i0]? = some (some (.ref a))) (hj : j < σ.length) (ha : H a = some (.lst (ns.map V.int))) (hz : ns.length ≤ sizeLine) (k : ∀ D, H D = none → Q (.ref D) (upd H D (.dK (setDict (keysI (dd ns)))))) :
    tDc (iList K (tVar i0)) (gName j) tYes (tVar j) (tC (.bl true)) [j] σ H Q := by
  refine ⟨_, hσ, a, rfl, ⟨_, SqL.of ha⟩, fun D hD => ?_⟩
  refine c_list (xs := ns.map V.int) (fun i H1 => H1 = upd H D (.dK (setDict (keysI (dd (ns.take i)))))) (by rw [List.take_zero]; rfl) (fun i H1 _ h => by rw [h]; exact (Kept.new hD).sq (SqL.of ha)) (fun i x H1 hx h => ?_) fun H1 h => ?_
  · obtain ⟨n, rfl, hn⟩ := map_int hx
    refine ⟨wipe_one, w_yes (if_t rfl ⟨_, var_set hj, setDict (keysI (dd (ns.take i))), Sum.inl n, rfl, by rw [h]; exact upd_same, ?_, ?_⟩)⟩
    · rw [setDict_len]
      unfold keysI
      rw [List.length_map]
      have h1 := len_dd (ns.take i)
      have h2 : i < ns.length := (List.getElem?_eq_some_iff.mp hn).1
      rw [List.length_take] at h1
      omega
    · rw [h, upd_again, putK_set]
      have e : ns.take (i + 1) = ns.take i ++ [n] := by rw [List.take_add_one, hn]; rfl
      rw [e, dd_snoc]
      congr 3
      show dstep (keysI (dd (ns.take i))) (Sum.inl n) = keysI (dstep (dd (ns.take i)) n)
      unfold dstep keysI
      by_cases hm : n ∈ dd (ns.take i)
      · rw [if_pos hm, if_pos (List.mem_map.mpr ⟨n, hm, rfl⟩)]
      · rw [if_neg hm, if_neg (fun z => by
          obtain ⟨y, hy, e⟩ := List.mem_map.mp z
          exact hm (Sum.inl.inj e ▸ hy)), List.map_append] <;> rfl
  · rw [List.length_map, List.take_length] at h
    rw [h]
    exact k D hD
theorem rd_dcIt {ns : List Int} (hσ : σ[i0]? = some (some (.ref a))) (hj : j < σ.length) (ha : H a = some (.tup (ns.map V.int))) (hz : ns.length ≤ sizeLine) (k : ∀ D, H D = none → Q (.ref D) (upd H D (.dK (setDict (keysI (dd ns)))))) :
    tDc (iTup K (tVar i0)) (gName j) tYes (tVar j) (tC (.bl true)) [j] σ H Q := by
  refine ⟨_, hσ, a, rfl, ⟨_, SqT.of ha⟩, fun D hD => ?_⟩
  refine c_tup (xs := ns.map V.int) (fun i H1 => H1 = upd H D (.dK (setDict (keysI (dd (ns.take i)))))) (by rw [List.take_zero]; rfl) (fun i H1 _ h => by rw [h]; exact SqT.of ((Kept.new hD).tup ha)) (fun i x H1 hx h => ?_) fun H1 h => ?_
  · obtain ⟨n, rfl, hn⟩ := map_int hx
    refine ⟨wipe_one, w_yes (if_t rfl ⟨_, var_set hj, setDict (keysI (dd (ns.take i))), Sum.inl n, rfl, by rw [h]; exact upd_same, ?_, ?_⟩)⟩
    · rw [setDict_len]
      unfold keysI
      rw [List.length_map]
      have h1 := len_dd (ns.take i)
      have h2 : i < ns.length := (List.getElem?_eq_some_iff.mp hn).1
      rw [List.length_take] at h1
      omega
    · rw [h, upd_again, putK_set]
      have e : ns.take (i + 1) = ns.take i ++ [n] := by rw [List.take_add_one, hn]; rfl
      rw [e, dd_snoc]
      congr 3
      show dstep (keysI (dd (ns.take i))) (Sum.inl n) = keysI (dstep (dd (ns.take i)) n)
      unfold dstep keysI
      by_cases hm : n ∈ dd (ns.take i)
      · rw [if_pos hm, if_pos (List.mem_map.mpr ⟨n, hm, rfl⟩)]
      · rw [if_neg hm, if_neg (fun z => by
          obtain ⟨y, hy, e⟩ := List.mem_map.mp z
          exact hm (Sum.inl.inj e ▸ hy)), List.map_append] <;> rfl
  · rw [List.length_map, List.take_length] at h
    rw [h]
    exact k D hD
/-- {c: True for c in e}, e a list of tuples of numbers -/
theorem rd_dcT {bs : List Addr} {cs : List (List Int)} (hσ : σ[i0]? = some (some (.ref a))) (hj : j < σ.length) (ha : H a = some (.lst (bs.map V.ref))) (hl : bs.length = cs.length) (hb : ∀ (i : Nat) (b : Addr) (c : List Int), bs[i]? = some b → cs[i]? = some c → H b = some (.tup (c.map V.int))) (hz : cs.length ≤ sizeLine)
    (k : ∀ D, H D = none → Q (.ref D) (upd H D (.dT (setDict ((dd cs).map keysI))))) : tDcT (iList K (tVar i0)) (gName j) tYes (tVar j) (tC (.bl true)) [j] σ H Q := by
  refine ⟨_, hσ, a, rfl, ⟨_, SqL.of ha⟩, fun D hD => ?_⟩
  refine c_list (xs := bs.map V.ref) (fun i H1 => H1 = upd H D (.dT (setDict ((dd (cs.take i)).map keysI)))) (by rw [List.take_zero]; rfl) (fun i H1 _ h => by rw [h]; exact (Kept.new hD).sq (SqL.of ha)) (fun i x H1 hx h => ?_) fun H1 h => ?_
  · rw [List.getElem?_map] at hx
    obtain ⟨b, hb1, rfl⟩ := Option.map_eq_some_iff.mp hx
    have hi : i < cs.length := by rw [← hl]; exact (List.getElem?_eq_some_iff.mp hb1).1
    have hc : cs[i]? = some cs[i] := List.getElem?_eq_getElem hi
    have e1 := hb i b _ hb1 hc
    refine ⟨wipe_one, w_yes (if_t rfl ⟨_, var_set hj, setDict ((dd (cs.take i)).map keysI), keysI cs[i], b, rfl, ?_, by rw [h]; exact upd_same, ?_, ?_⟩)⟩
    · rw [keysI_kV, h, upd_ne (ne_of_none e1 hD)]
      exact e1
    · rw [setDict_len, List.length_map]
      have h1 := len_dd (cs.take i)
      rw [List.length_take] at h1
      omega
    · rw [h, upd_again, putK_set]
      have e : cs.take (i + 1) = cs.take i ++ [cs[i]] := by rw [List.take_add_one, hc]; rfl
      rw [e, dd_snoc]
      congr 3
      unfold dstep
      by_cases hm : cs[i] ∈ dd (cs.take i)
      · rw [if_pos hm, if_pos (List.mem_map.mpr ⟨_, hm, rfl⟩)]
      · rw [if_neg hm, if_neg (fun z => by
          obtain ⟨y, hy, e⟩ := List.mem_map.mp z
          exact hm (keysI_inj _ _ e ▸ hy)), List.map_append] <;> rfl
  · rw [List.length_map, hl, List.take_length] at h
    rw [h]
    exact k D hD
end
theorem w_ckw {σ : L2.St} {H : Hp} {Q : VK} {r : List V → List V → Hp → VK → Prop} {t tk : TA} (q : t σ H fun vs H1 => tk σ H1 fun zs H2 => r vs zs H2 Q) : tCKw r t tk σ H Q := q
theorem set_keys (ns : List Int) : (setDict (keysI ns)).map (fun kv : L2.Key × V => kV kv.1) = ns.map V.int := by
  unfold setDict keysI
  rw [List.map_map, List.map_map]
  rfl
/-! ### sets -/
theorem set_step (vs : List Int) (c : Int) : (fun j => decide (j ∈ vs) || decide (j = c)) = fun j => decide (j ∈ vs ++ [c]) := by
  funext j
  by_cases h1 : j ∈ vs <;> by_cases h2 : j = c <;> simp [h1, h2]
theorem set_len (vs : List Int) (c : Int) : (if decide (c ∈ vs) = true then (dd vs).length else (dd vs).length + 1) = (dd (vs ++ [c])).length := by
  rw [dd_snoc]
  unfold dstep
  by_cases h : c ∈ vs
  · rw [decide_eq_true h, if_pos rfl, if_pos (mem_dd.mpr h)]
  · rw [decide_eq_false h, if_neg Bool.false_ne_true, if_neg (fun z => h (mem_dd.mp z)), List.length_append] <;> rfl
end Ky

namespace Ky
open PySem PySem.Spec PyProof.Rows L2
def topS (i : Nat) : Stmt := PySem.Challenge.pw_countsworn_k02_faults_of_formulas.main.body.getD i (.Pass ⟨0, 0, 0, 0⟩)
abbrev s_is_whole : Stmt := topS 2
abbrev n_is_whole : List Str := ["value"]
theorem sc_is_whole : FnScope n_is_whole ["value"] (defScope s_is_whole) := ⟨rfl, rfl, rfl, by decide +kernel, rfl, by decide +kernel, by decide +kernel⟩
abbrev s_is_fraction : Stmt := topS 4
abbrev n_is_fraction : List Str := ["value", "n", "d"]
theorem sc_is_fraction : FnScope n_is_fraction ["value"] (defScope s_is_fraction) := ⟨rfl, rfl, rfl, by decide +kernel, rfl, by decide +kernel, by decide +kernel⟩
abbrev s_literal_key : Stmt := topS 7
abbrev n_literal_key : List Str := ["literal"]
theorem sc_literal_key : FnScope n_literal_key ["literal"] (defScope s_literal_key) := ⟨rfl, rfl, rfl, by decide +kernel, rfl, by decide +kernel, by decide +kernel⟩
abbrev s_clause_key : Stmt := topS 8
abbrev n_clause_key : List Str := ["clause", "literal"]
theorem sc_clause_key : FnScope n_clause_key ["clause"] (defScope s_clause_key) := ⟨rfl, rfl, rfl, by decide +kernel, rfl, by decide +kernel, by decide +kernel⟩
abbrev s_ascends : Stmt := topS 9
abbrev n_ascends : List Str := ["keys", "at"]
theorem sc_ascends : FnScope n_ascends ["keys"] (defScope s_ascends) := ⟨rfl, rfl, rfl, by decide +kernel, rfl, by decide +kernel, by decide +kernel⟩
abbrev s_variables_of : Stmt := topS 10
abbrev n_variables_of : List Str := ["residue", "clause", "literal"]
theorem sc_variables_of : FnScope n_variables_of ["residue"] (defScope s_variables_of) := ⟨rfl, rfl, rfl, by decide +kernel, rfl, by decide +kernel, by decide +kernel⟩
abbrev s_is_variable : Stmt := topS 11
abbrev n_is_variable : List Str := ["value"]
theorem sc_is_variable : FnScope n_is_variable ["value"] (defScope s_is_variable) := ⟨rfl, rfl, rfl, by decide +kernel, rfl, by decide +kernel, by decide +kernel⟩
abbrev s_is_literal : Stmt := topS 12
abbrev n_is_literal : List Str := ["value"]
theorem sc_is_literal : FnScope n_is_literal ["value"] (defScope s_is_literal) := ⟨rfl, rfl, rfl, by decide +kernel, rfl, by decide +kernel, by decide +kernel⟩
abbrev s_is_clause : Stmt := topS 13
abbrev n_is_clause : List Str := ["value", "item", "literal"]
theorem sc_is_clause : FnScope n_is_clause ["value"] (defScope s_is_clause) := ⟨rfl, rfl, rfl, by decide +kernel, rfl, by decide +kernel, by decide +kernel⟩
abbrev s_is_residue : Stmt := topS 14
abbrev n_is_residue : List Str := ["value", "item", "clause"]
theorem sc_is_residue : FnScope n_is_residue ["value"] (defScope s_is_residue) := ⟨rfl, rfl, rfl, by decide +kernel, rfl, by decide +kernel, by decide +kernel⟩
abbrev s_are_variables : Stmt := topS 15
abbrev n_are_variables : List Str := ["row", "item"]
theorem sc_are_variables : FnScope n_are_variables ["row"] (defScope s_are_variables) := ⟨rfl, rfl, rfl, by decide +kernel, rfl, by decide +kernel, by decide +kernel⟩
abbrev s_have_common : Stmt := topS 16
abbrev n_have_common : List Str := ["shown", "hidden", "first", "item"]
theorem sc_have_common : FnScope n_have_common ["shown", "hidden"] (defScope s_have_common) := ⟨rfl, rfl, rfl, by decide +kernel, rfl, by decide +kernel, by decide +kernel⟩
abbrev s_are_known : Stmt := topS 17
abbrev n_are_known : List Str := ["residue", "variables", "known", "variable"]
theorem sc_are_known : FnScope n_are_known ["residue", "variables"] (defScope s_are_known) := ⟨rfl, rfl, rfl, by decide +kernel, rfl, by decide +kernel, by decide +kernel⟩
abbrev s_formula_faults : Stmt := topS 18
abbrev n_formula_faults : List Str := ["value", "part", "shown", "hidden", "residue", "faults", "clauses", "item"]
theorem sc_formula_faults : FnScope n_formula_faults ["value"] (defScope s_formula_faults) := ⟨rfl, rfl, rfl, by decide +kernel, rfl, by decide +kernel, by decide +kernel⟩
abbrev s_weight_of : Stmt := topS 19
abbrev n_weight_of : List Str := ["weights", "literal", "own", "weight"]
theorem sc_weight_of : FnScope n_weight_of ["weights", "literal"] (defScope s_weight_of) := ⟨rfl, rfl, rfl, by decide +kernel, rfl, by decide +kernel, by decide +kernel⟩
abbrev s_is_weight : Stmt := topS 20
abbrev n_is_weight : List Str := ["value", "literal", "weight"]
theorem sc_is_weight : FnScope n_is_weight ["value"] (defScope s_is_weight) := ⟨rfl, rfl, rfl, by decide +kernel, rfl, by decide +kernel, by decide +kernel⟩
abbrev s_are_weights : Stmt := topS 21
abbrev n_are_weights : List Str := ["formula", "value", "item", "shown", "variable", "literal", "_"]
theorem sc_are_weights : FnScope n_are_weights ["formula", "value"] (defScope s_are_weights) := ⟨rfl, rfl, rfl, by decide +kernel, rfl, by decide +kernel, by decide +kernel⟩
abbrev s_l_draw : Stmt := topS 23
abbrev n_l_draw : List Str := ["script", "seed", "cell"]
theorem sc_l_draw : FnScope n_l_draw ["script"] (defScope s_l_draw) := ⟨rfl, rfl, rfl, by decide +kernel, rfl, by decide +kernel, by decide +kernel⟩
abbrev s_l_take : Stmt := topS 24
abbrev n_l_take : List Str := ["draw", "many", "found"]
theorem sc_l_take : FnScope n_l_take ["draw", "many"] (defScope s_l_take) := ⟨rfl, rfl, rfl, by decide +kernel, rfl, by decide +kernel, by decide +kernel⟩
abbrev s_l_key : Stmt := topS 25
abbrev n_l_key : List Str := ["literal"]
theorem sc_l_key : FnScope n_l_key ["literal"] (defScope s_l_key) := ⟨rfl, rfl, rfl, by decide +kernel, rfl, by decide +kernel, by decide +kernel⟩
abbrev s_l_sorted : Stmt := topS 26
abbrev n_l_sorted : List Str := ["rows", "keyed", "literal", "row", "pair"]
theorem sc_l_sorted : FnScope n_l_sorted ["rows"] (defScope s_l_sorted) := ⟨rfl, rfl, rfl, by decide +kernel, rfl, by decide +kernel, by decide +kernel⟩
abbrev s_l_clause : Stmt := topS 27
abbrev n_l_clause : List Str := ["literals", "pair", "literal"]
theorem sc_l_clause : FnScope n_l_clause ["literals"] (defScope s_l_clause) := ⟨rfl, rfl, rfl, by decide +kernel, rfl, by decide +kernel, by decide +kernel⟩
abbrev s_l_formula : Stmt := topS 28
abbrev n_l_formula : List Str := ["draw", "most", "hidden_most", "clauses", "step", "count", "extra", "names", "k", "hidden", "every", "rows", "row", "size", "j", "literal"]
theorem sc_l_formula : FnScope n_l_formula ["draw", "most", "hidden_most", "clauses"] (defScope s_l_formula) := ⟨rfl, rfl, rfl, by decide +kernel, rfl, by decide +kernel, by decide +kernel⟩
abbrev s_l_gcd : Stmt := topS 29
abbrev n_l_gcd : List Str := ["a", "b", "c"]
theorem sc_l_gcd : FnScope n_l_gcd ["a", "b"] (defScope s_l_gcd) := ⟨rfl, rfl, rfl, by decide +kernel, rfl, by decide +kernel, by decide +kernel⟩
abbrev s_l_fraction : Stmt := topS 30
abbrev n_l_fraction : List Str := ["n", "d", "common"]
theorem sc_l_fraction : FnScope n_l_fraction ["n", "d"] (defScope s_l_fraction) := ⟨rfl, rfl, rfl, by decide +kernel, rfl, by decide +kernel, by decide +kernel⟩
abbrev s_l_weights : Stmt := topS 31
abbrev n_l_weights : List Str := ["draw", "formula", "rows", "variable", "literal", "n"]
theorem sc_l_weights : FnScope n_l_weights ["draw", "formula"] (defScope s_l_weights) := ⟨rfl, rfl, rfl, by decide +kernel, rfl, by decide +kernel, by decide +kernel⟩
abbrev s_l_is_int : Stmt := topS 38
abbrev n_l_is_int : List Str := ["x"]
theorem sc_l_is_int : FnScope n_l_is_int ["x"] (defScope s_l_is_int) := ⟨rfl, rfl, rfl, by decide +kernel, rfl, by decide +kernel, by decide +kernel⟩
abbrev s_l_good_variables : Stmt := topS 39
abbrev n_l_good_variables : List Str := ["row", "k"]
theorem sc_l_good_variables : FnScope n_l_good_variables ["row"] (defScope s_l_good_variables) := ⟨rfl, rfl, rfl, by decide +kernel, rfl, by decide +kernel, by decide +kernel⟩
abbrev s_l_good_clause : Stmt := topS 40
abbrev n_l_good_clause : List Str := ["row", "k"]
theorem sc_l_good_clause : FnScope n_l_good_clause ["row"] (defScope s_l_good_clause) := ⟨rfl, rfl, rfl, by decide +kernel, rfl, by decide +kernel, by decide +kernel⟩
abbrev s_l_due : Stmt := topS 41
abbrev n_l_due : List Str := ["value", "item", "found", "right", "good", "row", "k", "x", "code"]
theorem sc_l_due : FnScope n_l_due ["value"] (defScope s_l_due) := ⟨rfl, rfl, rfl, by decide +kernel, rfl, by decide +kernel, by decide +kernel⟩
abbrev s_l_bent : Stmt := topS 42
abbrev n_l_bent : List Str := ["draw", "formula", "shown", "hidden", "residue", "k", "more", "j"]
theorem sc_l_bent : FnScope n_l_bent ["draw", "formula"] (defScope s_l_bent) := ⟨rfl, rfl, rfl, by decide +kernel, rfl, by decide +kernel, by decide +kernel⟩
abbrev s_law : Stmt := topS 43
abbrev n_law : List Str := ["script", "draw", "formula", "weights", "variable", "literal", "due", "row", "one", "bad", "value", "j", "found", "code"]
theorem sc_law : FnScope n_law ["script"] (defScope s_law) := ⟨rfl, rfl, rfl, by decide +kernel, rfl, by decide +kernel, by decide +kernel⟩
end Ky

namespace Ky
open PySem PySem.Spec PyProof.Rows L2
local macro_rules | `(tactic| walk_at "rd") => `(tactic| repeat (first
  | with_reducible refine w_seq ?_
  | with_reducible refine w_asg ?_
  | with_reducible refine w_ret ?_
  | with_reducible refine w_drop ?_
  | with_reducible refine w_ifs ?_
  | ((with_reducible refine' w_var ?hh ?_); (case hh => exact rfl))
  | with_reducible refine w_c ?_
  | with_reducible refine w_op ?_
  | with_reducible refine w_un ?_
  | with_reducible refine w_I0 ?_
  | with_reducible refine w_U ?_
  | with_reducible refine w_nil ?_
  | with_reducible refine w_cons ?_
  | with_reducible refine w_call ?_
  | with_reducible refine w_cb ?_
  | with_reducible refine w_test ?_
  | with_reducible refine w_B ?_
  | with_reducible refine w_bl ?_
  | with_reducible refine w_and ?_
  | with_reducible refine w_or ?_
  | with_reducible refine w_not ?_
  | with_reducible refine w_ife ?_
  | with_reducible refine w_gRd ?_
  | with_reducible refine w_andV ?_
  | with_reducible refine w_orV ?_
  | with_reducible refine w_notV ?_
  | with_reducible refine w_chain ?_
  | with_reducible refine w_din ?_
  | with_reducible refine w_isi_ii ?_
  | with_reducible refine w_isi_ib ?_
  | with_reducible refine w_isi_it ?_
  | with_reducible refine w_isi_st ?_
  | ((with_reducible refine w_isi_tt ?h1 ?_); (case h1 => first | assumption | exact upd_same))
  | with_reducible refine if_t rfl ?_
  | with_reducible refine if_f rfl ?_
  | with_reducible refine w_tup ?_
  | with_reducible refine w_lst ?_
  | with_reducible refine w_next ?_
  | with_reducible refine w_bm ?_
  | with_reducible refine w_sl ?_
  | with_reducible refine w_part ?_
  | with_reducible refine w_nop ?_
  | with_reducible refine w_isI ?_
  | with_reducible refine w_yes ?_
  | with_reducible refine w_gn ?_
  | with_reducible refine w_gsub ?_
  | ((with_reducible refine' w_setL ?h1 ?h2 ?_); (case h1 => first | assumption | exact upd_same); (case h2 => exact rfl))
  | with_reducible refine w_asgG ?_
  | with_reducible refine w_m1 ?_
  | with_reducible refine w_isS ?_
  | with_reducible refine w_tyS ?_
  | ((with_reducible refine' w_tyL ?h1 ?_); (case h1 => first | assumption | exact upd_same))
  | ((with_reducible refine' w_ixT ?h1 ?h2 ?_); (case h1 => first | assumption | exact upd_same); (case h2 => exact rfl))
  | ((with_reducible refine' w_ixL ?h1 ?h2 ?_); (case h1 => first | assumption | exact upd_same); (case h2 => exact rfl))
  | ((with_reducible refine w_eq ?h1 ?_); (case h1 => exact rfl))
  | ((with_reducible refine w_ne ?h1 ?_); (case h1 => exact rfl))
  | dsimp only [List.set_cons_zero, List.set_cons_succ, List.append_nil, List.cons_append, List.nil_append, cxOf]))

structure Tx (K : PySem.W.Frag) (mg : Str → Option Value) (uG : Value) : Prop where
  z_isinstance : mg "isinstance" = none
  z_int : mg "int" = none
  z_bool : mg "bool" = none
  z_tuple : mg "tuple" = none
  z_abs : mg "abs" = none
  z_all : mg "all" = none
  z_any : mg "any" = none
  z_len : mg "len" = none
  z_list : mg "list" = none
  z_range : mg "range" = none
  z_sorted : mg "sorted" = none
  z_gcd : mg "gcd" = some (.builtin "math.gcd")
  g_GREATEST_VARIABLE : mg "_GREATEST_VARIABLE" = some uG
  v_GREATEST_VARIABLE : RelV (.int 999) uG
def absI (n : Int) : Int := if n < 0 then -n else n
def sgI (n : Int) : Int := if n > 0 then 1 else 0
def isVar (n : Int) : Bool := decide (1 ≤ n) && decide (n ≤ 999)
def isLit (n : Int) : Bool := isVar (absI n)
def keyV (n : Int) : List V := [.int (absI n), .int (sgI n)]
def spKey : Sp := fun vs H Q _ => ∃ n, vs = [.int n] ∧ ∀ p, H p = none → Q (.ref p) (upd H p (.tup (keyV n)))
section
variable {P : Program} {w : World} {K : PySem.W.Frag} {mg : Str → Option Value} {base : Heap} {uG : Value} {f : Addr} {fd : FuncData}
theorem ok_literal_key (F : Fun K "literal_key" "literal_key" s_literal_key f fd) (T : Tx K mg uG) : FnOk P w K mg base CX0 1 f fd ["literal"] spKey := by
  refine F.ok sc_literal_key (fun vs H Q E h => ?_) (fun cdv A outer s H vs Q E hr h => ?_)
  · obtain ⟨n, rfl, _⟩ := h
    rfl
  · obtain ⟨n, rfl, k⟩ := h
    refine ⟨_, (pss_one (ps_ret (pe_tup (pa_cons (pe_callB call_abs (by rfl) T.z_abs (by decide +kernel) (pa_cons (pv 0) pa_nil)) (pa_cons (pe_ifExp (pt_cmpR op_gt (pv 0) pe_int (nomark _)) pe_int pe_int) pa_nil))))), ?_⟩
    rw [show start n_literal_key [(.int n : V)] = ([some (.int n)] : List (Option V)) from rfl]
    walk_at "rd"
    refine ⟨n, rfl, ?_⟩
    walk_at "rd"
    have e : (if decide ((0 : Int) < n) = true then (1 : Int) else 0) = sgI n := by
      unfold sgI
      by_cases h : (0 : Int) < n
      · rw [decide_eq_true h, if_pos rfl, if_pos h]
      · rw [decide_eq_false h, if_neg Bool.false_ne_true, if_neg h]
    by_cases h : (0 : Int) < n
    · rw [decide_eq_true h] at e ⊢
      walk_at "rd"
      refine ⟨by show 2 ≤ sizeLine; decide, fun p hp => ?_⟩
      have q := k p hp
      unfold keyV at q
      rw [← e] at q
      exact q
    · rw [decide_eq_false h] at e ⊢
      walk_at "rd"
      refine ⟨by show 2 ≤ sizeLine; decide, fun p hp => ?_⟩
      have q := k p hp
      unfold keyV at q
      rw [← e] at q
      exact q
theorem ok_l_key (F : Fun K "_law_key" "_law_key" s_l_key f fd) (T : Tx K mg uG) : FnOk P w K mg base CX0 1 f fd ["literal"] spKey := by
  refine F.ok sc_l_key (fun vs H Q E h => ?_) (fun cdv A outer s H vs Q E hr h => ?_)
  · obtain ⟨n, rfl, _⟩ := h
    rfl
  · obtain ⟨n, rfl, k⟩ := h
    refine ⟨_, (pss_one (ps_ret (pe_tup (pa_cons (pe_callB call_abs (by rfl) T.z_abs (by decide +kernel) (pa_cons (pv 0) pa_nil)) (pa_cons (pe_ifExp (pt_cmpR op_gt (pv 0) pe_int (nomark _)) pe_int pe_int) pa_nil))))), ?_⟩
    rw [show start n_l_key [(.int n : V)] = ([some (.int n)] : List (Option V)) from rfl]
    walk_at "rd"
    refine ⟨n, rfl, ?_⟩
    walk_at "rd"
    have e : (if decide ((0 : Int) < n) = true then (1 : Int) else 0) = sgI n := by
      unfold sgI
      by_cases h : (0 : Int) < n
      · rw [decide_eq_true h, if_pos rfl, if_pos h]
      · rw [decide_eq_false h, if_neg Bool.false_ne_true, if_neg h]
    by_cases h : (0 : Int) < n
    · rw [decide_eq_true h] at e ⊢
      walk_at "rd"
      refine ⟨by show 2 ≤ sizeLine; decide, fun p hp => ?_⟩
      have q := k p hp
      unfold keyV at q
      rw [← e] at q
      exact q
    · rw [decide_eq_false h] at e ⊢
      walk_at "rd"
      refine ⟨by show 2 ≤ sizeLine; decide, fun p hp => ?_⟩
      have q := k p hp
      unfold keyV at q
      rw [← e] at q
      exact q
end
/-! ### keys as data -/
def keyD (n : Int) : PyData := .tuple [.int (absI n), .int (sgI n)]
def ckD (ls : List Int) : PyData := .tuple (ls.map keyD)
/-- a new tuple whose data are the keys of a clause -/
def spCKey : Sp := fun vs H Q _ => ∃ (a : Addr) (ls : List Int), vs = [.ref a] ∧ H a = some (.tup (ls.map V.int)) ∧ ls.length ≤ sizeLine ∧ ∀ (ps : List Addr) (p : Addr) (H' : Hp), Kept H H' → H p = none → H' p = some (.tup (ps.map V.ref)) → ps.length = ls.length → (∀ (i : Nat) (q : Addr) (n : Int), ps[i]? = some q → ls[i]? = some n → H' q = some (.tup (keyV n))) → Q (.ref p) H'
theorem dp_key {K : PySem.W.Frag} {H : Hp} {q : Addr} {n : Int} (h : H q = some (.tup (keyV n))) : Dp K H (.ref q) (keyD n) := .tup (SqT.of h) (.cons (.int _) (.cons (.int _) .nil))
theorem dpAll_of {K : PySem.W.Frag} {H : Hp} : ∀ {xs : List V} {ds : List PyData}, xs.length = ds.length → (∀ (i : Nat) (x : V) (d : PyData), xs[i]? = some x → ds[i]? = some d → Dp K H x d) → DpAll K H xs ds
  | [], [], _, _ => .nil
  | x :: xs, d :: ds, hl, h => .cons (h 0 x d rfl rfl) (dpAll_of (Nat.succ.inj hl) fun i y e h1 h2 => h (i + 1) y e h1 h2)
  | [], _ :: _, hl, _ => by cases hl
  | _ :: _, [], hl, _ => by cases hl
theorem dp_ckey {K : PySem.W.Frag} {H : Hp} {p : Addr} {ps : List Addr} {ls : List Int} (hp : H p = some (.tup (ps.map V.ref))) (hl : ps.length = ls.length) (h : ∀ (i : Nat) (q : Addr) (n : Int), ps[i]? = some q → ls[i]? = some n → H q = some (.tup (keyV n))) : Dp K H (.ref p) (ckD ls) :=
  .tup (SqT.of hp) (dpAll_of (by rw [List.length_map, List.length_map, hl]) fun i x d hx hd => by
    rw [List.getElem?_map] at hx hd
    obtain ⟨q, hq, rfl⟩ := Option.map_eq_some_iff.mp hx
    obtain ⟨n, hn, rfl⟩ := Option.map_eq_some_iff.mp hd
    exact dp_key (h i q n hq hn))
section
variable {P : Program} {w : World} {K : PySem.W.Frag} {mg : Str → Option Value} {base : Heap} {uG : Value} {f : Addr} {fd : FuncData}
theorem ok_clause_key (F : Fun K "clause_key" "clause_key" s_clause_key f fd) (T : Tx K mg uG) (D_literal_key : Df P w K mg base 1 "literal_key" ["literal"] spKey) : FnOk P w K mg base CX0 2 f fd ["clause"] spCKey := by
  refine F.ok sc_clause_key (fun vs H Q E h => ?_) (fun cdv A outer s H vs Q E hr h => ?_)
  · obtain ⟨a, ls, rfl, _⟩ := h
    rfl
  · obtain ⟨a, ls, rfl, ha, hz, k⟩ := h
    refine ⟨_, (pss_one (ps_ret (pe_callTy call_tuple_of (by rfl) T.z_tuple (by decide +kernel) (pa_cons (pe_lc (own := [("literal", 1)]) (g := gName 1) (by rfl) sc_clause_key.nd (pi_tupK (K := K) rfl (pv 0)) (blkOk_by (own := [("literal", 1)]) (N := n_clause_key) (sc := defScope s_clause_key) (by decide +kernel)) (fun _ _ _ _ _ => pg_name (i := 1) sc_clause_key.nd rfl (Or.inl rfl)) (fun _ _ _ _ _ => pts_nil) (fun _ _ _ _ _ => (pe_df D_literal_key (hr.mono (by decide)) (by rfl) (pa_cons (pv 1) pa_nil)))) pa_nil)))), ?_⟩
    rw [show start n_clause_key [(.ref a : V)] = ([some (.ref a), none] : List (Option V)) from rfl]
    walk_at "rd"
    refine ⟨_, rfl, a, rfl, ⟨_, SqT.of ha⟩, fun D hD => lc_tup (K := K) (xs := ls.map V.int) (fun i H1 => ∃ ps : List Addr, H1 D = some (.lst (ps.map V.ref)) ∧ ps.length = i ∧ Kept H H1 ∧ ∀ (j : Nat) (q : Addr) (n : Int), ps[j]? = some q → ls[j]? = some n → H1 q = some (.tup (keyV n))) ⟨[], upd_same, rfl, Kept.new hD, fun j q n h => by simp at h⟩ (fun i H1 _ h => by
      obtain ⟨_, _, _, k1, _⟩ := h
      exact SqT.of (k1.tup ha)) ?_ ?_⟩
    · rintro i y H1 hi ⟨ps, h1, h2, k1, h3⟩
      obtain ⟨u, rfl, hu⟩ := map_int hi
      refine ⟨rfl, ?_⟩
      walk_at "rd"
      refine ⟨u, rfl, fun p hp => ?_⟩
      have hi2 : i < ls.length := (List.getElem?_eq_some_iff.mp hu).1
      have nD : D ≠ p := ne_of_none h1 hp
      refine ⟨ps.map V.ref, by rw [upd_ne nD]; exact h1, by rw [List.length_map]; omega, ps ++ [p], by rw [List.map_append]; exact upd_same, by rw [List.length_append, h2]; rfl, Kept.mut (k1.trans (Kept.new hp)) hD, fun j q n hq hn => ?_⟩
      by_cases hj : j < ps.length
      · rw [List.getElem?_append_left hj] at hq
        have e := h3 j q n hq hn
        have n1 : q ≠ D := fun z => by
          rw [z, h1] at e
          cases e
        have n2 : q ≠ p := ne_of_none e hp
        rw [upd_ne n1, upd_ne n2]
        exact e
      · have hj2 : j < (ps ++ [p]).length := (List.getElem?_eq_some_iff.mp hq).1
        rw [List.length_append] at hj2
        have ej : j = ps.length := by
          have : j < ps.length + 1 := hj2
          omega
        subst ej
        have eq : q = p := by simpa using hq.symm
        subst eq
        rw [h2, hu] at hn
        cases hn
        rw [upd_ne (Ne.symm nD), upd_same]
    · rintro H1 ⟨ps, h1, h2, k1, h3⟩
      walk_at "rd"
      refine ⟨D, ps.map V.ref, rfl, .inl ⟨SqL.of h1, fun l hl => ?_⟩⟩
      refine k ps l _ (k1.trans (Kept.new hl)) (k1.free _ hl) upd_same (by rw [h2, List.length_map]) fun i q n hq hn => ?_
      have e := h3 i q n hq hn
      rw [upd_ne (ne_of_none e hl)]
      exact e
theorem atI_eq {α : Type} {xs : List α} {i : Int} {j : Nat} {v : α} (e : i = (j : Int)) (h : xs[j]? = some v) : atI xs i = some v := by
  rw [e]
  exact atI_nat h
/-- each item is below the next -/
def ascD (ds : List PyData) : Bool := (List.range (ds.length - 1)).all fun j => PySem.W.dataLt (ds.getD j .none) (ds.getD (j + 1) .none)
theorem dpAll_at {K : PySem.W.Frag} {H : Hp} : ∀ {xs : List V} {ds : List PyData} {i : Nat} {x : V}, DpAll K H xs ds → xs[i]? = some x → ∃ d, ds[i]? = some d ∧ Dp K H x d
  | _, _, 0, _, .cons h _, e => by
    cases e
    exact ⟨_, rfl, h⟩
  | _, _, i + 1, _, .cons _ t, e => dpAll_at (i := i) t (by simpa using e)
end
end Ky

namespace Ky
open PySem PySem.Spec PyProof.Rows L2
local macro_rules | `(tactic| walk_at "rd") => `(tactic| repeat (first
  | with_reducible refine w_seq ?_
  | with_reducible refine w_asg ?_
  | with_reducible refine w_ret ?_
  | with_reducible refine w_drop ?_
  | with_reducible refine w_ifs ?_
  | ((with_reducible refine' w_var ?hh ?_); (case hh => exact rfl))
  | with_reducible refine w_c ?_
  | with_reducible refine w_op ?_
  | with_reducible refine w_un ?_
  | with_reducible refine w_I0 ?_
  | with_reducible refine w_U ?_
  | with_reducible refine w_nil ?_
  | with_reducible refine w_cons ?_
  | with_reducible refine w_call ?_
  | with_reducible refine w_cb ?_
  | with_reducible refine w_test ?_
  | with_reducible refine w_B ?_
  | with_reducible refine w_bl ?_
  | with_reducible refine w_and ?_
  | with_reducible refine w_or ?_
  | with_reducible refine w_not ?_
  | with_reducible refine w_ife ?_
  | with_reducible refine w_gRd ?_
  | with_reducible refine w_andV ?_
  | with_reducible refine w_orV ?_
  | with_reducible refine w_notV ?_
  | with_reducible refine w_chain ?_
  | with_reducible refine w_din ?_
  | with_reducible refine w_isi_ii ?_
  | with_reducible refine w_isi_ib ?_
  | with_reducible refine w_isi_it ?_
  | with_reducible refine w_isi_st ?_
  | ((with_reducible refine w_isi_tt ?h1 ?_); (case h1 => first | assumption | exact upd_same))
  | with_reducible refine if_t rfl ?_
  | with_reducible refine if_f rfl ?_
  | with_reducible refine w_tup ?_
  | with_reducible refine w_lst ?_
  | with_reducible refine w_next ?_
  | with_reducible refine w_bm ?_
  | with_reducible refine w_sl ?_
  | with_reducible refine w_part ?_
  | with_reducible refine w_nop ?_
  | with_reducible refine w_isI ?_
  | with_reducible refine w_yes ?_
  | with_reducible refine w_gn ?_
  | with_reducible refine w_gsub ?_
  | ((with_reducible refine' w_setL ?h1 ?h2 ?_); (case h1 => first | assumption | exact upd_same); (case h2 => exact rfl))
  | with_reducible refine w_asgG ?_
  | with_reducible refine w_m1 ?_
  | with_reducible refine w_isS ?_
  | with_reducible refine w_tyS ?_
  | ((with_reducible refine' w_tyL ?h1 ?_); (case h1 => first | assumption | exact upd_same))
  | ((with_reducible refine' w_ixT ?h1 ?h2 ?_); (case h1 => first | assumption | exact upd_same); (case h2 => exact rfl))
  | ((with_reducible refine' w_ixL ?h1 ?h2 ?_); (case h1 => first | assumption | exact upd_same); (case h2 => exact rfl))
  | ((with_reducible refine w_eq ?h1 ?_); (case h1 => exact rfl))
  | ((with_reducible refine w_ne ?h1 ?_); (case h1 => exact rfl))
  | dsimp only [List.set_cons_zero, List.set_cons_succ, List.append_nil, List.cons_append, List.nil_append, cxOf]))

theorem keyD_alike (a b : Int) : PySem.W.alike (keyD a) (keyD b) = true := by simp [keyD, PySem.W.alike, PySem.W.alikeAll]
theorem keyD_depth (a : Int) : (keyD a).depth ≤ 60 := by simp [keyD, PyData.depth, PyData.depthAll]
def bothS (ls : List Int) : Bool := (List.range (ls.map V.int).length).any fun i => decide (-(ls.getD i 0) ∈ ls)
def clauseF (ls : List Int) : List Int := srtBy keyD (dd ls)
def spClauseOf (P0 : Addr) : Sp := fun vs H Q _ => ∃ (a : Addr) (ls : List Int), vs = [.ref a] ∧ H a = some (.lst (ls.map V.int)) ∧ ls.length ≤ 1000 ∧ GxR.TabG H P0 ∧ (bothS ls = true → ∀ H', Kept H H' → Q .non H') ∧
  (bothS ls = false → ∀ p H', Kept H H' → H p = none → H' p = some (.tup ((clauseF ls).map V.int)) → Q (.ref p) H')
section
variable {P : Program} {w : World} {K : PySem.W.Frag} {mg : Str → Option Value} {base : Heap} {uG : Value} {f : Addr} {fd : FuncData}
end
end Ky

namespace Ky
open PySem PySem.Spec PyProof.Rows L2
local macro_rules | `(tactic| walk_at "rd") => `(tactic| repeat (first
  | with_reducible refine w_seq ?_
  | with_reducible refine w_asg ?_
  | with_reducible refine w_ret ?_
  | with_reducible refine w_drop ?_
  | with_reducible refine w_ifs ?_
  | ((with_reducible refine' w_var ?hh ?_); (case hh => exact rfl))
  | with_reducible refine w_c ?_
  | with_reducible refine w_op ?_
  | with_reducible refine w_un ?_
  | with_reducible refine w_I0 ?_
  | with_reducible refine w_U ?_
  | with_reducible refine w_nil ?_
  | with_reducible refine w_cons ?_
  | with_reducible refine w_call ?_
  | with_reducible refine w_cb ?_
  | with_reducible refine w_test ?_
  | with_reducible refine w_B ?_
  | with_reducible refine w_bl ?_
  | with_reducible refine w_and ?_
  | with_reducible refine w_or ?_
  | with_reducible refine w_not ?_
  | with_reducible refine w_ife ?_
  | with_reducible refine w_gRd ?_
  | with_reducible refine w_andV ?_
  | with_reducible refine w_orV ?_
  | with_reducible refine w_notV ?_
  | with_reducible refine w_chain ?_
  | with_reducible refine w_din ?_
  | with_reducible refine w_isi_ii ?_
  | with_reducible refine w_isi_ib ?_
  | with_reducible refine w_isi_it ?_
  | with_reducible refine w_isi_st ?_
  | ((with_reducible refine w_isi_tt ?h1 ?_); (case h1 => first | assumption | exact upd_same))
  | with_reducible refine if_t rfl ?_
  | with_reducible refine if_f rfl ?_
  | with_reducible refine w_tup ?_
  | with_reducible refine w_lst ?_
  | with_reducible refine w_next ?_
  | with_reducible refine w_bm ?_
  | with_reducible refine w_sl ?_
  | with_reducible refine w_part ?_
  | with_reducible refine w_nop ?_
  | with_reducible refine w_isI ?_
  | with_reducible refine w_yes ?_
  | with_reducible refine w_gn ?_
  | with_reducible refine w_gsub ?_
  | ((with_reducible refine' w_setL ?h1 ?h2 ?_); (case h1 => first | assumption | exact upd_same); (case h2 => exact rfl))
  | with_reducible refine w_asgG ?_
  | with_reducible refine w_m1 ?_
  | with_reducible refine w_isS ?_
  | with_reducible refine w_tyS ?_
  | ((with_reducible refine' w_tyL ?h1 ?_); (case h1 => first | assumption | exact upd_same))
  | ((with_reducible refine' w_ixT ?h1 ?h2 ?_); (case h1 => first | assumption | exact upd_same); (case h2 => exact rfl))
  | ((with_reducible refine' w_ixL ?h1 ?h2 ?_); (case h1 => first | assumption | exact upd_same); (case h2 => exact rfl))
  | ((with_reducible refine w_eq ?h1 ?_); (case h1 => exact rfl))
  | ((with_reducible refine w_ne ?h1 ?_); (case h1 => exact rfl))
  | dsimp only [List.set_cons_zero, List.set_cons_succ, List.append_nil, List.cons_append, List.nil_append, cxOf]))

theorem ckD_alike : ∀ (a b : List Int), PySem.W.alike (ckD a) (ckD b) = true := by
  have aux : ∀ (a b : List Int), PySem.W.alikeAll (a.map keyD) (b.map keyD) = true := by
    intro a
    induction a with
    | nil => intro b; simp [PySem.W.alikeAll]
    | cons x a ih =>
      intro b
      cases b with
      | nil => simp [PySem.W.alikeAll]
      | cons y b =>
        rw [List.map_cons, List.map_cons, PySem.W.alikeAll, keyD_alike, ih]
        rfl
  intro a b
  unfold ckD
  simp only [PySem.W.alike]
  exact aux a b
theorem ckD_depth (a : List Int) : (ckD a).depth ≤ 60 := by
  have aux : ∀ a : List Int, PyData.depthAll (a.map keyD) ≤ 2 := by
    intro a
    induction a with
    | nil => simp [PyData.depthAll]
    | cons x a ih =>
      rw [List.map_cons, PyData.depthAll]
      have h1 : (keyD x).depth ≤ 2 := by simp [keyD, PyData.depth, PyData.depthAll]
      omega
  unfold ckD
  simp only [PyData.depth]
  have := aux a
  omega
/-- rows of clauses at these places -/
def ClsAt (H : Hp) (bs : List Addr) (cs : List (List Int)) : Prop := bs.length = cs.length ∧ ∀ (i : Nat) (b : Addr) (c : List Int), bs[i]? = some b → cs[i]? = some c → H b = some (.tup (c.map V.int))
theorem ClsAt.kept {H H' : Hp} {bs : List Addr} {cs : List (List Int)} (h : ClsAt H bs cs) (k : Kept H H') : ClsAt H' bs cs := ⟨h.1, fun i b c h1 h2 => k.tup (h.2 i b c h1 h2)⟩
def residueF (cs : List (List Int)) : List (List Int) := srtBy ckD (dd cs)
theorem clsAt_zip {H : Hp} {bs : List Addr} {cs : List (List Int)} (h : ClsAt H bs cs) : ∀ p ∈ bs.zip cs, H p.1 = some (.tup (p.2.map V.int)) := fun p hp => by
  obtain ⟨i, hi⟩ := List.mem_iff_getElem?.mp hp
  rw [List.getElem?_zip_eq_some] at hi
  exact h.2 i _ _ hi.1 hi.2
theorem clsAt_of {H : Hp} {zs : List (Addr × List Int)} (h : ∀ p ∈ zs, H p.1 = some (.tup (p.2.map V.int))) : ClsAt H (zs.map (·.1)) (zs.map (·.2)) := by
  refine ⟨by rw [List.length_map, List.length_map], fun i b c h1 h2 => ?_⟩
  rw [List.getElem?_map] at h1 h2
  obtain ⟨p, hp, rfl⟩ := Option.map_eq_some_iff.mp h1
  rw [hp] at h2
  cases h2
  exact h p (List.mem_of_getElem? hp)
theorem sort_cls {H : Hp} {bs : List Addr} {cs : List (List Int)} (h : ClsAt H bs cs) : ∃ bs', sortD (bs.map V.ref) (cs.map ckD) = bs'.map V.ref ∧ ClsAt H bs' (srtBy ckD cs) := by
  have e1 : bs = (bs.zip cs).map (·.1) := (List.map_fst_zip (by rw [h.1]; exact Nat.le_refl _)).symm
  have e2 : cs = (bs.zip cs).map (·.2) := (List.map_snd_zip (by rw [h.1]; exact Nat.le_refl _)).symm
  refine ⟨(srtBy (fun p : Addr × List Int => ckD p.2) (bs.zip cs)).map (·.1), ?_, ?_⟩
  · have q := sortD_map (fun p : Addr × List Int => V.ref p.1) (fun p : Addr × List Int => ckD p.2) (bs.zip cs)
    have a1 : (bs.zip cs).map (fun p : Addr × List Int => V.ref p.1) = bs.map V.ref := by
      conv => rhs; rw [e1]
      rw [List.map_map] <;> rfl
    have a2 : (bs.zip cs).map (fun p : Addr × List Int => ckD p.2) = cs.map ckD := by
      conv => rhs; rw [e2]
      rw [List.map_map] <;> rfl
    rw [a1, a2] at q
    rw [q, List.map_map] <;> rfl
  · have q := srtBy_map (fun p : Addr × List Int => p.2) ckD (bs.zip cs)
    rw [← e2] at q
    rw [← q]
    exact clsAt_of fun p hp => clsAt_zip h p (mem_srtBy.mp hp)
theorem isKeys_cls {H : Hp} {cs : List (List Int)} {bs : List Addr} (h : IsKeys H (setDict (cs.map keysI)) bs) : ClsAt H bs cs := by
  induction cs generalizing bs with
  | nil =>
    cases h
    exact ⟨rfl, fun i b c h1 _ => by simp at h1⟩
  | cons c cs ih =>
    cases h with
    | cons h1 h2 =>
      obtain ⟨l1, l2⟩ := ih h2
      refine ⟨by rw [List.length_cons, List.length_cons, l1], fun i b d e1 e2 => ?_⟩
      cases i with
      | zero =>
        cases e1
        cases e2
        have z := h1
        rw [keysI_kV] at z
        exact z
      | succ i => exact l2 i b d (by simpa using e1) (by simpa using e2)
def spResidueOf : Sp := fun vs H Q _ => ∃ (a : Addr) (bs : List Addr) (cs : List (List Int)), vs = [.ref a] ∧ H a = some (.lst (bs.map V.ref)) ∧ ClsAt H bs cs ∧ cs.length ≤ 1000 ∧ (∀ c ∈ cs, c.length ≤ 1000) ∧
  ∀ p H' bs', Kept H H' → H p = none → H' p = some (.tup (bs'.map V.ref)) → ClsAt H' bs' (residueF cs) → Q (.ref p) H'
section
variable {P : Program} {w : World} {K : PySem.W.Frag} {mg : Str → Option Value} {base : Heap} {uG : Value} {f : Addr} {fd : FuncData}
end
end Ky

namespace Ky
open PySem PySem.Spec PyProof.Rows L2
local macro_rules | `(tactic| walk_at "rd") => `(tactic| repeat (first
  | with_reducible refine w_seq ?_
  | with_reducible refine w_asg ?_
  | with_reducible refine w_ret ?_
  | with_reducible refine w_drop ?_
  | with_reducible refine w_ifs ?_
  | ((with_reducible refine' w_var ?hh ?_); (case hh => exact rfl))
  | with_reducible refine w_c ?_
  | with_reducible refine w_op ?_
  | with_reducible refine w_un ?_
  | with_reducible refine w_I0 ?_
  | with_reducible refine w_U ?_
  | with_reducible refine w_nil ?_
  | with_reducible refine w_cons ?_
  | with_reducible refine w_call ?_
  | with_reducible refine w_cb ?_
  | with_reducible refine w_test ?_
  | with_reducible refine w_B ?_
  | with_reducible refine w_bl ?_
  | with_reducible refine w_and ?_
  | with_reducible refine w_or ?_
  | with_reducible refine w_not ?_
  | with_reducible refine w_ife ?_
  | with_reducible refine w_gRd ?_
  | with_reducible refine w_andV ?_
  | with_reducible refine w_orV ?_
  | with_reducible refine w_notV ?_
  | with_reducible refine w_chain ?_
  | with_reducible refine w_din ?_
  | with_reducible refine w_isi_ii ?_
  | with_reducible refine w_isi_ib ?_
  | with_reducible refine w_isi_it ?_
  | with_reducible refine w_isi_st ?_
  | ((with_reducible refine w_isi_tt ?h1 ?_); (case h1 => first | assumption | exact upd_same))
  | with_reducible refine if_t rfl ?_
  | with_reducible refine if_f rfl ?_
  | with_reducible refine w_tup ?_
  | with_reducible refine w_lst ?_
  | with_reducible refine w_next ?_
  | with_reducible refine w_bm ?_
  | with_reducible refine w_sl ?_
  | with_reducible refine w_part ?_
  | with_reducible refine w_nop ?_
  | with_reducible refine w_isI ?_
  | with_reducible refine w_yes ?_
  | with_reducible refine w_gn ?_
  | with_reducible refine w_gsub ?_
  | ((with_reducible refine' w_setL ?h1 ?h2 ?_); (case h1 => first | assumption | exact upd_same); (case h2 => exact rfl))
  | with_reducible refine w_asgG ?_
  | with_reducible refine w_m1 ?_
  | with_reducible refine w_isS ?_
  | with_reducible refine w_tyS ?_
  | ((with_reducible refine' w_tyL ?h1 ?_); (case h1 => first | assumption | exact upd_same))
  | ((with_reducible refine' w_ixT ?h1 ?h2 ?_); (case h1 => first | assumption | exact upd_same); (case h2 => exact rfl))
  | ((with_reducible refine' w_ixL ?h1 ?h2 ?_); (case h1 => first | assumption | exact upd_same); (case h2 => exact rfl))
  | ((with_reducible refine w_eq ?h1 ?_); (case h1 => exact rfl))
  | ((with_reducible refine w_ne ?h1 ?_); (case h1 => exact rfl))
  | dsimp only [List.set_cons_zero, List.set_cons_succ, List.append_nil, List.cons_append, List.nil_append, cxOf]))

theorem dpAll_ints {K : PySem.W.Frag} {H : Hp} : ∀ ls : List Int, DpAll K H (ls.map V.int) (ls.map PyData.int)
  | [] => .nil
  | n :: ls => .cons (.int n) (dpAll_ints ls)
def absAll (cs : List (List Int)) : List Int := cs.flatten.map absI
def isClauseF (ls : List Int) : Bool := (List.range (ls.map V.int).length).all (fun i => isLit (ls.getD i 0)) && ascD (ls.map fun n => .int (absI n))
section
variable {P : Program} {w : World} {K : PySem.W.Frag} {mg : Str → Option Value} {base : Heap} {uG : Value} {f : Addr} {fd : FuncData}
/-- the keys of the clause d stand at p -/
def CkAt (H : Hp) (p : Addr) (d : List Int) : Prop := ∃ qs : List Addr, H p = some (.tup (qs.map V.ref)) ∧ qs.length = d.length ∧ ∀ (i : Nat) (q : Addr) (n : Int), qs[i]? = some q → d[i]? = some n → H q = some (.tup (keyV n))
theorem CkAt.kept {H H' : Hp} {p : Addr} {d : List Int} (h : CkAt H p d) (k : Kept H H') : CkAt H' p d := by
  obtain ⟨qs, h1, h2, h3⟩ := h
  exact ⟨qs, k.tup h1, h2, fun i q n a b => k.tup (h3 i q n a b)⟩
theorem tup_upd {H : Hp} {D q : Addr} {xs ys : List V} {o : HO} (hD : H D = some (.lst xs)) (h : H q = some (.tup ys)) : upd H D o q = some (.tup ys) := by
  rw [upd_ne (fun z => by
    rw [z, hD] at h
    cases h)]
  exact h
theorem CkAt.updL {H : Hp} {p D : Addr} {d : List Int} {xs : List V} {o : HO} (h : CkAt H p d) (hD : H D = some (.lst xs)) : CkAt (upd H D o) p d := by
  obtain ⟨qs, h1, h2, h3⟩ := h
  exact ⟨qs, tup_upd hD h1, h2, fun i q n a b => tup_upd hD (h3 i q n a b)⟩
theorem CkAt.dp {K : PySem.W.Frag} {H : Hp} {p : Addr} {d : List Int} (h : CkAt H p d) : Dp K H (.ref p) (ckD d) := by
  obtain ⟨qs, h1, h2, h3⟩ := h
  exact dp_ckey h1 h2 h3
def isResidueF (cs : List (List Int)) : Bool := (List.range cs.length).all (fun i => isClauseF (cs.getD i [])) && ascD (cs.map ckD)
end
end Ky

namespace Ky
open PySem PySem.Spec PyProof.Rows L2
local macro_rules | `(tactic| walk_at "rd") => `(tactic| repeat (first
  | with_reducible refine w_seq ?_
  | with_reducible refine w_asg ?_
  | with_reducible refine w_ret ?_
  | with_reducible refine w_drop ?_
  | with_reducible refine w_ifs ?_
  | ((with_reducible refine' w_var ?hh ?_); (case hh => exact rfl))
  | with_reducible refine w_c ?_
  | with_reducible refine w_op ?_
  | with_reducible refine w_un ?_
  | with_reducible refine w_I0 ?_
  | with_reducible refine w_U ?_
  | with_reducible refine w_nil ?_
  | with_reducible refine w_cons ?_
  | with_reducible refine w_call ?_
  | with_reducible refine w_cb ?_
  | with_reducible refine w_test ?_
  | with_reducible refine w_B ?_
  | with_reducible refine w_bl ?_
  | with_reducible refine w_and ?_
  | with_reducible refine w_or ?_
  | with_reducible refine w_not ?_
  | with_reducible refine w_ife ?_
  | with_reducible refine w_gRd ?_
  | with_reducible refine w_andV ?_
  | with_reducible refine w_orV ?_
  | with_reducible refine w_notV ?_
  | with_reducible refine w_chain ?_
  | with_reducible refine w_din ?_
  | with_reducible refine w_isi_ii ?_
  | with_reducible refine w_isi_ib ?_
  | with_reducible refine w_isi_it ?_
  | with_reducible refine w_isi_st ?_
  | ((with_reducible refine w_isi_tt ?h1 ?_); (case h1 => first | assumption | exact upd_same))
  | with_reducible refine if_t rfl ?_
  | with_reducible refine if_f rfl ?_
  | with_reducible refine w_tup ?_
  | with_reducible refine w_lst ?_
  | with_reducible refine w_next ?_
  | with_reducible refine w_bm ?_
  | with_reducible refine w_sl ?_
  | with_reducible refine w_part ?_
  | with_reducible refine w_nop ?_
  | with_reducible refine w_isI ?_
  | with_reducible refine w_yes ?_
  | with_reducible refine w_gn ?_
  | with_reducible refine w_gsub ?_
  | ((with_reducible refine' w_setL ?h1 ?h2 ?_); (case h1 => first | assumption | exact upd_same); (case h2 => exact rfl))
  | with_reducible refine w_asgG ?_
  | with_reducible refine w_m1 ?_
  | with_reducible refine w_isS ?_
  | with_reducible refine w_tyS ?_
  | ((with_reducible refine' w_tyL ?h1 ?_); (case h1 => first | assumption | exact upd_same))
  | ((with_reducible refine' w_ixT ?h1 ?h2 ?_); (case h1 => first | assumption | exact upd_same); (case h2 => exact rfl))
  | ((with_reducible refine' w_ixL ?h1 ?h2 ?_); (case h1 => first | assumption | exact upd_same); (case h2 => exact rfl))
  | ((with_reducible refine w_eq ?h1 ?_); (case h1 => exact rfl))
  | ((with_reducible refine w_ne ?h1 ?_); (case h1 => exact rfl))
  | dsimp only [List.set_cons_zero, List.set_cons_succ, List.append_nil, List.cons_append, List.nil_append, cxOf]))

def keep1 (fs c : List Int) : Bool := (List.range (c.map V.int).length).any fun i => decide (c.getD i 0 ∈ fs)
def keepsF (cs : List (List Int)) (fs : List Int) : Bool := (List.range cs.length).all fun i => keep1 fs (cs.getD i [])
def spKeeps (P0 : Addr) : Sp := fun vs H Q _ => ∃ (a b : Addr) (bs : List Addr) (cs : List (List Int)) (fs : List Int), vs = [.ref a, .ref b] ∧ H a = some (.tup (bs.map V.ref)) ∧ ClsAt H bs cs ∧ H b = some (.tup (fs.map V.int)) ∧ fs.length ≤ 1000 ∧ GxR.TabG H P0 ∧ ∀ H', Kept H H' → Q (.bl (keepsF cs fs)) H'
section
variable {P : Program} {w : World} {K : PySem.W.Frag} {mg : Str → Option Value} {base : Heap} {uG : Value} {f : Addr} {fd : FuncData}
theorem dataLt_asym {x y : PyData} (h : PySem.W.dataLt x y = true) : PySem.W.dataLt y x = false := by
  have t := (PySem.W.sortLe_total (PyProof.Rows.listOrd PyProof.Rows.itemOrd) false fun d : PyData => PySem.W.keyToks d).total x y
  have e1 : PySem.W.sortLe (PyProof.Rows.listOrd PyProof.Rows.itemOrd) false (fun d : PyData => PySem.W.keyToks d) x y = !PySem.W.dataLt y x := rfl
  have e2 : PySem.W.sortLe (PyProof.Rows.listOrd PyProof.Rows.itemOrd) false (fun d : PyData => PySem.W.keyToks d) y x = !PySem.W.dataLt x y := rfl
  rw [e1, e2, h] at t
  cases z : PySem.W.dataLt y x with
  | false => rfl
  | true =>
    rw [z] at t
    rcases t with t | t <;> cases t
theorem dataLe_trans {x y z : PyData} (h1 : PySem.W.dataLt y x = false) (h2 : PySem.W.dataLt z y = false) : PySem.W.dataLt z x = false := by
  have t := (PySem.W.sortLe_total (PyProof.Rows.listOrd PyProof.Rows.itemOrd) false fun d : PyData => PySem.W.keyToks d).trans x y z
  have e1 : PySem.W.sortLe (PyProof.Rows.listOrd PyProof.Rows.itemOrd) false (fun d : PyData => PySem.W.keyToks d) x y = !PySem.W.dataLt y x := rfl
  have e2 : PySem.W.sortLe (PyProof.Rows.listOrd PyProof.Rows.itemOrd) false (fun d : PyData => PySem.W.keyToks d) y z = !PySem.W.dataLt z y := rfl
  have e3 : PySem.W.sortLe (PyProof.Rows.listOrd PyProof.Rows.itemOrd) false (fun d : PyData => PySem.W.keyToks d) x z = !PySem.W.dataLt z x := rfl
  rw [e1, e2, e3, h1, h2] at t
  have q := t rfl rfl
  cases w : PySem.W.dataLt z x with
  | false => rfl
  | true =>
    rw [w] at q
    cases q
theorem dataLt_trans {x y z : PyData} (h1 : PySem.W.dataLt x y = true) (h2 : PySem.W.dataLt y z = true) : PySem.W.dataLt x z = true := by
  cases w : PySem.W.dataLt x z with
  | true => rfl
  | false =>
    have q := dataLe_trans (dataLt_asym h2) w
    rw [h1] at q
    cases q
/-- the place where a clause would stand -/
def isPlace (c : List Int) (cs : List (List Int)) (n : Nat) : Prop := n ≤ cs.length ∧ (∀ i, i < n → PySem.W.dataLt (ckD (cs.getD i [])) (ckD c) = true) ∧ (∀ i, n ≤ i → i < cs.length → PySem.W.dataLt (ckD (cs.getD i [])) (ckD c) = false)
/-- the list ascends -/
def ascC (cs : List (List Int)) : Prop := cs.Pairwise fun x y => PySem.W.dataLt (ckD x) (ckD y) = true
def spPlace : Sp := fun vs H Q _ => ∃ (a b : Addr) (bs : List Addr) (cs : List (List Int)) (c : List Int), vs = [.ref a, .ref b] ∧ H a = some (.tup (c.map V.int)) ∧ c.length ≤ 1000 ∧ H b = some (.lst (bs.map V.ref)) ∧ ClsAt H bs cs ∧ ascC cs ∧ cs.length ≤ 1000 ∧ (∀ d ∈ cs, d.length ≤ 1000) ∧
  ∀ n H', Kept H H' → isPlace c cs n → Q (.int (n : Nat)) H'
end
end Ky

namespace Ky
open PySem PySem.Spec PyProof.Rows L2
theorem key_inj {n m : Int} (h1 : absI n = absI m) (h2 : sgI n = sgI m) : n = m := by
  unfold absI at h1
  unfold sgI at h2
  by_cases a : n < 0 <;> by_cases b : m < 0 <;> by_cases c : n > 0 <;> by_cases d : m > 0 <;> simp [a, b, c, d] at h1 h2 <;> omega
theorem ck_inj : ∀ a b : List Int, PySem.W.keyToksAll (a.map keyD) = PySem.W.keyToksAll (b.map keyD) → a = b
  | [], [], _ => rfl
  | [], y :: b, h => by
    simp [PySem.W.keyToksAll] at h
  | x :: a, [], h => by
    simp [PySem.W.keyToksAll] at h
  | x :: a, y :: b, h => by
    rw [List.map_cons, List.map_cons, PySem.W.keyToksAll, PySem.W.keyToksAll] at h
    simp only [keyD, PySem.W.keyToks, PySem.W.keyToksAll, List.cons_append, List.nil_append, List.append_assoc] at h
    simp only [List.cons.injEq, Sum.inl.injEq, true_and] at h
    obtain ⟨h1, h2, h3⟩ := h
    rw [key_inj h1 h2, ck_inj a b h3]
theorem ck_total {a b : List Int} (h1 : PySem.W.dataLt (ckD a) (ckD b) = false) (h2 : PySem.W.dataLt (ckD b) (ckD a) = false) : a = b := by
  have e := (PyProof.Rows.listOrd PyProof.Rows.itemOrd).total (PySem.W.keyToks (ckD a)) (PySem.W.keyToks (ckD b)) h1 h2
  unfold ckD at e
  simp only [PySem.W.keyToks] at e
  exact ck_inj a b e
theorem lt_irr (x : PyData) : PySem.W.dataLt x x = false := (PyProof.Rows.listOrd PyProof.Rows.itemOrd).irrefl _
theorem lt_or {a b : List Int} (h : a ≠ b) (h2 : PySem.W.dataLt (ckD a) (ckD b) = false) : PySem.W.dataLt (ckD b) (ckD a) = true := by
  cases w : PySem.W.dataLt (ckD b) (ckD a) with
  | true => rfl
  | false => exact absurd (ck_total h2 w) h
theorem asc_unique : ∀ {xs ys : List (List Int)}, ascC xs → ascC ys → (∀ d, d ∈ xs ↔ d ∈ ys) → xs = ys
  | [], [], _, _, _ => rfl
  | [], y :: ys, _, _, h => absurd ((h y).mpr List.mem_cons_self) (by simp)
  | x :: xs, [], _, _, h => absurd ((h x).mp List.mem_cons_self) (by simp)
  | x :: xs, y :: ys, hx, hy, h => by
    obtain ⟨x1, x2⟩ := List.pairwise_cons.mp hx
    obtain ⟨y1, y2⟩ := List.pairwise_cons.mp hy
    have e : x = y := by
      rcases List.mem_cons.mp ((h x).mp List.mem_cons_self) with e | e
      · exact e
      · rcases List.mem_cons.mp ((h y).mpr List.mem_cons_self) with e2 | e2
        · exact e2.symm
        · have a := dataLt_asym (y1 x e)
          rw [x1 y e2] at a
          cases a
    subst e
    have nx : x ∉ xs := fun z => by
      have := x1 x z
      rw [lt_irr] at this
      cases this
    have ny : x ∉ ys := fun z => by
      have := y1 x z
      rw [lt_irr] at this
      cases this
    rw [asc_unique x2 y2 fun d => ⟨fun z => ((List.mem_cons.mp ((h d).mp (List.mem_cons_of_mem _ z))).resolve_left fun e => nx (e ▸ z)), fun z => ((List.mem_cons.mp ((h d).mpr (List.mem_cons_of_mem _ z))).resolve_left fun e => ny (e ▸ z))⟩]
theorem getD_mem {ds : List (List Int)} {i : Nat} (h : i < ds.length) : ds.getD i [] = ds[i] := by rw [List.getD_eq_getElem?_getD, List.getElem?_eq_getElem h] <;> rfl
theorem place_has {s : List Int} {ds : List (List Int)} {n : Nat} (hp : isPlace s ds n) (ha : ascC ds) (hn : n < ds.length → ds[n]? ≠ some s) : s ∉ ds := fun hm => by
  obtain ⟨j, hj, e⟩ := List.getElem_of_mem hm
  obtain ⟨p1, p2, p3⟩ := hp
  by_cases h : j < n
  · have q := p2 j h
    rw [getD_mem hj, e, lt_irr] at q
    cases q
  · by_cases h2 : j = n
    · subst h2
      exact hn hj (by rw [List.getElem?_eq_getElem hj, e])
    · have hnl : n < ds.length := by omega
      have q := List.pairwise_iff_getElem.mp ha n j hnl hj (by omega)
      rw [e] at q
      have y := p3 n (Nat.le_refl _) hnl
      rw [getD_mem hnl, q] at y
      cases y
theorem place_ins {s : List Int} {ds : List (List Int)} {n : Nat} (hp : isPlace s ds n) (ha : ascC ds) (hs : s ∉ ds) : ascC (ds.take n ++ [s] ++ ds.drop n) ∧ ∀ d, d ∈ ds.take n ++ [s] ++ ds.drop n ↔ d ∈ ds ∨ d = s := by
  obtain ⟨p1, p2, p3⟩ := hp
  have t1 : ∀ d ∈ ds.take n, PySem.W.dataLt (ckD d) (ckD s) = true := fun d hd => by
    obtain ⟨i, hi, e⟩ := List.getElem_of_mem hd
    have hi2 : i < n := by rw [List.length_take] at hi; omega
    have hi3 : i < ds.length := by omega
    have q := p2 i hi2
    rw [getD_mem hi3] at q
    rw [← e, List.getElem_take]
    exact q
  have t2 : ∀ d ∈ ds.drop n, PySem.W.dataLt (ckD s) (ckD d) = true := fun d hd => by
    obtain ⟨i, hi, e⟩ := List.getElem_of_mem hd
    rw [List.length_drop] at hi
    have hi3 : n + i < ds.length := by omega
    have q := p3 (n + i) (by omega) hi3
    rw [getD_mem hi3] at q
    rw [← e, List.getElem_drop]
    exact lt_or (fun z => hs (z ▸ List.getElem_mem hi3)) q
  have hsplit : ds.take n ++ ds.drop n = ds := List.take_append_drop n ds
  refine ⟨?_, fun d => ?_⟩
  · have ha2 : ascC (ds.take n ++ ds.drop n) := by rw [hsplit]; exact ha
    obtain ⟨a1, a2, a3⟩ := List.pairwise_append.mp ha2
    refine List.pairwise_append.mpr ⟨List.pairwise_append.mpr ⟨a1, List.pairwise_singleton _ _, fun x hx y hy => ?_⟩, a2, fun x hx y hy => ?_⟩
    · rw [List.mem_singleton.mp hy]; exact t1 x hx
    · rcases List.mem_append.mp hx with hx | hx
      · exact a3 x hx y hy
      · rw [List.mem_singleton.mp hx]; exact t2 y hy
  · rw [List.mem_append, List.mem_append, List.mem_singleton]
    constructor
    · rintro ((h | h) | h)
      · exact .inl (List.mem_of_mem_take h)
      · exact .inr h
      · exact .inl (List.mem_of_mem_drop h)
    · rintro (h | h)
      · rw [← hsplit] at h
        rcases List.mem_append.mp h with h | h
        · exact .inl (.inl h)
        · exact .inr h
      · exact .inl (.inr h)
/-- sorted, without repeats: it ascends -/
theorem asc_srt (cs : List (List Int)) : ascC (residueF cs) := by
  unfold residueF
  have h1 := srtBy_pair ckD (dd cs)
  have h2 : (srtBy ckD (dd cs)).Nodup := (srtBy_perm ckD (dd cs)).nodup_iff.mpr (nodup_dd cs)
  refine List.pairwise_iff_getElem.mpr fun i j hi hj hij => ?_
  have a := List.pairwise_iff_getElem.mp h1 i j hi hj hij
  have b := List.pairwise_iff_getElem.mp h2 i j hi hj hij
  have a' : PySem.W.dataLt (ckD (srtBy ckD (dd cs))[j]) (ckD (srtBy ckD (dd cs))[i]) = false := by
    have z : (!PySem.W.dataLt (ckD (srtBy ckD (dd cs))[j]) (ckD (srtBy ckD (dd cs))[i])) = true := a
    cases w : PySem.W.dataLt (ckD (srtBy ckD (dd cs))[j]) (ckD (srtBy ckD (dd cs))[i]) with
    | false => rfl
    | true => rw [w] at z; cases z
  exact lt_or (Ne.symm b) a'
theorem mem_residueF {cs : List (List Int)} {d : List Int} : d ∈ residueF cs ↔ d ∈ cs := by unfold residueF; rw [mem_srtBy, mem_dd]
theorem asc_is {cs ds : List (List Int)} (h : ascC ds) (hm : ∀ d, d ∈ ds ↔ d ∈ cs) : ds = residueF cs := asc_unique h (asc_srt cs) fun d => by rw [hm, mem_residueF]
end Ky

namespace Ky
open PySem PySem.Spec PyProof.Rows L2
local macro_rules | `(tactic| walk_at "rd") => `(tactic| repeat (first
  | with_reducible refine w_seq ?_
  | with_reducible refine w_asg ?_
  | with_reducible refine w_ret ?_
  | with_reducible refine w_drop ?_
  | with_reducible refine w_ifs ?_
  | ((with_reducible refine' w_var ?hh ?_); (case hh => exact rfl))
  | with_reducible refine w_c ?_
  | with_reducible refine w_op ?_
  | with_reducible refine w_un ?_
  | with_reducible refine w_I0 ?_
  | with_reducible refine w_U ?_
  | with_reducible refine w_nil ?_
  | with_reducible refine w_cons ?_
  | with_reducible refine w_call ?_
  | with_reducible refine w_cb ?_
  | with_reducible refine w_test ?_
  | with_reducible refine w_B ?_
  | with_reducible refine w_bl ?_
  | with_reducible refine w_and ?_
  | with_reducible refine w_or ?_
  | with_reducible refine w_not ?_
  | with_reducible refine w_ife ?_
  | with_reducible refine w_gRd ?_
  | with_reducible refine w_andV ?_
  | with_reducible refine w_orV ?_
  | with_reducible refine w_notV ?_
  | with_reducible refine w_chain ?_
  | with_reducible refine w_din ?_
  | with_reducible refine w_isi_ii ?_
  | with_reducible refine w_isi_ib ?_
  | with_reducible refine w_isi_it ?_
  | with_reducible refine w_isi_st ?_
  | ((with_reducible refine w_isi_tt ?h1 ?_); (case h1 => first | assumption | exact upd_same))
  | with_reducible refine if_t rfl ?_
  | with_reducible refine if_f rfl ?_
  | with_reducible refine w_tup ?_
  | with_reducible refine w_lst ?_
  | with_reducible refine w_next ?_
  | with_reducible refine w_bm ?_
  | with_reducible refine w_sl ?_
  | with_reducible refine w_part ?_
  | with_reducible refine w_nop ?_
  | with_reducible refine w_isI ?_
  | with_reducible refine w_yes ?_
  | with_reducible refine w_gn ?_
  | with_reducible refine w_gsub ?_
  | ((with_reducible refine' w_setL ?h1 ?h2 ?_); (case h1 => first | assumption | exact upd_same); (case h2 => exact rfl))
  | with_reducible refine w_asgG ?_
  | with_reducible refine w_m1 ?_
  | with_reducible refine w_isS ?_
  | with_reducible refine w_tyS ?_
  | ((with_reducible refine' w_tyL ?h1 ?_); (case h1 => first | assumption | exact upd_same))
  | ((with_reducible refine' w_ixT ?h1 ?h2 ?_); (case h1 => first | assumption | exact upd_same); (case h2 => exact rfl))
  | ((with_reducible refine' w_ixL ?h1 ?h2 ?_); (case h1 => first | assumption | exact upd_same); (case h2 => exact rfl))
  | ((with_reducible refine w_eq ?h1 ?_); (case h1 => exact rfl))
  | ((with_reducible refine w_ne ?h1 ?_); (case h1 => exact rfl))
  | dsimp only [List.set_cons_zero, List.set_cons_succ, List.append_nil, List.cons_append, List.nil_append, cxOf]))

theorem inV_ints (n : Int) (ls : List Int) : inV (.int n) (ls.map V.int) = decide (n ∈ ls) := by
  unfold inV
  rw [List.any_map, Bool.eq_iff_iff, List.any_eq_true, decide_eq_true_eq]
  constructor
  · rintro ⟨y, hy, e⟩
    have e : y = n := by simpa [eqV] using e
    rw [← e]
    exact hy
  · intro h
    exact ⟨n, h, by simp [eqV]⟩
theorem flat_ints (ls : List Int) : (ls.map V.int).all flatV = true := by
  rw [List.all_map]
  exact List.all_eq_true.mpr fun x _ => rfl
section
variable {K : PySem.W.Frag} {H : Hp} {Q : VK} {b : Addr} {n : Int} {ls : List Int}
theorem w_inT (h : H b = some (.tup (ls.map V.int))) (q : Q (.bl (decide (n ∈ ls))) H) : rIn K false (.int n) (.ref b) H Q := ⟨b, _, rfl, .inr (SqT.of h), rfl, flat_ints ls, by rw [inV_ints, if_neg Bool.false_ne_true]; exact q⟩
theorem w_ninT (h : H b = some (.tup (ls.map V.int))) (q : Q (.bl (decide (n ∉ ls))) H) : rIn K true (.int n) (.ref b) H Q := ⟨b, _, rfl, .inr (SqT.of h), rfl, flat_ints ls, by rw [inV_ints, if_pos rfl]; rw [decide_not] at q; exact q⟩
end
theorem canLay_ints : ∀ ls : List Int, PyData.canLayAll0 (ls.map PyData.int) = true
  | [] => by simp [PyData.canLayAll0]
  | x :: xs => by
    rw [List.map_cons, PyData.canLayAll0, canLay_ints xs]
    simp [PyData.canLay0]
theorem shT_ints (ls : List Int) : SeqAt.shaped (.tuple (ls.map PyData.int)) = true := by
  unfold SeqAt.shaped
  simp only [PyData.canLay0, canLay_ints, Bool.true_and, PyData.depth, PySem.W.depth_ints]
  rfl
theorem eqvAll_ints : ∀ xs ys : List Int, PyData.eqvAll (xs.map PyData.int) (ys.map PyData.int) = decide (xs = ys)
  | [], [] => by simp [PyData.eqvAll]
  | [], y :: ys => by simp [PyData.eqvAll]
  | x :: xs, [] => by simp [PyData.eqvAll]
  | x :: xs, y :: ys => by
    rw [List.map_cons, List.map_cons, PyData.eqvAll, eqvAll_ints xs ys]
    simp only [PyData.eqv]
    by_cases h : x = y <;> by_cases h2 : xs = ys <;> simp [h, h2]
theorem eqv_ints (xs ys : List Int) : PyData.eqv (.tuple (xs.map PyData.int)) (.tuple (ys.map PyData.int)) = decide (xs = ys) := by
  simp only [PyData.eqv]
  exact eqvAll_ints xs ys
theorem dp_ints {K : PySem.W.Frag} {H : Hp} {b : Addr} {ls : List Int} (h : H b = some (.tup (ls.map V.int))) : Dp K H (.ref b) (.tuple (ls.map PyData.int)) := .tup (SqT.of h) (dpAll_ints ls)
theorem clsAt_upd {H : Hp} {D : Addr} {xs : List V} {o : HO} {ps : List Addr} {ds : List (List Int)} (h : ClsAt H ps ds) (hD : H D = some (.lst xs)) : ClsAt (upd H D o) ps ds := ⟨h.1, fun i b c h1 h2 => tup_upd hD (h.2 i b c h1 h2)⟩
theorem clsAt_ins {H : Hp} {ps : List Addr} {ds : List (List Int)} {s : Addr} {sh : List Int} (h : ClsAt H ps ds) (hs : H s = some (.tup (sh.map V.int))) (n : Nat) : ClsAt H (ps.take n ++ [s] ++ ps.drop n) (ds.take n ++ [sh] ++ ds.drop n) := by
  have e1 : ps = (ps.zip ds).map (·.1) := (List.map_fst_zip (by rw [h.1]; exact Nat.le_refl _)).symm
  have e2 : ds = (ps.zip ds).map (·.2) := (List.map_snd_zip (by rw [h.1]; exact Nat.le_refl _)).symm
  have q := clsAt_of (H := H) (zs := (ps.zip ds).take n ++ [(s, sh)] ++ (ps.zip ds).drop n) fun p hp => by
    rcases List.mem_append.mp hp with hp | hp
    · rcases List.mem_append.mp hp with hp | hp
      · exact clsAt_zip h p (List.mem_of_mem_take hp)
      · rw [List.mem_singleton.mp hp]; exact hs
    · exact clsAt_zip h p (List.mem_of_mem_drop hp)
  rw [List.map_append, List.map_append, List.map_append, List.map_append, List.map_take, List.map_drop, List.map_take, List.map_drop, ← e1, ← e2] at q
  exact q
/-- the clauses of a residue under a literal -/
def inUnder (cs : List (List Int)) (l : Int) (d : List Int) : Prop := ∃ c ∈ cs, l ∉ c ∧ c.filter (fun x => decide (x ≠ -l)) = d
def noBoth (c : List Int) : Prop := ∀ l, l ∈ c → -l ∉ c
def spUnder : Sp := fun vs H Q _ => ∃ (a : Addr) (bs : List Addr) (cs : List (List Int)) (l : Int), vs = [.ref a, .int l] ∧ H a = some (.tup (bs.map V.ref)) ∧ ClsAt H bs cs ∧ ascC cs ∧ cs.length ≤ 400 ∧ (∀ c ∈ cs, c.length ≤ 400 ∧ noBoth c) ∧
  ∀ p H' (bs' : List Addr) (ds : List (List Int)), ascC ds → (∀ d, d ∈ ds ↔ inUnder cs l d) → Kept H H' → H p = none → H' p = some (.tup (bs'.map V.ref)) → ClsAt H' bs' ds → Q (.ref p) H'
section
variable {P : Program} {w : World} {K : PySem.W.Frag} {mg : Str → Option Value} {base : Heap} {uG : Value} {f : Addr} {fd : FuncData}
end
end Ky

namespace Ky
open PySem PySem.Spec PyProof.Rows L2
local macro_rules | `(tactic| walk_at "rd") => `(tactic| repeat (first
  | with_reducible refine w_seq ?_
  | with_reducible refine w_asg ?_
  | with_reducible refine w_ret ?_
  | with_reducible refine w_drop ?_
  | with_reducible refine w_ifs ?_
  | ((with_reducible refine' w_var ?hh ?_); (case hh => exact rfl))
  | with_reducible refine w_c ?_
  | with_reducible refine w_op ?_
  | with_reducible refine w_un ?_
  | with_reducible refine w_I0 ?_
  | with_reducible refine w_U ?_
  | with_reducible refine w_nil ?_
  | with_reducible refine w_cons ?_
  | with_reducible refine w_call ?_
  | with_reducible refine w_cb ?_
  | with_reducible refine w_test ?_
  | with_reducible refine w_B ?_
  | with_reducible refine w_bl ?_
  | with_reducible refine w_and ?_
  | with_reducible refine w_or ?_
  | with_reducible refine w_not ?_
  | with_reducible refine w_ife ?_
  | with_reducible refine w_gRd ?_
  | with_reducible refine w_andV ?_
  | with_reducible refine w_orV ?_
  | with_reducible refine w_notV ?_
  | with_reducible refine w_chain ?_
  | with_reducible refine w_din ?_
  | with_reducible refine w_isi_ii ?_
  | with_reducible refine w_isi_ib ?_
  | with_reducible refine w_isi_it ?_
  | with_reducible refine w_isi_st ?_
  | ((with_reducible refine w_isi_tt ?h1 ?_); (case h1 => first | assumption | exact upd_same))
  | with_reducible refine if_t rfl ?_
  | with_reducible refine if_f rfl ?_
  | with_reducible refine w_tup ?_
  | with_reducible refine w_lst ?_
  | with_reducible refine w_next ?_
  | with_reducible refine w_bm ?_
  | with_reducible refine w_sl ?_
  | with_reducible refine w_part ?_
  | with_reducible refine w_nop ?_
  | with_reducible refine w_isI ?_
  | with_reducible refine w_yes ?_
  | with_reducible refine w_gn ?_
  | with_reducible refine w_gsub ?_
  | ((with_reducible refine' w_setL ?h1 ?h2 ?_); (case h1 => first | assumption | exact upd_same); (case h2 => exact rfl))
  | with_reducible refine w_asgG ?_
  | with_reducible refine w_m1 ?_
  | with_reducible refine w_isS ?_
  | with_reducible refine w_tyS ?_
  | ((with_reducible refine' w_tyL ?h1 ?_); (case h1 => first | assumption | exact upd_same))
  | ((with_reducible refine' w_ixT ?h1 ?h2 ?_); (case h1 => first | assumption | exact upd_same); (case h2 => exact rfl))
  | ((with_reducible refine' w_ixL ?h1 ?h2 ?_); (case h1 => first | assumption | exact upd_same); (case h2 => exact rfl))
  | ((with_reducible refine w_eq ?h1 ?_); (case h1 => exact rfl))
  | ((with_reducible refine w_ne ?h1 ?_); (case h1 => exact rfl))
  | dsimp only [List.set_cons_zero, List.set_cons_succ, List.append_nil, List.cons_append, List.nil_append, cxOf]))

def underF (cs : List (List Int)) (l : Int) : List (List Int) := residueF ((cs.filter fun c => decide (l ∉ c)).map fun c => c.filter fun x => decide (x ≠ -l))
theorem mem_underF {cs : List (List Int)} {l : Int} {d : List Int} : d ∈ underF cs l ↔ inUnder cs l d := by
  unfold underF inUnder
  rw [mem_residueF, List.mem_map]
  constructor
  · rintro ⟨c, h1, h2⟩
    obtain ⟨h1, h3⟩ := List.mem_filter.mp h1
    exact ⟨c, h1, of_decide_eq_true h3, h2⟩
  · rintro ⟨c, h1, h2, h3⟩
    exact ⟨c, List.mem_filter.mpr ⟨h1, decide_eq_true h2⟩, h3⟩
theorem underF_asc (cs : List (List Int)) (l : Int) : ascC (underF cs l) := asc_srt _
/-- a residue of small clauses -/
structure Small3 (cs : List (List Int)) : Prop where
  asc : ascC cs
  len : cs.length ≤ 400
  cl : ∀ c ∈ cs, c.length ≤ 400 ∧ noBoth c
theorem Small3.under {cs : List (List Int)} (h : Small3 cs) (l : Int) : Small3 (underF cs l) := by
  refine ⟨underF_asc cs l, ?_, fun d hd => ?_⟩
  · have h1 : (underF cs l).length ≤ cs.length := by
      unfold underF residueF
      rw [(srtBy_perm _ _).length_eq]
      refine Nat.le_trans (len_dd _) ?_
      rw [List.length_map]
      exact List.length_filter_le _ _
    exact Nat.le_trans h1 h.len
  · obtain ⟨c, h1, _, h3⟩ := mem_underF.mp hd
    obtain ⟨h4, h5⟩ := h.cl c h1
    rw [← h3]
    exact ⟨Nat.le_trans (List.length_filter_le _ _) h4, fun k hk hk2 => h5 k (List.mem_filter.mp hk).1 (List.mem_filter.mp hk2).1⟩
def spUnderAll : Sp := fun vs H Q _ => ∃ (a b : Addr) (bs : List Addr) (cs : List (List Int)) (ls : List Int), vs = [.ref a, .ref b] ∧ H a = some (.tup (bs.map V.ref)) ∧ ClsAt H bs cs ∧ Small3 cs ∧ H b = some (.lst (ls.map V.int)) ∧
  ∀ p H' (bs' : List Addr), Kept H H' → H' p = some (.tup (bs'.map V.ref)) → ClsAt H' bs' (ls.foldl underF cs) → Q (.ref p) H'
section
variable {P : Program} {w : World} {K : PySem.W.Frag} {mg : Str → Option Value} {base : Heap} {uG : Value} {f : Addr} {fd : FuncData}
/-! ### the law's own -/
/-- rows in the order of their data, each still what it was -/
theorem sort_at {γ : Type} (g : γ → PyData) (R : Addr → γ → Prop) {bs : List Addr} {cs : List γ} (hl : bs.length = cs.length) (h : ∀ (i : Nat) (b : Addr) (c : γ), bs[i]? = some b → cs[i]? = some c → R b c) :
    ∃ bs' : List Addr, sortD (bs.map V.ref) (cs.map g) = bs'.map V.ref ∧ bs'.length = (srtBy g cs).length ∧ ∀ (i : Nat) (b : Addr) (c : γ), bs'[i]? = some b → (srtBy g cs)[i]? = some c → R b c := by
  have e1 : bs = (bs.zip cs).map (·.1) := (List.map_fst_zip (by omega)).symm
  have e2 : cs = (bs.zip cs).map (·.2) := (List.map_snd_zip (by omega)).symm
  have hz : ∀ p ∈ bs.zip cs, R p.1 p.2 := fun p hp => by
    obtain ⟨i, hi⟩ := List.mem_iff_getElem?.mp hp
    rw [List.getElem?_zip_eq_some] at hi
    exact h i _ _ hi.1 hi.2
  have q2 := srtBy_map (fun p : Addr × γ => p.2) g (bs.zip cs)
  rw [← e2] at q2
  refine ⟨(srtBy (fun p : Addr × γ => g p.2) (bs.zip cs)).map (·.1), ?_, by rw [← q2, List.length_map, List.length_map], fun i b c h1 h2 => ?_⟩
  · have q := sortD_map (fun p : Addr × γ => V.ref p.1) (fun p : Addr × γ => g p.2) (bs.zip cs)
    have a1 : (bs.zip cs).map (fun p : Addr × γ => V.ref p.1) = bs.map V.ref := by
      conv => rhs; rw [e1]
      rw [List.map_map] <;> rfl
    have a2 : (bs.zip cs).map (fun p : Addr × γ => g p.2) = cs.map g := by
      conv => rhs; rw [e2]
      rw [List.map_map] <;> rfl
    rw [a1, a2] at q
    rw [q, List.map_map] <;> rfl
  · rw [← q2] at h2
    rw [List.getElem?_map] at h1 h2
    obtain ⟨p, hp, rfl⟩ := Option.map_eq_some_iff.mp h1
    rw [hp] at h2
    cases h2
    exact hz p (mem_srtBy.mp (List.mem_of_getElem? hp))
theorem mulW {i j : Int} (hi : i.natAbs < 2 ^ 64) (hj : j.natAbs < 2 ^ 64) : CMulW i j := by
  have h1 := PySem.Flt.log2_lt_of (by decide) hi
  have h2 := PySem.Flt.log2_lt_of (by decide) hj
  unfold CMulW
  omega
def spLClause : Sp := fun vs H Q _ => ∃ (a : Addr) (ls : List Int), vs = [.ref a] ∧ H a = some (.lst (ls.map V.int)) ∧ ls.length ≤ 1000 ∧ (∀ n ∈ ls, n.natAbs < 2 ^ 60) ∧ ∀ p H', Kept H H' → H p = none → H' p = some (.tup ((srtBy keyD ls).map V.int)) → Q (.ref p) H'
theorem sgn_back (n : Int) : absI n * (2 * sgI n - 1) = n := by
  unfold absI sgI
  by_cases h : n < 0
  · rw [if_pos h, if_neg (by omega)]
    omega
  · rw [if_neg h]
    by_cases h2 : n > 0
    · rw [if_pos h2]; omega
    · rw [if_neg h2]
      have : n = 0 := by omega
      subst this
      rfl
theorem ok_l_clause (F : Fun K "_law_clause" "_law_clause" s_l_clause f fd) (T : Tx K mg uG) (D_l_key : Df P w K mg base 1 "_law_key" ["literal"] spKey) : FnOk P w K mg base CX0 2 f fd ["literals"] spLClause := by
  refine F.ok sc_l_clause (fun vs H Q E h => ?_) (fun cdv A outer s H vs Q E hr h => ?_)
  · obtain ⟨a, ls, rfl, _⟩ := h
    rfl
  · obtain ⟨a, ls, rfl, ha, hz, hsm, k⟩ := h
    refine ⟨_, (pss_one (ps_ret (pe_callTy call_tuple_of (by rfl) T.z_tuple (by decide +kernel) (pa_cons (pe_lc (own := [("pair", 1)]) (g := gName 1) (by rfl) sc_l_clause.nd (pi_listK (K := K) rfl (pe_callB (cr_sortedD hr.units) (by rfl) T.z_sorted (by decide +kernel) (pa_cons (pe_lc (own := [("literal", 2)]) (g := gName 2) (by rfl) sc_l_clause.nd (pi_listK (K := K) rfl (pv 0)) (blkOk_by (own := [("literal", 2)]) (N := n_l_clause) (by rfl)) (fun _ _ _ _ _ => pg_name (i := 2) sc_l_clause.nd rfl (Or.inl rfl)) (fun _ _ _ _ _ => pts_nil) (fun _ _ _ _ _ => (pe_df D_l_key (hr.mono (by decide)) (by rfl) (pa_cons (pv 2) pa_nil)))) pa_nil))) (blkOk_by (own := [("pair", 1)]) (N := n_l_clause) (sc := defScope s_l_clause) (by decide +kernel)) (fun _ _ _ _ _ => pg_name (i := 1) sc_l_clause.nd rfl (Or.inl rfl)) (fun _ _ _ _ _ => pts_nil) (fun _ _ _ _ _ => (pe_op op_mulW (pe_ix (ix_tupK (K := K) rfl) (pv 1) pe_int (fun _ _ => rfl)) (pe_op op_sub (pe_op op_mulW pe_int (pe_ix (ix_tupK (K := K) rfl) (pv 1) pe_int (fun _ _ => rfl))) pe_int)))) pa_nil)))), ?_⟩
    rw [show start n_l_clause [(.ref a : V)] = ([some (.ref a), none, none] : List (Option V)) from rfl]
    walk_at "rd"
    refine ⟨_, rfl, a, rfl, ⟨_, SqL.of ha⟩, fun D hD => ?_⟩
    refine c_list (xs := ls.map V.int) (fun i H1 => ∃ qs : List Addr, H1 D = some (.lst (qs.map V.ref)) ∧ Kept H H1 ∧ qs.length = i ∧ ∀ (j : Nat) (q : Addr) (n : Int), qs[j]? = some q → ls[j]? = some n → H1 q = some (.tup (keyV n))) ⟨[], upd_same, Kept.new hD, rfl, fun j q n h => by simp at h⟩ (fun i H1 _ h => by
      obtain ⟨_, _, k1, _⟩ := h
      exact SqL.of (k1.lst ha)) (fun i x H1 hx h => ?_) fun H1 h => ?_
    · obtain ⟨qs, h1, h2, h3, h4⟩ := h
      obtain ⟨n, rfl, hn⟩ := map_int hx
      have hi : i < ls.length := (List.getElem?_eq_some_iff.mp hn).1
      refine ⟨rfl, w_yes (if_t rfl ?_)⟩
      walk_at "rd"
      refine ⟨n, rfl, fun p hp => ?_⟩
      have kN := Kept.new (o := .tup (keyV n)) hp
      have hD4 := kN.lst h1
      refine ⟨qs.map V.ref, hD4, ?_, qs ++ [p], by rw [List.map_append]; exact upd_same, Kept.mut (h2.trans kN) hD, by rw [List.length_append, h3] <;> rfl, fun j q m hq hm => ?_⟩
      · rw [List.length_map, h3]
        have h6 : 1000 ≤ sizeLine := by decide
        omega
      · by_cases hj : j < qs.length
        · rw [List.getElem?_append_left hj] at hq
          exact tup_upd hD4 (kN.tup (h4 j q m hq hm))
        · have hj2 : j < (qs ++ [p]).length := (List.getElem?_eq_some_iff.mp hq).1
          rw [List.length_append] at hj2
          have ej : j = qs.length := by
            have : j < qs.length + 1 := hj2
            omega
          subst ej
          have eq : q = p := by simpa using hq.symm
          subst eq
          rw [h3, hn] at hm
          cases hm
          exact tup_upd hD4 upd_same
    · obtain ⟨qs, h1, h2, h3, h4⟩ := h
      rw [List.length_map] at h3
      walk_at "rd"
      refine ⟨D, qs.map V.ref, ls.map keyD, rfl, SqL.of h1, dpAll_of (by rw [List.length_map, List.length_map, h3]) fun i x d hx hd => ?_, PySem.W.AllAlike.of keyD_alike, .inl fun d hd => ?_, fun d hd => ?_, fun p hp => ?_⟩
      · rw [List.getElem?_map] at hx hd
        obtain ⟨q, hq, rfl⟩ := Option.map_eq_some_iff.mp hx
        obtain ⟨n, hn, rfl⟩ := Option.map_eq_some_iff.mp hd
        exact dp_key (h4 i q n hq hn)
      · obtain ⟨n, _, rfl⟩ := List.mem_map.mp hd
        exact ⟨_, rfl⟩
      · obtain ⟨n, _, rfl⟩ := List.mem_map.mp hd
        exact keyD_depth n
      · obtain ⟨qs', es, hl', hs'⟩ := sort_at keyD (fun q n => H1 q = some (.tup (keyV n))) h3 h4
        rw [es]
        have kP := Kept.new (o := .lst (qs'.map V.ref)) hp
        refine ⟨p, rfl, ⟨_, SqL.of upd_same⟩, fun D2 hD2 => ?_⟩
        refine c_list (xs := qs'.map V.ref) (fun i H3 => H3 = upd (upd H1 p (.lst (qs'.map V.ref))) D2 (.lst (((srtBy keyD ls).take i).map V.int))) (by rw [List.take_zero]; rfl) (fun i H3 _ h => by rw [h]; exact SqL.of ((Kept.new hD2).lst upd_same)) (fun i x H3 hx h => ?_) fun H3 h => ?_
        · rw [List.getElem?_map] at hx
          obtain ⟨q, hq, rfl⟩ := Option.map_eq_some_iff.mp hx
          have hi : i < (srtBy keyD ls).length := by rw [← hl']; exact (List.getElem?_eq_some_iff.mp hq).1
          have hni : (srtBy keyD ls)[i]? = some (srtBy keyD ls)[i] := List.getElem?_eq_getElem hi
          have hmem : (srtBy keyD ls)[i] ∈ ls := mem_srtBy.mp (List.getElem_mem hi)
          have e1 : H3 q = some (.tup (keyV (srtBy keyD ls)[i])) := by
            rw [h]
            exact (Kept.new hD2).tup (kP.tup (hs' i q _ hq hni))
          have et : (srtBy keyD ls).take (i + 1) = (srtBy keyD ls).take i ++ [(srtBy keyD ls)[i]] := by rw [List.take_add_one, hni]; rfl
          generalize (srtBy keyD ls)[i] = n at hni hmem e1 et
          have hb := hsm n hmem
          refine ⟨rfl, w_yes (if_t rfl ?_)⟩
          have e1' : H3 q = some (.tup [.int (absI n), .int (sgI n)]) := e1
          walk_at "rd"
          have hs1 : (sgI n).natAbs < 2 ^ 64 := by
            unfold sgI
            split <;> decide
          have hs2 : (2 * sgI n - 1).natAbs < 2 ^ 64 := by
            unfold sgI
            split <;> decide
          have hs3 : (absI n).natAbs < 2 ^ 64 := by
            unfold absI
            split <;> omega
          refine w_I (mulW (by decide) hs1) ?_
          walk_at "rd"
          refine w_I (mulW hs3 hs2) ?_
          rw [sgn_back]
          refine ⟨_, by rw [h]; exact upd_same, ?_, ?_⟩
          · rw [List.length_map, List.length_take]
            have h5 : (srtBy keyD ls).length = ls.length := (srtBy_perm keyD ls).length_eq
            have h6 : 1001 ≤ sizeLine := by decide
            omega
          · rw [h, upd_again, et, List.map_append] <;> rfl
        · rw [List.length_map, hl', List.take_length] at h
          have kD2 := Kept.new (o := .lst ((srtBy keyD ls).map V.int)) hD2
          rw [← h] at kD2
          walk_at "rd"
          refine ⟨D2, _, rfl, .inl ⟨SqL.of (by rw [h]; exact upd_same), fun l hl => ?_⟩⟩
          have k9 := (h2.trans kP).trans kD2
          exact k l _ (k9.trans (Kept.new hl)) (k9.free _ hl) upd_same
end
def pairD (c : List Int) : PyData := .tuple [.list (c.map keyD), .tuple (c.map .int)]
theorem ck_listL (a b : List Int) : PySem.W.dataLt (.list (a.map keyD)) (.list (b.map keyD)) = PySem.W.dataLt (ckD a) (ckD b) := by
  unfold ckD
  rw [PySem.W.dataLt_list, PySem.W.dataLt_tuple]
theorem key_eqv : ∀ a b : List Int, PyData.eqvAll (a.map keyD) (b.map keyD) = decide (a = b)
  | [], [] => by simp [PyData.eqvAll]
  | [], y :: ys => by simp [PyData.eqvAll]
  | x :: xs, [] => by simp [PyData.eqvAll]
  | x :: xs, y :: ys => by
    rw [List.map_cons, List.map_cons, PyData.eqvAll, key_eqv xs ys]
    have e : PyData.eqv (keyD x) (keyD y) = decide (x = y) := by
      by_cases h : x = y
      · subst h
        simp [keyD, PyData.eqv, PyData.eqvAll]
      · rw [decide_eq_false h]
        simp only [keyD, PyData.eqv, PyData.eqvAll, Bool.and_true]
        refine Bool.eq_false_iff.mpr fun z => h ?_
        rw [Bool.and_eq_true] at z
        exact key_inj (by simpa using z.1) (by simpa using z.2)
    rw [e]
    by_cases h : x = y <;> by_cases h2 : xs = ys <;> simp [h, h2]
theorem ints_alike : ∀ a b : List Int, PySem.W.alike (.tuple (a.map PyData.int)) (.tuple (b.map PyData.int)) = true := fun a b => by
  simp only [PySem.W.alike]
  exact PySem.W.alike_ints a b
theorem keysL_alike (a b : List Int) : PySem.W.alike (.list (a.map keyD)) (.list (b.map keyD)) = true := by
  have q := ckD_alike a b
  unfold ckD at q
  simp only [PySem.W.alike] at q ⊢
  exact q
theorem pair_lt (a b : List Int) : PySem.W.dataLt (pairD a) (pairD b) = PySem.W.dataLt (ckD a) (ckD b) := by
  unfold pairD
  rw [PySem.W.dataLt_pair (keysL_alike a b) (ints_alike a b), ck_listL]
  have e : PyData.eqv (.list (a.map keyD)) (.list (b.map keyD)) = decide (a = b) := by
    simp only [PyData.eqv]
    exact key_eqv a b
  rw [e, eqv_ints]
  by_cases h : a = b
  · subst h
    simp [lt_irr]
  · simp [h]
theorem pair_alike (a b : List Int) : PySem.W.alike (pairD a) (pairD b) = true := by
  unfold pairD
  simp only [PySem.W.alike, PySem.W.alikeAll]
  have q1 := keysL_alike a b
  have q2 := ints_alike a b
  simp only [PySem.W.alike] at q1 q2
  rw [q1, q2]
  rfl
theorem pair_depth (a : List Int) : (pairD a).depth ≤ 60 := by
  have h1 : (ckD a).depth ≤ 4 := by
    have aux : ∀ a : List Int, PyData.depthAll (a.map keyD) ≤ 2 := by
      intro a
      induction a with
      | nil => simp [PyData.depthAll]
      | cons x a ih =>
        rw [List.map_cons, PyData.depthAll]
        have h1 : (keyD x).depth ≤ 2 := by simp [keyD, PyData.depth, PyData.depthAll]
        omega
    unfold ckD
    simp only [PyData.depth]
    have := aux a
    omega
  unfold ckD at h1
  unfold pairD
  simp only [PyData.depth, PyData.depthAll, PySem.W.depth_ints] at h1 ⊢
  omega
theorem srt_pair (cs : List (List Int)) : srtBy pairD cs = srtBy ckD cs := srtBy_congr fun a _ b _ => pair_lt a b
end Ky

namespace Ky
open PySem PySem.Spec PyProof.Rows L2
local macro_rules | `(tactic| walk_at "rd") => `(tactic| repeat (first
  | with_reducible refine w_seq ?_
  | with_reducible refine w_asg ?_
  | with_reducible refine w_ret ?_
  | with_reducible refine w_drop ?_
  | with_reducible refine w_ifs ?_
  | ((with_reducible refine' w_var ?hh ?_); (case hh => exact rfl))
  | with_reducible refine w_c ?_
  | with_reducible refine w_op ?_
  | with_reducible refine w_un ?_
  | with_reducible refine w_I0 ?_
  | with_reducible refine w_U ?_
  | with_reducible refine w_nil ?_
  | with_reducible refine w_cons ?_
  | with_reducible refine w_call ?_
  | with_reducible refine w_cb ?_
  | with_reducible refine w_test ?_
  | with_reducible refine w_B ?_
  | with_reducible refine w_bl ?_
  | with_reducible refine w_and ?_
  | with_reducible refine w_or ?_
  | with_reducible refine w_not ?_
  | with_reducible refine w_ife ?_
  | with_reducible refine w_gRd ?_
  | with_reducible refine w_andV ?_
  | with_reducible refine w_orV ?_
  | with_reducible refine w_notV ?_
  | with_reducible refine w_chain ?_
  | with_reducible refine w_din ?_
  | with_reducible refine w_isi_ii ?_
  | with_reducible refine w_isi_ib ?_
  | with_reducible refine w_isi_it ?_
  | with_reducible refine w_isi_st ?_
  | ((with_reducible refine w_isi_tt ?h1 ?_); (case h1 => first | assumption | exact upd_same))
  | with_reducible refine if_t rfl ?_
  | with_reducible refine if_f rfl ?_
  | with_reducible refine w_tup ?_
  | with_reducible refine w_lst ?_
  | with_reducible refine w_next ?_
  | with_reducible refine w_bm ?_
  | with_reducible refine w_sl ?_
  | with_reducible refine w_part ?_
  | with_reducible refine w_nop ?_
  | with_reducible refine w_isI ?_
  | with_reducible refine w_yes ?_
  | with_reducible refine w_gn ?_
  | with_reducible refine w_gsub ?_
  | ((with_reducible refine' w_setL ?h1 ?h2 ?_); (case h1 => first | assumption | exact upd_same); (case h2 => exact rfl))
  | with_reducible refine w_asgG ?_
  | with_reducible refine w_m1 ?_
  | with_reducible refine w_isS ?_
  | with_reducible refine w_tyS ?_
  | ((with_reducible refine' w_tyL ?h1 ?_); (case h1 => first | assumption | exact upd_same))
  | ((with_reducible refine' w_ixT ?h1 ?h2 ?_); (case h1 => first | assumption | exact upd_same); (case h2 => exact rfl))
  | ((with_reducible refine' w_ixL ?h1 ?h2 ?_); (case h1 => first | assumption | exact upd_same); (case h2 => exact rfl))
  | ((with_reducible refine w_eq ?h1 ?_); (case h1 => exact rfl))
  | ((with_reducible refine w_ne ?h1 ?_); (case h1 => exact rfl))
  | dsimp only [List.set_cons_zero, List.set_cons_succ, List.append_nil, List.cons_append, List.nil_append, cxOf]))

section
variable {K : PySem.W.Frag} {a : Addr} {σ : L2.St} {H : Hp} {Q : VK} {i0 j : Nat}
/-- [key(x) for x in e], e a tuple of numbers -/
theorem rd_keys {ls : List Int} (hσ : σ[i0]? = some (some (.ref a))) (hj : j < σ.length) (ha : H a = some (.tup (ls.map V.int))) (hz : ls.length < sizeLine)
    (k : ∀ D (qs : List Addr) H', Kept H H' → H D = none → H' D = some (.lst (qs.map V.ref)) → qs.length = ls.length → (∀ (i : Nat) (q : Addr) (n : Int), qs[i]? = some q → ls[i]? = some n → H' q = some (.tup (keyV n))) → Q (.ref D) H') :
    tLc (iTup K (tVar i0)) (gName j) tYes (tCall spKey [] E0 (tCons (tVar j) tNil)) [j] σ H Q := by
  refine ⟨_, hσ, a, rfl, ⟨_, SqT.of ha⟩, fun D hD => ?_⟩
  refine c_tup (xs := ls.map V.int) (fun i H1 => ∃ qs : List Addr, H1 D = some (.lst (qs.map V.ref)) ∧ Kept H H1 ∧ qs.length = i ∧ ∀ (j : Nat) (q : Addr) (n : Int), qs[j]? = some q → ls[j]? = some n → H1 q = some (.tup (keyV n))) ⟨[], upd_same, Kept.new hD, rfl, fun j q n h => by simp at h⟩ (fun i H1 _ h => by
    obtain ⟨_, _, k1, _⟩ := h
    exact SqT.of (k1.tup ha)) (fun i x H1 hx h => ?_) fun H1 h => ?_
  · obtain ⟨qs, h1, h2, h3, h4⟩ := h
    obtain ⟨n, rfl, hn⟩ := map_int hx
    have hi : i < ls.length := (List.getElem?_eq_some_iff.mp hn).1
    refine ⟨wipe_one, w_yes (if_t rfl (w_call (w_cons ⟨_, var_set hj, w_nil ?_⟩)))⟩
    refine ⟨n, rfl, fun p hp => ?_⟩
    have kN := Kept.new (o := .tup (keyV n)) hp
    have hD4 := kN.lst h1
    refine ⟨qs.map V.ref, hD4, by rw [List.length_map, h3]; omega, qs ++ [p], by rw [List.map_append]; exact upd_same, Kept.mut (h2.trans kN) hD, by rw [List.length_append, h3] <;> rfl, fun j q m hq hm => ?_⟩
    by_cases hj : j < qs.length
    · rw [List.getElem?_append_left hj] at hq
      exact tup_upd hD4 (kN.tup (h4 j q m hq hm))
    · have hj2 : j < (qs ++ [p]).length := (List.getElem?_eq_some_iff.mp hq).1
      rw [List.length_append] at hj2
      have ej : j = qs.length := by
        have : j < qs.length + 1 := hj2
        omega
      subst ej
      have eq : q = p := by simpa using hq.symm
      subst eq
      rw [h3, hn] at hm
      cases hm
      exact tup_upd hD4 upd_same
  · obtain ⟨qs, h1, h2, h3, h4⟩ := h
    rw [List.length_map] at h3
    exact k D qs H1 h2 hD h1 h3 h4
end
/-- a pair (list of keys, clause) at t -/
def PairAt (H : Hp) (D b t : Addr) (c : List Int) : Prop := ∃ (q : Addr) (qs : List Addr), q ≠ D ∧ H t = some (.tup [.ref q, .ref b]) ∧ H q = some (.lst (qs.map V.ref)) ∧ qs.length = c.length ∧ (∀ (i : Nat) (r : Addr) (n : Int), qs[i]? = some r → c[i]? = some n → H r = some (.tup (keyV n))) ∧ H b = some (.tup (c.map V.int))
theorem PairAt.kept {H H' : Hp} {D b t : Addr} {c : List Int} (h : PairAt H D b t c) (k : Kept H H') : PairAt H' D b t c := by
  obtain ⟨q, qs, n, h1, h2, h3, h4, h5⟩ := h
  exact ⟨q, qs, n, k.tup h1, k.lst h2, h3, fun i r m a b => k.tup (h4 i r m a b), k.tup h5⟩
theorem PairAt.updL {H : Hp} {D b t : Addr} {c : List Int} {xs : List V} {o : HO} (h : PairAt H D b t c) (hD : H D = some (.lst xs)) : PairAt (upd H D o) D b t c := by
  obtain ⟨q, qs, n, h1, h2, h3, h4, h5⟩ := h
  exact ⟨q, qs, n, tup_upd hD h1, by rw [upd_ne n]; exact h2, h3, fun i r m a b => tup_upd hD (h4 i r m a b), tup_upd hD h5⟩
theorem PairAt.dp {K : PySem.W.Frag} {H : Hp} {D b t : Addr} {c : List Int} (h : PairAt H D b t c) : Dp K H (.ref t) (pairD c) := by
  obtain ⟨q, qs, n, h1, h2, h3, h4, h5⟩ := h
  refine .tup (SqT.of h1) (.cons (.lst (SqL.of h2) (dpAll_of (by rw [List.length_map, List.length_map, h3]) fun i x d hx hd => ?_)) (.cons (dp_ints h5) .nil))
  rw [List.getElem?_map] at hx hd
  obtain ⟨r, hr, rfl⟩ := Option.map_eq_some_iff.mp hx
  obtain ⟨m, hm, rfl⟩ := Option.map_eq_some_iff.mp hd
  exact dp_key (h4 i r m hr hm)
def spLSorted : Sp := fun vs H Q _ => ∃ (a : Addr) (bs : List Addr) (cs : List (List Int)), vs = [.ref a] ∧ H a = some (.lst (bs.map V.ref)) ∧ ClsAt H bs cs ∧ cs.length ≤ 1000 ∧ (∀ c ∈ cs, c.length ≤ 1000) ∧
  ∀ p H' bs', Kept H H' → H p = none → H' p = some (.lst (bs'.map V.ref)) → ClsAt H' bs' (srtBy ckD cs) → Q (.ref p) H'
section
variable {P : Program} {w : World} {K : PySem.W.Frag} {mg : Str → Option Value} {base : Heap} {uG : Value} {f : Addr} {fd : FuncData}
theorem ok_l_sorted (F : Fun K "_law_sorted" "_law_sorted" s_l_sorted f fd) (T : Tx K mg uG) (D_l_key : Df P w K mg base 1 "_law_key" ["literal"] spKey) : FnOk P w K mg base CX0 2 f fd ["rows"] spLSorted := by
  refine F.ok sc_l_sorted (fun vs H Q E h => ?_) (fun cdv A outer s H vs Q E hr h => ?_)
  · obtain ⟨a, bs, cs, rfl, _⟩ := h
    rfl
  · obtain ⟨a, bs, cs, rfl, ha, hc, hz, hz2, k⟩ := h
    refine ⟨_, (pss_cons (ps_set (i := 1) sc_l_sorted.nd rfl (.inl rfl) (pe_callB (cr_sortedD hr.units) (by rfl) T.z_sorted (by decide +kernel) (pa_cons (pe_lc (own := [("row", 3)]) (g := gName 3) (by rfl) sc_l_sorted.nd (pi_listK (K := K) rfl (pv 0)) (blkOk_by (own := [("row", 3)]) (N := n_l_sorted) (sc := defScope s_l_sorted) (by decide +kernel)) (fun _ _ _ _ _ => pg_name (i := 3) sc_l_sorted.nd rfl (Or.inl rfl)) (fun _ _ _ _ _ => pts_nil) (fun _ _ _ _ _ => (pe_tup (pa_cons (pe_lc (own := [("literal", 2)]) (g := gName 2) (by rfl) sc_l_sorted.nd (pi_tupK (K := K) rfl (pv 3)) (blkOk_by (own := [("literal", 2)]) (N := n_l_sorted) (by rfl)) (fun _ _ _ _ _ => pg_name (i := 2) sc_l_sorted.nd rfl (Or.inl rfl)) (fun _ _ _ _ _ => pts_nil) (fun _ _ _ _ _ => (pe_df D_l_key (hr.mono (by decide)) (by rfl) (pa_cons (pv 2) pa_nil)))) (pa_cons (pv 3) pa_nil))))) pa_nil)))
    (pss_one (ps_ret (pe_lc (own := [("pair", 4)]) (g := gName 4) (by rfl) sc_l_sorted.nd (pi_listK (K := K) rfl (pv 1)) (blkOk_by (own := [("pair", 4)]) (N := n_l_sorted) (sc := defScope s_l_sorted) (by decide +kernel)) (fun _ _ _ _ _ => pg_name (i := 4) sc_l_sorted.nd rfl (Or.inl rfl)) (fun _ _ _ _ _ => pts_nil) (fun _ _ _ _ _ => (pe_ix (ix_tupK (K := K) rfl) (pv 4) pe_int (fun _ _ => rfl))))))), ?_⟩
    rw [show start n_l_sorted [(.ref a : V)] = ([some (.ref a), none, none, none, none] : List (Option V)) from rfl]
    walk_at "rd"
    have hlb : (bs.map V.ref).length = cs.length := by rw [List.length_map, hc.1]
    refine ⟨_, rfl, a, rfl, ⟨_, SqL.of ha⟩, fun D hD => ?_⟩
    refine c_list (xs := bs.map V.ref) (fun i H1 => ∃ ts : List Addr, H1 D = some (.lst (ts.map V.ref)) ∧ Kept H H1 ∧ ts.length = i ∧ ∀ (j : Nat) (t : Addr) (c : List Int), ts[j]? = some t → cs[j]? = some c → ∃ b, PairAt H1 D b t c) ⟨[], upd_same, Kept.new hD, rfl, fun j t c h => by simp at h⟩ (fun i H1 _ h => by
      obtain ⟨_, _, k1, _⟩ := h
      exact SqL.of (k1.lst ha)) (fun i x H1 hx h => ?_) fun H1 h => ?_
    · obtain ⟨ts, h1, h2, h3, h4⟩ := h
      rw [List.getElem?_map] at hx
      obtain ⟨b, hb, rfl⟩ := Option.map_eq_some_iff.mp hx
      have hi : i < cs.length := by rw [← hc.1]; exact (List.getElem?_eq_some_iff.mp hb).1
      have hci : cs[i]? = some cs[i] := List.getElem?_eq_getElem hi
      have e0 := h2.tup (hc.2 i b _ hb hci)
      refine ⟨rfl, w_yes (if_t rfl (w_tup (w_cons ?_)))⟩
      refine rd_keys (i0 := 3) (j := 2) rfl (by show 2 < 5; decide) e0 (Nat.lt_of_le_of_lt (hz2 _ (List.getElem_mem hi)) (by decide)) fun D2 qs H2 k2 hD2 e1 e2 e3 => ?_
      walk_at "rd"
      refine ⟨by show 2 ≤ sizeLine; decide, fun t ht => ?_⟩
      have kT := Kept.new (o := .tup [.ref D2, .ref b]) ht
      have hD4 := kT.lst (k2.lst h1)
      have nD : D2 ≠ D := fun z => by
        rw [z, h1] at hD2
        cases hD2
      refine ⟨ts.map V.ref, hD4, ?_, ts ++ [t], by rw [List.map_append]; exact upd_same, Kept.mut (h2.trans (k2.trans kT)) hD, by rw [List.length_append, h3] <;> rfl, fun j t' c ht' hcj => ?_⟩
      · rw [List.length_map, h3]
        have h6 : 1001 ≤ sizeLine := by decide
        omega
      · by_cases hj : j < ts.length
        · rw [List.getElem?_append_left hj] at ht'
          obtain ⟨b', hb'⟩ := h4 j t' c ht' hcj
          exact ⟨b', (hb'.kept (k2.trans kT)).updL hD4⟩
        · have hj2 : j < (ts ++ [t]).length := (List.getElem?_eq_some_iff.mp ht').1
          rw [List.length_append] at hj2
          have ej : j = ts.length := by
            have : j < ts.length + 1 := hj2
            omega
          subst ej
          have eq : t' = t := by simpa using ht'.symm
          subst eq
          rw [h3, hci] at hcj
          cases hcj
          exact ⟨b, PairAt.updL ⟨D2, qs, nD, upd_same, kT.lst e1, e2, fun i r n a1 a2 => kT.tup (e3 i r n a1 a2), kT.tup (k2.tup e0)⟩ hD4⟩
    · obtain ⟨ts, h1, h2, h3, h4⟩ := h
      rw [hlb] at h3
      walk_at "rd"
      refine ⟨D, ts.map V.ref, cs.map pairD, rfl, SqL.of h1, dpAll_of (by rw [List.length_map, List.length_map, h3]) fun i x d hx hd => ?_, PySem.W.AllAlike.of pair_alike, .inl fun d hd => ?_, fun d hd => ?_, fun p hp => ?_⟩
      · rw [List.getElem?_map] at hx hd
        obtain ⟨t, ht, rfl⟩ := Option.map_eq_some_iff.mp hx
        obtain ⟨c, hcc, rfl⟩ := Option.map_eq_some_iff.mp hd
        obtain ⟨b, hb⟩ := h4 i t c ht hcc
        exact hb.dp
      · obtain ⟨n, _, rfl⟩ := List.mem_map.mp hd
        exact ⟨_, rfl⟩
      · obtain ⟨n, _, rfl⟩ := List.mem_map.mp hd
        exact pair_depth n
      · obtain ⟨ts', es, hl', hs'⟩ := sort_at pairD (fun t c => ∃ b, PairAt H1 D b t c) h3 h4
        rw [srt_pair] at hl' hs'
        rw [es]
        have kP := Kept.new (o := .lst (ts'.map V.ref)) hp
        generalize hH2 : upd H1 p (.lst (ts'.map V.ref)) = H2 at kP ⊢
        have hp2 : H2 p = some (.lst (ts'.map V.ref)) := by rw [← hH2]; exact upd_same
        walk_at "rd"
        refine ⟨_, rfl, p, rfl, ⟨_, SqL.of hp2⟩, fun D3 hD3 => ?_⟩
        refine c_list (xs := ts'.map V.ref) (fun i H3 => ∃ bs' : List Addr, H3 D3 = some (.lst (bs'.map V.ref)) ∧ Kept H2 H3 ∧ bs'.length = i ∧ ∀ (j : Nat) (b : Addr) (c : List Int), bs'[j]? = some b → (srtBy ckD cs)[j]? = some c → H2 b = some (.tup (c.map V.int))) ⟨[], upd_same, Kept.new hD3, rfl, fun j b c h => by simp at h⟩ (fun i H3 _ h => by
          obtain ⟨_, _, k1, _⟩ := h
          exact SqL.of (k1.lst hp2)) (fun i x H3 hx h => ?_) fun H3 h => ?_
        · obtain ⟨bs', g1, g2, g3, g4⟩ := h
          rw [List.getElem?_map] at hx
          obtain ⟨t, ht, rfl⟩ := Option.map_eq_some_iff.mp hx
          have hi : i < (srtBy ckD cs).length := by rw [← hl']; exact (List.getElem?_eq_some_iff.mp ht).1
          have hci : (srtBy ckD cs)[i]? = some (srtBy ckD cs)[i] := List.getElem?_eq_getElem hi
          obtain ⟨b, hb⟩ := hs' i t _ ht hci
          obtain ⟨q, qs, _, y1, y2, y3, y4, y5⟩ := hb.kept kP
          have y1' := g2.tup y1
          refine ⟨rfl, w_yes (if_t rfl ?_)⟩
          walk_at "rd"
          refine ⟨bs'.map V.ref, g1, ?_, bs' ++ [b], by rw [List.map_append]; exact upd_same, Kept.mut g2 hD3, by rw [List.length_append, g3] <;> rfl, fun j b' c hb' hcj => ?_⟩
          · rw [List.length_map, g3]
            have h5 : (srtBy ckD cs).length = cs.length := (srtBy_perm ckD cs).length_eq
            have h6 : 1001 ≤ sizeLine := by decide
            omega
          · by_cases hj : j < bs'.length
            · rw [List.getElem?_append_left hj] at hb'
              exact g4 j b' c hb' hcj
            · have hj2 : j < (bs' ++ [b]).length := (List.getElem?_eq_some_iff.mp hb').1
              rw [List.length_append] at hj2
              have ej : j = bs'.length := by
                have : j < bs'.length + 1 := hj2
                omega
              subst ej
              have eq : b' = b := by simpa using hb'.symm
              subst eq
              rw [g3, hci] at hcj
              cases hcj
              exact y5
        · obtain ⟨bs', g1, g2, g3, g4⟩ := h
          rw [List.length_map, hl'] at g3
          walk_at "rd"
          have kA := (h2.trans kP).trans g2
          exact k D3 H3 bs' kA (((h2.trans kP)).free _ hD3) g1 ⟨g3, fun i b c e1 e2 => g2.tup (g4 i b c e1 e2)⟩
theorem asc_srtN {ds : List (List Int)} (h0 : ds.Nodup) : ascC (srtBy ckD ds) := by
  have h1 := srtBy_pair ckD ds
  have h2 : (srtBy ckD ds).Nodup := (srtBy_perm ckD ds).nodup_iff.mpr h0
  refine List.pairwise_iff_getElem.mpr fun i j hi hj hij => ?_
  have a := List.pairwise_iff_getElem.mp h1 i j hi hj hij
  have b := List.pairwise_iff_getElem.mp h2 i j hi hj hij
  have a' : PySem.W.dataLt (ckD (srtBy ckD ds)[j]) (ckD (srtBy ckD ds)[i]) = false := by
    have z : (!PySem.W.dataLt (ckD (srtBy ckD ds)[j]) (ckD (srtBy ckD ds)[i])) = true := a
    cases w : PySem.W.dataLt (ckD (srtBy ckD ds)[j]) (ckD (srtBy ckD ds)[i]) with
    | false => rfl
    | true => rw [w] at z; cases z
  exact lt_or (Ne.symm b) a'
def rowD (c : List Int) : PyData := .tuple (c.map .int)
theorem canLay_rows : ∀ ds : List (List Int), PyData.canLayAll0 (ds.map rowD) = true
  | [] => by simp [PyData.canLayAll0]
  | x :: xs => by
    rw [List.map_cons, PyData.canLayAll0, canLay_rows xs]
    simp only [rowD, PyData.canLay0, canLay_ints, Bool.and_self]
theorem depth_rows : ∀ ds : List (List Int), PyData.depthAll (ds.map rowD) ≤ 2
  | [] => by simp [PyData.depthAll]
  | x :: xs => by
    rw [List.map_cons, PyData.depthAll]
    have h1 := depth_rows xs
    have h2 : (rowD x).depth ≤ 2 := by
      simp only [rowD, PyData.depth, PySem.W.depth_ints]
      omega
    omega
theorem shL_rows (ds : List (List Int)) : SeqAt.shaped (.list (ds.map rowD)) = true := by
  have h1 := depth_rows ds
  have h2 : PyData.depth (.list (ds.map rowD)) ≤ 64 := by
    simp only [PyData.depth]
    omega
  show (PyData.canLay0 (.list (ds.map rowD)) && decide (PyData.depth (.list (ds.map rowD)) ≤ 64)) = true
  rw [Bool.and_eq_true]
  exact ⟨by simp only [PyData.canLay0]; exact canLay_rows ds, decide_eq_true h2⟩
theorem any_rows (s : List Int) (ds : List (List Int)) : ((ds.map rowD).any fun z => PyData.eqv z (.tuple (s.map PyData.int))) = decide (s ∈ ds) := by
  rw [List.any_map, Bool.eq_iff_iff, List.any_eq_true, decide_eq_true_eq]
  constructor
  · rintro ⟨y, hy, e⟩
    have e : PyData.eqv (.tuple (y.map PyData.int)) (.tuple (s.map PyData.int)) = true := e
    rw [eqv_ints, decide_eq_true_eq] at e
    rw [← e]
    exact hy
  · intro h
    refine ⟨s, h, ?_⟩
    show PyData.eqv (.tuple (s.map PyData.int)) (.tuple (s.map PyData.int)) = true
    rw [eqv_ints]
    exact decide_eq_true rfl
theorem w_ninL {K : PySem.W.Frag} {H : Hp} {Q : VK} {D s : Addr} {ps : List Addr} {ds : List (List Int)} {sh : List Int} (hD : H D = some (.lst (ps.map V.ref))) (hp : ClsAt H ps ds) (hs : H s = some (.tup (sh.map V.int))) (q : Q (.bl (decide (sh ∉ ds))) H) : rNotInD K (.ref s) (.ref D) H Q := by
  refine ⟨_, ds.map rowD, dp_ints hs, .lst (SqL.of hD) (dpAll_of (by rw [List.length_map, List.length_map, hp.1]) fun i x d hx hd => ?_), shT_ints sh, shL_rows ds, by rw [any_rows]; rw [decide_not] at q; exact q⟩
  rw [List.getElem?_map] at hx hd
  obtain ⟨b, hb, rfl⟩ := Option.map_eq_some_iff.mp hx
  obtain ⟨c, hc, rfl⟩ := Option.map_eq_some_iff.mp hd
  exact dp_ints (hp.2 i b c hb hc)
def spLGiven : Sp := fun vs H Q _ => ∃ (a : Addr) (bs : List Addr) (cs : List (List Int)) (l : Int), vs = [.ref a, .int l] ∧ H a = some (.tup (bs.map V.ref)) ∧ ClsAt H bs cs ∧ cs.length ≤ 400 ∧ (∀ c ∈ cs, c.length ≤ 400) ∧
  ∀ p H' bs', Kept H H' → H p = none → H' p = some (.tup (bs'.map V.ref)) → ClsAt H' bs' (underF cs l) → Q (.ref p) H'
end
end Ky

namespace Ky
open PySem PySem.Spec PyProof.Rows L2
/-! ### the law's draws, the cells' own place told (so that a fresh list may change between draws) -/
def DrwC (d c : Addr) (H : Hp) : Prop := ∃ (ns : List Int) (a u z : Int), c ≠ d ∧ H d = some (.lst [.ref c, .int a, .int u, .int z]) ∧ H c = some (.lst (ns.map V.int)) ∧ -1 ≤ a
structure KeptC (d c : Addr) (H H' : Hp) : Prop where
  keep : ∀ b o, b ≠ d → NoTab o → H b = some o → H' b = some o
  drw : DrwC d c H → DrwC d c H'
  tab : ∀ P, GxR.TabG H P → GxR.TabG H' P
  free : ∀ b, H' b = none → H b = none
theorem DrwC.old {d c : Addr} {H : Hp} (h : DrwC d c H) {p : Addr} (hp : H p = none) : p ≠ d ∧ p ≠ c := by
  obtain ⟨ns, a, u, z, n, h1, h2, _⟩ := h
  refine ⟨fun e => ?_, fun e => ?_⟩
  · rw [e, h1] at hp
    cases hp
  · rw [e, h2] at hp
    cases hp
theorem KeptC.refl {d c : Addr} (H : Hp) : KeptC d c H H := ⟨fun _ _ _ _ h => h, fun h => h, fun _ h => h, fun _ h => h⟩
theorem KeptC.trans {d c : Addr} {H H1 H2 : Hp} (a : KeptC d c H H1) (b : KeptC d c H1 H2) : KeptC d c H H2 :=
  ⟨fun x o n m h => b.keep x o n m (a.keep x o n m h), fun h => b.drw (a.drw h), fun P h => b.tab P (a.tab P h), fun x h => a.free x (b.free x h)⟩
theorem Kept.toC {d c : Addr} {H H' : Hp} (a : Kept H H') : KeptC d c H H' := ⟨fun b o _ n h => a.keep b o n h, fun h => by
  obtain ⟨ns, i, u, z, n, h1, h2, h3⟩ := h
  exact ⟨ns, i, u, z, n, a.keep _ _ noTab_lst h1, a.keep _ _ noTab_lst h2, h3⟩, a.tab, a.free⟩
theorem KeptC.mut {d c : Addr} {H H' : Hp} {p : Addr} {o : HO} (e : KeptC d c H H') (h : H p = none) : KeptC d c H (upd H' p o) := ⟨fun a u m n ha => by
  rw [upd_ne (ne_of_none ha h)]
  exact e.keep a u m n ha, fun hd => by
  obtain ⟨n1, n2⟩ := hd.old h
  obtain ⟨ns, i, u, z, n, h1, h2, h3⟩ := e.drw hd
  exact ⟨ns, i, u, z, n, by rw [upd_ne (Ne.symm n1)]; exact h1, by rw [upd_ne (Ne.symm n2)]; exact h2, h3⟩, fun P hP => by
  obtain ⟨ps, h1, h2⟩ := hP
  have nP := ne_of_none h1 h
  obtain ⟨qs, g1, g2⟩ := e.tab P ⟨ps, h1, h2⟩
  exact ⟨qs, by rw [upd_ne nP]; exact g1, g2⟩, fun b hb => e.free b (upd_free hb).1⟩
theorem KeptC.tup {d c : Addr} {H H' : Hp} {p : Addr} {xs : List V} (e : KeptC d c H H') (hd : DrwC d c H) (h : H p = some (.tup xs)) : H' p = some (.tup xs) := e.keep _ _ (fun z => by
  obtain ⟨ns, a, u, z', n, h', _⟩ := hd
  rw [z, h'] at h
  cases h) noTab_tup h
theorem KeptC.lst {d c : Addr} {H H' : Hp} {p : Addr} {xs : List V} (e : KeptC d c H H') (hd : p ≠ d) (h : H p = some (.lst xs)) : H' p = some (.lst xs) := e.keep _ _ hd noTab_lst h
theorem TakeSt.keptC {H H' : Hp} {c d : Addr} {ns : List Int} {xs : List V} (h : TakeSt H c d H') (hd : H d = some (.lst xs)) (hc : H c = some (.lst (ns.map V.int))) (ne : c ≠ d) : KeptC d c H H' := by
  obtain ⟨h1, a, u, z, h2, h3⟩ := h
  refine ⟨fun b o hb _ q => by rw [h1 b hb]; exact q, fun _ => ⟨ns, a, u, z, ne, h2, by rw [h1 c ne]; exact hc, h3⟩, fun P hP => ?_, fun b q => ?_⟩
  · obtain ⟨ps, p1, p2⟩ := hP
    have : P ≠ d := fun e => by
      rw [e, hd] at p1
      cases p1
    exact ⟨ps, by rw [h1 P this]; exact p1, p2⟩
  · by_cases e : b = d
    · rw [e, h2] at q
      cases q
    · rw [h1 b e] at q
      exact q
def spTakeC : Sp := fun vs H Q _ => ∃ (d c : Addr) (m : Int), vs = [.ref d, .int m] ∧ 0 < m ∧ m < 2 ^ 62 ∧ DrwC d c H ∧ ∀ (r : Int) H', 0 ≤ r → r < m → KeptC d c H H' → Q (.int r) H'
def spDrawC (K : PySem.W.Frag) : Sp := fun vs H Q _ => ∃ (a : Addr) (ns : List Int), vs = [.ref a] ∧ SqL K H a (ns.map V.int) ∧ ns.length ≤ 63 ∧ ∀ d c H', H d = none → Kept H H' → DrwC d c H' → Q (.ref d) H'
/-! ### is not, of two truths -/
def rNB : R2 := fun x y H Q => ∃ a b : Bool, x = .bl a ∧ y = .bl b ∧ Q (.bl (!decide (a = b))) H
section
variable {X : Cx}
def rLenK (K : PySem.W.Frag) : List V → Hp → VK → Prop := fun xs H Q => ∃ p ys, xs = [.ref p] ∧ (SqL K H p ys ∨ SqT K H p ys) ∧ Q (.int ys.length) H
theorem call_lenK {K : PySem.W.Frag} (e : X.K = K) : CallR X (.builtin "len") (rLenK K) := by
  subst e
  exact call_len_seq
theorem op_notB : OpR X (compareOp .IsNot) rNB := by
  intro pins s σ H x y v u Q I rx ry h
  obtain ⟨a, b, rfl, rfl, q⟩ := h
  cases (show v = Value.bool a from rx)
  cases (show u = Value.bool b from ry)
  exact wpAny_isNot_plain rfl (fin_bl I q (by cases a <;> cases b <;> rfl))
end
end Ky

namespace Ky
open PySem PySem.Spec PyProof.Rows L2
local macro_rules | `(tactic| walk_at "rd") => `(tactic| repeat (first
  | with_reducible refine w_seq ?_
  | with_reducible refine w_asg ?_
  | with_reducible refine w_ret ?_
  | with_reducible refine w_drop ?_
  | with_reducible refine w_ifs ?_
  | ((with_reducible refine' w_var ?hh ?_); (case hh => exact rfl))
  | with_reducible refine w_c ?_
  | with_reducible refine w_op ?_
  | with_reducible refine w_un ?_
  | with_reducible refine w_I0 ?_
  | with_reducible refine w_U ?_
  | with_reducible refine w_nil ?_
  | with_reducible refine w_cons ?_
  | with_reducible refine w_call ?_
  | with_reducible refine w_cb ?_
  | with_reducible refine w_test ?_
  | with_reducible refine w_B ?_
  | with_reducible refine w_bl ?_
  | with_reducible refine w_and ?_
  | with_reducible refine w_or ?_
  | with_reducible refine w_not ?_
  | with_reducible refine w_ife ?_
  | with_reducible refine w_gRd ?_
  | with_reducible refine w_andV ?_
  | with_reducible refine w_orV ?_
  | with_reducible refine w_notV ?_
  | with_reducible refine w_chain ?_
  | with_reducible refine w_din ?_
  | with_reducible refine w_isi_ii ?_
  | with_reducible refine w_isi_ib ?_
  | with_reducible refine w_isi_it ?_
  | with_reducible refine w_isi_st ?_
  | ((with_reducible refine w_isi_tt ?h1 ?_); (case h1 => first | assumption | exact upd_same))
  | with_reducible refine if_t rfl ?_
  | with_reducible refine if_f rfl ?_
  | with_reducible refine w_tup ?_
  | with_reducible refine w_lst ?_
  | with_reducible refine w_next ?_
  | with_reducible refine w_bm ?_
  | with_reducible refine w_sl ?_
  | with_reducible refine w_part ?_
  | with_reducible refine w_nop ?_
  | with_reducible refine w_isI ?_
  | with_reducible refine w_yes ?_
  | with_reducible refine w_gn ?_
  | with_reducible refine w_gsub ?_
  | ((with_reducible refine' w_setL ?h1 ?h2 ?_); (case h1 => first | assumption | exact upd_same); (case h2 => exact rfl))
  | with_reducible refine w_asgG ?_
  | with_reducible refine w_m1 ?_
  | with_reducible refine w_isS ?_
  | with_reducible refine w_tyS ?_
  | ((with_reducible refine' w_tyL ?h1 ?_); (case h1 => first | assumption | exact upd_same))
  | ((with_reducible refine' w_ixT ?h1 ?h2 ?_); (case h1 => first | assumption | exact upd_same); (case h2 => exact rfl))
  | ((with_reducible refine' w_ixL ?h1 ?h2 ?_); (case h1 => first | assumption | exact upd_same); (case h2 => exact rfl))
  | ((with_reducible refine w_eq ?h1 ?_); (case h1 => exact rfl))
  | ((with_reducible refine w_ne ?h1 ?_); (case h1 => exact rfl))
  | dsimp only [List.set_cons_zero, List.set_cons_succ, List.append_nil, List.cons_append, List.nil_append, cxOf]))

section
variable {P : Program} {w : World} {K : PySem.W.Frag} {mg : Str → Option Value} {base : Heap} {uG : Value} {f : Addr} {fd : FuncData}
theorem ok_l_draw (F : Fun K "_law_draw" "_law_draw" s_l_draw f fd) (T : Tx K mg uG) : FnOk P w K mg base CX0 1 f fd ["script"] (spDrawC K) := by
  refine F.ok sc_l_draw (fun vs H Q E h => ?_) (fun cdv A outer s H vs Q E hr h => ?_)
  · obtain ⟨a, ns, rfl, _⟩ := h
    rfl
  · obtain ⟨a, ns, rfl, hS, hlen, k⟩ := h
    refine ⟨_, (pss_cons (ps_set (i := 1) sc_l_draw.nd rfl (.inl rfl) pe_int)
    (pss_cons (ps_for PassesOwn.never rfl (pi_listK (K := K) rfl (pv 0)) (pg_name (i := 2) sc_l_draw.nd rfl (.inl rfl))
      (pss_one (ps_set (i := 1) sc_l_draw.nd rfl (.inl rfl) (pe_op op_mod (pe_callTy call_int1 (by rfl) T.z_int (by decide +kernel) (pa_cons (pe_op op_add (pe_op op_add (pe_op op_mul (pv 1) pe_int) (pe_op op_mod (pe_callB call_abs (by rfl) T.z_abs (by decide +kernel) (pa_cons (pe_callTy call_int1 (by rfl) T.z_int (by decide +kernel) (pa_cons (pv 2) pa_nil)) pa_nil)) pe_int)) pe_int) pa_nil)) pe_int))))
    (pss_one (ps_ret (pe_lst (pa_cons (pe_lc (own := [("cell", 2)]) (g := gName 2) (by rfl) sc_l_draw.nd (pi_listK (K := K) rfl (pv 0)) (blkOk_by (own := [("cell", 2)]) (N := n_l_draw) (sc := defScope s_l_draw) (by decide +kernel)) (fun _ _ _ _ _ => pg_name (i := 2) sc_l_draw.nd rfl (Or.inl rfl)) (fun _ _ _ _ _ => pts_nil) (fun _ _ _ _ _ => (pe_callB call_abs (by rfl) T.z_abs (by decide +kernel) (pa_cons (pe_callTy call_int1 (by rfl) T.z_int (by decide +kernel) (pa_cons (pv 2) pa_nil)) pa_nil)))) (pa_cons (pe_un un_neg pe_int) (pa_cons pe_int (pa_cons (pv 1) pa_nil))))))))), ?_⟩
    rw [show start n_l_draw [(.ref a : V)] = ([some (.ref a), none, none] : List (Option V)) from rfl]
    walk_at "rd"
    refine ⟨_, rfl, a, rfl, ⟨_, hS⟩, for_list (K := K) (a := a) (xs := ns.map V.int) (fun i σ' H' => ∃ z v, σ' = [some (.ref a), some (.int z), v] ∧ H' = H) ⟨7, none, rfl, rfl⟩ (fun i σ' H' _ h => by
      obtain ⟨_, _, _, rfl⟩ := h
      exact hS) ?_ ?_⟩
    · rintro i y σ' H' hi ⟨z, v, rfl, rfl⟩
      obtain ⟨u, rfl, _⟩ := map_int hi
      walk_at "rd"
      refine w_I (.inr ⟨by decide, by decide⟩) ?_
      walk_at "rd"
      refine .inl ⟨_, rfl, ?_⟩
      walk_at "rd"
      refine ⟨_, rfl, ?_⟩
      walk_at "rd"
      refine w_I (by show (0 : Int) < 65521; decide) ?_
      walk_at "rd"
      refine .inl ⟨_, rfl, ?_⟩
      walk_at "rd"
      refine w_I (by show (0 : Int) < 2147483647; decide) ?_
      exact ⟨_, _, rfl, rfl⟩
    · rintro σ' H' ⟨z, v, rfl, rfl⟩
      walk_at "rd"
      refine ⟨_, rfl, a, rfl, ⟨_, hS⟩, fun D hD => lc_list (K := K) (xs := ns.map V.int) (fun i H1 => ∃ acc : List Int, H1 D = some (.lst (acc.map V.int)) ∧ acc.length = i ∧ Kept H' H1) ⟨[], upd_same, rfl, Kept.new hD⟩ (fun i H1 _ h => by
        obtain ⟨_, _, _, k1⟩ := h
        exact k1.sq hS) ?_ ?_⟩
      · rintro i y H1 hi ⟨acc, h1, h2, k1⟩
        obtain ⟨u, rfl, hu⟩ := map_int hi
        have hi2 : i < ns.length := (List.getElem?_eq_some_iff.mp hu).1
        refine ⟨rfl, w_yes (if_t rfl ?_)⟩
        walk_at "rd"
        refine .inl ⟨_, rfl, ?_⟩
        walk_at "rd"
        refine ⟨_, rfl, ?_⟩
        refine ⟨acc.map V.int, h1, ?_, acc ++ [if u < 0 then -u else u], ?_, ?_, Kept.mut k1 hD⟩
        · rw [List.length_map]
          exact small1000 (by omega)
        · rw [List.map_append]
          exact upd_same
        · rw [List.length_append, h2]
          rfl
      · rintro H1 ⟨acc, h1, h2, k1⟩
        walk_at "rd"
        refine ⟨by show 4 ≤ sizeLine; decide, fun d hd => ?_⟩
        refine k d D _ (k1.free _ hd) (k1.trans (Kept.new hd)) ⟨acc, -1, 0, z, ne_of_none h1 hd, upd_same, ?_, by decide⟩
        rw [upd_ne (ne_of_none h1 hd)]
        exact h1
theorem ok_l_take (F : Fun K "_law_take" "_law_take" s_l_take f fd) (T : Tx K mg uG) : FnOk P w K mg base CX0 1 f fd ["draw", "many"] spTakeC := by
  refine F.ok sc_l_take (fun vs H Q E h => ?_) (fun cdv A outer s H vs Q E hr h => ?_)
  · obtain ⟨d, c, m, rfl, _⟩ := h
    rfl
  · obtain ⟨d, c, m, rfl, m0, m1, hD, k⟩ := h
    have hD0 := hD
    obtain ⟨ns, a, u, z, ne, hd, hc, ha⟩ := hD
    have st0 : TakeSt H c d H := ⟨fun _ _ => rfl, a, u, z, hd, ha⟩
    refine ⟨_, (Evl.pss_cut (ps_if (pt_cmpR op_eq (pe_ix (ix_listK (K := K) rfl) (pv 0) pe_int (fun _ _ => rfl)) pe_int (nomark _))
      (pss_cons (ps_asg (pe_op op_add (pe_ix (ix_listK (K := K) rfl) (pv 0) pe_int (fun _ _ => rfl)) pe_int) (pg_sub (pv 0) pe_int set_list))
    (Evl.pss_cut (ps_if (pt_cmpR op_lt (pe_ix (ix_listK (K := K) rfl) (pv 0) pe_int (fun _ _ => rfl)) (pe_callB call_len_seq (by rfl) T.z_len (by decide +kernel) (pa_cons (pe_ix (ix_listK (K := K) rfl) (pv 0) pe_int (fun _ _ => rfl)) pa_nil)) (nomark _))
      (pss_one (ps_asg (pe_ix (ix_listK (K := K) rfl) (pe_ix (ix_listK (K := K) rfl) (pv 0) pe_int (fun _ _ => rfl)) (pe_ix (ix_listK (K := K) rfl) (pv 0) pe_int (fun _ _ => rfl)) (fun _ _ => rfl)) (pg_sub (pv 0) pe_int set_list)))
      pss_nil)
    (pss_one (ps_if (pt_cmpR op_eq (pe_ix (ix_listK (K := K) rfl) (pv 0) pe_int (fun _ _ => rfl)) pe_int (nomark _))
      (pss_cons (ps_asg (pe_op op_mod (pe_callTy call_int1 (by rfl) T.z_int (by decide +kernel) (pa_cons (pe_op op_add (pe_op op_mul (pe_ix (ix_listK (K := K) rfl) (pv 0) pe_int (fun _ _ => rfl)) pe_int) pe_int) pa_nil)) pe_int) (pg_sub (pv 0) pe_int set_list))
    (pss_one (ps_asg (pe_ix (ix_listK (K := K) rfl) (pv 0) pe_int (fun _ _ => rfl)) (pg_sub (pv 0) pe_int set_list))))
      pss_nil))))
      pss_nil)
    (pss_cons (ps_set (i := 2) sc_l_take.nd rfl (.inl rfl) (pe_op op_mod (pe_callTy call_int1 (by rfl) T.z_int (by decide +kernel) (pa_cons (pe_ix (ix_listK (K := K) rfl) (pv 0) pe_int (fun _ _ => rfl)) pa_nil)) (pv 1)))
    (pss_cons (ps_asg (pe_op op_fdivW (pe_ix (ix_listK (K := K) rfl) (pv 0) pe_int (fun _ _ => rfl)) (pv 1)) (pg_sub (pv 0) pe_int set_list))
    (pss_one (ps_ret (pv 2)))))), ?_⟩
    rw [show start n_l_take [(.ref d : V), (.int m : V)] = ([some (.ref d), some (.int m), none] : List (Option V)) from rfl]
    refine ⟨fun σ' H' => σ' = [some (.ref d), some (.int m), none] ∧ TakeSt H c d H', ?_, ?_⟩
    · walk_at "rd"
      refine ite2 (fun _ => ?_) (fun _ => ?_)
      · walk_at "rd"
        refine ⟨fun σ' H' => σ' = [some (.ref d), some (.int m), none] ∧ TakeSt H c d H', ?_, ?_⟩
        · have st1 : TakeSt H c d (upd H d (.lst [.ref c, .int (a + 1), .int u, .int z])) := st0.upd (by omega)
          have hc1 : (upd H d (.lst [.ref c, .int (a + 1), .int u, .int z])) c = some (.lst (ns.map V.int)) := by rw [st1.1 c ne]; exact hc
          walk_at "rd"
          refine ⟨c, ns.map V.int, rfl, .inl (SqL.of hc1), ?_⟩
          walk_at "rd"
          refine ite2 (fun e => ?_) (fun _ => ⟨rfl, st1⟩)
          have e' : a + 1 < (ns.length : Int) := by
            have := of_decide_eq_true e
            rw [List.length_map] at this
            exact this
          obtain ⟨v, _, hv⟩ := pick_int (ns := ns) (r := a + 1) (by omega) e'
          walk_at "rd"
          refine w_ixL hc1 hv ?_
          walk_at "rd"
          exact ⟨rfl, st1.upd (by omega)⟩
        · rintro σ' H' ⟨rfl, st1⟩
          have st2 := st1
          obtain ⟨_, a1, u1, z1, hd1, ha1⟩ := st2
          walk_at "rd"
          refine ite2 (fun _ => ?_) (fun _ => ⟨rfl, st1⟩)
          walk_at "rd"
          refine w_I (.inr ⟨by decide, by decide⟩) ?_
          walk_at "rd"
          refine .inl ⟨_, rfl, ?_⟩
          walk_at "rd"
          refine w_I (by show (0 : Int) < 2147483647; decide) ?_
          walk_at "rd"
          exact ⟨rfl, (st1.upd ha1).upd ha1⟩
      · exact ⟨rfl, st0⟩
    · rintro σ' H' ⟨rfl, st1⟩
      have st2 := st1
      obtain ⟨_, a1, u1, z1, hd1, ha1⟩ := st2
      walk_at "rd"
      refine .inl ⟨_, rfl, ?_⟩
      walk_at "rd"
      refine w_I m0 ?_
      walk_at "rd"
      refine w_I (wide_div (b := 62) m0 (by omega) (by decide) (by decide)) ?_
      walk_at "rd"
      exact k _ _ (Int.emod_nonneg _ (by omega)) (Int.emod_lt_of_pos _ m0) ((st1.upd ha1).keptC hd hc ne)
theorem shLi (ls : List Int) : SeqAt.shaped (.list (ls.map PyData.int)) = true := by
  unfold SeqAt.shaped
  simp only [PyData.canLay0, canLay_ints, Bool.true_and, PyData.depth, PySem.W.depth_ints]
  rfl
def spLKeeps : Sp := fun vs H Q _ => ∃ (a b : Addr) (bs : List Addr) (cs : List (List Int)) (fs : List Int), vs = [.ref a, .ref b] ∧ H a = some (.tup (bs.map V.ref)) ∧ ClsAt H bs cs ∧ (∀ c ∈ cs, c.length ≤ 1000) ∧ H b = some (.tup (fs.map V.int)) ∧ ∀ H', Kept H H' → Q (.bl (cs.all fun c => c.any fun x => decide (x ∈ fs))) H'
def spLLits : Sp := fun vs H Q _ => ∃ (d c : Addr), vs = [.ref d] ∧ DrwC d c H ∧ ∀ (p : Addr) H' (ls : List Int), H p = none → KeptC d c H H' → H' p = some (.lst (ls.map V.int)) → ls.length ≤ 4 → (∀ n ∈ ls, isLit n = true) → Q (.ref p) H'
end
end Ky

namespace Ky
open PySem PySem.Spec PyProof.Rows L2
/-! ### mathematics for the law -/
theorem range_all {α : Type} (d : α) (p : α → Bool) (xs : List α) : ((List.range xs.length).all fun i => p (xs.getD i d)) = xs.all p := by
  rw [Bool.eq_iff_iff, List.all_eq_true, List.all_eq_true]
  constructor
  · intro h x hx
    obtain ⟨i, hi, e⟩ := List.getElem_of_mem hx
    have q := h i (List.mem_range.mpr hi)
    rw [List.getD_eq_getElem?_getD, List.getElem?_eq_getElem hi, e] at q
    exact q
  · intro h i hi
    have hi := List.mem_range.mp hi
    rw [List.getD_eq_getElem?_getD, List.getElem?_eq_getElem hi]
    exact h _ (List.getElem_mem hi)
theorem range_any {α : Type} (d : α) (p : α → Bool) (xs : List α) : ((List.range xs.length).any fun i => p (xs.getD i d)) = xs.any p := by
  have h := range_all d (fun x => !p x) xs
  rw [← Bool.not_inj_iff, List.not_any_eq_all_not, List.not_any_eq_all_not]
  exact h
theorem keep1_any (fs c : List Int) : keep1 fs c = c.any fun x => decide (x ∈ fs) := by
  unfold keep1
  rw [List.length_map]
  exact range_any 0 (fun x => decide (x ∈ fs)) c
theorem keepsF_all (cs : List (List Int)) (fs : List Int) : keepsF cs fs = cs.all fun c => c.any fun x => decide (x ∈ fs) := by
  unfold keepsF
  rw [range_all [] (keep1 fs) cs]
  congr 1
  funext c
  exact keep1_any fs c
theorem ascD_pair {ds : List PyData} (h : ds.Pairwise fun a b => PySem.W.dataLt a b = true) : ascD ds = true := by
  unfold ascD
  refine List.all_eq_true.mpr fun j hj => ?_
  have hj := List.mem_range.mp hj
  have h1 : j < ds.length := by omega
  have h2 : j + 1 < ds.length := by omega
  rw [List.getD_eq_getElem?_getD, List.getElem?_eq_getElem h1, List.getD_eq_getElem?_getD, List.getElem?_eq_getElem h2]
  exact List.pairwise_iff_getElem.mp h j (j + 1) h1 h2 (by omega)
theorem ascD_not {ds : List PyData} {j : Nat} (h2 : j + 1 < ds.length) (h : PySem.W.dataLt (ds.getD j .none) (ds.getD (j + 1) .none) = false) : ascD ds = false := by
  unfold ascD
  exact List.all_eq_false.mpr ⟨j, List.mem_range.mpr (by omega), by rw [h]; exact Bool.false_ne_true⟩
theorem isClauseF_all (ls : List Int) : isClauseF ls = (ls.all isLit && ascD (ls.map fun n => .int (absI n))) := by
  unfold isClauseF
  rw [List.length_map, range_all 0 isLit ls]
theorem isResidueF_all (cs : List (List Int)) : isResidueF cs = (cs.all isClauseF && ascD (cs.map ckD)) := by
  unfold isResidueF
  rw [range_all [] isClauseF cs]
/-- a residue that ascends, of clauses, is one -/
theorem isResidueF_asc {cs : List (List Int)} (h : ascC cs) (hc : ∀ c ∈ cs, isClauseF c = true) : isResidueF cs = true := by
  rw [isResidueF_all, List.all_eq_true.mpr hc, Bool.true_and]
  exact ascD_pair (List.pairwise_map.mpr h)
/-- + 1000 is no clause -/
theorem isClauseF_big (ls : List Int) : isClauseF (ls ++ [1000]) = false := by
  rw [isClauseF_all, List.all_append]
  have e : List.all [(1000 : Int)] isLit = false := by decide
  rw [e, Bool.and_false, Bool.false_and]
theorem bothS_no {ls : List Int} (h : bothS ls = false) : noBoth ls := by
  unfold bothS at h
  rw [List.length_map, range_any 0 (fun x => decide (-x ∈ ls)) ls, List.any_eq_false] at h
  intro l hl hl2
  exact h l hl (decide_eq_true hl2)
theorem keyD_lt (a b : Int) : PySem.W.dataLt (keyD a) (keyD b) = if absI a = absI b then decide (sgI a < sgI b) else decide (absI a < absI b) := by
  unfold keyD
  rw [PySem.W.dataLt_pair (by simp [PySem.W.alike]) (by simp [PySem.W.alike]), PySem.W.dataLt_int, PySem.W.dataLt_int]
  simp only [PyData.eqv, beq_iff_eq]
  by_cases h : absI a = absI b
  · rw [if_pos h, if_pos h]
    by_cases h2 : sgI a = sgI b
    · rw [if_pos h2, h2]
      simp
    · rw [if_neg h2]
  · rw [if_neg h, if_neg h]
theorem absI_eq {a b : Int} (h : absI a = absI b) : a = b ∨ a = -b := by
  unfold absI at h
  split at h <;> split at h <;> omega
/-- sorted by key, without repeats and without both signs: it ascends in size -/
theorem clause_asc {ls : List Int} (hn : ls.Nodup) (hb : noBoth ls) : (srtBy keyD ls).Pairwise fun a b => absI a < absI b := by
  have h1 := srtBy_pair keyD ls
  have h2 : (srtBy keyD ls).Nodup := (srtBy_perm keyD ls).nodup_iff.mpr hn
  refine List.pairwise_iff_getElem.mpr fun i j hi hj hij => ?_
  have a := List.pairwise_iff_getElem.mp h1 i j hi hj hij
  have b := List.pairwise_iff_getElem.mp h2 i j hi hj hij
  have m1 : (srtBy keyD ls)[i] ∈ ls := mem_srtBy.mp (List.getElem_mem hi)
  have m2 : (srtBy keyD ls)[j] ∈ ls := mem_srtBy.mp (List.getElem_mem hj)
  generalize (srtBy keyD ls)[i] = x at a b m1 ⊢
  generalize (srtBy keyD ls)[j] = y at a b m2 ⊢
  have a : (!PySem.W.dataLt (keyD y) (keyD x)) = true := a
  rw [keyD_lt] at a
  have ne : absI y ≠ absI x := fun e => by
    rcases absI_eq e with e | e
    · exact b e.symm
    · exact hb x m1 (e ▸ m2)
  rw [if_neg ne] at a
  have a' : ¬ absI y < absI x := by simpa using a
  omega
theorem abs_asc {ls : List Int} (h : ls.Pairwise fun a b => absI a < absI b) : ascD (ls.map fun n => .int (absI n)) = true :=
  ascD_pair (List.pairwise_map.mpr (h.imp fun {a b} q => by rw [PySem.W.dataLt_int, decide_eq_true q]))
/-- what the law makes of literals is a clause -/
theorem isClauseF_srt {ls : List Int} (hn : ls.Nodup) (hb : noBoth ls) (hl : ∀ n ∈ ls, isLit n = true) : isClauseF (srtBy keyD ls) = true := by
  rw [isClauseF_all, abs_asc (clause_asc hn hb), Bool.and_true]
  exact List.all_eq_true.mpr fun n hn => hl n (mem_srtBy.mp hn)
/-- and backward it is none, if it has two -/
theorem isClauseF_rev {ls : List Int} (h : ls.Pairwise fun a b => absI a < absI b) (h2 : 2 ≤ ls.length) : isClauseF ls.reverse = false := by
  rw [isClauseF_all]
  have q : ascD (ls.reverse.map fun n => .int (absI n)) = false := by
    refine ascD_not (j := 0) (by rw [List.length_map, List.length_reverse]; omega) ?_
    have l1 : 0 < (ls.reverse.map fun n => PyData.int (absI n)).length := by rw [List.length_map, List.length_reverse]; omega
    have l2 : 0 + 1 < (ls.reverse.map fun n => PyData.int (absI n)).length := by rw [List.length_map, List.length_reverse]; omega
    rw [List.getD_eq_getElem?_getD, List.getElem?_eq_getElem l1, List.getD_eq_getElem?_getD, List.getElem?_eq_getElem l2]
    simp only [Option.getD_some, List.getElem_map, List.getElem_reverse, PySem.W.dataLt_int]
    have q := List.pairwise_iff_getElem.mp h (ls.length - 1 - 1) (ls.length - 1 - 0) (by omega) (by omega) (by omega)
    refine decide_eq_false ?_
    have e : ls.length - 1 - (0 + 1) = ls.length - 1 - 1 := by omega
    simp only [e]
    omega
  rw [q, Bool.and_false]
theorem isResidueF_end {ys : List (List Int)} {u v : List Int} (h : PySem.W.dataLt (ckD u) (ckD v) = false) : isResidueF (ys ++ [u, v]) = false := by
  rw [isResidueF_all]
  have q : ascD ((ys ++ [u, v]).map ckD) = false := by
    have e : (ys ++ [u, v]).map ckD = ys.map ckD ++ [ckD u, ckD v] := by rw [List.map_append] <;> rfl
    rw [e]
    refine ascD_not (j := (ys.map ckD).length) (by rw [List.length_append]; simp) ?_
    rw [List.getD_eq_getElem?_getD, List.getD_eq_getElem?_getD, List.getElem?_append_right (Nat.le_refl _), List.getElem?_append_right (Nat.le_succ _), Nat.sub_self, Nat.succ_sub (Nat.le_refl _), Nat.sub_self]
    exact h
  rw [q, Bool.and_false]
theorem last_of {α : Type} : ∀ {xs : List α}, 0 < xs.length → ∃ ys u, xs = ys ++ [u]
  | [], h => by simp at h
  | x :: xs, _ => by
    cases xs with
    | nil => exact ⟨[], x, rfl⟩
    | cons y t =>
      obtain ⟨ys, u, e⟩ := last_of (xs := y :: t) (by simp)
      exact ⟨x :: ys, u, by rw [e] <;> rfl⟩
/-- the last doubled -/
theorem isResidueF_dbl {cs : List (List Int)} (h : 0 < cs.length) : isResidueF (cs ++ cs.drop (cs.length - 1)) = false := by
  obtain ⟨ys, u, rfl⟩ := last_of h
  have e : (ys ++ [u]).drop ((ys ++ [u]).length - 1) = [u] := by
    rw [List.length_append]
    show List.drop (ys.length + 1 - 1) _ = _
    rw [Nat.add_sub_cancel, List.drop_left]
  rw [e, List.append_assoc]
  exact isResidueF_end (lt_irr _)
/-- the first at the end -/
theorem isResidueF_rot {cs : List (List Int)} (ha : ascC cs) (h : 1 < cs.length) : isResidueF (cs.drop 1 ++ cs.take 1) = false := by
  cases cs with
  | nil => simp at h
  | cons a t =>
    obtain ⟨ys, u, rfl⟩ := last_of (xs := t) (by simpa using h)
    obtain ⟨p1, _⟩ := List.pairwise_cons.mp ha
    have q := p1 u (List.mem_append_right _ List.mem_cons_self)
    show isResidueF ((ys ++ [u]) ++ [a]) = false
    rw [List.append_assoc]
    exact isResidueF_end (dataLt_asym q)
/-- two lists that ascend with the same members are one -/
theorem intAsc_unique : ∀ {xs ys : List Int}, xs.Pairwise (· < ·) → ys.Pairwise (· < ·) → (∀ d, d ∈ xs ↔ d ∈ ys) → xs = ys
  | [], [], _, _, _ => rfl
  | [], y :: ys, _, _, h => absurd ((h y).mpr List.mem_cons_self) (by simp)
  | x :: xs, [], _, _, h => absurd ((h x).mp List.mem_cons_self) (by simp)
  | x :: xs, y :: ys, hx, hy, h => by
    obtain ⟨x1, x2⟩ := List.pairwise_cons.mp hx
    obtain ⟨y1, y2⟩ := List.pairwise_cons.mp hy
    have e : x = y := by
      rcases List.mem_cons.mp ((h x).mp List.mem_cons_self) with e | e
      · exact e
      · rcases List.mem_cons.mp ((h y).mpr List.mem_cons_self) with e2 | e2
        · exact e2.symm
        · have a := y1 x e
          have b := x1 y e2
          omega
    subst e
    have nx : x ∉ xs := fun z => by
      have := x1 x z
      omega
    have ny : x ∉ ys := fun z => by
      have := y1 x z
      omega
    rw [intAsc_unique x2 y2 fun d => ⟨fun z => ((List.mem_cons.mp ((h d).mp (List.mem_cons_of_mem _ z))).resolve_left fun e => nx (e ▸ z)), fun z => ((List.mem_cons.mp ((h d).mpr (List.mem_cons_of_mem _ z))).resolve_left fun e => ny (e ▸ z))⟩]
theorem noBoth_srt {ls : List Int} (h : noBoth ls) : noBoth (srtBy keyD ls) := fun l h1 h2 => h l (mem_srtBy.mp h1) (mem_srtBy.mp h2)
theorem small3_res {cs : List (List Int)} (hl : cs.length ≤ 400) (hc : ∀ c ∈ cs, c.length ≤ 400 ∧ noBoth c) : Small3 (residueF cs) := by
  refine ⟨asc_srt cs, ?_, fun c h => hc c (mem_residueF.mp h)⟩
  unfold residueF
  rw [(srtBy_perm _ _).length_eq]
  exact Nat.le_trans (len_dd _) hl
theorem isResidueF_res {cs : List (List Int)} (h : ∀ c ∈ cs, isClauseF c = true) : isResidueF (residueF cs) = true := isResidueF_asc (asc_srt cs) fun c hc => h c (mem_residueF.mp hc)
/-- a list's own without repeats, in any order, sorted: the residue -/
theorem srt_once {cs ds : List (List Int)} (hn : ds.Nodup) (hm : ∀ d, d ∈ ds ↔ d ∈ cs) : srtBy ckD ds = residueF cs := asc_is (asc_srtN hn) fun d => by rw [mem_srtBy, hm]
/-- one more of `[xs[j] for j .. if xs[j] not in xs[:j]]` -/
theorem once_step {α : Type} [DecidableEq α] {xs ds : List α} {j : Nat} {x : α} (hx : xs[j]? = some x) (hn : ds.Nodup) (hm : ∀ d, d ∈ ds ↔ d ∈ xs.take j) :
    (x ∉ xs.take j → (ds ++ [x]).Nodup ∧ ∀ d, d ∈ ds ++ [x] ↔ d ∈ xs.take (j + 1)) ∧ (x ∈ xs.take j → ∀ d, d ∈ ds ↔ d ∈ xs.take (j + 1)) := by
  have et : xs.take (j + 1) = xs.take j ++ [x] := by rw [List.take_add_one, hx]; rfl
  refine ⟨fun h => ⟨?_, fun d => ?_⟩, fun h d => ?_⟩
  · exact List.nodup_append.mpr ⟨hn, by simp, fun y hy z hz => by rw [List.mem_singleton.mp hz]; exact fun e => h ((hm x).mp (e ▸ hy))⟩
  · rw [et, List.mem_append, List.mem_append, hm]
  · rw [et, List.mem_append, hm, List.mem_singleton]
    exact ⟨.inl, fun h2 => h2.elim id fun e => e ▸ h⟩
/-- two lists that ascend by size with the same members are one -/
theorem absAsc_unique {m : Int → Int} : ∀ {xs ys : List Int}, (xs.Pairwise fun a b => m a < m b) → (ys.Pairwise fun a b => m a < m b) → (∀ d, d ∈ xs ↔ d ∈ ys) → xs = ys
  | [], [], _, _, _ => rfl
  | [], y :: ys, _, _, h => absurd ((h y).mpr List.mem_cons_self) (by simp)
  | x :: xs, [], _, _, h => absurd ((h x).mp List.mem_cons_self) (by simp)
  | x :: xs, y :: ys, hx, hy, h => by
    obtain ⟨x1, x2⟩ := List.pairwise_cons.mp hx
    obtain ⟨y1, y2⟩ := List.pairwise_cons.mp hy
    have e : x = y := by
      rcases List.mem_cons.mp ((h x).mp List.mem_cons_self) with e | e
      · exact e
      · rcases List.mem_cons.mp ((h y).mpr List.mem_cons_self) with e2 | e2
        · exact e2.symm
        · have a := y1 x e
          have b := x1 y e2
          omega
    subst e
    have nx : x ∉ xs := fun z => by
      have := x1 x z
      omega
    have ny : x ∉ ys := fun z => by
      have := y1 x z
      omega
    rw [absAsc_unique x2 y2 fun d => ⟨fun z => ((List.mem_cons.mp ((h d).mp (List.mem_cons_of_mem _ z))).resolve_left fun e => nx (e ▸ z)), fun z => ((List.mem_cons.mp ((h d).mpr (List.mem_cons_of_mem _ z))).resolve_left fun e => ny (e ▸ z))⟩]
/-- the clause of literals, from any list of them without repeats -/
theorem clauseF_once {ls ds : List Int} (hb : noBoth ls) (hn : ds.Nodup) (hm : ∀ d, d ∈ ds ↔ d ∈ ls) : srtBy keyD ds = clauseF ls := by
  unfold clauseF
  have hb1 : noBoth ds := fun l h1 h2 => hb l ((hm l).mp h1) ((hm _).mp h2)
  have hb2 : noBoth (dd ls) := fun l h1 h2 => hb l (mem_dd.mp h1) (mem_dd.mp h2)
  exact absAsc_unique (m := absI) (clause_asc hn hb1) (clause_asc (nodup_dd ls) hb2) fun d => by rw [mem_srtBy, mem_srtBy, mem_dd, hm]
end Ky

namespace Ky
open PySem PySem.Spec PyProof.Rows L2
/-! ### loops and comprehensions, one step each; what is told of the walk stands in one word -/
def FrJ (g : TG) (tb : TS) (D : Ends) (σ : L2.St) (J : It) (H1 : Hp) : Prop := ∃ W : Nat → Nat → L2.St → Hp → Prop, (∃ m, W 0 m σ H1) ∧ ∀ i m σ H, W i m σ H →
  (J.stop i H ∧ D.nx σ H) ∨ (J.go i H ∧ ∃ N : L2.St → Hp → Prop, (∀ σ' H', N σ' H' → ∃ m', m' < m ∧ W (i + 1) m' σ' H') ∧ ∀ x H', J.yld i H x H' → g x σ H' fun σ2 H2 => tb { D with nx := N, ct := N, bk := D.nx } σ2 H2)
def Fr1 (g : TG) (tb : TS) (D : Ends) (σ : L2.St) (vs : List V) (H1 : Hp) : Prop := ∃ j : Int, vs = [.int j] ∧ -(2 ^ 62) ≤ j ∧ j < 2 ^ 62 ∧ FrJ g tb D σ (Itr 0 j.toNat) H1
def Fr2 (g : TG) (tb : TS) (D : Ends) (σ : L2.St) (vs : List V) (H1 : Hp) : Prop := ∃ i j : Int, vs = [.int i, .int j] ∧ (-(2 ^ 62) ≤ i ∧ i < 2 ^ 62 ∧ -(2 ^ 62) ≤ j ∧ j < 2 ^ 62) ∧ FrJ g tb D σ (Itr i (j - i).toNat) H1
def FrL (K : PySem.W.Frag) (g : TG) (tb : TS) (D : Ends) (σ : L2.St) (x : V) (H1 : Hp) : Prop := ∃ a, x = .ref a ∧ (∃ xs, SqL K H1 a xs) ∧ FrJ g tb D σ (Itl K a) H1
def FrT (K : PySem.W.Frag) (g : TG) (tb : TS) (D : Ends) (σ : L2.St) (x : V) (H1 : Hp) : Prop := ∃ a, x = .ref a ∧ (∃ xs, SqT K H1 a xs) ∧ FrJ g tb D σ (Itt K a) H1
def LcJ (g : TG) (tt : TT) (te : TE) (vs : List Nat) (σ : L2.St) (Q : VK) (J : It) (H1 : Hp) : Prop := ∀ D, H1 D = none → ∃ W : Nat → Nat → Hp → Prop, (∃ m, W 0 m (upd H1 D (.lst []))) ∧ ∀ i m H, W i m H →
  (J.stop i H ∧ Q (.ref D) H) ∨ (J.go i H ∧ ∃ Nx : Hp → Prop, (∀ H', Nx H' → ∃ m', m' < m ∧ W (i + 1) m' H') ∧ ∀ x H', J.yld i H x H' → g x (wipe σ vs) H' fun σ2 H2 => wipe σ2 vs = wipe σ vs ∧ tt σ2 H2 fun b H3 =>
    if b = true then te σ2 H3 fun y H4 => ∃ acc, H4 D = some (.lst acc) ∧ acc.length < sizeLine ∧ Nx (upd H4 D (.lst (acc ++ [y]))) else Nx H3)
def Lc1 (g : TG) (tt : TT) (te : TE) (vs : List Nat) (σ : L2.St) (Q : VK) (ws : List V) (H1 : Hp) : Prop := ∃ j : Int, ws = [.int j] ∧ -(2 ^ 62) ≤ j ∧ j < 2 ^ 62 ∧ LcJ g tt te vs σ Q (Itr 0 j.toNat) H1
def LcL (K : PySem.W.Frag) (g : TG) (tt : TT) (te : TE) (vs : List Nat) (σ : L2.St) (Q : VK) (x : V) (H1 : Hp) : Prop := ∃ a, x = .ref a ∧ (∃ xs, SqL K H1 a xs) ∧ LcJ g tt te vs σ Q (Itl K a) H1
def LcT (K : PySem.W.Frag) (g : TG) (tt : TT) (te : TE) (vs : List Nat) (σ : L2.St) (Q : VK) (x : V) (H1 : Hp) : Prop := ∃ a, x = .ref a ∧ (∃ xs, SqT K H1 a xs) ∧ LcJ g tt te vs σ Q (Itt K a) H1
section
variable {K : PySem.W.Frag} {σ : L2.St} {H H1 : Hp} {Q : VK} {D : Ends} {g : TG} {tb : TS} {ta : TA} {te te2 : TE} {tt : TT} {vs : List Nat} {J : It}
theorem w_for1 (q : ta σ H (Fr1 g tb D σ)) : tFor (iRng1 ta) g tb D σ H := q
theorem w_for2 (q : ta σ H (Fr2 g tb D σ)) : tFor (iRng2 ta) g tb D σ H := q
theorem w_forL (q : te σ H (FrL K g tb D σ)) : tFor (iList K te) g tb D σ H := q
theorem w_forT (q : te σ H (FrT K g tb D σ)) : tFor (iTup K te) g tb D σ H := q
theorem w_lc1 (q : ta σ H (Lc1 g tt te vs σ Q)) : tLc (iRng1 ta) g tt te vs σ H Q := q
theorem w_lcL (q : te2 σ H (LcL K g tt te vs σ Q)) : tLc (iList K te2) g tt te vs σ H Q := q
theorem w_lcT (q : te2 σ H (LcT K g tt te vs σ Q)) : tLc (iTup K te2) g tt te vs σ H Q := q
theorem FrJ.range {lo : Int} {n : Nat} (Pv : Nat → L2.St → Hp → Prop) (h0 : Pv 0 σ H) (hs : ∀ i σ H, i < n → Pv i σ H → g (.int (lo + i)) σ H fun σ2 H2 => tb { D with nx := Pv (i + 1), ct := Pv (i + 1), bk := D.nx } σ2 H2) (hd : ∀ σ H, Pv n σ H → D.nx σ H) : FrJ g tb D σ (Itr lo n) H := for_range Pv h0 hs hd
theorem Fr1.mk {m : Nat} (hm : (m : Int) < 2 ^ 62) (Pv : Nat → L2.St → Hp → Prop) (h0 : Pv 0 σ H) (hs : ∀ i σ H, i < m → Pv i σ H → g (.int (i : Int)) σ H fun σ2 H2 => tb { D with nx := Pv (i + 1), ct := Pv (i + 1), bk := D.nx } σ2 H2) (hd : ∀ σ H, Pv m σ H → D.nx σ H) : Fr1 g tb D σ [.int (m : Int)] H := by
  refine ⟨_, rfl, by omega, hm, ?_⟩
  rw [Int.toNat_natCast]
  refine for_range Pv h0 (fun i σ H hi p => ?_) hd
  rw [Int.zero_add]
  exact hs i σ H hi p
theorem FrL.mk {a : Addr} {xs : List V} (Pv : Nat → L2.St → Hp → Prop) (h0 : Pv 0 σ H) (hl : ∀ i σ H, i ≤ xs.length → Pv i σ H → SqL K H a xs) (hs : ∀ i x σ H, xs[i]? = some x → Pv i σ H → g x σ H fun σ2 H2 => tb { D with nx := Pv (i + 1), ct := Pv (i + 1), bk := D.nx } σ2 H2) (hd : ∀ σ H, Pv xs.length σ H → D.nx σ H) : FrL K g tb D σ (.ref a) H :=
  ⟨a, rfl, ⟨xs, hl 0 σ H (Nat.zero_le _) h0⟩, for_list Pv h0 hl hs hd⟩
theorem FrT.mk {a : Addr} {xs : List V} (Pv : Nat → L2.St → Hp → Prop) (h0 : Pv 0 σ H) (hl : ∀ i σ H, i ≤ xs.length → Pv i σ H → SqT K H a xs) (hs : ∀ i x σ H, xs[i]? = some x → Pv i σ H → g x σ H fun σ2 H2 => tb { D with nx := Pv (i + 1), ct := Pv (i + 1), bk := D.nx } σ2 H2) (hd : ∀ σ H, Pv xs.length σ H → D.nx σ H) : FrT K g tb D σ (.ref a) H :=
  ⟨a, rfl, ⟨xs, hl 0 σ H (Nat.zero_le _) h0⟩, for_tup Pv h0 hl hs hd⟩
/-- a comprehension's walk: what it appends is told, and the heap only grows -/
theorem LcJ.run {n : Nat} {xv : Nat → V} {j : Nat} {H0 : Hp} {Q : VK} (p : Nat → Bool) (f : Nat → V) (hn : n ≤ sizeLine) (hgo : ∀ i H, i < n → Kept H0 H → J.go i H) (hy : ∀ i H x H', i < n → Kept H0 H → J.yld i H x H' → H' = H ∧ x = xv i) (hstop : ∀ H, Kept H0 H → J.stop n H)
    (step : ∀ i H (k : Hp → Prop) (k2 : VK), i < n → Kept H0 H → (∀ H4, Kept H H4 → p i = true → k2 (f i) H4) → (∀ H4, Kept H H4 → p i = false → k H4) → tt ((wipe σ [j]).set j (some (xv i))) H fun b H3 => if b = true then te ((wipe σ [j]).set j (some (xv i))) H3 k2 else k H3)
    (fin : ∀ D H, H0 D = none → Kept H0 H → H D = some (.lst (((List.range n).filter p).map f)) → Q (.ref D) H) : LcJ (gName j) tt te [j] σ Q J H0 := by
  intro D hD
  refine c_walk (xv := xv) (fun i H => Kept H0 H ∧ H D = some (.lst (((List.range i).filter p).map f))) ⟨Kept.new hD, upd_same⟩ (fun i H h s => hgo i H h s.1) (fun i H x H' h s => hy i H x H' h s.1) (fun H s => hstop H s.1) (fun i H hi s => ?_) fun H s => fin D H hD s.1 s.2
  refine ⟨wipe_one, ?_⟩
  refine step i H _ _ hi s.1 (fun H4 k4 hp => ?_) fun H4 k4 hp => ?_
  · refine ⟨_, k4.lst s.2, ?_, Kept.mut (s.1.trans k4) hD, ?_⟩
    · rw [List.length_map]
      have h1 := List.length_filter_le p (List.range i)
      rw [List.length_range] at h1
      omega
    · rw [List.range_succ, List.filter_append, List.map_append, List.filter_cons_of_pos hp]
      exact upd_same
  · refine ⟨s.1.trans k4, ?_⟩
    rw [List.range_succ, List.filter_append, List.filter_cons_of_neg (by rw [hp]; exact Bool.false_ne_true), List.filter_nil, List.append_nil]
    exact k4.lst s.2
theorem Lc1.run {n : Nat} {j : Nat} {H0 : Hp} {Q : VK} (p : Nat → Bool) (f : Nat → V) (hn : n ≤ sizeLine)
    (step : ∀ i H (k : Hp → Prop) (k2 : VK), i < n → Kept H0 H → (∀ H4, Kept H H4 → p i = true → k2 (f i) H4) → (∀ H4, Kept H H4 → p i = false → k H4) → tt ((wipe σ [j]).set j (some (.int (i : Int)))) H fun b H3 => if b = true then te ((wipe σ [j]).set j (some (.int (i : Int)))) H3 k2 else k H3)
    (fin : ∀ D H, H0 D = none → Kept H0 H → H D = some (.lst (((List.range n).filter p).map f)) → Q (.ref D) H) : Lc1 (gName j) tt te [j] σ Q [.int (n : Int)] H0 := by
  have hz : sizeLine < 2 ^ 62 := by decide
  refine ⟨_, rfl, by omega, by omega, ?_⟩
  rw [Int.toNat_natCast]
  exact LcJ.run (xv := fun i => .int (i : Int)) p f hn (fun i H h _ => h) (fun i H x H' _ _ h => by
    obtain ⟨h1, h2⟩ := h
    rw [Int.zero_add] at h2
    exact ⟨h1, h2⟩) (fun H _ => Nat.le_refl n) step fin
theorem LcL.run {a : Addr} {xs : List V} {j : Nat} {H0 : Hp} {Q : VK} (p : Nat → Bool) (f : Nat → V) (hn : xs.length ≤ sizeLine) (ha : H0 a = some (.lst xs))
    (step : ∀ i x H (k : Hp → Prop) (k2 : VK), xs[i]? = some x → Kept H0 H → (∀ H4, Kept H H4 → p i = true → k2 (f i) H4) → (∀ H4, Kept H H4 → p i = false → k H4) → tt ((wipe σ [j]).set j (some x)) H fun b H3 => if b = true then te ((wipe σ [j]).set j (some x)) H3 k2 else k H3)
    (fin : ∀ D H, H0 D = none → Kept H0 H → H D = some (.lst (((List.range xs.length).filter p).map f)) → Q (.ref D) H) : LcL K (gName j) tt te [j] σ Q (.ref a) H0 := by
  refine ⟨a, rfl, ⟨_, SqL.of ha⟩, LcJ.run (xv := fun i => xs.getD i .non) p f hn (fun i H h kp => ⟨xs, xs[i], SqL.of (kp.lst ha), List.getElem?_eq_getElem h⟩) (fun i H x H' h kp q => ?_) (fun H kp => ⟨xs, SqL.of (kp.lst ha), Nat.le_refl _⟩) (fun i H k k2 h kp => step i _ H k k2 (by rw [List.getD_eq_getElem?_getD, List.getElem?_eq_getElem h] <;> rfl) kp) fin⟩
  obtain ⟨e, q⟩ := q
  subst e
  refine ⟨rfl, ?_⟩
  rw [List.getD_eq_getElem?_getD, q xs (SqL.of (kp.lst ha))] <;> rfl
theorem LcT.run {a : Addr} {xs : List V} {j : Nat} {H0 : Hp} {Q : VK} (p : Nat → Bool) (f : Nat → V) (hn : xs.length ≤ sizeLine) (ha : H0 a = some (.tup xs))
    (step : ∀ i x H (k : Hp → Prop) (k2 : VK), xs[i]? = some x → Kept H0 H → (∀ H4, Kept H H4 → p i = true → k2 (f i) H4) → (∀ H4, Kept H H4 → p i = false → k H4) → tt ((wipe σ [j]).set j (some x)) H fun b H3 => if b = true then te ((wipe σ [j]).set j (some x)) H3 k2 else k H3)
    (fin : ∀ D H, H0 D = none → Kept H0 H → H D = some (.lst (((List.range xs.length).filter p).map f)) → Q (.ref D) H) : LcT K (gName j) tt te [j] σ Q (.ref a) H0 := by
  refine ⟨a, rfl, ⟨_, SqT.of ha⟩, LcJ.run (xv := fun i => xs.getD i .non) p f hn (fun i H h kp => ⟨xs, xs[i], SqT.of (kp.tup ha), List.getElem?_eq_getElem h⟩) (fun i H x H' h kp q => ?_) (fun H kp => ⟨xs, SqT.of (kp.tup ha), Nat.le_refl _⟩) (fun i H k k2 h kp => step i _ H k k2 (by rw [List.getD_eq_getElem?_getD, List.getElem?_eq_getElem h] <;> rfl) kp) fin⟩
  obtain ⟨e, q⟩ := q
  subst e
  refine ⟨rfl, ?_⟩
  rw [List.getD_eq_getElem?_getD, q xs (SqT.of (kp.tup ha))] <;> rfl
end
/-! ### what the walks leave, as lists -/
theorem range_filter {α β : Type} (d : α) (p : α → Bool) (f : α → β) : ∀ xs : List α, ((List.range xs.length).filter fun i => p (xs.getD i d)).map (fun i => f (xs.getD i d)) = (xs.filter p).map f := by
  intro xs
  have h : ∀ m, m ≤ xs.length → ((List.range m).filter fun i => p (xs.getD i d)).map (fun i => f (xs.getD i d)) = ((xs.take m).filter p).map f := by
    intro m
    induction m with
    | zero => intro _; rfl
    | succ m ih =>
      intro hm
      have hx : xs[m]? = some xs[m] := List.getElem?_eq_getElem hm
      rw [List.range_succ, List.filter_append, List.map_append, ih (by omega), List.take_add_one, hx, List.filter_append, List.map_append]
      congr 1
      have e : xs.getD m d = xs[m] := by rw [List.getD_eq_getElem?_getD, hx] <;> rfl
      show (List.filter _ [m]).map _ = (List.filter p [xs[m]]).map f
      cases hp : p xs[m] with
      | true => rw [List.filter_cons_of_pos (by rw [e]; exact hp), List.filter_cons_of_pos hp, List.filter_nil, List.filter_nil, List.map_cons, List.map_cons, e] <;> rfl
      | false => rw [List.filter_cons_of_neg (by rw [e, hp]; exact Bool.false_ne_true), List.filter_cons_of_neg (by rw [hp]; exact Bool.false_ne_true)] <;> rfl
  rw [h _ (Nat.le_refl _), List.take_length]
theorem range_map {α β : Type} (d : α) (f : α → β) (xs : List α) : (List.range xs.length).map (fun i => f (xs.getD i d)) = xs.map f := by
  have h := range_filter d (fun _ => true) f xs
  rw [List.filter_eq_self.mpr (fun _ _ => rfl), List.filter_eq_self.mpr (fun _ _ => rfl)] at h
  exact h
section
variable {K : PySem.W.Frag} {σ : L2.St} {Q : VK} {te : TE} {tt : TT} {a : Addr} {ns : List Int} {j : Nat} {H0 : Hp}
/-- a comprehension over numbers -/
theorem LcL.ints (p : Int → Bool) (f : Int → V) (hn : ns.length ≤ sizeLine) (ha : H0 a = some (.lst (ns.map V.int)))
    (step : ∀ n H (k : Hp → Prop) (k2 : VK), n ∈ ns → Kept H0 H → (∀ H4, Kept H H4 → p n = true → k2 (f n) H4) → (∀ H4, Kept H H4 → p n = false → k H4) → tt ((wipe σ [j]).set j (some (.int n))) H fun b H3 => if b = true then te ((wipe σ [j]).set j (some (.int n))) H3 k2 else k H3)
    (fin : ∀ D H, H0 D = none → Kept H0 H → H D = some (.lst ((ns.filter p).map f)) → Q (.ref D) H) : LcL K (gName j) tt te [j] σ Q (.ref a) H0 := by
  refine LcL.run (fun i => p (ns.getD i 0)) (fun i => f (ns.getD i 0)) (by rw [List.length_map]; exact hn) ha (fun i x H k k2 hx kp h1 h2 => ?_) fun D H hD kp h => fin D H hD kp ?_
  · obtain ⟨n, rfl, hn⟩ := map_int hx
    have e : ns.getD i 0 = n := by rw [List.getD_eq_getElem?_getD, hn] <;> rfl
    refine step n H k k2 (List.mem_of_getElem? hn) kp (fun H4 k4 hp => ?_) fun H4 k4 hp => ?_
    · have q := h1 H4 k4 (by rw [e]; exact hp)
      rw [e] at q
      exact q
    · exact h2 H4 k4 (by rw [e]; exact hp)
  · rw [h, List.length_map]
    exact congrArg (fun z => some (HO.lst z)) (range_filter 0 p f ns)
theorem LcT.ints (p : Int → Bool) (f : Int → V) (hn : ns.length ≤ sizeLine) (ha : H0 a = some (.tup (ns.map V.int)))
    (step : ∀ n H (k : Hp → Prop) (k2 : VK), n ∈ ns → Kept H0 H → (∀ H4, Kept H H4 → p n = true → k2 (f n) H4) → (∀ H4, Kept H H4 → p n = false → k H4) → tt ((wipe σ [j]).set j (some (.int n))) H fun b H3 => if b = true then te ((wipe σ [j]).set j (some (.int n))) H3 k2 else k H3)
    (fin : ∀ D H, H0 D = none → Kept H0 H → H D = some (.lst ((ns.filter p).map f)) → Q (.ref D) H) : LcT K (gName j) tt te [j] σ Q (.ref a) H0 := by
  refine LcT.run (fun i => p (ns.getD i 0)) (fun i => f (ns.getD i 0)) (by rw [List.length_map]; exact hn) ha (fun i x H k k2 hx kp h1 h2 => ?_) fun D H hD kp h => fin D H hD kp ?_
  · obtain ⟨n, rfl, hn⟩ := map_int hx
    have e : ns.getD i 0 = n := by rw [List.getD_eq_getElem?_getD, hn] <;> rfl
    refine step n H k k2 (List.mem_of_getElem? hn) kp (fun H4 k4 hp => ?_) fun H4 k4 hp => ?_
    · have q := h1 H4 k4 (by rw [e]; exact hp)
      rw [e] at q
      exact q
    · exact h2 H4 k4 (by rw [e]; exact hp)
  · rw [h, List.length_map]
    exact congrArg (fun z => some (HO.lst z)) (range_filter 0 p f ns)
end
section
variable {K : PySem.W.Frag} {σ : L2.St} {te : TE} {J : It}
theorem tupUpd {H : Hp} {D q : Addr} {xs ys : List V} {o : HO} (hD : H D = some (.lst xs)) (h : H q = some (.tup ys)) : upd H D o q = some (.tup ys) := by
  rw [upd_ne (fun z => by
    rw [z, hD] at h
    cases h)]
  exact h
/-- a comprehension whose elements are tuples of told contents -/
theorem LcJ.tups {n : Nat} {xv : Nat → V} {j : Nat} {H0 : Hp} {Q : VK} (T : Nat → List V) (hn : n ≤ sizeLine) (hgo : ∀ i H, i < n → Kept H0 H → J.go i H) (hy : ∀ i H x H', i < n → Kept H0 H → J.yld i H x H' → H' = H ∧ x = xv i) (hstop : ∀ H, Kept H0 H → J.stop n H)
    (step : ∀ i H (k2 : VK), i < n → Kept H0 H → (∀ H4 q, Kept H H4 → H4 q = some (.tup (T i)) → k2 (.ref q) H4) → te ((wipe σ [j]).set j (some (xv i))) H k2)
    (fin : ∀ D H (qs : List Addr), H0 D = none → Kept H0 H → H D = some (.lst (qs.map V.ref)) → qs.length = n → (∀ i q, qs[i]? = some q → H q = some (.tup (T i))) → Q (.ref D) H) : LcJ (gName j) tYes te [j] σ Q J H0 := by
  intro D hD
  refine c_walk (xv := xv) (fun i H => Kept H0 H ∧ ∃ qs : List Addr, H D = some (.lst (qs.map V.ref)) ∧ qs.length = i ∧ ∀ i q, qs[i]? = some q → H q = some (.tup (T i))) ⟨Kept.new hD, [], upd_same, rfl, fun i q h => by simp at h⟩ (fun i H h s => hgo i H h s.1) (fun i H x H' h s => hy i H x H' h s.1) (fun H s => hstop H s.1) (fun i H hi s => ?_) fun H s => ?_
  · obtain ⟨kp, qs, h1, h2, h3⟩ := s
    refine ⟨wipe_one, w_yes (if_t rfl ?_)⟩
    refine step i H _ hi kp fun H4 q k4 hq => ⟨_, k4.lst h1, ?_, Kept.mut (kp.trans k4) hD, qs ++ [q], ?_, ?_, fun m r hr => ?_⟩
    · rw [List.length_map, h2]
      omega
    · rw [List.map_append]
      exact upd_same
    · rw [List.length_append, h2] <;> rfl
    · by_cases hm : m < qs.length
      · rw [List.getElem?_append_left hm] at hr
        exact tupUpd (k4.lst h1) (k4.tup (h3 m r hr))
      · rw [List.getElem?_append_right (by omega)] at hr
        cases z : m - qs.length with
        | zero =>
          rw [z] at hr
          cases hr
          have e : m = i := by omega
          rw [e]
          exact tupUpd (k4.lst h1) hq
        | succ m =>
          rw [z] at hr
          simp at hr
  · obtain ⟨kp, qs, h1, h2, h3⟩ := s
    exact fin D H qs hD kp h1 h2 h3
theorem LcL.tups {a : Addr} {xs : List V} {j : Nat} {H0 : Hp} {Q : VK} (T : Nat → List V) (hn : xs.length ≤ sizeLine) (ha : H0 a = some (.lst xs))
    (step : ∀ i x H (k2 : VK), xs[i]? = some x → Kept H0 H → (∀ H4 q, Kept H H4 → H4 q = some (.tup (T i)) → k2 (.ref q) H4) → te ((wipe σ [j]).set j (some x)) H k2)
    (fin : ∀ D H (qs : List Addr), H0 D = none → Kept H0 H → H D = some (.lst (qs.map V.ref)) → qs.length = xs.length → (∀ i q, qs[i]? = some q → H q = some (.tup (T i))) → Q (.ref D) H) : LcL K (gName j) tYes te [j] σ Q (.ref a) H0 := by
  refine ⟨a, rfl, ⟨_, SqL.of ha⟩, LcJ.tups (xv := fun i => xs.getD i .non) T hn (fun i H h kp => ⟨xs, xs[i], SqL.of (kp.lst ha), List.getElem?_eq_getElem h⟩) (fun i H x H' h kp q => ?_) (fun H kp => ⟨xs, SqL.of (kp.lst ha), Nat.le_refl _⟩) (fun i H k2 h kp => step i _ H k2 (by rw [List.getD_eq_getElem?_getD, List.getElem?_eq_getElem h] <;> rfl) kp) fin⟩
  obtain ⟨e, q⟩ := q
  subst e
  refine ⟨rfl, ?_⟩
  rw [List.getD_eq_getElem?_getD, q xs (SqL.of (kp.lst ha))] <;> rfl
theorem LcT.tups {a : Addr} {xs : List V} {j : Nat} {H0 : Hp} {Q : VK} (T : Nat → List V) (hn : xs.length ≤ sizeLine) (ha : H0 a = some (.tup xs))
    (step : ∀ i x H (k2 : VK), xs[i]? = some x → Kept H0 H → (∀ H4 q, Kept H H4 → H4 q = some (.tup (T i)) → k2 (.ref q) H4) → te ((wipe σ [j]).set j (some x)) H k2)
    (fin : ∀ D H (qs : List Addr), H0 D = none → Kept H0 H → H D = some (.lst (qs.map V.ref)) → qs.length = xs.length → (∀ i q, qs[i]? = some q → H q = some (.tup (T i))) → Q (.ref D) H) : LcT K (gName j) tYes te [j] σ Q (.ref a) H0 := by
  refine ⟨a, rfl, ⟨_, SqT.of ha⟩, LcJ.tups (xv := fun i => xs.getD i .non) T hn (fun i H h kp => ⟨xs, xs[i], SqT.of (kp.tup ha), List.getElem?_eq_getElem h⟩) (fun i H x H' h kp q => ?_) (fun H kp => ⟨xs, SqT.of (kp.tup ha), Nat.le_refl _⟩) (fun i H k2 h kp => step i _ H k2 (by rw [List.getD_eq_getElem?_getD, List.getElem?_eq_getElem h] <;> rfl) kp) fin⟩
  obtain ⟨e, q⟩ := q
  subst e
  refine ⟨rfl, ?_⟩
  rw [List.getD_eq_getElem?_getD, q xs (SqT.of (kp.tup ha))] <;> rfl
end
theorem pg_tupK {X : Cx} {K : PySem.W.Frag} {pos : Pos} (hK : X.K = K) {es : List Expr} {k : Nat} {t : TGs} {n : Nat} (hc : X.calm = true) (h : PGs X es t)
    (hn : (assignEach es X.env).length = n := by rfl) (hst : (assignEach es X.env).findIdx? (·.1) = none := by rfl) : PG X (.Tuple es k pos) (gTup K n t) := by
  subst hK
  exact pg_tup hc h hn hst
end Ky

namespace Ky
open PySem PySem.Spec PyProof.Rows L2
/-! ### steps for the law's walk -/
theorem c_rangeU {lo : Int} {n : Nat} {Body : V → Hp → (Hp → Prop) → Prop} {Qd : Hp → Prop} {H0 : Hp} (Pv : Nat → Hp → Prop) (h0 : Pv 0 H0) (step : ∀ i H, i < n → Pv i H → Body (.int (lo + i)) H (Pv (i + 1))) (fin : ∀ H, Pv n H → Qd H) :
    ∃ W : Nat → Nat → Hp → Prop, (∃ m, W 0 m H0) ∧ ∀ i m H, W i m H → ((Itr lo n).stop i H ∧ Qd H) ∨ ((Itr lo n).go i H ∧ ∃ Nx : Hp → Prop, (∀ H', Nx H' → ∃ m', m' < m ∧ W (i + 1) m' H') ∧ ∀ x H', (Itr lo n).yld i H x H' → Body x H' Nx) :=
  c_walk (xv := fun i => .int (lo + i)) Pv h0 (fun i H h _ => h) (fun i H x H' _ _ h => h) (fun H _ => Nat.le_refl n) step fin
theorem cut_to (xs : List V) (j : Nat) (h : j ≤ xs.length) : cutV xs none (some (j : Int)) = xs.take j := by
  unfold cutV
  rw [HT.sIx_none, HT.sIx_nat, Nat.min_eq_left h, Nat.sub_zero]
  rfl
theorem cut_of (xs : List V) (j : Nat) (h : j ≤ xs.length) : cutV xs (some (j : Int)) none = xs.drop j := by
  unfold cutV
  rw [HT.sIx_none, HT.sIx_nat, Nat.min_eq_left h]
  exact List.take_of_length_le (by rw [List.length_drop]; exact Nat.le_refl _)
theorem any_ints (n : Int) (ls : List Int) : ((ls.map PyData.int).any fun z => PyData.eqv z (.int n)) = decide (n ∈ ls) := by
  rw [List.any_map, Bool.eq_iff_iff, List.any_eq_true, decide_eq_true_eq]
  constructor
  · rintro ⟨y, hy, e⟩
    have e : PyData.eqv (.int y) (.int n) = true := e
    have e : y = n := by simpa [PyData.eqv] using e
    rw [← e]
    exact hy
  · intro h
    refine ⟨n, h, ?_⟩
    show PyData.eqv (.int n) (.int n) = true
    simp [PyData.eqv]
section
variable {K : PySem.W.Frag} {H : Hp} {Q : VK} {D s a b : Addr} {n : Int} {xs ys : List Int}
theorem dl_ints (h : H b = some (.lst (xs.map V.int))) : Dp K H (.ref b) (.list (xs.map PyData.int)) := .lst (SqL.of h) (dpAll_ints xs)
theorem sh_int (n : Int) : SeqAt.shaped (.int n) = true := by
  unfold SeqAt.shaped
  simp only [PyData.canLay0, PyData.depth, Bool.true_and]
  rfl
theorem sh_none : SeqAt.shaped .none = true := by
  unfold SeqAt.shaped
  simp only [PyData.canLay0, PyData.depth, Bool.true_and]
  rfl
theorem w_ninLI (hD : H D = some (.lst (xs.map V.int))) (q : Q (.bl (decide (n ∉ xs))) H) : rNotInD K (.int n) (.ref D) H Q :=
  ⟨_, _, .int n, dl_ints hD, sh_int n, shLi xs, by rw [any_ints]; rw [decide_not] at q; exact q⟩
theorem w_neLL (ha : H a = some (.lst (xs.map V.int))) (hb : H b = some (.lst (ys.map V.int))) (q : Q (.bl (!decide (xs = ys))) H) : rNeD K (.ref a) (.ref b) H Q := by
  refine ⟨_, _, dl_ints ha, dl_ints hb, shLi xs, shLi ys, ?_⟩
  have e : PyData.eqv (.list (xs.map PyData.int)) (.list (ys.map PyData.int)) = decide (xs = ys) := by
    simp only [PyData.eqv]
    exact eqvAll_ints xs ys
  rw [e]
  exact q
theorem w_neTT (ha : H a = some (.tup (xs.map V.int))) (hb : H b = some (.tup (ys.map V.int))) (q : Q (.bl (!decide (xs = ys))) H) : rNeD K (.ref a) (.ref b) H Q :=
  ⟨_, _, dp_ints ha, dp_ints hb, shT_ints xs, shT_ints ys, by rw [eqv_ints]; exact q⟩
theorem w_neNN (q : Q (.bl false) H) : rNeD K .non .non H Q := ⟨_, _, .non, .non, sh_none, sh_none, by rw [show PyData.eqv .none .none = true by simp [PyData.eqv]]; exact q⟩
/-- keys, in a tuple of pairs -/
def KeysAt (H : Hp) (ps : List Addr) (ls : List Int) : Prop := ps.length = ls.length ∧ ∀ (i : Nat) (q : Addr) (n : Int), ps[i]? = some q → ls[i]? = some n → H q = some (.tup (keyV n))
theorem dp_keys {ps : List Addr} (hp : KeysAt H ps xs) (h : H a = some (.tup (ps.map V.ref))) : Dp K H (.ref a) (ckD xs) := by
  refine .tup (SqT.of h) (dpAll_of (by rw [List.length_map, List.length_map, hp.1]) fun i x d hx hd => ?_)
  rw [List.getElem?_map] at hx hd
  obtain ⟨q, hq, rfl⟩ := Option.map_eq_some_iff.mp hx
  obtain ⟨n, hn, rfl⟩ := Option.map_eq_some_iff.mp hd
  exact dp_key (hp.2 i q n hq hn)
end
theorem canLay_keys : ∀ ls : List Int, PyData.canLayAll0 (ls.map keyD) = true
  | [] => by simp [PyData.canLayAll0]
  | x :: xs => by
    rw [List.map_cons, PyData.canLayAll0, canLay_keys xs]
    simp [keyD, PyData.canLay0, PyData.canLayAll0]
theorem depth_keys : ∀ ls : List Int, PyData.depthAll (ls.map keyD) ≤ 2
  | [] => by simp [PyData.depthAll]
  | x :: xs => by
    rw [List.map_cons, PyData.depthAll]
    have h1 := depth_keys xs
    have h2 : (keyD x).depth ≤ 2 := by
      simp [keyD, PyData.depth, PyData.depthAll]
    omega
theorem sh_keys (ls : List Int) : SeqAt.shaped (ckD ls) = true := by
  have h1 := depth_keys ls
  have h2 : PyData.depth (ckD ls) ≤ 64 := by
    simp only [ckD, PyData.depth]
    omega
  show (PyData.canLay0 (ckD ls) && decide (PyData.depth (ckD ls) ≤ 64)) = true
  rw [Bool.and_eq_true]
  exact ⟨by simp only [ckD, PyData.canLay0]; exact canLay_keys ls, decide_eq_true h2⟩
theorem shT_rows (ds : List (List Int)) : SeqAt.shaped (.tuple (ds.map rowD)) = true := by
  have h1 := depth_rows ds
  have h2 : PyData.depth (.tuple (ds.map rowD)) ≤ 64 := by
    simp only [PyData.depth]
    omega
  show (PyData.canLay0 (.tuple (ds.map rowD)) && decide (PyData.depth (.tuple (ds.map rowD)) ≤ 64)) = true
  rw [Bool.and_eq_true]
  exact ⟨by simp only [PyData.canLay0]; exact canLay_rows ds, decide_eq_true h2⟩
theorem eqvAll_rows : ∀ xs ys : List (List Int), PyData.eqvAll (xs.map rowD) (ys.map rowD) = decide (xs = ys)
  | [], [] => by simp [PyData.eqvAll]
  | [], y :: ys => by simp [PyData.eqvAll]
  | x :: xs, [] => by simp [PyData.eqvAll]
  | x :: xs, y :: ys => by
    rw [List.map_cons, List.map_cons, PyData.eqvAll, eqvAll_rows xs ys]
    have e : PyData.eqv (rowD x) (rowD y) = decide (x = y) := eqv_ints x y
    rw [e]
    by_cases h : x = y <;> by_cases h2 : xs = ys <;> simp [h, h2]
section
variable {K : PySem.W.Frag} {H : Hp} {Q : VK} {a b : Addr} {n : Int} {xs ys : List Int} {cs ds : List (List Int)} {ps qs : List Addr}
theorem w_neKK {xs ys : List Int} (h1 : KeysAt H ps xs) (ha : H a = some (.tup (ps.map V.ref))) (h2 : KeysAt H qs ys) (hb : H b = some (.tup (qs.map V.ref))) (q : Q (.bl (!decide (xs = ys))) H) : rNeD K (.ref a) (.ref b) H Q := by
  refine ⟨_, _, dp_keys h1 ha, dp_keys h2 hb, sh_keys xs, sh_keys ys, ?_⟩
  have e : PyData.eqv (ckD xs) (ckD ys) = decide (xs = ys) := by
    simp only [ckD, PyData.eqv]
    exact key_eqv xs ys
  rw [e]
  exact q
theorem w_neK {n m : Int} (ha : H a = some (.tup (keyV n))) (hb : H b = some (.tup (keyV m))) (q : Q (.bl (!decide (n = m))) H) : rNeD K (.ref a) (.ref b) H Q := by
  refine ⟨_, _, dp_key ha, dp_key hb, ?_, ?_, ?_⟩
  · exact shT_ints [absI n, sgI n]
  · exact shT_ints [absI m, sgI m]
  · have e := key_eqv [n] [m]
    simp only [List.map_cons, List.map_nil, PyData.eqvAll, Bool.and_true, List.cons.injEq, and_true] at e
    rw [e]
    exact q
theorem dp_rows (h1 : ClsAt H ps cs) (ha : H a = some (.tup (ps.map V.ref))) : Dp K H (.ref a) (.tuple (cs.map rowD)) := by
  refine .tup (SqT.of ha) (dpAll_of (by rw [List.length_map, List.length_map, h1.1]) fun i x d hx hd => ?_)
  rw [List.getElem?_map] at hx hd
  obtain ⟨b, hb, rfl⟩ := Option.map_eq_some_iff.mp hx
  obtain ⟨c, hc, rfl⟩ := Option.map_eq_some_iff.mp hd
  exact dp_ints (h1.2 i b c hb hc)
theorem w_neCC (h1 : ClsAt H ps cs) (ha : H a = some (.tup (ps.map V.ref))) (h2 : ClsAt H qs ds) (hb : H b = some (.tup (qs.map V.ref))) (q : Q (.bl (!decide (cs = ds))) H) : rNeD K (.ref a) (.ref b) H Q := by
  refine ⟨_, _, dp_rows h1 ha, dp_rows h2 hb, shT_rows cs, shT_rows ds, ?_⟩
  have e : PyData.eqv (.tuple (cs.map rowD)) (.tuple (ds.map rowD)) = decide (cs = ds) := by
    simp only [PyData.eqv]
    exact eqvAll_rows cs ds
  rw [e]
  exact q
end
theorem filt_one {α : Type} (p : α → Bool) (xs : List α) (j : Nat) (x : α) (hx : xs[j]? = some x) : (xs.take (j + 1)).filter p = (xs.take j).filter p ++ if p x = true then [x] else [] := by
  rw [List.take_add_one, hx, List.filter_append]
  by_cases h : p x = true
  · rw [if_pos h]
    show _ ++ List.filter p [x] = _
    rw [List.filter_cons_of_pos h] <;> rfl
  · rw [if_neg h]
    show _ ++ List.filter p [x] = _
    rw [List.filter_cons_of_neg h] <;> rfl
theorem bothS_filter (ls : List Int) : (!decide (ls.filter (fun x => decide (-x ∈ ls)) = [])) = bothS ls := by
  unfold bothS
  rw [List.length_map, range_any 0 (fun x => decide (-x ∈ ls)) ls]
  cases e : ls.any fun x => decide (-x ∈ ls) with
  | true =>
    obtain ⟨x, h1, h2⟩ := List.any_eq_true.mp e
    have hne : ls.filter (fun x => decide (-x ∈ ls)) ≠ [] := List.ne_nil_of_mem (List.mem_filter.mpr ⟨h1, h2⟩)
    rw [decide_eq_false hne] <;> rfl
  | false =>
    have hn : ls.filter (fun x => decide (-x ∈ ls)) = [] := List.filter_eq_nil_iff.mpr fun x hx hy => by
      rw [List.any_eq_false] at e
      exact e x hx hy
    rw [decide_eq_true hn] <;> rfl
theorem dd_len_le (ls : List Int) : (dd ls).length ≤ ls.length := len_dd ls
section
variable {K : PySem.W.Frag} {H : Hp} {Q : VK} {D s a b : Addr} {n : Int} {xs ys : List Int} {cs ds : List (List Int)} {ps qs : List Addr}
theorem w_inL (h : H b = some (.lst (xs.map V.int))) (q : Q (.bl (decide (n ∈ xs))) H) : rIn K false (.int n) (.ref b) H Q := ⟨b, _, rfl, .inl (SqL.of h), rfl, flat_ints xs, by rw [inV_ints, if_neg Bool.false_ne_true]; exact q⟩
theorem w_ninLn (h : H b = some (.lst (xs.map V.int))) (q : Q (.bl (decide (n ∉ xs))) H) : rIn K true (.int n) (.ref b) H Q := ⟨b, _, rfl, .inl (SqL.of h), rfl, flat_ints xs, by rw [inV_ints, if_pos rfl]; rw [decide_not] at q; exact q⟩
theorem w_sLL (ha : H a = some (.lst (xs.map V.int))) (hb : H b = some (.lst (xs.map V.int))) (q : Q (.bl false) H) : rNeD K (.ref a) (.ref b) H Q := w_neLL ha hb (by rw [decide_eq_true rfl]; exact q)
theorem w_sTT (ha : H a = some (.tup (xs.map V.int))) (hb : H b = some (.tup (xs.map V.int))) (q : Q (.bl false) H) : rNeD K (.ref a) (.ref b) H Q := w_neTT ha hb (by rw [decide_eq_true rfl]; exact q)
theorem w_sKK (h1 : KeysAt H ps xs) (ha : H a = some (.tup (ps.map V.ref))) (h2 : KeysAt H qs xs) (hb : H b = some (.tup (qs.map V.ref))) (q : Q (.bl false) H) : rNeD K (.ref a) (.ref b) H Q := w_neKK h1 ha h2 hb (by rw [decide_eq_true rfl]; exact q)
theorem w_sK (ha : H a = some (.tup (keyV n))) (hb : H b = some (.tup (keyV n))) (q : Q (.bl false) H) : rNeD K (.ref a) (.ref b) H Q := w_neK ha hb (by rw [decide_eq_true rfl]; exact q)
theorem w_sCC (h1 : ClsAt H ps cs) (ha : H a = some (.tup (ps.map V.ref))) (h2 : ClsAt H qs cs) (hb : H b = some (.tup (qs.map V.ref))) (q : Q (.bl false) H) : rNeD K (.ref a) (.ref b) H Q := w_neCC h1 ha h2 hb (by rw [decide_eq_true rfl]; exact q)
end
theorem ClsAt.keptC {d c : Addr} {H H' : Hp} {bs : List Addr} {cs : List (List Int)} (h : ClsAt H bs cs) (k : KeptC d c H H') (hd : DrwC d c H) : ClsAt H' bs cs := ⟨h.1, fun i b x h1 h2 => k.tup hd (h.2 i b x h1 h2)⟩
theorem clsAt_snoc {H : Hp} {bs : List Addr} {cs : List (List Int)} {b : Addr} {x : List Int} (h : ClsAt H bs cs) (hb : H b = some (.tup (x.map V.int))) : ClsAt H (bs ++ [b]) (cs ++ [x]) := by
  refine ⟨by rw [List.length_append, List.length_append, h.1] <;> rfl, fun j q d hq hd => ?_⟩
  by_cases hj : j < bs.length
  · rw [List.getElem?_append_left hj] at hq
    rw [List.getElem?_append_left (by rw [← h.1]; exact hj)] at hd
    exact h.2 j q d hq hd
  · rw [List.getElem?_append_right (by omega)] at hq
    rw [List.getElem?_append_right (by rw [← h.1]; omega)] at hd
    rw [← h.1] at hd
    cases z : j - bs.length with
    | zero =>
      rw [z] at hq hd
      cases hq
      cases hd
      exact hb
    | succ m =>
      rw [z] at hq
      simp at hq
theorem clsAt_pick {H : Hp} {bs : List Addr} {cs : List (List Int)} (h : ClsAt H bs cs) {L : List Nat} (hL : ∀ i ∈ L, i < cs.length) : ClsAt H (L.map fun i => bs.getD i 0) (L.map fun i => cs.getD i []) := by
  refine ⟨by rw [List.length_map, List.length_map], fun j q d hq hd => ?_⟩
  rw [List.getElem?_map] at hq hd
  obtain ⟨i, hi, rfl⟩ := Option.map_eq_some_iff.mp hq
  rw [hi] at hd
  cases hd
  have hlt := hL i (List.mem_of_getElem? hi)
  refine h.2 i _ _ (?_ : bs[i]? = some (bs.getD i 0)) (?_ : cs[i]? = some (cs.getD i []))
  · rw [List.getD_eq_getElem?_getD, List.getElem?_eq_getElem (by rw [h.1]; exact hlt)] <;> rfl
  · rw [List.getD_eq_getElem?_getD, List.getElem?_eq_getElem hlt] <;> rfl
/-- the places that are first -/
def onceIx {α : Type} [DecidableEq α] (d : α) (xs : List α) : List Nat := (List.range xs.length).filter fun i => decide (xs.getD i d ∉ xs.take i)
theorem once_all {α : Type} [DecidableEq α] (d : α) (xs : List α) : ((onceIx d xs).map fun i => xs.getD i d).Nodup ∧ ∀ x, x ∈ ((onceIx d xs).map fun i => xs.getD i d) ↔ x ∈ xs := by
  have h : ∀ m, m ≤ xs.length → ((((List.range m).filter fun i => decide (xs.getD i d ∉ xs.take i))).map fun i => xs.getD i d).Nodup ∧ ∀ x, x ∈ ((((List.range m).filter fun i => decide (xs.getD i d ∉ xs.take i))).map fun i => xs.getD i d) ↔ x ∈ xs.take m := by
    intro m
    induction m with
    | zero => intro _; exact ⟨List.nodup_nil, fun x => by simp⟩
    | succ m ih =>
      intro hm
      obtain ⟨i1, i2⟩ := ih (by omega)
      have hx : xs[m]? = some xs[m] := List.getElem?_eq_getElem hm
      have e : xs.getD m d = xs[m] := by rw [List.getD_eq_getElem?_getD, hx] <;> rfl
      obtain ⟨s1, s2⟩ := once_step hx i1 i2
      rw [List.range_succ, List.filter_append, List.map_append]
      by_cases hp : xs[m] ∉ xs.take m
      · rw [List.filter_cons_of_pos (by rw [e]; exact decide_eq_true hp), List.filter_nil, List.map_cons, List.map_nil, e]
        exact s1 hp
      · rw [List.filter_cons_of_neg (by rw [e, decide_eq_false hp]; exact Bool.false_ne_true), List.filter_nil, List.map_nil, List.append_nil]
        exact ⟨i1, s2 (Classical.not_not.mp hp)⟩
  obtain ⟨h1, h2⟩ := h _ (Nat.le_refl _)
  rw [List.take_length] at h2
  exact ⟨h1, h2⟩
theorem onceIx_len {α : Type} [DecidableEq α] (d : α) (xs : List α) : (onceIx d xs).length ≤ xs.length := by
  have h := List.length_filter_le (fun i => decide (xs.getD i d ∉ xs.take i)) (List.range xs.length)
  rw [List.length_range] at h
  exact h
theorem onceIx_lt {α : Type} [DecidableEq α] (d : α) (xs : List α) : ∀ i ∈ onceIx d xs, i < xs.length := fun i hi => List.mem_range.mp (List.mem_filter.mp hi).1
/-- a clause that the law makes -/
def GoodC (x : List Int) : Prop := ∃ ls : List Int, ls.Nodup ∧ noBoth ls ∧ (∀ n ∈ ls, isLit n = true) ∧ ls.length ≤ 4 ∧ x = srtBy keyD ls
theorem GoodC.clause {x : List Int} (h : GoodC x) : isClauseF x = true := by
  obtain ⟨ls, h1, h2, h3, _, rfl⟩ := h
  exact isClauseF_srt h1 h2 h3
theorem GoodC.len {x : List Int} (h : GoodC x) : x.length ≤ 4 := by
  obtain ⟨ls, _, _, _, h4, rfl⟩ := h
  rw [(srtBy_perm keyD ls).length_eq]
  exact h4
theorem GoodC.nob {x : List Int} (h : GoodC x) : noBoth x := by
  obtain ⟨ls, _, h2, _, _, rfl⟩ := h
  exact noBoth_srt h2
theorem GoodC.asc {x : List Int} (h : GoodC x) : x.Pairwise fun a b => absI a < absI b := by
  obtain ⟨ls, h1, h2, _, _, rfl⟩ := h
  exact clause_asc h1 h2
theorem GoodC.lit {x : List Int} (h : GoodC x) : ∀ n ∈ x, isLit n = true := by
  obtain ⟨ls, _, _, h3, _, rfl⟩ := h
  exact fun n hn => h3 n (mem_srtBy.mp hn)
theorem GoodC.back {x : List Int} (h : GoodC x) : isClauseF x.reverse = decide (x.length < 2) := by
  by_cases hl : x.length < 2
  · rw [decide_eq_true hl]
    have e : x.reverse = x := by
      match x, hl with
      | [], _ => rfl
      | [a], _ => rfl
      | a :: b :: t, hl => exact absurd hl (by simp only [List.length_cons]; omega)
    rw [e]
    exact h.clause
  · rw [decide_eq_false hl]
    exact isClauseF_rev h.asc (by omega)
theorem back_range (x : List Int) : (List.range x.length).map (fun i => x.getD (x.length - 1 - i) 0) = x.reverse := by
  refine List.ext_getElem (by simp) fun i h1 h2 => ?_
  rw [List.getElem_map, List.getElem_range, List.getElem_reverse]
  have h3 : i < x.length := by simpa using h2
  rw [List.getD_eq_getElem?_getD, List.getElem?_eq_getElem (by omega)] <;> rfl
theorem lit_small {n : Int} (h : isLit n = true) : n.natAbs < 2 ^ 60 := by
  unfold isLit isVar absI at h
  rw [Bool.and_eq_true, decide_eq_true_eq, decide_eq_true_eq] at h
  split at h <;> omega
theorem srt_ints {ns : List Int} (h : ns.Nodup) : (srtBy PyData.int ns).Pairwise (· < ·) := by
  have h1 := srtBy_pair PyData.int ns
  have h2 : (srtBy PyData.int ns).Nodup := (srtBy_perm PyData.int ns).nodup_iff.mpr h
  refine List.pairwise_iff_getElem.mpr fun i j hi hj hij => ?_
  have a := List.pairwise_iff_getElem.mp h1 i j hi hj hij
  have b := List.pairwise_iff_getElem.mp h2 i j hi hj hij
  have a : (!PySem.W.dataLt (.int (srtBy PyData.int ns)[j]) (.int (srtBy PyData.int ns)[i])) = true := a
  rw [PySem.W.dataLt_int] at a
  have a : ¬ (srtBy PyData.int ns)[j] < (srtBy PyData.int ns)[i] := by simpa using a
  omega
theorem clsAt_zipOf {H : Hp} {bs : List Addr} {cs : List (List Int)} (zs : List (Addr × List Int)) (hb : zs.map (·.1) = bs) (hc : zs.map (·.2) = cs) (h : ∀ p ∈ zs, H p.1 = some (.tup (p.2.map V.int))) : ClsAt H bs cs := by
  subst hb hc
  exact clsAt_of h
theorem ClsAt.fst {H : Hp} {bs : List Addr} {cs : List (List Int)} (h : ClsAt H bs cs) : (bs.zip cs).map (·.1) = bs := List.map_fst_zip (by rw [h.1]; exact Nat.le_refl _)
theorem ClsAt.snd {H : Hp} {bs : List Addr} {cs : List (List Int)} (h : ClsAt H bs cs) : (bs.zip cs).map (·.2) = cs := List.map_snd_zip (by rw [h.1]; exact Nat.le_refl _)
theorem ClsAt.take {H : Hp} {bs : List Addr} {cs : List (List Int)} (h : ClsAt H bs cs) (n : Nat) : ClsAt H (bs.take n) (cs.take n) :=
  clsAt_zipOf ((bs.zip cs).take n) (by rw [List.map_take, h.fst]) (by rw [List.map_take, h.snd]) fun p hp => clsAt_zip h p (List.mem_of_mem_take hp)
theorem ClsAt.drop {H : Hp} {bs : List Addr} {cs : List (List Int)} (h : ClsAt H bs cs) (n : Nat) : ClsAt H (bs.drop n) (cs.drop n) :=
  clsAt_zipOf ((bs.zip cs).drop n) (by rw [List.map_drop, h.fst]) (by rw [List.map_drop, h.snd]) fun p hp => clsAt_zip h p (List.mem_of_mem_drop hp)
theorem ClsAt.app {H : Hp} {bs bs2 : List Addr} {cs cs2 : List (List Int)} (h : ClsAt H bs cs) (h2 : ClsAt H bs2 cs2) : ClsAt H (bs ++ bs2) (cs ++ cs2) :=
  clsAt_zipOf (bs.zip cs ++ bs2.zip cs2) (by rw [List.map_append, h.fst, h2.fst]) (by rw [List.map_append, h.snd, h2.snd]) fun p hp => (List.mem_append.mp hp).elim (clsAt_zip h p) (clsAt_zip h2 p)
theorem flat_len : ∀ {cs : List (List Int)} {n : Nat}, (∀ c ∈ cs, c.length ≤ n) → cs.flatten.length ≤ n * cs.length
  | [], n, _ => by simp
  | c :: cs, n, h => by
    rw [List.flatten_cons, List.length_append, List.length_cons, Nat.mul_succ]
    have h1 := h c List.mem_cons_self
    have h2 := flat_len (cs := cs) fun d hd => h d (List.mem_cons_of_mem _ hd)
    omega
theorem absAll_app (cs ds : List (List Int)) : absAll (cs ++ ds) = absAll cs ++ absAll ds := by
  unfold absAll
  rw [List.flatten_append, List.map_append]
theorem absAll_one (c : List Int) : absAll [c] = c.map absI := by
  unfold absAll
  simp
theorem onceC_eq (cs : List (List Int)) : (List.range cs.length).filter (fun j => decide (cs.getD j [] ∉ cs.take j)) = onceIx [] cs := by
  unfold onceIx
  congr 1
  funext j
  exact decide_eq_decide.mpr Iff.rfl
theorem allAlike_ints (ns : List Int) : PySem.W.AllAlike (ns.map PyData.int) := by
  intro d hd d' hd'
  obtain ⟨a, _, rfl⟩ := List.mem_map.mp hd
  obtain ⟨b, _, rfl⟩ := List.mem_map.mp hd'
  simp [PySem.W.alike]
theorem srt_intsS (ns : List Int) : Srt (ns.map PyData.int) := .inr fun d hd => by
  obtain ⟨a, _, rfl⟩ := List.mem_map.mp hd
  exact ⟨by simp, by simp⟩
theorem depth_intsS (ns : List Int) : ∀ d ∈ ns.map PyData.int, d.depth ≤ 60 := fun d hd => by
  obtain ⟨a, _, rfl⟩ := List.mem_map.mp hd
  simp [PyData.depth]
theorem absAll_small {cs : List (List Int)} (h : ∀ c ∈ cs, ∀ n ∈ c, isLit n = true) : ∀ k ∈ absAll cs, k.natAbs < 2 ^ 60 := fun k hk => by
  unfold absAll at hk
  obtain ⟨n, hn, rfl⟩ := List.mem_map.mp hk
  obtain ⟨c, hc, hn⟩ := List.mem_flatten.mp hn
  have := lit_small (h c hc n hn)
  unfold absI
  split <;> omega
end Ky

namespace Ky
open PySem PySem.Spec PyProof.Rows L2 TL PySem.Builtin.Str
/-! ### numbers as texts -/
def numS (i : Int) : Str := toString i
def numI (i : Int) : List Nat := if i < 0 then 45 :: numL i.natAbs else numL i.natAbs
theorem tl_numS (i : Int) : tl (numS i) = numI i := by
  cases i with
  | ofNat n =>
    unfold numI
    rw [if_neg (show ¬ (Int.ofNat n < 0) from by have := Int.natCast_nonneg n; exact Int.not_lt.mpr this)]
    exact tl_num n
  | negSucc n =>
    unfold numI
    rw [if_pos (Int.negSucc_lt_zero n)]
    show tl (Str.ofString (toString (Int.negSucc n))) = 45 :: numL (n + 1)
    rw [tl_ofString]
    have e : (toString (Int.negSucc n)).toList = '-' :: (toString ((n + 1 : Nat) : Int)).toList := by
      show ("-" ++ toString (n + 1)).toList = _
      rw [String.toList_append]
      rfl
    rw [e, List.map_cons]
    have h := tl_num (n + 1)
    rw [tl_ofString] at h
    rw [h]
    rfl
theorem tl_nat (n : Nat) : tl (numS (n : Int)) = numL n := tl_num n
theorem numL_head {n : Nat} (h : 0 < n) : ∃ c r, numL n = c :: r ∧ 49 ≤ c ∧ c ≤ 57 := by
  induction n using Nat.strongRecOn with
  | _ n ih =>
    by_cases hn : n < 10
    · exact ⟨48 + n, [], numL_lt hn, by omega, by omega⟩
    · obtain ⟨c, r, e, h1, h2⟩ := ih (n / 10) (by omega) (by omega)
      exact ⟨c, r ++ [48 + n % 10], by rw [numL_step (by omega), e]; rfl, h1, h2⟩
theorem numL_zero : numL 0 = [48] := numL_lt (by decide)
theorem numI_ne (i : Int) : numI i ≠ [] := by
  unfold numI
  split
  · intro h
    cases h
  · exact numL_ne _
theorem numI_free {i : Int} {s : Nat} (h : s < 48 ∨ 57 < s) (h2 : s ≠ 45) : s ∉ numI i := by
  unfold numI
  split
  · intro hm
    rcases List.mem_cons.mp hm with z | z
    · exact h2 z
    · exact numL_free h z
  · exact numL_free h
/-! ### methods of texts, on their signs -/
theorem tl_one {s : String} {c : Nat} (h : s.toList.map Char.toNat = [c]) : tl (Str.ofString s) = [c] := by
  rw [tl_ofString, h]
theorem subAt0 (x y : Str) : subAt x y 0 = ((tl x).take (tl y).length == tl y) := by
  rw [StrLaws.subAt_eq]
  rfl
theorem startswith_one {x y : Str} {c : Nat} (hy : tl y = [c]) : Txt.startswith x y = decide ((tl x).head? = some c) := by
  unfold Txt.startswith
  rw [subAt0, hy, len_tl x, len_tl y, hy]
  cases tl x with
  | nil => rfl
  | cons a r =>
    show (decide (0 + 1 ≤ (a :: r).length) && ([a] == [c])) = decide (some a = some c)
    rw [List.length_cons, decide_eq_true (by omega), Bool.true_and]
    by_cases h : a = c
    · subst h; simp
    · simp [h]
theorem removeprefix_one {x y : Str} {c : Nat} (hy : tl y = [c]) : tl (Txt.removeprefix x y) = (match tl x with | a :: r => if a = c then r else a :: r | [] => []) := by
  unfold Txt.removeprefix
  rw [subAt0, hy]
  cases h : tl x with
  | nil =>
    show tl (Txt.affix x none) = []
    exact h
  | cons a r =>
    by_cases e : a = c
    · subst e
      have e1 : ((a :: r).take ([a] : List Nat).length == [a]) = true := by simp
      rw [if_pos e1]
      show _ = (if a = a then r else a :: r)
      rw [if_pos rfl]
      unfold Txt.affix
      have hx : x.length = r.length + 1 := by rw [len_tl, h]; rfl
      have hy1 : y.length = 1 := by rw [len_tl, hy]; rfl
      show tl (if (x.length - y.length == x.length) = true then x else strSub x y.length x.length) = r
      rw [if_neg (by rw [hx, hy1, beq_iff_eq]; omega), hy1, tl_strSub_end, h]
      rfl
    · have e1 : ((a :: r).take ([c] : List Nat).length == [c]) = false := by simp [e]
      rw [if_neg (by rw [e1]; decide)]
      show _ = (if a = c then r else a :: r)
      rw [if_neg e]
      exact h
theorem zfill_plain {x : Str} {i : Int} (h : ∀ c, (tl x).head? = some c → c ≠ 43 ∧ c ≠ 45) : tl (Txt.zfill x i) = List.replicate (i.toNat - (tl x).length) 48 ++ tl x := by
  unfold Txt.zfill
  by_cases hi : i ≤ x.length
  · rw [if_pos hi]
    have : i.toNat - (tl x).length = 0 := by
      rw [len_tl] at hi
      omega
    rw [this]
    rfl
  · rw [if_neg hi]
    have e : zfilled x (i.toNat - x.length) = padded x (i.toNat - x.length) 0 48 := by
      unfold zfilled
      have hh : x.cps[0]? = (tl x).head? := by
        rw [← Array.getElem?_toList, List.head?_eq_getElem?]
      rw [hh]
      cases q : (tl x).head? with
      | none => rfl
      | some c =>
        obtain ⟨h1, h2⟩ := h c q
        split
        · rename_i z
          exact absurd (Option.some.inj z) h1
        · rename_i z
          exact absurd (Option.some.inj z) h2
        · rfl
    rw [e]
    unfold padded
    show (Array.replicate (i.toNat - x.length) 48 ++ x.cps ++ Array.replicate 0 48).toList = _
    simp [len_tl]
theorem tl_cut (z : Str) (lo hi : Option Int) : tl (cutS z lo hi) = ((tl z).drop (HT.sIx (tl z).length 0 lo)).take (HT.sIx (tl z).length (tl z).length hi - HT.sIx (tl z).length 0 lo) := by
  unfold cutS
  rw [tl_mk, len_tl]
/-! ### fractions as texts -/
def shL (a : Int × Int) : List Nat := if a.2 = 1 then numI a.1 else numI a.1 ++ 47 :: numI a.2
def slash : Str := Str.ofString "/"
theorem tl_slash : tl slash = [47] := by
  unfold slash
  rw [tl_ofString]
  rfl
def shF (a : Int × Int) : Str := if a.2 = 1 then numS a.1 else numS a.1 ++ slash ++ numS a.2
theorem tl_shF (a : Int × Int) : tl (shF a) = shL a := by
  unfold shF shL
  split
  · exact tl_numS _
  · rw [tl_append, tl_append, tl_numS, tl_numS, tl_slash, List.append_assoc]
    rfl
theorem join_one (e x : Str) : Txt.join e [x] = x := by
  rw [join_eq]
  apply ext_tl
  rw [tl_join]
  rfl
theorem join_two (e x y : Str) (he : tl e = []) : Txt.join e [x, y] = x ++ y := by
  rw [join_eq]
  apply ext_tl
  rw [tl_join, he, tl_append]
  rfl
theorem numI_len {i : Int} {k : Nat} (hk : 0 < k) (h : i.natAbs < 10 ^ k) : (numI i).length ≤ k + 1 := by
  have := numL_len hk h
  unfold numI
  split
  · rw [List.length_cons]
    omega
  · omega
/-! ### a text read as a number, as a fraction -/
def dig (c : Nat) : Bool := decide (48 ≤ c) && decide (c ≤ 57)
def rdN (l : List Nat) : Option Nat := if l = [] then none else if l.head? = some 48 ∧ l ≠ [48] then none else if l.all dig = true then some (NumText.digitsVal l) else none
theorem all_dig {l : List Nat} (h : NumText.AllDigits l) : l.all dig = true := List.all_eq_true.mpr fun c hc => by
  have := h c hc
  unfold dig
  rw [decide_eq_true this.1, decide_eq_true this.2]
  rfl
theorem dig_all {l : List Nat} (h : l.all dig = true) : NumText.AllDigits l := fun c hc => by
  have := List.all_eq_true.mp h c hc
  unfold dig at this
  rw [Bool.and_eq_true, decide_eq_true_eq, decide_eq_true_eq] at this
  exact this
theorem rdN_numL (n : Nat) : rdN (numL n) = some n := by
  unfold rdN
  rw [if_neg (numL_ne n)]
  have e : ¬ ((numL n).head? = some 48 ∧ numL n ≠ [48]) := by
    rintro ⟨h1, h2⟩
    rcases Nat.eq_zero_or_pos n with h | h
    · subst h
      exact h2 numL_zero
    · obtain ⟨c, r, e, h3, _⟩ := numL_head h
      rw [e] at h1
      have : c = 48 := Option.some.inj h1
      omega
  rw [if_neg e, if_pos (all_dig (numL_digits n)), numL_val]
/-- what stands ahead of the first /, whether there is one, what stands behind -/
def partL (l : List Nat) : List Nat × Bool × List Nat := match par [47] [] l with | some (a, b) => (a, true, b) | none => (l, false, [])
def unsign (l : List Nat) : List Nat := match l with | a :: r => if a = 45 then r else a :: r | [] => []
def rdF (l : List Nat) : Option (Int × Int) :=
  match rdN (unsign (partL l).1), (if (partL l).2.1 = true then rdN (partL l).2.2 else some 1) with
  | some n, some d => if d = 0 then none else
      if shL (frc (if (partL l).1.head? = some 45 then -(n : Int) else (n : Int)) (d : Int)) = l then some (frc (if (partL l).1.head? = some 45 then -(n : Int) else (n : Int)) (d : Int)) else none
  | _, _ => none
end Ky

namespace Ky
open PySem PySem.Spec PyProof.Rows L2 TL
/-! ### fractions, reckoned -/
theorem frc_spec {n d : Int} (hd : d ≠ 0) : ∃ c : Int, c ≠ 0 ∧ n = (frc n d).1 * c ∧ d = (frc n d).2 * c ∧ 0 < (frc n d).2 ∧ Nat.gcd (frc n d).1.natAbs (frc n d).2.natAbs = 1 := by
  have g0 : Nat.gcd n.natAbs d.natAbs ≠ 0 := by
    intro h
    have := Nat.eq_zero_of_gcd_eq_zero_right h
    omega
  generalize hg : Nat.gcd n.natAbs d.natAbs = g at g0
  have dn : (g : Int) ∣ n := Int.ofNat_dvd_left.mpr (hg ▸ Nat.gcd_dvd_left _ _)
  have dd : (g : Int) ∣ d := Int.ofNat_dvd_left.mpr (hg ▸ Nat.gcd_dvd_right _ _)
  obtain ⟨c, hc, hcs⟩ : ∃ c : Int, (if d < 0 then -(g : Int) else (g : Int)) = c ∧ c.natAbs = g := ⟨_, rfl, by split <;> omega⟩
  have c0 : c ≠ 0 := by omega
  have cn : c ∣ n := by
    rw [← hc]
    split
    · exact Int.neg_dvd.mpr dn
    · exact dn
  have cd : c ∣ d := by
    rw [← hc]
    split
    · exact Int.neg_dvd.mpr dd
    · exact dd
  have e1 : (frc n d).1 = n / c := by
    unfold frc
    rw [hg, hc]
    exact Int.fdiv_eq_ediv_of_dvd cn
  have e2 : (frc n d).2 = d / c := by
    unfold frc
    rw [hg, hc]
    exact Int.fdiv_eq_ediv_of_dvd cd
  have f1 : n = (frc n d).1 * c := by rw [e1, Int.ediv_mul_cancel cn]
  have f2 : d = (frc n d).2 * c := by rw [e2, Int.ediv_mul_cancel cd]
  refine ⟨c, c0, f1, f2, ?_, ?_⟩
  · have hx := f2
    generalize (frc n d).2 = y at hx
    have hs : (d < 0 ∧ c < 0) ∨ (0 < d ∧ 0 < c) := by
      by_cases h : d < 0
      · left
        refine ⟨h, ?_⟩
        rw [if_pos h] at hc
        omega
      · right
        rw [if_neg h] at hc
        omega
    rcases hs with ⟨h1, h2⟩ | ⟨h1, h2⟩
    · by_cases hy : 0 < y
      · exact hy
      · have := Int.mul_nonneg_of_nonpos_of_nonpos (a := y) (b := c) (by omega) (by omega)
        omega
    · by_cases hy : 0 < y
      · exact hy
      · have := Int.mul_nonpos_of_nonpos_of_nonneg (a := y) (b := c) (by omega) (by omega)
        omega
  · have h3 : Nat.gcd ((frc n d).1 * c).natAbs ((frc n d).2 * c).natAbs = g := by
      rw [← f1, ← f2]
      exact hg
    rw [Int.natAbs_mul, Int.natAbs_mul, Nat.gcd_mul_right, hcs] at h3
    exact Nat.eq_of_mul_eq_mul_right (show 0 < g by omega) (by rw [h3, Nat.one_mul])
theorem frc_pos {n d : Int} (hd : d ≠ 0) : 0 < (frc n d).2 := by
  obtain ⟨_, _, _, _, h, _⟩ := frc_spec (n := n) hd
  exact h
theorem natAbs_le_mul {x c : Int} (h : c ≠ 0) : x.natAbs ≤ (x * c).natAbs := by
  rw [Int.natAbs_mul]
  exact Nat.le_mul_of_pos_right _ (by omega)
theorem frc_le {n d : Int} (hd : d ≠ 0) : (frc n d).1.natAbs ≤ n.natAbs ∧ (frc n d).2.natAbs ≤ d.natAbs := by
  obtain ⟨c, c0, h1, h2, _⟩ := frc_spec (n := n) hd
  constructor
  · have := natAbs_le_mul (x := (frc n d).1) c0
    rw [← h1] at this
    exact this
  · have := natAbs_le_mul (x := (frc n d).2) c0
    rw [← h2] at this
    exact this
theorem frc_small {n d : Int} {b : Nat} (hd : d ≠ 0) (bn : n.natAbs < 2 ^ b) (bd : d.natAbs < 2 ^ b) : Small b (frc n d) :=
  ⟨Nat.lt_of_le_of_lt (frc_le hd).1 bn, Nat.lt_of_le_of_lt (frc_le hd).2 bd⟩
/-- two reduced pairs with the same cross products are one -/
theorem red_eq {a b x y : Int} (hb : 0 < b) (hy : 0 < y) (g1 : Nat.gcd a.natAbs b.natAbs = 1) (g2 : Nat.gcd x.natAbs y.natAbs = 1) (h : a * y = x * b) : a = x ∧ b = y := by
  have hn : a.natAbs * y.natAbs = x.natAbs * b.natAbs := by
    rw [← Int.natAbs_mul, ← Int.natAbs_mul, h]
  have d1 : b.natAbs ∣ y.natAbs := Nat.Coprime.dvd_of_dvd_mul_left (show Nat.Coprime b.natAbs a.natAbs by rw [Nat.Coprime, Nat.gcd_comm]; exact g1) ⟨x.natAbs, by rw [hn, Nat.mul_comm]⟩
  have d2 : y.natAbs ∣ b.natAbs := Nat.Coprime.dvd_of_dvd_mul_left (show Nat.Coprime y.natAbs x.natAbs by rw [Nat.Coprime, Nat.gcd_comm]; exact g2) ⟨a.natAbs, by rw [← hn, Nat.mul_comm]⟩
  have e : b = y := by
    have := Nat.dvd_antisymm d1 d2
    omega
  subst e
  exact ⟨Int.eq_of_mul_eq_mul_right (by omega) h, rfl⟩
theorem frc_eq {n d m e : Int} (hd : d ≠ 0) (he : e ≠ 0) (h : n * e = m * d) : frc n d = frc m e := by
  obtain ⟨c, c0, h1, h2, h3, h4⟩ := frc_spec (n := n) hd
  obtain ⟨k, k0, j1, j2, j3, j4⟩ := frc_spec (n := m) he
  have hx : (frc n d).1 * (frc m e).2 = (frc m e).1 * (frc n d).2 := by
    have : ((frc n d).1 * (frc m e).2) * (c * k) = ((frc m e).1 * (frc n d).2) * (c * k) := by
      calc ((frc n d).1 * (frc m e).2) * (c * k) = ((frc n d).1 * c) * ((frc m e).2 * k) := by
            rw [Int.mul_assoc, Int.mul_assoc, Int.mul_left_comm (frc m e).2 c k]
        _ = n * e := by rw [← h1, ← j2]
        _ = m * d := h
        _ = ((frc m e).1 * k) * ((frc n d).2 * c) := by rw [← j1, ← h2]
        _ = ((frc m e).1 * (frc n d).2) * (c * k) := by
            rw [Int.mul_assoc, Int.mul_assoc, Int.mul_left_comm k (frc n d).2 c, Int.mul_comm k c]
    exact Int.eq_of_mul_eq_mul_right (Int.mul_ne_zero c0 k0) this
  obtain ⟨r1, r2⟩ := red_eq h3 j3 h4 j4 hx
  exact Prod.ext r1 r2
/-- a reduced pair -/
def Red (a : Int × Int) : Prop := 0 < a.2 ∧ Nat.gcd a.1.natAbs a.2.natAbs = 1
theorem frc_red {n d : Int} (hd : d ≠ 0) : Red (frc n d) := by
  obtain ⟨_, _, _, _, h, g⟩ := frc_spec (n := n) hd
  exact ⟨h, g⟩
theorem frc_self {a : Int × Int} (h : Red a) : frc a.1 a.2 = a := by
  obtain ⟨p, g⟩ := h
  obtain ⟨c, c0, h1, h2, h3, h4⟩ := frc_spec (n := a.1) (d := a.2) (by omega)
  have hx : (frc a.1 a.2).1 * a.2 = a.1 * (frc a.1 a.2).2 := by
    calc (frc a.1 a.2).1 * a.2 = (frc a.1 a.2).1 * ((frc a.1 a.2).2 * c) := by rw [← h2]
      _ = ((frc a.1 a.2).1 * c) * (frc a.1 a.2).2 := by rw [Int.mul_assoc, Int.mul_comm (frc a.1 a.2).2 c]
      _ = a.1 * (frc a.1 a.2).2 := by rw [← h1]
  obtain ⟨r1, r2⟩ := red_eq h3 p h4 g hx
  exact Prod.ext r1 r2
/-! sums, products of several -/
def plusF (a b : Int × Int) : Int × Int := frc (a.1 * b.2 + b.1 * a.2) (a.2 * b.2)
def timesF (a b : Int × Int) : Int × Int := frc (a.1 * b.1) (a.2 * b.2)
def totN (as : List (Int × Int)) : Int × Int := as.foldl (fun f r => (f.1 * r.2 + r.1 * f.2, f.2 * r.2)) (0, 1)
def totF (as : List (Int × Int)) : Int × Int := as.foldl plusF (0, 1)
def prN (as : List (Int × Int)) : Int × Int := as.foldl (fun f r => (f.1 * r.1, f.2 * r.2)) (1, 1)
def prF (as : List (Int × Int)) : Int × Int := as.foldl timesF (1, 1)
theorem frc_cross {n d : Int} (hd : d ≠ 0) : (frc n d).1 * d = n * (frc n d).2 := by
  obtain ⟨c, c0, h1, h2, h3, h4⟩ := frc_spec (n := n) hd
  calc (frc n d).1 * d = (frc n d).1 * ((frc n d).2 * c) := by rw [← h2]
    _ = ((frc n d).1 * c) * (frc n d).2 := by rw [Int.mul_assoc, Int.mul_comm (frc n d).2 c]
    _ = n * (frc n d).2 := by rw [← h1]
theorem plus_step {n d x y : Int} (hd : 0 < d) (hy : 0 < y) : plusF (frc n d) (x, y) = frc (n * y + x * d) (d * y) := by
  have p := frc_pos (n := n) (d := d) (by omega)
  refine frc_eq (Int.mul_ne_zero (by omega) (by omega)) (Int.mul_ne_zero (by omega) (by omega)) ?_
  have c := frc_cross (n := n) (d := d) (by omega)
  generalize (frc n d).1 = u at c ⊢
  generalize (frc n d).2 = v at c p ⊢
  show (u * y + x * v) * (d * y) = (n * y + x * d) * (v * y)
  have e1 : (u * y + x * v) * (d * y) = (u * d) * (y * y) + (x * v) * (d * y) := by
    rw [Int.add_mul]
    congr 1
    rw [Int.mul_assoc, Int.mul_assoc, Int.mul_left_comm y d y]
  have e2 : (n * y + x * d) * (v * y) = (n * v) * (y * y) + (x * v) * (d * y) := by
    rw [Int.add_mul]
    congr 1
    · rw [Int.mul_assoc, Int.mul_assoc, Int.mul_left_comm y v y]
    · rw [Int.mul_assoc, Int.mul_assoc, Int.mul_left_comm d v y]
  rw [e1, e2, c]
theorem times_step {n d x y : Int} (hd : 0 < d) (hy : 0 < y) : timesF (frc n d) (x, y) = frc (n * x) (d * y) := by
  have p := frc_pos (n := n) (d := d) (by omega)
  refine frc_eq (Int.mul_ne_zero (by omega) (by omega)) (Int.mul_ne_zero (by omega) (by omega)) ?_
  have c := frc_cross (n := n) (d := d) (by omega)
  generalize (frc n d).1 = u at c ⊢
  generalize (frc n d).2 = v at c p ⊢
  show (u * x) * (d * y) = (n * x) * (v * y)
  calc (u * x) * (d * y) = (u * d) * (x * y) := by rw [Int.mul_assoc, Int.mul_assoc, Int.mul_left_comm x d y]
    _ = (n * v) * (x * y) := by rw [c]
    _ = (n * x) * (v * y) := by rw [Int.mul_assoc, Int.mul_assoc, Int.mul_left_comm v x y]
theorem tot_fold : ∀ (as : List (Int × Int)) (n d : Int), 0 < d → (∀ a ∈ as, 0 < a.2) → as.foldl plusF (frc n d) = frc (as.foldl (fun f r => (f.1 * r.2 + r.1 * f.2, f.2 * r.2)) (n, d)).1 (as.foldl (fun f r => (f.1 * r.2 + r.1 * f.2, f.2 * r.2)) (n, d)).2
  | [], n, d, _, _ => rfl
  | a :: r, n, d, hd, h => by
    have ha := h a (.head _)
    rw [List.foldl_cons, List.foldl_cons, plus_step (x := a.1) (y := a.2) hd ha]
    exact tot_fold r _ _ (Int.mul_pos hd ha) fun b hb => h b (.tail _ hb)
theorem pr_fold : ∀ (as : List (Int × Int)) (n d : Int), 0 < d → (∀ a ∈ as, 0 < a.2) → as.foldl timesF (frc n d) = frc (as.foldl (fun f r => (f.1 * r.1, f.2 * r.2)) (n, d)).1 (as.foldl (fun f r => (f.1 * r.1, f.2 * r.2)) (n, d)).2
  | [], n, d, _, _ => rfl
  | a :: r, n, d, hd, h => by
    have ha := h a (.head _)
    rw [List.foldl_cons, List.foldl_cons, times_step (x := a.1) (y := a.2) hd ha]
    exact pr_fold r _ _ (Int.mul_pos hd ha) fun b hb => h b (.tail _ hb)
theorem frc_01 : frc 0 1 = (0, 1) := by decide
theorem frc_11 : frc 1 1 = (1, 1) := by decide
theorem totF_eq {as : List (Int × Int)} (h : ∀ a ∈ as, 0 < a.2) : totF as = frc (totN as).1 (totN as).2 := by
  have := tot_fold as 0 1 (by decide) h
  rw [frc_01] at this
  exact this
theorem prF_eq {as : List (Int × Int)} (h : ∀ a ∈ as, 0 < a.2) : prF as = frc (prN as).1 (prN as).2 := by
  have := pr_fold as 1 1 (by decide) h
  rw [frc_11] at this
  exact this
end Ky

namespace Ky
open PySem PySem.Spec PyProof.Rows L2
local macro_rules | `(tactic| walk_at "rd") => `(tactic| repeat (first
  | with_reducible refine w_seq ?_
  | with_reducible refine w_asg ?_
  | with_reducible refine w_ret ?_
  | with_reducible refine w_drop ?_
  | with_reducible refine w_ifs ?_
  | ((with_reducible refine' w_var ?hh ?_); (case hh => exact rfl))
  | with_reducible refine w_c ?_
  | with_reducible refine w_op ?_
  | with_reducible refine w_un ?_
  | with_reducible refine w_I0 ?_
  | with_reducible refine w_U ?_
  | with_reducible refine w_nil ?_
  | with_reducible refine w_cons ?_
  | with_reducible refine w_call ?_
  | with_reducible refine w_cb ?_
  | with_reducible refine w_test ?_
  | with_reducible refine w_B ?_
  | with_reducible refine w_bl ?_
  | with_reducible refine w_and ?_
  | with_reducible refine w_or ?_
  | with_reducible refine w_not ?_
  | with_reducible refine w_ife ?_
  | with_reducible refine w_gRd ?_
  | with_reducible refine w_andV ?_
  | with_reducible refine w_orV ?_
  | with_reducible refine w_notV ?_
  | with_reducible refine w_chain ?_
  | with_reducible refine w_din ?_
  | with_reducible refine w_isi_ii ?_
  | with_reducible refine w_isi_ib ?_
  | with_reducible refine w_isi_it ?_
  | with_reducible refine w_isi_st ?_
  | ((with_reducible refine w_isi_tt ?h1 ?_); (case h1 => first | assumption | exact upd_same))
  | with_reducible refine if_t rfl ?_
  | with_reducible refine if_f rfl ?_
  | with_reducible refine w_tup ?_
  | with_reducible refine w_lst ?_
  | with_reducible refine w_next ?_
  | with_reducible refine w_bm ?_
  | with_reducible refine w_sl ?_
  | with_reducible refine w_part ?_
  | with_reducible refine w_nop ?_
  | with_reducible refine w_isI ?_
  | with_reducible refine w_yes ?_
  | with_reducible refine w_gn ?_
  | with_reducible refine w_gsub ?_
  | ((with_reducible refine' w_setL ?h1 ?h2 ?_); (case h1 => first | assumption | exact upd_same); (case h2 => exact rfl))
  | with_reducible refine w_asgG ?_
  | with_reducible refine w_m1 ?_
  | with_reducible refine w_isS ?_
  | with_reducible refine w_tyS ?_
  | ((with_reducible refine' w_tyL ?h1 ?_); (case h1 => first | assumption | exact upd_same))
  | ((with_reducible refine' w_ixT ?h1 ?h2 ?_); (case h1 => first | assumption | exact upd_same); (case h2 => exact rfl))
  | ((with_reducible refine' w_ixL ?h1 ?h2 ?_); (case h1 => first | assumption | exact upd_same); (case h2 => exact rfl))
  | ((with_reducible refine w_eq ?h1 ?_); (case h1 => exact rfl))
  | ((with_reducible refine w_ne ?h1 ?_); (case h1 => exact rfl))
  | dsimp only [List.set_cons_zero, List.set_cons_succ, List.append_nil, List.cons_append, List.nil_append, cxOf]))

section
variable {P : Program} {w : World} {K : PySem.W.Frag} {mg : Str → Option Value} {base : Heap} {uG : Value} {f : Addr} {fd : FuncData}
def spFrac8 : Sp := fun vs H Q _ => ∃ n d : Int, vs = [.int n, .int d] ∧ d ≠ 0 ∧ n.natAbs < 2 ^ 8010 ∧ d.natAbs < 2 ^ 8010 ∧
  ∀ p H', H p = none → Kept H H' → FrAt H' p (frc n d) → Q (.ref p) H'
theorem log_of {i : Int} {b : Nat} (h : i.natAbs < 2 ^ b) (h0 : 0 < b) : i.natAbs.log2 < b := PySem.Flt.log2_lt_of h0 h
theorem frc_ne {n d : Int} (hd : d ≠ 0) : Nat.gcd n.natAbs d.natAbs ≠ 0 := by
  intro h
  have := Nat.eq_zero_of_gcd_eq_zero_right h
  omega
theorem gcd_le_r {n d : Int} (hd : d ≠ 0) : Nat.gcd n.natAbs d.natAbs ≤ d.natAbs := Nat.gcd_le_right _ (by omega)
/-- the promise of an operation on two fractions -/
def spTwo (C : (Int × Int) → (Int × Int) → Prop) (g : (Int × Int) → (Int × Int) → Int × Int) : Sp := fun vs H Q _ => ∃ (p q : Addr) (a b : Int × Int), vs = [.ref p, .ref q] ∧ FrAt H p a ∧ FrAt H q b ∧ Small 4000 a ∧ Small 4000 b ∧ C a b ∧
  ∀ r H', H r = none → Kept H H' → FrAt H' r (g a b) → Q (.ref r) H'
def minusF (a b : Int × Int) : Int × Int := frc (a.1 * b.2 - b.1 * a.2) (a.2 * b.2)
def overF (a b : Int × Int) : Int × Int := frc (a.1 * b.2) (a.2 * b.1)
abbrev Pos2 (a b : Int × Int) : Prop := 0 < a.2 ∧ 0 < b.2
theorem mul_small {x y : Int} (hx : x.natAbs < 2 ^ 4000) (hy : y.natAbs < 2 ^ 4000) : (x * y).natAbs < 2 ^ 8000 := wide_lt hx hy
theorem mul_ok {x y : Int} (hx : x.natAbs < 2 ^ 4000) (hy : y.natAbs < 2 ^ 4000) : CMulW x y := wide_mul hx hy (by decide) (by decide) (by decide)
theorem pow_up {x : Nat} (h : x < 2 ^ 8000) : x < 2 ^ 8010 := Nat.lt_of_lt_of_le h (Nat.pow_le_pow_right (by decide) (by decide))
theorem add_small {x y : Int} (hx : x.natAbs < 2 ^ 8000) (hy : y.natAbs < 2 ^ 8000) : (x + y).natAbs < 2 ^ 8010 := by
  have h : (2 : Nat) ^ 800 + 2 ^ 8000 ≤ 2 ^ 8010 := by decide
  omega
theorem sub_small {x y : Int} (hx : x.natAbs < 2 ^ 8000) (hy : y.natAbs < 2 ^ 8000) : (x - y).natAbs < 2 ^ 8010 := by
  have h : (2 : Nat) ^ 800 + 2 ^ 8000 ≤ 2 ^ 8010 := by decide
  omega
theorem mul_ne {x y : Int} (hx : 0 < x) (hy : 0 < y) : x * y ≠ 0 := Int.mul_ne_zero (by omega) (by omega)
def lessF (a b : Int × Int) : Bool := decide (a.1 * b.2 < b.1 * a.2)
def spLess : Sp := fun vs H Q _ => ∃ (p q : Addr) (a b : Int × Int), vs = [.ref p, .ref q] ∧ FrAt H p a ∧ FrAt H q b ∧ Small 4000 a ∧ Small 4000 b ∧ Q (.bl (lessF a b)) H
def spGreatest : Sp := fun vs H Q _ => ∃ (p q : Addr) (a b : Int × Int), vs = [.ref p, .ref q] ∧ FrAt H p a ∧ FrAt H q b ∧ Small 4000 a ∧ Small 4000 b ∧ Q (.ref (if lessF a b = true then q else p)) H
end
end Ky

namespace Ky
open PySem PySem.Spec PyProof.Rows L2
local macro_rules | `(tactic| walk_at "rd") => `(tactic| repeat (first
  | with_reducible refine w_seq ?_
  | with_reducible refine w_asg ?_
  | with_reducible refine w_ret ?_
  | with_reducible refine w_drop ?_
  | with_reducible refine w_ifs ?_
  | ((with_reducible refine' w_var ?hh ?_); (case hh => exact rfl))
  | with_reducible refine w_c ?_
  | with_reducible refine w_op ?_
  | with_reducible refine w_un ?_
  | with_reducible refine w_I0 ?_
  | with_reducible refine w_U ?_
  | with_reducible refine w_nil ?_
  | with_reducible refine w_cons ?_
  | with_reducible refine w_call ?_
  | with_reducible refine w_cb ?_
  | with_reducible refine w_test ?_
  | with_reducible refine w_B ?_
  | with_reducible refine w_bl ?_
  | with_reducible refine w_and ?_
  | with_reducible refine w_or ?_
  | with_reducible refine w_not ?_
  | with_reducible refine w_ife ?_
  | with_reducible refine w_gRd ?_
  | with_reducible refine w_andV ?_
  | with_reducible refine w_orV ?_
  | with_reducible refine w_notV ?_
  | with_reducible refine w_chain ?_
  | with_reducible refine w_din ?_
  | with_reducible refine w_isi_ii ?_
  | with_reducible refine w_isi_ib ?_
  | with_reducible refine w_isi_it ?_
  | with_reducible refine w_isi_st ?_
  | ((with_reducible refine w_isi_tt ?h1 ?_); (case h1 => first | assumption | exact upd_same))
  | with_reducible refine if_t rfl ?_
  | with_reducible refine if_f rfl ?_
  | with_reducible refine w_tup ?_
  | with_reducible refine w_lst ?_
  | with_reducible refine w_next ?_
  | with_reducible refine w_bm ?_
  | with_reducible refine w_sl ?_
  | with_reducible refine w_part ?_
  | with_reducible refine w_nop ?_
  | with_reducible refine w_isI ?_
  | with_reducible refine w_yes ?_
  | with_reducible refine w_gn ?_
  | with_reducible refine w_gsub ?_
  | ((with_reducible refine' w_setL ?h1 ?h2 ?_); (case h1 => first | assumption | exact upd_same); (case h2 => exact rfl))
  | with_reducible refine w_asgG ?_
  | with_reducible refine w_m1 ?_
  | with_reducible refine w_isS ?_
  | with_reducible refine w_tyS ?_
  | ((with_reducible refine' w_tyL ?h1 ?_); (case h1 => first | assumption | exact upd_same))
  | ((with_reducible refine' w_ixT ?h1 ?h2 ?_); (case h1 => first | assumption | exact upd_same); (case h2 => exact rfl))
  | ((with_reducible refine' w_ixL ?h1 ?h2 ?_); (case h1 => first | assumption | exact upd_same); (case h2 => exact rfl))
  | ((with_reducible refine w_eq ?h1 ?_); (case h1 => exact rfl))
  | ((with_reducible refine w_ne ?h1 ?_); (case h1 => exact rfl))
  | dsimp only [List.set_cons_zero, List.set_cons_succ, List.append_nil, List.cons_append, List.nil_append, cxOf]))

section
variable {P : Program} {w : World} {K : PySem.W.Frag} {mg : Str → Option Value} {base : Heap} {uG : Value} {f : Addr} {fd : FuncData}
theorem abs_natI (n : Int) : (if n < 0 then -n else n) = ((n.natAbs : Nat) : Int) := by split <;> omega
def spGcd : Sp := fun vs H Q _ => ∃ a b : Nat, vs = [.int (a : Int), .int (b : Int)] ∧ a < 2 ^ 8010 ∧ b < 2 ^ 8010 ∧ Q (.int ((Nat.gcd a b : Nat) : Int)) H
theorem ok_l_gcd (F : Fun K "_law_gcd" "_law_gcd" s_l_gcd f fd) : FnOk P w K mg base CX0 1 f fd ["a", "b"] spGcd := by
  refine F.ok sc_l_gcd (fun vs H Q E h => ?_) (fun cdv A outer s H vs Q E hr h => ?_)
  · obtain ⟨a, b, rfl, _⟩ := h
    rfl
  · obtain ⟨a, b, rfl, ba, bb, k⟩ := h
    refine ⟨_, (pss_cons (ps_while PassesOwn.never (pt_cmpR op_ne (pv 1) pe_int (nomark _))
      (pss_cons (ps_set (i := 2) sc_l_gcd.nd rfl (.inl rfl) (pe_op op_sub (pv 0) (pe_op op_mulW (pv 1) (pe_op op_fdivW (pv 0) (pv 1)))))
    (pss_cons (ps_set (i := 0) sc_l_gcd.nd rfl (.inl rfl) (pv 1))
    (pss_one (ps_set (i := 1) sc_l_gcd.nd rfl (.inl rfl) (pv 2))))))
    (pss_one (ps_ret (pv 0)))), ?_⟩
    rw [show start n_l_gcd [(.int (a : Int) : V), (.int (b : Int) : V)] = ([some (.int (a : Int)), some (.int (b : Int)), none] : List (Option V)) from rfl]
    refine w_seq ?_
    refine ⟨fun m σ' H' => ∃ (x y : Nat) (v : Option V), σ' = [some (.int (x : Int)), some (.int (y : Int)), v] ∧ H' = H ∧ x < 2 ^ 8010 ∧ y < 2 ^ 8010 ∧ Nat.gcd x y = Nat.gcd a b ∧ m = y, ⟨b, a, b, none, rfl, rfl, ba, bb, rfl, rfl⟩, fun m σ' H' hW => ?_⟩
    obtain ⟨x, y, v, rfl, rfl, bx, by1, hg, rfl⟩ := hW
    walk_at "rd"
    by_cases h0 : m = 0
    · subst h0
      refine if_f rfl ?_
      walk_at "rd"
      rw [Nat.gcd_zero_right] at hg
      rw [hg]
      exact k
    · refine if_t (congrArg Bool.not (decide_eq_false (fun z => h0 (Int.ofNat.inj (V.int.inj z))))) ?_
      have hm : (0 : Int) < (m : Int) := by omega
      have hq : ((x : Int) / (m : Int)).natAbs < 2 ^ 8010 := by
        rw [← Int.natCast_ediv, Int.natAbs_natCast]
        exact Nat.lt_of_le_of_lt (Nat.div_le_self _ _) bx
      have hmod : (x : Int) - (m : Int) * ((x : Int) / (m : Int)) = ((x % m : Nat) : Int) := by
        have := Int.emod_add_mul_ediv (x : Int) (m : Int)
        rw [Int.natCast_emod]
        omega
      refine ⟨fun σ' H'' => ∃ m', m' < m ∧ ∃ (x' y' : Nat) (v : Option V), σ' = [some (.int (x' : Int)), some (.int (y' : Int)), v] ∧ H'' = H' ∧ x' < 2 ^ 8010 ∧ y' < 2 ^ 8010 ∧ Nat.gcd x' y' = Nat.gcd a b ∧ m' = y', fun _ _ h => h, ?_⟩
      walk_at "rd"
      refine w_I (wide_div (b := 8010) hm (by rw [Int.natAbs_natCast]; exact by1) (by decide) (by decide)) ?_
      refine w_I (wide_mul (a := 8010) (b := 8010) (by rw [Int.natAbs_natCast]; exact by1) hq (by decide) (by decide) (by decide)) ?_
      walk_at "rd"
      rw [hmod]
      refine ⟨x % m, Nat.mod_lt _ (by omega), m, x % m, _, rfl, rfl, by1, Nat.lt_trans (Nat.mod_lt _ (by omega)) by1, ?_, rfl⟩
      rw [← hg, Nat.gcd_comm x m, Nat.gcd_rec m x, Nat.gcd_comm]
theorem ok_l_fraction (F : Fun K "_law_fraction" "_law_fraction" s_l_fraction f fd) (T : Tx K mg uG) (D_l_gcd : Df P w K mg base 1 "_law_gcd" ["a", "b"] spGcd) : FnOk P w K mg base CX0 2 f fd ["n", "d"] spFrac8 := by
  refine F.ok sc_l_fraction (fun vs H Q E h => ?_) (fun cdv A outer s H vs Q E hr h => ?_)
  · obtain ⟨n, d, rfl, _⟩ := h
    rfl
  · obtain ⟨n, d, rfl, hd, bn, bd, k⟩ := h
    refine ⟨_, (pss_cons (ps_set (i := 2) sc_l_fraction.nd rfl (.inl rfl) (pe_df D_l_gcd (hr.mono (by decide)) (by rfl) (pa_cons (pe_callB call_abs (by rfl) T.z_abs (by decide +kernel) (pa_cons (pv 0) pa_nil)) (pa_cons (pe_callB call_abs (by rfl) T.z_abs (by decide +kernel) (pa_cons (pv 1) pa_nil)) pa_nil))))
    (pss_cons (ps_if (pt_cmpR op_lt (pv 1) pe_int (nomark _))
      (pss_one (ps_set (i := 2) sc_l_fraction.nd rfl (.inl rfl) (pe_un un_neg (pv 2))))
      pss_nil)
    (pss_one (ps_ret (pe_tup (pa_cons (pe_op op_fdivA (pv 0) (pv 2)) (pa_cons (pe_op op_fdivA (pv 1) (pv 2)) pa_nil))))))), ?_⟩
    rw [show start n_l_fraction [(.int n : V), (.int d : V)] = ([some (.int n), some (.int d), none] : List (Option V)) from rfl]
    walk_at "rd"
    refine ⟨n, rfl, ?_⟩
    walk_at "rd"
    refine ⟨d, rfl, ?_⟩
    walk_at "rd"
    rw [abs_natI, abs_natI]
    refine ⟨n.natAbs, d.natAbs, rfl, bn, bd, ?_⟩
    walk_at "rd"
    have cont : ∀ c : Int, c = (if d < 0 then -((Nat.gcd n.natAbs d.natAbs : Nat) : Int) else ((Nat.gcd n.natAbs d.natAbs : Nat) : Int)) →
        tRet (tTup (tCons (tOp (rI CDivA fun i j => V.int (i.fdiv j)) (tVar 0) (tVar 2)) (tCons (tOp (rI CDivA fun i j => V.int (i.fdiv j)) (tVar 1) (tVar 2)) tNil)))
          { nx := fun x H' => Q V.non H', rt := Q } [some (V.int n), some (V.int d), some (V.int c)] H := fun c hc => by
      have g0 := frc_ne (n := n) hd
      have g1 := gcd_le_r (n := n) hd
      have bc : c.natAbs < 2 ^ 8010 := by
        have : c.natAbs = Nat.gcd n.natAbs d.natAbs := by
          rw [hc]
          split <;> omega
        omega
      have c0 : c ≠ 0 := by
        rw [hc]
        split <;> omega
      walk_at "rd"
      refine w_I (divA c0 bc (by decide) (by decide)) ?_
      walk_at "rd"
      refine w_I (divA c0 bc (by decide) (by decide)) ?_
      walk_at "rd"
      refine ⟨by show 2 ≤ sizeLine; decide, fun p hp => k p _ hp (Kept.new hp) ?_⟩
      show upd H p _ p = _
      rw [upd_same, hc]
      rfl
    refine ite2 (fun e => ?_) (fun e => ?_)
    · have e' := of_decide_eq_true e
      exact ⟨_, rfl, _, rfl, cont _ (by rw [if_pos e'])⟩
    · have e' : ¬ d < 0 := fun z => e (decide_eq_true z)
      exact cont _ (by rw [if_neg e'])
/-! sums and products of up to three -/
/-- the list at l holds the fractions as -/
def FrsAt (K : PySem.W.Frag) (H : Hp) (l : Addr) (as : List (Int × Int)) : Prop := ∃ ps : List Addr, SqL K H l (ps.map V.ref) ∧ ps.length = as.length ∧ ∀ (i : Nat) p, ps[i]? = some p → ∃ a, as[i]? = some a ∧ FrAt H p a
def spRow (K : PySem.W.Frag) (g : List (Int × Int) → Int × Int) : Sp := fun vs H Q _ => ∃ (l : Addr) (as : List (Int × Int)), vs = [.ref l] ∧ FrsAt K H l as ∧ as.length ≤ 64 ∧ (∀ a ∈ as, 0 < a.2 ∧ Small 50 a) ∧
  ∀ r H', H r = none → Kept H H' → FrAt H' r (g as) → Q (.ref r) H'
theorem Kept.fr {H H' : Hp} {p : Addr} {a : Int × Int} (e : Kept H H') (h : FrAt H p a) : FrAt H' p a := Kept.tup e h
theorem map_ref {ps : List Addr} {i : Nat} {y : V} (h : (ps.map V.ref)[i]? = some y) : ∃ p, y = V.ref p ∧ ps[i]? = some p := by
  rw [List.getElem?_map] at h
  cases e : ps[i]? with
  | none =>
    rw [e] at h
    cases h
  | some u =>
    rw [e] at h
    exact ⟨u, (Option.some.inj h).symm, rfl⟩
theorem foldl_take {α β : Type} (g : β → α → β) (b : β) (as : List α) {i : Nat} {a : α} (h : as[i]? = some a) : (as.take (i + 1)).foldl g b = g ((as.take i).foldl g b) a := by
  rw [List.take_add_one, h, List.foldl_append]
  rfl
theorem lt_mul {x y : Int} {a b : Nat} (hx : x.natAbs < 2 ^ a) (hy : y.natAbs < 2 ^ b) {c : Nat} (h : a + b ≤ c) : (x * y).natAbs < 2 ^ c := Nat.lt_of_lt_of_le (wide_lt hx hy) (Nat.pow_le_pow_right (by decide) h)
theorem lt_add {x y : Int} {a : Nat} (hx : x.natAbs < 2 ^ a) (hy : y.natAbs < 2 ^ a) {c : Nat} (h : a + 1 ≤ c) : (x + y).natAbs < 2 ^ c := by
  have h2 : 2 ^ (a + 1) ≤ 2 ^ c := Nat.pow_le_pow_right (by decide) h
  rw [Nat.pow_succ] at h2
  omega
theorem lt_up {x : Nat} {a b : Nat} (hx : x < 2 ^ a) (h : a ≤ b) : x < 2 ^ b := Nat.lt_of_lt_of_le hx (Nat.pow_le_pow_right (by decide) h)
theorem plus_small {x y : Int × Int} {s : Nat} (h1 : Small s x) (h2 : Small 50 y) (p1 : 0 < x.2) (p2 : 0 < y.2) : Small (s + 60) (plusF x y) :=
  frc_small (mul_ne p1 p2) (lt_add (lt_mul h1.1 h2.2 (c := s + 50) (by omega)) (lt_mul h2.1 h1.2 (c := s + 50) (by omega)) (by omega)) (lt_mul h1.2 h2.2 (by omega))
theorem times_small {x y : Int × Int} {s : Nat} (h1 : Small s x) (h2 : Small 50 y) (p1 : 0 < x.2) (p2 : 0 < y.2) : Small (s + 60) (timesF x y) :=
  frc_small (mul_ne p1 p2) (lt_mul h1.1 h2.1 (by omega)) (lt_mul h1.2 h2.2 (by omega))
theorem small_one {z : Int} (h : z.natAbs ≤ 1 := by decide) : Small (60 * 0 + 1) (z, 1) := ⟨Nat.lt_of_le_of_lt h (by decide), show (1 : Int).natAbs < 2 ^ (60 * 0 + 1) by decide⟩
theorem Small.up {a : Int × Int} {m n : Nat} (h : Small m a) (l : m ≤ n) : Small n a := ⟨lt_up h.1 l, lt_up h.2 l⟩
end
end Ky

namespace Ky
open PySem PySem.Spec PyProof.Rows L2
local macro_rules | `(tactic| walk_at "rd") => `(tactic| repeat (first
  | with_reducible refine w_for1 ?_
  | with_reducible refine w_for2 ?_
  | with_reducible refine w_forL ?_
  | with_reducible refine w_forT ?_
  | with_reducible refine w_lc1 ?_
  | with_reducible refine w_lcL ?_
  | with_reducible refine w_lcT ?_
  | with_reducible refine w_seq ?_
  | with_reducible refine w_asg ?_
  | with_reducible refine w_ret ?_
  | with_reducible refine w_drop ?_
  | with_reducible refine w_ifs ?_
  | ((with_reducible refine' w_var ?hh ?_); (case hh => exact rfl))
  | with_reducible refine w_c ?_
  | with_reducible refine w_op ?_
  | with_reducible refine w_un ?_
  | with_reducible refine w_I0 ?_
  | with_reducible refine w_U ?_
  | with_reducible refine w_nil ?_
  | with_reducible refine w_cons ?_
  | with_reducible refine w_call ?_
  | with_reducible refine w_cb ?_
  | with_reducible refine w_test ?_
  | with_reducible refine w_B ?_
  | with_reducible refine w_bl ?_
  | with_reducible refine w_and ?_
  | with_reducible refine w_or ?_
  | with_reducible refine w_not ?_
  | with_reducible refine w_ife ?_
  | with_reducible refine w_gRd ?_
  | with_reducible refine w_andV ?_
  | with_reducible refine w_orV ?_
  | with_reducible refine w_notV ?_
  | with_reducible refine w_chain ?_
  | with_reducible refine w_din ?_
  | with_reducible refine w_isi_ii ?_
  | with_reducible refine w_isi_ib ?_
  | with_reducible refine w_isi_it ?_
  | with_reducible refine w_isi_st ?_
  | ((with_reducible refine w_isi_tt ?h1 ?_); (case h1 => first | assumption | exact upd_same))
  | with_reducible refine if_t rfl ?_
  | with_reducible refine if_f rfl ?_
  | with_reducible refine w_tup ?_
  | with_reducible refine w_lst ?_
  | with_reducible refine w_next ?_
  | with_reducible refine w_bm ?_
  | with_reducible refine w_sl ?_
  | with_reducible refine w_part ?_
  | with_reducible refine w_nop ?_
  | with_reducible refine w_isI ?_
  | with_reducible refine w_yes ?_
  | with_reducible refine w_gn ?_
  | with_reducible refine w_gsub ?_
  | ((with_reducible refine' w_setL ?h1 ?h2 ?_); (case h1 => first | assumption | exact upd_same); (case h2 => exact rfl))
  | with_reducible refine w_asgG ?_
  | with_reducible refine w_m1 ?_
  | with_reducible refine w_isS ?_
  | with_reducible refine w_tyS ?_
  | ((with_reducible refine' w_tyL ?h1 ?_); (case h1 => first | assumption | exact upd_same))
  | ((with_reducible refine' w_ixT ?h1 ?h2 ?_); (case h1 => first | assumption | exact upd_same); (case h2 => exact rfl))
  | ((with_reducible refine' w_ixL ?h1 ?h2 ?_); (case h1 => first | assumption | exact upd_same); (case h2 => exact rfl))
  | ((with_reducible refine w_eq ?h1 ?_); (case h1 => exact rfl))
  | ((with_reducible refine w_ne ?h1 ?_); (case h1 => exact rfl))
  | dsimp only [List.set_cons_zero, List.set_cons_succ, List.append_nil, List.cons_append, List.nil_append, cxOf]))

/-! ### fillings -/
def longF (cs : List (List Int)) (v : Int) : List (List Int) := cs.flatMap fun c => [c ++ [-v], c ++ [v]]
def fillF (vs : List Int) : List (List Int) := vs.foldl longF [[]]
theorem longF_len (cs : List (List Int)) (v : Int) : (longF cs v).length = 2 * cs.length := by
  unfold longF
  induction cs with
  | nil => rfl
  | cons c cs ih =>
    rw [List.flatMap_cons, List.length_append, ih, List.length_cons]
    show 2 + 2 * cs.length = 2 * (cs.length + 1)
    omega
theorem longF_app (cs ds : List (List Int)) (v : Int) : longF (cs ++ ds) v = longF cs v ++ longF ds v := by
  unfold longF
  rw [List.flatMap_append]
theorem longF_one (c : List Int) (v : Int) : longF [c] v = [c ++ [-v], c ++ [v]] := rfl
theorem fillF_snoc (vs : List Int) (v : Int) : fillF (vs ++ [v]) = longF (fillF vs) v := by
  unfold fillF
  rw [List.foldl_append]
  rfl
theorem fillF_len : ∀ vs : List Int, (fillF vs).length = 2 ^ vs.length := by
  intro vs
  unfold fillF
  have h : ∀ (vs : List Int) (cs : List (List Int)), (vs.foldl longF cs).length = 2 ^ vs.length * cs.length := by
    intro vs
    induction vs with
    | nil => intro cs; simp
    | cons v vs ih =>
      intro cs
      rw [List.foldl_cons, ih, longF_len, List.length_cons, Nat.pow_succ, Nat.mul_assoc]
  rw [h]
  simp
/-- what a filling is: for each variable the one or the other literal -/
def IsFill : List Int → List Int → Prop
  | [], f => f = []
  | v :: vs, f => ∃ g, IsFill vs g ∧ (f = -v :: g ∨ f = v :: g)
theorem isFill_snoc : ∀ {vs f : List Int} {v l : Int}, IsFill vs f → (l = -v ∨ l = v) → IsFill (vs ++ [v]) (f ++ [l])
  | [], f, v, l, h, hl => by
    have h : f = [] := h
    subst h
    exact ⟨[], rfl, hl.elim (fun e => .inl (by rw [e]; rfl)) (fun e => .inr (by rw [e]; rfl))⟩
  | u :: us, f, v, l, h, hl => by
    obtain ⟨g, hg, e⟩ := h
    exact ⟨g ++ [l], isFill_snoc hg hl, e.elim (fun e => .inl (by rw [e]; rfl)) (fun e => .inr (by rw [e]; rfl))⟩
theorem isFill_fold : ∀ (vs us : List Int) (cs : List (List Int)), (∀ c ∈ cs, IsFill us c) → ∀ f ∈ vs.foldl longF cs, IsFill (us ++ vs) f
  | [], us, cs, h, f, hf => by
    rw [List.append_nil]
    exact h f hf
  | v :: vs, us, cs, h, f, hf => by
    rw [List.foldl_cons] at hf
    have q := isFill_fold vs (us ++ [v]) (longF cs v) (fun c hc => by
      obtain ⟨d, hd, hc⟩ := List.mem_flatMap.mp hc
      simp only [List.mem_cons, List.not_mem_nil, or_false] at hc
      rcases hc with rfl | rfl
      · exact isFill_snoc (h d hd) (.inl rfl)
      · exact isFill_snoc (h d hd) (.inr rfl)) f hf
    rw [List.append_assoc] at q
    exact q
theorem fillF_is {vs f : List Int} (h : f ∈ fillF vs) : IsFill vs f := by
  have q := isFill_fold vs [] [[]] (fun c hc => List.mem_singleton.mp hc) f h
  exact q
theorem isFill_len : ∀ {vs f : List Int}, IsFill vs f → f.length = vs.length
  | [], f, h => by
    have h : f = [] := h
    rw [h] <;> rfl
  | v :: vs, f, h => by
    obtain ⟨g, hg, e⟩ := h
    rcases e with rfl | rfl <;> rw [List.length_cons, List.length_cons, isFill_len hg]
theorem w_catA {K : PySem.W.Frag} {H : Hp} {Q : VK} {a b : Addr} {xs ys : List Int} (ha : H a = some (.tup (xs.map V.int))) (hb : H b = some (.tup (ys.map V.int))) (hl : xs.length + ys.length ≤ 1000) (q : ∀ p H', Kept H H' → H' p = some (.tup ((xs ++ ys).map V.int)) → Q (.ref p) H') : rCatA K (.ref a) (.ref b) H Q := by
  have hz : 1000 ≤ sizeLine := by decide
  refine ⟨a, b, _, _, rfl, rfl, SqT.of ha, SqT.of hb, by rw [List.length_map, List.length_map]; omega, fun h => ?_, fun _ h => ?_, fun _ _ p hp => ?_⟩
  · have e : xs = [] := List.map_eq_nil_iff.mp h
    subst e
    exact q b H (Kept.refl _) hb
  · have e : ys = [] := List.map_eq_nil_iff.mp h
    subst e
    exact q a H (Kept.refl _) (by rw [List.append_nil]; exact ha)
  · exact q p _ (Kept.new hp) (by rw [List.map_append]; exact upd_same)
theorem w_iT {K : PySem.W.Frag} {te : TE} {σ : L2.St} {H : Hp} {R : It → Hp → Prop} (q : te σ H fun x H1 => ∃ a, x = .ref a ∧ (∃ xs, SqT K H1 a xs) ∧ R (Itt K a) H1) : iTup K te σ H R := q
theorem ClsAt.nil {H : Hp} : ClsAt H [] [] := ⟨rfl, fun i b c h => by simp at h⟩
def spLLonger : Sp := fun vs H Q _ => ∃ (a : Addr) (bs : List Addr) (cs : List (List Int)) (v : Int), vs = [.ref a, .int v] ∧ H a = some (.lst (bs.map V.ref)) ∧ ClsAt H bs cs ∧ cs.length ≤ 256 ∧ (∀ c ∈ cs, c.length ≤ 20) ∧
  ∀ p H' bs', Kept H H' → H p = none → H' p = some (.lst (bs'.map V.ref)) → ClsAt H' bs' (longF cs v) → Q (.ref p) H'
def spFill : Sp := fun vs H Q _ => ∃ (a : Addr) (ns : List Int), vs = [.ref a] ∧ H a = some (.tup (ns.map V.int)) ∧ ns.length ≤ 8 ∧
  ∀ p H' bs', Kept H H' → H p = none → H' p = some (.lst (bs'.map V.ref)) → ClsAt H' bs' (fillF ns) → Q (.ref p) H'
section
variable {P : Program} {w : World} {K : PySem.W.Frag} {mg : Str → Option Value} {base : Heap} {uG : Value} {f : Addr} {fd : FuncData}
end
end Ky

namespace Ky
open PySem PySem.Spec PyProof.Rows L2
local macro_rules | `(tactic| walk_at "rd") => `(tactic| repeat (first
  | with_reducible refine w_for1 ?_
  | with_reducible refine w_for2 ?_
  | with_reducible refine w_forL ?_
  | with_reducible refine w_forT ?_
  | with_reducible refine w_lc1 ?_
  | with_reducible refine w_lcL ?_
  | with_reducible refine w_lcT ?_
  | with_reducible refine w_seq ?_
  | with_reducible refine w_asg ?_
  | with_reducible refine w_ret ?_
  | with_reducible refine w_drop ?_
  | with_reducible refine w_ifs ?_
  | ((with_reducible refine' w_var ?hh ?_); (case hh => exact rfl))
  | with_reducible refine w_c ?_
  | with_reducible refine w_op ?_
  | with_reducible refine w_un ?_
  | with_reducible refine w_I0 ?_
  | with_reducible refine w_U ?_
  | with_reducible refine w_nil ?_
  | with_reducible refine w_cons ?_
  | with_reducible refine w_call ?_
  | with_reducible refine w_cb ?_
  | with_reducible refine w_test ?_
  | with_reducible refine w_B ?_
  | with_reducible refine w_bl ?_
  | with_reducible refine w_and ?_
  | with_reducible refine w_or ?_
  | with_reducible refine w_not ?_
  | with_reducible refine w_ife ?_
  | with_reducible refine w_gRd ?_
  | with_reducible refine w_andV ?_
  | with_reducible refine w_orV ?_
  | with_reducible refine w_notV ?_
  | with_reducible refine w_chain ?_
  | with_reducible refine w_din ?_
  | with_reducible refine w_isi_ii ?_
  | with_reducible refine w_isi_ib ?_
  | with_reducible refine w_isi_it ?_
  | with_reducible refine w_isi_st ?_
  | ((with_reducible refine w_isi_tt ?h1 ?_); (case h1 => first | assumption | exact upd_same))
  | with_reducible refine if_t rfl ?_
  | with_reducible refine if_f rfl ?_
  | with_reducible refine w_tup ?_
  | with_reducible refine w_lst ?_
  | with_reducible refine w_next ?_
  | with_reducible refine w_bm ?_
  | with_reducible refine w_sl ?_
  | with_reducible refine w_part ?_
  | with_reducible refine w_nop ?_
  | with_reducible refine w_isI ?_
  | with_reducible refine w_yes ?_
  | with_reducible refine w_gn ?_
  | with_reducible refine w_gsub ?_
  | ((with_reducible refine' w_setL ?h1 ?h2 ?_); (case h1 => first | assumption | exact upd_same); (case h2 => exact rfl))
  | with_reducible refine w_asgG ?_
  | with_reducible refine w_m1 ?_
  | with_reducible refine w_isS ?_
  | with_reducible refine w_tyS ?_
  | ((with_reducible refine' w_tyL ?h1 ?_); (case h1 => first | assumption | exact upd_same))
  | ((with_reducible refine' w_ixT ?h1 ?h2 ?_); (case h1 => first | assumption | exact upd_same); (case h2 => exact rfl))
  | ((with_reducible refine' w_ixL ?h1 ?h2 ?_); (case h1 => first | assumption | exact upd_same); (case h2 => exact rfl))
  | ((with_reducible refine w_eq ?h1 ?_); (case h1 => exact rfl))
  | ((with_reducible refine w_ne ?h1 ?_); (case h1 => exact rfl))
  | dsimp only [List.set_cons_zero, List.set_cons_succ, List.append_nil, List.cons_append, List.nil_append, cxOf]))

/-! ### a formula drawn -/
structure FormF (most hm cl : Nat) (S Hd : List Int) (rc : List (List Int)) : Prop where
  sAsc : S.Pairwise (· < ·)
  hAsc : Hd.Pairwise (· < ·)
  dis : ∀ v ∈ S, v ∉ Hd
  sVar : ∀ v ∈ S, 1 ≤ v ∧ v ≤ 999
  hVar : ∀ v ∈ Hd, 1 ≤ v ∧ v ≤ 999
  sPos : 1 ≤ S.length
  sLen : S.length ≤ most
  hLen : Hd.length ≤ hm
  rLen : rc.length ≤ cl
  rAsc : ascC rc
  cls : ∀ c ∈ rc, isClauseF c = true ∧ c.length ≤ 5 ∧ ∀ n ∈ c, absI n ∈ S ∨ absI n ∈ Hd
/-- a formula in the heap -/
structure FormAt (H : Hp) (p : Addr) (S Hd : List Int) (rc : List (List Int)) : Prop where
  ex : ∃ (s h r : Addr) (bs : List Addr), H p = some (.tup [.ref s, .ref h, .ref r]) ∧ H s = some (.tup (S.map V.int)) ∧ H h = some (.tup (Hd.map V.int)) ∧ H r = some (.tup (bs.map V.ref)) ∧ ClsAt H bs rc
theorem FormAt.kept {H H' : Hp} {p : Addr} {S Hd : List Int} {rc : List (List Int)} (h : FormAt H p S Hd rc) (k : Kept H H') : FormAt H' p S Hd rc := by
  obtain ⟨s, t, r, bs, h1, h2, h3, h4, h5⟩ := h.ex
  exact ⟨s, t, r, bs, k.tup h1, k.tup h2, k.tup h3, k.tup h4, h5.kept k⟩
theorem FormAt.keptC {d c : Addr} {H H' : Hp} {p : Addr} {S Hd : List Int} {rc : List (List Int)} (h : FormAt H p S Hd rc) (k : KeptC d c H H') (hd : DrwC d c H) : FormAt H' p S Hd rc := by
  obtain ⟨s, t, r, bs, h1, h2, h3, h4, h5⟩ := h.ex
  exact ⟨s, t, r, bs, k.tup hd h1, k.tup hd h2, k.tup hd h3, k.tup hd h4, h5.keptC k hd⟩
def spLFormula : Sp := fun vs H Q _ => ∃ (d c : Addr) (most hm cl : Nat), vs = [.ref d, .int most, .int hm, .int cl] ∧ 1 ≤ most ∧ most + hm ≤ 11 ∧ cl ≤ 60 ∧ DrwC d c H ∧
  ∀ p H' S Hd rc, KeptC d c H H' → FormAt H' p S Hd rc → FormF most hm cl S Hd rc → Q (.ref p) H'
theorem isLit_of {u z : Int} (h : 1 ≤ u ∧ u ≤ 999) (hz : z = 1 ∨ z = -1) : isLit (u * z) = true ∧ absI (u * z) = u := by
  have e : absI (u * z) = u := by
    unfold absI
    rcases hz with rfl | rfl
    · rw [Int.mul_one, if_neg (by omega)]
    · rw [Int.mul_neg, Int.mul_one, if_pos (by omega)]
      omega
  refine ⟨?_, e⟩
  unfold isLit isVar
  rw [e]
  simp [h.1, h.2]
theorem erase_map {α β : Type} (g : α → β) : ∀ (xs : List α) (k : Nat), (xs.map g).eraseIdx k = (xs.eraseIdx k).map g
  | [], _ => rfl
  | _ :: _, 0 => rfl
  | x :: xs, k + 1 => by
    rw [List.map_cons, List.eraseIdx_cons_succ, List.eraseIdx_cons_succ, List.map_cons, erase_map g xs k]
theorem erase_perm {α : Type} : ∀ {xs : List α} {k : Nat} {y : α}, xs[k]? = some y → (y :: xs.eraseIdx k).Perm xs
  | [], _, _, h => by simp at h
  | x :: xs, 0, y, h => by
    have e : x = y := by simpa using h
    subst e
    exact List.Perm.refl _
  | x :: xs, k + 1, y, h => by
    rw [List.eraseIdx_cons_succ]
    have q := erase_perm (xs := xs) (k := k) (y := y) (by simpa using h)
    exact (List.Perm.swap x y _).trans (q.cons x)
theorem lit_ne {x : Int} (h : isLit x = true) : x ≠ 0 := fun e => by
  subst e
  exact absurd h (by decide)
theorem noBoth_snoc {row : List Int} {x : Int} (h : noBoth row) (h2 : -x ∉ row) (h3 : x ≠ 0) : noBoth (row ++ [x]) := fun l hl hn => by
  rcases List.mem_append.mp hl with a | a
  · rcases List.mem_append.mp hn with b | b
    · exact h l a b
    · have e : -l = x := List.mem_singleton.mp b
      exact h2 (by rw [← e, Int.neg_neg]; exact a)
  · have e : l = x := List.mem_singleton.mp a
    subst e
    rcases List.mem_append.mp hn with b | b
    · exact h2 b
    · have e : -l = l := List.mem_singleton.mp b
      omega
theorem lit_all {ls : List Int} (h : ∀ n ∈ ls, isLit n = true) : ∀ n ∈ ls, n.natAbs < 2 ^ 60 := fun n hn => lit_small (h n hn)
section
variable {P : Program} {w : World} {K : PySem.W.Frag} {mg : Str → Option Value} {base : Heap} {uG : Value} {f : Addr} {fd : FuncData}
theorem ok_l_formula (F : Fun K "_law_formula" "_law_formula" s_l_formula f fd) (T : Tx K mg uG) (D_l_take : Df P w K mg base 1 "_law_take" ["draw", "many"] spTakeC) (D_l_clause : Df P w K mg base 2 "_law_clause" ["literals"] spLClause) (D_l_sorted : Df P w K mg base 2 "_law_sorted" ["rows"] spLSorted) : FnOk P w K mg base CX0 3 f fd ["draw", "most", "hidden_most", "clauses"] spLFormula := by
  refine F.ok sc_l_formula (fun vs H Q E h => ?_) (fun cdv A outer s H vs Q E hr h => ?_)
  · obtain ⟨d, c, m, hm, cl, rfl, _⟩ := h
    rfl
  · obtain ⟨d, c, most, hm, cl, rfl, m0, m1, cl1, hD, k⟩ := h
    have hsl : 1001 ≤ sizeLine := by decide
    refine ⟨_, (pss_cons (ps_set (i := 4) sc_l_formula.nd rfl (.inl rfl) (pe_ix (ix_listK (K := K) rfl) (pe_lst (pa_cons pe_int (pa_cons pe_int (pa_cons pe_int (pa_cons pe_int pa_nil))))) (pe_df D_l_take (hr.mono (by decide)) (by rfl) (pa_cons (pv 0) (pa_cons pe_int pa_nil))) (fun _ _ => rfl)))
    (pss_cons (ps_set (i := 5) sc_l_formula.nd rfl (.inl rfl) (pe_op op_add pe_int (pe_df D_l_take (hr.mono (by decide)) (by rfl) (pa_cons (pv 0) (pa_cons (pv 1) pa_nil)))))
    (pss_cons (ps_set (i := 6) sc_l_formula.nd rfl (.inl rfl) (pe_df D_l_take (hr.mono (by decide)) (by rfl) (pa_cons (pv 0) (pa_cons (pe_op op_add (pv 2) pe_int) pa_nil))))
    (pss_cons (ps_set (i := 7) sc_l_formula.nd rfl (.inl rfl) (pe_lst (pa_cons (pe_op op_add pe_int (pe_df D_l_take (hr.mono (by decide)) (by rfl) (pa_cons (pv 0) (pa_cons pe_int pa_nil)))) pa_nil)))
    (pss_cons (ps_for PassesOwn.never rfl (pi_range2 (by rfl) T.z_range (pa_cons pe_int (pa_cons (pe_op op_add (pv 5) (pv 6)) pa_nil))) (pg_name (i := 8) sc_l_formula.nd rfl (.inl rfl))
      (pss_one (ps_expr (pe_bm PySem.F.plainAttrs_list PySem.F.slot_list_append PySem.F.type_list_append mt_append (pv 7) (pa_cons (pe_op op_add (pe_op op_add (pe_ix (ix_listK (K := K) rfl) (pv 7) (pe_op op_sub (pv 8) pe_int) (fun _ _ => rfl)) pe_int) (pe_df D_l_take (hr.mono (by decide)) (by rfl) (pa_cons (pv 0) (pa_cons (pv 4) pa_nil)))) pa_nil)))))
    (pss_cons (ps_set (i := 9) sc_l_formula.nd rfl (.inl rfl) (pe_lst pa_nil))
    (pss_cons (ps_for PassesOwn.never rfl (pi_range1 (by rfl) T.z_range (pa_cons (pv 6) pa_nil)) (pg_name (i := 8) sc_l_formula.nd rfl (.inl rfl))
      (pss_one (ps_expr (pe_bm PySem.F.plainAttrs_list PySem.F.slot_list_append PySem.F.type_list_append mt_append (pv 9) (pa_cons (pe_bm PySem.F.plainAttrs_list PySem.F.slot_list_pop PySem.F.type_list_pop mt_popAt (pv 7) (pa_cons (pe_df D_l_take (hr.mono (by decide)) (by rfl) (pa_cons (pv 0) (pa_cons (pe_callB (call_lenK (K := K) rfl) (by rfl) T.z_len (by decide +kernel) (pa_cons (pv 7) pa_nil)) pa_nil))) pa_nil)) pa_nil)))))
    (pss_cons (ps_set (i := 10) sc_l_formula.nd rfl (.inl rfl) (pe_op op_cat (pv 7) (pv 9)))
    (pss_cons (ps_set (i := 11) sc_l_formula.nd rfl (.inl rfl) (pe_lst pa_nil))
    (pss_cons (ps_for PassesOwn.never rfl (pi_range1 (by rfl) T.z_range (pa_cons (pe_df D_l_take (hr.mono (by decide)) (by rfl) (pa_cons (pv 0) (pa_cons (pe_op op_add (pv 3) pe_int) pa_nil))) pa_nil)) (pg_name (i := 8) sc_l_formula.nd rfl (.inl rfl))
      (pss_cons (ps_set (i := 12) sc_l_formula.nd rfl (.inl rfl) (pe_lst pa_nil))
    (pss_cons (ps_set (i := 13) sc_l_formula.nd rfl (.inl rfl) (pe_ix (ix_listK (K := K) rfl) (pe_lst (pa_cons pe_int (pa_cons pe_int (pa_cons pe_int (pa_cons pe_int (pa_cons pe_int (pa_cons pe_int (pa_cons pe_int (pa_cons pe_int pa_nil))))))))) (pe_df D_l_take (hr.mono (by decide)) (by rfl) (pa_cons (pv 0) (pa_cons pe_int pa_nil))) (fun _ _ => rfl)))
    (Evl.pss_cut (ps_if (PW.pt (pw_and (pt_cmpR op_eq (pv 13) pe_int (nomark _)) (pw_and1 (pt_cmpR op_gt (pe_df D_l_take (hr.mono (by decide)) (by rfl) (pa_cons (pv 0) (pa_cons pe_int pa_nil))) pe_int (nomark _)))))
      (pss_one (ps_set (i := 13) sc_l_formula.nd rfl (.inl rfl) pe_int))
      pss_nil)
    (pss_cons (ps_for PassesOwn.never rfl (pi_range1 (by rfl) T.z_range (pa_cons (pv 13) pa_nil)) (pg_name (i := 14) sc_l_formula.nd rfl (.inl rfl))
      (pss_cons (ps_set (i := 15) sc_l_formula.nd rfl (.inl rfl) (pe_op op_mulW (pe_ix (ix_listK (K := K) rfl) (pv 10) (pe_df D_l_take (hr.mono (by decide)) (by rfl) (pa_cons (pv 0) (pa_cons (pe_callB (call_lenK (K := K) rfl) (by rfl) T.z_len (by decide +kernel) (pa_cons (pv 10) pa_nil)) pa_nil))) (fun _ _ => rfl)) (pe_ix (ix_listK (K := K) rfl) (pe_lst (pa_cons pe_int (pa_cons (pe_un un_neg pe_int) pa_nil))) (pe_df D_l_take (hr.mono (by decide)) (by rfl) (pa_cons (pv 0) (pa_cons pe_int pa_nil))) (fun _ _ => rfl))))
    (pss_one (ps_if (PW.pt (pw_and (pt_cmpR (opK (K := K) (r := fun K => rIn K true) rfl op_notIn_seq) (pv 15) (pv 12) (by rfl)) (pw_and1 (pt_cmpR (opK (K := K) (r := fun K => rIn K true) rfl op_notIn_seq) (pe_un un_neg (pv 15)) (pv 12) (by rfl)))))
      (pss_one (ps_expr (pe_bm PySem.F.plainAttrs_list PySem.F.slot_list_append PySem.F.type_list_append mt_append (pv 12) (pa_cons (pv 15) pa_nil))))
      pss_nil))))
    (pss_one (ps_if (pt_cmpR (opK (K := K) (r := rNotInD) rfl (op_notInD hr.u65)) (pe_df D_l_clause (hr.mono (by decide)) (by rfl) (pa_cons (pv 12) pa_nil)) (pv 11) (by rfl))
      (pss_one (ps_expr (pe_bm PySem.F.plainAttrs_list PySem.F.slot_list_append PySem.F.type_list_append mt_append (pv 11) (pa_cons (pe_df D_l_clause (hr.mono (by decide)) (by rfl) (pa_cons (pv 12) pa_nil)) pa_nil))))
      pss_nil)))))))
    (pss_one (ps_ret (pe_tup (pa_cons (pe_callTy call_tuple_of (by rfl) T.z_tuple (by decide +kernel) (pa_cons (pe_callB (cr_sortedD hr.units) (by rfl) T.z_sorted (by decide +kernel) (pa_cons (pv 7) pa_nil)) pa_nil)) (pa_cons (pe_callTy call_tuple_of (by rfl) T.z_tuple (by decide +kernel) (pa_cons (pe_callB (cr_sortedD hr.units) (by rfl) T.z_sorted (by decide +kernel) (pa_cons (pv 9) pa_nil)) pa_nil)) (pa_cons (pe_callTy call_tuple_of (by rfl) T.z_tuple (by decide +kernel) (pa_cons (pe_df D_l_sorted (hr.mono (by decide)) (by rfl) (pa_cons (pv 11) pa_nil)) pa_nil)) pa_nil)))))))))))))))), ?_⟩
    rw [show start n_l_formula [(.ref d : V), (.int most : V), (.int hm : V), (.int cl : V)] = ([some (.ref d), some (.int most), some (.int hm), some (.int cl), none, none, none, none, none, none, none, none, none, none, none, none] : List (Option V)) from rfl]
    walk_at "rd"
    refine ⟨by show 4 ≤ sizeLine; omega, fun p1 hp1 => ?_⟩
    have k1 : KeptC d c H (upd H p1 (.lst [V.int 1, V.int 1, V.int 3, V.int 90])) := (Kept.new hp1).toC
    have np1 := hD.old hp1
    walk_at "rd"
    refine ⟨d, c, 4, rfl, by decide, by decide, k1.drw hD, fun r1 H1 l1 g1 k2 => ?_⟩
    obtain ⟨step, hst, est⟩ := pick_int (ns := [1, 1, 3, 90]) l1 g1
    refine w_ixL (k2.lst np1.1 upd_same) est ?_
    have hst' : 1 ≤ step ∧ step ≤ 90 := by
      simp only [List.mem_cons, List.not_mem_nil, or_false] at hst
      rcases hst with rfl | rfl | rfl | rfl <;> omega
    have kA := k1.trans k2
    have hD1 := kA.drw hD
    walk_at "rd"
    refine ⟨d, c, most, rfl, by omega, by omega, hD1, fun r2 H2 l2 g2 k3 => ?_⟩
    have kB := kA.trans k3
    have hD2 := k3.drw hD1
    walk_at "rd"
    refine ⟨d, c, hm + 1, rfl, by omega, by omega, hD2, fun r3 H3 l3 g3 k4 => ?_⟩
    have kC := kB.trans k4
    have hD3 := k4.drw hD2
    walk_at "rd"
    refine ⟨d, c, 3, rfl, by decide, by decide, hD3, fun r4 H4 l4 g4 k5 => ?_⟩
    have kE := kC.trans k5
    have hD4 := k5.drw hD3
    walk_at "rd"
    refine ⟨by show 1 ≤ sizeLine; omega, fun N hN => ?_⟩
    have nN := hD4.old hN
    have kN : KeptC d c H4 (upd H4 N (.lst [V.int (1 + r4)])) := (Kept.new hN).toC
    obtain ⟨ct, rfl⟩ : ∃ m : Nat, r2 = (m : Int) := ⟨r2.toNat, by omega⟩
    obtain ⟨ex, rfl⟩ : ∃ m : Nat, r3 = (m : Int) := ⟨r3.toNat, by omega⟩
    walk_at "rd"
    refine ⟨1, 1 + (ct : Int) + (ex : Int), rfl, ⟨by decide, by decide, by omega, by omega⟩, ?_⟩
    rw [show (1 + (ct : Int) + (ex : Int) - 1).toNat = ct + ex by omega]
    refine FrJ.range (fun i σ' H' => ∃ (v8 : Option V) (nm : List Int), σ' = [some (.ref d), some (.int most), some (.int hm), some (.int cl), some (.int step), some (.int (1 + (ct : Int))), some (.int (ex : Int)), some (.ref N), v8, none, none, none, none, none, none, none] ∧ KeptC d c H4 H' ∧ H' N = some (.lst (nm.map V.int)) ∧ nm.length = 1 + i ∧ nm.Pairwise (· < ·) ∧ (∀ v ∈ nm, 1 ≤ v) ∧ ∀ v ∈ nm, v ≤ 3 + 90 * (i : Int) ∧ v ≤ nm.getD i 0)
      ⟨none, [1 + r4], rfl, kN, upd_same, rfl, by simp, fun v hv => by rw [List.mem_singleton.mp hv]; omega, fun v hv => by rw [List.mem_singleton.mp hv]; exact ⟨by omega, Int.le_refl _⟩⟩ ?_ ?_
    · rintro i σ' H' hi ⟨v8, nm, rfl, k6, hNl, hnl, hna, hn1, hn2⟩
      have hD6 := k6.drw hD4
      walk_at "rd"
      have hxi : atI (nm.map V.int) (1 + (i : Int) - 1) = some (V.int (nm.getD i 0)) := by
        rw [show (1 + (i : Int) - 1) = (i : Int) by omega]
        refine atI_nat ?_
        rw [List.getElem?_map, List.getD_eq_getElem?_getD, List.getElem?_eq_getElem (by omega)] <;> rfl
      refine w_ixL hNl hxi ?_
      walk_at "rd"
      refine ⟨d, c, step, rfl, by omega, by omega, hD6, fun r5 H7 l5 g5 k7 => ?_⟩
      have hNl7 := k7.lst nN.1 hNl
      have hgm : nm.getD i 0 ∈ nm := by
        rw [List.getD_eq_getElem?_getD, List.getElem?_eq_getElem (by omega)]
        exact List.getElem_mem _
      have hg3 := hn2 _ hgm
      have hg1 := hn1 _ hgm
      walk_at "rd"
      refine ⟨_, _, _, rfl, rfl, hNl7, by rw [List.length_map]; omega, _, nm ++ [nm.getD i 0 + 1 + r5], rfl, KeptC.mut (k6.trans k7) hN, by rw [List.map_append]; exact upd_same, by rw [List.length_append, hnl]; show 1 + i + 1 = 1 + (i + 1); omega, ?_, fun v hv => ?_, fun v hv => ?_⟩
      · refine List.pairwise_append.mpr ⟨hna, by simp, fun a ha b hb => ?_⟩
        rw [List.mem_singleton.mp hb]
        have := (hn2 a ha).2
        omega
      · rcases List.mem_append.mp hv with h | h
        · exact hn1 v h
        · rw [List.mem_singleton.mp h]
          omega
      · have eg : (nm ++ [nm.getD i 0 + 1 + r5]).getD (i + 1) 0 = nm.getD i 0 + 1 + r5 := by
          rw [List.getD_eq_getElem?_getD, List.getElem?_append_right (by omega), show i + 1 - nm.length = 0 by omega] <;> rfl
        rw [eg]
        rcases List.mem_append.mp hv with h | h
        · have := hn2 v h
          omega
        · rw [List.mem_singleton.mp h]
          omega
    rintro σ' H5 ⟨v8, nm, rfl, k6, hNl, hnl, hna, hn1, hn2⟩
    have hvar : ∀ v ∈ nm, 1 ≤ v ∧ v ≤ 999 := fun v hv => ⟨hn1 v hv, by have := (hn2 v hv).1; omega⟩
    have kF := kE.trans k6
    have hD5 := k6.drw hD4
    walk_at "rd"
    refine ⟨Nat.zero_le _, fun Z hZ => ?_⟩
    have nZ := hD5.old hZ
    have kZ : KeptC d c H5 (upd H5 Z (.lst [])) := (Kept.new hZ).toC
    have neNZ : N ≠ Z := fun e => by
      rw [e, hZ] at hNl
      cases hNl
    have hNZ : (upd H5 Z (.lst [])) N = some (.lst (nm.map V.int)) := (Kept.new hZ).lst hNl
    walk_at "rd"
    have kZ4 : KeptC d c H4 (upd H5 Z (.lst [])) := KeptC.mut k6 (k6.free _ hZ)
    refine Fr1.mk (by omega) (fun i σ' H' => ∃ (v8 : Option V) (nm2 hd2 : List Int), σ' = [some (.ref d), some (.int most), some (.int hm), some (.int cl), some (.int step), some (.int (1 + (ct : Int))), some (.int (ex : Int)), some (.ref N), v8, some (.ref Z), none, none, none, none, none, none] ∧ KeptC d c H4 H' ∧ H' N = some (.lst (nm2.map V.int)) ∧ H' Z = some (.lst (hd2.map V.int)) ∧ nm2.Pairwise (· < ·) ∧ (hd2 ++ nm2).Perm nm ∧ hd2.length = i)
      ⟨v8, nm, [], rfl, kZ4, hNZ, upd_same, hna, List.Perm.refl _, rfl⟩ ?_ ?_
    · rintro i σ' H' hi ⟨v8, nm2, hd2, rfl, k7, hN7, hZ7, ha2, hp2, hl2⟩
      have hD7 := k7.drw hD4
      have hnl2 : hd2.length + nm2.length = 1 + (ct + ex) := by rw [← List.length_append, hp2.length_eq, hnl]
      walk_at "rd"
      refine ⟨N, nm2.map V.int, rfl, .inl (SqL.of hN7), ?_⟩
      walk_at "rd"
      refine ⟨d, c, _, rfl, by rw [List.length_map]; omega, by rw [List.length_map]; omega, hD7, fun r H8 l8 g8 k8 => ?_⟩
      rw [List.length_map] at g8
      obtain ⟨q, rfl⟩ : ∃ m : Nat, r = (m : Int) := ⟨r.toNat, by omega⟩
      have hq : q < nm2.length := by omega
      have hN8 := k8.lst nN.1 hN7
      have hZ8 := k8.lst nZ.1 hZ7
      have hqy : nm2[q]? = some nm2[q] := List.getElem?_eq_getElem hq
      generalize nm2[q] = y at hqy
      refine ⟨N, nm2.map V.int, q, q, V.int y, rfl, rfl, hN8, by omega, by omega, ?_, by rw [List.getElem?_map, hqy] <;> rfl, ?_⟩
      · rw [List.length_map]
        unfold seqIndex?
        simp only [show ¬ ((q : Int) < 0) by omega, if_false]
        rw [if_pos (by rw [Bool.and_eq_true]; exact ⟨decide_eq_true (by omega), decide_eq_true (by omega)⟩), Int.toNat_natCast]
      rw [erase_map]
      have hZ9 : upd H8 N (.lst ((nm2.eraseIdx q).map V.int)) Z = some (.lst (hd2.map V.int)) := by rw [upd_ne (Ne.symm neNZ)]; exact hZ8
      walk_at "rd"
      refine ⟨_, _, _, rfl, rfl, hZ9, by rw [List.length_map]; omega, _, nm2.eraseIdx q, hd2 ++ [y], rfl, KeptC.mut (KeptC.mut (k7.trans k8) hN) (k6.free _ hZ), by rw [upd_ne neNZ]; exact upd_same, by rw [List.map_append]; exact upd_same, List.Pairwise.sublist (List.eraseIdx_sublist _ _) ha2, ?_, by rw [List.length_append, hl2] <;> rfl⟩
      rw [List.append_assoc]
      exact ((erase_perm hqy).append_left hd2).trans hp2
    rintro σ' H7 ⟨v8, nm2, hd2, rfl, k7, hN7, hZ7, ha2, hp2, hl2⟩
    have hnl2 : hd2.length + nm2.length = 1 + (ct + ex) := by rw [← List.length_append, hp2.length_eq, hnl]
    have hD7 := k7.drw hD4
    have hnd : (hd2 ++ nm2).Nodup := hp2.nodup_iff.mpr (hna.imp fun {a b} h => by omega)
    obtain ⟨hnd1, hnd2, hnd3⟩ := List.nodup_append.mp hnd
    have hv1 : ∀ v ∈ nm2, 1 ≤ v ∧ v ≤ 999 := fun v hv => hvar v (hp2.mem_iff.mp (List.mem_append_right _ hv))
    have hv2 : ∀ v ∈ hd2, 1 ≤ v ∧ v ≤ 999 := fun v hv => hvar v (hp2.mem_iff.mp (List.mem_append_left _ hv))
    walk_at "rd"
    refine ⟨N, Z, _, _, rfl, rfl, hN7, hZ7, by rw [List.length_map, List.length_map]; omega, fun V1 hV1 => ?_⟩
    have nV := hD7.old hV1
    have kV : KeptC d c H7 (upd H7 V1 (.lst (nm2.map V.int ++ hd2.map V.int))) := (Kept.new hV1).toC
    have hVl : upd H7 V1 (.lst (nm2.map V.int ++ hd2.map V.int)) V1 = some (.lst ((nm2 ++ hd2).map V.int)) := by rw [List.map_append]; exact upd_same
    have hevl : (nm2 ++ hd2).length = 1 + (ct + ex) := by rw [List.length_append]; omega
    have hev : ∀ v ∈ nm2 ++ hd2, 1 ≤ v ∧ v ≤ 999 := fun v hv => (List.mem_append.mp hv).elim (hv1 v) (hv2 v)
    generalize upd H7 V1 (.lst (nm2.map V.int ++ hd2.map V.int)) = H8 at kV hVl ⊢
    have hD8 := kV.drw hD7
    walk_at "rd"
    refine ⟨Nat.zero_le _, fun R hR => ?_⟩
    have nR := hD8.old hR
    have kR : KeptC d c H8 (upd H8 R (.lst [])) := (Kept.new hR).toC
    walk_at "rd"
    refine ⟨d, c, cl + 1, rfl, by omega, by omega, kR.drw hD8, fun r H9 l9 g9 k9 => ?_⟩
    obtain ⟨rc, rfl⟩ : ∃ m : Nat, r = (m : Int) := ⟨r.toNat, by omega⟩
    have k10 := kR.trans k9
    walk_at "rd"
    refine Fr1.mk (by omega) (fun i σ' H' => ∃ (v8 v12 v13 v14 v15 : Option V) (bs : List Addr) (ds : List (List Int)), σ' = [some (.ref d), some (.int most), some (.int hm), some (.int cl), some (.int step), some (.int (1 + (ct : Int))), some (.int (ex : Int)), some (.ref N), v8, some (.ref Z), some (.ref V1), some (.ref R), v12, v13, v14, v15] ∧ KeptC d c H8 H' ∧ H' R = some (.lst (bs.map V.ref)) ∧ ClsAt H' bs ds ∧ ds.Nodup ∧ ds.length ≤ i ∧ ∀ x ∈ ds, isClauseF x = true ∧ x.length ≤ 5 ∧ ∀ n ∈ x, absI n ∈ nm2 ∨ absI n ∈ hd2)
      ⟨v8, none, none, none, none, [], [], rfl, k10, k9.lst nR.1 upd_same, ClsAt.nil, List.nodup_nil, Nat.zero_le _, fun x hx => by simp at hx⟩ ?_ ?_
    · rintro i σ' H' hi ⟨v8, v12, v13, v14, v15, bs, ds, rfl, k11, hRb, hbs, hdn, hdl, hdc⟩
      have hD11 := k11.drw hD8
      have hV11 := k11.lst nV.1 hVl
      walk_at "rd"
      refine ⟨Nat.zero_le _, fun W hW => ?_⟩
      have nW := hD11.old hW
      have kW : KeptC d c H' (upd H' W (.lst [])) := (Kept.new hW).toC
      walk_at "rd"
      refine ⟨by show 8 ≤ sizeLine; omega, fun p2 hp2' => ?_⟩
      have kp2 : KeptC d c (upd H' W (.lst [])) (upd (upd H' W (.lst [])) p2 (.lst [V.int 1, V.int 2, V.int 3, V.int 2, V.int 3, V.int 4, V.int 5, V.int 0])) := (Kept.new hp2').toC
      have np2 := (kW.drw hD11).old hp2'
      walk_at "rd"
      refine ⟨d, c, 8, rfl, by decide, by decide, kp2.drw (kW.drw hD11), fun r2 H12 l2 g2 k12 => ?_⟩
      obtain ⟨sz, hsz, esz⟩ := pick_int (ns := [1, 2, 3, 2, 3, 4, 5, 0]) l2 g2
      refine w_ixL (k12.lst np2.1 upd_same) esz ?_
      have hsz' : 0 ≤ sz ∧ sz ≤ 5 := by
        simp only [List.mem_cons, List.not_mem_nil, or_false] at hsz
        rcases hsz with rfl | rfl | rfl | rfl | rfl | rfl | rfl | rfl <;> omega
      have k13 := kW.trans (kp2.trans k12)
      have hW12 := (kp2.trans k12).lst nW.1 upd_same
      have hD12 := k13.drw hD11
      walk_at "rd"
      refine ⟨fun σ' H'' => ∃ n : Nat, n ≤ 5 ∧ σ' = [some (.ref d), some (.int most), some (.int hm), some (.int cl), some (.int step), some (.int (1 + (ct : Int))), some (.int (ex : Int)), some (.ref N), some (.int (i : Int)), some (.ref Z), some (.ref V1), some (.ref R), some (.ref W), some (.int (n : Int)), v14, v15] ∧ KeptC d c H12 H'', ?_, ?_⟩
      · have hz0 : ∃ n : Nat, n ≤ 5 ∧ sz = (n : Int) := ⟨sz.toNat, by omega, by omega⟩
        obtain ⟨n, hn5, rfl⟩ := hz0
        walk_at "rd"
        refine ite2 (fun _ => ?_) (fun _ => ⟨n, hn5, rfl, KeptC.refl _⟩)
        walk_at "rd"
        refine ⟨d, c, 4, rfl, by decide, by decide, hD12, fun r3 H13 l3 g3 k14 => ?_⟩
        walk_at "rd"
        refine ite2 (fun _ => ?_) (fun _ => ⟨n, hn5, rfl, k14⟩)
        walk_at "rd"
        exact ⟨2, by decide, rfl, k14⟩
      · rintro σ' H13 ⟨n, hn5, rfl, k14⟩
        have k15 := k13.trans k14
        have hD13 := k14.drw hD12
        have hW13 := k14.lst nW.1 hW12
        have hR13 := k15.lst nR.1 hRb
        have hV13 := k15.lst nV.1 hV11
        have hbs13 := hbs.keptC k15 hD11
        walk_at "rd"
        refine Fr1.mk (by omega) (fun j σ' Hx => ∃ (v14 v15 : Option V) (row : List Int), σ' = [some (.ref d), some (.int most), some (.int hm), some (.int cl), some (.int step), some (.int (1 + (ct : Int))), some (.int (ex : Int)), some (.ref N), some (.int (i : Int)), some (.ref Z), some (.ref V1), some (.ref R), some (.ref W), some (.int (n : Int)), v14, v15] ∧ KeptC d c H' Hx ∧ Hx W = some (.lst (row.map V.int)) ∧ row.Nodup ∧ noBoth row ∧ row.length ≤ j ∧ ∀ x ∈ row, isLit x = true ∧ (absI x ∈ nm2 ∨ absI x ∈ hd2))
          ⟨v14, v15, [], rfl, k15, hW13, List.nodup_nil, fun l h => by simp at h, Nat.zero_le _, fun x hx => by simp at hx⟩ ?_ ?_
        · rintro j σ' H14 hj ⟨v14, v15, row, rfl, k16, hWr, hrn, hrb, hrl, hrx⟩
          have hD14 := k16.drw hD11
          have hV14 := k16.lst nV.1 hV11
          walk_at "rd"
          refine ⟨V1, _, rfl, .inl (SqL.of hV14), ?_⟩
          walk_at "rd"
          refine ⟨d, c, _, rfl, by rw [List.length_map]; omega, by rw [List.length_map]; omega, hD14, fun r5 H15 l5 g5 k17 => ?_⟩
          rw [List.length_map] at g5
          have hD15 := k17.drw hD14
          obtain ⟨u, hu, eu⟩ := pick_int (ns := nm2 ++ hd2) l5 g5
          refine w_ixL (k17.lst nV.1 hV14) eu ?_
          walk_at "rd"
          refine ⟨by show 2 ≤ sizeLine; omega, fun p6 hp6 => ?_⟩
          have kp6 : KeptC d c H15 (upd H15 p6 (.lst [V.int 1, V.int (-1)])) := (Kept.new hp6).toC
          have np6 := hD15.old hp6
          walk_at "rd"
          refine ⟨d, c, 2, rfl, by decide, by decide, kp6.drw hD15, fun r6 H16 l6 g6 k18 => ?_⟩
          obtain ⟨z, hz, ez⟩ := pick_int (ns := [1, -1]) l6 g6
          refine w_ixL (k18.lst np6.1 upd_same) ez ?_
          have hz' : z = 1 ∨ z = -1 := by simpa using hz
          have hu9 := hev u hu
          refine w_I (mulW (by omega) (by omega)) ?_
          obtain ⟨hlit, hab⟩ := isLit_of hu9 hz'
          have kk := k17.trans (kp6.trans k18)
          have hW16 := kk.lst nW.1 hWr
          have hux : absI (u * z) ∈ nm2 ∨ absI (u * z) ∈ hd2 := by rw [hab]; exact List.mem_append.mp hu
          generalize u * z = x at hlit hux ⊢
          walk_at "rd"
          refine w_ninLn hW16 ?_
          refine ⟨_, rfl, ?_⟩
          by_cases hx1 : x ∉ row
          · refine if_t (decide_eq_true hx1) ?_
            walk_at "rd"
            refine w_ninLn hW16 ?_
            refine ⟨_, rfl, ?_⟩
            by_cases hx2 : -x ∉ row
            · refine if_t (decide_eq_true hx2) ?_
              walk_at "rd"
              refine ⟨_, _, _, rfl, rfl, hW16, by rw [List.length_map]; omega, _, _, row ++ [x], rfl, ?_, by rw [List.map_append]; exact upd_same, ?_, ?_, by rw [List.length_append]; show row.length + 1 ≤ j + 1; omega, fun y hy => ?_⟩
              · exact KeptC.mut (k16.trans kk) hW
              · exact List.nodup_append.mpr ⟨hrn, by simp, fun a ha b hb => by rw [List.mem_singleton.mp hb]; exact fun e => hx1 (e ▸ ha)⟩
              · exact noBoth_snoc hrb hx2 (lit_ne hlit)
              · rcases List.mem_append.mp hy with h | h
                · exact hrx y h
                · rw [List.mem_singleton.mp h]
                  exact ⟨hlit, hux⟩
            · refine if_f (decide_eq_false hx2) ?_
              walk_at "rd"
              exact ⟨_, _, row, rfl, k16.trans kk, hW16, hrn, hrb, by omega, hrx⟩
          · refine if_f (decide_eq_false hx1) ?_
            walk_at "rd"
            exact ⟨_, _, row, rfl, k16.trans kk, hW16, hrn, hrb, by omega, hrx⟩
        · rintro σ' H14 ⟨v14, v15, row, rfl, k16, hWr, hrn, hrb, hrl, hrx⟩
          have hR14 := k16.lst nR.1 hRb
          have hbs14 := hbs.keptC k16 hD11
          have hlit : ∀ n ∈ row, isLit n = true := fun n hn => (hrx n hn).1
          walk_at "rd"
          refine ⟨W, row, rfl, hWr, by omega, lit_all hlit, fun u H15 k17 hu hu15 => ?_⟩
          have hcl : isClauseF (srtBy keyD row) = true := isClauseF_srt hrn hrb hlit
          have hcz : (srtBy keyD row).length ≤ 5 := by rw [(srtBy_perm _ _).length_eq]; omega
          have hcx : ∀ n ∈ srtBy keyD row, absI n ∈ nm2 ∨ absI n ∈ hd2 := fun n hn => (hrx n (mem_srtBy.mp hn)).2
          walk_at "rd"
          refine w_ninL (k17.lst hR14) (hbs14.kept k17) hu15 ?_
          refine ⟨_, rfl, ?_⟩
          by_cases hin : srtBy keyD row ∉ ds
          · refine if_t (decide_eq_true hin) ?_
            have hR15 := k17.lst hR14
            walk_at "rd"
            refine ⟨W, row, rfl, k17.lst hWr, by omega, lit_all hlit, fun u2 H16 k18 hu2 hu16 => ?_⟩
            have hR16 := k18.lst hR15
            refine ⟨_, _, _, rfl, rfl, hR16, by rw [List.length_map, hbs.1]; omega, _, _, _, _, _, bs ++ [u2], ds ++ [srtBy keyD row], rfl, KeptC.mut (k11.trans (k16.trans (k17.trans k18).toC)) hR, by rw [List.map_append]; exact upd_same, clsAt_upd (clsAt_snoc (hbs14.kept (k17.trans k18)) hu16) hR16, ?_, by rw [List.length_append]; show ds.length + 1 ≤ i + 1; omega, fun x hx => ?_⟩
            · exact List.nodup_append.mpr ⟨hdn, by simp, fun a ha b hb => by rw [List.mem_singleton.mp hb]; exact fun e => hin (e ▸ ha)⟩
            · rcases List.mem_append.mp hx with h | h
              · exact hdc x h
              · rw [List.mem_singleton.mp h]
                exact ⟨hcl, hcz, hcx⟩
          · refine if_f (decide_eq_false hin) ?_
            walk_at "rd"
            exact ⟨_, _, _, _, _, bs, ds, rfl, k11.trans (k16.trans k17.toC), k17.lst hR14, hbs14.kept k17, hdn, by omega, hdc⟩
    · rintro σ' H' ⟨v8, v12, v13, v14, v15, bs, ds, rfl, k11, hRb, hbs, hdn, hdl, hdc⟩
      have hD11 := k11.drw hD8
      have kAll := ((kE.trans k7).trans kV).trans k11
      have hN11 := k11.lst nN.1 ((kV).lst nN.1 hN7)
      have hZ11 := k11.lst nZ.1 ((kV).lst nZ.1 hZ7)
      walk_at "rd"
      refine ⟨N, nm2.map V.int, nm2.map PyData.int, rfl, SqL.of hN11, dpAll_ints nm2, allAlike_ints nm2, srt_intsS nm2, depth_intsS nm2, fun p1 hp1 => ?_⟩
      rw [sortD_map V.int PyData.int nm2]
      have kp1 := Kept.new (o := .lst ((srtBy PyData.int nm2).map V.int)) hp1
      walk_at "rd"
      refine ⟨p1, _, rfl, .inl ⟨SqL.of upd_same, fun s1 hs1 => ?_⟩⟩
      have ks1 := kp1.trans (Kept.new (o := .tup ((srtBy PyData.int nm2).map V.int)) hs1)
      have hs1' : upd (upd H' p1 (.lst ((srtBy PyData.int nm2).map V.int))) s1 (.tup ((srtBy PyData.int nm2).map V.int)) s1 = some (.tup ((srtBy PyData.int nm2).map V.int)) := upd_same
      generalize upd (upd H' p1 (.lst ((srtBy PyData.int nm2).map V.int))) s1 (.tup ((srtBy PyData.int nm2).map V.int)) = H12 at ks1 hs1' ⊢
      walk_at "rd"
      refine ⟨Z, hd2.map V.int, hd2.map PyData.int, rfl, SqL.of (ks1.lst hZ11), dpAll_ints hd2, allAlike_ints hd2, srt_intsS hd2, depth_intsS hd2, fun p2 hp2' => ?_⟩
      rw [sortD_map V.int PyData.int hd2]
      have kp2 := Kept.new (o := .lst ((srtBy PyData.int hd2).map V.int)) hp2'
      walk_at "rd"
      refine ⟨p2, _, rfl, .inl ⟨SqL.of upd_same, fun s2 hs2 => ?_⟩⟩
      have ks2 := kp2.trans (Kept.new (o := .tup ((srtBy PyData.int hd2).map V.int)) hs2)
      have hs2' : upd (upd H12 p2 (.lst ((srtBy PyData.int hd2).map V.int))) s2 (.tup ((srtBy PyData.int hd2).map V.int)) s2 = some (.tup ((srtBy PyData.int hd2).map V.int)) := upd_same
      generalize upd (upd H12 p2 (.lst ((srtBy PyData.int hd2).map V.int))) s2 (.tup ((srtBy PyData.int hd2).map V.int)) = H13 at ks2 hs2' ⊢
      have k12 := ks1.trans ks2
      walk_at "rd"
      refine ⟨R, bs, ds, rfl, k12.lst hRb, hbs.kept k12, by omega, fun x hx => by have := (hdc x hx).2.1; omega, fun p3 H14 bs3 k13 hp3 hp3' hb3 => ?_⟩
      walk_at "rd"
      refine ⟨p3, _, rfl, .inl ⟨SqL.of hp3', fun s3 hs3 => ?_⟩⟩
      have ks3 := Kept.new (o := .tup (bs3.map V.ref)) hs3
      have k14 := k13.trans ks3
      walk_at "rd"
      refine ⟨by show 3 ≤ sizeLine; omega, fun p hp => ?_⟩
      have kp := Kept.new (o := .tup [V.ref s1, V.ref s2, V.ref s3]) hp
      have k15 := k14.trans kp
      refine k p _ (srtBy PyData.int nm2) (srtBy PyData.int hd2) (srtBy ckD ds) (kAll.trans (k12.trans k15).toC) ⟨s1, s2, s3, bs3, upd_same, (ks2.trans k15).tup hs1', k15.tup hs2', kp.tup upd_same, (hb3.kept ks3).kept kp⟩ ⟨srt_ints hnd2, srt_ints hnd1, fun v h1 h2 => hnd3 v (mem_srtBy.mp h2) v (mem_srtBy.mp h1) rfl, fun v hv => hv1 v (mem_srtBy.mp hv), fun v hv => hv2 v (mem_srtBy.mp hv), ?_, ?_, ?_, ?_, asc_srtN hdn, fun x hx => ?_⟩
      · rw [(srtBy_perm _ _).length_eq]
        omega
      · rw [(srtBy_perm _ _).length_eq]
        omega
      · rw [(srtBy_perm _ _).length_eq]
        omega
      · rw [(srtBy_perm _ _).length_eq]
        omega
      · obtain ⟨h1, h2, h3⟩ := hdc x (mem_srtBy.mp hx)
        exact ⟨h1, h2, fun n hn => (h3 n hn).elim (fun h => .inl (mem_srtBy.mpr h)) fun h => .inr (mem_srtBy.mpr h)⟩
end
end Ky

namespace Ky
open PySem PySem.Spec PyProof.Rows L2
local macro_rules | `(tactic| walk_at "rd") => `(tactic| repeat (first
  | with_reducible refine w_for1 ?_
  | with_reducible refine w_for2 ?_
  | with_reducible refine w_forL ?_
  | with_reducible refine w_forT ?_
  | with_reducible refine w_lc1 ?_
  | with_reducible refine w_lcL ?_
  | with_reducible refine w_lcT ?_
  | with_reducible refine w_seq ?_
  | with_reducible refine w_asg ?_
  | with_reducible refine w_ret ?_
  | with_reducible refine w_drop ?_
  | with_reducible refine w_ifs ?_
  | ((with_reducible refine' w_var ?hh ?_); (case hh => exact rfl))
  | with_reducible refine w_c ?_
  | with_reducible refine w_op ?_
  | with_reducible refine w_un ?_
  | with_reducible refine w_I0 ?_
  | with_reducible refine w_U ?_
  | with_reducible refine w_nil ?_
  | with_reducible refine w_cons ?_
  | with_reducible refine w_call ?_
  | with_reducible refine w_cb ?_
  | with_reducible refine w_test ?_
  | with_reducible refine w_B ?_
  | with_reducible refine w_bl ?_
  | with_reducible refine w_and ?_
  | with_reducible refine w_or ?_
  | with_reducible refine w_not ?_
  | with_reducible refine w_ife ?_
  | with_reducible refine w_gRd ?_
  | with_reducible refine w_andV ?_
  | with_reducible refine w_orV ?_
  | with_reducible refine w_notV ?_
  | with_reducible refine w_chain ?_
  | with_reducible refine w_din ?_
  | with_reducible refine w_isi_ii ?_
  | with_reducible refine w_isi_ib ?_
  | with_reducible refine w_isi_it ?_
  | with_reducible refine w_isi_st ?_
  | ((with_reducible refine w_isi_tt ?h1 ?_); (case h1 => first | assumption | exact upd_same))
  | with_reducible refine if_t rfl ?_
  | with_reducible refine if_f rfl ?_
  | with_reducible refine w_tup ?_
  | with_reducible refine w_lst ?_
  | with_reducible refine w_next ?_
  | with_reducible refine w_bm ?_
  | with_reducible refine w_sl ?_
  | with_reducible refine w_part ?_
  | with_reducible refine w_nop ?_
  | with_reducible refine w_isI ?_
  | with_reducible refine w_yes ?_
  | with_reducible refine w_gn ?_
  | with_reducible refine w_gsub ?_
  | ((with_reducible refine' w_setL ?h1 ?h2 ?_); (case h1 => first | assumption | exact upd_same); (case h2 => exact rfl))
  | with_reducible refine w_asgG ?_
  | with_reducible refine w_m1 ?_
  | with_reducible refine w_isS ?_
  | with_reducible refine w_tyS ?_
  | ((with_reducible refine' w_tyL ?h1 ?_); (case h1 => first | assumption | exact upd_same))
  | ((with_reducible refine' w_ixT ?h1 ?h2 ?_); (case h1 => first | assumption | exact upd_same); (case h2 => exact rfl))
  | ((with_reducible refine' w_ixL ?h1 ?h2 ?_); (case h1 => first | assumption | exact upd_same); (case h2 => exact rfl))
  | ((with_reducible refine w_eq ?h1 ?_); (case h1 => exact rfl))
  | ((with_reducible refine w_ne ?h1 ?_); (case h1 => exact rfl))
  | dsimp only [List.set_cons_zero, List.set_cons_succ, List.append_nil, List.cons_append, List.nil_append, cxOf]))

/-! ### weights drawn -/
structure WtAt (H : Hp) (q : Addr) (x : Int × (Int × Int)) : Prop where
  ex : ∃ fq : Addr, H q = some (.tup [.int x.1, .ref fq]) ∧ FrAt H fq x.2
theorem WtAt.kept {H H' : Hp} {q : Addr} {x : Int × (Int × Int)} (h : WtAt H q x) (k : Kept H H') : WtAt H' q x := by
  obtain ⟨fq, h1, h2⟩ := h.ex
  exact ⟨fq, k.tup h1, k.tup h2⟩
theorem WtAt.keptC {d c : Addr} {H H' : Hp} {q : Addr} {x : Int × (Int × Int)} (h : WtAt H q x) (k : KeptC d c H H') (hd : DrwC d c H) : WtAt H' q x := by
  obtain ⟨fq, h1, h2⟩ := h.ex
  exact ⟨fq, k.tup hd h1, k.tup hd h2⟩
theorem WtAt.upd {H : Hp} {D q : Addr} {xs : List V} {o : HO} {x : Int × (Int × Int)} (h : WtAt H q x) (hD : H D = some (.lst xs)) : WtAt (upd H D o) q x := by
  obtain ⟨fq, h1, h2⟩ := h.ex
  exact ⟨fq, tup_upd hD h1, tup_upd hD h2⟩
def WtsAt (H : Hp) (qs : List Addr) (ws : List (Int × (Int × Int))) : Prop := qs.length = ws.length ∧ ∀ (i : Nat) (q : Addr) (x : Int × (Int × Int)), qs[i]? = some q → ws[i]? = some x → WtAt H q x
theorem WtsAt.kept {H H' : Hp} {qs : List Addr} {ws : List (Int × (Int × Int))} (h : WtsAt H qs ws) (k : Kept H H') : WtsAt H' qs ws := ⟨h.1, fun i q x h1 h2 => (h.2 i q x h1 h2).kept k⟩
theorem WtsAt.keptC {d c : Addr} {H H' : Hp} {qs : List Addr} {ws : List (Int × (Int × Int))} (h : WtsAt H qs ws) (k : KeptC d c H H') (hd : DrwC d c H) : WtsAt H' qs ws := ⟨h.1, fun i q x h1 h2 => (h.2 i q x h1 h2).keptC k hd⟩
theorem WtsAt.upd {H : Hp} {D : Addr} {xs : List V} {o : HO} {qs : List Addr} {ws : List (Int × (Int × Int))} (h : WtsAt H qs ws) (hD : H D = some (.lst xs)) : WtsAt (upd H D o) qs ws := ⟨h.1, fun i q x h1 h2 => (h.2 i q x h1 h2).upd hD⟩
theorem WtsAt.snoc {H : Hp} {qs : List Addr} {ws : List (Int × (Int × Int))} {b : Addr} {x : Int × (Int × Int)} (h : WtsAt H qs ws) (hb : WtAt H b x) : WtsAt H (qs ++ [b]) (ws ++ [x]) := by
  refine ⟨by rw [List.length_append, List.length_append, h.1] <;> rfl, fun j q d hq hd => ?_⟩
  by_cases hj : j < qs.length
  · rw [List.getElem?_append_left hj] at hq
    rw [List.getElem?_append_left (by rw [← h.1]; exact hj)] at hd
    exact h.2 j q d hq hd
  · rw [List.getElem?_append_right (by omega)] at hq
    rw [List.getElem?_append_right (by rw [← h.1]; omega)] at hd
    rw [← h.1] at hd
    cases z : j - qs.length with
    | zero =>
      rw [z] at hq hd
      cases hq
      cases hd
      exact hb
    | succ m =>
      rw [z] at hq
      simp at hq
def litsF (S : List Int) : List Int := S.flatMap fun u => [-u, u]
theorem litsF_snoc (S : List Int) (v : Int) : litsF (S ++ [v]) = litsF S ++ [-v, v] := by
  unfold litsF
  rw [List.flatMap_append]
  rfl
theorem litsF_len (S : List Int) : (litsF S).length = 2 * S.length := by
  unfold litsF
  induction S with
  | nil => rfl
  | cons c cs ih =>
    rw [List.flatMap_cons, List.length_append, ih, List.length_cons]
    show 2 + 2 * cs.length = 2 * (cs.length + 1)
    omega
/-- a weight that is a fraction, small -/
def WtOk (x : Int × (Int × Int)) : Prop := 0 < x.2.2 ∧ Small 6 x.2 ∧ 0 ≤ x.2.1 ∧ Red x.2
structure WtF (S : List Int) (ws : List (Int × (Int × Int))) : Prop where
  sub : (ws.map (·.1)).Sublist (litsF S)
  ok : ∀ x ∈ ws, WtOk x
theorem WtF.len {S : List Int} {ws : List (Int × (Int × Int))} (h : WtF S ws) : ws.length ≤ 2 * S.length := by
  have q := h.sub.length_le
  rw [List.length_map, litsF_len] at q
  exact q
def spLWeights : Sp := fun vs H Q _ => ∃ (d c p : Addr) (S Hd : List Int) (rc : List (List Int)), vs = [.ref d, .ref p] ∧ DrwC d c H ∧ FormAt H p S Hd rc ∧ S.length ≤ 10 ∧
  ∀ q H' qs ws, KeptC d c H H' → H' q = some (.tup (qs.map V.ref)) → WtsAt H' qs ws → WtF S ws → Q (.ref q) H'
theorem frc_nn {n d : Int} (hd : 0 < d) (h : 0 ≤ n) : 0 ≤ (frc n d).1 := by
  have h1 := frc_cross (n := n) (d := d) (by omega)
  have h2 := frc_pos (n := n) (d := d) (by omega)
  have h3 : 0 ≤ (frc n d).1 * d := by
    rw [h1]
    exact Int.mul_nonneg h (by omega)
  exact Int.nonneg_of_mul_nonneg_left h3 hd
theorem wt_ok {n d l : Int} (h0 : 0 ≤ n) (h1 : n < 50) (h2 : 0 < d) (h3 : d ≤ 10) : WtOk (l, frc n d) :=
  ⟨frc_pos (by omega), frc_small (by omega) (by show n.natAbs < 64; omega) (by show d.natAbs < 64; omega), frc_nn h2 h0, frc_red (by omega)⟩
theorem w_gTup2 {K : PySem.W.Frag} {H : Hp} {b : Addr} {x y : V} {i j : Nat} {σ : L2.St} {R : L2.St → Hp → Prop} (h : H b = some (.tup [x, y])) (q : R ((σ.set i (some x)).set j (some y)) H) : gTup K 2 (gCons (gName i) (gCons (gName j) gNil)) (.ref b) σ H R :=
  ⟨b, _, rfl, SqT.of h, rfl, _, _, rfl, _, _, rfl, rfl, q⟩
/-- the weights that a filling has -/
def selF (fs : List Int) (ws : List (Int × (Int × Int))) : List (Int × Int) := (ws.filter fun x => decide (x.1 ∈ fs)).map (·.2)
def spLWeight : Sp := fun vs H Q _ => ∃ (q f : Addr) (qs : List Addr) (ws : List (Int × (Int × Int))) (fs : List Int), vs = [.ref q, .ref f] ∧ H q = some (.tup (qs.map V.ref)) ∧ WtsAt H qs ws ∧ H f = some (.tup (fs.map V.int)) ∧ (∀ x ∈ ws, WtOk x) ∧ ws.length ≤ 20 ∧
  ∀ p H', H p = none → Kept H H' → FrAt H' p (frc (prN (selF fs ws)).1 (prN (selF fs ws)).2) → Q (.ref p) H'
theorem prN_snoc (as : List (Int × Int)) (a : Int × Int) : prN (as ++ [a]) = ((prN as).1 * a.1, (prN as).2 * a.2) := by
  unfold prN
  rw [List.foldl_append]
  rfl
section
variable {P : Program} {w : World} {K : PySem.W.Frag} {mg : Str → Option Value} {base : Heap} {uG : Value} {f : Addr} {fd : FuncData}
theorem ok_l_weights (F : Fun K "_law_weights" "_law_weights" s_l_weights f fd) (T : Tx K mg uG) (D_l_take : Df P w K mg base 1 "_law_take" ["draw", "many"] spTakeC) (D_l_fraction : Df P w K mg base 2 "_law_fraction" ["n", "d"] spFrac8) : FnOk P w K mg base CX0 3 f fd ["draw", "formula"] spLWeights := by
  refine F.ok sc_l_weights (fun vs H Q E h => ?_) (fun cdv A outer s H vs Q E hr h => ?_)
  · obtain ⟨d, c, p, S, Hd, rc, rfl, _⟩ := h
    rfl
  · obtain ⟨d, c, p, S, Hd, rc, rfl, hD, hF, hSl, k⟩ := h
    have hsl : 1001 ≤ sizeLine := by decide
    obtain ⟨ps, ph, pr, pbs, hp, hs, _⟩ := hF.ex
    refine ⟨_, (pss_cons (ps_set (i := 2) sc_l_weights.nd rfl (.inl rfl) (pe_lst pa_nil))
    (pss_cons (ps_for PassesOwn.never rfl (pi_tupK (K := K) rfl (pe_ix (ix_tupK (K := K) rfl) (pv 1) pe_int (fun _ _ => rfl))) (pg_name (i := 3) sc_l_weights.nd rfl (.inl rfl))
      (pss_one (ps_for PassesOwn.never rfl (pi_listK (K := K) rfl (pe_lst (pa_cons (pe_un un_neg (pv 3)) (pa_cons (pv 3) pa_nil)))) (pg_name (i := 4) sc_l_weights.nd rfl (.inl rfl))
      (pss_one (ps_if (pt_cmpR op_gt (pe_df D_l_take (hr.mono (by decide)) (by rfl) (pa_cons (pv 0) (pa_cons pe_int pa_nil))) pe_int (nomark _))
      (pss_cons (ps_set (i := 5) sc_l_weights.nd rfl (.inl rfl) (pe_ix (ix_listK (K := K) rfl) (pe_lst (pa_cons pe_int (pa_cons pe_int (pa_cons pe_int (pa_cons pe_int (pa_cons pe_int (pa_cons (pe_df D_l_take (hr.mono (by decide)) (by rfl) (pa_cons (pv 0) (pa_cons pe_int pa_nil))) pa_nil))))))) (pe_df D_l_take (hr.mono (by decide)) (by rfl) (pa_cons (pv 0) (pa_cons pe_int pa_nil))) (fun _ _ => rfl)))
    (pss_one (ps_expr (pe_bm PySem.F.plainAttrs_list PySem.F.slot_list_append PySem.F.type_list_append mt_append (pv 2) (pa_cons (pe_tup (pa_cons (pv 4) (pa_cons (pe_df D_l_fraction (hr.mono (by decide)) (by rfl) (pa_cons (pv 5) (pa_cons (pe_ix (ix_listK (K := K) rfl) (pe_lst (pa_cons pe_int (pa_cons pe_int (pa_cons pe_int (pa_cons pe_int (pa_cons pe_int pa_nil)))))) (pe_df D_l_take (hr.mono (by decide)) (by rfl) (pa_cons (pv 0) (pa_cons pe_int pa_nil))) (fun _ _ => rfl)) pa_nil))) pa_nil))) pa_nil)))))
      pss_nil)))))
    (pss_one (ps_ret (pe_callTy call_tuple_of (by rfl) T.z_tuple (by decide +kernel) (pa_cons (pv 2) pa_nil)))))), ?_⟩
    rw [show start n_l_weights [(.ref d : V), (.ref p : V)] = ([some (.ref d), some (.ref p), none, none, none, none] : List (Option V)) from rfl]
    walk_at "rd"
    refine ⟨Nat.zero_le _, fun R hR => ?_⟩
    have nR := hD.old hR
    have kR := Kept.new (o := .lst []) hR
    have hp1 := kR.tup hp
    have hs1 := kR.tup hs
    have hD1 := kR.toC.drw hD
    walk_at "rd"
    refine FrT.mk (xs := S.map V.int) (fun i σ' H' => ∃ (v3 v4 v5 : Option V) (qs : List Addr) (ws : List (Int × (Int × Int))), σ' = [some (.ref d), some (.ref p), some (.ref R), v3, v4, v5] ∧ KeptC d c H H' ∧ H' R = some (.lst (qs.map V.ref)) ∧ WtsAt H' qs ws ∧ (ws.map (·.1)).Sublist (litsF (S.take i)) ∧ ∀ x ∈ ws, WtOk x)
      ⟨none, none, none, [], [], rfl, kR.toC, upd_same, ⟨rfl, fun i q x h => by simp at h⟩, List.nil_sublist _, fun x hx => by simp at hx⟩ (fun i σ' H' _ h => by
        obtain ⟨_, _, _, _, _, _, k1, _⟩ := h
        exact SqT.of (k1.tup hD hs)) ?_ ?_
    · rintro i x σ' H' hx ⟨v3, v4, v5, qs, ws, rfl, k1, hRq, hws, hsub, hok⟩
      obtain ⟨v, rfl, hn⟩ := map_int hx
      have hi : i < S.length := (List.getElem?_eq_some_iff.mp hn).1
      have et : S.take (i + 1) = S.take i ++ [v] := by rw [List.take_add_one, hn]; rfl
      have hlt : (litsF (S.take i)).length = 2 * i := by rw [litsF_len, List.length_take]; omega
      have hDi := k1.drw hD
      walk_at "rd"
      refine ⟨by show 2 ≤ sizeLine; omega, fun L hL => ?_⟩
      have nL := hDi.old hL
      have neLR : L ≠ R := fun e => by
        rw [e, hRq] at hL
        cases hL
      have kL : KeptC d c H' (upd H' L (.lst [V.int (-v), V.int v])) := (Kept.new hL).toC
      have hL1 : upd H' L (.lst [V.int (-v), V.int v]) L = some (.lst [V.int (-v), V.int v]) := upd_same
      generalize upd H' L (.lst [V.int (-v), V.int v]) = H2 at kL hL1 ⊢
      have hD2 := kL.drw hDi
      refine FrL.mk (xs := [V.int (-v), V.int v]) (fun j σ' Hx => ∃ (v4 v5 : Option V) (qs : List Addr) (ws : List (Int × (Int × Int))), σ' = [some (.ref d), some (.ref p), some (.ref R), some (.int v), v4, v5] ∧ KeptC d c H Hx ∧ Hx L = some (.lst [V.int (-v), V.int v]) ∧ Hx R = some (.lst (qs.map V.ref)) ∧ WtsAt Hx qs ws ∧ (ws.map (·.1)).Sublist (litsF (S.take i) ++ [-v, v].take j) ∧ ∀ x ∈ ws, WtOk x)
        ⟨v4, v5, qs, ws, rfl, k1.trans kL, hL1, kL.lst nR.1 hRq, hws.keptC kL hDi, by rw [List.take_zero, List.append_nil]; exact hsub, hok⟩ (fun i σ' H' _ h => by
          obtain ⟨_, _, _, _, _, _, k1, _⟩ := h
          exact SqL.of k1) ?_ ?_
      · rintro j x σ' H3 hx ⟨v4, v5, qs, ws, rfl, k3, k3b, hRq, hws, hsub, hok⟩
        obtain ⟨l, rfl, hlj⟩ := map_int (ns := [-v, v]) hx
        have hj : j < 2 := (List.getElem?_eq_some_iff.mp hlj).1
        have ej : [-v, v].take (j + 1) = [-v, v].take j ++ [l] := by rw [List.take_add_one, hlj]; rfl
        have hD3 := k3.drw hD
        have hwl := hsub.length_le
        rw [List.length_map, List.length_append, hlt, List.length_take] at hwl
        rw [ej, ← List.append_assoc]
        walk_at "rd"
        refine ⟨d, c, 3, rfl, by decide, by decide, hD3, fun r1 H4 l1 g1 k4 => ?_⟩
        have hD4 := k4.drw hD3
        walk_at "rd"
        refine ite2 (fun _ => ?_) (fun _ => ?_)
        · walk_at "rd"
          refine ⟨d, c, 50, rfl, by decide, by decide, hD4, fun r2 H5 l2 g2 k5 => ?_⟩
          have hD5 := k5.drw hD4
          walk_at "rd"
          refine ⟨by show 6 ≤ sizeLine; omega, fun p1 hp1 => ?_⟩
          have kp1 : KeptC d c H5 (upd H5 p1 (.lst [V.int 0, V.int 1, V.int 2, V.int 3, V.int 1, V.int r2])) := (Kept.new hp1).toC
          have np1 := hD5.old hp1
          walk_at "rd"
          refine ⟨d, c, 6, rfl, by decide, by decide, kp1.drw hD5, fun r3 H6 l3 g3 k6 => ?_⟩
          obtain ⟨n, hn1, en⟩ := pick_int (ns := [0, 1, 2, 3, 1, r2]) l3 g3
          refine w_ixL (k6.lst np1.1 upd_same) en ?_
          have hn' : 0 ≤ n ∧ n < 50 := by
            simp only [List.mem_cons, List.not_mem_nil, or_false] at hn1
            rcases hn1 with rfl | rfl | rfl | rfl | rfl | rfl <;> omega
          have k7 := k4.trans (k5.trans (kp1.trans k6))
          have hD6 := k7.drw hD3
          have hR6 := k7.lst nR.1 hRq
          walk_at "rd"
          refine ⟨by show 5 ≤ sizeLine; omega, fun p2 hp2 => ?_⟩
          have kp2 : KeptC d c H6 (upd H6 p2 (.lst [V.int 1, V.int 2, V.int 3, V.int 10, V.int 7])) := (Kept.new hp2).toC
          have np2 := hD6.old hp2
          walk_at "rd"
          refine ⟨d, c, 5, rfl, by decide, by decide, kp2.drw hD6, fun r4 H7 l4 g4 k8 => ?_⟩
          obtain ⟨e, he1, ee⟩ := pick_int (ns := [1, 2, 3, 10, 7]) l4 g4
          refine w_ixL (k8.lst np2.1 upd_same) ee ?_
          have he' : 0 < e ∧ e ≤ 10 := by
            simp only [List.mem_cons, List.not_mem_nil, or_false] at he1
            rcases he1 with rfl | rfl | rfl | rfl | rfl <;> omega
          have k9 := k7.trans (kp2.trans k8)
          have hD7 := k9.drw hD3
          walk_at "rd"
          refine ⟨n, e, rfl, by omega, lt_up (a := 6) (by show n.natAbs < 64; omega) (by decide), lt_up (a := 6) (by show e.natAbs < 64; omega) (by decide), fun fq H8 hfq k10 hfr => ?_⟩
          walk_at "rd"
          refine ⟨by show 2 ≤ sizeLine; omega, fun t ht => ?_⟩
          have kt := Kept.new (o := .tup [V.int l, V.ref fq]) ht
          have k11 := k10.trans kt
          have k12 := k9.trans k11.toC
          have hR8 := k12.lst nR.1 hRq
          have hW : WtAt (upd H8 t (.tup [V.int l, V.ref fq])) t (l, frc n e) := ⟨fq, upd_same, kt.tup hfr⟩
          have hws8 := (hws.keptC k12 hD3).snoc hW
          refine ⟨_, _, _, rfl, rfl, hR8, by rw [List.length_map, hws.1]; omega, _, _, qs ++ [t], ws ++ [(l, frc n e)], rfl, KeptC.mut (k3.trans k12) hR, ?_, by rw [List.map_append]; exact upd_same, hws8.upd hR8, ?_, fun x hx => ?_⟩
          · rw [upd_ne neLR]
            exact k12.lst nL.1 k3b
          · rw [List.map_append]
            exact hsub.append (List.Sublist.refl _)
          · rcases List.mem_append.mp hx with h | h
            · exact hok x h
            · rw [List.mem_singleton.mp h]
              exact wt_ok hn'.1 hn'.2 he'.1 he'.2
        · exact ⟨_, _, qs, ws, rfl, k3.trans k4, k4.lst nL.1 k3b, k4.lst nR.1 hRq, hws.keptC k4 hD3, hsub.trans (List.sublist_append_left _ _), hok⟩
      · rintro σ' H3 ⟨v4, v5, qs, ws, rfl, k3, k3b, hRq, hws, hsub, hok⟩
        refine ⟨_, _, _, qs, ws, rfl, k3, hRq, hws, ?_, hok⟩
        rw [et, litsF_snoc]
        exact hsub
    · rintro σ' H' ⟨v3, v4, v5, qs, ws, rfl, k1, hRq, hws, hsub, hok⟩
      rw [List.length_map, List.take_length] at hsub
      walk_at "rd"
      refine ⟨R, _, rfl, .inl ⟨SqL.of hRq, fun t ht => ?_⟩⟩
      have kt := Kept.new (o := .tup (qs.map V.ref)) ht
      exact k t _ qs ws (k1.trans kt.toC) upd_same (hws.kept kt) ⟨hsub, hok⟩
end
end Ky

namespace Ky
open PySem PySem.Spec PyProof.Rows L2
/-! ### an index of a list or a tuple; >= of data; the whole of a tuple's slice; isinstance, the frame told -/
def rIxE (K : PySem.W.Frag) : R2 := fun x y H Q => rIxL K x y H Q ∨ rIxT K x y H Q
def rGeD (K : PySem.W.Frag) : R2 := fun x y H Q => ∃ d e, Dp K H x d ∧ Dp K H y e ∧ PySem.W.alike d e = true ∧ d ≠ .none ∧ d.depth ≤ 60 ∧ Q (.bl (!PySem.W.dataLt d e)) H
section
variable {X : Cx} {K : PySem.W.Frag}
theorem ix_either : IxR X (rIxE X.K) := by
  intro value slice pins s σ H x y v u Q I rx ry h hs
  rcases h with h | h
  · exact ix_list value slice pins s σ H x y v u Q I rx ry h hs
  · exact ix_tup value slice pins s σ H x y v u Q I rx ry h hs
theorem ix_eitherK (hK : X.K = K) : IxR X (rIxE K) := by subst hK; exact ix_either
theorem op_geD (hu : X.A.units + 64 < cLine) : OpR X (compareOp .GtE) (rGeD X.K) := by
  intro pins s σ H x y v u Q I rx ry h
  obtain ⟨d, e, hd, he, ha, hn, hz, q⟩ := h
  obtain ⟨as, r1⟩ := Dp.reads I d x v hd rx
  obtain ⟨bs, r2⟩ := Dp.reads I e y u he ry
  exact PySem.W.ge_data r1 r2 ha hn (by have := Nat.min_le_left d.depth e.depth; omega) ⟨.bl _, H, I, rfl, q⟩
theorem sl_tupAK (hK : X.K = K) : SlR X (rSlA K) := by subst hK; exact sl_tupA
theorem call_isiK (hK : X.K = K) : CallR X (.builtin "isinstance") (rIsi K) := by subst hK; exact call_isi
end
section
variable {σ : L2.St} {H : Hp} {Q : VK} {K : PySem.W.Frag} {x y : V}
theorem w_isi_bi {b : Bool} (q : Q (.bl true) H) : rIsi K [.bl b, .ty "int"] H Q := ⟨_, _, _, _, true, rfl, .ty _, .base (.bl b), kit_ty (by decide +kernel), q⟩
theorem w_isi_bb {b : Bool} (q : Q (.bl true) H) : rIsi K [.bl b, .ty "bool"] H Q := ⟨_, _, _, _, true, rfl, .ty _, .base (.bl b), kit_ty (by decide +kernel), q⟩
theorem w_isi_bt {b : Bool} (q : Q (.bl false) H) : rIsi K [.bl b, .ty "tuple"] H Q := ⟨_, _, _, _, false, rfl, .ty _, .base (.bl b), kit_ty (by decide +kernel), q⟩
theorem w_isi_si {z : Str} (q : Q (.bl false) H) : rIsi K [.str z, .ty "int"] H Q := ⟨_, _, _, _, false, rfl, .ty _, .base (.str z), kit_ty (by decide +kernel), q⟩
theorem w_isi_nt (q : Q (.bl false) H) : rIsi K [.non, .ty "tuple"] H Q := ⟨_, _, _, _, false, rfl, .ty _, .base .non, kit_ty (by decide +kernel), q⟩
theorem w_isi_ll {a : Addr} {xs : List V} (h : H a = some (.lst xs)) (q : Q (.bl true) H) : rIsi K [.ref a, .ty "list"] H Q := ⟨_, _, _, _, true, rfl, .ty _, .base (.lst h), kit_ty (by decide +kernel), q⟩
end
/-! ### values that a display makes: what is told of them stays true while the heap grows -/
def TupW (xs : List V) : V → Hp → Prop := fun v H => ∃ p, v = .ref p ∧ H p = some (.tup xs)
structure MkE (σ : L2.St) (H0 : Hp) (te : TE) (W : V → Hp → Prop) : Prop where
  up : ∀ v H H', Kept H H' → W v H → W v H'
  run : ∀ H Q, Kept H0 H → (∀ v H', Kept H H' → W v H' → Q v H') → te σ H Q
structure MkA (σ : L2.St) (H0 : Hp) (ta : TA) (W : List V → Hp → Prop) : Prop where
  up : ∀ v H H', Kept H H' → W v H → W v H'
  run : ∀ H Q, Kept H0 H → (∀ v H', Kept H H' → W v H' → Q v H') → ta σ H Q
section
variable {σ : L2.St} {H0 : Hp} {te ta tb : TE} {tq : TA} {K : PySem.W.Frag}
theorem mk_c {v : V} : MkE σ H0 (tC v) (fun x _ => x = v) := ⟨fun _ _ _ _ h => h, fun H Q k0 k => k v H (Kept.refl _) rfl⟩
theorem mk_var {i : Nat} {v : V} (h : σ[i]? = some (some v)) : MkE σ H0 (tVar i) (fun x _ => x = v) := ⟨fun _ _ _ _ h => h, fun H Q k0 k => ⟨v, h, k v H (Kept.refl _) rfl⟩⟩
theorem mk_varT {i : Nat} {a : Addr} {xs : List V} (h : σ[i]? = some (some (.ref a))) (ha : H0 a = some (.tup xs)) : MkE σ H0 (tVar i) (TupW xs) := ⟨fun v H H' k q => by
    obtain ⟨p, e, h⟩ := q
    exact ⟨p, e, k.tup h⟩, fun H Q k0 k => ⟨_, h, k _ H (Kept.refl _) ⟨a, rfl, k0.tup ha⟩⟩⟩
theorem mk_neg {n : Int} {te : TE} (h : MkE σ H0 te (fun x _ => x = .int n)) : MkE σ H0 (tUn (rU fun i => V.int (-i)) te) (fun x _ => x = .int (-n)) := ⟨fun _ _ _ _ h => h, fun H Q k0 k => h.run H _ k0 fun v H' k1 e => ⟨n, e, k _ H' k1 rfl⟩⟩
theorem mk_nil : MkA σ H0 tNil (fun vs _ => vs = []) := ⟨fun _ _ _ _ h => h, fun H Q k0 k => k [] H (Kept.refl _) rfl⟩
theorem mk_cons {W : V → Hp → Prop} {Ws : List V → Hp → Prop} (h : MkE σ H0 te W) (hs : MkA σ H0 tq Ws) : MkA σ H0 (tCons te tq) (fun vs H => ∃ v r, vs = v :: r ∧ W v H ∧ Ws r H) :=
  ⟨fun vs H H' k q => by
    obtain ⟨v, r, e, a, b⟩ := q
    exact ⟨v, r, e, h.up v H H' k a, hs.up r H H' k b⟩, fun H Q k0 k => h.run H _ k0 fun v H1 k1 w1 => hs.run H1 _ (k0.trans k1) fun r H2 k2 w2 => k _ H2 (k1.trans k2) ⟨v, r, rfl, h.up v H1 H2 k2 w1, w2⟩⟩
theorem mk_tup {Ws : List V → Hp → Prop} (h : MkA σ H0 tq Ws) (hl : ∀ vs H, Ws vs H → vs.length ≤ 1000) : MkE σ H0 (tTup tq) (fun v H => ∃ p xs, v = .ref p ∧ H p = some (.tup xs) ∧ Ws xs H) :=
  ⟨fun v H H' k q => by
    obtain ⟨p, xs, e, a, b⟩ := q
    exact ⟨p, xs, e, k.tup a, h.up xs H H' k b⟩, fun H Q k0 k => h.run H _ k0 fun vs H1 k1 w => ⟨Nat.le_trans (hl vs H1 w) (by decide), fun p hp => k _ _ (k1.trans (Kept.new hp)) ⟨p, vs, rfl, upd_same, h.up _ _ _ (Kept.new hp) w⟩⟩⟩
theorem MkE.weak {W W' : V → Hp → Prop} (h : MkE σ H0 te W) (hw : ∀ v H, W v H → W' v H) (hu : ∀ v H H', Kept H H' → W' v H → W' v H') : MkE σ H0 te W' := ⟨hu, fun H Q k0 k => h.run H Q k0 fun v H' k1 w => k v H' k1 (hw v H' w)⟩
theorem tupW_up {xs : List V} : ∀ v H H', Kept H H' → TupW xs v H → TupW xs v H' := fun v H H' k h => by
  obtain ⟨p, e, h⟩ := h
  exact ⟨p, e, k.tup h⟩
theorem mk_tupW {xs : List V} {Ws : List V → Hp → Prop} (h : MkA σ H0 tq Ws) (hw : ∀ vs H, Ws vs H → vs = xs) (hl : xs.length ≤ 1000) : MkE σ H0 (tTup tq) (TupW xs) :=
  (mk_tup h fun vs H w => by rw [hw vs H w]; exact hl).weak (fun v H q => by
    obtain ⟨p, ys, e, a, b⟩ := q
    rw [hw ys H b] at a
    exact ⟨p, e, a⟩) tupW_up
/-- a variable that holds a tuple -/
theorem mk_catW {xs ys : List V} (ha : MkE σ H0 ta (TupW xs)) (hb : MkE σ H0 tb (TupW ys)) (hl : xs.length + ys.length ≤ 1000) : MkE σ H0 (tOp (rCatA K) ta tb) (TupW (xs ++ ys)) :=
  ⟨tupW_up, fun H Q k0 k => ha.run H _ k0 fun v H1 k1 w1 => hb.run H1 _ (k0.trans k1) fun u H2 k2 w2 => by
    obtain ⟨a, rfl, h1⟩ := tupW_up v H1 H2 k2 w1
    obtain ⟨b, rfl, h2⟩ := w2
    have hz : 1000 ≤ sizeLine := by decide
    refine ⟨a, b, xs, ys, rfl, rfl, SqT.of h1, SqT.of h2, by omega, fun e => ?_, fun _ e => ?_, fun _ _ p hp => ?_⟩
    · subst e
      exact k _ H2 (k1.trans k2) ⟨b, rfl, h2⟩
    · subst e
      exact k _ H2 (k1.trans k2) ⟨a, rfl, by rw [List.append_nil]; exact h1⟩
    · exact k _ _ ((k1.trans k2).trans (Kept.new hp)) ⟨p, rfl, upd_same⟩⟩
theorem mk_to1 {xs : List V} (ha : MkE σ H0 ta (TupW xs)) : MkE σ H0 (tSl (rSlA K) ta tNoPart (tPart (tC (.int 1)))) (TupW (xs.take 1)) :=
  ⟨tupW_up, fun H Q k0 k => ha.run H _ k0 fun v H1 k1 w1 => by
    obtain ⟨a, rfl, h1⟩ := w1
    refine ⟨1, rfl, a, xs, rfl, SqT.of h1, fun e => ?_, fun e p hp => ?_⟩
    · have e2 := e.2
      rw [show HT.sIx xs.length xs.length (some 1) = min 1 xs.length from HT.sIx_nat _ _ 1] at e2
      refine k _ H1 k1 ⟨a, rfl, ?_⟩
      rw [List.take_of_length_le (by omega)]
      exact h1
    · refine k _ _ (k1.trans (Kept.new hp)) ⟨p, rfl, ?_⟩
      have ec : cutV xs none (some 1) = xs.take 1 := by
        unfold cutV
        rw [HT.sIx_none, show HT.sIx xs.length xs.length (some 1) = min 1 xs.length from HT.sIx_nat _ _ 1, Nat.sub_zero, List.drop_zero]
        by_cases h : 1 ≤ xs.length
        · rw [Nat.min_eq_left h]
        · have e0 : xs = [] := List.length_eq_zero_iff.mp (by omega)
          rw [e0] <;> rfl
      rw [← ec]
      exact upd_same⟩
theorem mk_of1 {xs : List V} (ha : MkE σ H0 ta (TupW xs)) : MkE σ H0 (tSl (rSlA K) ta (tPart (tC (.int 1))) tNoPart) (TupW (xs.drop 1)) :=
  ⟨tupW_up, fun H Q k0 k => ha.run H _ k0 fun v H1 k1 w1 => by
    obtain ⟨a, rfl, h1⟩ := w1
    refine ⟨1, rfl, a, xs, rfl, SqT.of h1, fun e => ?_, fun e p hp => ?_⟩
    · have e2 := e.1
      rw [show HT.sIx xs.length 0 (some 1) = min 1 xs.length from HT.sIx_nat _ _ 1] at e2
      have e0 : xs = [] := List.length_eq_zero_iff.mp (by omega)
      refine k _ H1 k1 ⟨a, rfl, ?_⟩
      rw [e0] at h1 ⊢
      exact h1
    · refine k _ _ (k1.trans (Kept.new hp)) ⟨p, rfl, ?_⟩
      have ec : cutV xs (some 1) none = xs.drop 1 := by
        unfold cutV
        rw [HT.sIx_none, show HT.sIx xs.length 0 (some 1) = min 1 xs.length from HT.sIx_nat _ _ 1]
        by_cases h : 1 ≤ xs.length
        · rw [Nat.min_eq_left h]
          exact List.take_of_length_le (by rw [List.length_drop]; exact Nat.le_refl _)
        · have e0 : xs = [] := List.length_eq_zero_iff.mp (by omega)
          rw [e0] <;> rfl
      rw [← ec]
      exact upd_same⟩
end
end Ky

namespace Ky
open PySem PySem.Spec PyProof.Rows L2
local macro_rules | `(tactic| walk_at "rd") => `(tactic| repeat (first
  | with_reducible refine w_for1 ?_
  | with_reducible refine w_for2 ?_
  | with_reducible refine w_forL ?_
  | with_reducible refine w_forT ?_
  | with_reducible refine w_lc1 ?_
  | with_reducible refine w_lcL ?_
  | with_reducible refine w_lcT ?_
  | with_reducible refine w_seq ?_
  | with_reducible refine w_asg ?_
  | with_reducible refine w_ret ?_
  | with_reducible refine w_drop ?_
  | with_reducible refine w_ifs ?_
  | ((with_reducible refine' w_var ?hh ?_); (case hh => exact rfl))
  | with_reducible refine w_c ?_
  | with_reducible refine w_op ?_
  | with_reducible refine w_un ?_
  | with_reducible refine w_I0 ?_
  | with_reducible refine w_U ?_
  | with_reducible refine w_nil ?_
  | with_reducible refine w_cons ?_
  | with_reducible refine w_call ?_
  | with_reducible refine w_cb ?_
  | with_reducible refine w_test ?_
  | with_reducible refine w_B ?_
  | with_reducible refine w_bl ?_
  | with_reducible refine w_and ?_
  | with_reducible refine w_or ?_
  | with_reducible refine w_not ?_
  | with_reducible refine w_ife ?_
  | with_reducible refine w_gRd ?_
  | with_reducible refine w_andV ?_
  | with_reducible refine w_orV ?_
  | with_reducible refine w_notV ?_
  | with_reducible refine w_chain ?_
  | with_reducible refine w_din ?_
  | with_reducible refine w_isi_ii ?_
  | with_reducible refine w_isi_bi ?_
  | with_reducible refine w_isi_bb ?_
  | with_reducible refine w_isi_bt ?_
  | with_reducible refine w_isi_si ?_
  | with_reducible refine w_isi_nt ?_
  | with_reducible refine w_isi_ib ?_
  | with_reducible refine w_isi_it ?_
  | with_reducible refine w_isi_st ?_
  | ((with_reducible refine w_isi_tt ?h1 ?_); (case h1 => first | assumption | exact upd_same))
  | with_reducible refine if_t rfl ?_
  | with_reducible refine if_f rfl ?_
  | with_reducible refine w_tup ?_
  | with_reducible refine w_lst ?_
  | with_reducible refine w_next ?_
  | with_reducible refine w_bm ?_
  | with_reducible refine w_sl ?_
  | with_reducible refine w_part ?_
  | with_reducible refine w_nop ?_
  | with_reducible refine w_isI ?_
  | with_reducible refine w_yes ?_
  | with_reducible refine w_gn ?_
  | with_reducible refine w_gsub ?_
  | ((with_reducible refine' w_setL ?h1 ?h2 ?_); (case h1 => first | assumption | exact upd_same); (case h2 => exact rfl))
  | with_reducible refine w_asgG ?_
  | with_reducible refine w_m1 ?_
  | with_reducible refine w_isS ?_
  | with_reducible refine w_tyS ?_
  | ((with_reducible refine' w_tyL ?h1 ?_); (case h1 => first | assumption | exact upd_same))
  | ((with_reducible refine' w_ixT ?h1 ?h2 ?_); (case h1 => first | assumption | exact upd_same); (case h2 => exact rfl))
  | ((with_reducible refine' w_ixL ?h1 ?h2 ?_); (case h1 => first | assumption | exact upd_same); (case h2 => exact rfl))
  | ((with_reducible refine w_eq ?h1 ?_); (case h1 => exact rfl))
  | ((with_reducible refine w_ne ?h1 ?_); (case h1 => exact rfl))
  | dsimp only [List.set_cons_zero, List.set_cons_succ, List.append_nil, List.cons_append, List.nil_append, cxOf]))

/-! ### values of any kind, as far as the law makes them -/
inductive At where
  | i (n : Int)
  | b (x : Bool)
  | s (z : Str)
deriving DecidableEq
def At.v : At → V
  | .i n => .int n
  | .b x => .bl x
  | .s z => .str z
def At.dat : At → PyData
  | .i n => .int n
  | .b x => .bool x
  | .s z => .str z
def At.whole : At → Bool
  | .i _ => true
  | _ => false
def At.vr : At → Bool
  | .i n => isVar n
  | _ => false
inductive Fv where
  | n (k : Int)
  | p (n d : Int)
def FvAt (H : Hp) (v : V) : Fv → Prop
  | .n k => v = .int k
  | .p n d => ∃ q, v = .ref q ∧ H q = some (.tup [.int n, .int d])
def isFracF : Fv → Bool
  | .n _ => false
  | .p n d => decide (1 ≤ d) && decide ((Nat.gcd n.natAbs d.natAbs : Int) = 1)
def spWhole : Sp := fun vs H Q _ => ∃ x : At, vs = [x.v] ∧ Q (.bl x.whole) H
def spVar : Sp := fun vs H Q _ => ∃ x : At, vs = [x.v] ∧ Q (.bl x.vr) H
def spLit : Sp := fun vs H Q _ => ∃ n, vs = [.int n] ∧ Q (.bl (isLit n)) H
def spIsFrac : Sp := fun vs H Q _ => ∃ (v : V) (x : Fv), vs = [v] ∧ FvAt H v x ∧ Q (.bl (isFracF x)) H
def spAsc (K : PySem.W.Frag) (P0 : Addr) : Sp := fun vs H Q _ => ∃ (a : Addr) (xs : List V) (ds : List PyData), vs = [.ref a] ∧ (H a = some (.lst xs) ∨ H a = some (.tup xs)) ∧ xs.length ≤ sizeLine ∧ DpAll K H xs ds ∧ PySem.W.AllAlike ds ∧ (∀ d ∈ ds, d ≠ .none ∧ d.depth ≤ 60) ∧ GxR.TabG H P0 ∧ ∀ H', Kept H H' → Q (.bl (ascD ds)) H'
def spVarsOf : Sp := fun vs H Q _ => ∃ (a : Addr) (bs : List Addr) (cs : List (List Int)), vs = [.ref a] ∧ H a = some (.lst (bs.map V.ref)) ∧ ClsAt H bs cs ∧ cs.flatten.length ≤ 60 ∧
  ∀ (ns : List Int) p H', ns.Pairwise (· < ·) → (∀ k, k ∈ ns ↔ k ∈ absAll cs) → Kept H H' → H p = none → H' p = some (.tup (ns.map V.int)) → Q (.ref p) H'
def spIsClause (K : PySem.W.Frag) (P1 P2 : Addr) : Sp := fun vs H Q _ => (∃ x : At, vs = [x.v] ∧ Q (.bl false) H) ∨
  ∃ (a : Addr) (ls : List Int), vs = [.ref a] ∧ H a = some (.tup (ls.map V.int)) ∧ ls.length ≤ 1000 ∧ GxR.TabG H P1 ∧ GxR.TabG H P2 ∧ ∀ H', Kept H H' → Q (.bl (isClauseF ls)) H'
def spIsResidue (K : PySem.W.Frag) (P1 P2 P3 : Addr) : Sp := fun vs H Q _ => ∃ (a : Addr) (bs : List Addr) (cs : List (List Int)), vs = [.ref a] ∧ H a = some (.tup (bs.map V.ref)) ∧ ClsAt H bs cs ∧ cs.length ≤ 1000 ∧ (∀ c ∈ cs, c.length ≤ 1000) ∧ GxR.TabG H P1 ∧ GxR.TabG H P2 ∧ GxR.TabG H P3 ∧ ∀ H', Kept H H' → Q (.bl (isResidueF cs)) H'
section
variable {P : Program} {w : World} {K : PySem.W.Frag} {mg : Str → Option Value} {base : Heap} {uG : Value} {f : Addr} {fd : FuncData}
theorem ok_is_whole (F : Fun K "is_whole" "is_whole" s_is_whole f fd) (T : Tx K mg uG) : FnOk P w K mg base CX0 1 f fd ["value"] spWhole := by
  refine F.ok sc_is_whole (fun vs H Q E h => ?_) (fun cdv A outer s H vs Q E hr h => ?_)
  · obtain ⟨n, rfl, _⟩ := h
    rfl
  · obtain ⟨x, rfl, k⟩ := h
    refine ⟨_, (pss_one (ps_ret (pe_and (pe_callB (call_isiK (K := K) rfl) (by rfl) T.z_isinstance (by decide +kernel) (pa_cons (pv 0) (pa_cons (pe_bltn (by rfl) T.z_int (by decide +kernel) (show RelV (.ty "int") _ from rfl)) pa_nil))) (pe_one (pe_not (pe_callB (call_isiK (K := K) rfl) (by rfl) T.z_isinstance (by decide +kernel) (pa_cons (pv 0) (pa_cons (pe_bltn (by rfl) T.z_bool (by decide +kernel) (show RelV (.ty "bool") _ from rfl)) pa_nil)))))))), ?_⟩
    cases x with
    | i n =>
      rw [show start n_is_whole [(At.v (.i n) : V)] = ([some (At.v (.i n))] : List (Option V)) from rfl]
      walk_at "rd"
      refine w_isi_ii ?_
      walk_at "rd"
      refine w_isi_ib ?_
      walk_at "rd"
      exact k
    | b x =>
      rw [show start n_is_whole [(At.v (.b x) : V)] = ([some (At.v (.b x))] : List (Option V)) from rfl]
      walk_at "rd"
      refine w_isi_bi ?_
      walk_at "rd"
      refine w_isi_bb ?_
      walk_at "rd"
      exact k
    | s z =>
      rw [show start n_is_whole [(At.v (.s z) : V)] = ([some (At.v (.s z))] : List (Option V)) from rfl]
      walk_at "rd"
      refine w_isi_si ?_
      walk_at "rd"
      exact k
theorem ok_l_is_int (F : Fun K "_law_is_int" "_law_is_int" s_l_is_int f fd) (T : Tx K mg uG) : FnOk P w K mg base CX0 1 f fd ["x"] spWhole := by
  refine F.ok sc_l_is_int (fun vs H Q E h => ?_) (fun cdv A outer s H vs Q E hr h => ?_)
  · obtain ⟨n, rfl, _⟩ := h
    rfl
  · obtain ⟨x, rfl, k⟩ := h
    refine ⟨_, (pss_one (ps_ret (pe_and (pe_callB (call_isiK (K := K) rfl) (by rfl) T.z_isinstance (by decide +kernel) (pa_cons (pv 0) (pa_cons (pe_bltn (by rfl) T.z_int (by decide +kernel) (show RelV (.ty "int") _ from rfl)) pa_nil))) (pe_one (pe_not (pe_callB (call_isiK (K := K) rfl) (by rfl) T.z_isinstance (by decide +kernel) (pa_cons (pv 0) (pa_cons (pe_bltn (by rfl) T.z_bool (by decide +kernel) (show RelV (.ty "bool") _ from rfl)) pa_nil)))))))), ?_⟩
    cases x with
    | i n =>
      rw [show start n_l_is_int [(At.v (.i n) : V)] = ([some (At.v (.i n))] : List (Option V)) from rfl]
      walk_at "rd"
      refine w_isi_ii ?_
      walk_at "rd"
      refine w_isi_ib ?_
      walk_at "rd"
      exact k
    | b x =>
      rw [show start n_l_is_int [(At.v (.b x) : V)] = ([some (At.v (.b x))] : List (Option V)) from rfl]
      walk_at "rd"
      refine w_isi_bi ?_
      walk_at "rd"
      refine w_isi_bb ?_
      walk_at "rd"
      exact k
    | s z =>
      rw [show start n_l_is_int [(At.v (.s z) : V)] = ([some (At.v (.s z))] : List (Option V)) from rfl]
      walk_at "rd"
      refine w_isi_si ?_
      walk_at "rd"
      exact k
theorem ok_is_variable (F : Fun K "is_variable" "is_variable" s_is_variable f fd) (T : Tx K mg uG) (D_is_whole : Df P w K mg base 1 "is_whole" ["value"] spWhole) : FnOk P w K mg base CX0 2 f fd ["value"] spVar := by
  refine F.ok sc_is_variable (fun vs H Q E h => ?_) (fun cdv A outer s H vs Q E hr h => ?_)
  · obtain ⟨n, rfl, _⟩ := h
    rfl
  · obtain ⟨x, rfl, k⟩ := h
    refine ⟨_, (pss_one (ps_ret (pe_and (pe_df D_is_whole (hr.mono (by decide)) (by rfl) (pa_cons (pv 0) pa_nil)) (pe_one (pe_chain op_le op_le pe_int (pv 0) (pe_glob (by rfl) T.g_GREATEST_VARIABLE T.v_GREATEST_VARIABLE)))))), ?_⟩
    rw [show start n_is_variable [(x.v : V)] = ([some (x.v)] : List (Option V)) from rfl]
    walk_at "rd"
    refine ⟨x, rfl, _, rfl, ?_⟩
    cases x with
    | i n =>
      refine if_t rfl ?_
      refine w_chain ?_
      walk_at "rd"
      refine ⟨1, n, rfl, rfl, ?_⟩
      walk_at "rd"
      by_cases h1 : (1 : Int) ≤ n
      · refine if_t (decide_eq_true h1) ?_
        walk_at "rd"
        have e : At.vr (.i n) = decide (n ≤ 999) := by show isVar n = _; unfold isVar; rw [decide_eq_true h1, Bool.true_and]
        rw [e] at k
        exact ⟨n, 999, rfl, rfl, k⟩
      · refine if_f (decide_eq_false h1) ?_
        have e : At.vr (.i n) = false := by show isVar n = _; unfold isVar; rw [decide_eq_false h1, Bool.false_and]
        rw [e] at k
        exact k
    | b x => exact if_f rfl k
    | s z => exact if_f rfl k
theorem ok_is_literal (F : Fun K "is_literal" "is_literal" s_is_literal f fd) (T : Tx K mg uG) (D_is_whole : Df P w K mg base 1 "is_whole" ["value"] spWhole) (D_is_variable : Df P w K mg base 2 "is_variable" ["value"] spVar) : FnOk P w K mg base CX0 3 f fd ["value"] spLit := by
  refine F.ok sc_is_literal (fun vs H Q E h => ?_) (fun cdv A outer s H vs Q E hr h => ?_)
  · obtain ⟨n, rfl, _⟩ := h
    rfl
  · obtain ⟨n, rfl, k⟩ := h
    refine ⟨_, (pss_one (ps_ret (pe_and (pe_df D_is_whole (hr.mono (by decide)) (by rfl) (pa_cons (pv 0) pa_nil)) (pe_one (pe_df D_is_variable (hr.mono (by decide)) (by rfl) (pa_cons (pe_callB call_abs (by rfl) T.z_abs (by decide +kernel) (pa_cons (pv 0) pa_nil)) pa_nil)))))), ?_⟩
    rw [show start n_is_literal [(.int n : V)] = ([some (.int n)] : List (Option V)) from rfl]
    walk_at "rd"
    refine ⟨.i n, rfl, _, rfl, if_t rfl ?_⟩
    walk_at "rd"
    refine ⟨n, rfl, ?_⟩
    walk_at "rd"
    exact ⟨.i (absI n), rfl, k⟩
theorem ok_is_fraction (F : Fun K "is_fraction" "is_fraction" s_is_fraction f fd) (T : Tx K mg uG) (D_is_whole : Df P w K mg base 1 "is_whole" ["value"] spWhole) : FnOk P w K mg base CX0 2 f fd ["value"] spIsFrac := by
  refine F.ok sc_is_fraction (fun vs H Q E h => ?_) (fun cdv A outer s H vs Q E hr h => ?_)
  · obtain ⟨v, x, rfl, _⟩ := h
    rfl
  · obtain ⟨v, x, rfl, hx, k⟩ := h
    refine ⟨_, (pss_cons (ps_if (PW.pt (pw_or (pt_not (pt_val (pe_callB (call_isiK (K := K) rfl) (by rfl) T.z_isinstance (by decide +kernel) (pa_cons (pv 0) (pa_cons (pe_bltn (by rfl) T.z_tuple (by decide +kernel) (show RelV (.ty "tuple") _ from rfl)) pa_nil))))) (pw_or1 (pt_cmpR op_ne (pe_callB call_len_seq (by rfl) T.z_len (by decide +kernel) (pa_cons (pv 0) pa_nil)) pe_int (nomark _)))))
      (pss_one (ps_ret pe_bl))
      pss_nil)
    (pss_cons (ps_asg (pv 0) (pg_tupK (K := K) rfl (by rfl) (pgs_cons (pg_name (i := 1) sc_is_fraction.nd rfl (.inl rfl)) (pgs_cons (pg_name (i := 2) sc_is_fraction.nd rfl (.inl rfl)) pgs_nil))))
    (pss_one (ps_ret (pe_and (pe_df D_is_whole (hr.mono (by decide)) (by rfl) (pa_cons (pv 1) pa_nil)) (pe_and (pe_df D_is_whole (hr.mono (by decide)) (by rfl) (pa_cons (pv 2) pa_nil)) (pe_and (pe_cmpR op_ge (pv 2) pe_int (nomark _)) (pe_one (pe_cmpR op_eq (pe_callBfun cr_gcd (by rfl) T.z_gcd (pa_cons (pv 1) (pa_cons (pv 2) pa_nil))) pe_int (nomark _)))))))))), ?_⟩
    cases x with
    | n m =>
      obtain rfl : v = .int m := hx
      rw [show start n_is_fraction [(.int m : V)] = ([some (.int m), none, none] : List (Option V)) from rfl]
      walk_at "rd"
      exact k
    | p n d =>
      obtain ⟨q, rfl, hq⟩ := hx
      rw [show start n_is_fraction [(.ref q : V)] = ([some (.ref q), none, none] : List (Option V)) from rfl]
      walk_at "rd"
      refine w_isi_tt hq ?_
      walk_at "rd"
      refine ⟨q, _, rfl, .inr (SqT.of hq), ?_⟩
      walk_at "rd"
      refine w_gTup2 hq ?_
      walk_at "rd"
      refine ⟨.i n, rfl, _, rfl, if_t rfl ?_⟩
      walk_at "rd"
      refine ⟨.i d, rfl, _, rfl, if_t rfl ?_⟩
      walk_at "rd"
      have k : Q (.bl (decide (1 ≤ d) && decide ((Nat.gcd n.natAbs d.natAbs : Int) = 1))) H := k
      by_cases h1 : (1 : Int) ≤ d
      · rw [decide_eq_true h1, Bool.true_and] at k
        refine if_t (decide_eq_true h1) ?_
        walk_at "rd"
        refine ⟨n, d, rfl, ?_⟩
        walk_at "rd"
        have e : decide (V.int ((Nat.gcd n.natAbs d.natAbs : Nat) : Int) = V.int 1) = decide ((Nat.gcd n.natAbs d.natAbs : Int) = 1) := decide_eq_decide.mpr ⟨V.int.inj, congrArg V.int⟩
        rw [e]
        exact k
      · rw [decide_eq_false h1, Bool.false_and] at k
        exact if_f (decide_eq_false h1) k
theorem ok_ascends {c P0 : Addr} (F : FunC K "ascends" s_ascends f fd c) (T : Tx K mg uG) (TB : GxR.TabB base mg c P0) : FnOk P w K mg base CX0 4 f fd ["keys"] (spAsc K P0) := by
  refine F.ok sc_ascends (fun vs H Q E h => ?_) (fun A outer s H vs Q E hr h => ?_)
  · obtain ⟨a, xs, ds, rfl, _⟩ := h
    rfl
  · obtain ⟨a, xs, ds, rfl, ha, hz, hd, hal, hdn, hT, k⟩ := h
    refine ⟨_, (pss_one (ps_ret (pe_allG (k := 1) (own := [("at", 1)]) (g := gName 1) (hr.mono (by decide)) (by rfl) T.z_all (by decide +kernel) rfl sc_ascends.nd TB rfl ⟨blkOk_by (own := [("at", 1)]) (N := n_ascends) (sc := defScope s_ascends) (by decide +kernel), rfl, by decide +kernel, rfl⟩ (pi_range2 (by rfl) T.z_range (pa_cons pe_int (pa_cons (pe_callB call_len_seq (by rfl) T.z_len (by decide +kernel) (pa_cons (pv 0) pa_nil)) pa_nil))) (fun _ _ _ _ _ => pg_name (i := 1) sc_ascends.nd rfl (Or.inl rfl)) (fun _ _ _ _ _ hr => (pe_cmpR (opK (K := K) (r := rLtD) rfl (op_ltD hr.units)) (pe_ix (ix_eitherK (K := K) rfl) (pv 0) (pe_op op_sub (pv 1) pe_int) (fun _ _ => rfl)) (pe_ix (ix_eitherK (K := K) rfl) (pv 0) (pv 1) (fun _ _ => rfl)) (nomark _)))))), ?_⟩
    rw [show start n_ascends [(.ref a : V)] = ([some (.ref a), none] : List (Option V)) from rfl]
    walk_at "rd"
    have hlen := dpAll_len hd
    have hb : (xs.length : Int) < 2 ^ 62 := by
      have h1 : sizeLine < 2 ^ 62 := by decide
      exact_mod_cast Nat.lt_of_le_of_lt hz h1
    refine ⟨_, rfl, a, xs, rfl, ha.elim (fun h => .inl (SqL.of h)) (fun h => .inr (SqT.of h)), _, _, rfl, ⟨by decide, by decide, by omega, hb⟩, hT, fun H2 hT2 => ?_⟩
    have en : ((xs.length : Int) - 1).toNat = ds.length - 1 := by omega
    rw [en]
    refine g_range (σ := [some (.ref a), none]) (j := 1) (fun j => PySem.W.dataLt (ds.getD j .none) (ds.getD (j + 1) .none)) (fun H1 => Kept H H1) (Kept.tabbed hT hT2) (fun i H1 k' hi kp hk => ?_) (fun H1 kp => k H1 kp)
    have hd1 := Kept.dpAll kp _ _ hd
    have x1 : xs[i]? = some (xs[i]'(by omega)) := List.getElem?_eq_getElem _
    have x2 : xs[i + 1]? = some (xs[i + 1]'(by omega)) := List.getElem?_eq_getElem _
    obtain ⟨d1, e1, p1⟩ := dpAll_at hd1 x1
    obtain ⟨d2, e2, p2⟩ := dpAll_at hd1 x2
    have g1 : ds.getD i .none = d1 := by rw [List.getD_eq_getElem?_getD, e1] <;> rfl
    have g2 : ds.getD (i + 1) .none = d2 := by rw [List.getD_eq_getElem?_getD, e2] <;> rfl
    have m1 := List.mem_of_getElem? e1
    have m2 := List.mem_of_getElem? e2
    have ixe : ∀ (m : Int) (v : V) (R : VK), atI xs m = some v → R v H1 → rIxE K (.ref a) (.int m) H1 R := fun m v R hm r => by
      rcases ha with h | h
      · exact .inl ⟨a, xs, m, v, rfl, rfl, SqL.of (kp.lst h), hm, r⟩
      · exact .inr ⟨a, xs, m, v, rfl, rfl, SqT.of (kp.tup h), hm, r⟩
    refine w_op ?_
    refine w_op (w_var rfl ?_)
    walk_at "rd"
    refine ixe _ _ _ (atI_eq (by omega) x1) ?_
    walk_at "rd"
    refine ixe _ _ _ (atI_eq (by push_cast; omega) x2) ?_
    refine ⟨d1, d2, p1, p2, hal _ m1 _ m2, (hdn _ m1).1, (hdn _ m1).2, ?_⟩
    have q := hk H1 kp
    rw [g1, g2] at q
    exact q
end
end Ky

namespace Ky
open PySem PySem.Spec PyProof.Rows L2
local macro_rules | `(tactic| walk_at "rd") => `(tactic| repeat (first
  | with_reducible refine w_for1 ?_
  | with_reducible refine w_for2 ?_
  | with_reducible refine w_forL ?_
  | with_reducible refine w_forT ?_
  | with_reducible refine w_lc1 ?_
  | with_reducible refine w_lcL ?_
  | with_reducible refine w_lcT ?_
  | with_reducible refine w_seq ?_
  | with_reducible refine w_asg ?_
  | with_reducible refine w_ret ?_
  | with_reducible refine w_drop ?_
  | with_reducible refine w_ifs ?_
  | ((with_reducible refine' w_var ?hh ?_); (case hh => exact rfl))
  | with_reducible refine w_c ?_
  | with_reducible refine w_op ?_
  | with_reducible refine w_un ?_
  | with_reducible refine w_I0 ?_
  | with_reducible refine w_U ?_
  | with_reducible refine w_nil ?_
  | with_reducible refine w_cons ?_
  | with_reducible refine w_call ?_
  | with_reducible refine w_cb ?_
  | with_reducible refine w_test ?_
  | with_reducible refine w_B ?_
  | with_reducible refine w_bl ?_
  | with_reducible refine w_and ?_
  | with_reducible refine w_or ?_
  | with_reducible refine w_not ?_
  | with_reducible refine w_ife ?_
  | with_reducible refine w_gRd ?_
  | with_reducible refine w_andV ?_
  | with_reducible refine w_orV ?_
  | with_reducible refine w_notV ?_
  | with_reducible refine w_chain ?_
  | with_reducible refine w_din ?_
  | with_reducible refine w_isi_ii ?_
  | with_reducible refine w_isi_bi ?_
  | with_reducible refine w_isi_bb ?_
  | with_reducible refine w_isi_bt ?_
  | with_reducible refine w_isi_si ?_
  | with_reducible refine w_isi_nt ?_
  | with_reducible refine w_isi_ib ?_
  | with_reducible refine w_isi_it ?_
  | with_reducible refine w_isi_st ?_
  | ((with_reducible refine w_isi_tt ?h1 ?_); (case h1 => first | assumption | exact upd_same))
  | with_reducible refine if_t rfl ?_
  | with_reducible refine if_f rfl ?_
  | with_reducible refine w_tup ?_
  | with_reducible refine w_lst ?_
  | with_reducible refine w_next ?_
  | with_reducible refine w_bm ?_
  | with_reducible refine w_sl ?_
  | with_reducible refine w_part ?_
  | with_reducible refine w_nop ?_
  | with_reducible refine w_isI ?_
  | with_reducible refine w_yes ?_
  | with_reducible refine w_gn ?_
  | with_reducible refine w_gsub ?_
  | ((with_reducible refine' w_setL ?h1 ?h2 ?_); (case h1 => first | assumption | exact upd_same); (case h2 => exact rfl))
  | with_reducible refine w_asgG ?_
  | with_reducible refine w_m1 ?_
  | with_reducible refine w_isS ?_
  | with_reducible refine w_tyS ?_
  | ((with_reducible refine' w_tyL ?h1 ?_); (case h1 => first | assumption | exact upd_same))
  | ((with_reducible refine' w_ixT ?h1 ?h2 ?_); (case h1 => first | assumption | exact upd_same); (case h2 => exact rfl))
  | ((with_reducible refine' w_ixL ?h1 ?h2 ?_); (case h1 => first | assumption | exact upd_same); (case h2 => exact rfl))
  | ((with_reducible refine w_eq ?h1 ?_); (case h1 => exact rfl))
  | ((with_reducible refine w_ne ?h1 ?_); (case h1 => exact rfl))
  | dsimp only [List.set_cons_zero, List.set_cons_succ, List.append_nil, List.cons_append, List.nil_append, cxOf]))

def varsF (S : List At) : Bool := (List.range (S.map At.v).length).all (fun i => (S.getD i (.i 0)).vr) && ascD (S.map At.dat)
def comF (S Hd : List At) : Bool := Hd.any fun x => x.vr && decide (x ∈ S)
def knownF (cs : List (List Int)) (vs : List Int) : Bool := (absAll cs).all fun v => decide (v ∈ vs)
def spVars (K : PySem.W.Frag) (P1 P2 : Addr) : Sp := fun vs H Q _ => ∃ (a : Addr) (S : List At), vs = [.ref a] ∧ H a = some (.tup (S.map At.v)) ∧ S.length ≤ 1000 ∧ GxR.TabG H P1 ∧ GxR.TabG H P2 ∧ ∀ H', Kept H H' → Q (.bl (varsF S)) H'
def spCommon (P1 : Addr) : Sp := fun vs H Q _ => ∃ (a b : Addr) (S Hd : List At), vs = [.ref a, .ref b] ∧ H a = some (.tup (S.map At.v)) ∧ H b = some (.tup (Hd.map At.v)) ∧ S.length ≤ 1000 ∧ Hd.length ≤ 1000 ∧ GxR.TabG H P1 ∧ ∀ H', Kept H H' → Q (.bl (comF S Hd)) H'
def spKnown (P1 : Addr) : Sp := fun vs H Q _ => ∃ (a b : Addr) (bs : List Addr) (cs : List (List Int)) (ns : List Int), vs = [.ref a, .ref b] ∧ H a = some (.lst (bs.map V.ref)) ∧ ClsAt H bs cs ∧ cs.flatten.length ≤ 60 ∧ H b = some (.tup (ns.map V.int)) ∧ ns.length ≤ 1000 ∧ GxR.TabG H P1 ∧ ∀ H', Kept H H' → Q (.bl (knownF cs ns)) H'
theorem putK_le (c : List (L2.Key × V)) (k : L2.Key) (x : V) : (putK c k x).length ≤ c.length + 1 := by
  unfold putK
  by_cases e : (c.any fun kv => decide (kv.1 = k)) = true
  · rw [if_pos e, List.length_map]
    omega
  · rw [if_neg e, List.length_append]
    exact Nat.le_refl _
theorem map_at {S : List At} {i : Nat} {y : V} (h : (S.map At.v)[i]? = some y) : ∃ x, y = At.v x ∧ S[i]? = some x := by
  rw [List.getElem?_map] at h
  obtain ⟨x, hx, rfl⟩ := Option.map_eq_some_iff.mp h
  exact ⟨x, rfl, hx⟩
theorem dpAll_at0 {K : PySem.W.Frag} {H : Hp} : ∀ S : List At, DpAll K H (S.map At.v) (S.map At.dat)
  | [] => .nil
  | .i n :: S => .cons (.int n) (dpAll_at0 S)
  | .b x :: S => .cons (.bl x) (dpAll_at0 S)
  | .s z :: S => .cons (.str z) (dpAll_at0 S)
theorem all_vr {S : List At} (h : S.all At.vr = true) : ∃ ns : List Int, S = ns.map At.i ∧ ∀ n ∈ ns, isVar n = true := by
  induction S with
  | nil => exact ⟨[], rfl, fun n hn => by simp at hn⟩
  | cons x S ih =>
    rw [List.all_cons, Bool.and_eq_true] at h
    obtain ⟨ns, e, hn⟩ := ih h.2
    cases x with
    | i n =>
      refine ⟨n :: ns, by rw [e]; rfl, fun m hm => ?_⟩
      rcases List.mem_cons.mp hm with rfl | hm
      · exact h.1
      · exact hn m hm
    | b x => exact absurd h.1 Bool.false_ne_true
    | s z => exact absurd h.1 Bool.false_ne_true
section
variable {P : Program} {w : World} {K : PySem.W.Frag} {mg : Str → Option Value} {base : Heap} {uG : Value} {f : Addr} {fd : FuncData}
theorem ok_variables_of (F : Fun K "variables_of" "variables_of" s_variables_of f fd) (T : Tx K mg uG) : FnOk P w K mg base CX0 1 f fd ["residue"] spVarsOf := by
  refine F.ok sc_variables_of (fun vs H Q E h => ?_) (fun cdv A outer s H vs Q E hr h => ?_)
  · obtain ⟨a, bs, cs, rfl, _⟩ := h
    rfl
  · obtain ⟨a, bs, cs, rfl, ha, hc, hz, k⟩ := h
    refine ⟨_, (pss_one (ps_ret (pe_callTy call_tuple_of (by rfl) T.z_tuple (by decide +kernel) (pa_cons (pe_callB (cr_sortedSet rfl) (by rfl) T.z_sorted (by decide +kernel) (pa_cons (pe_sc2 (own := [("clause", 1), ("literal", 2)]) (vs1 := [2]) (g := gName 1) (g1 := gName 2) (by rfl) sc_variables_of.nd (pi_listK (K := K) rfl (pv 0)) (blkOk_by (own := [("clause", 1), ("literal", 2)]) (N := n_variables_of) (sc := defScope s_variables_of) (by decide +kernel)) (by decide) (fun _ _ _ _ _ => pg_name (i := 1) sc_variables_of.nd rfl (Or.inl rfl)) (fun _ _ _ _ _ => (pi_tupK (K := K) rfl (pv 1))) (fun _ _ _ _ _ => pg_name (i := 2) sc_variables_of.nd rfl (Or.inl rfl)) (fun _ _ _ _ _ => (pe_callB call_abs (by rfl) T.z_abs (by decide +kernel) (pa_cons (pv 2) pa_nil)))) pa_nil)) pa_nil)))), ?_⟩
    rw [show start n_variables_of [(.ref a : V)] = ([some (.ref a), none, none] : List (Option V)) from rfl]
    walk_at "rd"
    refine ⟨_, rfl, a, rfl, ⟨_, SqL.of ha⟩, fun D hD => ?_⟩
    refine c_list (xs := bs.map V.ref) (fun i H1 => H1 = upd H D (SetO w D (fun k => decide (k ∈ absAll (cs.take i))) (dd (absAll (cs.take i))).length)) ?_ (fun i H1 _ h => by rw [h]; exact SqL.of ((Kept.new hD).lst ha)) (fun i x H1 hx h => ?_) fun H1 h => ?_
    · rw [List.take_zero]
      have e : (fun k => decide (k ∈ absAll [])) = fun _ => false := by
        funext k
        simp [absAll]
      rw [e] <;> rfl
    · rw [List.getElem?_map] at hx
      obtain ⟨b, hb, rfl⟩ := Option.map_eq_some_iff.mp hx
      have hi : i < cs.length := by rw [← hc.1]; exact (List.getElem?_eq_some_iff.mp hb).1
      have hci : cs[i]? = some cs[i] := List.getElem?_eq_getElem hi
      have e1 := hc.2 i b _ hb hci
      have et : cs.take (i + 1) = cs.take i ++ [cs[i]] := by rw [List.take_add_one, hci]; rfl
      have ea : absAll (cs.take (i + 1)) = absAll (cs.take i) ++ cs[i].map absI := by
        rw [et]
        unfold absAll
        rw [List.flatten_append, List.map_append]
        simp
      have hlen : (absAll (cs.take i)).length + cs[i].length ≤ 60 := by
        have h1 : (absAll (cs.take (i + 1))).length ≤ cs.flatten.length := by
          unfold absAll
          rw [List.length_map]
          have h2 : (cs.take (i + 1)).flatten.length ≤ ((cs.take (i + 1)) ++ cs.drop (i + 1)).flatten.length := by
            rw [List.flatten_append, List.length_append]
            omega
          rw [List.take_append_drop] at h2
          exact h2
        rw [ea, List.length_append, List.length_map] at h1
        omega
      refine ⟨rfl, _, rfl, b, rfl, ⟨_, SqT.of (by rw [h]; exact (Kept.new hD).tup e1)⟩, ?_⟩
      refine c_tup (xs := cs[i].map V.int) (fun j H2 => H2 = upd H D (SetO w D (fun k => decide (k ∈ absAll (cs.take i) ++ (cs[i].take j).map absI)) (dd (absAll (cs.take i) ++ (cs[i].take j).map absI)).length)) (by rw [h, List.take_zero, List.map_nil, List.append_nil]) (fun j H2 _ h2 => by rw [h2]; exact SqT.of ((Kept.new hD).tup e1)) (fun j x H2 hx h2 => ?_) fun H2 h2 => ?_
      · obtain ⟨n, rfl, hn⟩ := map_int hx
        refine ⟨rfl, ?_⟩
        walk_at "rd"
        refine ⟨n, rfl, ?_⟩
        walk_at "rd"
        have en : cs[i].take (j + 1) = cs[i].take j ++ [n] := by rw [List.take_add_one, hn]; rfl
        refine ⟨absI n, _, _, rfl, by rw [h2]; exact upd_same, ?_, ?_⟩
        · have h3 := len_dd (absAll (cs.take i) ++ (cs[i].take j).map absI)
          rw [List.length_append, List.length_map, List.length_take] at h3
          have h4 : 62 < scanBound := by decide
          omega
        · rw [h2, upd_again, set_step, set_len, en, List.map_append, List.append_assoc] <;> rfl
      · rw [h2, List.length_map, List.take_length, ← ea]
    · rw [List.length_map, hc.1, List.take_length] at h
      walk_at "rd"
      refine ⟨D, _, _, rfl, by rw [h]; exact upd_same, ?_, fun ns p h1 h2 h3 hp => ?_⟩
      · have h3 := len_dd (absAll cs)
        unfold absAll at h3 ⊢
        rw [List.length_map] at h3
        omega
      · walk_at "rd"
        have kD := Kept.new (o := SetO w D (fun k => decide (k ∈ absAll cs)) (dd (absAll cs)).length) hD
        rw [← h] at kD
        have k2 := kD.trans (Kept.new (o := .lst (ns.map V.int)) hp)
        refine ⟨p, _, rfl, .inl ⟨SqL.of upd_same, fun l hl => ?_⟩⟩
        exact k ns l _ h1 (fun k => by rw [h2 k]; exact decide_eq_true_iff) (k2.trans (Kept.new hl)) (k2.free _ hl) upd_same
theorem ok_is_clause {c P1 P2 : Addr} (F : FunC K "is_clause" s_is_clause f fd c) (T : Tx K mg uG) (TB : GxR.TabB base mg c P1) (D_is_literal : Df P w K mg base 3 "is_literal" ["value"] spLit) (D_ascends : Df P w K mg base 4 "ascends" ["keys"] (spAsc K P2)) : FnOk P w K mg base CX0 7 f fd ["value"] (spIsClause K P1 P2) := by
  refine F.ok sc_is_clause (fun vs H Q E h => ?_) (fun A outer s H vs Q E hr h => ?_)
  · rcases h with ⟨z, rfl, _⟩ | ⟨a, ls, rfl, _⟩ <;> rfl
  · rcases h with ⟨x, rfl, k⟩ | ⟨a, ls, rfl, ha, hz, hT1, hT2, k⟩
    · refine ⟨_, (pss_cons (ps_if (PW.pt (pw_or (pt_not (pt_val (pe_callB (call_isiK (K := K) rfl) (by rfl) T.z_isinstance (by decide +kernel) (pa_cons (pv 0) (pa_cons (pe_bltn (by rfl) T.z_tuple (by decide +kernel) (show RelV (.ty "tuple") _ from rfl)) pa_nil))))) (pw_or1 (pt_not (pt_val (pe_allG (k := 4) (own := [("item", 1)]) (g := gName 1) (hr.mono (by decide)) (by rfl) T.z_all (by decide +kernel) rfl sc_is_clause.nd TB rfl ⟨blkOk_by (own := [("item", 1)]) (N := n_is_clause) (sc := defScope s_is_clause) (by decide +kernel), rfl, by decide +kernel, rfl⟩ (pi_tupK (K := K) rfl (pv 0)) (fun _ _ _ _ _ => pg_name (i := 1) sc_is_clause.nd rfl (Or.inl rfl)) (fun _ _ _ _ _ hr => (pe_df D_is_literal (hr.mono (by decide)) (by rfl) (pa_cons (pv 1) pa_nil)))))))))
      (pss_one (ps_ret pe_bl))
      pss_nil)
    (pss_one (ps_ret (pe_df D_ascends (hr.mono (by decide)) (by rfl) (pa_cons (pe_lc (own := [("literal", 2)]) (g := gName 2) (by rfl) sc_is_clause.nd (pi_tupK (K := K) rfl (pv 0)) (blkOk_by (own := [("literal", 2)]) (N := n_is_clause) (sc := defScope s_is_clause) (by decide +kernel)) (fun _ _ _ _ _ => pg_name (i := 2) sc_is_clause.nd rfl (Or.inl rfl)) (fun _ _ _ _ _ => pts_nil) (fun _ _ _ _ _ => (pe_callB call_abs (by rfl) T.z_abs (by decide +kernel) (pa_cons (pv 2) pa_nil)))) pa_nil))))), ?_⟩
      cases x with
      | i n =>
        rw [show start n_is_clause [(At.v (.i n) : V)] = ([some (At.v (.i n)), none, none] : List (Option V)) from rfl]
        walk_at "rd"
        refine w_isi_it ?_
        walk_at "rd"
        exact k
      | b x =>
        rw [show start n_is_clause [(At.v (.b x) : V)] = ([some (At.v (.b x)), none, none] : List (Option V)) from rfl]
        walk_at "rd"
        refine w_isi_bt ?_
        walk_at "rd"
        exact k
      | s z =>
        rw [show start n_is_clause [(At.v (.s z) : V)] = ([some (At.v (.s z)), none, none] : List (Option V)) from rfl]
        walk_at "rd"
        refine w_isi_st ?_
        walk_at "rd"
        exact k
    · refine ⟨_, (pss_cons (ps_if (PW.pt (pw_or (pt_not (pt_val (pe_callB (call_isiK (K := K) rfl) (by rfl) T.z_isinstance (by decide +kernel) (pa_cons (pv 0) (pa_cons (pe_bltn (by rfl) T.z_tuple (by decide +kernel) (show RelV (.ty "tuple") _ from rfl)) pa_nil))))) (pw_or1 (pt_not (pt_val (pe_allG (k := 4) (own := [("item", 1)]) (g := gName 1) (hr.mono (by decide)) (by rfl) T.z_all (by decide +kernel) rfl sc_is_clause.nd TB rfl ⟨blkOk_by (own := [("item", 1)]) (N := n_is_clause) (sc := defScope s_is_clause) (by decide +kernel), rfl, by decide +kernel, rfl⟩ (pi_tupK (K := K) rfl (pv 0)) (fun _ _ _ _ _ => pg_name (i := 1) sc_is_clause.nd rfl (Or.inl rfl)) (fun _ _ _ _ _ hr => (pe_df D_is_literal (hr.mono (by decide)) (by rfl) (pa_cons (pv 1) pa_nil)))))))))
      (pss_one (ps_ret pe_bl))
      pss_nil)
    (pss_one (ps_ret (pe_df D_ascends (hr.mono (by decide)) (by rfl) (pa_cons (pe_lc (own := [("literal", 2)]) (g := gName 2) (by rfl) sc_is_clause.nd (pi_tupK (K := K) rfl (pv 0)) (blkOk_by (own := [("literal", 2)]) (N := n_is_clause) (sc := defScope s_is_clause) (by decide +kernel)) (fun _ _ _ _ _ => pg_name (i := 2) sc_is_clause.nd rfl (Or.inl rfl)) (fun _ _ _ _ _ => pts_nil) (fun _ _ _ _ _ => (pe_callB call_abs (by rfl) T.z_abs (by decide +kernel) (pa_cons (pv 2) pa_nil)))) pa_nil))))), ?_⟩
      rw [show start n_is_clause [(.ref a : V)] = ([some (.ref a), none, none] : List (Option V)) from rfl]
      walk_at "rd"
      refine w_isi_tt ha ?_
      walk_at "rd"
      refine ⟨_, rfl, a, rfl, ⟨_, SqT.of ha⟩, hT1, fun H2 hT2' => ?_⟩
      refine g_tup (xs := ls.map V.int) (σ := [some (.ref a), none, none]) (j := 1) (fun i => isLit (ls.getD i 0)) (fun H1 => Kept H H1) (Kept.tabbed hT1 hT2') (fun H1 kp => SqT.of (kp.tup ha)) (fun i x H1 k' hx kp hk => ?_) (fun H1 kp => ?_)
      · obtain ⟨n, rfl, hn⟩ := map_int hx
        walk_at "rd"
        refine ⟨n, rfl, ?_⟩
        have q := hk H1 kp
        have e1 : ls.getD i 0 = n := by rw [List.getD_eq_getElem?_getD, hn] <;> rfl
        rw [e1] at q
        exact q
      · refine ⟨_, rfl, ?_⟩
        show if (!((List.range (ls.map V.int).length).all fun i => isLit (ls.getD i 0))) = true then _ else _
        cases hb : (List.range (ls.map V.int).length).all fun i => isLit (ls.getD i 0) with
        | false =>
          refine if_t rfl ?_
          walk_at "rd"
          have q := k H1 kp
          unfold isClauseF at q
          rw [hb, Bool.false_and] at q
          exact q
        | true =>
          refine if_f rfl ?_
          walk_at "rd"
          refine ⟨a, rfl, ⟨_, SqT.of (kp.tup ha)⟩, fun D hD => ?_⟩
          refine c_tup (xs := ls.map V.int) (fun i H2 => H2 = upd H1 D (.lst ((ls.take i).map fun n => V.int (absI n)))) (by rw [List.take_zero]; rfl) (fun i H2 _ h => by rw [h]; exact SqT.of ((kp.trans (Kept.new hD)).tup ha)) (fun i x H2 hx h => ?_) fun H2 h => ?_
          · obtain ⟨n, rfl, hn⟩ := map_int hx
            refine ⟨rfl, w_yes (if_t rfl ?_)⟩
            walk_at "rd"
            refine ⟨n, rfl, ?_⟩
            walk_at "rd"
            have et : ls.take (i + 1) = ls.take i ++ [n] := by rw [List.take_add_one, hn]; rfl
            refine ⟨_, by rw [h]; exact upd_same, ?_, ?_⟩
            · rw [List.length_map, List.length_take]
              have h1 : i < ls.length := (List.getElem?_eq_some_iff.mp hn).1
              have h2 : 1000 ≤ sizeLine := by decide
              omega
            · rw [h, upd_again, et, List.map_append] <;> rfl
          · walk_at "rd"
            rw [List.length_map, List.take_length] at h
            have kD := Kept.new (o := .lst (ls.map fun n => V.int (absI n))) hD
            rw [← h] at kD
            have kp2 := kp.trans kD
            refine ⟨D, _, ls.map fun n => PyData.int (absI n), rfl, .inl (by rw [h]; exact upd_same), by rw [List.length_map]; exact Nat.le_trans hz (by decide), ?_, PySem.W.AllAlike.of (fun a b => by simp [PySem.W.alike]), fun d hd => ?_, kp2.tab P2 hT2, fun H3 kp3 => ?_⟩
            · have q := dpAll_ints (K := K) (H := H2) (ls.map absI)
              rw [List.map_map, List.map_map] at q
              exact q
            · obtain ⟨n, _, rfl⟩ := List.mem_map.mp hd
              exact ⟨fun z => (by cases z), by simp [PyData.depth]⟩
            · have q := k H3 (kp2.trans kp3)
              unfold isClauseF at q
              rw [hb, Bool.true_and] at q
              exact q
theorem ok_is_residue {c P1 P2 P3 : Addr} (F : FunC K "is_residue" s_is_residue f fd c) (T : Tx K mg uG) (TB : GxR.TabB base mg c P3) (D_clause_key : Df P w K mg base 2 "clause_key" ["clause"] spCKey) (D_is_clause : Df P w K mg base 7 "is_clause" ["value"] (spIsClause K P1 P2)) (D_ascends : Df P w K mg base 4 "ascends" ["keys"] (spAsc K P2)) : FnOk P w K mg base CX0 10 f fd ["value"] (spIsResidue K P1 P2 P3) := by
  refine F.ok sc_is_residue (fun vs H Q E h => ?_) (fun A outer s H vs Q E hr h => ?_)
  · obtain ⟨a, bs, cs, rfl, _⟩ := h
    rfl
  · obtain ⟨a, bs, cs, rfl, ha, hc, hz, hz2, hT1, hT2, hT3, k⟩ := h
    refine ⟨_, (pss_cons (ps_if (PW.pt (pw_or (pt_not (pt_val (pe_callB (call_isiK (K := K) rfl) (by rfl) T.z_isinstance (by decide +kernel) (pa_cons (pv 0) (pa_cons (pe_bltn (by rfl) T.z_tuple (by decide +kernel) (show RelV (.ty "tuple") _ from rfl)) pa_nil))))) (pw_or1 (pt_not (pt_val (pe_allG (k := 7) (own := [("item", 1)]) (g := gName 1) (hr.mono (by decide)) (by rfl) T.z_all (by decide +kernel) rfl sc_is_residue.nd TB rfl ⟨blkOk_by (own := [("item", 1)]) (N := n_is_residue) (sc := defScope s_is_residue) (by decide +kernel), rfl, by decide +kernel, rfl⟩ (pi_tupK (K := K) rfl (pv 0)) (fun _ _ _ _ _ => pg_name (i := 1) sc_is_residue.nd rfl (Or.inl rfl)) (fun _ _ _ _ _ hr => (pe_df D_is_clause (hr.mono (by decide)) (by rfl) (pa_cons (pv 1) pa_nil)))))))))
      (pss_one (ps_ret pe_bl))
      pss_nil)
    (pss_one (ps_ret (pe_df D_ascends (hr.mono (by decide)) (by rfl) (pa_cons (pe_lc (own := [("clause", 2)]) (g := gName 2) (by rfl) sc_is_residue.nd (pi_tupK (K := K) rfl (pv 0)) (blkOk_by (own := [("clause", 2)]) (N := n_is_residue) (sc := defScope s_is_residue) (by decide +kernel)) (fun _ _ _ _ _ => pg_name (i := 2) sc_is_residue.nd rfl (Or.inl rfl)) (fun _ _ _ _ _ => pts_nil) (fun _ _ _ _ _ => (pe_df D_clause_key (hr.mono (by decide)) (by rfl) (pa_cons (pv 2) pa_nil)))) pa_nil))))), ?_⟩
    rw [show start n_is_residue [(.ref a : V)] = ([some (.ref a), none, none] : List (Option V)) from rfl]
    walk_at "rd"
    refine w_isi_tt ha ?_
    walk_at "rd"
    have hlb : (bs.map V.ref).length = cs.length := by rw [List.length_map, hc.1]
    refine ⟨_, rfl, a, rfl, ⟨_, SqT.of ha⟩, hT3, fun H2 hT2' => ?_⟩
    refine g_tup (xs := bs.map V.ref) (σ := [some (.ref a), none, none]) (j := 1) (fun i => isClauseF (cs.getD i [])) (fun H1 => Kept H H1) (Kept.tabbed hT3 hT2') (fun H1 kp => SqT.of (kp.tup ha)) (fun i x H1 k' hx kp hk => ?_) (fun H1 kp => ?_)
    · rw [List.getElem?_map] at hx
      obtain ⟨b, hb, rfl⟩ := Option.map_eq_some_iff.mp hx
      have hi : i < cs.length := by rw [← hc.1]; exact (List.getElem?_eq_some_iff.mp hb).1
      have hci : cs[i]? = some cs[i] := List.getElem?_eq_getElem hi
      have e2 : cs.getD i [] = cs[i] := by rw [List.getD_eq_getElem?_getD, hci] <;> rfl
      walk_at "rd"
      refine .inr ⟨b, cs[i], rfl, kp.tup (hc.2 i b _ hb hci), hz2 _ (List.getElem_mem hi), kp.tab P1 hT1, kp.tab P2 hT2, fun H3 kp3 => ?_⟩
      have q := hk H3 (kp.trans kp3)
      rw [e2] at q
      exact q
    · refine ⟨_, rfl, ?_⟩
      rw [hlb]
      show if (!((List.range cs.length).all fun i => isClauseF (cs.getD i []))) = true then _ else _
      cases hb : (List.range cs.length).all fun i => isClauseF (cs.getD i []) with
      | false =>
        refine if_t rfl ?_
        walk_at "rd"
        have q := k H1 kp
        unfold isResidueF at q
        rw [hb, Bool.false_and] at q
        exact q
      | true =>
        refine if_f rfl ?_
        walk_at "rd"
        refine ⟨a, rfl, ⟨_, SqT.of (kp.tup ha)⟩, fun D hD => ?_⟩
        refine c_tup (xs := bs.map V.ref) (fun i H2 => ∃ ps : List Addr, H2 D = some (.lst (ps.map V.ref)) ∧ Kept H H2 ∧ ps.length = i ∧ ∀ (j : Nat) (p : Addr) (d : List Int), ps[j]? = some p → cs[j]? = some d → CkAt H2 p d) ⟨[], upd_same, kp.trans (Kept.new hD), rfl, fun j p d h => by simp at h⟩ (fun i H2 _ h => by
          obtain ⟨_, _, k1, _⟩ := h
          exact SqT.of (k1.tup ha)) (fun i x H2 hx h => ?_) fun H2 h => ?_
        · obtain ⟨ps, h1, h2, h3, h4⟩ := h
          rw [List.getElem?_map] at hx
          obtain ⟨b, hb2, rfl⟩ := Option.map_eq_some_iff.mp hx
          have hi : i < cs.length := by rw [← hc.1]; exact (List.getElem?_eq_some_iff.mp hb2).1
          have hci : cs[i]? = some cs[i] := List.getElem?_eq_getElem hi
          refine ⟨rfl, w_yes (if_t rfl ?_)⟩
          walk_at "rd"
          have e1 := h2.tup (hc.2 i b _ hb2 hci)
          have hDn : H D = none := kp.free _ hD
          refine ⟨b, cs[i], rfl, e1, Nat.le_trans (hz2 _ (List.getElem_mem hi)) (by decide), fun qs p H4 k4 hp p1 p2 p3 => ?_⟩
          have hD4 := k4.lst h1
          refine ⟨ps.map V.ref, hD4, ?_, ps ++ [p], by rw [List.map_append]; exact upd_same, Kept.mut (h2.trans k4) hDn, by rw [List.length_append, h3] <;> rfl, fun j q d hq hd => ?_⟩
          · rw [List.length_map, h3]
            have h6 : 1000 ≤ sizeLine := by decide
            omega
          · by_cases hj : j < ps.length
            · rw [List.getElem?_append_left hj] at hq
              exact ((h4 j q d hq hd).kept k4).updL hD4
            · have hj2 : j < (ps ++ [p]).length := (List.getElem?_eq_some_iff.mp hq).1
              rw [List.length_append] at hj2
              have ej : j = ps.length := by
                have : j < ps.length + 1 := hj2
                omega
              subst ej
              have eq : q = p := by simpa using hq.symm
              subst eq
              rw [h3, hci] at hd
              cases hd
              exact CkAt.updL ⟨qs, p1, p2, p3⟩ hD4
        · obtain ⟨ps, h1, h2, h3, h4⟩ := h
          rw [hlb] at h3
          walk_at "rd"
          refine ⟨D, _, cs.map ckD, rfl, .inl h1, by rw [List.length_map, h3]; exact Nat.le_trans hz (by decide), dpAll_of (by rw [List.length_map, List.length_map, h3]) fun i x d hx hd => ?_, PySem.W.AllAlike.of ckD_alike, fun d hd => ?_, h2.tab P2 hT2, fun H3 kp3 => ?_⟩
          · rw [List.getElem?_map] at hx hd
            obtain ⟨q, hq, rfl⟩ := Option.map_eq_some_iff.mp hx
            obtain ⟨e, he, rfl⟩ := Option.map_eq_some_iff.mp hd
            exact (h4 i q e hq he).dp
          · obtain ⟨n, _, rfl⟩ := List.mem_map.mp hd
            exact ⟨fun z => (by cases z), ckD_depth n⟩
          · have q := k H3 (h2.trans kp3)
            unfold isResidueF at q
            rw [hb, Bool.true_and] at q
            exact q
theorem ok_are_variables {c P1 P2 : Addr} (F : FunC K "are_variables" s_are_variables f fd c) (T : Tx K mg uG) (TB : GxR.TabB base mg c P1) (D_is_variable : Df P w K mg base 2 "is_variable" ["value"] spVar) (D_ascends : Df P w K mg base 4 "ascends" ["keys"] (spAsc K P2)) : FnOk P w K mg base CX0 7 f fd ["row"] (spVars K P1 P2) := by
  refine F.ok sc_are_variables (fun vs H Q E h => ?_) (fun A outer s H vs Q E hr h => ?_)
  · obtain ⟨a, S, rfl, _⟩ := h
    rfl
  · obtain ⟨a, S, rfl, ha, hz, hT1, hT2, k⟩ := h
    refine ⟨_, (pss_one (ps_ret (pe_and (pe_allG (k := 4) (own := [("item", 1)]) (g := gName 1) (hr.mono (by decide)) (by rfl) T.z_all (by decide +kernel) rfl sc_are_variables.nd TB rfl ⟨blkOk_by (own := [("item", 1)]) (N := n_are_variables) (sc := defScope s_are_variables) (by decide +kernel), rfl, by decide +kernel, rfl⟩ (pi_tupK (K := K) rfl (pv 0)) (fun _ _ _ _ _ => pg_name (i := 1) sc_are_variables.nd rfl (Or.inl rfl)) (fun _ _ _ _ _ hr => (pe_df D_is_variable (hr.mono (by decide)) (by rfl) (pa_cons (pv 1) pa_nil)))) (pe_one (pe_df D_ascends (hr.mono (by decide)) (by rfl) (pa_cons (pv 0) pa_nil)))))), ?_⟩
    rw [show start n_are_variables [(.ref a : V)] = ([some (.ref a), none] : List (Option V)) from rfl]
    walk_at "rd"
    refine ⟨_, rfl, a, rfl, ⟨_, SqT.of ha⟩, hT1, fun H2 hT2' => ?_⟩
    refine g_tup (xs := S.map At.v) (σ := [some (.ref a), none]) (j := 1) (fun i => (S.getD i (.i 0)).vr) (fun H1 => Kept H H1) (Kept.tabbed hT1 hT2') (fun H1 kp => SqT.of (kp.tup ha)) (fun i x H1 k' hx kp hk => ?_) (fun H1 kp => ?_)
    · obtain ⟨x, rfl, hn⟩ := map_at hx
      have e1 : S.getD i (.i 0) = x := by rw [List.getD_eq_getElem?_getD, hn] <;> rfl
      have q := hk H1 kp
      rw [e1] at q
      walk_at "rd"
      exact ⟨x, rfl, q⟩
    · refine ⟨_, rfl, ?_⟩
      show if ((List.range (S.map At.v).length).all fun i => (S.getD i (.i 0)).vr) = true then _ else _
      cases hb : (List.range (S.map At.v).length).all fun i => (S.getD i (.i 0)).vr with
      | false =>
        have q := k H1 kp
        unfold varsF at q
        rw [hb, Bool.false_and] at q
        exact if_f rfl q
      | true =>
        refine if_t rfl ?_
        have hb2 := hb
        rw [List.length_map, range_all (.i 0) At.vr S] at hb2
        obtain ⟨ns, rfl, hn⟩ := all_vr hb2
        walk_at "rd"
        refine ⟨a, _, _, rfl, .inr (kp.tup ha), by rw [List.length_map]; exact Nat.le_trans hz (by decide), dpAll_at0 _, ?_, fun d hd => ?_, kp.tab P2 hT2, fun H3 kp3 => ?_⟩
        · rw [List.map_map]
          exact allAlike_ints ns
        · rw [List.map_map] at hd
          obtain ⟨n, _, rfl⟩ := List.mem_map.mp hd
          exact ⟨fun z => (by cases z), by show PyData.depth (.int n) ≤ 60; simp [PyData.depth]⟩
        · have q := k H3 (kp.trans kp3)
          unfold varsF at q
          rw [hb, Bool.true_and] at q
          exact q
theorem ok_have_common {c P1 : Addr} (F : FunC K "have_common" s_have_common f fd c) (T : Tx K mg uG) (TB : GxR.TabB base mg c P1) (D_is_variable : Df P w K mg base 2 "is_variable" ["value"] spVar) : FnOk P w K mg base CX0 7 f fd ["shown", "hidden"] (spCommon P1) := by
  refine F.ok sc_have_common (fun vs H Q E h => ?_) (fun A outer s H vs Q E hr h => ?_)
  · obtain ⟨a, b, S, Hd, rfl, _⟩ := h
    rfl
  · obtain ⟨a, b, S, Hd, rfl, ha, hb, hz, hz2, hT1, k⟩ := h
    refine ⟨_, (pss_cons (ps_set (i := 2) sc_have_common.nd rfl (.inr rfl) (pe_dc (own := [("item", 3)]) (g := gName 3) (by rfl) sc_have_common.nd (pi_tupK (K := K) rfl (pv 0)) (blkOk_by (own := [("item", 3)]) (N := n_have_common) (sc := defScope s_have_common) (by decide +kernel)) (fun _ _ _ _ _ => pg_name (i := 3) sc_have_common.nd rfl (Or.inl rfl)) (fun _ _ _ _ _ => pts_one (pt_val (pe_df D_is_variable (hr.mono (by decide)) (by rfl) (pa_cons (pv 3) pa_nil)))) (fun _ _ _ _ _ => (pv 3)) (fun _ _ _ _ _ => pe_bl)))
    (pss_one (ps_ret (pe_anyG (k := 4) (own := [("item", 3)]) (g := gName 3) (hr.mono (by decide)) (by rfl) T.z_any (by decide +kernel) rfl sc_have_common.nd TB rfl ⟨blkOk_by (own := [("item", 3)]) (N := n_have_common) (sc := defScope s_have_common) (by decide +kernel), rfl, by decide +kernel, rfl⟩ (pi_tupK (K := K) rfl (pv 1)) (fun _ _ _ _ _ => pg_name (i := 3) sc_have_common.nd rfl (Or.inl rfl)) (fun _ _ _ _ _ hr => (pe_and (pe_df D_is_variable (hr.mono (by decide)) (by rfl) (pa_cons (pv 3) pa_nil)) (pe_one (pe_cmp (pc_din hr.u1 (pv 3) (pv 2)))))))))), ?_⟩
    rw [show start n_have_common [(.ref a : V), (.ref b : V)] = ([some (.ref a), some (.ref b), none, none] : List (Option V)) from rfl]
    walk_at "rd"
    refine ⟨_, rfl, a, rfl, ⟨_, SqT.of ha⟩, fun D hD => ?_⟩
    refine c_tup (xs := S.map At.v) (fun i H1 => Kept H H1 ∧ ∃ kvs, H1 D = some (.dK kvs) ∧ kvs.length ≤ i ∧ ∀ n : Int, (valV kvs (.inl n)).isSome = ((S.take i).any fun x => x.vr && decide (x = .i n))) ⟨Kept.new hD, [], upd_same, Nat.le_refl _, fun n => by rw [List.take_zero]; rfl⟩ (fun i H1 _ h => SqT.of (h.1.tup ha)) (fun i x H1 hx h => ?_) fun H1 h => ?_
    · obtain ⟨k1, kvs, hDk, hkl, hrel⟩ := h
      obtain ⟨x, rfl, hn⟩ := map_at hx
      have hi : i < S.length := (List.getElem?_eq_some_iff.mp hn).1
      have et : S.take (i + 1) = S.take i ++ [x] := by rw [List.take_add_one, hn]; rfl
      have hsz : 1000 ≤ sizeLine := by decide
      refine ⟨rfl, ?_⟩
      walk_at "rd"
      refine ⟨x, rfl, _, rfl, ?_⟩
      cases hv : x.vr with
      | false =>
        refine if_f rfl ⟨k1, kvs, hDk, by omega, fun n => ?_⟩
        rw [hrel n, et, List.any_append, List.any_cons, hv, Bool.false_and, List.any_nil, Bool.or_false, Bool.or_false]
      | true =>
        refine if_t rfl ?_
        cases x with
        | b x => exact absurd hv Bool.false_ne_true
        | s z => exact absurd hv Bool.false_ne_true
        | i m =>
          walk_at "rd"
          refine ⟨kvs, .inl m, rfl, hDk, by omega, Kept.mut k1 hD, _, upd_same, Nat.le_trans (putK_le _ _ _) (by omega), fun n => ?_⟩
          rw [valV_put, et, List.any_append, List.any_cons, hv, List.any_nil, Bool.true_and, Bool.or_false, ← hrel n]
          by_cases e : n = m
          · subst e
            rw [if_pos rfl, decide_eq_true rfl, Bool.or_true] <;> rfl
          · rw [if_neg (fun z => e (Sum.inl.inj z)), decide_eq_false (fun z => e (At.i.inj z).symm), Bool.or_false]
    · obtain ⟨k1, kvs, hDk, hkl, hrel⟩ := h
      rw [List.length_map, List.take_length] at hrel
      walk_at "rd"
      refine ⟨_, rfl, b, rfl, ⟨_, SqT.of (k1.tup hb)⟩, k1.tab _ hT1, fun H2 hT2' => ?_⟩
      have kT := Kept.tabbed (k1.tab _ hT1) hT2'
      have eany : ((List.range (Hd.map At.v).length).any fun j => (Hd.getD j (.i 0)).vr && decide (Hd.getD j (.i 0) ∈ S)) = comF S Hd := by
        rw [List.length_map]
        exact range_any (.i 0) (fun x => x.vr && decide (x ∈ S)) Hd
      refine g_tup (xs := Hd.map At.v) (σ := [some (.ref a), some (.ref b), some (.ref D), none]) (j := 3) (fun j => (Hd.getD j (.i 0)).vr && decide (Hd.getD j (.i 0) ∈ S)) (fun H3 => Kept H1 H3) kT (fun H3 kp => SqT.of (kp.tup (k1.tup hb))) (fun j x H3 k' hx kp hk => ?_) (fun H3 kp => ?_)
      · obtain ⟨x, rfl, hn⟩ := map_at hx
        have e1 : Hd.getD j (.i 0) = x := by rw [List.getD_eq_getElem?_getD, hn] <;> rfl
        have q := hk H3 kp
        rw [e1] at q
        have hDk3 : H3 D = some (.dK kvs) := kp.keep _ _ (fun _ z => by cases z) hDk
        walk_at "rd"
        refine ⟨x, rfl, _, rfl, ?_⟩
        cases hv : x.vr with
        | false =>
          rw [hv, Bool.false_and] at q
          exact if_f rfl q
        | true =>
          refine if_t rfl ?_
          cases x with
          | b x => exact absurd hv Bool.false_ne_true
          | s z => exact absurd hv Bool.false_ne_true
          | i m =>
            walk_at "rd"
            refine ⟨D, _, rfl, DGet.k (k := .inl m) hDk3, ?_⟩
            rw [hrel m]
            have e2 : (S.any fun x => x.vr && decide (x = At.i m)) = decide (At.i m ∈ S) := by
              rw [Bool.eq_iff_iff, List.any_eq_true, decide_eq_true_eq]
              constructor
              · rintro ⟨y, hy, e⟩
                rw [Bool.and_eq_true, decide_eq_true_eq] at e
                rw [← e.2]
                exact hy
              · intro h
                exact ⟨_, h, by rw [hv, Bool.true_and]; exact decide_eq_true rfl⟩
            rw [e2]
            rw [hv, Bool.true_and] at q
            exact q
      · show Q (.bl ((List.range (Hd.map At.v).length).any fun j => (Hd.getD j (.i 0)).vr && decide (Hd.getD j (.i 0) ∈ S))) H3
        rw [eany]
        exact k H3 (k1.trans kp)
theorem ok_are_known {c P1 : Addr} (F : FunC K "are_known" s_are_known f fd c) (T : Tx K mg uG) (TB : GxR.TabB base mg c P1) (D_variables_of : Df P w K mg base 1 "variables_of" ["residue"] spVarsOf) : FnOk P w K mg base CX0 7 f fd ["residue", "variables"] (spKnown P1) := by
  refine F.ok sc_are_known (fun vs H Q E h => ?_) (fun A outer s H vs Q E hr h => ?_)
  · obtain ⟨a, b, bs, cs, ns, rfl, _⟩ := h
    rfl
  · obtain ⟨a, b, bs, cs, ns, rfl, ha, hc, hz, hb, hz2, hT1, k⟩ := h
    refine ⟨_, (pss_cons (ps_set (i := 2) sc_are_known.nd rfl (.inr rfl) (pe_dc (own := [("variable", 3)]) (g := gName 3) (by rfl) sc_are_known.nd (pi_tupK (K := K) rfl (pv 1)) (blkOk_by (own := [("variable", 3)]) (N := n_are_known) (sc := defScope s_are_known) (by decide +kernel)) (fun _ _ _ _ _ => pg_name (i := 3) sc_are_known.nd rfl (Or.inl rfl)) (fun _ _ _ _ _ => pts_nil) (fun _ _ _ _ _ => (pv 3)) (fun _ _ _ _ _ => pe_bl)))
    (pss_one (ps_ret (pe_allG (k := 4) (own := [("variable", 3)]) (g := gName 3) (hr.mono (by decide)) (by rfl) T.z_all (by decide +kernel) rfl sc_are_known.nd TB rfl ⟨blkOk_by (own := [("variable", 3)]) (N := n_are_known) (sc := defScope s_are_known) (by decide +kernel), rfl, by decide +kernel, rfl⟩ (pi_tupK (K := K) rfl (pe_df D_variables_of (hr.mono (by decide)) (by rfl) (pa_cons (pv 0) pa_nil))) (fun _ _ _ _ _ => pg_name (i := 3) sc_are_known.nd rfl (Or.inl rfl)) (fun _ _ _ _ _ hr => (pe_cmp (pc_din hr.u1 (pv 3) (pv 2)))))))), ?_⟩
    rw [show start n_are_known [(.ref a : V), (.ref b : V)] = ([some (.ref a), some (.ref b), none, none] : List (Option V)) from rfl]
    walk_at "rd"
    refine rd_dcIt (ns := ns) (i0 := 1) (j := 3) rfl (by show 3 < 4; decide) hb (Nat.le_trans hz2 (by decide)) fun D hD => ?_
    have kD := Kept.new (o := .dK (setDict (keysI (dd ns)))) hD
    have hDk : upd H D (.dK (setDict (keysI (dd ns)))) D = some (.dK (setDict (keysI (dd ns)))) := upd_same
    generalize upd H D (.dK (setDict (keysI (dd ns)))) = H1 at kD hDk ⊢
    walk_at "rd"
    refine w_iT ?_
    walk_at "rd"
    refine ⟨a, bs, cs, rfl, kD.lst ha, hc.kept kD, hz, fun vs p H2 hva hvm k2 hp hp2 => ?_⟩
    walk_at "rd"
    have k3 := kD.trans k2
    refine ⟨p, rfl, ⟨_, SqT.of hp2⟩, k3.tab _ hT1, fun H3 hT3 => ?_⟩
    have kT := Kept.tabbed (k3.tab _ hT1) hT3
    have eall : ((List.range (vs.map V.int).length).all fun j => decide (vs.getD j 0 ∈ ns)) = knownF cs ns := by
      rw [List.length_map, range_all 0 (fun x => decide (x ∈ ns)) vs]
      unfold knownF
      rw [Bool.eq_iff_iff, List.all_eq_true, List.all_eq_true]
      exact ⟨fun h x hx => h x ((hvm x).mpr hx), fun h x hx => h x ((hvm x).mp hx)⟩
    refine g_tup (xs := vs.map V.int) (σ := [some (.ref a), some (.ref b), some (.ref D), none]) (j := 3) (fun j => decide (vs.getD j 0 ∈ ns)) (fun H4 => Kept H2 H4) kT (fun H4 kp => SqT.of (kp.tup hp2)) (fun j x H4 k' hx kp hk => ?_) (fun H4 kp => ?_)
    · obtain ⟨n, rfl, hn⟩ := map_int hx
      have e1 : vs.getD j 0 = n := by rw [List.getD_eq_getElem?_getD, hn] <;> rfl
      have q := hk H4 kp
      rw [e1] at q
      have hDk4 : H4 D = some (.dK (setDict (keysI (dd ns)))) := kp.keep _ _ (fun _ z => by cases z) (k2.keep _ _ (fun _ z => by cases z) hDk)
      walk_at "rd"
      refine ⟨D, _, rfl, DGet.k (k := .inl n) hDk4, ?_⟩
      have e2 : (valV (setDict (keysI (dd ns))) (Sum.inl n : L2.Key)).isSome = decide (n ∈ ns) := by
        rw [valV_set]
        refine decide_eq_decide.mpr ?_
        unfold keysI
        rw [List.mem_map]
        exact ⟨fun ⟨y, hy, e⟩ => by rw [← Sum.inl.inj e]; exact mem_dd.mp hy, fun h => ⟨n, mem_dd.mpr h, rfl⟩⟩
      rw [e2]
      exact q
    · show Q (.bl ((List.range (vs.map V.int).length).all fun j => decide (vs.getD j 0 ∈ ns))) H4
      rw [eall]
      exact k H4 (k3.trans kp)
end
end Ky

namespace Ky
open PySem PySem.Spec PyProof.Rows L2
local macro_rules | `(tactic| walk_at "rd") => `(tactic| repeat (first
  | with_reducible refine w_for1 ?_
  | with_reducible refine w_for2 ?_
  | with_reducible refine w_forL ?_
  | with_reducible refine w_forT ?_
  | with_reducible refine w_lc1 ?_
  | with_reducible refine w_lcL ?_
  | with_reducible refine w_lcT ?_
  | with_reducible refine w_seq ?_
  | with_reducible refine w_asg ?_
  | with_reducible refine w_ret ?_
  | with_reducible refine w_drop ?_
  | with_reducible refine w_ifs ?_
  | ((with_reducible refine' w_var ?hh ?_); (case hh => exact rfl))
  | with_reducible refine w_c ?_
  | with_reducible refine w_op ?_
  | with_reducible refine w_un ?_
  | with_reducible refine w_I0 ?_
  | with_reducible refine w_U ?_
  | with_reducible refine w_nil ?_
  | with_reducible refine w_cons ?_
  | with_reducible refine w_call ?_
  | with_reducible refine w_cb ?_
  | with_reducible refine w_test ?_
  | with_reducible refine w_B ?_
  | with_reducible refine w_bl ?_
  | with_reducible refine w_and ?_
  | with_reducible refine w_or ?_
  | with_reducible refine w_not ?_
  | with_reducible refine w_ife ?_
  | with_reducible refine w_gRd ?_
  | with_reducible refine w_andV ?_
  | with_reducible refine w_orV ?_
  | with_reducible refine w_notV ?_
  | with_reducible refine w_chain ?_
  | with_reducible refine w_din ?_
  | with_reducible refine w_isi_ii ?_
  | with_reducible refine w_isi_bi ?_
  | with_reducible refine w_isi_bb ?_
  | with_reducible refine w_isi_bt ?_
  | with_reducible refine w_isi_si ?_
  | with_reducible refine w_isi_nt ?_
  | with_reducible refine w_isi_ib ?_
  | with_reducible refine w_isi_it ?_
  | with_reducible refine w_isi_st ?_
  | ((with_reducible refine w_isi_tt ?h1 ?_); (case h1 => first | assumption | exact upd_same))
  | with_reducible refine if_t rfl ?_
  | with_reducible refine if_f rfl ?_
  | with_reducible refine w_tup ?_
  | with_reducible refine w_lst ?_
  | with_reducible refine w_next ?_
  | with_reducible refine w_bm ?_
  | with_reducible refine w_sl ?_
  | with_reducible refine w_part ?_
  | with_reducible refine w_nop ?_
  | with_reducible refine w_isI ?_
  | with_reducible refine w_yes ?_
  | with_reducible refine w_gn ?_
  | with_reducible refine w_gsub ?_
  | ((with_reducible refine' w_setL ?h1 ?h2 ?_); (case h1 => first | assumption | exact upd_same); (case h2 => exact rfl))
  | with_reducible refine w_asgG ?_
  | with_reducible refine w_m1 ?_
  | with_reducible refine w_isS ?_
  | with_reducible refine w_tyS ?_
  | ((with_reducible refine' w_tyL ?h1 ?_); (case h1 => first | assumption | exact upd_same))
  | ((with_reducible refine' w_ixT ?h1 ?h2 ?_); (case h1 => first | assumption | exact upd_same); (case h2 => exact rfl))
  | ((with_reducible refine' w_ixL ?h1 ?h2 ?_); (case h1 => first | assumption | exact upd_same); (case h2 => exact rfl))
  | ((with_reducible refine w_eq ?h1 ?_); (case h1 => exact rfl))
  | ((with_reducible refine w_ne ?h1 ?_); (case h1 => exact rfl))
  | dsimp only [List.set_cons_zero, List.set_cons_succ, List.append_nil, List.cons_append, List.nil_append, cxOf]))

theorem w_gTup3 {K : PySem.W.Frag} {H : Hp} {b : Addr} {x y z : V} {i j m : Nat} {σ : L2.St} {R : L2.St → Hp → Prop} (h : H b = some (.tup [x, y, z])) (q : R (((σ.set i (some x)).set j (some y)).set m (some z)) H) : gTup K 3 (gCons (gName i) (gCons (gName j) (gCons (gName m) gNil))) (.ref b) σ H R :=
  ⟨b, _, rfl, SqT.of h, rfl, _, _, rfl, _, _, rfl, _, _, rfl, rfl, q⟩
inductive Im where
  | a (x : At)
  | t (ls : List Int)
def ImAt (H : Hp) (v : V) : Im → Prop
  | .a x => v = x.v
  | .t ls => ∃ b, v = .ref b ∧ H b = some (.tup (ls.map V.int))
def Im.cl : Im → Bool
  | .a _ => false
  | .t ls => isClauseF ls
def Im.op : Im → Option (List Int)
  | .a _ => none
  | .t ls => if isClauseF ls = true then some ls else none
theorem ImAt.kept {H H' : Hp} {v : V} {m : Im} (h : ImAt H v m) (k : Kept H H') : ImAt H' v m := by
  cases m with
  | a x => exact h
  | t ls =>
    obtain ⟨b, e, h⟩ := h
    exact ⟨b, e, k.tup h⟩
theorem ImAt.keptC {d c : Addr} {H H' : Hp} {v : V} {m : Im} (h : ImAt H v m) (k : KeptC d c H H') (hd : DrwC d c H) : ImAt H' v m := by
  cases m with
  | a x => exact h
  | t ls =>
    obtain ⟨b, e, h⟩ := h
    exact ⟨b, e, k.tup hd h⟩
def RowAt (H : Hp) (vs : List V) (ms : List Im) : Prop := vs.length = ms.length ∧ ∀ (i : Nat) (v : V) (m : Im), vs[i]? = some v → ms[i]? = some m → ImAt H v m
theorem RowAt.kept {H H' : Hp} {vs : List V} {ms : List Im} (h : RowAt H vs ms) (k : Kept H H') : RowAt H' vs ms := ⟨h.1, fun i v m h1 h2 => (h.2 i v m h1 h2).kept k⟩
theorem RowAt.keptC {d c : Addr} {H H' : Hp} {vs : List V} {ms : List Im} (h : RowAt H vs ms) (k : KeptC d c H H') (hd : DrwC d c H) : RowAt H' vs ms := ⟨h.1, fun i v m h1 h2 => (h.2 i v m h1 h2).keptC k hd⟩
structure TrAt (H : Hp) (p : Addr) (S Hd : List At) (R : List Im) : Prop where
  ex : ∃ (s h r : Addr) (vs : List V), H p = some (.tup [.ref s, .ref h, .ref r]) ∧ H s = some (.tup (S.map At.v)) ∧ H h = some (.tup (Hd.map At.v)) ∧ H r = some (.tup vs) ∧ RowAt H vs R
theorem TrAt.kept {H H' : Hp} {p : Addr} {S Hd : List At} {R : List Im} (h : TrAt H p S Hd R) (k : Kept H H') : TrAt H' p S Hd R := by
  obtain ⟨s, t, r, vs, h1, h2, h3, h4, h5⟩ := h.ex
  exact ⟨s, t, r, vs, k.tup h1, k.tup h2, k.tup h3, k.tup h4, h5.kept k⟩
theorem TrAt.keptC {d c : Addr} {H H' : Hp} {p : Addr} {S Hd : List At} {R : List Im} (h : TrAt H p S Hd R) (k : KeptC d c H H') (hd : DrwC d c H) : TrAt H' p S Hd R := by
  obtain ⟨s, t, r, vs, h1, h2, h3, h4, h5⟩ := h.ex
  exact ⟨s, t, r, vs, k.tup hd h1, k.tup hd h2, k.tup hd h3, k.tup hd h4, h5.keptC k hd⟩
inductive Vl where
  | tr (S Hd : List At) (R : List Im)
  | tup (n : Nat)
  | stx
  | non
  | int
def ValAt (H : Hp) (v : V) : Vl → Prop
  | .tr S Hd R => ∃ p, v = .ref p ∧ TrAt H p S Hd R
  | .tup n => ∃ p xs, v = .ref p ∧ H p = some (.tup xs) ∧ xs.length = n
  | .stx => ∃ p z h r xs ys, v = .ref p ∧ H p = some (.tup [.str z, .ref h, .ref r]) ∧ H h = some (.tup xs) ∧ H r = some (.tup ys)
  | .non => v = .non
  | .int => v = .int 7
theorem ValAt.kept {H H' : Hp} {v : V} {x : Vl} (h : ValAt H v x) (k : Kept H H') : ValAt H' v x := by
  cases x with
  | tr S Hd R =>
    obtain ⟨p, e, h⟩ := h
    exact ⟨p, e, h.kept k⟩
  | tup n =>
    obtain ⟨p, xs, e, h, l⟩ := h
    exact ⟨p, xs, e, k.tup h, l⟩
  | stx =>
    obtain ⟨p, z, a, b, xs, ys, e, h1, h2, h3⟩ := h
    exact ⟨p, z, a, b, xs, ys, e, k.tup h1, k.tup h2, k.tup h3⟩
  | non => exact h
  | int => exact h
theorem ValAt.keptC {d c : Addr} {H H' : Hp} {v : V} {x : Vl} (h : ValAt H v x) (k : KeptC d c H H') (hd : DrwC d c H) : ValAt H' v x := by
  cases x with
  | tr S Hd R =>
    obtain ⟨p, e, h⟩ := h
    exact ⟨p, e, h.keptC k hd⟩
  | tup n =>
    obtain ⟨p, xs, e, h, l⟩ := h
    exact ⟨p, xs, e, k.tup hd h, l⟩
  | stx =>
    obtain ⟨p, z, a, b, xs, ys, e, h1, h2, h3⟩ := h
    exact ⟨p, z, a, b, xs, ys, e, k.tup hd h1, k.tup hd h2, k.tup hd h3⟩
  | non => exact h
  | int => exact h
structure SzI (m : Im) : Prop where
  ok : ∀ ls, m = .t ls → ls.length ≤ 5
def SzV (k : Nat) : Vl → Prop
  | .tr S Hd R => S.length ≤ k ∧ Hd.length ≤ k ∧ R.length ≤ k ∧ ∀ m ∈ R, SzI m
  | .tup n => n ≠ 3 ∧ n ≤ 4
  | _ => True
def clI (R : List Im) : List (List Int) := R.filterMap Im.op
def At.num : At → Option Int
  | .i n => some n
  | _ => none
def intsA (S : List At) : List Int := S.filterMap At.num
theorem intsA_map : ∀ ns : List Int, intsA (ns.map At.i) = ns
  | [] => rfl
  | n :: ns => by
    have ih := intsA_map ns
    unfold intsA at ih ⊢
    rw [List.map_cons, List.filterMap_cons_some (show At.num (At.i n) = some n from rfl), ih]
def sB : Str := Str.ofString "both"
def sC : Str := Str.ofString "clause"
def sO : Str := Str.ofString "order"
def sV : Str := Str.ofString "variable"
def sU : Str := Str.ofString "unknown"
def sF : Str := Str.ofString "form"
def flt1 (S Hd : List At) : List Str := if comF S Hd = true then [sB] else []
def flt2 (R : List Im) : List Str := if (clI R).length < R.length then [sC] else if isResidueF (clI R) = true then [] else [sO]
def flt3 (S Hd : List At) (R : List Im) : List Str := if (varsF S && varsF Hd) = true then (if knownF (clI R) (intsA S ++ intsA Hd) = true then [] else [sU]) else [sV]
def faultsV : Vl → List Str
  | .tr S Hd R => flt1 S Hd ++ flt2 R ++ flt3 S Hd R
  | _ => [sF]
theorem clI_len (R : List Im) : (clI R).length ≤ R.length := List.length_filterMap_le _ _
theorem clI_snoc (R : List Im) (m : Im) : clI (R ++ [m]) = clI R ++ (match m.op with
  | some x => [x]
  | none => []) := by
  unfold clI
  rw [List.filterMap_append]
  cases h : m.op with
  | some x => rw [List.filterMap_cons_some h] <;> rfl
  | none => rw [List.filterMap_cons_none h] <;> rfl
/-- where all are clauses, the row is one of clauses -/
theorem all_cl : ∀ {R : List Im}, ¬ (clI R).length < R.length → R = (clI R).map Im.t
  | [], _ => rfl
  | m :: R, h => by
    have h1 := clI_len R
    cases e : m.op with
    | none =>
      have e2 : clI (m :: R) = clI R := by
        unfold clI
        rw [List.filterMap_cons_none e]
      rw [e2, List.length_cons] at h
      omega
    | some x =>
      have e2 : clI (m :: R) = x :: clI R := by
        unfold clI
        rw [List.filterMap_cons_some e]
      rw [e2, List.length_cons, List.length_cons] at h
      have em : m = .t x := by
        cases m with
        | a y => cases e
        | t ls =>
          have e : (if isClauseF ls = true then some ls else none) = some x := e
          by_cases hc : isClauseF ls = true
          · rw [if_pos hc] at e
            rw [Option.some.inj e]
          · rw [if_neg hc] at e
            cases e
      rw [e2, List.map_cons, ← all_cl (R := R) (by omega), em]
theorem row_cls {H : Hp} {vs : List V} {cs : List (List Int)} (h : RowAt H vs (cs.map Im.t)) : ∃ bs : List Addr, vs = bs.map V.ref ∧ ClsAt H bs cs := by
  induction cs generalizing vs with
  | nil =>
    have e : vs = [] := List.length_eq_zero_iff.mp (by rw [h.1]; rfl)
    exact ⟨[], e, ClsAt.nil⟩
  | cons c cs ih =>
    cases vs with
    | nil => exact absurd h.1 (by simp)
    | cons v vs =>
      obtain ⟨b, e, hb⟩ := h.2 0 v (.t c) rfl rfl
      obtain ⟨bs, e2, h2⟩ := ih (vs := vs) ⟨by simpa using h.1, fun i v m h1 h2 => h.2 (i + 1) v m h1 h2⟩
      refine ⟨b :: bs, by rw [e, e2]; rfl, by rw [List.length_cons, List.length_cons, h2.1], fun i q d hq hd => ?_⟩
      cases i with
      | zero =>
        cases hq
        cases hd
        exact hb
      | succ i => exact h2.2 i q d hq hd
theorem cls_row {H : Hp} {bs : List Addr} {cs : List (List Int)} (h : ClsAt H bs cs) : RowAt H (bs.map V.ref) (cs.map Im.t) := by
  refine ⟨by rw [List.length_map, List.length_map, h.1], fun i v m h1 h2 => ?_⟩
  rw [List.getElem?_map] at h1 h2
  obtain ⟨b, hb, rfl⟩ := Option.map_eq_some_iff.mp h1
  obtain ⟨c, hc, rfl⟩ := Option.map_eq_some_iff.mp h2
  exact ⟨b, rfl, h.2 i b c hb hc⟩
theorem vars_ints {S : List At} (h : varsF S = true) : S = (intsA S).map At.i := by
  unfold varsF at h
  rw [Bool.and_eq_true, List.length_map, range_all (.i 0) At.vr S] at h
  obtain ⟨ns, rfl, _⟩ := all_vr h.1
  rw [intsA_map]
def spFaults (Ps : List Addr) : Sp := fun vs H Q _ => ∃ (v : V) (x : Vl), vs = [v] ∧ ValAt H v x ∧ SzV 8 x ∧ (∀ P ∈ Ps, GxR.TabG H P) ∧
  ∀ q H', Kept H H' → H' q = some (.lst ((faultsV x).map V.str)) → Q (.ref q) H'
section
variable {P : Program} {w : World} {K : PySem.W.Frag} {mg : Str → Option Value} {base : Heap} {uG : Value} {f : Addr} {fd : FuncData}
theorem ok_formula_faults {c P0 P1 P2 P3 P4 P5 P6 : Addr} (F : FunC K "formula_faults" s_formula_faults f fd c) (T : Tx K mg uG) (TB : GxR.TabB base mg c P0) (D_have_common : Df P w K mg base 7 "have_common" ["shown", "hidden"] (spCommon P1)) (D_is_clause : Df P w K mg base 7 "is_clause" ["value"] (spIsClause K P2 P3)) (D_is_residue : Df P w K mg base 10 "is_residue" ["value"] (spIsResidue K P2 P3 P4)) (D_are_variables : Df P w K mg base 7 "are_variables" ["row"] (spVars K P5 P3)) (D_are_known : Df P w K mg base 7 "are_known" ["residue", "variables"] (spKnown P6)) : FnOk P w K mg base CX0 11 f fd ["value"] (spFaults [P0, P1, P2, P3, P4, P5, P6]) := by
  refine F.ok sc_formula_faults (fun vs H Q E h => ?_) (fun A outer s H vs Q E hr h => ?_)
  · obtain ⟨v, x, rfl, _⟩ := h
    rfl
  · obtain ⟨v, x, rfl, hv, hz, hT, k⟩ := h
    have hsl : 1001 ≤ sizeLine := by decide
    refine ⟨_, (pss_cons (ps_if (PW.pt (pw_or (pt_not (pt_val (pe_callB (call_isiK (K := K) rfl) (by rfl) T.z_isinstance (by decide +kernel) (pa_cons (pv 0) (pa_cons (pe_bltn (by rfl) T.z_tuple (by decide +kernel) (show RelV (.ty "tuple") _ from rfl)) pa_nil))))) (pw_or (pt_cmpR op_ne (pe_callB (call_lenK (K := K) rfl) (by rfl) T.z_len (by decide +kernel) (pa_cons (pv 0) pa_nil)) pe_int (nomark _)) (pw_or1 (pt_not (pt_val (pe_allG (k := 4) (own := [("part", 1)]) (g := gName 1) (hr.mono (by decide)) (by rfl) T.z_all (by decide +kernel) rfl sc_formula_faults.nd TB rfl ⟨blkOk_by (own := [("part", 1)]) (N := n_formula_faults) (sc := defScope s_formula_faults) (by decide +kernel), rfl, by decide +kernel, rfl⟩ (pi_tupK (K := K) rfl (pv 0)) (fun _ _ _ _ _ => pg_name (i := 1) sc_formula_faults.nd rfl (Or.inl rfl)) (fun _ _ _ _ _ hr => (pe_callB (call_isiK (K := K) rfl) (by rfl) T.z_isinstance (by decide +kernel) (pa_cons (pv 1) (pa_cons (pe_bltn (by rfl) T.z_tuple (by decide +kernel) (show RelV (.ty "tuple") _ from rfl)) pa_nil)))))))))))
      (pss_one (ps_ret (pe_lst (pa_cons pe_str pa_nil))))
      pss_nil)
    (pss_cons (ps_asg (pv 0) (pg_tupK (K := K) rfl (by rfl) (pgs_cons (pg_name (i := 2) sc_formula_faults.nd rfl (.inl rfl)) (pgs_cons (pg_name (i := 3) sc_formula_faults.nd rfl (.inl rfl)) (pgs_cons (pg_name (i := 4) sc_formula_faults.nd rfl (.inl rfl)) pgs_nil)))))
    (pss_cons (ps_set (i := 5) sc_formula_faults.nd rfl (.inl rfl) (pe_lst pa_nil))
    (Evl.pss_cut (ps_if (pt_val (pe_df D_have_common (hr.mono (by decide)) (by rfl) (pa_cons (pv 2) (pa_cons (pv 3) pa_nil))))
      (pss_one (ps_expr (pe_bm PySem.F.plainAttrs_list PySem.F.slot_list_append PySem.F.type_list_append mt_append (pv 5) (pa_cons pe_str pa_nil))))
      pss_nil)
    (pss_cons (ps_setLc (i := 6) (own := [("item", 7)]) (g := gName 7) (by rfl) sc_formula_faults.nd rfl rfl (sw_true rfl rfl rfl (by decide +kernel)) (pi_tupK (K := K) rfl (pv 4)) (blkOk_by (own := [("item", 7)]) (N := n_formula_faults) (sc := defScope s_formula_faults) (by decide +kernel)) (fun _ _ _ _ _ => pg_name (i := 7) sc_formula_faults.nd rfl (Or.inl rfl)) (fun _ _ _ _ _ => pts_one (pt_val (pe_df D_is_clause (hr.mono (by decide)) (by rfl) (pa_cons (pv 7) pa_nil)))) (fun _ _ _ _ _ => (pv 7)))
    (Evl.pss_cut (ps_if (pt_cmpR op_lt (pe_callB (call_lenK (K := K) rfl) (by rfl) T.z_len (by decide +kernel) (pa_cons (pv 6) pa_nil)) (pe_callB (call_lenK (K := K) rfl) (by rfl) T.z_len (by decide +kernel) (pa_cons (pv 4) pa_nil)) (nomark _))
      (pss_one (ps_expr (pe_bm PySem.F.plainAttrs_list PySem.F.slot_list_append PySem.F.type_list_append mt_append (pv 5) (pa_cons pe_str pa_nil))))
      (pss_one (ps_if (pt_not (pt_val (pe_df D_is_residue (hr.mono (by decide)) (by rfl) (pa_cons (pv 4) pa_nil))))
      (pss_one (ps_expr (pe_bm PySem.F.plainAttrs_list PySem.F.slot_list_append PySem.F.type_list_append mt_append (pv 5) (pa_cons pe_str pa_nil))))
      pss_nil)))
    (Evl.pss_cut (ps_if (PW.pt (pw_or (pt_not (pt_val (pe_df D_are_variables (hr.mono (by decide)) (by rfl) (pa_cons (pv 2) pa_nil)))) (pw_or1 (pt_not (pt_val (pe_df D_are_variables (hr.mono (by decide)) (by rfl) (pa_cons (pv 3) pa_nil)))))))
      (pss_one (ps_expr (pe_bm PySem.F.plainAttrs_list PySem.F.slot_list_append PySem.F.type_list_append mt_append (pv 5) (pa_cons pe_str pa_nil))))
      (pss_one (ps_if (pt_not (pt_val (pe_df D_are_known (hr.mono (by decide)) (by rfl) (pa_cons (pv 6) (pa_cons (pe_op op_catA (pv 2) (pv 3)) pa_nil)))))
      (pss_one (ps_expr (pe_bm PySem.F.plainAttrs_list PySem.F.slot_list_append PySem.F.type_list_append mt_append (pv 5) (pa_cons pe_str pa_nil))))
      pss_nil)))
    (pss_one (ps_ret (pv 5)))))))))), ?_⟩
    have bad : ∀ H', Kept H H' → faultsV x = [sF] → (∀ q, H' q = none → Q (.ref q) (upd H' q (.lst [V.str sF]))) := fun H' k1 e q hq => k q _ (k1.trans (Kept.new hq)) (by rw [e]; exact upd_same)
    cases x with
    | non =>
      obtain rfl : v = .non := hv
      rw [show start n_formula_faults [(.non : V)] = ([some (.non), none, none, none, none, none, none, none] : List (Option V)) from rfl]
      walk_at "rd"
      refine ⟨by show 1 ≤ sizeLine; omega, fun q hq => ?_⟩
      exact bad H (Kept.refl _) rfl q hq
    | int =>
      obtain rfl : v = .int 7 := hv
      rw [show start n_formula_faults [(.int 7 : V)] = ([some (.int 7), none, none, none, none, none, none, none] : List (Option V)) from rfl]
      walk_at "rd"
      refine ⟨by show 1 ≤ sizeLine; omega, fun q hq => ?_⟩
      exact bad H (Kept.refl _) rfl q hq
    | tup n =>
      obtain ⟨p, xs, rfl, hp, hl⟩ := hv
      rw [show start n_formula_faults [(.ref p : V)] = ([some (.ref p), none, none, none, none, none, none, none] : List (Option V)) from rfl]
      walk_at "rd"
      refine w_isi_tt hp ?_
      walk_at "rd"
      refine ⟨p, _, rfl, .inr (SqT.of hp), ?_⟩
      walk_at "rd"
      refine if_t ?_ ?_
      · have e : decide (V.int (n : Int) = V.int 3) = false := decide_eq_false fun e => hz.1 (by have := V.int.inj e; omega)
        rw [hl, e] <;> rfl
      walk_at "rd"
      refine ⟨by show 1 ≤ sizeLine; omega, fun q hq => ?_⟩
      exact bad H (Kept.refl _) rfl q hq
    | stx =>
      obtain ⟨p, z, a, b, xs, ys, rfl, hp, ha, hb⟩ := hv
      rw [show start n_formula_faults [(.ref p : V)] = ([some (.ref p), none, none, none, none, none, none, none] : List (Option V)) from rfl]
      walk_at "rd"
      refine w_isi_tt hp ?_
      walk_at "rd"
      refine ⟨p, _, rfl, .inr (SqT.of hp), ?_⟩
      walk_at "rd"
      have hT0 := hT P0 (.head _)
      refine ⟨_, rfl, p, rfl, ⟨_, SqT.of hp⟩, hT0, fun H2 hT2 => ?_⟩
      refine g_tup (xs := [.str z, .ref a, .ref b]) (σ := [some (.ref p), none, none, none, none, none, none, none]) (j := 1) (fun i => decide (i ≠ 0)) (fun H3 => Kept H H3) (Kept.tabbed hT0 hT2) (fun H3 kp => SqT.of (kp.tup hp)) (fun i x H3 k' hx kp hk => ?_) (fun H3 kp => ?_)
      · have q := hk H3 kp
        match i, hx with
        | 0, hx =>
          obtain rfl := Option.some.inj hx
          walk_at "rd"
          exact q
        | 1, hx =>
          obtain rfl := Option.some.inj hx
          walk_at "rd"
          refine w_isi_tt (kp.tup ha) ?_
          exact q
        | 2, hx =>
          obtain rfl := Option.some.inj hx
          walk_at "rd"
          refine w_isi_tt (kp.tup hb) ?_
          exact q
      · refine ⟨_, rfl, ?_⟩
        refine if_t rfl ?_
        walk_at "rd"
        refine ⟨by show 1 ≤ sizeLine; omega, fun q hq => ?_⟩
        exact bad H3 kp rfl q hq
    | tr S Hd R =>
      obtain ⟨p, rfl, hF⟩ := hv
      obtain ⟨ps, ph, pr, vs, hp, hs, hh, hr0, hrow⟩ := hF.ex
      obtain ⟨z1, z2, z3, z4⟩ := hz
      have hT0 := hT P0 (.head _)
      have hT1 := hT P1 (.tail _ (.head _))
      have hT2 := hT P2 (.tail _ (.tail _ (.head _)))
      have hT3 := hT P3 (.tail _ (.tail _ (.tail _ (.head _))))
      have hT4 := hT P4 (.tail _ (.tail _ (.tail _ (.tail _ (.head _)))))
      have hT5 := hT P5 (.tail _ (.tail _ (.tail _ (.tail _ (.tail _ (.head _))))))
      have hT6 := hT P6 (.tail _ (.tail _ (.tail _ (.tail _ (.tail _ (.tail _ (.head _)))))))
      rw [show start n_formula_faults [(.ref p : V)] = ([some (.ref p), none, none, none, none, none, none, none] : List (Option V)) from rfl]
      walk_at "rd"
      refine w_isi_tt hp ?_
      walk_at "rd"
      refine ⟨p, _, rfl, .inr (SqT.of hp), ?_⟩
      walk_at "rd"
      refine ⟨_, rfl, p, rfl, ⟨_, SqT.of hp⟩, hT0, fun H2 hT2' => ?_⟩
      refine g_tup (xs := [.ref ps, .ref ph, .ref pr]) (σ := [some (.ref p), none, none, none, none, none, none, none]) (j := 1) (fun i => true) (fun H3 => Kept H H3) (Kept.tabbed hT0 hT2') (fun H3 kp => SqT.of (kp.tup hp)) (fun i x H3 k' hx kp hk => ?_) (fun H3 kp => ?_)
      · have q := hk H3 kp
        match i, hx with
        | 0, hx =>
          obtain rfl := Option.some.inj hx
          walk_at "rd"
          refine w_isi_tt (kp.tup hs) ?_
          exact q
        | 1, hx =>
          obtain rfl := Option.some.inj hx
          walk_at "rd"
          refine w_isi_tt (kp.tup hh) ?_
          exact q
        | 2, hx =>
          obtain rfl := Option.some.inj hx
          walk_at "rd"
          refine w_isi_tt (kp.tup hr0) ?_
          exact q
      · refine ⟨_, rfl, ?_⟩
        refine if_f rfl ?_
        walk_at "rd"
        refine w_gTup3 (kp.tup hp) ?_
        walk_at "rd"
        refine ⟨Nat.zero_le _, fun L hL => ?_⟩
        have hLn : H L = none := kp.free _ hL
        have kL := kp.trans (Kept.new (o := .lst []) hL)
        walk_at "rd"
        have hL0 : upd H3 L (.lst []) L = some (.lst (([] : List Str).map V.str)) := upd_same
        have kL0 : Kept H (upd H3 L (.lst [])) := kL
        generalize upd H3 L (.lst []) = H4 at kL0 hL0 ⊢
        have app : ∀ (H5 : Hp) (fs : List Str) (z : Str) (N : Hp → Prop), Kept H H5 → H5 L = some (.lst (fs.map V.str)) → fs.length ≤ 5 → (∀ H6, Kept H H6 → H6 L = some (.lst ((fs ++ [z]).map V.str)) → (∀ b xs, H5 b = some (.tup xs) → H6 b = some (.tup xs)) → (∀ b, b ≠ L → ∀ xs, H5 b = some (.lst xs) → H6 b = some (.lst xs)) → N H6) → rAppend (.ref L) [.str z] H5 fun _ H6 => N H6 := fun H5 fs z N k5 h5 hl5 kk => by
          refine ⟨_, _, _, rfl, rfl, h5, by rw [List.length_map]; omega, ?_⟩
          exact kk _ (Kept.mut k5 hLn) (by rw [List.map_append]; exact upd_same) (fun b xs hb => tup_upd h5 hb) (fun b hb xs h => by rw [upd_ne hb]; exact h)
        refine ⟨fun σ' H' => σ' = [some (.ref p), none, some (.ref ps), some (.ref ph), some (.ref pr), some (.ref L), none, none] ∧ Kept H H' ∧ H' L = some (.lst ((flt1 S Hd).map V.str)), ?_, ?_⟩
        · walk_at "rd"
          refine ⟨ps, ph, S, Hd, rfl, kL0.tup hs, kL0.tup hh, by omega, by omega, kL0.tab _ hT1, fun H5 k5 => ?_⟩
          have k6 := kL0.trans k5
          have hL5 := k5.lst hL0
          refine ⟨_, rfl, ?_⟩
          cases hc : comF S Hd with
          | true =>
            refine if_t rfl ?_
            have e1 : flt1 S Hd = [sB] := by unfold flt1; rw [if_pos hc]
            rw [e1]
            walk_at "rd"
            exact app H5 [] sB _ k6 hL5 (by decide) fun H6 k7 h7 _ _ => ⟨rfl, k7, h7⟩
          | false =>
            refine if_f rfl ?_
            have e1 : flt1 S Hd = [] := by unfold flt1; rw [hc, if_neg Bool.false_ne_true]
            rw [e1]
            walk_at "rd"
            exact ⟨rfl, k6, hL5⟩
        · rintro σ' H5 ⟨rfl, k5, hL5⟩
          have hl1 : (flt1 S Hd).length ≤ 1 := by unfold flt1; split <;> simp
          generalize hf1 : flt1 S Hd = f1 at hL5 hl1
          walk_at "rd"
          refine ⟨pr, rfl, ⟨_, SqT.of (k5.tup hr0)⟩, fun D hD => c_tup (xs := vs) (fun i H6 => Kept H5 H6 ∧ ∃ bs : List Addr, H6 D = some (.lst (bs.map V.ref)) ∧ ClsAt H6 bs (clI (R.take i))) ⟨Kept.new hD, [], upd_same, by rw [List.take_zero]; exact ClsAt.nil⟩ (fun i H6 _ h => SqT.of (h.1.tup (k5.tup hr0))) (fun i x H6 hx h => ?_) fun H6 h => ?_⟩
          · obtain ⟨k6, bs, hDb, hbs⟩ := h
            have hi : i < R.length := by rw [← hrow.1]; exact (List.getElem?_eq_some_iff.mp hx).1
            have hRi : R[i]? = some R[i] := List.getElem?_eq_getElem hi
            have et : R.take (i + 1) = R.take i ++ [R[i]] := by rw [List.take_add_one, hRi]; rfl
            have him := ((hrow.kept k5).kept k6).2 i x _ hx hRi
            have hsz := z4 _ (List.getElem_mem hi)
            have hbl : bs.length ≤ i := by rw [hbs.1]; exact Nat.le_trans (clI_len _) (by rw [List.length_take]; omega)
            rw [et, clI_snoc]
            generalize R[i] = m at him hsz ⊢
            refine ⟨rfl, ?_⟩
            cases m with
            | a y =>
              obtain rfl : x = y.v := him
              walk_at "rd"
              refine .inl ⟨y, rfl, _, rfl, if_f rfl ⟨k6, bs, hDb, ?_⟩⟩
              show ClsAt H6 bs (clI (R.take i) ++ [])
              rw [List.append_nil]
              exact hbs
            | t ls =>
              obtain ⟨b, rfl, hb⟩ := him
              walk_at "rd"
              refine .inr ⟨b, ls, rfl, hb, by have := hsz.ok ls rfl; omega, (k5.trans k6).tab _ hT2, (k5.trans k6).tab _ hT3, fun H7 k7 => ⟨_, rfl, ?_⟩⟩
              cases hc : isClauseF ls with
              | true =>
                refine if_t rfl ?_
                have e1 : Im.op (.t ls) = some ls := by show (if isClauseF ls = true then some ls else none) = _; rw [if_pos hc]
                rw [e1]
                walk_at "rd"
                have hD7 := k7.lst hDb
                exact ⟨_, hD7, by rw [List.length_map]; omega, Kept.mut (k6.trans k7) hD, bs ++ [b], by rw [List.map_append]; exact upd_same, clsAt_upd (clsAt_snoc (hbs.kept k7) (k7.tup hb)) hD7⟩
              | false =>
                refine if_f rfl ?_
                have e1 : Im.op (.t ls) = none := by show (if isClauseF ls = true then some ls else none) = _; rw [hc, if_neg Bool.false_ne_true]
                rw [e1]
                refine ⟨k6.trans k7, bs, k7.lst hDb, ?_⟩
                show ClsAt H7 bs (clI (R.take i) ++ [])
                rw [List.append_nil]
                exact hbs.kept k7
          · obtain ⟨k6, bs, hDb, hbs⟩ := h
            rw [hrow.1, List.take_length] at hbs
            have k7 := k5.trans k6
            have hL6 := k6.lst hL5
            have neD : D ≠ L := fun e => by
              rw [e, hL5] at hD
              cases hD
            have hcl := clI_len R
            have hcz : ∀ x ∈ clI R, x.length ≤ 5 := fun x hx => by
              obtain ⟨m, hm, hmx⟩ := List.mem_filterMap.mp hx
              cases m with
              | a y => cases hmx
              | t ls =>
                have hmx : (if isClauseF ls = true then some ls else none) = some x := hmx
                by_cases hc : isClauseF ls = true
                · rw [if_pos hc] at hmx
                  rw [← Option.some.inj hmx]
                  exact (z4 _ hm).ok ls rfl
                · rw [if_neg hc] at hmx
                  cases hmx
            have hfl := flat_len (cs := clI R) (n := 5) hcz
            refine ⟨fun σ' H' => ∃ v7, σ' = [some (.ref p), none, some (.ref ps), some (.ref ph), some (.ref pr), some (.ref L), some (.ref D), v7] ∧ Kept H H' ∧ H' D = some (.lst (bs.map V.ref)) ∧ ClsAt H' bs (clI R) ∧ H' L = some (.lst ((f1 ++ flt2 R).map V.str)), ?_, ?_⟩
            · walk_at "rd"
              refine ⟨D, bs.map V.ref, rfl, .inl (SqL.of hDb), ?_⟩
              walk_at "rd"
              refine ⟨pr, vs, rfl, .inr (SqT.of (k7.tup hr0)), ?_⟩
              walk_at "rd"
              rw [List.length_map, hbs.1, hrow.1]
              by_cases hlt : (clI R).length < R.length
              · refine if_t (decide_eq_true (by omega)) ?_
                have e1 : flt2 R = [sC] := by unfold flt2; rw [if_pos hlt]
                rw [e1]
                walk_at "rd"
                exact app H6 f1 sC _ k7 hL6 (by omega) fun H8 k8 h8 ht hl => ⟨_, rfl, k8, hl D neD _ hDb, ⟨hbs.1, fun i b x h1 h2 => ht _ _ (hbs.2 i b x h1 h2)⟩, h8⟩
              · refine if_f (decide_eq_false (by omega)) ?_
                have hall := all_cl hlt
                have hrow2 := hrow.kept k7
                have hrlen : (clI R).length = R.length := by omega
                walk_at "rd"
                rw [hall] at hrow2
                obtain ⟨bs2, e2, hbs2⟩ := row_cls hrow2
                refine ⟨pr, bs2, clI R, rfl, by rw [← e2]; exact k7.tup hr0, hbs2, by omega, fun x hx => ?_, k7.tab _ hT2, k7.tab _ hT3, k7.tab _ hT4, fun H8 k8 => ⟨_, rfl, ?_⟩⟩
                · have := hcz x hx
                  omega
                · have k9 := k7.trans k8
                  have hL8 := k8.lst hL6
                  cases hc : isResidueF (clI R) with
                  | true =>
                    refine if_f rfl ?_
                    have e1 : flt2 R = [] := by unfold flt2; rw [if_neg hlt, if_pos hc]
                    rw [e1, List.append_nil]
                    walk_at "rd"
                    exact ⟨_, rfl, k9, k8.lst hDb, hbs.kept k8, k8.lst hL6⟩
                  | false =>
                    refine if_t rfl ?_
                    have e1 : flt2 R = [sO] := by unfold flt2; rw [if_neg hlt, hc, if_neg Bool.false_ne_true]
                    rw [e1]
                    walk_at "rd"
                    have hbs8 := hbs.kept k8
                    exact app H8 f1 sO _ k9 (k8.lst hL6) (by omega) fun H9 k10 h10 ht hl => ⟨_, rfl, k10, hl D neD _ (k8.lst hDb), ⟨hbs8.1, fun i b x h1 h2 => ht _ _ (hbs8.2 i b x h1 h2)⟩, h10⟩
            · rintro σ' H7 ⟨v7, rfl, k8, hDb7, hbs7, hL7⟩
              have hl2 : (flt2 R).length ≤ 1 := by unfold flt2; split <;> (try split) <;> simp
              have hk : ∀ H', Kept H H' → H' L = some (.lst ((f1 ++ flt2 R ++ flt3 S Hd R).map V.str)) → Q (.ref L) H' := fun H' k1 h1 => k L H' k1 (by show H' L = some (HO.lst ((flt1 S Hd ++ flt2 R ++ flt3 S Hd R).map V.str)); rw [hf1]; exact h1)
              generalize hf2 : f1 ++ flt2 R = f2 at hL7 hk
              have hf2l : f2.length ≤ 2 := by rw [← hf2, List.length_append]; omega
              refine ⟨fun σ' H' => (∃ v7, σ' = [some (.ref p), none, some (.ref ps), some (.ref ph), some (.ref pr), some (.ref L), some (.ref D), v7]) ∧ Kept H H' ∧ H' L = some (.lst ((f2 ++ flt3 S Hd R).map V.str)), ?_, ?_⟩
              · have bad3 : ∀ H8, Kept H7 H8 → (varsF S && varsF Hd) = false → rAppend (.ref L) [.str sV] H8 fun _ H9 => (∃ v7', [some (V.ref p), none, some (V.ref ps), some (V.ref ph), some (V.ref pr), some (V.ref L), some (V.ref D), v7] = [some (V.ref p), none, some (V.ref ps), some (V.ref ph), some (V.ref pr), some (V.ref L), some (V.ref D), v7']) ∧ Kept H H9 ∧ H9 L = some (.lst ((f2 ++ flt3 S Hd R).map V.str)) := fun H8 k9 e => by
                  have e1 : flt3 S Hd R = [sV] := by unfold flt3; rw [e, if_neg Bool.false_ne_true]
                  rw [e1]
                  exact app H8 f2 sV _ (k8.trans k9) (k9.lst hL7) (by omega) fun H9 k10 h10 _ _ => ⟨⟨_, rfl⟩, k10, h10⟩
                walk_at "rd"
                refine ⟨ps, S, rfl, k8.tup hs, by omega, k8.tab _ hT5, k8.tab _ hT3, fun H8 k9 => ⟨_, rfl, ?_⟩⟩
                have hL8 := k9.lst hL7
                cases hv1 : varsF S with
                | false =>
                  refine if_t rfl ?_
                  walk_at "rd"
                  exact bad3 H8 k9 (by rw [hv1, Bool.false_and])
                | true =>
                  refine if_f rfl ?_
                  walk_at "rd"
                  refine ⟨ph, Hd, rfl, (k8.trans k9).tup hh, by omega, (k8.trans k9).tab _ hT5, (k8.trans k9).tab _ hT3, fun H9 k10 => ⟨_, rfl, ?_⟩⟩
                  have hL9 := (k9.trans k10).lst hL7
                  cases hv2 : varsF Hd with
                  | false =>
                    refine if_t rfl ?_
                    walk_at "rd"
                    exact bad3 H9 (k9.trans k10) (by rw [hv1, hv2] <;> rfl)
                  | true =>
                    refine if_f rfl ?_
                    have k11 := k9.trans k10
                    have k12 := k8.trans k11
                    have es := vars_ints hv1
                    have eh := vars_ints hv2
                    have hs9 := k12.tup hs
                    have hh9 := k12.tup hh
                    rw [es, List.map_map] at hs9
                    rw [eh, List.map_map] at hh9
                    have zs : (intsA S).length ≤ 8 := Nat.le_trans (List.length_filterMap_le _ _) z1
                    have zh : (intsA Hd).length ≤ 8 := Nat.le_trans (List.length_filterMap_le _ _) z2
                    walk_at "rd"
                    refine w_catA (xs := intsA S) (ys := intsA Hd) hs9 hh9 (by omega) fun q1 H10 k13 hq1 => ?_
                    have k14 := k12.trans k13
                    walk_at "rd"
                    refine ⟨D, q1, bs, clI R, _, rfl, (k11.trans k13).lst hDb7, hbs7.kept (k11.trans k13), by omega, hq1, by rw [List.length_append]; omega, k14.tab _ hT6, fun H11 k15 => ⟨_, rfl, ?_⟩⟩
                    have k16 := (k11.trans k13).trans k15
                    have hL11 := k16.lst hL7
                    cases hc : knownF (clI R) (intsA S ++ intsA Hd) with
                    | true =>
                      refine if_f rfl ?_
                      have e1 : flt3 S Hd R = [] := by unfold flt3; rw [hv1, hv2, if_pos (show (true && true) = true from rfl), if_pos hc]
                      rw [e1, List.append_nil]
                      walk_at "rd"
                      exact ⟨⟨_, rfl⟩, k8.trans k16, k16.lst hL7⟩
                    | false =>
                      refine if_t rfl ?_
                      have e1 : flt3 S Hd R = [sU] := by unfold flt3; rw [hv1, hv2, if_pos (show (true && true) = true from rfl), hc, if_neg Bool.false_ne_true]
                      rw [e1]
                      walk_at "rd"
                      exact app H11 f2 sU _ (k8.trans k16) (k16.lst hL7) (by omega) fun H12 k17 h17 _ _ => ⟨⟨_, rfl⟩, k17, h17⟩
              · rintro σ' H8 ⟨⟨v7, rfl⟩, k9, hL8⟩
                walk_at "rd"
                exact hk H8 k9 hL8
end
end Ky

namespace Ky
open PySem PySem.Spec PyProof.Rows L2
local macro_rules | `(tactic| walk_at "rd") => `(tactic| repeat (first
  | with_reducible refine w_for1 ?_
  | with_reducible refine w_for2 ?_
  | with_reducible refine w_forL ?_
  | with_reducible refine w_forT ?_
  | with_reducible refine w_lc1 ?_
  | with_reducible refine w_lcL ?_
  | with_reducible refine w_lcT ?_
  | with_reducible refine w_seq ?_
  | with_reducible refine w_asg ?_
  | with_reducible refine w_ret ?_
  | with_reducible refine w_drop ?_
  | with_reducible refine w_ifs ?_
  | ((with_reducible refine' w_var ?hh ?_); (case hh => exact rfl))
  | with_reducible refine w_c ?_
  | with_reducible refine w_op ?_
  | with_reducible refine w_un ?_
  | with_reducible refine w_I0 ?_
  | with_reducible refine w_U ?_
  | with_reducible refine w_nil ?_
  | with_reducible refine w_cons ?_
  | with_reducible refine w_call ?_
  | with_reducible refine w_cb ?_
  | with_reducible refine w_test ?_
  | with_reducible refine w_B ?_
  | with_reducible refine w_bl ?_
  | with_reducible refine w_and ?_
  | with_reducible refine w_or ?_
  | with_reducible refine w_not ?_
  | with_reducible refine w_ife ?_
  | with_reducible refine w_gRd ?_
  | with_reducible refine w_andV ?_
  | with_reducible refine w_orV ?_
  | with_reducible refine w_notV ?_
  | with_reducible refine w_chain ?_
  | with_reducible refine w_din ?_
  | with_reducible refine w_isi_ii ?_
  | with_reducible refine w_isi_bi ?_
  | with_reducible refine w_isi_bb ?_
  | with_reducible refine w_isi_bt ?_
  | with_reducible refine w_isi_si ?_
  | with_reducible refine w_isi_nt ?_
  | with_reducible refine w_isi_ib ?_
  | with_reducible refine w_isi_it ?_
  | with_reducible refine w_isi_st ?_
  | ((with_reducible refine w_isi_tt ?h1 ?_); (case h1 => first | assumption | exact upd_same))
  | with_reducible refine if_t rfl ?_
  | with_reducible refine if_f rfl ?_
  | with_reducible refine w_tup ?_
  | with_reducible refine w_lst ?_
  | with_reducible refine w_next ?_
  | with_reducible refine w_bm ?_
  | with_reducible refine w_sl ?_
  | with_reducible refine w_part ?_
  | with_reducible refine w_nop ?_
  | with_reducible refine w_isI ?_
  | with_reducible refine w_yes ?_
  | with_reducible refine w_gn ?_
  | with_reducible refine w_gsub ?_
  | ((with_reducible refine' w_setL ?h1 ?h2 ?_); (case h1 => first | assumption | exact upd_same); (case h2 => exact rfl))
  | with_reducible refine w_asgG ?_
  | with_reducible refine w_m1 ?_
  | with_reducible refine w_isS ?_
  | with_reducible refine w_tyS ?_
  | ((with_reducible refine' w_tyL ?h1 ?_); (case h1 => first | assumption | exact upd_same))
  | ((with_reducible refine' w_ixT ?h1 ?h2 ?_); (case h1 => first | assumption | exact upd_same); (case h2 => exact rfl))
  | ((with_reducible refine' w_ixL ?h1 ?h2 ?_); (case h1 => first | assumption | exact upd_same); (case h2 => exact rfl))
  | ((with_reducible refine w_eq ?h1 ?_); (case h1 => exact rfl))
  | ((with_reducible refine w_ne ?h1 ?_); (case h1 => exact rfl))
  | dsimp only [List.set_cons_zero, List.set_cons_succ, List.append_nil, List.cons_append, List.nil_append, cxOf]))

/-! ### weights of any kind -/
inductive Wi where
  | pr (l : Int) (x : Fv)
  | tri
def WiAt (H : Hp) (v : V) : Wi → Prop
  | .pr l x => ∃ b u, v = .ref b ∧ H b = some (.tup [.int l, u]) ∧ FvAt H u x
  | .tri => ∃ b x y z, v = .ref b ∧ H b = some (.tup [x, y, z])
theorem FvAt.kept {H H' : Hp} {v : V} {x : Fv} (h : FvAt H v x) (k : Kept H H') : FvAt H' v x := by
  cases x with
  | n m => exact h
  | p n d =>
    obtain ⟨q, e, h⟩ := h
    exact ⟨q, e, k.tup h⟩
theorem WiAt.kept {H H' : Hp} {v : V} {m : Wi} (h : WiAt H v m) (k : Kept H H') : WiAt H' v m := by
  cases m with
  | pr l x =>
    obtain ⟨b, u, e, h1, h2⟩ := h
    exact ⟨b, u, e, k.tup h1, h2.kept k⟩
  | tri =>
    obtain ⟨b, x, y, z, e, h⟩ := h
    exact ⟨b, x, y, z, e, k.tup h⟩
def fvN : Fv → Int
  | .n _ => 0
  | .p n _ => n
def isWtF : Wi → Bool
  | .pr l x => isLit l && (isFracF x && decide (0 ≤ fvN x))
  | .tri => false
def Wi.key : Wi → Option Int
  | .pr l _ => some l
  | .tri => none
def keysW (ms : List Wi) : List Int := ms.filterMap Wi.key
def areWF (S : List Int) (ms : List Wi) : Bool := ms.all isWtF && ((keysW ms).all (fun l => decide (absI l ∈ S)) && ascD ((keysW ms).map keyD))
def WsAt (H : Hp) (vs : List V) (ms : List Wi) : Prop := vs.length = ms.length ∧ ∀ (i : Nat) (v : V) (m : Wi), vs[i]? = some v → ms[i]? = some m → WiAt H v m
theorem WsAt.kept {H H' : Hp} {vs : List V} {ms : List Wi} (h : WsAt H vs ms) (k : Kept H H') : WsAt H' vs ms := ⟨h.1, fun i v m h1 h2 => (h.2 i v m h1 h2).kept k⟩
theorem all_wt : ∀ {ms : List Wi}, ms.all isWtF = true → (keysW ms).length = ms.length ∧ ∀ (i : Nat) (m : Wi), ms[i]? = some m → ∃ l x, m = .pr l x ∧ (keysW ms)[i]? = some l
  | [], _ => ⟨rfl, fun i m h => by simp at h⟩
  | m :: ms, h => by
    rw [List.all_cons, Bool.and_eq_true] at h
    obtain ⟨h1, h2⟩ := all_wt h.2
    cases m with
    | tri => exact absurd h.1 Bool.false_ne_true
    | pr l x =>
      have e : keysW (.pr l x :: ms) = l :: keysW ms := by
        unfold keysW
        rw [List.filterMap_cons_some (show Wi.key (.pr l x) = some l from rfl)]
      rw [e]
      refine ⟨by rw [List.length_cons, List.length_cons, h1], fun i m hm => ?_⟩
      cases i with
      | zero => exact ⟨l, x, by simpa using hm.symm, rfl⟩
      | succ i => exact h2 i m hm
def wOf (ws : List (Int × (Int × Int))) (l : Int) : Int × Int := ((ws.find? fun x => decide (x.1 = l)).map (·.2)).getD (1, 1)
def spWeightOf : Sp := fun vs H Q _ => ∃ (q : Addr) (l : Int) (qs : List Addr) (ws : List (Int × (Int × Int))), vs = [.ref q, .int l] ∧ H q = some (.tup (qs.map V.ref)) ∧ WtsAt H qs ws ∧ ∀ p H', Kept H H' → FrAt H' p (wOf ws l) → Q (.ref p) H'
def spIsWeight : Sp := fun vs H Q _ => ∃ (v : V) (m : Wi), vs = [v] ∧ WiAt H v m ∧ Q (.bl (isWtF m)) H
def spAreW (K : PySem.W.Frag) (P1 P2 : Addr) : Sp := fun vs H Q _ => ∃ (p s : Addr) (S : List Int) (y z v : V), vs = [.ref p, v] ∧ H p = some (.tup [.ref s, y, z]) ∧ H s = some (.tup (S.map V.int)) ∧ S.length ≤ 1000 ∧ GxR.TabG H P1 ∧ GxR.TabG H P2 ∧
  ((∃ t, v = .str t ∧ ∀ H', Kept H H' → Q (.bl false) H') ∨ ∃ (q : Addr) (us : List V) (ms : List Wi), v = .ref q ∧ H q = some (.tup us) ∧ WsAt H us ms ∧ ms.length ≤ 1000 ∧ ∀ H', Kept H H' → Q (.bl (areWF S ms)) H')
section
variable {P : Program} {w : World} {K : PySem.W.Frag} {mg : Str → Option Value} {base : Heap} {uG : Value} {f : Addr} {fd : FuncData}
theorem ok_weight_of (F : Fun K "weight_of" "weight_of" s_weight_of f fd) (T : Tx K mg uG) : FnOk P w K mg base CX0 1 f fd ["weights", "literal"] spWeightOf := by
  refine F.ok sc_weight_of (fun vs H Q E h => ?_) (fun cdv A outer s H vs Q E hr h => ?_)
  · obtain ⟨q, l, qs, ws, rfl, _⟩ := h
    rfl
  · obtain ⟨q, l, qs, ws, rfl, hq, hws, k⟩ := h
    have hql : (qs.map V.ref).length = ws.length := by rw [List.length_map, hws.1]
    refine ⟨_, (pss_cons (ps_for PassesOwn.never rfl (pi_tupK (K := K) rfl (pv 0)) (pg_tupK (K := K) rfl (by rfl) (pgs_cons (pg_name (i := 2) sc_weight_of.nd rfl (.inl rfl)) (pgs_cons (pg_name (i := 3) sc_weight_of.nd rfl (.inl rfl)) pgs_nil)))
      (pss_one (ps_if (pt_cmpR op_eq (pv 2) (pv 1) (nomark _))
      (pss_one (ps_ret (pv 3)))
      pss_nil)))
    (pss_one (ps_ret (pe_tup (pa_cons pe_int (pa_cons pe_int pa_nil)))))), ?_⟩
    rw [show start n_weight_of [(.ref q : V), (.int l : V)] = ([some (.ref q), some (.int l), none, none] : List (Option V)) from rfl]
    walk_at "rd"
    refine FrT.mk (xs := qs.map V.ref) (fun i σ' H' => ∃ v2 v3, σ' = [some (.ref q), some (.int l), v2, v3] ∧ H' = H ∧ ((ws.take i).find? fun x => decide (x.1 = l)) = none) ⟨none, none, rfl, rfl, by rw [List.take_zero] <;> rfl⟩ (fun i σ' H' _ h => by
        obtain ⟨_, _, _, e, _⟩ := h
        rw [e]
        exact SqT.of hq) ?_ ?_
    · rintro i x σ' H' hx ⟨v2, v3, rfl, rfl, hno⟩
      obtain ⟨b, rfl, hb⟩ := map_ref hx
      have hi : i < ws.length := by rw [← hws.1]; exact (List.getElem?_eq_some_iff.mp hb).1
      have hwi : ws[i]? = some ws[i] := List.getElem?_eq_getElem hi
      obtain ⟨fq, hbt, hfr⟩ := (hws.2 i b _ hb hwi).ex
      have et : ws.take (i + 1) = ws.take i ++ [ws[i]] := by rw [List.take_add_one, hwi]; rfl
      have ew : ws = ws.take i ++ (ws[i] :: ws.drop (i + 1)) := by rw [← List.drop_eq_getElem_cons hi, List.take_append_drop]
      rw [et]
      generalize ws[i] = y at hbt hfr ew ⊢
      refine w_gTup2 hbt ?_
      walk_at "rd"
      by_cases e : y.1 = l
      · refine if_t (decide_eq_true (by rw [e])) ?_
        walk_at "rd"
        refine k fq H' (Kept.refl _) ?_
        have ew2 : wOf ws l = y.2 := by
          unfold wOf
          rw [ew, List.find?_append, hno, List.find?_cons, decide_eq_true e] <;> rfl
        rw [ew2]
        exact hfr
      · refine if_f (decide_eq_false fun z => e (V.int.inj z)) ?_
        walk_at "rd"
        refine ⟨_, _, rfl, rfl, ?_⟩
        rw [List.find?_append, hno, List.find?_cons, decide_eq_false e] <;> rfl
    · rintro σ' H' ⟨v2, v3, rfl, rfl, hno⟩
      rw [hql, List.take_length] at hno
      walk_at "rd"
      refine ⟨by show 2 ≤ sizeLine; decide, fun p hp => ?_⟩
      refine k p _ (Kept.new hp) ?_
      have ew2 : wOf ws l = (1, 1) := by
        unfold wOf
        rw [hno] <;> rfl
      rw [ew2]
      exact upd_same
theorem ok_is_weight (F : Fun K "is_weight" "is_weight" s_is_weight f fd) (T : Tx K mg uG) (D_is_literal : Df P w K mg base 3 "is_literal" ["value"] spLit) (D_is_fraction : Df P w K mg base 2 "is_fraction" ["value"] spIsFrac) : FnOk P w K mg base CX0 4 f fd ["value"] spIsWeight := by
  refine F.ok sc_is_weight (fun vs H Q E h => ?_) (fun cdv A outer s H vs Q E hr h => ?_)
  · obtain ⟨v, m, rfl, _⟩ := h
    rfl
  · obtain ⟨v, m, rfl, hm, k⟩ := h
    refine ⟨_, (pss_cons (ps_if (PW.pt (pw_or (pt_not (pt_val (pe_callB (call_isiK (K := K) rfl) (by rfl) T.z_isinstance (by decide +kernel) (pa_cons (pv 0) (pa_cons (pe_bltn (by rfl) T.z_tuple (by decide +kernel) (show RelV (.ty "tuple") _ from rfl)) pa_nil))))) (pw_or1 (pt_cmpR op_ne (pe_callB call_len_seq (by rfl) T.z_len (by decide +kernel) (pa_cons (pv 0) pa_nil)) pe_int (nomark _)))))
      (pss_one (ps_ret pe_bl))
      pss_nil)
    (pss_cons (ps_asg (pv 0) (pg_tupK (K := K) rfl (by rfl) (pgs_cons (pg_name (i := 1) sc_is_weight.nd rfl (.inl rfl)) (pgs_cons (pg_name (i := 2) sc_is_weight.nd rfl (.inl rfl)) pgs_nil))))
    (pss_one (ps_ret (pe_and (pe_df D_is_literal (hr.mono (by decide)) (by rfl) (pa_cons (pv 1) pa_nil)) (pe_and (pe_df D_is_fraction (hr.mono (by decide)) (by rfl) (pa_cons (pv 2) pa_nil)) (pe_one (pe_cmpR op_ge (pe_ix (ix_tupK (K := K) rfl) (pv 2) pe_int (fun _ _ => rfl)) pe_int (nomark _))))))))), ?_⟩
    cases m with
    | tri =>
      obtain ⟨b, x, y, z, rfl, hb⟩ := hm
      rw [show start n_is_weight [(.ref b : V)] = ([some (.ref b), none, none] : List (Option V)) from rfl]
      walk_at "rd"
      refine w_isi_tt hb ?_
      walk_at "rd"
      refine ⟨b, _, rfl, .inr (SqT.of hb), ?_⟩
      walk_at "rd"
      exact k
    | pr l x =>
      obtain ⟨b, u, rfl, hb, hx⟩ := hm
      rw [show start n_is_weight [(.ref b : V)] = ([some (.ref b), none, none] : List (Option V)) from rfl]
      walk_at "rd"
      refine w_isi_tt hb ?_
      walk_at "rd"
      refine ⟨b, _, rfl, .inr (SqT.of hb), ?_⟩
      walk_at "rd"
      refine w_gTup2 hb ?_
      walk_at "rd"
      have k : Q (.bl (isLit l && (isFracF x && decide (0 ≤ fvN x)))) H := k
      refine ⟨l, rfl, _, rfl, ?_⟩
      cases hl : isLit l with
      | false =>
        rw [hl, Bool.false_and] at k
        exact if_f rfl k
      | true =>
        rw [hl, Bool.true_and] at k
        refine if_t rfl ?_
        walk_at "rd"
        refine ⟨u, x, rfl, hx, _, rfl, ?_⟩
        cases hf : isFracF x with
        | false =>
          rw [hf, Bool.false_and] at k
          exact if_f rfl k
        | true =>
          rw [hf, Bool.true_and] at k
          refine if_t rfl ?_
          cases x with
          | n m => exact absurd hf Bool.false_ne_true
          | p n d =>
            obtain ⟨q, rfl, hq⟩ := hx
            walk_at "rd"
            exact k
theorem ok_l_good_variables (F : Fun K "_law_good_variables" "_law_good_variables" s_l_good_variables f fd) (T : Tx K mg uG) (D_l_is_int : Df P w K mg base 1 "_law_is_int" ["x"] spWhole) : FnOk P w K mg base CX0 2 f fd ["row"] (fun vs H Q _ => ∃ (a : Addr) (S : List At), vs = [.ref a] ∧ H a = some (.tup (S.map At.v)) ∧ S.length ≤ 1000 ∧ Q (.bl (varsF S)) H) := by
  refine F.ok sc_l_good_variables (fun vs H Q E h => ?_) (fun cdv A outer s H vs Q E hr h => ?_)
  · obtain ⟨a, S, rfl, _⟩ := h
    rfl
  · obtain ⟨a, S, rfl, ha, hz, k⟩ := h
    refine ⟨_, (pss_cons (ps_for PassesOwn.never rfl (pi_range1 (by rfl) T.z_range (pa_cons (pe_callB (call_lenK (K := K) rfl) (by rfl) T.z_len (by decide +kernel) (pa_cons (pv 0) pa_nil)) pa_nil)) (pg_name (i := 1) sc_l_good_variables.nd rfl (.inl rfl))
      (pss_one (ps_if (PW.pt (pw_or (pt_not (pt_val (pe_df D_l_is_int (hr.mono (by decide)) (by rfl) (pa_cons (pe_ix (ix_tupK (K := K) rfl) (pv 0) (pv 1) (fun _ _ => rfl)) pa_nil)))) (pw_or (pt_not (pt_chain op_le op_le pe_int (pe_ix (ix_tupK (K := K) rfl) (pv 0) (pv 1) (fun _ _ => rfl)) pe_int)) (pw_or1 (PW.pt (pw_and (pt_cmpR op_gt (pv 1) pe_int (nomark _)) (pw_and1 (pt_cmpR op_le (pe_ix (ix_tupK (K := K) rfl) (pv 0) (pv 1) (fun _ _ => rfl)) (pe_ix (ix_tupK (K := K) rfl) (pv 0) (pe_op op_sub (pv 1) pe_int) (fun _ _ => rfl)) (nomark _)))))))))
      (pss_one (ps_ret pe_bl))
      pss_nil)))
    (pss_one (ps_ret pe_bl))), ?_⟩
    rw [show start n_l_good_variables [(.ref a : V)] = ([some (.ref a), none] : List (Option V)) from rfl]
    have hl : (S.map At.v).length = S.length := List.length_map _
    walk_at "rd"
    refine ⟨a, _, rfl, .inr (SqT.of ha), ?_⟩
    walk_at "rd"
    have hz2 : 1000 < 2 ^ 62 := by decide
    refine Fr1.mk (by rw [hl]; omega) (fun i σ' H' => ∃ v1, σ' = [some (.ref a), v1] ∧ H' = H ∧ (∀ j, j < i → (S.getD j (.i 0)).vr = true) ∧ ∀ j, j + 1 < i → PySem.W.dataLt ((S.map At.dat).getD j .none) ((S.map At.dat).getD (j + 1) .none) = true) ⟨none, rfl, rfl, fun j h => absurd h (by omega), fun j h => absurd h (by omega)⟩ ?_ ?_
    · rintro i σ' H' hi ⟨v1, rfl, rfl, hup, hup2⟩
      rw [hl] at hi
      have hx : (S.map At.v)[i]? = some (S.getD i (.i 0)).v := by rw [List.getElem?_map, List.getD_eq_getElem?_getD, List.getElem?_eq_getElem hi] <;> rfl
      have hdx : ∀ j, j < S.length → (S.map At.dat).getD j .none = (S.getD j (.i 0)).dat := fun j hj => by rw [List.getD_eq_getElem?_getD, List.getElem?_map, List.getElem?_eq_getElem hj, List.getD_eq_getElem?_getD, List.getElem?_eq_getElem hj] <;> rfl
      have bad1 : (S.getD i (.i 0)).vr = false → Q (.bl false) H' := fun h => by
        have e : varsF S = false := by
          unfold varsF
          rw [hl, List.all_eq_false.mpr ⟨i, List.mem_range.mpr hi, by rw [h]; exact Bool.false_ne_true⟩, Bool.false_and]
        rw [← e]
        exact k
      generalize hxe : S.getD i (.i 0) = x at hx bad1
      walk_at "rd"
      refine w_ixT ha (atI_nat hx) ?_
      walk_at "rd"
      refine ⟨x, rfl, _, rfl, ?_⟩
      cases x with
      | b y =>
        refine if_t rfl ?_
        walk_at "rd"
        exact bad1 rfl
      | s y =>
        refine if_t rfl ?_
        walk_at "rd"
        exact bad1 rfl
      | i n =>
        refine if_f rfl ?_
        walk_at "rd"
        refine w_ixT ha (atI_nat hx) ?_
        have hvr : At.vr (.i n) = (decide (1 ≤ n) && decide (n ≤ 999)) := rfl
        refine ⟨1, n, rfl, rfl, ?_⟩
        walk_at "rd"
        by_cases h1 : (1 : Int) ≤ n
        · refine if_t (decide_eq_true h1) ?_
          walk_at "rd"
          refine ⟨n, 999, rfl, rfl, _, rfl, ?_⟩
          by_cases h2 : n ≤ 999
          · rw [decide_eq_true h2]
            refine if_f rfl ?_
            walk_at "rd"
            have hv : At.vr (.i n) = true := by rw [hvr, decide_eq_true h1, decide_eq_true h2] <;> rfl
            by_cases h3 : 0 < i
            · refine if_t (decide_eq_true (by omega)) ?_
              obtain ⟨m, hm⟩ : ∃ m, S.getD (i - 1) (.i 0) = .i m := by
                have q := hup (i - 1) (by omega)
                cases hs : S.getD (i - 1) (.i 0) with
                | i m => exact ⟨m, rfl⟩
                | b y => rw [hs] at q; cases q
                | s y => rw [hs] at q; cases q
              have hx2 : (S.map At.v)[i - 1]? = some (.int m) := by
                rw [List.getElem?_map, List.getElem?_eq_getElem (show i - 1 < S.length by omega)]
                rw [List.getD_eq_getElem?_getD, List.getElem?_eq_getElem (show i - 1 < S.length by omega)] at hm
                have hm : S[i - 1] = .i m := hm
                rw [Option.map_some, hm] <;> rfl
              walk_at "rd"
              refine w_ixT ha (atI_nat hx) ?_
              walk_at "rd"
              refine w_ixT ha (by rw [show (i : Int) - 1 = ((i - 1 : Nat) : Int) by omega]; exact atI_nat hx2) ?_
              refine ⟨n, m, rfl, rfl, _, rfl, ?_⟩
              have elt : PySem.W.dataLt ((S.map At.dat).getD (i - 1) .none) ((S.map At.dat).getD i .none) = decide (m < n) := by
                rw [hdx (i - 1) (by omega), hdx i hi, hm, hxe]
                exact PySem.W.dataLt_int m n
              by_cases h4 : n ≤ m
              · refine if_t (decide_eq_true h4) ?_
                walk_at "rd"
                have e : varsF S = false := by
                  unfold varsF
                  have q := ascD_not (ds := S.map At.dat) (j := i - 1) (by rw [List.length_map]; omega) (by rw [show i - 1 + 1 = i by omega, elt]; exact decide_eq_false (by omega))
                  rw [q, Bool.and_false]
                rw [← e]
                exact k
              · refine if_f (decide_eq_false h4) ?_
                walk_at "rd"
                refine ⟨_, rfl, rfl, fun j hj => ?_, fun j hj => ?_⟩
                · by_cases e : j = i
                  · rw [e, hxe]; exact hv
                  · exact hup j (by omega)
                · by_cases e : j + 1 = i
                  · have q := elt
                    rw [← e, show j + 1 - 1 = j by omega] at q
                    rw [q]
                    exact decide_eq_true (by omega)
                  · exact hup2 j (by omega)
            · refine if_f (decide_eq_false (by omega)) ?_
              walk_at "rd"
              refine ⟨_, rfl, rfl, fun j hj => ?_, fun j hj => absurd hj (by omega)⟩
              have e : j = i := by omega
              rw [e, hxe]
              exact hv
          · rw [decide_eq_false h2]
            refine if_t rfl ?_
            walk_at "rd"
            exact bad1 (by rw [hvr, decide_eq_false h2, Bool.and_false])
        · refine if_f (decide_eq_false h1) ⟨_, rfl, if_t rfl ?_⟩
          walk_at "rd"
          exact bad1 (by rw [hvr, decide_eq_false h1, Bool.false_and])
    · rintro σ' H' ⟨v1, rfl, rfl, hup, hup2⟩
      rw [hl] at hup hup2
      walk_at "rd"
      have e : varsF S = true := by
        unfold varsF
        rw [Bool.and_eq_true]
        refine ⟨List.all_eq_true.mpr fun j hj => hup j (by rw [← hl]; exact List.mem_range.mp hj), ?_⟩
        unfold ascD
        refine List.all_eq_true.mpr fun j hj => hup2 j ?_
        have hj := List.mem_range.mp hj
        rw [List.length_map] at hj
        omega
      rw [← e]
      exact k
theorem ok_l_good_clause (F : Fun K "_law_good_clause" "_law_good_clause" s_l_good_clause f fd) (T : Tx K mg uG) (D_l_is_int : Df P w K mg base 1 "_law_is_int" ["x"] spWhole) : FnOk P w K mg base CX0 2 f fd ["row"] (fun vs H Q _ => ∃ (v : V) (m : Im), vs = [v] ∧ ImAt H v m ∧ SzI m ∧ Q (.bl m.cl) H) := by
  refine F.ok sc_l_good_clause (fun vs H Q E h => ?_) (fun cdv A outer s H vs Q E hr h => ?_)
  · obtain ⟨v, m, rfl, _⟩ := h
    rfl
  · obtain ⟨v, m, rfl, hm, hsz, k⟩ := h
    refine ⟨_, (pss_cons (ps_if (pt_not (pt_val (pe_callB (call_isiK (K := K) rfl) (by rfl) T.z_isinstance (by decide +kernel) (pa_cons (pv 0) (pa_cons (pe_bltn (by rfl) T.z_tuple (by decide +kernel) (show RelV (.ty "tuple") _ from rfl)) pa_nil)))))
      (pss_one (ps_ret pe_bl))
      pss_nil)
    (pss_cons (ps_for PassesOwn.never rfl (pi_range1 (by rfl) T.z_range (pa_cons (pe_callB (call_lenK (K := K) rfl) (by rfl) T.z_len (by decide +kernel) (pa_cons (pv 0) pa_nil)) pa_nil)) (pg_name (i := 1) sc_l_good_clause.nd rfl (.inl rfl))
      (pss_one (ps_if (PW.pt (pw_or (pt_not (pt_val (pe_df D_l_is_int (hr.mono (by decide)) (by rfl) (pa_cons (pe_ix (ix_tupK (K := K) rfl) (pv 0) (pv 1) (fun _ _ => rfl)) pa_nil)))) (pw_or (pt_not (pt_chain op_le op_le pe_int (pe_callB call_abs (by rfl) T.z_abs (by decide +kernel) (pa_cons (pe_ix (ix_tupK (K := K) rfl) (pv 0) (pv 1) (fun _ _ => rfl)) pa_nil)) pe_int)) (pw_or1 (PW.pt (pw_and (pt_cmpR op_gt (pv 1) pe_int (nomark _)) (pw_and1 (pt_cmpR op_le (pe_callB call_abs (by rfl) T.z_abs (by decide +kernel) (pa_cons (pe_ix (ix_tupK (K := K) rfl) (pv 0) (pv 1) (fun _ _ => rfl)) pa_nil)) (pe_callB call_abs (by rfl) T.z_abs (by decide +kernel) (pa_cons (pe_ix (ix_tupK (K := K) rfl) (pv 0) (pe_op op_sub (pv 1) pe_int) (fun _ _ => rfl)) pa_nil)) (nomark _)))))))))
      (pss_one (ps_ret pe_bl))
      pss_nil)))
    (pss_one (ps_ret pe_bl)))), ?_⟩
    cases m with
    | a x =>
      obtain rfl : v = x.v := hm
      rw [show start n_l_good_clause [(x.v : V)] = ([some (x.v), none] : List (Option V)) from rfl]
      cases x with
      | i n =>
        walk_at "rd"
        refine w_isi_it ?_
        walk_at "rd"
        exact k
      | b n =>
        walk_at "rd"
        refine w_isi_bt ?_
        walk_at "rd"
        exact k
      | s n =>
        walk_at "rd"
        refine w_isi_st ?_
        walk_at "rd"
        exact k
    | t ls =>
      obtain ⟨a, rfl, ha⟩ := hm
      have hz := hsz.ok ls rfl
      have k : Q (.bl (isClauseF ls)) H := k
      rw [show start n_l_good_clause [(.ref a : V)] = ([some (.ref a), none] : List (Option V)) from rfl]
      have hl : (ls.map V.int).length = ls.length := List.length_map _
      walk_at "rd"
      refine w_isi_tt ha ?_
      walk_at "rd"
      refine ⟨a, _, rfl, .inr (SqT.of ha), ?_⟩
      walk_at "rd"
      refine Fr1.mk (by rw [hl]; omega) (fun i σ' H' => ∃ v1, σ' = [some (.ref a), v1] ∧ H' = H ∧ (∀ j, j < i → isLit (ls.getD j 0) = true) ∧ ∀ j, j + 1 < i → absI (ls.getD j 0) < absI (ls.getD (j + 1) 0)) ⟨none, rfl, rfl, fun j h => absurd h (by omega), fun j h => absurd h (by omega)⟩ ?_ ?_
      · rintro i σ' H' hi ⟨v1, rfl, rfl, hup, hup2⟩
        rw [hl] at hi
        have hg : ∀ j, j < ls.length → (ls.map V.int)[j]? = some (.int (ls.getD j 0)) := fun j hj => by rw [List.getElem?_map, List.getD_eq_getElem?_getD, List.getElem?_eq_getElem hj] <;> rfl
        have hx := hg i hi
        have bad1 : isLit (ls.getD i 0) = false → Q (.bl false) H' := fun h => by
          have e : isClauseF ls = false := by
            unfold isClauseF
            rw [hl, List.all_eq_false.mpr ⟨i, List.mem_range.mpr hi, by rw [h]; exact Bool.false_ne_true⟩, Bool.false_and]
          rw [← e]
          exact k
        generalize hxe : ls.getD i 0 = n at hx bad1
        walk_at "rd"
        refine w_ixT ha (atI_nat hx) ?_
        walk_at "rd"
        refine ⟨.i n, rfl, _, rfl, if_f rfl ?_⟩
        walk_at "rd"
        refine w_ixT ha (atI_nat hx) ?_
        walk_at "rd"
        refine ⟨n, rfl, ?_⟩
        have hvr : isLit n = (decide (1 ≤ absI n) && decide (absI n ≤ 999)) := rfl
        refine ⟨1, absI n, rfl, rfl, ?_⟩
        walk_at "rd"
        by_cases h1 : (1 : Int) ≤ absI n
        · refine if_t (decide_eq_true h1) ?_
          walk_at "rd"
          by_cases h2 : absI n ≤ 999
          · refine if_f (show (!decide (absI n ≤ 999)) = false by rw [decide_eq_true h2]; rfl) ?_
            walk_at "rd"
            have hv : isLit n = true := by rw [hvr, decide_eq_true h1, decide_eq_true h2] <;> rfl
            by_cases h3 : 0 < i
            · refine if_t (decide_eq_true (by omega)) ?_
              have hx2 := hg (i - 1) (by omega)
              generalize hme : ls.getD (i - 1) 0 = m at hx2
              walk_at "rd"
              refine w_ixT ha (atI_nat hx) ?_
              walk_at "rd"
              refine ⟨n, rfl, ?_⟩
              walk_at "rd"
              refine w_ixT ha (by rw [show (i : Int) - 1 = ((i - 1 : Nat) : Int) by omega]; exact atI_nat hx2) ?_
              walk_at "rd"
              refine ⟨m, rfl, ?_⟩
              refine ⟨absI n, absI m, rfl, rfl, _, rfl, ?_⟩
              by_cases h4 : absI n ≤ absI m
              · refine if_t (decide_eq_true h4) ?_
                walk_at "rd"
                have hdx : ∀ j, j < ls.length → (ls.map fun n => PyData.int (absI n)).getD j .none = .int (absI (ls.getD j 0)) := fun j hj => by rw [List.getD_eq_getElem?_getD, List.getElem?_map, List.getElem?_eq_getElem hj, List.getD_eq_getElem?_getD, List.getElem?_eq_getElem hj] <;> rfl
                have e : isClauseF ls = false := by
                  unfold isClauseF
                  have q := ascD_not (ds := ls.map fun n => PyData.int (absI n)) (j := i - 1) (by rw [List.length_map]; omega) (by rw [show i - 1 + 1 = i by omega, hdx (i - 1) (by omega), hdx i hi, hxe, hme, PySem.W.dataLt_int]; exact decide_eq_false (by omega))
                  rw [q, Bool.and_false]
                rw [← e]
                exact k
              · refine if_f (decide_eq_false h4) ?_
                walk_at "rd"
                refine ⟨_, rfl, rfl, fun j hj => ?_, fun j hj => ?_⟩
                · by_cases e : j = i
                  · rw [e, hxe]; exact hv
                  · exact hup j (by omega)
                · by_cases e : j + 1 = i
                  · rw [e, hxe, show j = i - 1 by omega, hme]
                    omega
                  · exact hup2 j (by omega)
            · refine if_f (decide_eq_false (by omega)) ?_
              walk_at "rd"
              refine ⟨_, rfl, rfl, fun j hj => ?_, fun j hj => absurd hj (by omega)⟩
              have e : j = i := by omega
              rw [e, hxe]
              exact hv
          · refine if_t (show (!decide (absI n ≤ 999)) = true by rw [decide_eq_false h2]; rfl) ?_
            walk_at "rd"
            exact bad1 (by rw [hvr, decide_eq_false h2, Bool.and_false])
        · refine if_f (decide_eq_false h1) ⟨_, rfl, if_t rfl ?_⟩
          walk_at "rd"
          exact bad1 (by rw [hvr, decide_eq_false h1, Bool.false_and])
      · rintro σ' H' ⟨v1, rfl, rfl, hup, hup2⟩
        rw [hl] at hup hup2
        walk_at "rd"
        have e : isClauseF ls = true := by
          unfold isClauseF
          rw [Bool.and_eq_true]
          refine ⟨List.all_eq_true.mpr fun j hj => hup j (by rw [← hl]; exact List.mem_range.mp hj), ?_⟩
          unfold ascD
          refine List.all_eq_true.mpr fun j hj => ?_
          have hj := List.mem_range.mp hj
          rw [List.length_map] at hj
          have hdx : ∀ j, j < ls.length → (ls.map fun n => PyData.int (absI n)).getD j .none = .int (absI (ls.getD j 0)) := fun j hj => by rw [List.getD_eq_getElem?_getD, List.getElem?_map, List.getElem?_eq_getElem hj, List.getD_eq_getElem?_getD, List.getElem?_eq_getElem hj] <;> rfl
          rw [hdx j (by omega), hdx (j + 1) (by omega), PySem.W.dataLt_int]
          exact decide_eq_true (hup2 j (by omega))
        rw [← e]
        exact k
end
end Ky

namespace Ky
open PySem PySem.Spec PyProof.Rows L2
local macro_rules | `(tactic| walk_at "rd") => `(tactic| repeat (first
  | with_reducible refine w_for1 ?_
  | with_reducible refine w_for2 ?_
  | with_reducible refine w_forL ?_
  | with_reducible refine w_forT ?_
  | with_reducible refine w_lc1 ?_
  | with_reducible refine w_lcL ?_
  | with_reducible refine w_lcT ?_
  | with_reducible refine w_seq ?_
  | with_reducible refine w_asg ?_
  | with_reducible refine w_ret ?_
  | with_reducible refine w_drop ?_
  | with_reducible refine w_ifs ?_
  | ((with_reducible refine' w_var ?hh ?_); (case hh => exact rfl))
  | with_reducible refine w_c ?_
  | with_reducible refine w_op ?_
  | with_reducible refine w_un ?_
  | with_reducible refine w_I0 ?_
  | with_reducible refine w_U ?_
  | with_reducible refine w_nil ?_
  | with_reducible refine w_cons ?_
  | with_reducible refine w_call ?_
  | with_reducible refine w_cb ?_
  | with_reducible refine w_test ?_
  | with_reducible refine w_B ?_
  | with_reducible refine w_bl ?_
  | with_reducible refine w_and ?_
  | with_reducible refine w_or ?_
  | with_reducible refine w_not ?_
  | with_reducible refine w_ife ?_
  | with_reducible refine w_gRd ?_
  | with_reducible refine w_andV ?_
  | with_reducible refine w_orV ?_
  | with_reducible refine w_notV ?_
  | with_reducible refine w_chain ?_
  | with_reducible refine w_din ?_
  | with_reducible refine w_isi_ii ?_
  | with_reducible refine w_isi_bi ?_
  | with_reducible refine w_isi_bb ?_
  | with_reducible refine w_isi_bt ?_
  | with_reducible refine w_isi_si ?_
  | with_reducible refine w_isi_nt ?_
  | with_reducible refine w_isi_ib ?_
  | with_reducible refine w_isi_it ?_
  | with_reducible refine w_isi_st ?_
  | ((with_reducible refine w_isi_tt ?h1 ?_); (case h1 => first | assumption | exact upd_same))
  | with_reducible refine if_t rfl ?_
  | with_reducible refine if_f rfl ?_
  | with_reducible refine w_tup ?_
  | with_reducible refine w_lst ?_
  | with_reducible refine w_next ?_
  | with_reducible refine w_bm ?_
  | with_reducible refine w_sl ?_
  | with_reducible refine w_part ?_
  | with_reducible refine w_nop ?_
  | with_reducible refine w_isI ?_
  | with_reducible refine w_yes ?_
  | with_reducible refine w_gn ?_
  | with_reducible refine w_gsub ?_
  | ((with_reducible refine' w_setL ?h1 ?h2 ?_); (case h1 => first | assumption | exact upd_same); (case h2 => exact rfl))
  | with_reducible refine w_asgG ?_
  | with_reducible refine w_m1 ?_
  | with_reducible refine w_isS ?_
  | with_reducible refine w_tyS ?_
  | ((with_reducible refine' w_tyL ?h1 ?_); (case h1 => first | assumption | exact upd_same))
  | ((with_reducible refine' w_ixT ?h1 ?h2 ?_); (case h1 => first | assumption | exact upd_same); (case h2 => exact rfl))
  | ((with_reducible refine' w_ixL ?h1 ?h2 ?_); (case h1 => first | assumption | exact upd_same); (case h2 => exact rfl))
  | ((with_reducible refine w_eq ?h1 ?_); (case h1 => exact rfl))
  | ((with_reducible refine w_ne ?h1 ?_); (case h1 => exact rfl))
  | dsimp only [List.set_cons_zero, List.set_cons_succ, List.append_nil, List.cons_append, List.nil_append, cxOf]))

theorem g_tupG {K : PySem.W.Frag} {a : Addr} {xs : List V} {g : TG} {te : TE} {σw : L2.St} {vs : List Nat} {H0 : Hp} {cont : Bool} {Q : VK} (bf : Nat → Bool) (Hs : Hp → Prop) (h0 : Hs H0) (hl : ∀ H, Hs H → SqT K H a xs)
    (step : ∀ i x H (k : VK), xs[i]? = some x → Hs H → (∀ H', Hs H' → k (.bl (bf i)) H') → g x σw H fun σ2 H2 => wipe σ2 vs = σw ∧ te σ2 H2 k)
    (fin : ∀ H, Hs H → Q (.bl (if cont = true then (List.range xs.length).all bf else (List.range xs.length).any bf)) H) : ∃ W : Nat → Nat → Hp → Prop, (∃ m, W 0 m H0) ∧ GTurn (Itt K a) g te σw vs Q cont W := by
  refine ⟨fun i m H => m = xs.length - i ∧ i ≤ xs.length ∧ Hs H ∧ ∀ k, k < i → bf k = cont, ⟨xs.length, by simp, Nat.zero_le _, h0, fun k hk => absurd hk (Nat.not_lt_zero _)⟩, ?_⟩
  rintro i m H ⟨rfl, hi, hs, hb⟩
  by_cases hlt : i < xs.length
  · refine .inr ⟨⟨xs, xs[i], hl H hs, List.getElem?_eq_getElem hlt⟩, fun x H' y => ?_⟩
    obtain ⟨e, y⟩ := y
    subst e
    refine step i x H' _ (y xs (hl _ hs)) hs fun H2 hs2 => ⟨bf i, rfl, ?_⟩
    by_cases hc : bf i = cont
    · rw [if_pos hc]
      refine ⟨xs.length - (i + 1), by omega, rfl, hlt, hs2, fun k hk => ?_⟩
      by_cases e : k = i
      · rw [e]; exact hc
      · exact hb k (by omega)
    · rw [if_neg hc]
      have q := fin H2 hs2
      have hn := not_of_ne hc
      have e : (if cont = true then (List.range xs.length).all bf else (List.range xs.length).any bf) = !cont := by
        cases cont with
        | true =>
          rw [if_pos rfl]
          refine Bool.eq_false_iff.mpr fun z => ?_
          rw [List.all_eq_true.mp z i (List.mem_range.mpr hlt)] at hn
          cases hn
        | false =>
          rw [if_neg Bool.false_ne_true]
          exact List.any_eq_true.mpr ⟨i, List.mem_range.mpr hlt, hn⟩
      rw [e] at q
      exact q
  · have ei : i = xs.length := by omega
    subst ei
    refine .inl ⟨⟨xs, hl H hs, Nat.le_refl _⟩, ?_⟩
    have q := fin H hs
    have e : (if cont = true then (List.range xs.length).all bf else (List.range xs.length).any bf) = cont := by
      cases cont with
      | true =>
        rw [if_pos rfl]
        exact List.all_eq_true.mpr fun k hk => hb k (List.mem_range.mp hk)
      | false =>
        rw [if_neg Bool.false_ne_true]
        refine Bool.eq_false_iff.mpr fun z => ?_
        obtain ⟨k, hk, hk2⟩ := List.any_eq_true.mp z
        rw [hb k (List.mem_range.mp hk)] at hk2
        cases hk2
    rw [e] at q
    exact q
section
variable {P : Program} {w : World} {K : PySem.W.Frag} {mg : Str → Option Value} {base : Heap} {uG : Value} {f : Addr} {fd : FuncData}
theorem ok_are_weights {c P1 P2 : Addr} (F : FunC K "are_weights" s_are_weights f fd c) (T : Tx K mg uG) (TB : GxR.TabB base mg c P1) (D_is_weight : Df P w K mg base 4 "is_weight" ["value"] spIsWeight) (D_literal_key : Df P w K mg base 1 "literal_key" ["literal"] spKey) (D_ascends : Df P w K mg base 4 "ascends" ["keys"] (spAsc K P2)) : FnOk P w K mg base CX0 10 f fd ["formula", "value"] (spAreW K P1 P2) := by
  refine F.ok sc_are_weights (fun vs H Q E h => ?_) (fun A outer s H vs Q E hr h => ?_)
  · obtain ⟨p, s, S, y, z, v, rfl, _⟩ := h
    rfl
  · obtain ⟨p, s, S, y, z, v, rfl, hp, hs, hz, hT1, hT2, hv⟩ := h
    have hsl : 1001 ≤ sizeLine := by decide
    refine ⟨_, (pss_cons (ps_if (PW.pt (pw_or (pt_not (pt_val (pe_callB (call_isiK (K := K) rfl) (by rfl) T.z_isinstance (by decide +kernel) (pa_cons (pv 1) (pa_cons (pe_bltn (by rfl) T.z_tuple (by decide +kernel) (show RelV (.ty "tuple") _ from rfl)) pa_nil))))) (pw_or1 (pt_not (pt_val (pe_allG (k := 7) (own := [("item", 2)]) (g := gName 2) (hr.mono (by decide)) (by rfl) T.z_all (by decide +kernel) rfl sc_are_weights.nd TB rfl ⟨blkOk_by (own := [("item", 2)]) (N := n_are_weights) (sc := defScope s_are_weights) (by decide +kernel), rfl, by decide +kernel, rfl⟩ (pi_tupK (K := K) rfl (pv 1)) (fun _ _ _ _ _ => pg_name (i := 2) sc_are_weights.nd rfl (Or.inl rfl)) (fun _ _ _ _ _ hr => (pe_df D_is_weight (hr.mono (by decide)) (by rfl) (pa_cons (pv 2) pa_nil)))))))))
      (pss_one (ps_ret pe_bl))
      pss_nil)
    (pss_cons (ps_set (i := 3) sc_are_weights.nd rfl (.inr rfl) (pe_dc (own := [("variable", 4)]) (g := gName 4) (by rfl) sc_are_weights.nd (pi_tupK (K := K) rfl (pe_ix (ix_tupK (K := K) rfl) (pv 0) pe_int (fun _ _ => rfl))) (blkOk_by (own := [("variable", 4)]) (N := n_are_weights) (sc := defScope s_are_weights) (by decide +kernel)) (fun _ _ _ _ _ => pg_name (i := 4) sc_are_weights.nd rfl (Or.inl rfl)) (fun _ _ _ _ _ => pts_nil) (fun _ _ _ _ _ => (pv 4)) (fun _ _ _ _ _ => pe_bl)))
    (pss_cons (ps_if (pt_not (pt_val (pe_allG (k := 7) (own := [("literal", 5), ("_", 6)]) (g := gTup K 2 ((gCons (gName 5) (gCons (gName 6) gNil)))) (hr.mono (by decide)) (by rfl) T.z_all (by decide +kernel) rfl sc_are_weights.nd TB rfl ⟨blkOk_by (own := [("literal", 5), ("_", 6)]) (N := n_are_weights) (sc := defScope s_are_weights) (by decide +kernel), rfl, by decide +kernel, rfl⟩ (pi_tupK (K := K) rfl (pv 1)) (fun _ _ _ _ _ => (pg_tupK (K := K) rfl (by rfl) (pgs_cons (pg_name (i := 5) sc_are_weights.nd rfl (Or.inl rfl)) (pgs_cons (pg_name (i := 6) sc_are_weights.nd rfl (Or.inl rfl)) pgs_nil)))) (fun _ _ _ _ _ hr => (pe_cmp (pc_din hr.u1 (pe_callB call_abs (by rfl) T.z_abs (by decide +kernel) (pa_cons (pv 5) pa_nil)) (pv 3)))))))
      (pss_one (ps_ret pe_bl))
      pss_nil)
    (pss_one (ps_ret (pe_df D_ascends (hr.mono (by decide)) (by rfl) (pa_cons (pe_lc (own := [("literal", 5), ("_", 6)]) (g := gTup K 2 ((gCons (gName 5) (gCons (gName 6) gNil)))) (by rfl) sc_are_weights.nd (pi_tupK (K := K) rfl (pv 1)) (blkOk_by (own := [("literal", 5), ("_", 6)]) (N := n_are_weights) (sc := defScope s_are_weights) (by decide +kernel)) (fun _ _ _ _ _ => (pg_tupK (K := K) rfl (by rfl) (pgs_cons (pg_name (i := 5) sc_are_weights.nd rfl (Or.inl rfl)) (pgs_cons (pg_name (i := 6) sc_are_weights.nd rfl (Or.inl rfl)) pgs_nil)))) (fun _ _ _ _ _ => pts_nil) (fun _ _ _ _ _ => (pe_df D_literal_key (hr.mono (by decide)) (by rfl) (pa_cons (pv 5) pa_nil)))) pa_nil))))))), ?_⟩
    rcases hv with ⟨t, rfl, k⟩ | ⟨q, us, ms, rfl, hq, hms, hml, k⟩
    · rw [show start n_are_weights [(.ref p : V), (.str t : V)] = ([some (.ref p), some (.str t), none, none, none, none, none] : List (Option V)) from rfl]
      walk_at "rd"
      exact k H (Kept.refl _)
    · rw [show start n_are_weights [(.ref p : V), (.ref q : V)] = ([some (.ref p), some (.ref q), none, none, none, none, none] : List (Option V)) from rfl]
      walk_at "rd"
      refine w_isi_tt hq ?_
      walk_at "rd"
      refine ⟨_, rfl, q, rfl, ⟨_, SqT.of hq⟩, hT1, fun H2 hT => ?_⟩
      refine g_tup (xs := us) (σ := [some (.ref p), some (.ref q), none, none, none, none, none]) (j := 2) (fun i => isWtF (ms.getD i .tri)) (fun H1 => Kept H H1) (Kept.tabbed hT1 hT) (fun H1 kp => SqT.of (kp.tup hq)) (fun i x H1 k' hx kp hk => ?_) (fun H1 kp => ?_)
      · have hi : i < ms.length := by rw [← hms.1]; exact (List.getElem?_eq_some_iff.mp hx).1
        have hmi : ms[i]? = some (ms.getD i .tri) := by rw [List.getD_eq_getElem?_getD, List.getElem?_eq_getElem hi] <;> rfl
        walk_at "rd"
        exact ⟨x, _, rfl, (hms.kept kp).2 i x _ hx hmi, hk H1 kp⟩
      · refine ⟨_, rfl, ?_⟩
        have e0 : ((List.range us.length).all fun i => isWtF (ms.getD i .tri)) = ms.all isWtF := by
          rw [hms.1]
          exact range_all .tri isWtF ms
        show if (!((List.range us.length).all fun i => isWtF (ms.getD i .tri))) = true then _ else _
        rw [e0]
        cases ha : ms.all isWtF with
        | false =>
          refine if_t rfl ?_
          walk_at "rd"
          have q := k H1 kp
          unfold areWF at q
          rw [ha, Bool.false_and] at q
          exact q
        | true =>
          refine if_f rfl ?_
          obtain ⟨hkl, hkk⟩ := all_wt ha
          have hk : ∀ H', Kept H H' → Q (.bl ((keysW ms).all (fun l => decide (absI l ∈ S)) && ascD ((keysW ms).map keyD))) H' := fun H' k1 => by
            have q := k H' k1
            unfold areWF at q
            rw [ha, Bool.true_and] at q
            exact q
          generalize hks : keysW ms = ks at *
          have hul : us.length = ks.length := by rw [hms.1, hkl]
          have item : ∀ (i : Nat) (x : V) (H' : Hp), Kept H H' → us[i]? = some x → ∃ b l u, x = .ref b ∧ ks[i]? = some l ∧ H' b = some (.tup [.int l, u]) := fun i x H' k1 hx => by
            have hi : i < ms.length := by rw [← hms.1]; exact (List.getElem?_eq_some_iff.mp hx).1
            have hmi : ms[i]? = some ms[i] := List.getElem?_eq_getElem hi
            obtain ⟨l, fv, e, hl⟩ := hkk i _ hmi
            have him := (hms.kept k1).2 i x _ hx hmi
            rw [e] at him
            obtain ⟨b, u, rfl, hb, _⟩ := him
            exact ⟨b, l, u, rfl, hl, hb⟩
          have hp1 := kp.tup hp
          have hs1 := kp.tup hs
          walk_at "rd"
          refine ⟨_, rfl, p, _, 0, .ref s, rfl, rfl, SqT.of hp1, rfl, s, rfl, ⟨_, SqT.of hs1⟩, fun D hD => ?_⟩
          refine c_tup (xs := S.map V.int) (fun i H3 => Kept H1 H3 ∧ ∃ kvs, H3 D = some (.dK kvs) ∧ kvs.length ≤ i ∧ ∀ n : Int, (valV kvs (.inl n)).isSome = decide (n ∈ S.take i)) ⟨Kept.new hD, [], upd_same, Nat.le_refl _, fun n => by rw [List.take_zero]; rfl⟩ (fun i H3 _ h => SqT.of (h.1.tup hs1)) (fun i x H3 hx h => ?_) fun H3 h => ?_
          · obtain ⟨k3, kvs, hDk, hkl, hrel⟩ := h
            obtain ⟨m, rfl, hn⟩ := map_int hx
            have hi : i < S.length := (List.getElem?_eq_some_iff.mp hn).1
            have et : S.take (i + 1) = S.take i ++ [m] := by rw [List.take_add_one, hn]; rfl
            refine ⟨rfl, w_yes (if_t rfl ?_)⟩
            walk_at "rd"
            refine ⟨kvs, .inl m, rfl, hDk, by omega, Kept.mut k3 hD, _, upd_same, Nat.le_trans (putK_le _ _ _) (by omega), fun n => ?_⟩
            rw [valV_put, et]
            by_cases e : n = m
            · subst e
              rw [if_pos rfl, decide_eq_true (List.mem_append_right _ List.mem_cons_self)] <;> rfl
            · rw [if_neg (fun z => e (Sum.inl.inj z)), hrel n]
              refine decide_eq_decide.mpr ?_
              rw [List.mem_append, List.mem_singleton]
              exact ⟨.inl, fun h => h.elim id fun z => absurd z e⟩
          · obtain ⟨k3, kvs, hDk, hkl, hrel⟩ := h
            rw [List.length_map, List.take_length] at hrel
            have k4 := kp.trans k3
            walk_at "rd"
            refine ⟨_, rfl, q, rfl, ⟨_, SqT.of (k4.tup hq)⟩, k4.tab _ hT1, fun H4 hT4 => ?_⟩
            have kT := Kept.tabbed (k4.tab _ hT1) hT4
            refine g_tupG (xs := us) (fun i => decide (absI (ks.getD i 0) ∈ S)) (fun H5 => Kept H3 H5) kT (fun H5 kp5 => SqT.of (kp5.tup (k4.tup hq))) (fun i x H5 k' hx kp5 hk5 => ?_) (fun H5 kp5 => ?_)
            · obtain ⟨b, l, u, rfl, hl, hb⟩ := item i x H5 (k4.trans kp5) hx
              have hDk5 : H5 D = some (.dK kvs) := kp5.keep _ _ (fun _ z => by cases z) hDk
              have e1 : ks.getD i 0 = l := by rw [List.getD_eq_getElem?_getD, hl] <;> rfl
              have q5 := hk5 H5 kp5
              rw [e1] at q5
              refine w_gTup2 hb ?_
              refine ⟨rfl, ?_⟩
              walk_at "rd"
              refine ⟨l, rfl, ?_⟩
              walk_at "rd"
              refine ⟨D, _, rfl, DGet.k (k := .inl (absI l)) hDk5, ?_⟩
              rw [hrel]
              exact q5
            · refine ⟨_, rfl, ?_⟩
              have e2 : ((List.range us.length).all fun i => decide (absI (ks.getD i 0) ∈ S)) = ks.all fun l => decide (absI l ∈ S) := by
                rw [hul]
                exact range_all 0 (fun l => decide (absI l ∈ S)) ks
              show if (!((List.range us.length).all fun i => decide (absI (ks.getD i 0) ∈ S))) = true then _ else _
              rw [e2]
              have k6 := k4.trans kp5
              cases hb2 : ks.all fun l => decide (absI l ∈ S) with
              | false =>
                refine if_t rfl ?_
                walk_at "rd"
                have q := hk H5 k6
                rw [hb2, Bool.false_and] at q
                exact q
              | true =>
                refine if_f rfl ?_
                walk_at "rd"
                refine ⟨q, rfl, ⟨_, SqT.of (k6.tup hq)⟩, fun D6 hD6 => c_tup (xs := us) (fun i H6 => Kept H5 H6 ∧ ∃ qs : List Addr, H6 D6 = some (.lst (qs.map V.ref)) ∧ qs.length = i ∧ ∀ (j : Nat) (r : Addr) (n : Int), qs[j]? = some r → ks[j]? = some n → H6 r = some (.tup (keyV n))) ⟨Kept.new hD6, [], upd_same, rfl, fun j r n h => by simp at h⟩ (fun i H6 _ h => SqT.of ((k6.trans h.1).tup hq)) (fun i x H6 hx h => ?_) fun H6 h => ?_⟩
                · obtain ⟨k7, qs, hDq, hql, hqk⟩ := h
                  obtain ⟨b, l, u, rfl, hl, hb⟩ := item i x H6 (k6.trans k7) hx
                  have hi : i < us.length := (List.getElem?_eq_some_iff.mp hx).1
                  have hul2 := hms.1
                  refine w_gTup2 hb ?_
                  refine ⟨rfl, w_yes (if_t rfl ?_)⟩
                  walk_at "rd"
                  refine ⟨l, rfl, fun r hr => ?_⟩
                  have kr := Kept.new (o := .tup (keyV l)) hr
                  have hDq2 := kr.lst hDq
                  refine ⟨_, hDq2, by rw [List.length_map]; omega, Kept.mut (k7.trans kr) hD6, qs ++ [r], by rw [List.map_append]; exact upd_same, by rw [List.length_append, hql] <;> rfl, fun j t n h1 h2 => ?_⟩
                  by_cases hj : j < qs.length
                  · rw [List.getElem?_append_left hj] at h1
                    exact tup_upd hDq2 (kr.tup (hqk j t n h1 h2))
                  · have hj2 := (List.getElem?_eq_some_iff.mp h1).1
                    rw [List.length_append] at hj2
                    have ej : j = i := by
                      have : j < qs.length + 1 := hj2
                      omega
                    rw [List.getElem?_append_right (by omega), show j - qs.length = 0 by omega] at h1
                    cases h1
                    rw [ej, hl] at h2
                    cases h2
                    exact tup_upd hDq2 upd_same
                · obtain ⟨k7, qs, hDq, hql, hqk⟩ := h
                  have k8 := k6.trans k7
                  walk_at "rd"
                  have hql2 : qs.length = ks.length := by rw [hql, hul]
                  refine ⟨D6, _, ks.map keyD, rfl, .inl hDq, by rw [List.length_map, hql, hms.1]; omega, ?_, ?_, fun d hd => ?_, k8.tab _ hT2, fun H7 k9 => ?_⟩
                  · refine dpAll_of (by rw [List.length_map, List.length_map, hql2]) fun i x d hx hd => ?_
                    rw [List.getElem?_map] at hx hd
                    obtain ⟨r, hr, rfl⟩ := Option.map_eq_some_iff.mp hx
                    obtain ⟨n, hn, rfl⟩ := Option.map_eq_some_iff.mp hd
                    exact dp_key (hqk i r n hr hn)
                  · exact PySem.W.AllAlike.of fun a b => by simp [keyD, PySem.W.alike, PySem.W.alikeAll]
                  · obtain ⟨n, _, rfl⟩ := List.mem_map.mp hd
                    exact ⟨fun z => (by cases z), by simp [keyD, PyData.depth, PyData.depthAll]⟩
                  · have q := hk H7 (k8.trans k9)
                    rw [hb2, Bool.true_and] at q
                    exact q
end
end Ky

namespace Ky
open PySem PySem.Spec PyProof.Rows L2
local macro_rules | `(tactic| walk_at "rd") => `(tactic| repeat (first
  | with_reducible refine w_for1 ?_
  | with_reducible refine w_for2 ?_
  | with_reducible refine w_forL ?_
  | with_reducible refine w_forT ?_
  | with_reducible refine w_lc1 ?_
  | with_reducible refine w_lcL ?_
  | with_reducible refine w_lcT ?_
  | with_reducible refine w_seq ?_
  | with_reducible refine w_asg ?_
  | with_reducible refine w_ret ?_
  | with_reducible refine w_drop ?_
  | with_reducible refine w_ifs ?_
  | ((with_reducible refine' w_var ?hh ?_); (case hh => exact rfl))
  | with_reducible refine w_c ?_
  | with_reducible refine w_op ?_
  | with_reducible refine w_un ?_
  | with_reducible refine w_I0 ?_
  | with_reducible refine w_U ?_
  | with_reducible refine w_nil ?_
  | with_reducible refine w_cons ?_
  | with_reducible refine w_call ?_
  | with_reducible refine w_cb ?_
  | with_reducible refine w_test ?_
  | with_reducible refine w_B ?_
  | with_reducible refine w_bl ?_
  | with_reducible refine w_and ?_
  | with_reducible refine w_or ?_
  | with_reducible refine w_not ?_
  | with_reducible refine w_ife ?_
  | with_reducible refine w_gRd ?_
  | with_reducible refine w_andV ?_
  | with_reducible refine w_orV ?_
  | with_reducible refine w_notV ?_
  | with_reducible refine w_chain ?_
  | with_reducible refine w_din ?_
  | with_reducible refine w_isi_ii ?_
  | with_reducible refine w_isi_bi ?_
  | with_reducible refine w_isi_bb ?_
  | with_reducible refine w_isi_bt ?_
  | with_reducible refine w_isi_si ?_
  | with_reducible refine w_isi_nt ?_
  | with_reducible refine w_isi_ib ?_
  | with_reducible refine w_isi_it ?_
  | with_reducible refine w_isi_st ?_
  | ((with_reducible refine w_isi_tt ?h1 ?_); (case h1 => first | assumption | exact upd_same))
  | with_reducible refine if_t rfl ?_
  | with_reducible refine if_f rfl ?_
  | with_reducible refine w_tup ?_
  | with_reducible refine w_lst ?_
  | with_reducible refine w_next ?_
  | with_reducible refine w_bm ?_
  | with_reducible refine w_sl ?_
  | with_reducible refine w_part ?_
  | with_reducible refine w_nop ?_
  | with_reducible refine w_isI ?_
  | with_reducible refine w_yes ?_
  | with_reducible refine w_gn ?_
  | with_reducible refine w_gsub ?_
  | ((with_reducible refine' w_setL ?h1 ?h2 ?_); (case h1 => first | assumption | exact upd_same); (case h2 => exact rfl))
  | with_reducible refine w_asgG ?_
  | with_reducible refine w_m1 ?_
  | with_reducible refine w_isS ?_
  | with_reducible refine w_tyS ?_
  | ((with_reducible refine' w_tyL ?h1 ?_); (case h1 => first | assumption | exact upd_same))
  | ((with_reducible refine' w_ixT ?h1 ?h2 ?_); (case h1 => first | assumption | exact upd_same); (case h2 => exact rfl))
  | ((with_reducible refine' w_ixL ?h1 ?h2 ?_); (case h1 => first | assumption | exact upd_same); (case h2 => exact rfl))
  | ((with_reducible refine w_eq ?h1 ?_); (case h1 => exact rfl))
  | ((with_reducible refine w_ne ?h1 ?_); (case h1 => exact rfl))
  | dsimp only [List.set_cons_zero, List.set_cons_succ, List.append_nil, List.cons_append, List.nil_append, cxOf]))

def rightF (S Hd : List At) : Bool := varsF S && varsF Hd
def interF (S Hd : List At) : Bool := (intsA Hd).any fun n => decide (n ∈ intsA S)
def ordF (cs : List (List Int)) : Bool := ascD (cs.map ckD)
def unkF (cs : List (List Int)) (vs : List Int) : Bool := cs.any fun c => c.any fun x => decide (absI x ∉ vs)
def codes : List Str := [sB, sC, sO, sU, sV]
def dueP (S Hd : List At) (R : List Im) (z : Str) : Prop :=
  (rightF S Hd = false ∧ z = sV) ∨ (rightF S Hd = true ∧ interF S Hd = true ∧ z = sB) ∨ ((clI R).length < R.length ∧ z = sC) ∨ (¬ (clI R).length < R.length ∧ ordF (clI R) = false ∧ z = sO) ∨ (rightF S Hd = true ∧ unkF (clI R) (intsA S ++ intsA Hd) = true ∧ z = sU)
theorem inV_strs (n : Str) (ls : List Str) : inV (.str n) (ls.map V.str) = decide (n ∈ ls) := by
  unfold inV
  rw [List.any_map, Bool.eq_iff_iff, List.any_eq_true, decide_eq_true_eq]
  constructor
  · rintro ⟨y, hy, e⟩
    have e : y = n := by simpa [eqV] using e
    rw [← e]
    exact hy
  · intro h
    exact ⟨n, h, by simp [eqV]⟩
theorem flat_strs (ls : List Str) : (ls.map V.str).all flatV = true := by
  rw [List.all_map]
  exact List.all_eq_true.mpr fun x _ => rfl
theorem w_inS {K : PySem.W.Frag} {H : Hp} {Q : VK} {b : Addr} {n : Str} {ls : List Str} (h : H b = some (.lst (ls.map V.str))) (q : Q (.bl (decide (n ∈ ls))) H) : rIn K false (.str n) (.ref b) H Q := ⟨b, _, rfl, .inl (SqL.of h), rfl, flat_strs ls, by rw [inV_strs, if_neg Bool.false_ne_true]; exact q⟩
/-- a list of keys, as data -/
theorem dl_keys {K : PySem.W.Frag} {H : Hp} {a : Addr} {ps : List Addr} {xs : List Int} (hp : KeysAt H ps xs) (h : H a = some (.lst (ps.map V.ref))) : Dp K H (.ref a) (.list (xs.map keyD)) := by
  refine .lst (SqL.of h) (dpAll_of (by rw [List.length_map, List.length_map, hp.1]) fun i x d hx hd => ?_)
  rw [List.getElem?_map] at hx hd
  obtain ⟨q, hq, rfl⟩ := Option.map_eq_some_iff.mp hx
  obtain ⟨n, hn, rfl⟩ := Option.map_eq_some_iff.mp hd
  exact dp_key (hp.2 i q n hq hn)
theorem keysL_depth (ls : List Int) : PyData.depth (.list (ls.map keyD)) ≤ 60 := by
  have := depth_keys ls
  simp only [PyData.depth]
  omega
theorem mem_rep {z x : Str} {c : Nat} : z ∈ List.replicate c x ↔ c ≠ 0 ∧ z = x := List.mem_replicate
section
variable {P : Program} {w : World} {K : PySem.W.Frag} {mg : Str → Option Value} {base : Heap} {uG : Value} {f : Addr} {fd : FuncData}
def spGoodV : Sp := fun vs H Q _ => ∃ (a : Addr) (S : List At), vs = [.ref a] ∧ H a = some (.tup (S.map At.v)) ∧ S.length ≤ 1000 ∧ Q (.bl (varsF S)) H
def spGoodC : Sp := fun vs H Q _ => ∃ (v : V) (m : Im), vs = [v] ∧ ImAt H v m ∧ SzI m ∧ Q (.bl m.cl) H
def spDueX : Sp := fun vs H Q _ => ∃ (v : V) (x : Vl), vs = [v] ∧ ValAt H v x ∧ SzV 8 x ∧
  (∀ S Hd R, x = .tr S Hd R → ∀ (q : Addr) (H' : Hp) (fs : List Str), Kept H H' → H' q = some (.lst ((codes.filter fun z => decide (z ∈ fs)).map V.str)) → (∀ z, z ∈ fs ↔ dueP S Hd R z) → Q (.ref q) H') ∧
  ((∀ S Hd R, x ≠ .tr S Hd R) → ∀ q H', Kept H H' → H' q = some (.lst [V.str sF]) → Q (.ref q) H')
theorem ok_l_due (F : Fun K "_law_due" "_law_due" s_l_due f fd) (T : Tx K mg uG) (D_l_good_variables : Df P w K mg base 2 "_law_good_variables" ["row"] spGoodV) (D_l_good_clause : Df P w K mg base 2 "_law_good_clause" ["row"] spGoodC) (D_l_key : Df P w K mg base 1 "_law_key" ["literal"] spKey) : FnOk P w K mg base CX0 3 f fd ["value"] spDueX := by
  refine F.ok sc_l_due (fun vs H Q E h => ?_) (fun cdv A outer s H vs Q E hr h => ?_)
  · obtain ⟨v, x, rfl, _⟩ := h
    rfl
  · obtain ⟨v, x, rfl, hv, hz, kt, kf⟩ := h
    have hsl : 1001 ≤ sizeLine := by decide
    refine ⟨_, (pss_cons (ps_if (PW.pt (pw_or (pt_not (pt_val (pe_callB (call_isiK (K := K) rfl) (by rfl) T.z_isinstance (by decide +kernel) (pa_cons (pv 0) (pa_cons (pe_bltn (by rfl) T.z_tuple (by decide +kernel) (show RelV (.ty "tuple") _ from rfl)) pa_nil))))) (pw_or1 (pt_cmpR op_ne (pe_callB (call_lenK (K := K) rfl) (by rfl) T.z_len (by decide +kernel) (pa_cons (pv 0) pa_nil)) pe_int (nomark _)))))
      (pss_one (ps_ret (pe_lst (pa_cons pe_str pa_nil))))
      pss_nil)
    (pss_cons (ps_for PassesOwn.never rfl (pi_tupK (K := K) rfl (pv 0)) (pg_name (i := 1) sc_l_due.nd rfl (.inl rfl))
      (pss_one (ps_if (pt_not (pt_val (pe_callB (call_isiK (K := K) rfl) (by rfl) T.z_isinstance (by decide +kernel) (pa_cons (pv 1) (pa_cons (pe_bltn (by rfl) T.z_tuple (by decide +kernel) (show RelV (.ty "tuple") _ from rfl)) pa_nil)))))
      (pss_one (ps_ret (pe_lst (pa_cons pe_str pa_nil))))
      pss_nil)))
    (pss_cons (ps_set (i := 2) sc_l_due.nd rfl (.inr rfl) (pe_lst pa_nil))
    (Evl.pss_cut (ps_set (i := 3) sc_l_due.nd rfl (.inl rfl) (pe_and (pe_df D_l_good_variables (hr.mono (by decide)) (by rfl) (pa_cons (pe_ix (ix_tupK (K := K) rfl) (pv 0) pe_int (fun _ _ => rfl)) pa_nil)) (pe_one (pe_df D_l_good_variables (hr.mono (by decide)) (by rfl) (pa_cons (pe_ix (ix_tupK (K := K) rfl) (pv 0) pe_int (fun _ _ => rfl)) pa_nil)))))
    (Evl.pss_cut (ps_if (pt_not (pt_val (pv 3)))
      (pss_one (ps_expr (pe_bm PySem.F.plainAttrs_list PySem.F.slot_list_append PySem.F.type_list_append mt_append (pv 2) (pa_cons pe_str pa_nil))))
      (pss_one (ps_if (pt_cmpR (opK (K := K) (r := rNeD) rfl (op_neD hr.units)) (pe_lc (own := [("item", 1)]) (g := gName 1) (by rfl) sc_l_due.nd (pi_tupK (K := K) rfl (pe_ix (ix_tupK (K := K) rfl) (pv 0) pe_int (fun _ _ => rfl))) (blkOk_by (own := [("item", 1)]) (N := n_l_due) (sc := defScope s_l_due) (by decide +kernel)) (fun _ _ _ _ _ => pg_name (i := 1) sc_l_due.nd rfl (Or.inl rfl)) (fun _ _ _ _ _ => pts_one (pt_cmpR (opK (K := K) (r := fun K => rIn K false) rfl op_in_seq) (pv 1) (pe_ix (ix_tupK (K := K) rfl) (pv 0) pe_int (fun _ _ => rfl)) (by rfl))) (fun _ _ _ _ _ => (pv 1))) (pe_lst pa_nil) (nomark _))
      (pss_one (ps_expr (pe_bm PySem.F.plainAttrs_list PySem.F.slot_list_append PySem.F.type_list_append mt_append (pv 2) (pa_cons pe_str pa_nil))))
      pss_nil)))
    (pss_cons (ps_setLc (i := 4) (own := [("row", 5)]) (g := gName 5) (by rfl) sc_l_due.nd rfl rfl (sw_true rfl rfl rfl (by decide +kernel)) (pi_tupK (K := K) rfl (pe_ix (ix_tupK (K := K) rfl) (pv 0) pe_int (fun _ _ => rfl))) (blkOk_by (own := [("row", 5)]) (N := n_l_due) (sc := defScope s_l_due) (by decide +kernel)) (fun _ _ _ _ _ => pg_name (i := 5) sc_l_due.nd rfl (Or.inl rfl)) (fun _ _ _ _ _ => pts_one (pt_val (pe_df D_l_good_clause (hr.mono (by decide)) (by rfl) (pa_cons (pv 5) pa_nil)))) (fun _ _ _ _ _ => (pv 5)))
    (Evl.pss_cut (ps_if (pt_cmpR op_lt (pe_callB (call_lenK (K := K) rfl) (by rfl) T.z_len (by decide +kernel) (pa_cons (pv 4) pa_nil)) (pe_callB (call_lenK (K := K) rfl) (by rfl) T.z_len (by decide +kernel) (pa_cons (pe_ix (ix_tupK (K := K) rfl) (pv 0) pe_int (fun _ _ => rfl)) pa_nil)) (nomark _))
      (pss_one (ps_expr (pe_bm PySem.F.plainAttrs_list PySem.F.slot_list_append PySem.F.type_list_append mt_append (pv 2) (pa_cons pe_str pa_nil))))
      (pss_one (ps_for PassesOwn.never rfl (pi_range2 (by rfl) T.z_range (pa_cons pe_int (pa_cons (pe_callB (call_lenK (K := K) rfl) (by rfl) T.z_len (by decide +kernel) (pa_cons (pv 4) pa_nil)) pa_nil))) (pg_name (i := 6) sc_l_due.nd rfl (.inl rfl))
      (pss_one (ps_if (pt_cmpR (opK (K := K) (r := rGeD) rfl (op_geD hr.units)) (pe_lc (own := [("x", 7)]) (g := gName 7) (by rfl) sc_l_due.nd (pi_tupK (K := K) rfl (pe_ix (ix_listK (K := K) rfl) (pv 4) (pe_op op_sub (pv 6) pe_int) (fun _ _ => rfl))) (blkOk_by (own := [("x", 7)]) (N := n_l_due) (sc := defScope s_l_due) (by decide +kernel)) (fun _ _ _ _ _ => pg_name (i := 7) sc_l_due.nd rfl (Or.inl rfl)) (fun _ _ _ _ _ => pts_nil) (fun _ _ _ _ _ => (pe_df D_l_key (hr.mono (by decide)) (by rfl) (pa_cons (pv 7) pa_nil)))) (pe_lc (own := [("x", 7)]) (g := gName 7) (by rfl) sc_l_due.nd (pi_tupK (K := K) rfl (pe_ix (ix_listK (K := K) rfl) (pv 4) (pv 6) (fun _ _ => rfl))) (blkOk_by (own := [("x", 7)]) (N := n_l_due) (sc := defScope s_l_due) (by decide +kernel)) (fun _ _ _ _ _ => pg_name (i := 7) sc_l_due.nd rfl (Or.inl rfl)) (fun _ _ _ _ _ => pts_nil) (fun _ _ _ _ _ => (pe_df D_l_key (hr.mono (by decide)) (by rfl) (pa_cons (pv 7) pa_nil)))) (nomark _))
      (pss_one (ps_expr (pe_bm PySem.F.plainAttrs_list PySem.F.slot_list_append PySem.F.type_list_append mt_append (pv 2) (pa_cons pe_str pa_nil))))
      pss_nil)))))
    (Evl.pss_cut (ps_if (pt_val (pv 3))
      (pss_one (ps_for PassesOwn.never rfl (pi_listK (K := K) rfl (pv 4)) (pg_name (i := 5) sc_l_due.nd rfl (.inl rfl))
      (pss_one (ps_if (pt_cmpR (opK (K := K) (r := rNeD) rfl (op_neD hr.units)) (pe_lc (own := [("x", 7)]) (g := gName 7) (by rfl) sc_l_due.nd (pi_tupK (K := K) rfl (pv 5)) (blkOk_by (own := [("x", 7)]) (N := n_l_due) (sc := defScope s_l_due) (by decide +kernel)) (fun _ _ _ _ _ => pg_name (i := 7) sc_l_due.nd rfl (Or.inl rfl)) (fun _ _ _ _ _ => pts_one (pt_cmpR (opK (K := K) (r := fun K => rIn K true) rfl op_notIn_seq) (pe_callB call_abs (by rfl) T.z_abs (by decide +kernel) (pa_cons (pv 7) pa_nil)) (pe_op (opK (K := K) (r := rCatA) rfl op_catA) (pe_ix (ix_tupK (K := K) rfl) (pv 0) pe_int (fun _ _ => rfl)) (pe_ix (ix_tupK (K := K) rfl) (pv 0) pe_int (fun _ _ => rfl))) (by rfl))) (fun _ _ _ _ _ => (pv 7))) (pe_lst pa_nil) (nomark _))
      (pss_one (ps_expr (pe_bm PySem.F.plainAttrs_list PySem.F.slot_list_append PySem.F.type_list_append mt_append (pv 2) (pa_cons pe_str pa_nil))))
      pss_nil))))
      pss_nil)
    (pss_one (ps_ret (pe_lc (own := [("code", 8)]) (g := gName 8) (by rfl) sc_l_due.nd (pi_listK (K := K) rfl (pe_lst (pa_cons pe_str (pa_cons pe_str (pa_cons pe_str (pa_cons pe_str (pa_cons pe_str pa_nil))))))) (blkOk_by (own := [("code", 8)]) (N := n_l_due) (sc := defScope s_l_due) (by decide +kernel)) (fun _ _ _ _ _ => pg_name (i := 8) sc_l_due.nd rfl (Or.inl rfl)) (fun _ _ _ _ _ => pts_one (pt_cmpR (opK (K := K) (r := fun K => rIn K false) rfl op_in_seq) (pv 8) (pv 2) (by rfl))) (fun _ _ _ _ _ => (pv 8))))))))))))), ?_⟩
    have bad : ∀ H', Kept H H' → (∀ S Hd R, x ≠ .tr S Hd R) → (∀ q, H' q = none → Q (.ref q) (upd H' q (.lst [V.str sF]))) := fun H' k1 e q hq => kf e q _ (k1.trans (Kept.new hq)) upd_same
    cases x with
    | non =>
      obtain rfl : v = .non := hv
      rw [show start n_l_due [(.non : V)] = ([some (.non), none, none, none, none, none, none, none, none] : List (Option V)) from rfl]
      walk_at "rd"
      refine ⟨by show 1 ≤ sizeLine; omega, fun q hq => ?_⟩
      exact bad H (Kept.refl _) (fun _ _ _ e => by cases e) q hq
    | int =>
      obtain rfl : v = .int 7 := hv
      rw [show start n_l_due [(.int 7 : V)] = ([some (.int 7), none, none, none, none, none, none, none, none] : List (Option V)) from rfl]
      walk_at "rd"
      refine ⟨by show 1 ≤ sizeLine; omega, fun q hq => ?_⟩
      exact bad H (Kept.refl _) (fun _ _ _ e => by cases e) q hq
    | tup n =>
      obtain ⟨p, xs, rfl, hp, hl⟩ := hv
      rw [show start n_l_due [(.ref p : V)] = ([some (.ref p), none, none, none, none, none, none, none, none] : List (Option V)) from rfl]
      walk_at "rd"
      refine w_isi_tt hp ?_
      walk_at "rd"
      refine ⟨p, _, rfl, .inr (SqT.of hp), ?_⟩
      walk_at "rd"
      refine if_t ?_ ?_
      · have e : decide (V.int (n : Int) = V.int 3) = false := decide_eq_false fun e => hz.1 (by have := V.int.inj e; omega)
        rw [hl, e] <;> rfl
      walk_at "rd"
      refine ⟨by show 1 ≤ sizeLine; omega, fun q hq => ?_⟩
      exact bad H (Kept.refl _) (fun _ _ _ e => by cases e) q hq
    | stx =>
      obtain ⟨p, z, a, b, xs, ys, rfl, hp, ha, hb⟩ := hv
      rw [show start n_l_due [(.ref p : V)] = ([some (.ref p), none, none, none, none, none, none, none, none] : List (Option V)) from rfl]
      walk_at "rd"
      refine w_isi_tt hp ?_
      walk_at "rd"
      refine ⟨p, _, rfl, .inr (SqT.of hp), ?_⟩
      walk_at "rd"
      refine FrT.mk (xs := [.str z, .ref a, .ref b]) (fun i σ' H' => i = 0 ∧ σ' = [some (.ref p), none, none, none, none, none, none, none, none] ∧ H' = H) ⟨rfl, rfl, rfl⟩ (fun i σ' H' _ h => by
        obtain ⟨_, _, e⟩ := h
        rw [e]
        exact SqT.of hp) ?_ ?_
      · rintro i x σ' H' hx ⟨rfl, rfl, rfl⟩
        obtain rfl := Option.some.inj hx
        walk_at "rd"
        refine ⟨by show 1 ≤ sizeLine; omega, fun q hq => ?_⟩
        exact bad H' (Kept.refl _) (fun _ _ _ e => by cases e) q hq
      · rintro σ' H' ⟨e, _, _⟩
        cases e
    | tr S Hd R =>
      obtain ⟨p, rfl, hF⟩ := hv
      have kt := kt S Hd R rfl
      obtain ⟨ps, ph, pr, vs, hp, hs, hh, hr0, hrow⟩ := hF.ex
      obtain ⟨z1, z2, z3, z4⟩ := hz
      rw [show start n_l_due [(.ref p : V)] = ([some (.ref p), none, none, none, none, none, none, none, none] : List (Option V)) from rfl]
      walk_at "rd"
      refine w_isi_tt hp ?_
      walk_at "rd"
      refine ⟨p, _, rfl, .inr (SqT.of hp), ?_⟩
      walk_at "rd"
      refine FrT.mk (xs := [.ref ps, .ref ph, .ref pr]) (fun i σ' H' => ∃ v1, σ' = [some (.ref p), v1, none, none, none, none, none, none, none] ∧ H' = H) ⟨none, rfl, rfl⟩ (fun i σ' H' _ h => by
        obtain ⟨_, _, e⟩ := h
        rw [e]
        exact SqT.of hp) ?_ ?_
      · rintro i x σ' H' hx ⟨v1, rfl, rfl⟩
        match i, hx with
        | 0, hx =>
          obtain rfl := Option.some.inj hx
          walk_at "rd"
          refine w_isi_tt hs ?_
          walk_at "rd"
          exact ⟨_, rfl, rfl⟩
        | 1, hx =>
          obtain rfl := Option.some.inj hx
          walk_at "rd"
          refine w_isi_tt hh ?_
          walk_at "rd"
          exact ⟨_, rfl, rfl⟩
        | 2, hx =>
          obtain rfl := Option.some.inj hx
          walk_at "rd"
          refine w_isi_tt hr0 ?_
          walk_at "rd"
          exact ⟨_, rfl, rfl⟩
      · rintro σ' H' ⟨v1, rfl, rfl⟩
        walk_at "rd"
        refine ⟨Nat.zero_le _, fun L hL => ?_⟩
        have kL := Kept.new (o := .lst []) hL
        have hL0 : upd H' L (.lst []) L = some (.lst (([] : List Str).map V.str)) := upd_same
        generalize upd H' L (.lst []) = H1 at kL hL0 ⊢
        have app : ∀ (H5 : Hp) (fs : List Str) (z : Str) (N : Hp → Prop), Kept H' H5 → H5 L = some (.lst (fs.map V.str)) → fs.length ≤ 50 → (∀ H6, Kept H' H6 → H6 L = some (.lst ((fs ++ [z]).map V.str)) → (∀ b xs, H5 b = some (.tup xs) → H6 b = some (.tup xs)) → (∀ b, b ≠ L → ∀ xs, H5 b = some (.lst xs) → H6 b = some (.lst xs)) → N H6) → rAppend (.ref L) [.str z] H5 fun _ H6 => N H6 := fun H5 fs z N k5 h5 hl5 kk => by
          refine ⟨_, _, _, rfl, rfl, h5, by rw [List.length_map]; omega, ?_⟩
          exact kk _ (Kept.mut k5 hL) (by rw [List.map_append]; exact upd_same) (fun b xs hb => tup_upd h5 hb) (fun b hb xs h => by rw [upd_ne hb]; exact h)
        have hp1 := kL.tup hp
        have hs1 := kL.tup hs
        have hh1 := kL.tup hh
        have nonar : (R.length : Int) < 2 ^ 62 := by omega
        refine ⟨fun σ' H'' => ∃ v1, σ' = [some (.ref p), v1, some (.ref L), some (.bl (rightF S Hd)), none, none, none, none, none] ∧ Kept H' H'' ∧ H'' L = some (.lst (([] : List Str).map V.str)), ?_, ?_⟩
        · walk_at "rd"
          refine ⟨ps, S, rfl, hs1, by omega, _, rfl, ?_⟩
          have er : ∀ b, varsF S = b → rightF S Hd = (b && varsF Hd) := fun b e => by unfold rightF; rw [e]
          cases hv : varsF S with
          | false =>
            refine if_f rfl ?_
            rw [er _ hv, Bool.false_and]
            exact ⟨_, rfl, kL, hL0⟩
          | true =>
            refine if_t rfl ?_
            walk_at "rd"
            refine ⟨ph, Hd, rfl, hh1, by omega, ?_⟩
            rw [er _ hv, Bool.true_and]
            exact ⟨_, rfl, kL, hL0⟩
        rintro σ' H2 ⟨v1, rfl, k2, hL2⟩
        refine ⟨fun σ' H'' => ∃ v1, σ' = [some (.ref p), v1, some (.ref L), some (.bl (rightF S Hd)), none, none, none, none, none] ∧ Kept H' H'' ∧ ∃ f1 : List Str, H'' L = some (.lst (f1.map V.str)) ∧ f1.length ≤ 1 ∧ ∀ z, z ∈ f1 ↔ (rightF S Hd = false ∧ z = sV) ∨ (rightF S Hd = true ∧ interF S Hd = true ∧ z = sB), ?_, ?_⟩
        · walk_at "rd"
          cases hri : rightF S Hd with
          | false =>
            walk_at "rd"
            exact app H2 [] sV _ k2 hL2 (by decide) fun H6 k6 h6 _ _ => ⟨_, rfl, k6, [sV], h6, by decide, fun z => by simp⟩
          | true =>
            walk_at "rd"
            have hr2 := hri
            unfold rightF at hr2
            rw [Bool.and_eq_true] at hr2
            have es := vars_ints hr2.1
            have eh := vars_ints hr2.2
            have hs9 := k2.tup hs
            have hh9 := k2.tup hh
            have hp9 := k2.tup hp
            rw [es, List.map_map] at hs9
            rw [eh, List.map_map] at hh9
            have zh : (intsA Hd).length ≤ 8 := Nat.le_trans (List.length_filterMap_le _ _) z2
            walk_at "rd"
            refine LcT.ints (ns := intsA Hd) (fun n => decide (n ∈ intsA S)) V.int (by omega) hh9 (fun n H4 kk kk2 hn kp4 g1 g2 => ?_) fun D4 H4 hD4 kp4 hDl4 => ?_
            · have hp4 := kp4.tup hp9
              walk_at "rd"
              refine w_inT (kp4.tup hs9) ?_
              refine ⟨_, rfl, ?_⟩
              cases hb2 : decide (n ∈ intsA S) with
              | true =>
                refine if_t rfl ?_
                walk_at "rd"
                exact g1 H4 (Kept.refl _) hb2
              | false => exact if_f rfl (g2 H4 (Kept.refl _) hb2)
            · walk_at "rd"
              refine ⟨Nat.zero_le _, fun q hq => ?_⟩
              have kq := Kept.new (o := .lst []) hq
              refine w_neLL (xs := (intsA Hd).filter fun n => decide (n ∈ intsA S)) (ys := []) (kq.lst hDl4) upd_same ?_
              have e1 : (!decide ((intsA Hd).filter (fun n => decide (n ∈ intsA S)) = [])) = interF S Hd := by
                unfold interF
                cases e : (intsA Hd).any fun n => decide (n ∈ intsA S) with
                | true =>
                  obtain ⟨x, h1, h2⟩ := List.any_eq_true.mp e
                  have hne : (intsA Hd).filter (fun n => decide (n ∈ intsA S)) ≠ [] := List.ne_nil_of_mem (List.mem_filter.mpr ⟨h1, h2⟩)
                  rw [decide_eq_false hne] <;> rfl
                | false =>
                  have hn : (intsA Hd).filter (fun n => decide (n ∈ intsA S)) = [] := List.filter_eq_nil_iff.mpr fun x hx hy => by
                    rw [List.any_eq_false] at e
                    exact e x hx hy
                  rw [decide_eq_true hn] <;> rfl
              rw [e1]
              have k5 := k2.trans (kp4.trans kq)
              have hL5 := (kp4.trans kq).lst hL2
              refine ⟨_, rfl, ?_⟩
              cases hin : interF S Hd with
              | true =>
                refine if_t rfl ?_
                walk_at "rd"
                exact app _ [] sB _ k5 hL5 (by decide) fun H6 k6 h6 _ _ => ⟨_, rfl, k6, [sB], h6, by decide, fun z => by simp⟩
              | false =>
                refine if_f rfl ?_
                walk_at "rd"
                exact ⟨_, rfl, k5, [], hL5, by decide, fun z => by simp⟩
        rintro σ' H3 ⟨v1, rfl, k3, f1, hL3, hf1l, hf1⟩
        have hp3 := k3.tup hp
        walk_at "rd"
        refine ⟨pr, rfl, ⟨_, SqT.of (k3.tup hr0)⟩, fun D hD => c_tup (xs := vs) (fun i H6 => Kept H3 H6 ∧ ∃ bs : List Addr, H6 D = some (.lst (bs.map V.ref)) ∧ ClsAt H6 bs (clI (R.take i))) ⟨Kept.new hD, [], upd_same, by rw [List.take_zero]; exact ClsAt.nil⟩ (fun i H6 _ h => SqT.of (h.1.tup (k3.tup hr0))) (fun i x H6 hx h => ?_) fun H6 h => ?_⟩
        · obtain ⟨k6, bs, hDb, hbs⟩ := h
          have hi : i < R.length := by rw [← hrow.1]; exact (List.getElem?_eq_some_iff.mp hx).1
          have hRi : R[i]? = some R[i] := List.getElem?_eq_getElem hi
          have et : R.take (i + 1) = R.take i ++ [R[i]] := by rw [List.take_add_one, hRi]; rfl
          have him := ((hrow.kept k3).kept k6).2 i x _ hx hRi
          have hsz := z4 _ (List.getElem_mem hi)
          have hbl : bs.length ≤ i := by rw [hbs.1]; exact Nat.le_trans (clI_len _) (by rw [List.length_take]; omega)
          rw [et, clI_snoc]
          generalize R[i] = m at him hsz ⊢
          refine ⟨rfl, ?_⟩
          walk_at "rd"
          refine ⟨x, m, rfl, him, hsz, _, rfl, ?_⟩
          cases m with
          | a y =>
            refine if_f rfl ⟨k6, bs, hDb, ?_⟩
            show ClsAt H6 bs (clI (R.take i) ++ [])
            rw [List.append_nil]
            exact hbs
          | t ls =>
            obtain ⟨b, rfl, hb⟩ := him
            show if isClauseF ls = true then _ else _
            cases hc : isClauseF ls with
            | true =>
              refine if_t rfl ?_
              have e1 : Im.op (.t ls) = some ls := by show (if isClauseF ls = true then some ls else none) = _; rw [if_pos hc]
              rw [e1]
              walk_at "rd"
              exact ⟨_, hDb, by rw [List.length_map]; omega, Kept.mut k6 hD, bs ++ [b], by rw [List.map_append]; exact upd_same, clsAt_upd (clsAt_snoc hbs hb) hDb⟩
            | false =>
              refine if_f rfl ?_
              have e1 : Im.op (.t ls) = none := by show (if isClauseF ls = true then some ls else none) = _; rw [hc, if_neg Bool.false_ne_true]
              rw [e1]
              refine ⟨k6, bs, hDb, ?_⟩
              show ClsAt H6 bs (clI (R.take i) ++ [])
              rw [List.append_nil]
              exact hbs
        obtain ⟨k6, bs, hDb, hbs⟩ := h
        rw [hrow.1, List.take_length] at hbs
        have k7 := k3.trans k6
        have hL6 := k6.lst hL3
        have neD : D ≠ L := fun e => by
          rw [e, hL3] at hD
          cases hD
        have hcl := clI_len R
        have hcz : ∀ x ∈ clI R, x.length ≤ 5 := fun x hx => by
          obtain ⟨m, hm, hmx⟩ := List.mem_filterMap.mp hx
          cases m with
          | a y => cases hmx
          | t ls =>
            have hmx : (if isClauseF ls = true then some ls else none) = some x := hmx
            by_cases hc : isClauseF ls = true
            · rw [if_pos hc] at hmx
              rw [← Option.some.inj hmx]
              exact (z4 _ hm).ok ls rfl
            · rw [if_neg hc] at hmx
              cases hmx
        have hcl8 : (clI R).length ≤ 8 := by omega
        unfold dueP at kt
        generalize hcs : clI R = cs at *
        have hp6 := k7.tup hp
        refine ⟨fun σ' H'' => ∃ v1 v5 v6 v7, σ' = [some (.ref p), v1, some (.ref L), some (.bl (rightF S Hd)), some (.ref D), v5, v6, v7, none] ∧ Kept H' H'' ∧ H'' D = some (.lst (bs.map V.ref)) ∧ ClsAt H'' bs cs ∧ ∃ f2 : List Str, H'' L = some (.lst (f2.map V.str)) ∧ f2.length ≤ 10 ∧ ∀ z, z ∈ f2 ↔ z ∈ f1 ∨ (cs.length < R.length ∧ z = sC) ∨ (¬ cs.length < R.length ∧ ordF cs = false ∧ z = sO), ?_, ?_⟩
        · walk_at "rd"
          refine ⟨D, bs.map V.ref, rfl, .inl (SqL.of hDb), ?_⟩
          walk_at "rd"
          refine ⟨pr, vs, rfl, .inr (SqT.of (k7.tup hr0)), ?_⟩
          walk_at "rd"
          rw [List.length_map, hbs.1, hrow.1]
          by_cases hlt : cs.length < R.length
          · refine if_t (decide_eq_true (by omega)) ?_
            walk_at "rd"
            exact app H6 f1 sC _ k7 hL6 (by omega) fun H8 k8 h8 ht hl => ⟨_, _, _, _, rfl, k8, hl D neD _ hDb, ⟨hbs.1, fun i b x h1 h2 => ht _ _ (hbs.2 i b x h1 h2)⟩, f1 ++ [sC], h8, by rw [List.length_append]; show f1.length + 1 ≤ 10; omega, fun z => by rw [List.mem_append, List.mem_singleton]; simp [hlt]⟩
          · refine if_f (decide_eq_false (by omega)) ?_
            walk_at "rd"
            refine ⟨D, bs.map V.ref, rfl, .inl (SqL.of hDb), ?_⟩
            walk_at "rd"
            have hbl : (bs.map V.ref).length = cs.length := by rw [List.length_map, hbs.1]
            refine ⟨1, _, rfl, ⟨by decide, by decide, by omega, by omega⟩, ?_⟩
            rw [show (((bs.map V.ref).length : Int) - 1).toNat = cs.length - 1 by omega]
            refine FrJ.range (fun i σ' H'' => ∃ v1 v5 v6 v7, σ' = [some (.ref p), v1, some (.ref L), some (.bl (rightF S Hd)), some (.ref D), v5, v6, v7, none] ∧ Kept H' H'' ∧ H'' D = some (.lst (bs.map V.ref)) ∧ ClsAt H'' bs cs ∧ ∃ c : Nat, H'' L = some (.lst ((f1 ++ List.replicate c sO).map V.str)) ∧ c ≤ i ∧ (c = 0 ↔ ∀ j, j < i → PySem.W.dataLt (ckD (cs.getD j [])) (ckD (cs.getD (j + 1) [])) = true))
              ⟨_, _, _, _, rfl, k7, hDb, hbs, 0, by rw [List.replicate_zero, List.append_nil]; exact hL6, Nat.le_refl _, by simp⟩ ?_ ?_
            · rintro i σ' H7 hi ⟨v1, v5, v6, v7, rfl, k8, hD7, hbs7, c, hL7, hci, hcc⟩
              have get : ∀ j, j < cs.length → ∃ b, (bs.map V.ref)[j]? = some (.ref b) ∧ ∀ H8, Kept H7 H8 → H8 b = some (.tup ((cs.getD j []).map V.int)) := fun j hj => by
                have hbj : bs[j]? = some (bs.getD j 0) := by rw [List.getD_eq_getElem?_getD, List.getElem?_eq_getElem (by rw [hbs.1]; exact hj)] <;> rfl
                have hcj : cs[j]? = some (cs.getD j []) := by rw [List.getD_eq_getElem?_getD, List.getElem?_eq_getElem hj] <;> rfl
                exact ⟨_, by rw [List.getElem?_map, hbj] <;> rfl, fun H8 k9 => k9.tup (hbs7.2 j _ _ hbj hcj)⟩
              have gl : ∀ j, j < cs.length → (cs.getD j []).length ≤ 5 := fun j hj => hcz _ (by rw [List.getD_eq_getElem?_getD, List.getElem?_eq_getElem hj]; exact List.getElem_mem hj)
              obtain ⟨b1, hb1, ht1⟩ := get i (by omega)
              obtain ⟨b2, hb2, ht2⟩ := get (i + 1) (by omega)
              have g1 := gl i (by omega)
              have g2 := gl (i + 1) (by omega)
              have hcc2 : ∀ b : Bool, PySem.W.dataLt (ckD (cs.getD i [])) (ckD (cs.getD (i + 1) [])) = b → ((∀ j, j < i + 1 → PySem.W.dataLt (ckD (cs.getD j [])) (ckD (cs.getD (j + 1) [])) = true) ↔ (c = 0 ∧ b = true)) := fun b hb => by
                rw [hcc]
                constructor
                · intro h
                  exact ⟨fun j hj => h j (by omega), by rw [← hb]; exact h i (by omega)⟩
                · rintro ⟨h1, h2⟩ j hj
                  by_cases e : j = i
                  · rw [e, hb]; exact h2
                  · exact h1 j (by omega)
              generalize cs.getD i [] = c1 at *
              generalize cs.getD (i + 1) [] = c2 at *
              walk_at "rd"
              refine w_ixL hD7 (by rw [show (1 + (i : Int) - 1) = (i : Int) by omega]; exact atI_nat hb1) ?_
              refine LcT.tups (fun j => keyV (c1.getD j 0)) (by rw [List.length_map]; omega) (ht1 H7 (Kept.refl _)) (fun j x H8 k2' hx kp h1 => ?_) fun D8 H8 qs1 hD8 kp8 hDl8 hql1 hqk1 => ?_
              · obtain ⟨n, rfl, hn⟩ := map_int hx
                have e1 : c1.getD j 0 = n := by rw [List.getD_eq_getElem?_getD, hn] <;> rfl
                rw [e1] at h1
                walk_at "rd"
                exact ⟨n, rfl, fun z hz => h1 _ _ (Kept.new hz) upd_same⟩
              have hD8' := kp8.lst hD7
              rw [List.length_map] at hql1
              walk_at "rd"
              refine w_ixL hD8' (by rw [show (1 + (i : Int)) = ((i + 1 : Nat) : Int) by omega]; exact atI_nat hb2) ?_
              refine LcT.tups (fun j => keyV (c2.getD j 0)) (by rw [List.length_map]; omega) (ht2 H8 kp8) (fun j x H9 k2' hx kp h1 => ?_) fun D9 H9 qs2 hD9 kp9 hDl9 hql2 hqk2 => ?_
              · obtain ⟨n, rfl, hn⟩ := map_int hx
                have e1 : c2.getD j 0 = n := by rw [List.getD_eq_getElem?_getD, hn] <;> rfl
                rw [e1] at h1
                walk_at "rd"
                exact ⟨n, rfl, fun z hz => h1 _ _ (Kept.new hz) upd_same⟩
              rw [List.length_map] at hql2
              have gd : ∀ (c : List Int) (i : Nat) (n : Int), c[i]? = some n → c.getD i 0 = n := fun c i n h => by rw [List.getD_eq_getElem?_getD, h] <;> rfl
              refine ⟨_, _, dl_keys (xs := c1) ⟨hql1, fun i q n h1 h2 => by rw [← gd c1 i n h2]; exact kp9.tup (hqk1 i q h1)⟩ (kp9.lst hDl8), dl_keys (xs := c2) ⟨hql2, fun i q n h1 h2 => by rw [← gd c2 i n h2]; exact hqk2 i q h1⟩ hDl9, keysL_alike c1 c2, fun z => (by cases z), keysL_depth c1, ?_⟩
              rw [ck_listL]
              have k10 := k8.trans (kp8.trans kp9)
              have hL9 := (kp8.trans kp9).lst hL7
              have hD9' := (kp8.trans kp9).lst hD7
              have hbs9 := hbs7.kept (kp8.trans kp9)
              refine ⟨_, rfl, ?_⟩
              cases hlt2 : PySem.W.dataLt (ckD c1) (ckD c2) with
              | true =>
                refine if_f rfl ?_
                walk_at "rd"
                exact ⟨_, _, _, _, rfl, k10, hD9', hbs9, c, hL9, by omega, by rw [hcc2 _ hlt2]; simp⟩
              | false =>
                refine if_t rfl ?_
                walk_at "rd"
                refine app H9 _ sO _ k10 hL9 (by rw [List.length_append, List.length_replicate]; omega) fun H10 k11 h11 ht hl => ⟨_, _, _, _, rfl, k11, hl D neD _ hD9', ⟨hbs9.1, fun i b x h1 h2 => ht _ _ (hbs9.2 i b x h1 h2)⟩, c + 1, ?_, by omega, by rw [hcc2 _ hlt2]; simp⟩
                rw [h11, List.append_assoc, List.replicate_succ' (n := c)]
            · rintro σ' H7 ⟨v1, v5, v6, v7, rfl, k8, hD7, hbs7, c, hL7, hci, hcc⟩
              refine ⟨_, _, _, _, rfl, k8, hD7, hbs7, _, hL7, by rw [List.length_append, List.length_replicate]; omega, fun z => ?_⟩
              have eo : ordF cs = decide (c = 0) := by
                rw [Bool.eq_iff_iff, decide_eq_true_eq, hcc]
                unfold ordF ascD
                rw [List.all_eq_true]
                have gd : ∀ j, j < cs.length → (cs.map ckD).getD j .none = ckD (cs.getD j []) := fun j hj => by rw [List.getD_eq_getElem?_getD, List.getElem?_map, List.getElem?_eq_getElem hj, List.getD_eq_getElem?_getD, List.getElem?_eq_getElem hj] <;> rfl
                constructor
                · intro h j hj
                  have q := h j (List.mem_range.mpr (by rw [List.length_map]; exact hj))
                  rw [gd j (by omega), gd (j + 1) (by omega)] at q
                  exact q
                · intro h j hj
                  have hj := List.mem_range.mp hj
                  rw [List.length_map] at hj
                  rw [gd j (by omega), gd (j + 1) (by omega)]
                  exact h j hj
              rw [List.mem_append, mem_rep, eo]
              by_cases e : c = 0 <;> simp [e, hlt]
        rintro σ' H7 ⟨v1, v5, v6, v7, rfl, k8, hD7, hbs7, f2, hL7, hf2l, hf2⟩
        refine ⟨fun σ' H'' => ∃ v1 v5 v6 v7, σ' = [some (.ref p), v1, some (.ref L), some (.bl (rightF S Hd)), some (.ref D), v5, v6, v7, none] ∧ Kept H' H'' ∧ ∃ f3 : List Str, H'' L = some (.lst (f3.map V.str)) ∧ f3.length ≤ 20 ∧ ∀ z, z ∈ f3 ↔ z ∈ f2 ∨ (rightF S Hd = true ∧ unkF cs (intsA S ++ intsA Hd) = true ∧ z = sU), ?_, ?_⟩
        · walk_at "rd"
          cases hri : rightF S Hd with
          | false =>
            walk_at "rd"
            exact ⟨_, _, _, _, rfl, k8, f2, hL7, by omega, fun z => by simp⟩
          | true =>
            walk_at "rd"
            have hr2 := hri
            unfold rightF at hr2
            rw [Bool.and_eq_true] at hr2
            have es := vars_ints hr2.1
            have eh := vars_ints hr2.2
            have zs : (intsA S).length ≤ 8 := Nat.le_trans (List.length_filterMap_le _ _) z1
            have zh : (intsA Hd).length ≤ 8 := Nat.le_trans (List.length_filterMap_le _ _) z2
            have hs' := hs
            have hh' := hh
            rw [es, List.map_map] at hs'
            rw [eh, List.map_map] at hh'
            generalize intsA S = ss at *
            generalize intsA Hd = hhd at *
            have hbl : (bs.map V.ref).length = cs.length := by rw [List.length_map, hbs.1]
            refine FrL.mk (xs := bs.map V.ref) (fun i σ' H'' => ∃ v1 v5 v6 v7, σ' = [some (.ref p), v1, some (.ref L), some (.bl true), some (.ref D), v5, v6, v7, none] ∧ Kept H' H'' ∧ H'' D = some (.lst (bs.map V.ref)) ∧ ClsAt H'' bs cs ∧ ∃ c : Nat, H'' L = some (.lst ((f2 ++ List.replicate c sU).map V.str)) ∧ c ≤ i ∧ (c = 0 ↔ ((cs.take i).any fun c => c.any fun x => decide (absI x ∉ ss ++ hhd)) = false))
              ⟨_, _, _, _, rfl, k8, hD7, hbs7, 0, by rw [List.replicate_zero, List.append_nil]; exact hL7, Nat.le_refl _, by simp⟩ (fun i σ' H'' _ h => by
                obtain ⟨_, _, _, _, _, _, h, _⟩ := h
                exact SqL.of h) ?_ ?_
            · rintro i x σ' H8 hx ⟨v1, v5, v6, v7, rfl, k9, hD8, hbs8, c, hL8, hci, hcc⟩
              obtain ⟨b, rfl, hb⟩ := map_ref hx
              have hi : i < cs.length := by rw [← hbs.1]; exact (List.getElem?_eq_some_iff.mp hb).1
              have hcj : cs[i]? = some cs[i] := List.getElem?_eq_getElem hi
              have hc5 := hcz _ (List.getElem_mem hi)
              have hbt := hbs8.2 i b _ hb hcj
              have et : cs.take (i + 1) = cs.take i ++ [cs[i]] := by rw [List.take_add_one, hcj]; rfl
              have hcc2 : ((cs.take (i + 1)).any fun c => c.any fun x => decide (absI x ∉ ss ++ hhd)) = false ↔ c = 0 ∧ (cs[i].any fun x => decide (absI x ∉ ss ++ hhd)) = false := by
                rw [et, List.any_append, List.any_cons, List.any_nil, Bool.or_false, Bool.or_eq_false_iff, hcc]
              generalize cs[i] = ci at *
              walk_at "rd"
              refine LcT.ints (ns := ci) (fun x => decide (absI x ∉ ss ++ hhd)) V.int (by omega) hbt (fun n H9 kk kk2 hn kp9 g1 g2 => ?_) fun D9 H9 hD9 kp9 hDl9 => ?_
              · have kx := k9.trans kp9
                have hp9 := kx.tup hp
                walk_at "rd"
                refine ⟨n, rfl, ?_⟩
                walk_at "rd"
                refine w_catA (xs := ss) (ys := hhd) (kx.tup hs') (kx.tup hh') (by omega) fun q1 H10 k10 hq1 => ?_
                refine w_ninT hq1 ?_
                refine ⟨_, rfl, ?_⟩
                cases hb2 : decide (absI n ∉ ss ++ hhd) with
                | true =>
                  refine if_t hb2 ?_
                  walk_at "rd"
                  exact g1 H10 k10 hb2
                | false => exact if_f hb2 (g2 H10 k10 hb2)
              · walk_at "rd"
                refine ⟨Nat.zero_le _, fun q hq => ?_⟩
                have kq := Kept.new (o := .lst []) hq
                refine w_neLL (xs := ci.filter fun x => decide (absI x ∉ ss ++ hhd)) (ys := []) (kq.lst hDl9) upd_same ?_
                have e1 : (!decide (ci.filter (fun x => decide (absI x ∉ ss ++ hhd)) = [])) = ci.any fun x => decide (absI x ∉ ss ++ hhd) := by
                  cases e : ci.any fun x => decide (absI x ∉ ss ++ hhd) with
                  | true =>
                    obtain ⟨x, h1, h2⟩ := List.any_eq_true.mp e
                    have hne : ci.filter (fun x => decide (absI x ∉ ss ++ hhd)) ≠ [] := List.ne_nil_of_mem (List.mem_filter.mpr ⟨h1, h2⟩)
                    rw [decide_eq_false hne] <;> rfl
                  | false =>
                    have hn : ci.filter (fun x => decide (absI x ∉ ss ++ hhd)) = [] := List.filter_eq_nil_iff.mpr fun x hx hy => by
                      rw [List.any_eq_false] at e
                      exact e x hx hy
                    rw [decide_eq_true hn] <;> rfl
                rw [e1]
                have kk := kp9.trans kq
                have k10 := k9.trans kk
                have hL10 := kk.lst hL8
                have hD10 := kk.lst hD8
                have hbs10 := hbs8.kept kk
                refine ⟨_, rfl, ?_⟩
                cases hu : ci.any fun x => decide (absI x ∉ ss ++ hhd) with
                | true =>
                  refine if_t rfl ?_
                  walk_at "rd"
                  refine app _ _ sU _ k10 hL10 (by rw [List.length_append, List.length_replicate]; omega) fun H11 k11 h11 ht hl => ⟨_, _, _, _, rfl, k11, hl D neD _ hD10, ⟨hbs10.1, fun i b x h1 h2 => ht _ _ (hbs10.2 i b x h1 h2)⟩, c + 1, ?_, by omega, by rw [hcc2, hu]; simp⟩
                  rw [h11, List.append_assoc, List.replicate_succ' (n := c)]
                | false =>
                  refine if_f rfl ?_
                  walk_at "rd"
                  exact ⟨_, _, _, _, rfl, k10, hD10, hbs10, c, hL10, by omega, by rw [hcc2, hu]; simp⟩
            · rintro σ' H8 ⟨v1, v5, v6, v7, rfl, k9, hD8, hbs8, c, hL8, hci, hcc⟩
              rw [hbl, List.take_length] at hcc
              rw [hbl] at hci
              refine ⟨_, _, _, _, rfl, k9, _, hL8, by rw [List.length_append, List.length_replicate]; omega, fun z => ?_⟩
              have eu : unkF cs (ss ++ hhd) = !decide (c = 0) := by
                unfold unkF
                cases e : cs.any fun c => c.any fun x => decide (absI x ∉ ss ++ hhd) with
                | true =>
                  rw [e] at hcc
                  rw [decide_eq_false (fun h => by have := hcc.mp h; cases this)] <;> rfl
                | false => rw [decide_eq_true (hcc.mpr e)] <;> rfl
              rw [List.mem_append, mem_rep, eu]
              by_cases e : c = 0 <;> simp [e]
        rintro σ' H8 ⟨v1, v5, v6, v7, rfl, k9, f3, hL8, hf3l, hf3⟩
        walk_at "rd"
        refine ⟨by show 5 ≤ sizeLine; omega, fun C hC => ?_⟩
        have kC := Kept.new (o := .lst [V.str sB, V.str sC, V.str sO, V.str sU, V.str sV]) hC
        refine LcL.run (xs := codes.map V.str) (fun i => decide (codes.getD i sB ∈ f3)) (fun i => V.str (codes.getD i sB)) (by decide) upd_same (fun i x H9 kk kk2 hx kp h1 h2 => ?_) fun D9 H9 hD9 kp9 hDl9 => ?_
        · rw [List.getElem?_map] at hx
          obtain ⟨z, hz, rfl⟩ := Option.map_eq_some_iff.mp hx
          have e1 : codes.getD i sB = z := by rw [List.getD_eq_getElem?_getD, hz] <;> rfl
          rw [e1] at h1 h2
          walk_at "rd"
          refine w_inS (kp.lst (kC.lst hL8)) ?_
          refine ⟨_, rfl, ?_⟩
          cases hb2 : decide (z ∈ f3) with
          | true =>
            refine if_t rfl ?_
            walk_at "rd"
            exact h1 H9 (Kept.refl _) hb2
          | false => exact if_f rfl (h2 H9 (Kept.refl _) hb2)
        · refine kt D9 H9 f3 (k9.trans (kC.trans kp9)) ?_ fun z => ?_
          · rw [hDl9, List.length_map]
            exact congrArg (fun z => some (HO.lst z)) (range_filter sB (fun z => decide (z ∈ f3)) V.str codes)
          · rw [hf3, hf2, hf1]
            constructor
            · rintro (((h | h) | h | h) | h)
              · exact .inl h
              · exact .inr (.inl h)
              · exact .inr (.inr (.inl h))
              · exact .inr (.inr (.inr (.inl h)))
              · exact .inr (.inr (.inr (.inr h)))
            · rintro (h | h | h | h | h)
              · exact .inl (.inl (.inl h))
              · exact .inl (.inl (.inr h))
              · exact .inl (.inr (.inl h))
              · exact .inl (.inr (.inr h))
              · exact .inr h
end
end Ky

namespace Ky
open PySem PySem.Spec PyProof.Rows L2
local macro_rules | `(tactic| walk_at "rd") => `(tactic| repeat (first
  | with_reducible refine w_for1 ?_
  | with_reducible refine w_for2 ?_
  | with_reducible refine w_forL ?_
  | with_reducible refine w_forT ?_
  | with_reducible refine w_lc1 ?_
  | with_reducible refine w_lcL ?_
  | with_reducible refine w_lcT ?_
  | with_reducible refine w_seq ?_
  | with_reducible refine w_asg ?_
  | with_reducible refine w_ret ?_
  | with_reducible refine w_drop ?_
  | with_reducible refine w_ifs ?_
  | ((with_reducible refine' w_var ?hh ?_); (case hh => exact rfl))
  | with_reducible refine w_c ?_
  | with_reducible refine w_op ?_
  | with_reducible refine w_un ?_
  | with_reducible refine w_I0 ?_
  | with_reducible refine w_U ?_
  | with_reducible refine w_nil ?_
  | with_reducible refine w_cons ?_
  | with_reducible refine w_call ?_
  | with_reducible refine w_cb ?_
  | with_reducible refine w_test ?_
  | with_reducible refine w_B ?_
  | with_reducible refine w_bl ?_
  | with_reducible refine w_and ?_
  | with_reducible refine w_or ?_
  | with_reducible refine w_not ?_
  | with_reducible refine w_ife ?_
  | with_reducible refine w_gRd ?_
  | with_reducible refine w_andV ?_
  | with_reducible refine w_orV ?_
  | with_reducible refine w_notV ?_
  | with_reducible refine w_chain ?_
  | with_reducible refine w_din ?_
  | with_reducible refine w_isi_ii ?_
  | with_reducible refine w_isi_bi ?_
  | with_reducible refine w_isi_bb ?_
  | with_reducible refine w_isi_bt ?_
  | with_reducible refine w_isi_si ?_
  | with_reducible refine w_isi_nt ?_
  | with_reducible refine w_isi_ib ?_
  | with_reducible refine w_isi_it ?_
  | with_reducible refine w_isi_st ?_
  | ((with_reducible refine w_isi_tt ?h1 ?_); (case h1 => first | assumption | exact upd_same))
  | with_reducible refine if_t rfl ?_
  | with_reducible refine if_f rfl ?_
  | with_reducible refine w_tup ?_
  | with_reducible refine w_lst ?_
  | with_reducible refine w_next ?_
  | with_reducible refine w_bm ?_
  | with_reducible refine w_sl ?_
  | with_reducible refine w_part ?_
  | with_reducible refine w_nop ?_
  | with_reducible refine w_isI ?_
  | with_reducible refine w_yes ?_
  | with_reducible refine w_gn ?_
  | with_reducible refine w_gsub ?_
  | ((with_reducible refine' w_setL ?h1 ?h2 ?_); (case h1 => first | assumption | exact upd_same); (case h2 => exact rfl))
  | with_reducible refine w_asgG ?_
  | with_reducible refine w_m1 ?_
  | with_reducible refine w_isS ?_
  | with_reducible refine w_tyS ?_
  | ((with_reducible refine' w_tyL ?h1 ?_); (case h1 => first | assumption | exact upd_same))
  | ((with_reducible refine' w_ixT ?h1 ?h2 ?_); (case h1 => first | assumption | exact upd_same); (case h2 => exact rfl))
  | ((with_reducible refine' w_ixL ?h1 ?h2 ?_); (case h1 => first | assumption | exact upd_same); (case h2 => exact rfl))
  | ((with_reducible refine w_eq ?h1 ?_); (case h1 => exact rfl))
  | ((with_reducible refine w_ne ?h1 ?_); (case h1 => exact rfl))
  | dsimp only [List.set_cons_zero, List.set_cons_succ, List.append_nil, List.cons_append, List.nil_append, cxOf]))

/-! ### a formula bent -/
theorem RowAt.app {H : Hp} {vs us : List V} {R R2 : List Im} (h : RowAt H vs R) (h2 : RowAt H us R2) : RowAt H (vs ++ us) (R ++ R2) := by
  refine ⟨by rw [List.length_append, List.length_append, h.1, h2.1], fun i v m hv hm => ?_⟩
  by_cases hi : i < vs.length
  · rw [List.getElem?_append_left hi] at hv
    rw [List.getElem?_append_left (by rw [← h.1]; exact hi)] at hm
    exact h.2 i v m hv hm
  · rw [List.getElem?_append_right (by omega)] at hv
    rw [List.getElem?_append_right (by rw [← h.1]; omega), ← h.1] at hm
    exact h2.2 _ v m hv hm
theorem RowAt.take {H : Hp} {vs : List V} {R : List Im} (h : RowAt H vs R) (n : Nat) : RowAt H (vs.take n) (R.take n) := by
  refine ⟨by rw [List.length_take, List.length_take, h.1], fun i v m hv hm => ?_⟩
  rw [List.getElem?_take] at hv hm
  split at hv
  · rename_i hi
    rw [if_pos hi] at hm
    exact h.2 i v m hv hm
  · cases hv
theorem RowAt.one {H : Hp} {v : V} {m : Im} (h : ImAt H v m) : RowAt H [v] [m] := by
  refine ⟨rfl, fun i u n hu hn => ?_⟩
  cases i with
  | zero =>
    cases hu
    cases hn
    exact h
  | succ i => cases hu
theorem RowAt.rev {H : Hp} {vs : List V} {R : List Im} (h : RowAt H vs R) : RowAt H ((List.range vs.length).map fun j => vs.getD (vs.length - 1 - j) .non) R.reverse := by
  refine ⟨by rw [List.length_map, List.length_range, List.length_reverse, h.1], fun i v m hv hm => ?_⟩
  have hi : i < vs.length := by
    have := (List.getElem?_eq_some_iff.mp hv).1
    rw [List.length_map, List.length_range] at this
    exact this
  rw [List.getElem?_map, List.getElem?_range hi] at hv
  have hv : vs.getD (vs.length - 1 - i) .non = v := Option.some.inj hv
  rw [List.getElem?_reverse (by rw [← h.1]; exact hi), ← h.1] at hm
  refine h.2 (vs.length - 1 - i) v m ?_ hm
  rw [← hv, List.getD_eq_getElem?_getD, List.getElem?_eq_getElem (by omega)] <;> rfl
theorem pick_any {xs : List V} {r : Int} (h0 : 0 ≤ r) (h1 : r < (xs.length : Int)) : ∃ v ∈ xs, atI xs r = some v := by
  obtain ⟨j, rfl⟩ : ∃ j : Nat, r = (j : Int) := ⟨r.toNat, by omega⟩
  have hj : j < xs.length := by omega
  exact ⟨xs[j], List.getElem_mem hj, atI_nat (List.getElem?_eq_getElem hj)⟩
def MoreW (m : Im) : V → Hp → Prop := fun v H => ∃ p x, v = .ref p ∧ H p = some (.tup [x]) ∧ ImAt H x m
theorem moreW_up {m : Im} : ∀ v H H', Kept H H' → MoreW m v H → MoreW m v H' := fun v H H' k h => by
  obtain ⟨p, x, e, h1, h2⟩ := h
  exact ⟨p, x, e, k.tup h1, h2.kept k⟩
section
variable {σ : L2.St} {H0 : Hp} {te : TE} {tq : TA}
theorem mk_moreT {ls : List Int} (h : MkE σ H0 te (TupW (ls.map V.int))) : MkE σ H0 (tTup (tCons te tNil)) (MoreW (.t ls)) :=
  (mk_tup (mk_cons h mk_nil) fun vs H w => by
    obtain ⟨v, r, e, _, e2⟩ := w
    rw [e, e2]
    exact (by decide : 1 ≤ 1000)).weak (fun v H q => by
    obtain ⟨p, xs, e, a, u, r, e1, ⟨b, e2, hb⟩, e3⟩ := q
    rw [e1, e3] at a
    exact ⟨p, u, e, a, b, e2, hb⟩) moreW_up
theorem mk_moreA {x : At} (h : MkE σ H0 te (fun v _ => v = x.v)) : MkE σ H0 (tTup (tCons te tNil)) (MoreW (.a x)) :=
  (mk_tup (mk_cons h mk_nil) fun vs H w => by
    obtain ⟨v, r, e, _, e2⟩ := w
    rw [e, e2]
    exact (by decide : 1 ≤ 1000)).weak (fun v H q => by
    obtain ⟨p, xs, e, a, u, r, e1, e2, e3⟩ := q
    rw [e1, e3] at a
    exact ⟨p, u, e, a, e2⟩) moreW_up
theorem mk_t0 : MkE σ H0 (tTup tNil) (TupW ([] : List V)) := mk_tupW mk_nil (fun vs H e => e) (by decide)
theorem mk_t1 {a : V} {ta : TE} (h : MkE σ H0 ta (fun v _ => v = a)) : MkE σ H0 (tTup (tCons ta tNil)) (TupW [a]) := mk_tupW (mk_cons h mk_nil) (fun vs H q => by
  obtain ⟨v, r, e, e1, e2⟩ := q
  rw [e, e1, e2]) (by show 1 ≤ 1000; decide)
theorem mk_t2 {a b : V} {ta tb : TE} (h : MkE σ H0 ta (fun v _ => v = a)) (h2 : MkE σ H0 tb (fun v _ => v = b)) : MkE σ H0 (tTup (tCons ta (tCons tb tNil))) (TupW [a, b]) := mk_tupW (mk_cons h (mk_cons h2 mk_nil)) (fun vs H q => by
  obtain ⟨v, r, e, e1, v2, r2, e3, e4, e5⟩ := q
  rw [e, e1, e3, e4, e5]) (by show 2 ≤ 1000; decide)
theorem mk_t3 {a b c : V} {ta tb tc : TE} (h : MkE σ H0 ta (fun v _ => v = a)) (h2 : MkE σ H0 tb (fun v _ => v = b)) (h3 : MkE σ H0 tc (fun v _ => v = c)) : MkE σ H0 (tTup (tCons ta (tCons tb (tCons tc tNil)))) (TupW [a, b, c]) := mk_tupW (mk_cons h (mk_cons h2 (mk_cons h3 mk_nil))) (fun vs H q => by
  obtain ⟨v, r, e, e1, v2, r2, e3, e4, v3, r3, e5, e6, e7⟩ := q
  rw [e, e1, e3, e4, e5, e6, e7]) (by show 3 ≤ 1000; decide)
end
def spBent : Sp := fun vs H Q _ => ∃ (d c p : Addr) (S Hd : List At) (R : List Im) (k : Nat), vs = [.ref d, .ref p] ∧ DrwC d c H ∧ TrAt H p S Hd R ∧ SzV k (.tr S Hd R) ∧ k ≤ 7 ∧
  ∀ v H' x, KeptC d c H H' → ValAt H' v x → SzV (k + 1) x → Q v H'
section
variable {P : Program} {w : World} {K : PySem.W.Frag} {mg : Str → Option Value} {base : Heap} {uG : Value} {f : Addr} {fd : FuncData}
theorem ok_l_bent (F : Fun K "_law_bent" "_law_bent" s_l_bent f fd) (T : Tx K mg uG) (D_l_take : Df P w K mg base 1 "_law_take" ["draw", "many"] spTakeC) : FnOk P w K mg base CX0 2 f fd ["draw", "formula"] spBent := by
  refine F.ok sc_l_bent (fun vs H Q E h => ?_) (fun cdv A outer s H vs Q E hr h => ?_)
  · obtain ⟨d, c, p, S, Hd, R, k, rfl, _⟩ := h
    rfl
  · obtain ⟨d, c, p, S, Hd, R, k, rfl, hD, hF, ⟨z1, z2, z3, z4⟩, hk7, kk⟩ := h
    have hsl : 1001 ≤ sizeLine := by decide
    obtain ⟨ps, ph, pr, vs, hp, hs, hh, hr0, hrow⟩ := hF.ex
    refine ⟨_, (pss_cons (ps_asg (pv 1) (pg_tupK (K := K) rfl (by rfl) (pgs_cons (pg_name (i := 2) sc_l_bent.nd rfl (.inl rfl)) (pgs_cons (pg_name (i := 3) sc_l_bent.nd rfl (.inl rfl)) (pgs_cons (pg_name (i := 4) sc_l_bent.nd rfl (.inr rfl)) pgs_nil)))))
    (pss_cons (ps_set (i := 5) sc_l_bent.nd rfl (.inl rfl) (pe_df D_l_take (hr.mono (by decide)) (by rfl) (pa_cons (pv 0) (pa_cons pe_int pa_nil))))
    (Evl.pss_cut (ps_if (pt_cmpR op_eq (pv 5) pe_int (nomark _))
      (pss_one (ps_set (i := 2) sc_l_bent.nd rfl (.inl rfl) (pe_ix (ix_listK (K := K) rfl) (pe_lst (pa_cons (pe_op (opK (K := K) (r := rCatA) rfl op_catA) (pv 2) (pe_slice (sl_tupAK (K := K) rfl) (pe_op (opK (K := K) (r := rCatA) rfl op_catA) (pv 2) (pe_tup (pa_cons pe_int pa_nil))) po_none (po_some pe_int))) (pa_cons (pe_op (opK (K := K) (r := rCatA) rfl op_catA) (pe_tup (pa_cons pe_int pa_nil)) (pv 2)) (pa_cons (pe_op (opK (K := K) (r := rCatA) rfl op_catA) (pv 2) (pe_tup (pa_cons pe_int pa_nil))) (pa_cons (pe_op (opK (K := K) (r := rCatA) rfl op_catA) (pe_tup (pa_cons pe_bl pa_nil)) (pv 2)) (pa_cons (pe_slice (sl_tupAK (K := K) rfl) (pv 2) (po_some pe_int) po_none) pa_nil)))))) (pe_df D_l_take (hr.mono (by decide)) (by rfl) (pa_cons (pv 0) (pa_cons pe_int pa_nil))) (fun _ _ => rfl))))
      (pss_one (ps_if (pt_cmpR op_eq (pv 5) pe_int (nomark _))
      (pss_one (ps_set (i := 3) sc_l_bent.nd rfl (.inl rfl) (pe_ix (ix_listK (K := K) rfl) (pe_lst (pa_cons (pe_op (opK (K := K) (r := rCatA) rfl op_catA) (pv 3) (pe_slice (sl_tupAK (K := K) rfl) (pe_op (opK (K := K) (r := rCatA) rfl op_catA) (pv 2) (pe_tup (pa_cons pe_int pa_nil))) po_none (po_some pe_int))) (pa_cons (pe_op (opK (K := K) (r := rCatA) rfl op_catA) (pv 3) (pe_slice (sl_tupAK (K := K) rfl) (pv 3) po_none (po_some pe_int))) (pa_cons (pe_tup (pa_cons pe_str pa_nil)) (pa_cons (pe_op (opK (K := K) (r := rCatA) rfl op_catA) (pv 3) (pe_tup (pa_cons pe_int pa_nil))) pa_nil))))) (pe_df D_l_take (hr.mono (by decide)) (by rfl) (pa_cons (pv 0) (pa_cons pe_int pa_nil))) (fun _ _ => rfl))))
      (pss_one (ps_if (pt_cmpR op_lt (pv 5) pe_int (nomark _))
      (pss_cons (ps_set (i := 6) sc_l_bent.nd rfl (.inl rfl) (pe_ix (ix_listK (K := K) rfl) (pe_lst (pa_cons (pe_tup (pa_cons (pe_tup (pa_cons pe_int (pa_cons pe_int pa_nil))) pa_nil)) (pa_cons (pe_tup (pa_cons (pe_tup (pa_cons (pe_un un_neg pe_int) (pa_cons pe_int pa_nil))) pa_nil)) (pa_cons (pe_tup (pa_cons (pe_tup (pa_cons pe_int pa_nil)) pa_nil)) (pa_cons (pe_tup (pa_cons pe_str pa_nil)) (pa_cons (pe_tup (pa_cons pe_int pa_nil)) (pa_cons (pe_tup (pa_cons (pe_tup (pa_cons pe_int pa_nil)) pa_nil)) (pa_cons (pe_tup (pa_cons (pe_tup pa_nil) pa_nil)) (pa_cons (pe_tup (pa_cons (pe_tup (pa_cons pe_int pa_nil)) pa_nil)) pa_nil))))))))) (pe_df D_l_take (hr.mono (by decide)) (by rfl) (pa_cons (pv 0) (pa_cons pe_int pa_nil))) (fun _ _ => rfl)))
    (pss_one (ps_set (i := 4) sc_l_bent.nd rfl (.inr rfl) (pe_ifExp (pt_cmpR op_eq (pe_df D_l_take (hr.mono (by decide)) (by rfl) (pa_cons (pv 0) (pa_cons pe_int pa_nil))) pe_int (nomark _)) (pe_op (opK (K := K) (r := rCatA) rfl op_catA) (pv 4) (pv 6)) (pe_op (opK (K := K) (r := rCatA) rfl op_catA) (pv 6) (pv 4))))))
      (pss_one (ps_if (pt_cmpR op_eq (pv 5) pe_int (nomark _))
      (pss_one (ps_set (i := 4) sc_l_bent.nd rfl (.inr rfl) (pe_callTy call_tuple_of (by rfl) T.z_tuple (by decide +kernel) (pa_cons (pe_lc (own := [("j", 7)]) (g := gName 7) (by rfl) sc_l_bent.nd (pi_range1 (by rfl) T.z_range (pa_cons (pe_callB (call_lenK (K := K) rfl) (by rfl) T.z_len (by decide +kernel) (pa_cons (pv 4) pa_nil)) pa_nil)) (blkOk_by (own := [("j", 7)]) (N := n_l_bent) (sc := defScope s_l_bent) (by decide +kernel)) (fun _ _ _ _ _ => pg_name (i := 7) sc_l_bent.nd rfl (Or.inl rfl)) (fun _ _ _ _ _ => pts_nil) (fun _ _ _ _ _ => (pe_ix (ix_tupK (K := K) rfl) (pv 4) (pe_op op_sub (pe_op op_sub (pe_callB (call_lenK (K := K) rfl) (by rfl) T.z_len (by decide +kernel) (pa_cons (pv 4) pa_nil)) pe_int) (pv 7)) (fun _ _ => rfl)))) pa_nil))))
      (pss_one (ps_if (pt_cmpR op_eq (pv 5) pe_int (nomark _))
      (pss_one (ps_set (i := 4) sc_l_bent.nd rfl (.inr rfl) (pe_op (opK (K := K) (r := rCatA) rfl op_catA) (pv 4) (pe_slice (sl_tupAK (K := K) rfl) (pv 4) po_none (po_some pe_int)))))
      (pss_one (ps_if (pt_cmpR op_eq (pv 5) pe_int (nomark _))
      (pss_one (ps_ret (pe_ix (ix_listK (K := K) rfl) (pe_lst (pa_cons (pe_tup (pa_cons (pv 2) (pa_cons (pv 3) pa_nil))) (pa_cons (pe_tup (pa_cons (pv 2) (pa_cons (pv 3) (pa_cons (pv 4) (pa_cons (pe_tup pa_nil) pa_nil))))) (pa_cons (pe_tup (pa_cons pe_str (pa_cons (pv 3) (pa_cons (pv 4) pa_nil)))) (pa_cons pe_non (pa_cons pe_int pa_nil)))))) (pe_df D_l_take (hr.mono (by decide)) (by rfl) (pa_cons (pv 0) (pa_cons pe_int pa_nil))) (fun _ _ => rfl))))
      pss_nil)))))))))))
    (pss_one (ps_ret (pe_tup (pa_cons (pv 2) (pa_cons (pv 3) (pa_cons (pv 4) pa_nil))))))))), ?_⟩
    rw [show start n_l_bent [(.ref d : V), (.ref p : V)] = ([some (.ref d), some (.ref p), none, none, none, none, none, none] : List (Option V)) from rfl]
    walk_at "rd"
    refine w_gTup3 hp ?_
    walk_at "rd"
    refine ⟨d, c, 9, rfl, by decide, by decide, hD, fun r1 H1 l1 g1 k1 => ?_⟩
    have hD1 := k1.drw hD
    have hs1 := k1.tup hD hs
    have hh1 := k1.tup hD hh
    have hr1 := k1.tup hD hr0
    have hrow1 := hrow.keptC k1 hD
    have hvl : vs.length ≤ 7 := by rw [hrow.1]; omega
    walk_at "rd"
    refine ⟨fun σ' H' => ∃ (s' h' r' : Addr) (S' Hd' : List At) (R' : List Im) (vs' : List V) (v6 v7 : Option V), σ' = [some (.ref d), some (.ref p), some (.ref s'), some (.ref h'), some (.ref r'), some (.int r1), v6, v7] ∧ KeptC d c H H' ∧ H' s' = some (.tup (S'.map At.v)) ∧ H' h' = some (.tup (Hd'.map At.v)) ∧ H' r' = some (.tup vs') ∧ RowAt H' vs' R' ∧ SzV (k + 1) (.tr S' Hd' R'), ?_, ?_⟩
    · walk_at "rd"
      refine ite2 (fun _ => ?_) (fun _ => ?_)
      · -- shown
        have mS : MkE [some (.ref d), some (.ref p), some (.ref ps), some (.ref ph), some (.ref pr), some (.int r1), none, none] H1 (tVar 2) (TupW (S.map At.v)) := mk_varT rfl hs1
        have hSl : (S.map At.v).length ≤ 7 := by rw [List.length_map]; omega
        have mA := (mk_cons (mk_catW (K := K) mS (mk_to1 (K := K) (mk_catW (K := K) mS (mk_t1 (mk_c (v := .int 1))) (by show (S.map At.v).length + 1 ≤ 1000; omega))) (by rw [List.length_take]; omega)) (mk_cons (mk_catW (K := K) (mk_t1 (mk_c (v := .int 0))) mS (by show 1 + (S.map At.v).length ≤ 1000; omega)) (mk_cons (mk_catW (K := K) mS (mk_t1 (mk_c (v := .int 1000))) (by show (S.map At.v).length + 1 ≤ 1000; omega)) (mk_cons (mk_catW (K := K) (mk_t1 (mk_c (v := .bl true))) mS (by show 1 + (S.map At.v).length ≤ 1000; omega)) (mk_cons (mk_of1 (K := K) mS) mk_nil)))))
        refine w_asg ?_
        refine w_op ?_
        refine w_lst ?_
        refine mA.run H1 _ (Kept.refl _) fun xs H2 k2 w => ?_
        obtain ⟨v1, _, rfl, w1, v2, _, rfl, w2, v3, _, rfl, w3, v4, _, rfl, w4, v5, _, rfl, w5, rfl⟩ := w
        refine ⟨by show 5 ≤ sizeLine; omega, fun q hq => ?_⟩
        have kq := Kept.new (o := .lst [v1, v2, v3, v4, v5]) hq
        have k3 := k2.trans kq
        have hD2 := k3.toC.drw (d := d) (c := c) hD1
        have nq := (k2.toC.drw (d := d) (c := c) hD1).old hq
        walk_at "rd"
        refine ⟨d, c, 5, rfl, by decide, by decide, hD2, fun r2 H3 l2 g2 k4 => ?_⟩
        obtain ⟨v, hv, ev⟩ := pick_any (xs := [v1, v2, v3, v4, v5]) l2 g2
        have hall : ∀ v ∈ [v1, v2, v3, v4, v5], ∃ S' : List At, S'.length ≤ k + 1 ∧ TupW (S'.map At.v) v H2 := by
          intro v hv
          simp only [List.mem_cons, List.not_mem_nil, or_false] at hv
          rcases hv with rfl | rfl | rfl | rfl | rfl
          · exact ⟨S ++ (S ++ [At.i 1]).take 1, by rw [List.length_append, List.length_take]; omega, by rw [List.map_append, List.map_take, List.map_append]; exact w1⟩
          · exact ⟨[At.i 0] ++ S, by rw [List.length_append]; show 1 + S.length ≤ k + 1; omega, by rw [List.map_append]; exact w2⟩
          · exact ⟨S ++ [At.i 1000], by rw [List.length_append]; show S.length + 1 ≤ k + 1; omega, by rw [List.map_append]; exact w3⟩
          · exact ⟨[At.b true] ++ S, by rw [List.length_append]; show 1 + S.length ≤ k + 1; omega, by rw [List.map_append]; exact w4⟩
          · exact ⟨S.drop 1, by rw [List.length_drop]; omega, by rw [List.map_drop]; exact w5⟩
        obtain ⟨S', hSl', s', rfl, hs'⟩ := hall v hv
        have k5 := k3.toC (d := d) (c := c) |>.trans k4
        refine w_ixL (k4.lst nq.1 upd_same) ev ?_
        walk_at "rd"
        exact ⟨s', ph, pr, S', Hd, R, vs, _, _, rfl, k1.trans k5, k4.tup hD2 (kq.tup hs'), k5.tup hD1 hh1, k5.tup hD1 hr1, hrow1.keptC k5 hD1, hSl', by omega, by omega, z4⟩
      walk_at "rd"
      have mS : MkE [some (.ref d), some (.ref p), some (.ref ps), some (.ref ph), some (.ref pr), some (.int r1), none, none] H1 (tVar 2) (TupW (S.map At.v)) := mk_varT rfl hs1
      have mH : MkE [some (.ref d), some (.ref p), some (.ref ps), some (.ref ph), some (.ref pr), some (.int r1), none, none] H1 (tVar 3) (TupW (Hd.map At.v)) := mk_varT rfl hh1
      have mR : MkE [some (.ref d), some (.ref p), some (.ref ps), some (.ref ph), some (.ref pr), some (.int r1), none, none] H1 (tVar 4) (TupW vs) := mk_varT rfl hr1
      have hSl : (S.map At.v).length ≤ 7 := by rw [List.length_map]; omega
      have hHl : (Hd.map At.v).length ≤ 7 := by rw [List.length_map]; omega
      refine ite2 (fun _ => ?_) (fun _ => ?_)
      · -- hidden
        have mA := mk_cons (mk_catW (K := K) mH (mk_to1 (K := K) (mk_catW (K := K) mS (mk_t1 (mk_c (v := .int 4))) (by show (S.map At.v).length + 1 ≤ 1000; omega))) (by rw [List.length_take]; omega)) (mk_cons (mk_catW (K := K) mH (mk_to1 (K := K) mH) (by rw [List.length_take]; omega)) (mk_cons (mk_t1 (mk_c (v := .str (Str.ofString "a")))) (mk_cons (mk_catW (K := K) mH (mk_t1 (mk_c (v := .int 999))) (by show (Hd.map At.v).length + 1 ≤ 1000; omega)) mk_nil)))
        refine w_asg ?_
        refine w_op ?_
        refine w_lst ?_
        refine mA.run H1 _ (Kept.refl _) fun xs H2 k2 w => ?_
        obtain ⟨v1, _, rfl, w1, v2, _, rfl, w2, v3, _, rfl, w3, v4, _, rfl, w4, rfl⟩ := w
        refine ⟨by show 4 ≤ sizeLine; omega, fun q hq => ?_⟩
        have kq := Kept.new (o := .lst [v1, v2, v3, v4]) hq
        have k3 := k2.trans kq
        have hD2 := k3.toC.drw (d := d) (c := c) hD1
        have nq := (k2.toC.drw (d := d) (c := c) hD1).old hq
        walk_at "rd"
        refine ⟨d, c, 4, rfl, by decide, by decide, hD2, fun r2 H3 l2 g2 k4 => ?_⟩
        obtain ⟨v, hv, ev⟩ := pick_any (xs := [v1, v2, v3, v4]) l2 g2
        have hall : ∀ v ∈ [v1, v2, v3, v4], ∃ S' : List At, S'.length ≤ k + 1 ∧ TupW (S'.map At.v) v H2 := by
          intro v hv
          simp only [List.mem_cons, List.not_mem_nil, or_false] at hv
          rcases hv with rfl | rfl | rfl | rfl
          · exact ⟨Hd ++ (S ++ [At.i 4]).take 1, by rw [List.length_append, List.length_take]; omega, by rw [List.map_append, List.map_take, List.map_append]; exact w1⟩
          · exact ⟨Hd ++ Hd.take 1, by rw [List.length_append, List.length_take]; omega, by rw [List.map_append, List.map_take]; exact w2⟩
          · exact ⟨[At.s (Str.ofString "a")], by show 1 ≤ k + 1; omega, w3⟩
          · exact ⟨Hd ++ [At.i 999], by rw [List.length_append]; show Hd.length + 1 ≤ k + 1; omega, by rw [List.map_append]; exact w4⟩
        obtain ⟨S', hSl', s', rfl, hs'⟩ := hall v hv
        have k5 := k3.toC (d := d) (c := c) |>.trans k4
        refine w_ixL (k4.lst nq.1 upd_same) ev ?_
        walk_at "rd"
        exact ⟨ps, s', pr, S, S', R, vs, _, _, rfl, k1.trans k5, k5.tup hD1 hs1, k4.tup hD2 (kq.tup hs'), k5.tup hD1 hr1, hrow1.keptC k5 hD1, by omega, hSl', by omega, z4⟩
      walk_at "rd"
      refine ite2 (fun _ => ?_) (fun _ => ?_)
      · -- more
        have mA := mk_cons (mk_moreT (σ := [some (.ref d), some (.ref p), some (.ref ps), some (.ref ph), some (.ref pr), some (.int r1), none, none]) (H0 := H1) (ls := [1, 1]) (mk_t2 (mk_c (v := .int 1)) (mk_c (v := .int 1)))) (mk_cons (mk_moreT (ls := [-3, 2]) (mk_t2 (mk_neg (mk_c (v := .int 3))) (mk_c (v := .int 2)))) (mk_cons (mk_moreT (ls := [0]) (mk_t1 (mk_c (v := .int 0)))) (mk_cons (mk_moreA (x := .s (Str.ofString "1")) (mk_c (v := .str (Str.ofString "1")))) (mk_cons (mk_moreA (x := .i 5) (mk_c (v := .int 5))) (mk_cons (mk_moreT (ls := [998]) (mk_t1 (mk_c (v := .int 998)))) (mk_cons (mk_moreT (ls := []) mk_t0) (mk_cons (mk_moreT (ls := [2000]) (mk_t1 (mk_c (v := .int 2000)))) mk_nil)))))))
        refine w_seq ?_
        refine w_asg ?_
        refine w_op ?_
        refine w_lst ?_
        refine mA.run H1 _ (Kept.refl _) fun xs H2 k2 w => ?_
        obtain ⟨v1, _, rfl, w1, v2, _, rfl, w2, v3, _, rfl, w3, v4, _, rfl, w4, v5, _, rfl, w5, v6, _, rfl, w6, v7, _, rfl, w7, v8, _, rfl, w8, rfl⟩ := w
        refine ⟨by show 8 ≤ sizeLine; omega, fun q hq => ?_⟩
        have kq := Kept.new (o := .lst [v1, v2, v3, v4, v5, v6, v7, v8]) hq
        have k3 := k2.trans kq
        have hD2 := k3.toC.drw (d := d) (c := c) hD1
        have nq := (k2.toC.drw (d := d) (c := c) hD1).old hq
        walk_at "rd"
        refine ⟨d, c, 8, rfl, by decide, by decide, hD2, fun r2 H3 l2 g2 k4 => ?_⟩
        obtain ⟨v, hv, ev⟩ := pick_any (xs := [v1, v2, v3, v4, v5, v6, v7, v8]) l2 g2
        have hall : ∀ v ∈ [v1, v2, v3, v4, v5, v6, v7, v8], ∃ m : Im, SzI m ∧ MoreW m v H2 := by
          intro v hv
          have hz : ∀ ls : List Int, ls.length ≤ 5 → SzI (.t ls) := fun ls h => ⟨fun l e => by cases e; exact h⟩
          have hz2 : ∀ x : At, SzI (.a x) := fun x => ⟨fun l e => by cases e⟩
          simp only [List.mem_cons, List.not_mem_nil, or_false] at hv
          rcases hv with rfl | rfl | rfl | rfl | rfl | rfl | rfl | rfl
          · exact ⟨_, hz _ (by decide), w1⟩
          · exact ⟨_, hz _ (by decide), w2⟩
          · exact ⟨_, hz _ (by decide), w3⟩
          · exact ⟨_, hz2 _, w4⟩
          · exact ⟨_, hz2 _, w5⟩
          · exact ⟨_, hz _ (by decide), w6⟩
          · exact ⟨_, hz _ (by decide), w7⟩
          · exact ⟨_, hz _ (by decide), w8⟩
        obtain ⟨m, hsz, s', x, rfl, hs', hx'⟩ := hall v hv
        have k5 := k3.toC (d := d) (c := c) |>.trans k4
        have hD3 := k4.drw hD2
        refine w_ixL (k4.lst nq.1 upd_same) ev ?_
        have hm3 := k4.tup hD2 (kq.tup hs')
        have hx3 := (hx'.kept kq).keptC k4 hD2
        have hr3 := k5.tup hD1 hr1
        have hrow3 := hrow1.keptC k5 hD1
        walk_at "rd"
        refine ⟨d, c, 2, rfl, by decide, by decide, hD3, fun r3 H4 l3 g3 k6 => ?_⟩
        have hm4 := k6.tup hD3 hm3
        have hx4 := hx3.keptC k6 hD3
        have hr4 := k6.tup hD3 hr3
        have hrow4 := hrow3.keptC k6 hD3
        have k7 := k5.trans k6
        have hone : (([x] : List V)).length = 1 := rfl
        walk_at "rd"
        refine ite2 (fun _ => ?_) (fun _ => ?_)
        · have mX := mk_catW (K := K) (σ := [some (.ref d), some (.ref p), some (.ref ps), some (.ref ph), some (.ref pr), some (.int r1), some (.ref s'), none]) (mk_varT (i := 4) rfl hr4) (mk_varT (i := 6) rfl hm4) (by omega)
          refine mX.run H4 _ (Kept.refl _) fun v H5 k8 w => ?_
          obtain ⟨q5, rfl, hq5⟩ := w
          have k9 := k7.trans (k8.toC (d := d) (c := c))
          exact ⟨ps, ph, q5, S, Hd, R ++ [m], _, _, _, rfl, k1.trans k9, k9.tup hD1 hs1, k9.tup hD1 hh1, hq5, (hrow4.kept k8).app (RowAt.one (hx4.kept k8)), by omega, by omega, by rw [List.length_append]; show R.length + 1 ≤ k + 1; omega, fun n hn => (List.mem_append.mp hn).elim (z4 n) fun h => by rw [List.mem_singleton.mp h]; exact hsz⟩
        · have mX := mk_catW (K := K) (σ := [some (.ref d), some (.ref p), some (.ref ps), some (.ref ph), some (.ref pr), some (.int r1), some (.ref s'), none]) (mk_varT (i := 6) rfl hm4) (mk_varT (i := 4) rfl hr4) (by omega)
          refine mX.run H4 _ (Kept.refl _) fun v H5 k8 w => ?_
          obtain ⟨q5, rfl, hq5⟩ := w
          have k9 := k7.trans (k8.toC (d := d) (c := c))
          exact ⟨ps, ph, q5, S, Hd, [m] ++ R, _, _, _, rfl, k1.trans k9, k9.tup hD1 hs1, k9.tup hD1 hh1, hq5, (RowAt.one (hx4.kept k8)).app (hrow4.kept k8), by omega, by omega, by rw [List.length_append]; show 1 + R.length ≤ k + 1; omega, fun n hn => (List.mem_append.mp hn).elim (fun h => by rw [List.mem_singleton.mp h]; exact hsz) (z4 n)⟩
      walk_at "rd"
      refine ite2 (fun _ => ?_) (fun _ => ?_)
      · -- reversed
        walk_at "rd"
        refine ⟨pr, vs, rfl, .inr (SqT.of hr1), ?_⟩
        walk_at "rd"
        refine Lc1.run (fun _ => true) (fun j => vs.getD (vs.length - 1 - j) .non) (by omega) (fun j H3 k3 k3' hj kp h1 h2 => ?_) fun D3 H3 hD3 kp hDl => ?_
        · have hr3 := kp.tup hr1
          walk_at "rd"
          refine ⟨pr, vs, rfl, .inr (SqT.of hr3), ?_⟩
          walk_at "rd"
          have ej : (vs.length : Int) - 1 - (j : Int) = ((vs.length - 1 - j : Nat) : Int) := by omega
          rw [ej]
          refine w_ixT hr3 (atI_nat ?_) (h1 H3 (Kept.refl _) rfl)
          rw [List.getD_eq_getElem?_getD, List.getElem?_eq_getElem (by omega)] <;> rfl
        · rw [List.filter_eq_self.mpr (fun _ _ => rfl)] at hDl
          walk_at "rd"
          refine ⟨D3, _, rfl, .inl ⟨SqL.of hDl, fun q hq => ?_⟩⟩
          have kq := kp.trans (Kept.new (o := .tup ((List.range vs.length).map fun j => vs.getD (vs.length - 1 - j) .non)) hq)
          exact ⟨ps, ph, q, S, Hd, R.reverse, _, _, _, rfl, k1.trans kq.toC, kq.tup hs1, kq.tup hh1, upd_same, hrow1.rev.kept kq, by omega, by omega, by rw [List.length_reverse]; omega, fun n hn => z4 n (List.mem_reverse.mp hn)⟩
      walk_at "rd"
      refine ite2 (fun _ => ?_) (fun _ => ?_)
      · -- the first doubled
        have mX := mk_catW (K := K) mR (mk_to1 (K := K) mR) (by rw [List.length_take]; omega)
        refine w_asg ?_
        refine mX.run H1 _ (Kept.refl _) fun v H5 k8 w => ?_
        obtain ⟨q5, rfl, hq5⟩ := w
        exact ⟨ps, ph, q5, S, Hd, R ++ R.take 1, _, _, _, rfl, k1.trans k8.toC, k8.tup hs1, k8.tup hh1, hq5, (hrow1.kept k8).app ((hrow1.kept k8).take 1), by omega, by omega, by rw [List.length_append, List.length_take]; omega, fun n hn => (List.mem_append.mp hn).elim (z4 n) fun h => z4 n (List.mem_of_mem_take h)⟩
      walk_at "rd"
      refine ite2 (fun _ => ?_) (fun _ => ?_)
      · -- no formula at all
        have m2 : MkE [some (.ref d), some (.ref p), some (.ref ps), some (.ref ph), some (.ref pr), some (.int r1), none, none] H1 (tVar 2) (fun v _ => v = .ref ps) := mk_var rfl
        have m3 : MkE [some (.ref d), some (.ref p), some (.ref ps), some (.ref ph), some (.ref pr), some (.int r1), none, none] H1 (tVar 3) (fun v _ => v = .ref ph) := mk_var rfl
        have m4 : MkE [some (.ref d), some (.ref p), some (.ref ps), some (.ref ph), some (.ref pr), some (.int r1), none, none] H1 (tVar 4) (fun v _ => v = .ref pr) := mk_var rfl
        have m5 : MkE [some (.ref d), some (.ref p), some (.ref ps), some (.ref ph), some (.ref pr), some (.int r1), none, none] H1 (tTup (tCons (tVar 2) (tCons (tVar 3) (tCons (tVar 4) (tCons (tTup tNil) tNil))))) (fun v H => ∃ p xs, v = .ref p ∧ H p = some (.tup xs) ∧ xs.length = 4) :=
          (mk_tup (mk_cons m2 (mk_cons m3 (mk_cons m4 (mk_cons mk_t0 mk_nil)))) fun vs H w => by
            obtain ⟨a1, _, rfl, _, a2, _, rfl, _, a3, _, rfl, _, a4, _, rfl, _, rfl⟩ := w
            exact (by decide : 4 ≤ 1000)).weak (fun v H q => by
            obtain ⟨p, xs, e, a, w⟩ := q
            obtain ⟨a1, _, rfl, _, a2, _, rfl, _, a3, _, rfl, _, a4, _, rfl, _, rfl⟩ := w
            exact ⟨p, _, e, a, rfl⟩) fun v H H' k q => by
            obtain ⟨p, xs, e, a, l⟩ := q
            exact ⟨p, xs, e, k.tup a, l⟩
        have mA := mk_cons (mk_t2 m2 m3) (mk_cons m5 (mk_cons (mk_t3 (mk_c (v := .str (Str.ofString "shown"))) m3 m4) (mk_cons (mk_c (σ := [some (.ref d), some (.ref p), some (.ref ps), some (.ref ph), some (.ref pr), some (.int r1), none, none]) (H0 := H1) (v := .non)) (mk_cons (mk_c (v := .int 7)) mk_nil))))
        refine w_ret ?_
        refine w_op ?_
        refine w_lst ?_
        refine mA.run H1 _ (Kept.refl _) fun xs H2 k2 w => ?_
        obtain ⟨v1, _, rfl, w1, v2, _, rfl, w2, v3, _, rfl, w3, v4, _, rfl, w4, v5, _, rfl, w5, rfl⟩ := w
        refine ⟨by show 5 ≤ sizeLine; omega, fun q hq => ?_⟩
        have kq := Kept.new (o := .lst [v1, v2, v3, v4, v5]) hq
        have k3 := k2.trans kq
        have hD2 := k3.toC.drw (d := d) (c := c) hD1
        have nq := (k2.toC.drw (d := d) (c := c) hD1).old hq
        walk_at "rd"
        refine ⟨d, c, 5, rfl, by decide, by decide, hD2, fun r2 H3 l2 g2 k4 => ?_⟩
        obtain ⟨v, hv, ev⟩ := pick_any (xs := [v1, v2, v3, v4, v5]) l2 g2
        have hall : ∀ v ∈ [v1, v2, v3, v4, v5], ∃ x : Vl, SzV (k + 1) x ∧ ValAt H2 v x := by
          intro v hv
          simp only [List.mem_cons, List.not_mem_nil, or_false] at hv
          rcases hv with rfl | rfl | rfl | rfl | rfl
          · obtain ⟨p1, e, h⟩ := w1
            exact ⟨.tup 2, ⟨by decide, by decide⟩, p1, _, e, h, rfl⟩
          · obtain ⟨p1, xs, e, h, l⟩ := w2
            exact ⟨.tup 4, ⟨by decide, by decide⟩, p1, _, e, h, l⟩
          · obtain ⟨p1, e, h⟩ := w3
            exact ⟨.stx, trivial, p1, _, ph, pr, _, _, e, h, k2.tup hh1, k2.tup hr1⟩
          · exact ⟨.non, trivial, w4⟩
          · exact ⟨.int, trivial, w5⟩
        obtain ⟨x, hsz, hx⟩ := hall v hv
        refine w_ixL (k4.lst nq.1 upd_same) ev ?_
        exact kk v H3 x (k1.trans ((k3.toC (d := d) (c := c)).trans k4)) ((hx.kept kq).keptC k4 hD2) hsz
      · exact ⟨ps, ph, pr, S, Hd, R, vs, _, _, rfl, k1, hs1, hh1, hr1, hrow1, by omega, by omega, by omega, z4⟩
    · rintro σ' H2 ⟨s', h', r', S', Hd', R', vs', v6, v7, rfl, k2, h1, h2, h3, h4, h5⟩
      walk_at "rd"
      refine ⟨by show 3 ≤ sizeLine; omega, fun q hq => ?_⟩
      have kq := Kept.new (o := .tup [V.ref s', V.ref h', V.ref r']) hq
      exact kk _ _ (.tr S' Hd' R') (k2.trans kq.toC) ⟨q, rfl, ⟨s', h', r', vs', upd_same, kq.tup h1, kq.tup h2, kq.tup h3, h4.kept kq⟩⟩ h5
end
end Ky

namespace Ky
open PySem PySem.Spec PyProof.Rows L2
theorem ne_sBsC : sB ≠ sC := by decide +kernel
theorem ne_sBsO : sB ≠ sO := by decide +kernel
theorem ne_sBsU : sB ≠ sU := by decide +kernel
theorem ne_sBsV : sB ≠ sV := by decide +kernel
theorem ne_sCsB : sC ≠ sB := by decide +kernel
theorem ne_sCsO : sC ≠ sO := by decide +kernel
theorem ne_sCsU : sC ≠ sU := by decide +kernel
theorem ne_sCsV : sC ≠ sV := by decide +kernel
theorem ne_sOsB : sO ≠ sB := by decide +kernel
theorem ne_sOsC : sO ≠ sC := by decide +kernel
theorem ne_sOsU : sO ≠ sU := by decide +kernel
theorem ne_sOsV : sO ≠ sV := by decide +kernel
theorem ne_sUsB : sU ≠ sB := by decide +kernel
theorem ne_sUsC : sU ≠ sC := by decide +kernel
theorem ne_sUsO : sU ≠ sO := by decide +kernel
theorem ne_sUsV : sU ≠ sV := by decide +kernel
theorem ne_sVsB : sV ≠ sB := by decide +kernel
theorem ne_sVsC : sV ≠ sC := by decide +kernel
theorem ne_sVsO : sV ≠ sO := by decide +kernel
theorem ne_sVsU : sV ≠ sU := by decide +kernel
theorem clI_ok {R : List Im} : ∀ c ∈ clI R, isClauseF c = true := fun c hc => by
  obtain ⟨m, hm, e⟩ := List.mem_filterMap.mp hc
  cases m with
  | a y => cases e
  | t ls =>
    have e : (if isClauseF ls = true then some ls else none) = some c := e
    by_cases h : isClauseF ls = true
    · rw [if_pos h] at e
      rw [← Option.some.inj e]
      exact h
    · rw [if_neg h] at e
      cases e
theorem res_ord (R : List Im) : isResidueF (clI R) = ordF (clI R) := by
  rw [isResidueF_all]
  unfold ordF
  rw [List.all_eq_true.mpr clI_ok, Bool.true_and]
theorem com_inter {S Hd : List At} (h : rightF S Hd = true) : comF S Hd = interF S Hd := by
  unfold rightF at h
  rw [Bool.and_eq_true] at h
  have es := vars_ints h.1
  have eh := vars_ints h.2
  have hv := h.2
  unfold varsF at hv
  rw [Bool.and_eq_true, List.length_map, range_all (.i 0) At.vr Hd] at hv
  have hall := hv.1
  unfold comF interF
  rw [Bool.eq_iff_iff, List.any_eq_true, List.any_eq_true]
  constructor
  · rintro ⟨x, hx, e⟩
    rw [Bool.and_eq_true, decide_eq_true_eq] at e
    rw [eh] at hx
    obtain ⟨n, hn, rfl⟩ := List.mem_map.mp hx
    refine ⟨n, hn, decide_eq_true ?_⟩
    have q := e.2
    rw [es] at q
    obtain ⟨m, hm, e2⟩ := List.mem_map.mp q
    rw [← At.i.inj e2]
    exact hm
  · rintro ⟨n, hn, e⟩
    have hx : At.i n ∈ Hd := by rw [eh]; exact List.mem_map.mpr ⟨n, hn, rfl⟩
    refine ⟨.i n, hx, ?_⟩
    rw [List.all_eq_true.mp hall _ hx, Bool.true_and]
    exact decide_eq_true (by rw [es]; exact List.mem_map.mpr ⟨n, of_decide_eq_true e, rfl⟩)
theorem known_unk (cs : List (List Int)) (vs : List Int) : knownF cs vs = !unkF cs vs := by
  unfold knownF unkF absAll
  rw [List.all_map, Bool.eq_iff_iff, List.all_eq_true, Bool.not_eq_true', List.any_eq_false]
  constructor
  · intro h c hc z
    obtain ⟨x, hx, e⟩ := List.any_eq_true.mp z
    exact of_decide_eq_true e (of_decide_eq_true (h x (List.mem_flatten.mpr ⟨c, hc, hx⟩)))
  · intro h x hx
    obtain ⟨c, hc, hx⟩ := List.mem_flatten.mp hx
    have q := h c hc
    show decide (absI x ∈ vs) = true
    refine decide_eq_true (Classical.byContradiction fun z => q (List.any_eq_true.mpr ⟨x, hx, decide_eq_true z⟩))
def dueL (fs : List Str) : List Str := codes.filter fun z => decide (z ∈ fs)
def endL (due fl : List Str) : List Str := if sV ∈ due then fl.filter fun z => decide (z ≠ sB) else fl
theorem due_eq {S Hd : List At} {R : List Im} {fs : List Str} (h : ∀ z, z ∈ fs ↔ dueP S Hd R z) : endL (dueL fs) (faultsV (.tr S Hd R)) = dueL fs := by
  have hB : decide (sB ∈ fs) = (rightF S Hd && interF S Hd) := by
    rw [Bool.eq_iff_iff, decide_eq_true_eq, h, Bool.and_eq_true]
    unfold dueP
    simp [ne_sBsC, ne_sBsO, ne_sBsU, ne_sBsV, ne_sCsB, ne_sCsO, ne_sCsU, ne_sCsV, ne_sOsB, ne_sOsC, ne_sOsU, ne_sOsV, ne_sUsB, ne_sUsC, ne_sUsO, ne_sUsV, ne_sVsB, ne_sVsC, ne_sVsO, ne_sVsU]
  have hC : decide (sC ∈ fs) = decide ((clI R).length < R.length) := by
    rw [Bool.eq_iff_iff, decide_eq_true_eq, h, decide_eq_true_eq]
    unfold dueP
    simp [ne_sBsC, ne_sBsO, ne_sBsU, ne_sBsV, ne_sCsB, ne_sCsO, ne_sCsU, ne_sCsV, ne_sOsB, ne_sOsC, ne_sOsU, ne_sOsV, ne_sUsB, ne_sUsC, ne_sUsO, ne_sUsV, ne_sVsB, ne_sVsC, ne_sVsO, ne_sVsU]
  have hO : decide (sO ∈ fs) = (!decide ((clI R).length < R.length) && !ordF (clI R)) := by
    rw [Bool.eq_iff_iff, decide_eq_true_eq, h, Bool.and_eq_true]
    unfold dueP
    simp [ne_sBsC, ne_sBsO, ne_sBsU, ne_sBsV, ne_sCsB, ne_sCsO, ne_sCsU, ne_sCsV, ne_sOsB, ne_sOsC, ne_sOsU, ne_sOsV, ne_sUsB, ne_sUsC, ne_sUsO, ne_sUsV, ne_sVsB, ne_sVsC, ne_sVsO, ne_sVsU]
  have hU : decide (sU ∈ fs) = (rightF S Hd && unkF (clI R) (intsA S ++ intsA Hd)) := by
    rw [Bool.eq_iff_iff, decide_eq_true_eq, h, Bool.and_eq_true]
    unfold dueP
    simp [ne_sBsC, ne_sBsO, ne_sBsU, ne_sBsV, ne_sCsB, ne_sCsO, ne_sCsU, ne_sCsV, ne_sOsB, ne_sOsC, ne_sOsU, ne_sOsV, ne_sUsB, ne_sUsC, ne_sUsO, ne_sUsV, ne_sVsB, ne_sVsC, ne_sVsO, ne_sVsU]
  have hV : decide (sV ∈ fs) = !rightF S Hd := by
    rw [Bool.eq_iff_iff, decide_eq_true_eq, h]
    unfold dueP
    simp [ne_sBsC, ne_sBsO, ne_sBsU, ne_sBsV, ne_sCsB, ne_sCsO, ne_sCsU, ne_sCsV, ne_sOsB, ne_sOsC, ne_sOsU, ne_sOsV, ne_sUsB, ne_sUsC, ne_sUsO, ne_sUsV, ne_sVsB, ne_sVsC, ne_sVsO, ne_sVsU]
  have e1 : faultsV (.tr S Hd R) = (if comF S Hd = true then [sB] else []) ++ (if decide ((clI R).length < R.length) = true then [sC] else if ordF (clI R) = true then [] else [sO]) ++ (if rightF S Hd = true then (if unkF (clI R) (intsA S ++ intsA Hd) = true then [sU] else []) else [sV]) := by
    show flt1 S Hd ++ flt2 R ++ flt3 S Hd R = _
    unfold flt1 flt2 flt3 rightF
    rw [res_ord, known_unk]
    congr 1
    · congr 1
      by_cases hl : (clI R).length < R.length <;> simp [hl]
    · cases unkF (clI R) (intsA S ++ intsA Hd) <;> rfl
  have e2 : dueL fs = (if (rightF S Hd && interF S Hd) = true then [sB] else []) ++ (if decide ((clI R).length < R.length) = true then [sC] else []) ++ (if (!decide ((clI R).length < R.length) && !ordF (clI R)) = true then [sO] else []) ++ (if (rightF S Hd && unkF (clI R) (intsA S ++ intsA Hd)) = true then [sU] else []) ++ (if (!rightF S Hd) = true then [sV] else []) := by
    unfold dueL codes
    simp only [List.filter_cons, List.filter_nil, hB, hC, hO, hU, hV]
    cases rightF S Hd <;> cases interF S Hd <;> cases decide ((clI R).length < R.length) <;> cases ordF (clI R) <;> cases unkF (clI R) (intsA S ++ intsA Hd) <;> rfl
  have e3 : rightF S Hd = true → comF S Hd = interF S Hd := com_inter
  unfold endL
  rw [e1, e2]
  generalize rightF S Hd = r at *
  generalize interF S Hd = i at *
  generalize comF S Hd = cm at *
  generalize decide ((clI R).length < R.length) = c at *
  generalize ordF (clI R) = o at *
  generalize unkF (clI R) (intsA S ++ intsA Hd) = u at *
  cases r
  · cases cm <;> cases i <;> cases c <;> cases o <;> cases u <;> simp [ne_sBsC, ne_sBsO, ne_sBsU, ne_sBsV, ne_sCsB, ne_sCsO, ne_sCsU, ne_sCsV, ne_sOsB, ne_sOsC, ne_sOsU, ne_sOsV, ne_sUsB, ne_sUsC, ne_sUsO, ne_sUsV, ne_sVsB, ne_sVsC, ne_sVsO, ne_sVsU]
  · have e3 := e3 rfl
    subst e3
    cases cm <;> cases c <;> cases o <;> cases u <;> simp [ne_sBsC, ne_sBsO, ne_sBsU, ne_sBsV, ne_sCsB, ne_sCsO, ne_sCsU, ne_sCsV, ne_sOsB, ne_sOsC, ne_sOsU, ne_sOsV, ne_sUsB, ne_sUsC, ne_sUsO, ne_sUsV, ne_sVsB, ne_sVsC, ne_sVsO, ne_sVsU]
/-! ### the formula that is drawn has no faults -/
theorem vars_ok {S : List Int} (h : S.Pairwise (· < ·)) (hv : ∀ v ∈ S, 1 ≤ v ∧ v ≤ 999) : varsF (S.map At.i) = true := by
  unfold varsF
  rw [List.length_map, range_all (.i 0) At.vr (S.map At.i), List.all_map, Bool.and_eq_true]
  refine ⟨List.all_eq_true.mpr fun n hn => ?_, ?_⟩
  · show isVar n = true
    unfold isVar
    rw [decide_eq_true (hv n hn).1, decide_eq_true (hv n hn).2] <;> rfl
  · rw [List.map_map]
    exact ascD_pair (List.pairwise_map.mpr (h.imp fun {a b} q => by
      show PySem.W.dataLt (.int a) (.int b) = true
      rw [PySem.W.dataLt_int]
      exact decide_eq_true q))
theorem clI_all {rc : List (List Int)} (h : ∀ c ∈ rc, isClauseF c = true) : clI (rc.map Im.t) = rc := by
  unfold clI
  induction rc with
  | nil => rfl
  | cons c cs ih =>
    have e : Im.op (.t c) = some c := by show (if isClauseF c = true then some c else none) = _; rw [if_pos (h c List.mem_cons_self)]
    rw [List.map_cons, List.filterMap_cons_some e, ih fun d hd => h d (List.mem_cons_of_mem _ hd)]
theorem none_fault {most hm cl : Nat} {S Hd : List Int} {rc : List (List Int)} (h : FormF most hm cl S Hd rc) : faultsV (.tr (S.map At.i) (Hd.map At.i) (rc.map Im.t)) = [] := by
  have e0 := clI_all fun c hc => (h.cls c hc).1
  have v1 := vars_ok h.sAsc h.sVar
  have v2 := vars_ok h.hAsc h.hVar
  have ec : comF (S.map At.i) (Hd.map At.i) = false := by
    unfold comF
    rw [List.any_eq_false]
    intro x hx z
    rw [Bool.and_eq_true, decide_eq_true_eq] at z
    obtain ⟨n, hn, rfl⟩ := List.mem_map.mp hx
    obtain ⟨m, hm, e⟩ := List.mem_map.mp z.2
    exact h.dis m hm (by rw [At.i.inj e]; exact hn)
  have ek : knownF rc (S ++ Hd) = true := by
    unfold knownF
    refine List.all_eq_true.mpr fun v hv => decide_eq_true ?_
    unfold absAll at hv
    obtain ⟨n, hn, rfl⟩ := List.mem_map.mp hv
    obtain ⟨c, hc, hn⟩ := List.mem_flatten.mp hn
    exact List.mem_append.mpr ((h.cls c hc).2.2 n hn)
  have er : isResidueF rc = true := isResidueF_asc h.rAsc fun c hc => (h.cls c hc).1
  show flt1 _ _ ++ flt2 _ ++ flt3 _ _ _ = []
  unfold flt1 flt2 flt3
  rw [e0, v1, v2, ec, intsA_map, intsA_map, ek, er, List.length_map]
  simp
def wisOf (ws : List (Int × (Int × Int))) : List Wi := ws.map fun x => .pr x.1 (.p x.2.1 x.2.2)
theorem keysW_of (ws : List (Int × (Int × Int))) : keysW (wisOf ws) = ws.map (·.1) := by
  unfold keysW wisOf
  induction ws with
  | nil => rfl
  | cons x ws ih =>
    rw [List.map_cons, List.filterMap_cons_some (show Wi.key (.pr x.1 (.p x.2.1 x.2.2)) = some x.1 from rfl), ih, List.map_cons]
theorem litsF_key : ∀ {S : List Int}, S.Pairwise (· < ·) → (∀ v ∈ S, 1 ≤ v) → (litsF S).Pairwise fun a b => PySem.W.dataLt (keyD a) (keyD b) = true
  | [], _, _ => List.Pairwise.nil
  | v :: S, h, hp => by
    obtain ⟨h1, h2⟩ := List.pairwise_cons.mp h
    have hv := hp v List.mem_cons_self
    have ih := litsF_key h2 fun u hu => hp u (List.mem_cons_of_mem _ hu)
    have an : ∀ u : Int, 1 ≤ u → absI (-u) = u ∧ sgI (-u) = 0 ∧ absI u = u ∧ sgI u = 1 := fun u hu => by
      refine ⟨?_, ?_, ?_, ?_⟩
      · unfold absI; rw [if_pos (by omega)]; omega
      · unfold sgI; rw [if_neg (by omega)]
      · unfold absI; rw [if_neg (by omega)]
      · unfold sgI; rw [if_pos (by omega)]
    obtain ⟨a1, a2, a3, a4⟩ := an v hv
    show ([-v, v] ++ litsF S).Pairwise _
    refine List.pairwise_append.mpr ⟨?_, ih, fun a ha b hb => ?_⟩
    · refine List.pairwise_cons.mpr ⟨fun b hb => ?_, by simp⟩
      rw [List.mem_singleton.mp hb, keyD_lt, a1, a2, a3, a4, if_pos rfl]
      decide
    · obtain ⟨u, hu, hb⟩ := List.mem_flatMap.mp hb
      have h3 := h1 u hu
      obtain ⟨b1, b2, b3, b4⟩ := an u (hp u (List.mem_cons_of_mem _ hu))
      simp only [List.mem_cons, List.not_mem_nil, or_false] at ha hb
      rcases ha with rfl | rfl <;> rcases hb with rfl | rfl <;> rw [keyD_lt] <;> simp only [a1, a3, b1, b3] <;> rw [if_neg (by omega)] <;> exact decide_eq_true (by omega)
theorem wts_ok {S : List Int} {ws : List (Int × (Int × Int))} (h : S.Pairwise (· < ·)) (hv : ∀ v ∈ S, 1 ≤ v ∧ v ≤ 999) (hw : WtF S ws) : areWF S (wisOf ws) = true := by
  have hl : ∀ l ∈ ws.map (·.1), ∃ u ∈ S, l = -u ∨ l = u := fun l hl => by
    obtain ⟨u, hu, e⟩ := List.mem_flatMap.mp (hw.sub.subset hl)
    simp only [List.mem_cons, List.not_mem_nil, or_false] at e
    exact ⟨u, hu, e⟩
  have ha : ∀ l u : Int, (1 ≤ u ∧ u ≤ 999) → (l = -u ∨ l = u) → absI l = u := fun l u hu e => by
    unfold absI
    rcases e with rfl | rfl
    · rw [if_pos (by omega)]; omega
    · rw [if_neg (by omega)]
  unfold areWF
  rw [keysW_of, Bool.and_eq_true, Bool.and_eq_true]
  refine ⟨List.all_eq_true.mpr fun m hm => ?_, List.all_eq_true.mpr fun l hm => ?_, ?_⟩
  · obtain ⟨x, hx, rfl⟩ := List.mem_map.mp hm
    obtain ⟨u, hu, e⟩ := hl x.1 (List.mem_map.mpr ⟨x, hx, rfl⟩)
    obtain ⟨w0, _, w2, w3⟩ := hw.ok x hx
    have e1 := ha _ _ (hv u hu) e
    show (isLit x.1 && ((decide (1 ≤ x.2.2) && decide ((Nat.gcd x.2.1.natAbs x.2.2.natAbs : Int) = 1)) && decide (0 ≤ x.2.1))) = true
    have e2 : isLit x.1 = true := by
      unfold isLit isVar
      rw [e1, decide_eq_true (hv u hu).1, decide_eq_true (hv u hu).2] <;> rfl
    rw [e2, decide_eq_true (show 1 ≤ x.2.2 by omega), decide_eq_true (by exact_mod_cast w3.2), decide_eq_true w2] <;> rfl
  · obtain ⟨u, hu, e⟩ := hl l hm
    rw [ha _ _ (hv u hu) e]
    exact decide_eq_true hu
  · exact ascD_pair (List.pairwise_map.mpr ((litsF_key h fun v hv2 => (hv v hv2).1).sublist hw.sub))
end Ky

namespace Ky
open PySem PySem.Spec PyProof.Rows L2
local macro_rules | `(tactic| walk_at "rd") => `(tactic| repeat (first
  | with_reducible refine w_for1 ?_
  | with_reducible refine w_for2 ?_
  | with_reducible refine w_forL ?_
  | with_reducible refine w_forT ?_
  | with_reducible refine w_lc1 ?_
  | with_reducible refine w_lcL ?_
  | with_reducible refine w_lcT ?_
  | with_reducible refine w_seq ?_
  | with_reducible refine w_asg ?_
  | with_reducible refine w_ret ?_
  | with_reducible refine w_drop ?_
  | with_reducible refine w_ifs ?_
  | ((with_reducible refine' w_var ?hh ?_); (case hh => exact rfl))
  | with_reducible refine w_c ?_
  | with_reducible refine w_op ?_
  | with_reducible refine w_un ?_
  | with_reducible refine w_I0 ?_
  | with_reducible refine w_U ?_
  | with_reducible refine w_nil ?_
  | with_reducible refine w_cons ?_
  | with_reducible refine w_call ?_
  | with_reducible refine w_cb ?_
  | with_reducible refine w_test ?_
  | with_reducible refine w_B ?_
  | with_reducible refine w_bl ?_
  | with_reducible refine w_and ?_
  | with_reducible refine w_or ?_
  | with_reducible refine w_not ?_
  | with_reducible refine w_ife ?_
  | with_reducible refine w_gRd ?_
  | with_reducible refine w_andV ?_
  | with_reducible refine w_orV ?_
  | with_reducible refine w_notV ?_
  | with_reducible refine w_chain ?_
  | with_reducible refine w_din ?_
  | with_reducible refine w_isi_ii ?_
  | with_reducible refine w_isi_bi ?_
  | with_reducible refine w_isi_bb ?_
  | with_reducible refine w_isi_bt ?_
  | with_reducible refine w_isi_si ?_
  | with_reducible refine w_isi_nt ?_
  | with_reducible refine w_isi_ib ?_
  | with_reducible refine w_isi_it ?_
  | with_reducible refine w_isi_st ?_
  | ((with_reducible refine w_isi_tt ?h1 ?_); (case h1 => first | assumption | exact upd_same))
  | with_reducible refine if_t rfl ?_
  | with_reducible refine if_f rfl ?_
  | with_reducible refine w_tup ?_
  | with_reducible refine w_lst ?_
  | with_reducible refine w_next ?_
  | with_reducible refine w_bm ?_
  | with_reducible refine w_sl ?_
  | with_reducible refine w_part ?_
  | with_reducible refine w_nop ?_
  | with_reducible refine w_isI ?_
  | with_reducible refine w_yes ?_
  | with_reducible refine w_gn ?_
  | with_reducible refine w_gsub ?_
  | ((with_reducible refine' w_setL ?h1 ?h2 ?_); (case h1 => first | assumption | exact upd_same); (case h2 => exact rfl))
  | with_reducible refine w_asgG ?_
  | with_reducible refine w_m1 ?_
  | with_reducible refine w_isS ?_
  | with_reducible refine w_tyS ?_
  | ((with_reducible refine' w_tyL ?h1 ?_); (case h1 => first | assumption | exact upd_same))
  | ((with_reducible refine' w_ixT ?h1 ?h2 ?_); (case h1 => first | assumption | exact upd_same); (case h2 => exact rfl))
  | ((with_reducible refine' w_ixL ?h1 ?h2 ?_); (case h1 => first | assumption | exact upd_same); (case h2 => exact rfl))
  | ((with_reducible refine w_eq ?h1 ?_); (case h1 => exact rfl))
  | ((with_reducible refine w_ne ?h1 ?_); (case h1 => exact rfl))
  | dsimp only [List.set_cons_zero, List.set_cons_succ, List.append_nil, List.cons_append, List.nil_append, cxOf]))

theorem dpAll_strs {K : PySem.W.Frag} {H : Hp} : ∀ ls : List Str, DpAll K H (ls.map V.str) (ls.map PyData.str)
  | [] => .nil
  | z :: ls => .cons (.str z) (dpAll_strs ls)
theorem eqvAll_strs : ∀ xs ys : List Str, PyData.eqvAll (xs.map PyData.str) (ys.map PyData.str) = decide (xs = ys)
  | [], [] => by simp [PyData.eqvAll]
  | [], y :: ys => by simp [PyData.eqvAll]
  | x :: xs, [] => by simp [PyData.eqvAll]
  | x :: xs, y :: ys => by
    rw [List.map_cons, List.map_cons, PyData.eqvAll, eqvAll_strs xs ys]
    simp only [PyData.eqv]
    by_cases h : x = y <;> by_cases h2 : xs = ys <;> simp [h, h2]
def OkS (ls : List Str) : Prop := ∀ z ∈ ls, z ∈ codes ∨ z = sF
theorem okS_str {z : Str} (h : z ∈ codes ∨ z = sF) : PyData.canLay0 (.str z) = true := by
  simp only [codes, List.mem_cons, List.not_mem_nil, or_false] at h
  rcases h with (rfl | rfl | rfl | rfl | rfl) | rfl <;> decide +kernel
theorem canLay_strs : ∀ {ls : List Str}, OkS ls → PyData.canLayAll0 (ls.map PyData.str) = true
  | [], _ => by simp [PyData.canLayAll0]
  | z :: ls, h => by
    rw [List.map_cons, PyData.canLayAll0, canLay_strs (ls := ls) fun y hy => h y (List.mem_cons_of_mem _ hy), okS_str (h z List.mem_cons_self)] <;> rfl
theorem depth_strs : ∀ ls : List Str, PyData.depthAll (ls.map PyData.str) ≤ 2
  | [] => by simp [PyData.depthAll]
  | z :: ls => by
    rw [List.map_cons, PyData.depthAll]
    have h1 := depth_strs ls
    have h2 : (PyData.str z).depth ≤ 2 := by simp [PyData.depth]
    omega
theorem sh_strs {ls : List Str} (h : OkS ls) : SeqAt.shaped (.list (ls.map PyData.str)) = true := by
  have h1 := depth_strs ls
  have h2 : PyData.depth (.list (ls.map PyData.str)) ≤ 64 := by
    simp only [PyData.depth]
    omega
  show (PyData.canLay0 (.list (ls.map PyData.str)) && decide (PyData.depth (.list (ls.map PyData.str)) ≤ 64)) = true
  rw [Bool.and_eq_true]
  exact ⟨by simp only [PyData.canLay0]; exact canLay_strs h, decide_eq_true h2⟩
theorem w_neSS {K : PySem.W.Frag} {H : Hp} {Q : VK} {a b : Addr} {xs : List Str} (hx : OkS xs) (ha : H a = some (.lst (xs.map V.str))) (hb : H b = some (.lst (xs.map V.str))) (q : Q (.bl false) H) : rNeD K (.ref a) (.ref b) H Q := by
  refine ⟨_, _, .lst (SqL.of ha) (dpAll_strs xs), .lst (SqL.of hb) (dpAll_strs xs), sh_strs hx, sh_strs hx, ?_⟩
  have e : PyData.eqv (.list (xs.map PyData.str)) (.list (xs.map PyData.str)) = true := by
    simp only [PyData.eqv]
    rw [eqvAll_strs]
    exact decide_eq_true rfl
  rw [e]
  exact q
theorem w_neFr {K : PySem.W.Frag} {H : Hp} {Q : VK} {a b : Addr} {x : Int × Int} (ha : FrAt H a x) (hb : FrAt H b x) (q : Q (.bl false) H) : rNeD K (.ref a) (.ref b) H Q := w_sTT (xs := [x.1, x.2]) ha hb q
theorem codes_ok {p : Str → Bool} : OkS (codes.filter p) := fun z hz => .inl (List.mem_filter.mp hz).1
theorem faults_ok (x : Vl) : OkS (faultsV x) := by
  intro z hz
  cases x with
  | tr S Hd R =>
    have hz : z ∈ flt1 S Hd ++ flt2 R ++ flt3 S Hd R := hz
    rcases List.mem_append.mp hz with h | h
    · rcases List.mem_append.mp h with h | h
      · unfold flt1 at h
        split at h
        · rw [List.mem_singleton.mp h]; left; simp [codes]
        · cases h
      · unfold flt2 at h
        split at h
        · rw [List.mem_singleton.mp h]; left; simp [codes]
        · split at h
          · cases h
          · rw [List.mem_singleton.mp h]; left; simp [codes]
    · unfold flt3 at h
      split at h
      · split at h
        · cases h
        · rw [List.mem_singleton.mp h]; left; simp [codes]
      · rw [List.mem_singleton.mp h]; left; simp [codes]
  | tup n => exact .inr (List.mem_singleton.mp hz)
  | stx => exact .inr (List.mem_singleton.mp hz)
  | non => exact .inr (List.mem_singleton.mp hz)
  | int => exact .inr (List.mem_singleton.mp hz)
theorem SzV.mono {a b : Nat} {x : Vl} (h : SzV a x) (l : a ≤ b) : SzV b x := by
  cases x with
  | tr S Hd R =>
    obtain ⟨h1, h2, h3, h4⟩ := h
    exact ⟨by omega, by omega, by omega, h4⟩
  | tup n => exact h
  | stx => exact h
  | non => exact h
  | int => exact h
theorem tr_of {H : Hp} {p : Addr} {S Hd : List Int} {rc : List (List Int)} (h : FormAt H p S Hd rc) : TrAt H p (S.map At.i) (Hd.map At.i) (rc.map Im.t) := by
  obtain ⟨s, t, r, bs, h1, h2, h3, h4, h5⟩ := h.ex
  exact ⟨s, t, r, _, h1, by rw [List.map_map]; exact h2, by rw [List.map_map]; exact h3, h4, cls_row h5⟩
theorem ws_of {H : Hp} {qs : List Addr} {ws : List (Int × (Int × Int))} (h : WtsAt H qs ws) : WsAt H (qs.map V.ref) (wisOf ws) := by
  refine ⟨by unfold wisOf; rw [List.length_map, List.length_map, h.1], fun i v m hv hm => ?_⟩
  unfold wisOf at hm
  rw [List.getElem?_map] at hv hm
  obtain ⟨b, hb, rfl⟩ := Option.map_eq_some_iff.mp hv
  obtain ⟨x, hx, rfl⟩ := Option.map_eq_some_iff.mp hm
  obtain ⟨fq, h1, h2⟩ := (h.2 i b x hb hx).ex
  exact ⟨b, .ref fq, rfl, h1, fq, rfl, h2⟩
/-! ### values that are no weights -/
def BadW (S : List Int) : V → Hp → Prop := fun v H => (∃ t, v = .str t) ∨ ∃ (q : Addr) (us : List V) (ms : List Wi), v = .ref q ∧ H q = some (.tup us) ∧ WsAt H us ms ∧ ms.length ≤ 1000 ∧ (areWF S ms = false ∨ (997 : Int) ∈ S)
theorem badW_up {S : List Int} : ∀ v H H', Kept H H' → BadW S v H → BadW S v H' := fun v H H' k h => by
  rcases h with h | ⟨q, us, ms, e, h1, h2, h3, h4⟩
  · exact .inl h
  · exact .inr ⟨q, us, ms, e, k.tup h1, h2.kept k, h3, h4⟩
section
variable {σ : L2.St} {H0 : Hp} {ta tb te te2 : TE}
theorem mk_wp {l n d : Int} (ha : MkE σ H0 ta (fun v _ => v = .int l)) (hb : MkE σ H0 tb (TupW [V.int n, V.int d])) : MkE σ H0 (tTup (tCons ta (tCons tb tNil))) (fun v H => WiAt H v (.pr l (.p n d))) :=
  (mk_tup (mk_cons ha (mk_cons hb mk_nil)) fun vs H w => by
    obtain ⟨a1, _, rfl, _, a2, _, rfl, _, rfl⟩ := w
    exact (by decide : 2 ≤ 1000)).weak (fun v H q => by
    obtain ⟨p, xs, e, a, w⟩ := q
    obtain ⟨a1, _, rfl, rfl, a2, _, rfl, ⟨r, rfl, hr⟩, rfl⟩ := w
    exact ⟨p, _, e, a, r, rfl, hr⟩) fun v H H' k h => h.kept k
theorem mk_wn {l n : Int} (ha : MkE σ H0 ta (fun v _ => v = .int l)) (hb : MkE σ H0 tb (fun v _ => v = .int n)) : MkE σ H0 (tTup (tCons ta (tCons tb tNil))) (fun v H => WiAt H v (.pr l (.n n))) :=
  (mk_t2 ha hb).weak (fun v H q => by
    obtain ⟨p, e, a⟩ := q
    exact ⟨p, _, e, a, rfl⟩) fun v H H' k h => h.kept k
theorem mk_w3 {l n d m : Int} {tc : TE} (ha : MkE σ H0 ta (fun v _ => v = .int l)) (hb : MkE σ H0 tb (TupW [V.int n, V.int d])) (hc : MkE σ H0 tc (fun v _ => v = .int m)) : MkE σ H0 (tTup (tCons ta (tCons tb (tCons tc tNil)))) (fun v H => WiAt H v .tri) :=
  (mk_tup (mk_cons ha (mk_cons hb (mk_cons hc mk_nil))) fun vs H w => by
    obtain ⟨a1, _, rfl, _, a2, _, rfl, _, a3, _, rfl, _, rfl⟩ := w
    exact (by decide : 3 ≤ 1000)).weak (fun v H q => by
    obtain ⟨p, xs, e, a, w⟩ := q
    obtain ⟨a1, _, rfl, _, a2, _, rfl, _, a3, _, rfl, _, rfl⟩ := w
    exact ⟨p, _, _, _, e, a⟩) fun v H H' k h => h.kept k
theorem mk_b1 {S : List Int} {m : Wi} (h : MkE σ H0 te (fun v H => WiAt H v m)) (hb : areWF S [m] = false ∨ (997 : Int) ∈ S) : MkE σ H0 (tTup (tCons te tNil)) (BadW S) :=
  (mk_tup (mk_cons h mk_nil) fun vs H w => by
    obtain ⟨a1, _, rfl, _, rfl⟩ := w
    exact (by decide : 1 ≤ 1000)).weak (fun v H q => by
    obtain ⟨p, xs, e, a, w⟩ := q
    obtain ⟨a1, _, rfl, h1, rfl⟩ := w
    refine .inr ⟨p, _, [m], e, a, ⟨rfl, fun i v n hv hn => ?_⟩, (by decide : 1 ≤ 1000), hb⟩
    cases i with
    | zero =>
      cases hv
      cases hn
      exact h1
    | succ i => cases hv) badW_up
theorem mk_b2 {S : List Int} {m m2 : Wi} (h : MkE σ H0 te (fun v H => WiAt H v m)) (h2 : MkE σ H0 te2 (fun v H => WiAt H v m2)) (hb : areWF S [m, m2] = false ∨ (997 : Int) ∈ S) : MkE σ H0 (tTup (tCons te (tCons te2 tNil))) (BadW S) :=
  (mk_tup (mk_cons h (mk_cons h2 mk_nil)) fun vs H w => by
    obtain ⟨a1, _, rfl, _, a2, _, rfl, _, rfl⟩ := w
    exact (by decide : 2 ≤ 1000)).weak (fun v H q => by
    obtain ⟨p, xs, e, a, w⟩ := q
    obtain ⟨a1, _, rfl, h1, a2, _, rfl, h2, rfl⟩ := w
    refine .inr ⟨p, _, [m, m2], e, a, ⟨rfl, fun i v n hv hn => ?_⟩, (by decide : 2 ≤ 1000), hb⟩
    match i, hv, hn with
    | 0, hv, hn =>
      cases hv
      cases hn
      exact h1
    | 1, hv, hn =>
      cases hv
      cases hn
      exact h2
    | i + 2, hv, hn => cases hv) badW_up
theorem mk_bs {S : List Int} {t : Str} : MkE σ H0 (tC (.str t)) (BadW S) := (mk_c (v := .str t)).weak (fun v H e => .inl ⟨t, e⟩) badW_up
end
theorem bad_wt {S : List Int} {m : Wi} {ms : List Wi} (h : isWtF m = false) : areWF S (m :: ms) = false := by
  unfold areWF
  rw [List.all_cons, h, Bool.false_and, Bool.false_and]
theorem bad_key {S : List Int} {l l2 : Int} {x y : Fv} (h : PySem.W.dataLt (keyD l) (keyD l2) = false) : areWF S [.pr l x, .pr l2 y] = false := by
  unfold areWF
  have e : ascD ((keysW [Wi.pr l x, Wi.pr l2 y]).map keyD) = false := ascD_not (j := 0) (show 0 + 1 < 2 by decide) h
  rw [e, Bool.and_false, Bool.and_false]
theorem bad_997 {S : List Int} {x : Fv} (h : (997 : Int) ∉ S) : areWF S [.pr 997 x] = false := by
  unfold areWF
  have e : (keysW [Wi.pr 997 x]).all (fun l => decide (absI l ∈ S)) = false := List.all_eq_false.mpr ⟨997, List.mem_cons_self, by rw [show absI 997 = 997 from rfl, decide_eq_false h]; exact Bool.false_ne_true⟩
  rw [e, Bool.false_and, Bool.and_false]
def spLaw (K : PySem.W.Frag) (P0 P1 P2 P3 P4 P5 P6 Pw : Addr) : Sp := fun vs H Q _ => ∃ (sa : Addr) (ns : List Int), vs = [.ref sa] ∧ SqL K H sa (ns.map V.int) ∧ ns.length ≤ 63 ∧ GxR.TabG H P0 ∧ GxR.TabG H P1 ∧ GxR.TabG H P2 ∧ GxR.TabG H P3 ∧ GxR.TabG H P4 ∧ GxR.TabG H P5 ∧ GxR.TabG H P6 ∧ GxR.TabG H Pw ∧ ∀ H', Q (.bl true) H'
section
variable {P : Program} {w : World} {K : PySem.W.Frag} {mg : Str → Option Value} {base : Heap} {uG : Value} {f : Addr} {fd : FuncData} {P0 P1 P2 P3 P4 P5 P6 Pw : Addr}
theorem ok_law (F : Fun K "law" "law" s_law f fd) (T : Tx K mg uG) (D_l_draw : Df P w K mg base 1 "_law_draw" ["script"] (spDrawC K)) (D_l_take : Df P w K mg base 1 "_law_take" ["draw", "many"] spTakeC) (D_l_formula : Df P w K mg base 3 "_law_formula" ["draw", "most", "hidden_most", "clauses"] spLFormula) (D_l_weights : Df P w K mg base 3 "_law_weights" ["draw", "formula"] spLWeights)
  (D_formula_faults : Df P w K mg base 11 "formula_faults" ["value"] (spFaults [P0, P1, P2, P3, P4, P5, P6])) (D_are_weights : Df P w K mg base 10 "are_weights" ["formula", "value"] (spAreW K Pw P3)) (D_weight_of : Df P w K mg base 1 "weight_of" ["weights", "literal"] spWeightOf) (D_l_bent : Df P w K mg base 2 "_law_bent" ["draw", "formula"] spBent) (D_l_due : Df P w K mg base 3 "_law_due" ["value"] spDueX) : FnOk P w K mg base CX0 12 f fd ["script"] (spLaw K P0 P1 P2 P3 P4 P5 P6 Pw) := by
  refine F.ok sc_law (fun vs H Q E h => ?_) (fun cdv A outer s H vs Q E hr h => ?_)
  · obtain ⟨a, ns, rfl, _⟩ := h
    rfl
  · obtain ⟨sa, ns, rfl, hS, hlen, t0, t1, t2, t3, t4, t5, t6, tw, k⟩ := h
    have hsl : 1001 ≤ sizeLine := by decide
    refine ⟨_, (pss_cons (ps_set (i := 1) sc_law.nd rfl (.inl rfl) (pe_df D_l_draw (hr.mono (by decide)) (by rfl) (pa_cons (pv 0) pa_nil)))
    (pss_cons (ps_set (i := 2) sc_law.nd rfl (.inl rfl) (pe_df D_l_formula (hr.mono (by decide)) (by rfl) (pa_cons (pv 1) (pa_cons pe_int (pa_cons pe_int (pa_cons pe_int pa_nil))))))
    (pss_cons (ps_set (i := 3) sc_law.nd rfl (.inl rfl) (pe_df D_l_weights (hr.mono (by decide)) (by rfl) (pa_cons (pv 1) (pa_cons (pv 2) pa_nil))))
    (pss_cons (ps_if (PW.pt (pw_or (pt_cmpR (opK (K := K) (r := rNeD) rfl (op_neD hr.units)) (pe_df D_formula_faults (hr.mono (by decide)) (by rfl) (pa_cons (pv 2) pa_nil)) (pe_lst pa_nil) (nomark _)) (pw_or (pt_cmpR op_notB (pe_df D_are_weights (hr.mono (by decide)) (by rfl) (pa_cons (pv 2) (pa_cons (pv 3) pa_nil))) pe_bl (nomark _)) (pw_or1 (pt_cmpR op_notB (pe_df D_are_weights (hr.mono (by decide)) (by rfl) (pa_cons (pv 2) (pa_cons (pe_tup pa_nil) pa_nil))) pe_bl (nomark _))))))
      (pss_one (ps_ret pe_bl))
      pss_nil)
    (pss_cons (ps_for PassesOwn.never rfl (pi_tupK (K := K) rfl (pe_ix (ix_tupK (K := K) rfl) (pv 2) pe_int (fun _ _ => rfl))) (pg_name (i := 4) sc_law.nd rfl (.inl rfl))
      (pss_one (ps_for PassesOwn.never rfl (pi_listK (K := K) rfl (pe_lst (pa_cons (pv 4) (pa_cons (pe_un un_neg (pv 4)) pa_nil)))) (pg_name (i := 5) sc_law.nd rfl (.inr rfl))
      (pss_cons (ps_set (i := 6) sc_law.nd rfl (.inl rfl) (pe_op op_cat (pe_lc (own := [("row", 7)]) (g := gName 7) (by rfl) sc_law.nd (pi_tupK (K := K) rfl (pv 3)) (blkOk_by (own := [("row", 7)]) (N := n_law) (sc := defScope s_law) (by decide +kernel)) (fun _ _ _ _ _ => pg_name (i := 7) sc_law.nd rfl (Or.inl rfl)) (fun _ _ _ _ _ => pts_one (pt_cmpR op_eq (pe_ix (ix_tupK (K := K) rfl) (pv 7) pe_int (fun _ _ => rfl)) (pv 5) (nomark _))) (fun _ _ _ _ _ => (pe_ix (ix_tupK (K := K) rfl) (pv 7) pe_int (fun _ _ => rfl)))) (pe_lst (pa_cons (pe_tup (pa_cons pe_int (pa_cons pe_int pa_nil))) pa_nil))))
    (pss_one (ps_if (pt_cmpR (opK (K := K) (r := rNeD) rfl (op_neD hr.units)) (pe_df D_weight_of (hr.mono (by decide)) (by rfl) (pa_cons (pv 3) (pa_cons (pv 5) pa_nil))) (pe_ix (ix_listK (K := K) rfl) (pv 6) pe_int (fun _ _ => rfl)) (nomark _))
      (pss_one (ps_ret pe_bl))
      pss_nil))))))
    (pss_cons (ps_set (i := 8) sc_law.nd rfl (.inl rfl) (pe_ix (ix_tupK (K := K) rfl) (pe_ix (ix_tupK (K := K) rfl) (pv 2) pe_int (fun _ _ => rfl)) pe_int (fun _ _ => rfl)))
    (pss_cons (ps_for PassesOwn.never rfl (pi_listK (K := K) rfl (pe_lst (pa_cons (pe_tup (pa_cons (pe_tup (pa_cons (pv 8) (pa_cons (pe_tup (pa_cons pe_int (pa_cons pe_int pa_nil))) pa_nil))) pa_nil)) (pa_cons (pe_tup (pa_cons (pe_tup (pa_cons (pv 8) (pa_cons (pe_tup (pa_cons (pe_un un_neg pe_int) (pa_cons pe_int pa_nil))) pa_nil))) pa_nil)) (pa_cons (pe_tup (pa_cons (pe_tup (pa_cons (pv 8) (pa_cons (pe_tup (pa_cons pe_int (pa_cons pe_int pa_nil))) pa_nil))) pa_nil)) (pa_cons (pe_tup (pa_cons (pe_tup (pa_cons (pv 8) (pa_cons pe_int pa_nil))) pa_nil)) (pa_cons (pe_tup (pa_cons (pe_tup (pa_cons pe_int (pa_cons (pe_tup (pa_cons pe_int (pa_cons pe_int pa_nil))) pa_nil))) pa_nil)) (pa_cons (pe_tup (pa_cons (pe_tup (pa_cons pe_int (pa_cons (pe_tup (pa_cons pe_int (pa_cons pe_int pa_nil))) pa_nil))) pa_nil)) (pa_cons (pe_tup (pa_cons (pe_tup (pa_cons (pv 8) (pa_cons (pe_tup (pa_cons pe_int (pa_cons pe_int pa_nil))) pa_nil))) (pa_cons (pe_tup (pa_cons (pv 8) (pa_cons (pe_tup (pa_cons pe_int (pa_cons pe_int pa_nil))) pa_nil))) pa_nil))) (pa_cons (pe_tup (pa_cons (pe_tup (pa_cons (pv 8) (pa_cons (pe_tup (pa_cons pe_int (pa_cons pe_int pa_nil))) pa_nil))) (pa_cons (pe_tup (pa_cons (pe_un un_neg (pv 8)) (pa_cons (pe_tup (pa_cons pe_int (pa_cons pe_int pa_nil))) pa_nil))) pa_nil))) (pa_cons pe_str (pa_cons (pe_tup (pa_cons (pe_tup (pa_cons (pv 8) (pa_cons (pe_tup (pa_cons pe_int (pa_cons pe_int pa_nil))) (pa_cons pe_int pa_nil)))) pa_nil)) pa_nil)))))))))))) (pg_name (i := 9) sc_law.nd rfl (.inl rfl))
      (pss_one (ps_if (PW.pt (pw_and (pt_cmpR op_notB (pe_df D_are_weights (hr.mono (by decide)) (by rfl) (pa_cons (pv 2) (pa_cons (pv 9) pa_nil))) pe_bl (nomark _)) (pw_and1 (pt_cmpR (opK (K := K) (r := fun K => rIn K true) rfl op_notIn_seq) pe_int (pe_ix (ix_tupK (K := K) rfl) (pv 2) pe_int (fun _ _ => rfl)) (by rfl)))))
      (pss_one (ps_ret pe_bl))
      pss_nil)))
    (pss_cons (ps_set (i := 10) sc_law.nd rfl (.inl rfl) (pv 2))
    (pss_cons (ps_for PassesOwn.never rfl (pi_range1 (by rfl) T.z_range (pa_cons (pe_op op_add pe_int (pe_df D_l_take (hr.mono (by decide)) (by rfl) (pa_cons (pv 1) (pa_cons pe_int pa_nil)))) pa_nil)) (pg_name (i := 11) sc_law.nd rfl (.inl rfl))
      (Evl.pss_cut (ps_if (PW.pt (pw_and (pt_val (pe_callB (call_isiK (K := K) rfl) (by rfl) T.z_isinstance (by decide +kernel) (pa_cons (pv 10) (pa_cons (pe_bltn (by rfl) T.z_tuple (by decide +kernel) (show RelV (.ty "tuple") _ from rfl)) pa_nil)))) (pw_and (pt_cmpR op_eq (pe_callB (call_lenK (K := K) rfl) (by rfl) T.z_len (by decide +kernel) (pa_cons (pv 10) pa_nil)) pe_int (nomark _)) (pw_and1 (pt_val (pe_callB (call_isiK (K := K) rfl) (by rfl) T.z_isinstance (by decide +kernel) (pa_cons (pe_ix (ix_tupK (K := K) rfl) (pv 10) pe_int (fun _ _ => rfl)) (pa_cons (pe_bltn (by rfl) T.z_tuple (by decide +kernel) (show RelV (.ty "tuple") _ from rfl)) pa_nil))))))))
      (pss_one (ps_set (i := 10) sc_law.nd rfl (.inl rfl) (pe_df D_l_bent (hr.mono (by decide)) (by rfl) (pa_cons (pv 1) (pa_cons (pv 10) pa_nil)))))
      pss_nil)
    (pss_cons (ps_set (i := 12) sc_law.nd rfl (.inl rfl) (pe_df D_formula_faults (hr.mono (by decide)) (by rfl) (pa_cons (pv 10) pa_nil)))
    (pss_cons (ps_set (i := 6) sc_law.nd rfl (.inl rfl) (pe_df D_l_due (hr.mono (by decide)) (by rfl) (pa_cons (pv 10) pa_nil)))
    (Evl.pss_cut (ps_if (pt_cmpR (opK (K := K) (r := fun K => rIn K false) rfl op_in_seq) pe_str (pv 6) (by rfl))
      (pss_one (ps_setLc (i := 12) (own := [("code", 13)]) (g := gName 13) (by rfl) sc_law.nd rfl rfl (sw_true rfl rfl rfl (by decide +kernel)) (pi_listK (K := K) rfl (pv 12)) (blkOk_by (own := [("code", 13)]) (N := n_law) (sc := defScope s_law) (by decide +kernel)) (fun _ _ _ _ _ => pg_name (i := 13) sc_law.nd rfl (Or.inl rfl)) (fun _ _ _ _ _ => pts_one (pt_cmpR op_ne (pv 13) pe_str (nomark _))) (fun _ _ _ _ _ => (pv 13))))
      pss_nil)
    (pss_one (ps_if (pt_cmpR (opK (K := K) (r := rNeD) rfl (op_neD hr.units)) (pv 12) (pv 6) (nomark _))
      (pss_one (ps_ret pe_bl))
      pss_nil)))))))
    (pss_one (ps_ret pe_bl))))))))))), ?_⟩
    rw [show start n_law [(.ref sa : V)] = ([some (.ref sa), none, none, none, none, none, none, none, none, none, none, none, none, none] : List (Option V)) from rfl]
    walk_at "rd"
    refine ⟨sa, ns, rfl, hS, hlen, fun d c H1 hd k0 hD1 => ?_⟩
    walk_at "rd"
    refine ⟨d, c, 5, 3, 6, rfl, by decide, by decide, by decide, hD1, fun p H2 S Hd rc k1 hF hff => ?_⟩
    have hD2 := k1.drw hD1
    have hSl := hff.sLen
    have hHl := hff.hLen
    have hRl := hff.rLen
    walk_at "rd"
    refine ⟨d, c, p, S, Hd, rc, rfl, hD2, hF, by omega, fun q H3 qs ws k2 hq hws hwf => ?_⟩
    have hD3 := k2.drw hD2
    have hF3 := hF.keptC k2 hD2
    have kA := k1.trans k2
    have hwl := hwf.len
    have tabs : ∀ H', KeptC d c H1 H' → (∀ P ∈ [P0, P1, P2, P3, P4, P5, P6], GxR.TabG H' P) ∧ GxR.TabG H' Pw ∧ GxR.TabG H' P3 := fun H' kk => by
      refine ⟨fun P hP => ?_, kk.tab _ (k0.tab _ tw), kk.tab _ (k0.tab _ t3)⟩
      simp only [List.mem_cons, List.not_mem_nil, or_false] at hP
      rcases hP with rfl | rfl | rfl | rfl | rfl | rfl | rfl
      · exact kk.tab _ (k0.tab _ t0)
      · exact kk.tab _ (k0.tab _ t1)
      · exact kk.tab _ (k0.tab _ t2)
      · exact kk.tab _ (k0.tab _ t3)
      · exact kk.tab _ (k0.tab _ t4)
      · exact kk.tab _ (k0.tab _ t5)
      · exact kk.tab _ (k0.tab _ t6)
    have hsz6 : SzV 6 (.tr (S.map At.i) (Hd.map At.i) (rc.map Im.t)) := ⟨by rw [List.length_map]; omega, by rw [List.length_map]; omega, by rw [List.length_map]; omega, fun m hm => by
      obtain ⟨c, hc, rfl⟩ := List.mem_map.mp hm
      exact ⟨fun ls e => by cases e; exact (hff.cls c hc).2.1⟩⟩
    obtain ⟨ps, ph, pr, rb, hp3, hs3, hh3, hr3, hrb3⟩ := hF3.ex
    have areW : ∀ H', Kept H3 H' → ∀ (v : V) (R : VK), ((∃ t, v = .str t ∧ ∀ H'', Kept H' H'' → R (.bl false) H'') ∨ ∃ (q : Addr) (us : List V) (ms : List Wi), v = .ref q ∧ H' q = some (.tup us) ∧ WsAt H' us ms ∧ ms.length ≤ 1000 ∧ ∀ H'', Kept H' H'' → R (.bl (areWF S ms)) H'') → spAreW K Pw P3 [.ref p, v] H' R E0 := fun H' k4 v R h =>
      ⟨p, ps, S, .ref ph, .ref pr, v, rfl, k4.tup hp3, k4.tup hs3, by omega, (tabs H' (kA.trans k4.toC)).2.1, (tabs H' (kA.trans k4.toC)).2.2, h⟩
    walk_at "rd"
    refine ⟨.ref p, .tr (S.map At.i) (Hd.map At.i) (rc.map Im.t), rfl, ⟨p, rfl, tr_of hF3⟩, hsz6.mono (by decide), (tabs H3 kA).1, fun u H4 k3 hu => ?_⟩
    rw [none_fault hff] at hu
    walk_at "rd"
    refine ⟨Nat.zero_le _, fun e he => ?_⟩
    have ke := Kept.new (o := .lst []) he
    refine w_neSS (xs := []) (fun z hz => by cases hz) (ke.lst hu) upd_same ?_
    have k4 := k3.trans ke
    generalize upd H4 e (.lst []) = H5 at ke k4 ⊢
    walk_at "rd"
    refine areW H5 k4 _ _ (.inr ⟨q, _, wisOf ws, rfl, k4.tup hq, (ws_of hws).kept k4, by unfold wisOf; rw [List.length_map]; omega, fun H6 k5 => ?_⟩)
    rw [wts_ok hff.sAsc hff.sVar hwf]
    refine ⟨_, _, rfl, rfl, ?_⟩
    have k6 := k4.trans k5
    walk_at "rd"
    refine ⟨Nat.zero_le _, fun e2 he2 => ?_⟩
    have ke2 := Kept.new (o := .tup []) he2
    have k7 := k6.trans ke2
    have he2' : upd H6 e2 (.tup []) e2 = some (.tup []) := upd_same
    generalize upd H6 e2 (.tup []) = H7 at ke2 k7 he2' ⊢
    walk_at "rd"
    refine areW H7 k7 _ _ (.inr ⟨e2, [], [], rfl, he2', ⟨rfl, fun i v m h => by cases h⟩, Nat.zero_le _, fun H8 k8 => ?_⟩)
    rw [show areWF S [] = true from rfl]
    refine ⟨_, _, rfl, rfl, ?_⟩
    have k9 := k7.trans k8
    have hp9 := k9.tup hp3
    have hs9 := k9.tup hs3
    have hq9 := k9.tup hq
    have hws9 := hws.kept k9
    walk_at "rd"
    refine FrT.mk (xs := S.map V.int) (fun i σ' H' => ∃ v4 v5 v6 v7, σ' = [some (.ref sa), some (.ref d), some (.ref p), some (.ref q), v4, v5, v6, v7, none, none, none, none, none, none] ∧ Kept H8 H') ⟨_, _, _, _, rfl, Kept.refl _⟩ (fun i σ' H' _ h => by
      obtain ⟨_, _, _, _, _, k1⟩ := h
      exact SqT.of (k1.tup hs9)) ?_ ?_
    · rintro i x σ' H' hx ⟨v4, v5, v6, v7, rfl, kx⟩
      obtain ⟨v, rfl, hn⟩ := map_int hx
      walk_at "rd"
      refine ⟨by show 2 ≤ sizeLine; omega, fun L hL => ?_⟩
      have kL := kx.trans (Kept.new (o := .lst [V.int v, V.int (-v)]) hL)
      have hL1 : upd H' L (.lst [V.int v, V.int (-v)]) L = some (.lst [V.int v, V.int (-v)]) := upd_same
      generalize upd H' L (.lst [V.int v, V.int (-v)]) = H9 at kL hL1 ⊢
      refine FrL.mk (xs := [V.int v, V.int (-v)]) (fun j σ' Hx => ∃ v5 v6 v7, σ' = [some (.ref sa), some (.ref d), some (.ref p), some (.ref q), some (.int v), v5, v6, v7, none, none, none, none, none, none] ∧ Kept H9 Hx) ⟨_, _, _, rfl, Kept.refl _⟩ (fun i σ' H' _ h => by
        obtain ⟨_, _, _, _, k1⟩ := h
        exact SqL.of (k1.lst hL1)) ?_ ?_
      · rintro j x σ' H10 hx ⟨v5, v6, v7, rfl, k10⟩
        obtain ⟨l, rfl, hlj⟩ := map_int (ns := [v, -v]) hx
        have k11 := kL.trans k10
        have hq10 := k11.tup hq9
        have hws10 := hws9.kept k11
        walk_at "rd"
        refine ⟨q, rfl, ⟨_, SqT.of hq10⟩, fun D hD => c_tup (xs := qs.map V.ref) (fun i H => Kept H10 H ∧ ∃ rs : List Addr, H D = some (.lst (rs.map V.ref)) ∧ rs.length ≤ i ∧ ((rs = [] ∧ ((ws.take i).find? fun x => decide (x.1 = l)) = none) ∨ ∃ r rest x, rs = r :: rest ∧ ((ws.take i).find? fun x => decide (x.1 = l)) = some x ∧ FrAt H10 r x.2)) ⟨Kept.new hD, [], upd_same, Nat.le_refl _, .inl ⟨rfl, by rw [List.take_zero] <;> rfl⟩⟩ (fun i H _ h => SqT.of (h.1.tup hq10)) (fun i x H11 hx h => ?_) fun H11 h => ?_⟩
        · obtain ⟨k12, rs, hDr, hrl, hor⟩ := h
          obtain ⟨b, rfl, hb⟩ := map_ref hx
          have hi : i < ws.length := by rw [← hws.1]; exact (List.getElem?_eq_some_iff.mp hb).1
          have hwi : ws[i]? = some ws[i] := List.getElem?_eq_getElem hi
          obtain ⟨fq, hbt, hfr⟩ := (hws10.2 i b _ hb hwi).ex
          have et : ws.take (i + 1) = ws.take i ++ [ws[i]] := by rw [List.take_add_one, hwi]; rfl
          rw [et, List.find?_append]
          generalize ws[i] = y at hbt hfr ⊢
          have hb11 := k12.tup hbt
          refine ⟨rfl, ?_⟩
          walk_at "rd"
          by_cases e : y.1 = l
          · refine if_t (decide_eq_true (by rw [e])) ?_
            walk_at "rd"
            refine ⟨_, hDr, by rw [List.length_map]; omega, Kept.mut k12 hD, rs ++ [fq], by rw [List.map_append]; exact upd_same, by rw [List.length_append]; show rs.length + 1 ≤ i + 1; omega, ?_⟩
            rcases hor with ⟨rfl, hno⟩ | ⟨r, rest, x, rfl, hx1, hx2⟩
            · refine .inr ⟨fq, [], y, rfl, ?_, hfr⟩
              rw [hno, List.find?_cons, decide_eq_true e] <;> rfl
            · exact .inr ⟨r, rest ++ [fq], x, rfl, by rw [hx1] <;> rfl, hx2⟩
          · refine if_f (decide_eq_false fun z => e (V.int.inj z)) ?_
            refine ⟨k12, rs, hDr, by omega, ?_⟩
            rcases hor with ⟨rfl, hno⟩ | ⟨r, rest, x, rfl, hx1, hx2⟩
            · refine .inl ⟨rfl, ?_⟩
              rw [hno, List.find?_cons, decide_eq_false e] <;> rfl
            · exact .inr ⟨r, rest, x, rfl, by rw [hx1] <;> rfl, hx2⟩
        · obtain ⟨k12, rs, hDr, hrl, hor⟩ := h
          rw [List.length_map, hws.1] at hrl
          rw [List.length_map, hws.1, List.take_length] at hor
          walk_at "rd"
          refine ⟨by show 2 ≤ sizeLine; omega, fun t ht => ?_⟩
          have kt := Kept.new (o := .tup [V.int 1, V.int 1]) ht
          walk_at "rd"
          refine ⟨by show 1 ≤ sizeLine; omega, fun e3 he3 => ?_⟩
          have ke3 := Kept.new (o := .lst [V.ref t]) he3
          have k13 := kt.trans ke3
          have ht3 := ke3.tup (H := upd H11 t (.tup [V.int 1, V.int 1])) (p := t) upd_same
          refine ⟨D, e3, rs.map V.ref, [V.ref t], rfl, rfl, k13.lst hDr, upd_same, by rw [List.length_map]; show rs.length + 1 ≤ sizeLine; omega, fun g hg => ?_⟩
          have kg := Kept.new (o := .lst (rs.map V.ref ++ [V.ref t])) hg
          have k14 := k13.trans kg
          have hg2 : upd (upd (upd H11 t (.tup [V.int 1, V.int 1])) e3 (.lst [V.ref t])) g (.lst (rs.map V.ref ++ [V.ref t])) g = some (.lst (rs.map V.ref ++ [V.ref t])) := upd_same
          have ht4 := kg.tup ht3
          generalize upd (upd (upd H11 t (.tup [V.int 1, V.int 1])) e3 (.lst [V.ref t])) g (.lst (rs.map V.ref ++ [V.ref t])) = H12 at kg k14 hg2 ht4 ⊢
          have k15 := k12.trans k14
          walk_at "rd"
          refine ⟨q, l, qs, ws, rfl, k15.tup hq10, hws10.kept k15, fun o1 H13 k16 ho => ?_⟩
          have head : ∃ r, atI (rs.map V.ref ++ [V.ref t]) 0 = some (.ref r) ∧ FrAt H13 r (wOf ws l) := by
            rcases hor with ⟨rfl, hno⟩ | ⟨r, rest, x, rfl, hx1, hx2⟩
            · refine ⟨t, atI_nat (j := 0) rfl, ?_⟩
              have e : wOf ws l = (1, 1) := by unfold wOf; rw [hno] <;> rfl
              rw [e]
              exact k16.tup ht4
            · refine ⟨r, atI_nat (j := 0) rfl, ?_⟩
              have e : wOf ws l = x.2 := by unfold wOf; rw [hx1] <;> rfl
              rw [e]
              exact k16.tup (k15.tup hx2)
          obtain ⟨r, hr0, hr1⟩ := head
          walk_at "rd"
          refine w_ixL (k16.lst hg2) hr0 ?_
          refine w_neFr ho hr1 ?_
          walk_at "rd"
          exact ⟨_, _, _, rfl, k10.trans (k15.trans k16)⟩
      · rintro σ' H10 ⟨v5, v6, v7, rfl, k10⟩
        exact ⟨_, _, _, _, rfl, kL.trans k10⟩
    rintro σ' H9 ⟨v4, v5, v6, v7, rfl, k10⟩
    have k11 := k9.trans k10
    have hp11 := k11.tup hp3
    have hs11 := k11.tup hs3
    obtain ⟨one, rest, hone⟩ : ∃ one rest, S = one :: rest := by
      have := hff.sPos
      cases S with
      | nil => simp at this
      | cons one rest => exact ⟨one, rest, rfl⟩
    have hone1 := hff.sVar one (by rw [hone]; exact List.mem_cons_self)
    walk_at "rd"
    refine w_ixT hs11 (v := .int one) (atI_nat (j := 0) (by rw [hone]; rfl)) ?_
    have m8 : MkE [some (.ref sa), some (.ref d), some (.ref p), some (.ref q), v4, v5, v6, v7, some (.int one), none, none, none, none, none] H9 (tVar 8) (fun v _ => v = .int one) := mk_var rfl
    have b1 : isWtF (.pr one (.p 2 4)) = false := by
      show (isLit one && (isFracF (.p 2 4) && _)) = false
      rw [show isFracF (.p 2 4) = false by decide, Bool.false_and, Bool.and_false]
    have b2 : isWtF (.pr one (.p (-1) 2)) = false := by
      show (isLit one && (_ && decide (0 ≤ fvN (.p (-1) 2)))) = false
      rw [show decide (0 ≤ fvN (.p (-1) 2)) = false by decide, Bool.and_false, Bool.and_false]
    have b3 : isWtF (.pr one (.p 1 0)) = false := by
      show (isLit one && (isFracF (.p 1 0) && _)) = false
      rw [show isFracF (.p 1 0) = false by decide, Bool.false_and, Bool.and_false]
    have b4 : isWtF (.pr one (.n 3)) = false := by
      show (isLit one && (isFracF (.n 3) && _)) = false
      rw [show isFracF (.n 3) = false from rfl, Bool.false_and, Bool.and_false]
    have b5 : areWF S [.pr 997 (.p 1 2)] = false ∨ (997 : Int) ∈ S := by
      by_cases h : (997 : Int) ∈ S
      · exact .inr h
      · exact .inl (bad_997 h)
    have b6 : isWtF (.pr 0 (.p 1 1)) = false := by
      show (isLit 0 && (isFracF (.p 1 1) && decide (0 ≤ fvN (.p 1 1)))) = false
      rw [show isLit 0 = false by decide, Bool.false_and]
    have b7 : PySem.W.dataLt (keyD one) (keyD one) = false := by
      rw [keyD_lt, if_pos rfl]
      exact decide_eq_false (by omega)
    have b8 : PySem.W.dataLt (keyD one) (keyD (-one)) = false := by
      have a1 : absI (-one) = one := by unfold absI; rw [if_pos (by omega)]; omega
      have a2 : absI one = one := by unfold absI; rw [if_neg (by omega)]
      have a3 : sgI (-one) = 0 := by unfold sgI; rw [if_neg (by omega)]
      have a4 : sgI one = 1 := by unfold sgI; rw [if_pos (by omega)]
      rw [keyD_lt, a1, a2, a3, a4, if_pos rfl]
      decide
    have mA := mk_cons (mk_b1 (S := S) (mk_wp m8 (mk_t2 (mk_c (v := .int 2)) (mk_c (v := .int 4)))) (.inl (bad_wt b1))) (mk_cons (mk_b1 (S := S) (mk_wp m8 (mk_t2 (mk_neg (mk_c (v := .int 1))) (mk_c (v := .int 2)))) (.inl (bad_wt b2))) (mk_cons (mk_b1 (S := S) (mk_wp m8 (mk_t2 (mk_c (v := .int 1)) (mk_c (v := .int 0)))) (.inl (bad_wt b3))) (mk_cons (mk_b1 (S := S) (mk_wn m8 (mk_c (v := .int 3))) (.inl (bad_wt b4))) (mk_cons (mk_b1 (S := S) (mk_wp (mk_c (v := .int 997)) (mk_t2 (mk_c (v := .int 1)) (mk_c (v := .int 2)))) b5) (mk_cons (mk_b1 (S := S) (mk_wp (mk_c (v := .int 0)) (mk_t2 (mk_c (v := .int 1)) (mk_c (v := .int 1)))) (.inl (bad_wt b6)))
      (mk_cons (mk_b2 (S := S) (mk_wp m8 (mk_t2 (mk_c (v := .int 1)) (mk_c (v := .int 1)))) (mk_wp m8 (mk_t2 (mk_c (v := .int 1)) (mk_c (v := .int 1)))) (.inl (bad_key b7))) (mk_cons (mk_b2 (S := S) (mk_wp m8 (mk_t2 (mk_c (v := .int 1)) (mk_c (v := .int 1)))) (mk_wp (mk_neg m8) (mk_t2 (mk_c (v := .int 1)) (mk_c (v := .int 1)))) (.inl (bad_key b8))) (mk_cons (mk_bs (S := S) (t := Str.ofString "weights")) (mk_cons (mk_b1 (S := S) (mk_w3 m8 (mk_t2 (mk_c (v := .int 1)) (mk_c (v := .int 2))) (mk_c (v := .int 3))) (.inl (bad_wt rfl))) mk_nil)))))))))
    refine w_seq ?_
    refine w_forL ?_
    refine w_lst ?_
    refine mA.run H9 _ (Kept.refl _) fun xs H10 k12 w => ?_
    obtain ⟨v1, _, rfl, w1, v2, _, rfl, w2, v3, _, rfl, w3, u4, _, rfl, w4, u5, _, rfl, w5, u6, _, rfl, w6, u7, _, rfl, w7, u8, _, rfl, w8, u9, _, rfl, w9, u10, _, rfl, w10, rfl⟩ := w
    have hall : ∀ v ∈ [v1, v2, v3, u4, u5, u6, u7, u8, u9, u10], BadW S v H10 := by
      intro v hv
      simp only [List.mem_cons, List.not_mem_nil, or_false] at hv
      rcases hv with rfl | rfl | rfl | rfl | rfl | rfl | rfl | rfl | rfl | rfl
      · exact w1
      · exact w2
      · exact w3
      · exact w4
      · exact w5
      · exact w6
      · exact w7
      · exact w8
      · exact w9
      · exact w10
    have hlen10 : [v1, v2, v3, u4, u5, u6, u7, u8, u9, u10].length = 10 := rfl
    generalize [v1, v2, v3, u4, u5, u6, u7, u8, u9, u10] = bads at hall hlen10 ⊢
    refine ⟨by omega, fun L hL => ?_⟩
    have kL := Kept.new (o := .lst bads) hL
    have hL1 : upd H10 L (.lst bads) L = some (.lst bads) := upd_same
    generalize upd H10 L (.lst bads) = H11 at kL hL1 ⊢
    have k13 := (k11.trans k12).trans kL
    refine FrL.mk (xs := bads) (fun i σ' H' => ∃ v9, σ' = [some (.ref sa), some (.ref d), some (.ref p), some (.ref q), v4, v5, v6, v7, some (.int one), v9, none, none, none, none] ∧ Kept H11 H') ⟨_, rfl, Kept.refl _⟩ (fun i σ' H' _ h => by
      obtain ⟨_, _, k1⟩ := h
      exact SqL.of (k1.lst hL1)) ?_ ?_
    · rintro i x σ' H12 hx ⟨v9, rfl, k14⟩
      have hb := badW_up _ _ _ (kL.trans k14) (hall x (List.mem_of_getElem? hx))
      have k15 := k13.trans k14
      have hp15 := k15.tup hp3
      have hs15 := k15.tup hs3
      walk_at "rd"
      rcases hb with ⟨t, rfl⟩ | ⟨q2, us, ms, rfl, hq2, hms, hml, hor⟩
      · refine areW H12 k15 _ _ (.inl ⟨t, rfl, fun H13 k16 => ?_⟩)
        refine ⟨_, _, rfl, rfl, ?_⟩
        walk_at "rd"
        exact ⟨_, rfl, k14.trans k16⟩
      · refine areW H12 k15 _ _ (.inr ⟨q2, us, ms, rfl, hq2, hms, hml, fun H13 k16 => ?_⟩)
        refine ⟨_, _, rfl, rfl, ?_⟩
        cases ha : areWF S ms with
        | false =>
          walk_at "rd"
          exact ⟨_, rfl, k14.trans k16⟩
        | true =>
          have h997 : (997 : Int) ∈ S := by
            rcases hor with h | h
            · rw [ha] at h
              cases h
            · exact h
          have hp16 := k16.tup hp15
          walk_at "rd"
          refine w_ninT (k16.tup hs15) ?_
          refine ⟨_, rfl, if_f (decide_eq_false (fun z => z h997)) ?_⟩
          walk_at "rd"
          exact ⟨_, rfl, k14.trans k16⟩
    rintro σ' H12 ⟨v9, rfl, k14⟩
    have k15 := k13.trans k14
    have kV : KeptC d c H1 H12 := kA.trans k15.toC
    walk_at "rd"
    refine ⟨d, c, 2, rfl, by decide, by decide, kV.drw hD1, fun r H13 l1 g1 k16 => ?_⟩
    obtain ⟨m, rfl⟩ : ∃ m : Nat, r = (m : Int) := ⟨r.toNat, by omega⟩
    have kW := kV.trans k16
    walk_at "rd"
    rw [show (1 + (m : Int)) = ((1 + m : Nat) : Int) by omega]
    refine Fr1.mk (by omega) (fun i σ' H' => ∃ (v4 v5 v6 v7 v9 v11 v12 v13 : Option V) (v : V) (x : Vl), σ' = [some (.ref sa), some (.ref d), some (.ref p), some (.ref q), v4, v5, v6, v7, some (.int one), v9, some v, v11, v12, v13] ∧ KeptC d c H1 H' ∧ ValAt H' v x ∧ SzV (6 + i) x)
      ⟨_, _, _, _, _, _, _, _, .ref p, .tr (S.map At.i) (Hd.map At.i) (rc.map Im.t), rfl, kW, ⟨p, rfl, tr_of ((hF3.kept k15).keptC k16 (kV.drw hD1))⟩, hsz6⟩ ?_ ?_
    · rintro i σ' H14 hi ⟨v4, v5, v6, v7, v9, v11, v12, v13, v, x, rfl, k17, hv, hsz⟩
      have hD14 := k17.drw hD1
      walk_at "rd"
      refine ⟨fun σ' H' => ∃ (v4 v5 v6 v7 v9 v11 v12 v13 : Option V) (v : V) (x : Vl), σ' = [some (.ref sa), some (.ref d), some (.ref p), some (.ref q), v4, v5, v6, v7, some (.int one), v9, some v, v11, v12, v13] ∧ KeptC d c H1 H' ∧ ValAt H' v x ∧ SzV (7 + i) x, ?_, ?_⟩
      · have stay : ∃ (v4' v5' v6' v7' v9' v11' v12' v13' : Option V) (v' : V) (x' : Vl), [some (V.ref sa), some (V.ref d), some (V.ref p), some (V.ref q), v4, v5, v6, v7, some (V.int one), v9, some v, some (V.int (i : Int)), v12, v13] = [some (V.ref sa), some (V.ref d), some (V.ref p), some (V.ref q), v4', v5', v6', v7', some (V.int one), v9', some v', v11', v12', v13'] ∧ KeptC d c H1 H14 ∧ ValAt H14 v' x' ∧ SzV (7 + i) x' := ⟨_, _, _, _, _, _, _, _, v, x, rfl, k17, hv, hsz.mono (by omega)⟩
        cases x with
        | non =>
          have e : v = .non := hv
          subst e
          walk_at "rd"
          exact stay
        | int =>
          have e : v = .int 7 := hv
          subst e
          walk_at "rd"
          exact stay
        | tup n =>
          obtain ⟨p1, ys, rfl, hp1, hl1⟩ := hv
          walk_at "rd"
          refine w_isi_tt hp1 ?_
          walk_at "rd"
          refine ⟨p1, _, rfl, .inr (SqT.of hp1), ?_⟩
          walk_at "rd"
          refine if_f ?_ ?_
          · have e : decide (V.int (n : Int) = V.int 3) = false := decide_eq_false fun e => hsz.1 (by have := V.int.inj e; omega)
            rw [hl1, e]
          exact stay
        | stx =>
          obtain ⟨p1, z, a, b, xs, ys, rfl, hp1, _⟩ := hv
          walk_at "rd"
          refine w_isi_tt hp1 ?_
          walk_at "rd"
          refine ⟨p1, _, rfl, .inr (SqT.of hp1), ?_⟩
          walk_at "rd"
          exact stay
        | tr S2 Hd2 R2 =>
          obtain ⟨p1, rfl, hF1⟩ := hv
          obtain ⟨qs1, qh1, qr1, us1, hp1, hs1, _⟩ := hF1.ex
          walk_at "rd"
          refine w_isi_tt hp1 ?_
          walk_at "rd"
          refine ⟨p1, _, rfl, .inr (SqT.of hp1), ?_⟩
          walk_at "rd"
          refine w_isi_tt hs1 ?_
          walk_at "rd"
          refine ⟨d, c, p1, S2, Hd2, R2, 6 + i, rfl, hD14, hF1, hsz, by omega, fun v' H15 x' k18 hv' hsz' => ?_⟩
          exact ⟨_, _, _, _, _, _, _, _, v', x', rfl, k17.trans k18, hv', hsz'.mono (by omega)⟩
      · rintro σ' H15 ⟨v4, v5, v6, v7, v9, v11, v12, v13, v, x, rfl, k18, hv, hsz⟩
        have hsz8 : SzV 8 x := hsz.mono (by omega)
        walk_at "rd"
        refine ⟨v, x, rfl, hv, hsz8, (tabs H15 k18).1, fun u H16 k19 hu => ?_⟩
        walk_at "rd"
        have mkd : ∀ (R : VK), (∀ (g : Addr) (H17 : Hp) (due : List Str), Kept H16 H17 → H17 g = some (.lst (due.map V.str)) → OkS due → endL due (faultsV x) = due → R (.ref g) H17) → spDueX [v] H16 R E0 := fun R h => by
          refine ⟨v, x, rfl, hv.kept k19, hsz8, fun S2 Hd2 R2 e g H17 fs k hg hfs => ?_, fun hn g H17 k hg => ?_⟩
          · subst e
            exact h g H17 (dueL fs) k hg codes_ok (due_eq hfs)
          · have e1 : faultsV x = [sF] := by
              cases x with
              | tr S2 Hd2 R2 => exact absurd rfl (hn S2 Hd2 R2)
              | tup n => rfl
              | stx => rfl
              | non => rfl
              | int => rfl
            have e2 : sV ∉ [sF] := by
              rw [List.mem_singleton]
              decide +kernel
            refine h g H17 [sF] k hg (fun z hz => .inr (List.mem_singleton.mp hz)) ?_
            unfold endL
            rw [if_neg e2, e1]
        refine mkd _ fun g H17 due k20 hg hok he => ?_
        have hu17 := k20.lst hu
        have hfo := faults_ok x
        have hfl : (faultsV x).length ≤ 8 := by
          cases x with
          | tr S2 Hd2 R2 =>
            show (flt1 S2 Hd2 ++ flt2 R2 ++ flt3 S2 Hd2 R2).length ≤ 8
            have l1 : (flt1 S2 Hd2).length ≤ 1 := by unfold flt1; split <;> simp
            have l2 : (flt2 R2).length ≤ 1 := by unfold flt2; split <;> (try split) <;> simp
            have l3 : (flt3 S2 Hd2 R2).length ≤ 1 := by unfold flt3; split <;> (try split) <;> simp
            rw [List.length_append, List.length_append]
            omega
          | tup n => exact (by decide : 1 ≤ 8)
          | stx => exact (by decide : 1 ≤ 8)
          | non => exact (by decide : 1 ≤ 8)
          | int => exact (by decide : 1 ≤ 8)
        generalize faultsV x = fl at *
        have k21 : KeptC d c H1 H17 := k18.trans (k19.trans k20).toC
        have hv17 := (hv.kept k19).kept k20
        walk_at "rd"
        refine ⟨fun σ' H' => ∃ (u2 : Addr) (v13 : Option V), σ' = [some (.ref sa), some (.ref d), some (.ref p), some (.ref q), v4, v5, some (.ref g), v7, some (.int one), v9, some v, v11, some (.ref u2), v13] ∧ Kept H17 H' ∧ H' u2 = some (.lst ((endL due fl).map V.str)), ?_, ?_⟩
        · walk_at "rd"
          refine w_inS hg ?_
          refine ⟨_, rfl, ?_⟩
          by_cases hin : Str.ofString "variable" ∈ due
          · refine if_t (decide_eq_true hin) ?_
            have e1 : endL due fl = fl.filter fun z => decide (z ≠ sB) := by
              unfold endL
              exact if_pos (show sV ∈ due from hin)
            rw [e1]
            walk_at "rd"
            refine LcL.run (xs := fl.map V.str) (fun i => decide (fl.getD i sF ≠ sB)) (fun i => V.str (fl.getD i sF)) (by rw [List.length_map]; omega) hu17 (fun i x H18 kk kk2 hx kp h1 h2 => ?_) fun D9 H9 hD9 kp9 hDl9 => ?_
            · rw [List.getElem?_map] at hx
              obtain ⟨z, hz, rfl⟩ := Option.map_eq_some_iff.mp hx
              have e1 : fl.getD i sF = z := by rw [List.getD_eq_getElem?_getD, hz] <;> rfl
              rw [e1] at h1 h2
              walk_at "rd"
              by_cases hb : z ≠ sB
              · refine if_t (by rw [decide_eq_false (show ¬ V.str z = V.str (Str.ofString "both") from fun e => hb (V.str.inj e))]; rfl) ?_
                walk_at "rd"
                exact h1 H18 (Kept.refl _) (decide_eq_true hb)
              · refine if_f (by rw [decide_eq_true (show V.str z = V.str (Str.ofString "both") from congrArg V.str (Classical.not_not.mp hb))]; rfl) ?_
                exact h2 H18 (Kept.refl _) (decide_eq_false hb)
            · walk_at "rd"
              refine ⟨D9, _, rfl, kp9, ?_⟩
              rw [hDl9, List.length_map]
              exact congrArg (fun z => some (HO.lst z)) (range_filter sF (fun z => decide (z ≠ sB)) V.str fl)
          · refine if_f (decide_eq_false hin) ?_
            have e1 : endL due fl = fl := by
              unfold endL
              exact if_neg (show sV ∉ due from hin)
            rw [e1]
            walk_at "rd"
            exact ⟨u, _, rfl, Kept.refl _, hu17⟩
        · rintro σ' H18 ⟨u2, v13, rfl, k22, hu2⟩
          rw [he] at hu2
          walk_at "rd"
          refine w_neSS hok hu2 (k22.lst hg) ?_
          walk_at "rd"
          exact ⟨_, _, _, _, _, _, _, _, v, x, rfl, k21.trans k22.toC, hv17.kept k22, hsz.mono (by omega)⟩
    · rintro σ' H14 ⟨v4, v5, v6, v7, v9, v11, v12, v13, v, x, rfl, k17, hv, hsz⟩
      walk_at "rd"
      exact k H14
end
end Ky

namespace Ky
open PySem PySem.Spec PyProof.Rows L2
/-- the end of a row by what the top has left: the law's promise may lean on the tables of code objects -/
theorem walk_own {l : PySem.W.OpenLaw} {n k : Nat} {q : Program} {loose : List Str} {XP : (Str → Option Value) → Heap → Prop} {YP : World → Heap → Prop} {d : DefRec} {K : Params → PySem.W.Frag} {x : Str}
    (hn : l.most = some n) (hn2 : n ≤ sizeLine) (hdf : d.params.defaults = []) (hr : Room k callerA) (hK : ∀ (w : World) (h : Heap), YP w h → (K w.params).In h)
    (F : ∀ (w : World) (s0 : Shared) (mg mb : Str → Option Value) (fa : Addr) (h : Heap), PySem.W.Ground q loose [] XP w s0 mg mb h → YP w h →
      mg d.name = some (.ref fa) → (K w.params).In h → LamX.LawAtS l w (K w.params) CX0 k n x mg fa h) :
    PySem.W.WalkO q loose XP YP l.row.toRowW d [] (fun f vs => PySem.call f vs) :=
  Att.attach_callB hn hdf fun w s0 s1 mg mb fa _ _ _ _ a _ ns G Y _ _ _ hm ho hi hl hz hg => by
    have X := hK w s1.heap Y
    obtain ⟨fd, cs, sp, t1, t2, t3, t4, t5, t6⟩ := F w s0 mg mb fa s1.heap G Y hm X
    have T := G.T
    exact LamX.law_callTs X T.g T.b T.builtins T.nolimit hg t1 t2 t3 T.bmain ho hi (Nat.le_trans hl hn2) hr t6 t4 (fun H a1 a2 => t5 H a ns hl hz a1 a2) fun _ _ _ z => z
theorem df_of {P : Program} {w : World} {K : PySem.W.Frag} {mg : Str → Option Value} {base : Heap} {k : Nat} {x : Str} {ps : List Str} {sp : Sp} {f : Addr} {fd : FuncData} (F : FnOk P w K mg base CX0 k f fd ps sp) (m : mg x = some (.ref f)) (kp : PySem.W.keepIn K (.ref f) = true) (b : Binds K fd ps []) : Df P w K mg base k x ps sp := ⟨f, fd, F, m, kp, b⟩
theorem func_mk {K : PySem.W.Frag} {x : Str} {st : Stmt} {f c : Addr} {oc : Value} {od an : Option Addr} {osl : Array (Option Value)} {kV doc pm ct : Value} (l : K.lookup f = some ⟨oc, od, .func (PySem.W.fnOf x x (defArgs st) (defBody st) (defScope st) .none kV doc pm an (.ref c) ct), osl⟩) (b : PySem.W.codeIn K (.ref c) x = true) : FunC K x st f (PySem.W.fnOf x x (defArgs st) (defBody st) (defScope st) .none kV doc pm an (.ref c) ct) c := ⟨⟨oc, od, kV, doc, pm, an, ct, osl, rfl, l, b⟩⟩
theorem tab_in {K : PySem.W.Frag} {x : Str} {f c t : Addr} {oc e : Value} {od dd : Option Addr} {fd : FuncData} {sl sv : Array (Option Value)} {vs : Array Value} (a : PySem.W.nsIn K mainGlobals x = some (some (.ref f))) (l : K.lookup f = some ⟨oc, od, .func fd, sl⟩) (hc : fd.code = .ref c)
    (lc : K.lookup c = some ⟨e, dd, .fields vs, sv⟩) (lv : vs[11]? = some (.ref t)) : PySem.W.tabIn K x = some (c, t) := by
  unfold PySem.W.tabIn
  simp only [a, l, hc, lc, lv]
theorem all_mk {l : PySem.W.OpenLaw} {w : World} {K : PySem.W.Frag} {q : Program} {lo : List Str} {lv : List (Str × PySem.W.WData)} {s0 : Shared} {h : Heap} {mg mb : Str → Option Value} {fa : Addr} {dR_formula_faults : DefRec} {dR_have_common : DefRec} {dR_is_clause : DefRec} {dR_ascends : DefRec} {dR_is_residue : DefRec} {dR_are_variables : DefRec} {dR_are_known : DefRec} {dR_are_weights : DefRec} (X : K.In h)
    (G : PySem.W.Ground q lo [] (PySem.W.XL q lv) w s0 mg mb h) (hfa : mg "law" = some (.ref fa)) (hR_formula_faults : (recsOf q).find? (fun e => e.name == ("formula_faults" : Str)) = some dR_formula_faults) (hR_have_common : (recsOf q).find? (fun e => e.name == ("have_common" : Str)) = some dR_have_common) (hR_is_clause : (recsOf q).find? (fun e => e.name == ("is_clause" : Str)) = some dR_is_clause) (hR_ascends : (recsOf q).find? (fun e => e.name == ("ascends" : Str)) = some dR_ascends) (hR_is_residue : (recsOf q).find? (fun e => e.name == ("is_residue" : Str)) = some dR_is_residue) (hR_are_variables : (recsOf q).find? (fun e => e.name == ("are_variables" : Str)) = some dR_are_variables) (hR_are_known : (recsOf q).find? (fun e => e.name == ("are_known" : Str)) = some dR_are_known) (hR_are_weights : (recsOf q).find? (fun e => e.name == ("are_weights" : Str)) = some dR_are_weights)
    {f_is_whole : Addr} {od_is_whole an_is_whole : Option Addr} {sl_is_whole : Array (Option Value)} {oc_is_whole kV_is_whole dc_is_whole pm_is_whole cd_is_whole ct_is_whole : Value}
    (a_is_whole : PySem.W.nsIn K mainGlobals "is_whole" = some (some (.ref f_is_whole))) (l_is_whole : K.lookup f_is_whole = some ⟨oc_is_whole, od_is_whole, .func (PySem.W.fnOf "is_whole" "is_whole" (defArgs s_is_whole) (defBody s_is_whole) (defScope s_is_whole) .none kV_is_whole dc_is_whole pm_is_whole an_is_whole (cd_is_whole) ct_is_whole), sl_is_whole⟩)
    (b_is_whole : PySem.W.codeIn K (cd_is_whole) "is_whole" = true) (k_is_whole : PySem.W.keepIn K (.ref f_is_whole) = true)
    {f_is_fraction : Addr} {od_is_fraction an_is_fraction : Option Addr} {sl_is_fraction : Array (Option Value)} {oc_is_fraction kV_is_fraction dc_is_fraction pm_is_fraction cd_is_fraction ct_is_fraction : Value}
    (a_is_fraction : PySem.W.nsIn K mainGlobals "is_fraction" = some (some (.ref f_is_fraction))) (l_is_fraction : K.lookup f_is_fraction = some ⟨oc_is_fraction, od_is_fraction, .func (PySem.W.fnOf "is_fraction" "is_fraction" (defArgs s_is_fraction) (defBody s_is_fraction) (defScope s_is_fraction) .none kV_is_fraction dc_is_fraction pm_is_fraction an_is_fraction (cd_is_fraction) ct_is_fraction), sl_is_fraction⟩)
    (b_is_fraction : PySem.W.codeIn K (cd_is_fraction) "is_fraction" = true) (k_is_fraction : PySem.W.keepIn K (.ref f_is_fraction) = true)
    {f_literal_key : Addr} {od_literal_key an_literal_key : Option Addr} {sl_literal_key : Array (Option Value)} {oc_literal_key kV_literal_key dc_literal_key pm_literal_key cd_literal_key ct_literal_key : Value}
    (a_literal_key : PySem.W.nsIn K mainGlobals "literal_key" = some (some (.ref f_literal_key))) (l_literal_key : K.lookup f_literal_key = some ⟨oc_literal_key, od_literal_key, .func (PySem.W.fnOf "literal_key" "literal_key" (defArgs s_literal_key) (defBody s_literal_key) (defScope s_literal_key) .none kV_literal_key dc_literal_key pm_literal_key an_literal_key (cd_literal_key) ct_literal_key), sl_literal_key⟩)
    (b_literal_key : PySem.W.codeIn K (cd_literal_key) "literal_key" = true) (k_literal_key : PySem.W.keepIn K (.ref f_literal_key) = true)
    {f_clause_key : Addr} {od_clause_key an_clause_key : Option Addr} {sl_clause_key : Array (Option Value)} {oc_clause_key kV_clause_key dc_clause_key pm_clause_key cd_clause_key ct_clause_key : Value}
    (a_clause_key : PySem.W.nsIn K mainGlobals "clause_key" = some (some (.ref f_clause_key))) (l_clause_key : K.lookup f_clause_key = some ⟨oc_clause_key, od_clause_key, .func (PySem.W.fnOf "clause_key" "clause_key" (defArgs s_clause_key) (defBody s_clause_key) (defScope s_clause_key) .none kV_clause_key dc_clause_key pm_clause_key an_clause_key (cd_clause_key) ct_clause_key), sl_clause_key⟩)
    (b_clause_key : PySem.W.codeIn K (cd_clause_key) "clause_key" = true) (k_clause_key : PySem.W.keepIn K (.ref f_clause_key) = true)
    {f_ascends : Addr} {od_ascends an_ascends : Option Addr} {sl_ascends : Array (Option Value)} {oc_ascends kV_ascends dc_ascends pm_ascends ct_ascends : Value} {c_ascends t_ascends : Addr}
    (a_ascends : PySem.W.nsIn K mainGlobals "ascends" = some (some (.ref f_ascends))) (l_ascends : K.lookup f_ascends = some ⟨oc_ascends, od_ascends, .func (PySem.W.fnOf "ascends" "ascends" (defArgs s_ascends) (defBody s_ascends) (defScope s_ascends) .none kV_ascends dc_ascends pm_ascends an_ascends (.ref c_ascends) ct_ascends), sl_ascends⟩)
    (b_ascends : PySem.W.codeIn K (.ref c_ascends) "ascends" = true) (k_ascends : PySem.W.keepIn K (.ref f_ascends) = true)
    {f_variables_of : Addr} {od_variables_of an_variables_of : Option Addr} {sl_variables_of : Array (Option Value)} {oc_variables_of kV_variables_of dc_variables_of pm_variables_of cd_variables_of ct_variables_of : Value}
    (a_variables_of : PySem.W.nsIn K mainGlobals "variables_of" = some (some (.ref f_variables_of))) (l_variables_of : K.lookup f_variables_of = some ⟨oc_variables_of, od_variables_of, .func (PySem.W.fnOf "variables_of" "variables_of" (defArgs s_variables_of) (defBody s_variables_of) (defScope s_variables_of) .none kV_variables_of dc_variables_of pm_variables_of an_variables_of (cd_variables_of) ct_variables_of), sl_variables_of⟩)
    (b_variables_of : PySem.W.codeIn K (cd_variables_of) "variables_of" = true) (k_variables_of : PySem.W.keepIn K (.ref f_variables_of) = true)
    {f_is_variable : Addr} {od_is_variable an_is_variable : Option Addr} {sl_is_variable : Array (Option Value)} {oc_is_variable kV_is_variable dc_is_variable pm_is_variable cd_is_variable ct_is_variable : Value}
    (a_is_variable : PySem.W.nsIn K mainGlobals "is_variable" = some (some (.ref f_is_variable))) (l_is_variable : K.lookup f_is_variable = some ⟨oc_is_variable, od_is_variable, .func (PySem.W.fnOf "is_variable" "is_variable" (defArgs s_is_variable) (defBody s_is_variable) (defScope s_is_variable) .none kV_is_variable dc_is_variable pm_is_variable an_is_variable (cd_is_variable) ct_is_variable), sl_is_variable⟩)
    (b_is_variable : PySem.W.codeIn K (cd_is_variable) "is_variable" = true) (k_is_variable : PySem.W.keepIn K (.ref f_is_variable) = true)
    {f_is_literal : Addr} {od_is_literal an_is_literal : Option Addr} {sl_is_literal : Array (Option Value)} {oc_is_literal kV_is_literal dc_is_literal pm_is_literal cd_is_literal ct_is_literal : Value}
    (a_is_literal : PySem.W.nsIn K mainGlobals "is_literal" = some (some (.ref f_is_literal))) (l_is_literal : K.lookup f_is_literal = some ⟨oc_is_literal, od_is_literal, .func (PySem.W.fnOf "is_literal" "is_literal" (defArgs s_is_literal) (defBody s_is_literal) (defScope s_is_literal) .none kV_is_literal dc_is_literal pm_is_literal an_is_literal (cd_is_literal) ct_is_literal), sl_is_literal⟩)
    (b_is_literal : PySem.W.codeIn K (cd_is_literal) "is_literal" = true) (k_is_literal : PySem.W.keepIn K (.ref f_is_literal) = true)
    {f_is_clause : Addr} {od_is_clause an_is_clause : Option Addr} {sl_is_clause : Array (Option Value)} {oc_is_clause kV_is_clause dc_is_clause pm_is_clause ct_is_clause : Value} {c_is_clause t_is_clause : Addr}
    (a_is_clause : PySem.W.nsIn K mainGlobals "is_clause" = some (some (.ref f_is_clause))) (l_is_clause : K.lookup f_is_clause = some ⟨oc_is_clause, od_is_clause, .func (PySem.W.fnOf "is_clause" "is_clause" (defArgs s_is_clause) (defBody s_is_clause) (defScope s_is_clause) .none kV_is_clause dc_is_clause pm_is_clause an_is_clause (.ref c_is_clause) ct_is_clause), sl_is_clause⟩)
    (b_is_clause : PySem.W.codeIn K (.ref c_is_clause) "is_clause" = true) (k_is_clause : PySem.W.keepIn K (.ref f_is_clause) = true)
    {f_is_residue : Addr} {od_is_residue an_is_residue : Option Addr} {sl_is_residue : Array (Option Value)} {oc_is_residue kV_is_residue dc_is_residue pm_is_residue ct_is_residue : Value} {c_is_residue t_is_residue : Addr}
    (a_is_residue : PySem.W.nsIn K mainGlobals "is_residue" = some (some (.ref f_is_residue))) (l_is_residue : K.lookup f_is_residue = some ⟨oc_is_residue, od_is_residue, .func (PySem.W.fnOf "is_residue" "is_residue" (defArgs s_is_residue) (defBody s_is_residue) (defScope s_is_residue) .none kV_is_residue dc_is_residue pm_is_residue an_is_residue (.ref c_is_residue) ct_is_residue), sl_is_residue⟩)
    (b_is_residue : PySem.W.codeIn K (.ref c_is_residue) "is_residue" = true) (k_is_residue : PySem.W.keepIn K (.ref f_is_residue) = true)
    {f_are_variables : Addr} {od_are_variables an_are_variables : Option Addr} {sl_are_variables : Array (Option Value)} {oc_are_variables kV_are_variables dc_are_variables pm_are_variables ct_are_variables : Value} {c_are_variables t_are_variables : Addr}
    (a_are_variables : PySem.W.nsIn K mainGlobals "are_variables" = some (some (.ref f_are_variables))) (l_are_variables : K.lookup f_are_variables = some ⟨oc_are_variables, od_are_variables, .func (PySem.W.fnOf "are_variables" "are_variables" (defArgs s_are_variables) (defBody s_are_variables) (defScope s_are_variables) .none kV_are_variables dc_are_variables pm_are_variables an_are_variables (.ref c_are_variables) ct_are_variables), sl_are_variables⟩)
    (b_are_variables : PySem.W.codeIn K (.ref c_are_variables) "are_variables" = true) (k_are_variables : PySem.W.keepIn K (.ref f_are_variables) = true)
    {f_have_common : Addr} {od_have_common an_have_common : Option Addr} {sl_have_common : Array (Option Value)} {oc_have_common kV_have_common dc_have_common pm_have_common ct_have_common : Value} {c_have_common t_have_common : Addr}
    (a_have_common : PySem.W.nsIn K mainGlobals "have_common" = some (some (.ref f_have_common))) (l_have_common : K.lookup f_have_common = some ⟨oc_have_common, od_have_common, .func (PySem.W.fnOf "have_common" "have_common" (defArgs s_have_common) (defBody s_have_common) (defScope s_have_common) .none kV_have_common dc_have_common pm_have_common an_have_common (.ref c_have_common) ct_have_common), sl_have_common⟩)
    (b_have_common : PySem.W.codeIn K (.ref c_have_common) "have_common" = true) (k_have_common : PySem.W.keepIn K (.ref f_have_common) = true)
    {f_are_known : Addr} {od_are_known an_are_known : Option Addr} {sl_are_known : Array (Option Value)} {oc_are_known kV_are_known dc_are_known pm_are_known ct_are_known : Value} {c_are_known t_are_known : Addr}
    (a_are_known : PySem.W.nsIn K mainGlobals "are_known" = some (some (.ref f_are_known))) (l_are_known : K.lookup f_are_known = some ⟨oc_are_known, od_are_known, .func (PySem.W.fnOf "are_known" "are_known" (defArgs s_are_known) (defBody s_are_known) (defScope s_are_known) .none kV_are_known dc_are_known pm_are_known an_are_known (.ref c_are_known) ct_are_known), sl_are_known⟩)
    (b_are_known : PySem.W.codeIn K (.ref c_are_known) "are_known" = true) (k_are_known : PySem.W.keepIn K (.ref f_are_known) = true)
    {f_formula_faults : Addr} {od_formula_faults an_formula_faults : Option Addr} {sl_formula_faults : Array (Option Value)} {oc_formula_faults kV_formula_faults dc_formula_faults pm_formula_faults ct_formula_faults : Value} {c_formula_faults t_formula_faults : Addr}
    (a_formula_faults : PySem.W.nsIn K mainGlobals "formula_faults" = some (some (.ref f_formula_faults))) (l_formula_faults : K.lookup f_formula_faults = some ⟨oc_formula_faults, od_formula_faults, .func (PySem.W.fnOf "formula_faults" "formula_faults" (defArgs s_formula_faults) (defBody s_formula_faults) (defScope s_formula_faults) .none kV_formula_faults dc_formula_faults pm_formula_faults an_formula_faults (.ref c_formula_faults) ct_formula_faults), sl_formula_faults⟩)
    (b_formula_faults : PySem.W.codeIn K (.ref c_formula_faults) "formula_faults" = true) (k_formula_faults : PySem.W.keepIn K (.ref f_formula_faults) = true)
    {f_weight_of : Addr} {od_weight_of an_weight_of : Option Addr} {sl_weight_of : Array (Option Value)} {oc_weight_of kV_weight_of dc_weight_of pm_weight_of cd_weight_of ct_weight_of : Value}
    (a_weight_of : PySem.W.nsIn K mainGlobals "weight_of" = some (some (.ref f_weight_of))) (l_weight_of : K.lookup f_weight_of = some ⟨oc_weight_of, od_weight_of, .func (PySem.W.fnOf "weight_of" "weight_of" (defArgs s_weight_of) (defBody s_weight_of) (defScope s_weight_of) .none kV_weight_of dc_weight_of pm_weight_of an_weight_of (cd_weight_of) ct_weight_of), sl_weight_of⟩)
    (b_weight_of : PySem.W.codeIn K (cd_weight_of) "weight_of" = true) (k_weight_of : PySem.W.keepIn K (.ref f_weight_of) = true)
    {f_is_weight : Addr} {od_is_weight an_is_weight : Option Addr} {sl_is_weight : Array (Option Value)} {oc_is_weight kV_is_weight dc_is_weight pm_is_weight cd_is_weight ct_is_weight : Value}
    (a_is_weight : PySem.W.nsIn K mainGlobals "is_weight" = some (some (.ref f_is_weight))) (l_is_weight : K.lookup f_is_weight = some ⟨oc_is_weight, od_is_weight, .func (PySem.W.fnOf "is_weight" "is_weight" (defArgs s_is_weight) (defBody s_is_weight) (defScope s_is_weight) .none kV_is_weight dc_is_weight pm_is_weight an_is_weight (cd_is_weight) ct_is_weight), sl_is_weight⟩)
    (b_is_weight : PySem.W.codeIn K (cd_is_weight) "is_weight" = true) (k_is_weight : PySem.W.keepIn K (.ref f_is_weight) = true)
    {f_are_weights : Addr} {od_are_weights an_are_weights : Option Addr} {sl_are_weights : Array (Option Value)} {oc_are_weights kV_are_weights dc_are_weights pm_are_weights ct_are_weights : Value} {c_are_weights t_are_weights : Addr}
    (a_are_weights : PySem.W.nsIn K mainGlobals "are_weights" = some (some (.ref f_are_weights))) (l_are_weights : K.lookup f_are_weights = some ⟨oc_are_weights, od_are_weights, .func (PySem.W.fnOf "are_weights" "are_weights" (defArgs s_are_weights) (defBody s_are_weights) (defScope s_are_weights) .none kV_are_weights dc_are_weights pm_are_weights an_are_weights (.ref c_are_weights) ct_are_weights), sl_are_weights⟩)
    (b_are_weights : PySem.W.codeIn K (.ref c_are_weights) "are_weights" = true) (k_are_weights : PySem.W.keepIn K (.ref f_are_weights) = true)
    {f_l_draw : Addr} {od_l_draw an_l_draw : Option Addr} {sl_l_draw : Array (Option Value)} {oc_l_draw kV_l_draw dc_l_draw pm_l_draw cd_l_draw ct_l_draw : Value}
    (a_l_draw : PySem.W.nsIn K mainGlobals "_law_draw" = some (some (.ref f_l_draw))) (l_l_draw : K.lookup f_l_draw = some ⟨oc_l_draw, od_l_draw, .func (PySem.W.fnOf "_law_draw" "_law_draw" (defArgs s_l_draw) (defBody s_l_draw) (defScope s_l_draw) .none kV_l_draw dc_l_draw pm_l_draw an_l_draw (cd_l_draw) ct_l_draw), sl_l_draw⟩)
    (b_l_draw : PySem.W.codeIn K (cd_l_draw) "_law_draw" = true) (k_l_draw : PySem.W.keepIn K (.ref f_l_draw) = true)
    {f_l_take : Addr} {od_l_take an_l_take : Option Addr} {sl_l_take : Array (Option Value)} {oc_l_take kV_l_take dc_l_take pm_l_take cd_l_take ct_l_take : Value}
    (a_l_take : PySem.W.nsIn K mainGlobals "_law_take" = some (some (.ref f_l_take))) (l_l_take : K.lookup f_l_take = some ⟨oc_l_take, od_l_take, .func (PySem.W.fnOf "_law_take" "_law_take" (defArgs s_l_take) (defBody s_l_take) (defScope s_l_take) .none kV_l_take dc_l_take pm_l_take an_l_take (cd_l_take) ct_l_take), sl_l_take⟩)
    (b_l_take : PySem.W.codeIn K (cd_l_take) "_law_take" = true) (k_l_take : PySem.W.keepIn K (.ref f_l_take) = true)
    {f_l_key : Addr} {od_l_key an_l_key : Option Addr} {sl_l_key : Array (Option Value)} {oc_l_key kV_l_key dc_l_key pm_l_key cd_l_key ct_l_key : Value}
    (a_l_key : PySem.W.nsIn K mainGlobals "_law_key" = some (some (.ref f_l_key))) (l_l_key : K.lookup f_l_key = some ⟨oc_l_key, od_l_key, .func (PySem.W.fnOf "_law_key" "_law_key" (defArgs s_l_key) (defBody s_l_key) (defScope s_l_key) .none kV_l_key dc_l_key pm_l_key an_l_key (cd_l_key) ct_l_key), sl_l_key⟩)
    (b_l_key : PySem.W.codeIn K (cd_l_key) "_law_key" = true) (k_l_key : PySem.W.keepIn K (.ref f_l_key) = true)
    {f_l_sorted : Addr} {od_l_sorted an_l_sorted : Option Addr} {sl_l_sorted : Array (Option Value)} {oc_l_sorted kV_l_sorted dc_l_sorted pm_l_sorted cd_l_sorted ct_l_sorted : Value}
    (a_l_sorted : PySem.W.nsIn K mainGlobals "_law_sorted" = some (some (.ref f_l_sorted))) (l_l_sorted : K.lookup f_l_sorted = some ⟨oc_l_sorted, od_l_sorted, .func (PySem.W.fnOf "_law_sorted" "_law_sorted" (defArgs s_l_sorted) (defBody s_l_sorted) (defScope s_l_sorted) .none kV_l_sorted dc_l_sorted pm_l_sorted an_l_sorted (cd_l_sorted) ct_l_sorted), sl_l_sorted⟩)
    (b_l_sorted : PySem.W.codeIn K (cd_l_sorted) "_law_sorted" = true) (k_l_sorted : PySem.W.keepIn K (.ref f_l_sorted) = true)
    {f_l_clause : Addr} {od_l_clause an_l_clause : Option Addr} {sl_l_clause : Array (Option Value)} {oc_l_clause kV_l_clause dc_l_clause pm_l_clause cd_l_clause ct_l_clause : Value}
    (a_l_clause : PySem.W.nsIn K mainGlobals "_law_clause" = some (some (.ref f_l_clause))) (l_l_clause : K.lookup f_l_clause = some ⟨oc_l_clause, od_l_clause, .func (PySem.W.fnOf "_law_clause" "_law_clause" (defArgs s_l_clause) (defBody s_l_clause) (defScope s_l_clause) .none kV_l_clause dc_l_clause pm_l_clause an_l_clause (cd_l_clause) ct_l_clause), sl_l_clause⟩)
    (b_l_clause : PySem.W.codeIn K (cd_l_clause) "_law_clause" = true) (k_l_clause : PySem.W.keepIn K (.ref f_l_clause) = true)
    {f_l_formula : Addr} {od_l_formula an_l_formula : Option Addr} {sl_l_formula : Array (Option Value)} {oc_l_formula kV_l_formula dc_l_formula pm_l_formula cd_l_formula ct_l_formula : Value}
    (a_l_formula : PySem.W.nsIn K mainGlobals "_law_formula" = some (some (.ref f_l_formula))) (l_l_formula : K.lookup f_l_formula = some ⟨oc_l_formula, od_l_formula, .func (PySem.W.fnOf "_law_formula" "_law_formula" (defArgs s_l_formula) (defBody s_l_formula) (defScope s_l_formula) .none kV_l_formula dc_l_formula pm_l_formula an_l_formula (cd_l_formula) ct_l_formula), sl_l_formula⟩)
    (b_l_formula : PySem.W.codeIn K (cd_l_formula) "_law_formula" = true) (k_l_formula : PySem.W.keepIn K (.ref f_l_formula) = true)
    {f_l_gcd : Addr} {od_l_gcd an_l_gcd : Option Addr} {sl_l_gcd : Array (Option Value)} {oc_l_gcd kV_l_gcd dc_l_gcd pm_l_gcd cd_l_gcd ct_l_gcd : Value}
    (a_l_gcd : PySem.W.nsIn K mainGlobals "_law_gcd" = some (some (.ref f_l_gcd))) (l_l_gcd : K.lookup f_l_gcd = some ⟨oc_l_gcd, od_l_gcd, .func (PySem.W.fnOf "_law_gcd" "_law_gcd" (defArgs s_l_gcd) (defBody s_l_gcd) (defScope s_l_gcd) .none kV_l_gcd dc_l_gcd pm_l_gcd an_l_gcd (cd_l_gcd) ct_l_gcd), sl_l_gcd⟩)
    (b_l_gcd : PySem.W.codeIn K (cd_l_gcd) "_law_gcd" = true) (k_l_gcd : PySem.W.keepIn K (.ref f_l_gcd) = true)
    {f_l_fraction : Addr} {od_l_fraction an_l_fraction : Option Addr} {sl_l_fraction : Array (Option Value)} {oc_l_fraction kV_l_fraction dc_l_fraction pm_l_fraction cd_l_fraction ct_l_fraction : Value}
    (a_l_fraction : PySem.W.nsIn K mainGlobals "_law_fraction" = some (some (.ref f_l_fraction))) (l_l_fraction : K.lookup f_l_fraction = some ⟨oc_l_fraction, od_l_fraction, .func (PySem.W.fnOf "_law_fraction" "_law_fraction" (defArgs s_l_fraction) (defBody s_l_fraction) (defScope s_l_fraction) .none kV_l_fraction dc_l_fraction pm_l_fraction an_l_fraction (cd_l_fraction) ct_l_fraction), sl_l_fraction⟩)
    (b_l_fraction : PySem.W.codeIn K (cd_l_fraction) "_law_fraction" = true) (k_l_fraction : PySem.W.keepIn K (.ref f_l_fraction) = true)
    {f_l_weights : Addr} {od_l_weights an_l_weights : Option Addr} {sl_l_weights : Array (Option Value)} {oc_l_weights kV_l_weights dc_l_weights pm_l_weights cd_l_weights ct_l_weights : Value}
    (a_l_weights : PySem.W.nsIn K mainGlobals "_law_weights" = some (some (.ref f_l_weights))) (l_l_weights : K.lookup f_l_weights = some ⟨oc_l_weights, od_l_weights, .func (PySem.W.fnOf "_law_weights" "_law_weights" (defArgs s_l_weights) (defBody s_l_weights) (defScope s_l_weights) .none kV_l_weights dc_l_weights pm_l_weights an_l_weights (cd_l_weights) ct_l_weights), sl_l_weights⟩)
    (b_l_weights : PySem.W.codeIn K (cd_l_weights) "_law_weights" = true) (k_l_weights : PySem.W.keepIn K (.ref f_l_weights) = true)
    {f_l_is_int : Addr} {od_l_is_int an_l_is_int : Option Addr} {sl_l_is_int : Array (Option Value)} {oc_l_is_int kV_l_is_int dc_l_is_int pm_l_is_int cd_l_is_int ct_l_is_int : Value}
    (a_l_is_int : PySem.W.nsIn K mainGlobals "_law_is_int" = some (some (.ref f_l_is_int))) (l_l_is_int : K.lookup f_l_is_int = some ⟨oc_l_is_int, od_l_is_int, .func (PySem.W.fnOf "_law_is_int" "_law_is_int" (defArgs s_l_is_int) (defBody s_l_is_int) (defScope s_l_is_int) .none kV_l_is_int dc_l_is_int pm_l_is_int an_l_is_int (cd_l_is_int) ct_l_is_int), sl_l_is_int⟩)
    (b_l_is_int : PySem.W.codeIn K (cd_l_is_int) "_law_is_int" = true) (k_l_is_int : PySem.W.keepIn K (.ref f_l_is_int) = true)
    {f_l_good_variables : Addr} {od_l_good_variables an_l_good_variables : Option Addr} {sl_l_good_variables : Array (Option Value)} {oc_l_good_variables kV_l_good_variables dc_l_good_variables pm_l_good_variables cd_l_good_variables ct_l_good_variables : Value}
    (a_l_good_variables : PySem.W.nsIn K mainGlobals "_law_good_variables" = some (some (.ref f_l_good_variables))) (l_l_good_variables : K.lookup f_l_good_variables = some ⟨oc_l_good_variables, od_l_good_variables, .func (PySem.W.fnOf "_law_good_variables" "_law_good_variables" (defArgs s_l_good_variables) (defBody s_l_good_variables) (defScope s_l_good_variables) .none kV_l_good_variables dc_l_good_variables pm_l_good_variables an_l_good_variables (cd_l_good_variables) ct_l_good_variables), sl_l_good_variables⟩)
    (b_l_good_variables : PySem.W.codeIn K (cd_l_good_variables) "_law_good_variables" = true) (k_l_good_variables : PySem.W.keepIn K (.ref f_l_good_variables) = true)
    {f_l_good_clause : Addr} {od_l_good_clause an_l_good_clause : Option Addr} {sl_l_good_clause : Array (Option Value)} {oc_l_good_clause kV_l_good_clause dc_l_good_clause pm_l_good_clause cd_l_good_clause ct_l_good_clause : Value}
    (a_l_good_clause : PySem.W.nsIn K mainGlobals "_law_good_clause" = some (some (.ref f_l_good_clause))) (l_l_good_clause : K.lookup f_l_good_clause = some ⟨oc_l_good_clause, od_l_good_clause, .func (PySem.W.fnOf "_law_good_clause" "_law_good_clause" (defArgs s_l_good_clause) (defBody s_l_good_clause) (defScope s_l_good_clause) .none kV_l_good_clause dc_l_good_clause pm_l_good_clause an_l_good_clause (cd_l_good_clause) ct_l_good_clause), sl_l_good_clause⟩)
    (b_l_good_clause : PySem.W.codeIn K (cd_l_good_clause) "_law_good_clause" = true) (k_l_good_clause : PySem.W.keepIn K (.ref f_l_good_clause) = true)
    {f_l_due : Addr} {od_l_due an_l_due : Option Addr} {sl_l_due : Array (Option Value)} {oc_l_due kV_l_due dc_l_due pm_l_due cd_l_due ct_l_due : Value}
    (a_l_due : PySem.W.nsIn K mainGlobals "_law_due" = some (some (.ref f_l_due))) (l_l_due : K.lookup f_l_due = some ⟨oc_l_due, od_l_due, .func (PySem.W.fnOf "_law_due" "_law_due" (defArgs s_l_due) (defBody s_l_due) (defScope s_l_due) .none kV_l_due dc_l_due pm_l_due an_l_due (cd_l_due) ct_l_due), sl_l_due⟩)
    (b_l_due : PySem.W.codeIn K (cd_l_due) "_law_due" = true) (k_l_due : PySem.W.keepIn K (.ref f_l_due) = true)
    {f_l_bent : Addr} {od_l_bent an_l_bent : Option Addr} {sl_l_bent : Array (Option Value)} {oc_l_bent kV_l_bent dc_l_bent pm_l_bent cd_l_bent ct_l_bent : Value}
    (a_l_bent : PySem.W.nsIn K mainGlobals "_law_bent" = some (some (.ref f_l_bent))) (l_l_bent : K.lookup f_l_bent = some ⟨oc_l_bent, od_l_bent, .func (PySem.W.fnOf "_law_bent" "_law_bent" (defArgs s_l_bent) (defBody s_l_bent) (defScope s_l_bent) .none kV_l_bent dc_l_bent pm_l_bent an_l_bent (cd_l_bent) ct_l_bent), sl_l_bent⟩)
    (b_l_bent : PySem.W.codeIn K (cd_l_bent) "_law_bent" = true) (k_l_bent : PySem.W.keepIn K (.ref f_l_bent) = true)
    {f_law : Addr} {od_law an_law : Option Addr} {sl_law : Array (Option Value)} {oc_law kV_law dc_law pm_law cd_law ct_law : Value}
    (a_law : PySem.W.nsIn K mainGlobals "law" = some (some (.ref f_law))) (l_law : K.lookup f_law = some ⟨oc_law, od_law, .func (PySem.W.fnOf "law" "law" (defArgs s_law) (defBody s_law) (defScope s_law) .none kV_law dc_law pm_law an_law (cd_law) ct_law), sl_law⟩)
    (b_law : PySem.W.codeIn K (cd_law) "law" = true) (k_law : PySem.W.keepIn K (.ref f_law) = true)
    {e_formula_faults : Value} {dd_formula_faults : Option Addr} {vs_formula_faults : Array Value} {sv_formula_faults : Array (Option Value)} (lc_formula_faults : K.lookup c_formula_faults = some ⟨e_formula_faults, dd_formula_faults, .fields vs_formula_faults, sv_formula_faults⟩) (lv_formula_faults : vs_formula_faults[11]? = some (.ref t_formula_faults)) (nt_formula_faults : K.lookup t_formula_faults = none)
    {e_have_common : Value} {dd_have_common : Option Addr} {vs_have_common : Array Value} {sv_have_common : Array (Option Value)} (lc_have_common : K.lookup c_have_common = some ⟨e_have_common, dd_have_common, .fields vs_have_common, sv_have_common⟩) (lv_have_common : vs_have_common[11]? = some (.ref t_have_common)) (nt_have_common : K.lookup t_have_common = none)
    {e_is_clause : Value} {dd_is_clause : Option Addr} {vs_is_clause : Array Value} {sv_is_clause : Array (Option Value)} (lc_is_clause : K.lookup c_is_clause = some ⟨e_is_clause, dd_is_clause, .fields vs_is_clause, sv_is_clause⟩) (lv_is_clause : vs_is_clause[11]? = some (.ref t_is_clause)) (nt_is_clause : K.lookup t_is_clause = none)
    {e_ascends : Value} {dd_ascends : Option Addr} {vs_ascends : Array Value} {sv_ascends : Array (Option Value)} (lc_ascends : K.lookup c_ascends = some ⟨e_ascends, dd_ascends, .fields vs_ascends, sv_ascends⟩) (lv_ascends : vs_ascends[11]? = some (.ref t_ascends)) (nt_ascends : K.lookup t_ascends = none)
    {e_is_residue : Value} {dd_is_residue : Option Addr} {vs_is_residue : Array Value} {sv_is_residue : Array (Option Value)} (lc_is_residue : K.lookup c_is_residue = some ⟨e_is_residue, dd_is_residue, .fields vs_is_residue, sv_is_residue⟩) (lv_is_residue : vs_is_residue[11]? = some (.ref t_is_residue)) (nt_is_residue : K.lookup t_is_residue = none)
    {e_are_variables : Value} {dd_are_variables : Option Addr} {vs_are_variables : Array Value} {sv_are_variables : Array (Option Value)} (lc_are_variables : K.lookup c_are_variables = some ⟨e_are_variables, dd_are_variables, .fields vs_are_variables, sv_are_variables⟩) (lv_are_variables : vs_are_variables[11]? = some (.ref t_are_variables)) (nt_are_variables : K.lookup t_are_variables = none)
    {e_are_known : Value} {dd_are_known : Option Addr} {vs_are_known : Array Value} {sv_are_known : Array (Option Value)} (lc_are_known : K.lookup c_are_known = some ⟨e_are_known, dd_are_known, .fields vs_are_known, sv_are_known⟩) (lv_are_known : vs_are_known[11]? = some (.ref t_are_known)) (nt_are_known : K.lookup t_are_known = none)
    {e_are_weights : Value} {dd_are_weights : Option Addr} {vs_are_weights : Array Value} {sv_are_weights : Array (Option Value)} (lc_are_weights : K.lookup c_are_weights = some ⟨e_are_weights, dd_are_weights, .fields vs_are_weights, sv_are_weights⟩) (lv_are_weights : vs_are_weights[11]? = some (.ref t_are_weights)) (nt_are_weights : K.lookup t_are_weights = none)
    (z_isinstance : PySem.W.nsIn K mainGlobals "isinstance" = some none)
    (z_int : PySem.W.nsIn K mainGlobals "int" = some none)
    (z_bool : PySem.W.nsIn K mainGlobals "bool" = some none)
    (z_tuple : PySem.W.nsIn K mainGlobals "tuple" = some none)
    (z_abs : PySem.W.nsIn K mainGlobals "abs" = some none)
    (z_all : PySem.W.nsIn K mainGlobals "all" = some none)
    (z_any : PySem.W.nsIn K mainGlobals "any" = some none)
    (z_len : PySem.W.nsIn K mainGlobals "len" = some none)
    (z_list : PySem.W.nsIn K mainGlobals "list" = some none)
    (z_range : PySem.W.nsIn K mainGlobals "range" = some none)
    (z_sorted : PySem.W.nsIn K mainGlobals "sorted" = some none)
    {u__GREATEST_VARIABLE : Value} (g__GREATEST_VARIABLE : PySem.W.nsIn K mainGlobals "_GREATEST_VARIABLE" = some (some u__GREATEST_VARIABLE)) (v__GREATEST_VARIABLE : RelV (.int 999) u__GREATEST_VARIABLE)
    (z_gcd : PySem.W.nsIn K mainGlobals "gcd" = some (some (.builtin "math.gcd"))) : LamX.LawAtS l w K CX0 12 63 "script" mg fa h := by
  have Gg := G.T.g
  have e := hfa.symm.trans (PySem.W.mg_of X Gg a_law)
  cases e
  have T : Tx K mg u__GREATEST_VARIABLE := ⟨PySem.W.mg_none_of X Gg z_isinstance, PySem.W.mg_none_of X Gg z_int, PySem.W.mg_none_of X Gg z_bool, PySem.W.mg_none_of X Gg z_tuple, PySem.W.mg_none_of X Gg z_abs, PySem.W.mg_none_of X Gg z_all, PySem.W.mg_none_of X Gg z_any, PySem.W.mg_none_of X Gg z_len, PySem.W.mg_none_of X Gg z_list, PySem.W.mg_none_of X Gg z_range, PySem.W.mg_none_of X Gg z_sorted, PySem.W.mg_of X Gg z_gcd, PySem.W.mg_of X Gg g__GREATEST_VARIABLE, v__GREATEST_VARIABLE⟩
  obtain ⟨CH_formula_faults, tE_formula_faults⟩ := PySem.W.tab_of G.T X hR_formula_faults (tab_in a_formula_faults l_formula_faults rfl lc_formula_faults lv_formula_faults)
  obtain ⟨CH_have_common, tE_have_common⟩ := PySem.W.tab_of G.T X hR_have_common (tab_in a_have_common l_have_common rfl lc_have_common lv_have_common)
  obtain ⟨CH_is_clause, tE_is_clause⟩ := PySem.W.tab_of G.T X hR_is_clause (tab_in a_is_clause l_is_clause rfl lc_is_clause lv_is_clause)
  obtain ⟨CH_ascends, tE_ascends⟩ := PySem.W.tab_of G.T X hR_ascends (tab_in a_ascends l_ascends rfl lc_ascends lv_ascends)
  obtain ⟨CH_is_residue, tE_is_residue⟩ := PySem.W.tab_of G.T X hR_is_residue (tab_in a_is_residue l_is_residue rfl lc_is_residue lv_is_residue)
  obtain ⟨CH_are_variables, tE_are_variables⟩ := PySem.W.tab_of G.T X hR_are_variables (tab_in a_are_variables l_are_variables rfl lc_are_variables lv_are_variables)
  obtain ⟨CH_are_known, tE_are_known⟩ := PySem.W.tab_of G.T X hR_are_known (tab_in a_are_known l_are_known rfl lc_are_known lv_are_known)
  obtain ⟨CH_are_weights, tE_are_weights⟩ := PySem.W.tab_of G.T X hR_are_weights (tab_in a_are_weights l_are_weights rfl lc_are_weights lv_are_weights)
  have F_is_whole := fun_mk (st := s_is_whole) l_is_whole b_is_whole k_is_whole
  have F_is_fraction := fun_mk (st := s_is_fraction) l_is_fraction b_is_fraction k_is_fraction
  have F_literal_key := fun_mk (st := s_literal_key) l_literal_key b_literal_key k_literal_key
  have F_clause_key := fun_mk (st := s_clause_key) l_clause_key b_clause_key k_clause_key
  have F_ascends := func_mk (st := s_ascends) l_ascends b_ascends
  have F_variables_of := fun_mk (st := s_variables_of) l_variables_of b_variables_of k_variables_of
  have F_is_variable := fun_mk (st := s_is_variable) l_is_variable b_is_variable k_is_variable
  have F_is_literal := fun_mk (st := s_is_literal) l_is_literal b_is_literal k_is_literal
  have F_is_clause := func_mk (st := s_is_clause) l_is_clause b_is_clause
  have F_is_residue := func_mk (st := s_is_residue) l_is_residue b_is_residue
  have F_are_variables := func_mk (st := s_are_variables) l_are_variables b_are_variables
  have F_have_common := func_mk (st := s_have_common) l_have_common b_have_common
  have F_are_known := func_mk (st := s_are_known) l_are_known b_are_known
  have F_formula_faults := func_mk (st := s_formula_faults) l_formula_faults b_formula_faults
  have F_weight_of := fun_mk (st := s_weight_of) l_weight_of b_weight_of k_weight_of
  have F_is_weight := fun_mk (st := s_is_weight) l_is_weight b_is_weight k_is_weight
  have F_are_weights := func_mk (st := s_are_weights) l_are_weights b_are_weights
  have F_l_draw := fun_mk (st := s_l_draw) l_l_draw b_l_draw k_l_draw
  have F_l_take := fun_mk (st := s_l_take) l_l_take b_l_take k_l_take
  have F_l_key := fun_mk (st := s_l_key) l_l_key b_l_key k_l_key
  have F_l_sorted := fun_mk (st := s_l_sorted) l_l_sorted b_l_sorted k_l_sorted
  have F_l_clause := fun_mk (st := s_l_clause) l_l_clause b_l_clause k_l_clause
  have F_l_formula := fun_mk (st := s_l_formula) l_l_formula b_l_formula k_l_formula
  have F_l_gcd := fun_mk (st := s_l_gcd) l_l_gcd b_l_gcd k_l_gcd
  have F_l_fraction := fun_mk (st := s_l_fraction) l_l_fraction b_l_fraction k_l_fraction
  have F_l_weights := fun_mk (st := s_l_weights) l_l_weights b_l_weights k_l_weights
  have F_l_is_int := fun_mk (st := s_l_is_int) l_l_is_int b_l_is_int k_l_is_int
  have F_l_good_variables := fun_mk (st := s_l_good_variables) l_l_good_variables b_l_good_variables k_l_good_variables
  have F_l_good_clause := fun_mk (st := s_l_good_clause) l_l_good_clause b_l_good_clause k_l_good_clause
  have F_l_due := fun_mk (st := s_l_due) l_l_due b_l_due k_l_due
  have F_l_bent := fun_mk (st := s_l_bent) l_l_bent b_l_bent k_l_bent
  have F_law := fun_mk (st := s_law) l_law b_law k_law
  refine ⟨PySem.W.fnOf "law" "law" (defArgs s_law) (defBody s_law) (defScope s_law) .none kV_law dc_law pm_law an_law cd_law ct_law, [(c_formula_faults, t_formula_faults), (c_have_common, t_have_common), (c_is_clause, t_is_clause), (c_ascends, t_ascends), (c_is_residue, t_is_residue), (c_are_variables, t_are_variables), (c_are_known, t_are_known), (c_are_weights, t_are_weights)], spLaw K t_formula_faults t_have_common t_is_clause t_ascends t_is_residue t_are_variables t_are_known t_are_weights, ?_, ?_, ?_, fun s v => .of_eq rfl, ?_, fun base KB MB hTB => ?_⟩
  · intro p hp
    simp only [List.mem_cons, List.not_mem_nil, or_false] at hp
    rcases hp with rfl | rfl | rfl | rfl | rfl | rfl | rfl | rfl
    · exact tE_formula_faults
    · exact tE_have_common
    · exact tE_is_clause
    · exact tE_ascends
    · exact tE_is_residue
    · exact tE_are_variables
    · exact tE_are_known
    · exact tE_are_weights
  · intro p hp
    simp only [List.mem_cons, List.not_mem_nil, or_false] at hp
    rcases hp with rfl | rfl | rfl | rfl | rfl | rfl | rfl | rfl
    · exact nt_formula_faults
    · exact nt_have_common
    · exact nt_is_clause
    · exact nt_ascends
    · exact nt_is_residue
    · exact nt_are_variables
    · exact nt_are_known
    · exact nt_are_weights
  · intro p hp
    simp only [List.mem_cons, List.not_mem_nil, or_false] at hp
    rcases hp with rfl | rfl | rfl | rfl | rfl | rfl | rfl | rfl
    · exact CH_formula_faults
    · exact CH_have_common
    · exact CH_is_clause
    · exact CH_ascends
    · exact CH_is_residue
    · exact CH_are_variables
    · exact CH_are_known
    · exact CH_are_weights
  · intro H a ns hl _ ht hS
    exact ⟨a, ns, rfl, hS, hl, ⟨#[], ht _ (.head _), True.intro⟩, ⟨#[], ht _ (.tail _ (.head _)), True.intro⟩, ⟨#[], ht _ (.tail _ (.tail _ (.head _))), True.intro⟩, ⟨#[], ht _ (.tail _ (.tail _ (.tail _ (.head _)))), True.intro⟩, ⟨#[], ht _ (.tail _ (.tail _ (.tail _ (.tail _ (.head _))))), True.intro⟩, ⟨#[], ht _ (.tail _ (.tail _ (.tail _ (.tail _ (.tail _ (.head _)))))), True.intro⟩, ⟨#[], ht _ (.tail _ (.tail _ (.tail _ (.tail _ (.tail _ (.tail _ (.head _))))))), True.intro⟩, ⟨#[], ht _ (.tail _ (.tail _ (.tail _ (.tail _ (.tail _ (.tail _ (.tail _ (.head _)))))))), True.intro⟩, fun _ => rfl⟩
  have TB0_formula_faults := hTB _ (.head _)
  have TB_formula_faults : GxR.TabB base mg c_formula_faults t_formula_faults := ⟨TB0_formula_faults.code, TB0_formula_faults.bm, TB0_formula_faults.gP⟩
  have TB0_have_common := hTB _ (.tail _ (.head _))
  have TB_have_common : GxR.TabB base mg c_have_common t_have_common := ⟨TB0_have_common.code, TB0_have_common.bm, TB0_have_common.gP⟩
  have TB0_is_clause := hTB _ (.tail _ (.tail _ (.head _)))
  have TB_is_clause : GxR.TabB base mg c_is_clause t_is_clause := ⟨TB0_is_clause.code, TB0_is_clause.bm, TB0_is_clause.gP⟩
  have TB0_ascends := hTB _ (.tail _ (.tail _ (.tail _ (.head _))))
  have TB_ascends : GxR.TabB base mg c_ascends t_ascends := ⟨TB0_ascends.code, TB0_ascends.bm, TB0_ascends.gP⟩
  have TB0_is_residue := hTB _ (.tail _ (.tail _ (.tail _ (.tail _ (.head _)))))
  have TB_is_residue : GxR.TabB base mg c_is_residue t_is_residue := ⟨TB0_is_residue.code, TB0_is_residue.bm, TB0_is_residue.gP⟩
  have TB0_are_variables := hTB _ (.tail _ (.tail _ (.tail _ (.tail _ (.tail _ (.head _))))))
  have TB_are_variables : GxR.TabB base mg c_are_variables t_are_variables := ⟨TB0_are_variables.code, TB0_are_variables.bm, TB0_are_variables.gP⟩
  have TB0_are_known := hTB _ (.tail _ (.tail _ (.tail _ (.tail _ (.tail _ (.tail _ (.head _)))))))
  have TB_are_known : GxR.TabB base mg c_are_known t_are_known := ⟨TB0_are_known.code, TB0_are_known.bm, TB0_are_known.gP⟩
  have TB0_are_weights := hTB _ (.tail _ (.tail _ (.tail _ (.tail _ (.tail _ (.tail _ (.tail _ (.head _))))))))
  have TB_are_weights : GxR.TabB base mg c_are_weights t_are_weights := ⟨TB0_are_weights.code, TB0_are_weights.bm, TB0_are_weights.gP⟩
  have D_is_whole : Df l.prog w K mg base 1 "is_whole" ["value"] spWhole := df_of (ok_is_whole F_is_whole T) (PySem.W.mg_of X Gg a_is_whole) k_is_whole (Binds.all fun us hl => match us, hl with | [_], _ => rfl)
  have D_is_fraction : Df l.prog w K mg base 2 "is_fraction" ["value"] spIsFrac := df_of (ok_is_fraction F_is_fraction T D_is_whole) (PySem.W.mg_of X Gg a_is_fraction) k_is_fraction (Binds.all fun us hl => match us, hl with | [_], _ => rfl)
  have D_literal_key : Df l.prog w K mg base 1 "literal_key" ["literal"] spKey := df_of (ok_literal_key F_literal_key T) (PySem.W.mg_of X Gg a_literal_key) k_literal_key (Binds.all fun us hl => match us, hl with | [_], _ => rfl)
  have D_clause_key : Df l.prog w K mg base 2 "clause_key" ["clause"] spCKey := df_of (ok_clause_key F_clause_key T D_literal_key) (PySem.W.mg_of X Gg a_clause_key) k_clause_key (Binds.all fun us hl => match us, hl with | [_], _ => rfl)
  have D_ascends : Df l.prog w K mg base 4 "ascends" ["keys"] (spAsc K t_ascends) := df_of (ok_ascends F_ascends T TB_ascends) (PySem.W.mg_of X Gg a_ascends) k_ascends (Binds.all fun us hl => match us, hl with | [_], _ => rfl)
  have D_variables_of : Df l.prog w K mg base 1 "variables_of" ["residue"] spVarsOf := df_of (ok_variables_of F_variables_of T) (PySem.W.mg_of X Gg a_variables_of) k_variables_of (Binds.all fun us hl => match us, hl with | [_], _ => rfl)
  have D_is_variable : Df l.prog w K mg base 2 "is_variable" ["value"] spVar := df_of (ok_is_variable F_is_variable T D_is_whole) (PySem.W.mg_of X Gg a_is_variable) k_is_variable (Binds.all fun us hl => match us, hl with | [_], _ => rfl)
  have D_is_literal : Df l.prog w K mg base 3 "is_literal" ["value"] spLit := df_of (ok_is_literal F_is_literal T D_is_whole D_is_variable) (PySem.W.mg_of X Gg a_is_literal) k_is_literal (Binds.all fun us hl => match us, hl with | [_], _ => rfl)
  have D_is_clause : Df l.prog w K mg base 7 "is_clause" ["value"] (spIsClause K t_is_clause t_ascends) := df_of (ok_is_clause F_is_clause T TB_is_clause D_is_literal D_ascends) (PySem.W.mg_of X Gg a_is_clause) k_is_clause (Binds.all fun us hl => match us, hl with | [_], _ => rfl)
  have D_is_residue : Df l.prog w K mg base 10 "is_residue" ["value"] (spIsResidue K t_is_clause t_ascends t_is_residue) := df_of (ok_is_residue F_is_residue T TB_is_residue D_clause_key D_is_clause D_ascends) (PySem.W.mg_of X Gg a_is_residue) k_is_residue (Binds.all fun us hl => match us, hl with | [_], _ => rfl)
  have D_are_variables : Df l.prog w K mg base 7 "are_variables" ["row"] (spVars K t_are_variables t_ascends) := df_of (ok_are_variables F_are_variables T TB_are_variables D_is_variable D_ascends) (PySem.W.mg_of X Gg a_are_variables) k_are_variables (Binds.all fun us hl => match us, hl with | [_], _ => rfl)
  have D_have_common : Df l.prog w K mg base 7 "have_common" ["shown", "hidden"] (spCommon t_have_common) := df_of (ok_have_common F_have_common T TB_have_common D_is_variable) (PySem.W.mg_of X Gg a_have_common) k_have_common (Binds.all fun us hl => match us, hl with | [_, _], _ => rfl)
  have D_are_known : Df l.prog w K mg base 7 "are_known" ["residue", "variables"] (spKnown t_are_known) := df_of (ok_are_known F_are_known T TB_are_known D_variables_of) (PySem.W.mg_of X Gg a_are_known) k_are_known (Binds.all fun us hl => match us, hl with | [_, _], _ => rfl)
  have D_formula_faults : Df l.prog w K mg base 11 "formula_faults" ["value"] (spFaults [t_formula_faults, t_have_common, t_is_clause, t_ascends, t_is_residue, t_are_variables, t_are_known]) := df_of (ok_formula_faults F_formula_faults T TB_formula_faults D_have_common D_is_clause D_is_residue D_are_variables D_are_known) (PySem.W.mg_of X Gg a_formula_faults) k_formula_faults (Binds.all fun us hl => match us, hl with | [_], _ => rfl)
  have D_weight_of : Df l.prog w K mg base 1 "weight_of" ["weights", "literal"] spWeightOf := df_of (ok_weight_of F_weight_of T) (PySem.W.mg_of X Gg a_weight_of) k_weight_of (Binds.all fun us hl => match us, hl with | [_, _], _ => rfl)
  have D_is_weight : Df l.prog w K mg base 4 "is_weight" ["value"] spIsWeight := df_of (ok_is_weight F_is_weight T D_is_literal D_is_fraction) (PySem.W.mg_of X Gg a_is_weight) k_is_weight (Binds.all fun us hl => match us, hl with | [_], _ => rfl)
  have D_are_weights : Df l.prog w K mg base 10 "are_weights" ["formula", "value"] (spAreW K t_are_weights t_ascends) := df_of (ok_are_weights F_are_weights T TB_are_weights D_is_weight D_literal_key D_ascends) (PySem.W.mg_of X Gg a_are_weights) k_are_weights (Binds.all fun us hl => match us, hl with | [_, _], _ => rfl)
  have D_l_draw : Df l.prog w K mg base 1 "_law_draw" ["script"] (spDrawC K) := df_of (ok_l_draw F_l_draw T) (PySem.W.mg_of X Gg a_l_draw) k_l_draw (Binds.all fun us hl => match us, hl with | [_], _ => rfl)
  have D_l_take : Df l.prog w K mg base 1 "_law_take" ["draw", "many"] spTakeC := df_of (ok_l_take F_l_take T) (PySem.W.mg_of X Gg a_l_take) k_l_take (Binds.all fun us hl => match us, hl with | [_, _], _ => rfl)
  have D_l_key : Df l.prog w K mg base 1 "_law_key" ["literal"] spKey := df_of (ok_l_key F_l_key T) (PySem.W.mg_of X Gg a_l_key) k_l_key (Binds.all fun us hl => match us, hl with | [_], _ => rfl)
  have D_l_sorted : Df l.prog w K mg base 2 "_law_sorted" ["rows"] spLSorted := df_of (ok_l_sorted F_l_sorted T D_l_key) (PySem.W.mg_of X Gg a_l_sorted) k_l_sorted (Binds.all fun us hl => match us, hl with | [_], _ => rfl)
  have D_l_clause : Df l.prog w K mg base 2 "_law_clause" ["literals"] spLClause := df_of (ok_l_clause F_l_clause T D_l_key) (PySem.W.mg_of X Gg a_l_clause) k_l_clause (Binds.all fun us hl => match us, hl with | [_], _ => rfl)
  have D_l_formula : Df l.prog w K mg base 3 "_law_formula" ["draw", "most", "hidden_most", "clauses"] spLFormula := df_of (ok_l_formula F_l_formula T D_l_take D_l_clause D_l_sorted) (PySem.W.mg_of X Gg a_l_formula) k_l_formula (Binds.all fun us hl => match us, hl with | [_, _, _, _], _ => rfl)
  have D_l_gcd : Df l.prog w K mg base 1 "_law_gcd" ["a", "b"] spGcd := df_of (ok_l_gcd F_l_gcd) (PySem.W.mg_of X Gg a_l_gcd) k_l_gcd (Binds.all fun us hl => match us, hl with | [_, _], _ => rfl)
  have D_l_fraction : Df l.prog w K mg base 2 "_law_fraction" ["n", "d"] spFrac8 := df_of (ok_l_fraction F_l_fraction T D_l_gcd) (PySem.W.mg_of X Gg a_l_fraction) k_l_fraction (Binds.all fun us hl => match us, hl with | [_, _], _ => rfl)
  have D_l_weights : Df l.prog w K mg base 3 "_law_weights" ["draw", "formula"] spLWeights := df_of (ok_l_weights F_l_weights T D_l_take D_l_fraction) (PySem.W.mg_of X Gg a_l_weights) k_l_weights (Binds.all fun us hl => match us, hl with | [_, _], _ => rfl)
  have D_l_is_int : Df l.prog w K mg base 1 "_law_is_int" ["x"] spWhole := df_of (ok_l_is_int F_l_is_int T) (PySem.W.mg_of X Gg a_l_is_int) k_l_is_int (Binds.all fun us hl => match us, hl with | [_], _ => rfl)
  have D_l_good_variables : Df l.prog w K mg base 2 "_law_good_variables" ["row"] spGoodV := df_of (ok_l_good_variables F_l_good_variables T D_l_is_int) (PySem.W.mg_of X Gg a_l_good_variables) k_l_good_variables (Binds.all fun us hl => match us, hl with | [_], _ => rfl)
  have D_l_good_clause : Df l.prog w K mg base 2 "_law_good_clause" ["row"] spGoodC := df_of (ok_l_good_clause F_l_good_clause T D_l_is_int) (PySem.W.mg_of X Gg a_l_good_clause) k_l_good_clause (Binds.all fun us hl => match us, hl with | [_], _ => rfl)
  have D_l_due : Df l.prog w K mg base 3 "_law_due" ["value"] spDueX := df_of (ok_l_due F_l_due T D_l_good_variables D_l_good_clause D_l_key) (PySem.W.mg_of X Gg a_l_due) k_l_due (Binds.all fun us hl => match us, hl with | [_], _ => rfl)
  have D_l_bent : Df l.prog w K mg base 2 "_law_bent" ["draw", "formula"] spBent := df_of (ok_l_bent F_l_bent T D_l_take) (PySem.W.mg_of X Gg a_l_bent) k_l_bent (Binds.all fun us hl => match us, hl with | [_, _], _ => rfl)
  exact ok_law F_law T D_l_draw D_l_take D_l_formula D_l_weights D_formula_faults D_are_weights D_weight_of D_l_bent D_l_due
end Ky
open PySem PySem.W PyProof.Rows in
set_option maxRecDepth 100000 in
set_option maxHeartbeats 0 in
theorem PySem.Challenge.cw_countsworn_k02_faults_of_formulas_holds : PySem.Challenge.rw_countsworn_k02_faults_of_formulas.Holds := by
  w_on; o_law; k_head; (case hw => w_witness2)
  k_fill
  refine Ky.walk_own (l := PySem.Challenge.rw_countsworn_k02_faults_of_formulas) (n := 63) (k := 12) (x := "script") rfl (by decide) rfl ⟨rfl, by decide, by decide⟩ (fun w h Y => PySem.W.kIn_of Y) ?F
  case F =>
    intro w s0 mg mb fa h G Y hmg KX
    refine' Ky.all_mk KX G hmg ?hR_formula_faults ?hR_have_common ?hR_is_clause ?hR_ascends ?hR_is_residue ?hR_are_variables ?hR_are_known ?hR_are_weights ?a_is_whole ?l_is_whole ?b_is_whole ?k_is_whole ?a_is_fraction ?l_is_fraction ?b_is_fraction ?k_is_fraction ?a_literal_key ?l_literal_key ?b_literal_key ?k_literal_key ?a_clause_key ?l_clause_key ?b_clause_key ?k_clause_key ?a_ascends ?l_ascends ?b_ascends ?k_ascends ?a_variables_of ?l_variables_of ?b_variables_of ?k_variables_of ?a_is_variable ?l_is_variable ?b_is_variable ?k_is_variable ?a_is_literal ?l_is_literal ?b_is_literal ?k_is_literal ?a_is_clause ?l_is_clause ?b_is_clause ?k_is_clause ?a_is_residue ?l_is_residue ?b_is_residue ?k_is_residue ?a_are_variables ?l_are_variables ?b_are_variables ?k_are_variables ?a_have_common ?l_have_common ?b_have_common ?k_have_common ?a_are_known ?l_are_known ?b_are_known ?k_are_known ?a_formula_faults ?l_formula_faults ?b_formula_faults ?k_formula_faults ?a_weight_of ?l_weight_of ?b_weight_of ?k_weight_of ?a_is_weight ?l_is_weight ?b_is_weight ?k_is_weight ?a_are_weights ?l_are_weights ?b_are_weights ?k_are_weights ?a_l_draw ?l_l_draw ?b_l_draw ?k_l_draw ?a_l_take ?l_l_take ?b_l_take ?k_l_take ?a_l_key ?l_l_key ?b_l_key ?k_l_key ?a_l_sorted ?l_l_sorted ?b_l_sorted ?k_l_sorted ?a_l_clause ?l_l_clause ?b_l_clause ?k_l_clause ?a_l_formula ?l_l_formula ?b_l_formula ?k_l_formula ?a_l_gcd ?l_l_gcd ?b_l_gcd ?k_l_gcd ?a_l_fraction ?l_l_fraction ?b_l_fraction ?k_l_fraction ?a_l_weights ?l_l_weights ?b_l_weights ?k_l_weights ?a_l_is_int ?l_l_is_int ?b_l_is_int ?k_l_is_int ?a_l_good_variables ?l_l_good_variables ?b_l_good_variables ?k_l_good_variables ?a_l_good_clause ?l_l_good_clause ?b_l_good_clause ?k_l_good_clause ?a_l_due ?l_l_due ?b_l_due ?k_l_due ?a_l_bent ?l_l_bent ?b_l_bent ?k_l_bent ?a_law ?l_law ?b_law ?k_law ?lc_formula_faults ?lv_formula_faults ?nt_formula_faults ?lc_have_common ?lv_have_common ?nt_have_common ?lc_is_clause ?lv_is_clause ?nt_is_clause ?lc_ascends ?lv_ascends ?nt_ascends ?lc_is_residue ?lv_is_residue ?nt_is_residue ?lc_are_variables ?lv_are_variables ?nt_are_variables ?lc_are_known ?lv_are_known ?nt_are_known ?lc_are_weights ?lv_are_weights ?nt_are_weights ?z_isinstance ?z_int ?z_bool ?z_tuple ?z_abs ?z_all ?z_any ?z_len ?z_list ?z_range ?z_sorted ?g__GREATEST_VARIABLE ?v__GREATEST_VARIABLE ?z_gcd
    (case hR_formula_faults => rfl)
    (case hR_have_common => rfl)
    (case hR_is_clause => rfl)
    (case hR_ascends => rfl)
    (case hR_is_residue => rfl)
    (case hR_are_variables => rfl)
    (case hR_are_known => rfl)
    (case hR_are_weights => rfl)
    (case a_is_whole => k_is)
    (case l_is_whole => k_is)
    (case b_is_whole => k_is)
    (case k_is_whole => k_is)
    (case a_is_fraction => k_is)
    (case l_is_fraction => k_is)
    (case b_is_fraction => k_is)
    (case k_is_fraction => k_is)
    (case a_literal_key => k_is)
    (case l_literal_key => k_is)
    (case b_literal_key => k_is)
    (case k_literal_key => k_is)
    (case a_clause_key => k_is)
    (case l_clause_key => k_is)
    (case b_clause_key => k_is)
    (case k_clause_key => k_is)
    (case a_ascends => k_is)
    (case l_ascends => k_is)
    (case b_ascends => k_is)
    (case k_ascends => k_is)
    (case a_variables_of => k_is)
    (case l_variables_of => k_is)
    (case b_variables_of => k_is)
    (case k_variables_of => k_is)
    (case a_is_variable => k_is)
    (case l_is_variable => k_is)
    (case b_is_variable => k_is)
    (case k_is_variable => k_is)
    (case a_is_literal => k_is)
    (case l_is_literal => k_is)
    (case b_is_literal => k_is)
    (case k_is_literal => k_is)
    (case a_is_clause => k_is)
    (case l_is_clause => k_is)
    (case b_is_clause => k_is)
    (case k_is_clause => k_is)
    (case a_is_residue => k_is)
    (case l_is_residue => k_is)
    (case b_is_residue => k_is)
    (case k_is_residue => k_is)
    (case a_are_variables => k_is)
    (case l_are_variables => k_is)
    (case b_are_variables => k_is)
    (case k_are_variables => k_is)
    (case a_have_common => k_is)
    (case l_have_common => k_is)
    (case b_have_common => k_is)
    (case k_have_common => k_is)
    (case a_are_known => k_is)
    (case l_are_known => k_is)
    (case b_are_known => k_is)
    (case k_are_known => k_is)
    (case a_formula_faults => k_is)
    (case l_formula_faults => k_is)
    (case b_formula_faults => k_is)
    (case k_formula_faults => k_is)
    (case a_weight_of => k_is)
    (case l_weight_of => k_is)
    (case b_weight_of => k_is)
    (case k_weight_of => k_is)
    (case a_is_weight => k_is)
    (case l_is_weight => k_is)
    (case b_is_weight => k_is)
    (case k_is_weight => k_is)
    (case a_are_weights => k_is)
    (case l_are_weights => k_is)
    (case b_are_weights => k_is)
    (case k_are_weights => k_is)
    (case a_l_draw => k_is)
    (case l_l_draw => k_is)
    (case b_l_draw => k_is)
    (case k_l_draw => k_is)
    (case a_l_take => k_is)
    (case l_l_take => k_is)
    (case b_l_take => k_is)
    (case k_l_take => k_is)
    (case a_l_key => k_is)
    (case l_l_key => k_is)
    (case b_l_key => k_is)
    (case k_l_key => k_is)
    (case a_l_sorted => k_is)
    (case l_l_sorted => k_is)
    (case b_l_sorted => k_is)
    (case k_l_sorted => k_is)
    (case a_l_clause => k_is)
    (case l_l_clause => k_is)
    (case b_l_clause => k_is)
    (case k_l_clause => k_is)
    (case a_l_formula => k_is)
    (case l_l_formula => k_is)
    (case b_l_formula => k_is)
    (case k_l_formula => k_is)
    (case a_l_gcd => k_is)
    (case l_l_gcd => k_is)
    (case b_l_gcd => k_is)
    (case k_l_gcd => k_is)
    (case a_l_fraction => k_is)
    (case l_l_fraction => k_is)
    (case b_l_fraction => k_is)
    (case k_l_fraction => k_is)
    (case a_l_weights => k_is)
    (case l_l_weights => k_is)
    (case b_l_weights => k_is)
    (case k_l_weights => k_is)
    (case a_l_is_int => k_is)
    (case l_l_is_int => k_is)
    (case b_l_is_int => k_is)
    (case k_l_is_int => k_is)
    (case a_l_good_variables => k_is)
    (case l_l_good_variables => k_is)
    (case b_l_good_variables => k_is)
    (case k_l_good_variables => k_is)
    (case a_l_good_clause => k_is)
    (case l_l_good_clause => k_is)
    (case b_l_good_clause => k_is)
    (case k_l_good_clause => k_is)
    (case a_l_due => k_is)
    (case l_l_due => k_is)
    (case b_l_due => k_is)
    (case k_l_due => k_is)
    (case a_l_bent => k_is)
    (case l_l_bent => k_is)
    (case b_l_bent => k_is)
    (case k_l_bent => k_is)
    (case a_law => k_is)
    (case l_law => k_is)
    (case b_law => k_is)
    (case k_law => k_is)
    (case lc_formula_faults => k_is)
    (case lv_formula_faults => exact rfl)
    (case nt_formula_faults => first | exact rfl | decide +kernel)
    (case lc_have_common => k_is)
    (case lv_have_common => exact rfl)
    (case nt_have_common => first | exact rfl | decide +kernel)
    (case lc_is_clause => k_is)
    (case lv_is_clause => exact rfl)
    (case nt_is_clause => first | exact rfl | decide +kernel)
    (case lc_ascends => k_is)
    (case lv_ascends => exact rfl)
    (case nt_ascends => first | exact rfl | decide +kernel)
    (case lc_is_residue => k_is)
    (case lv_is_residue => exact rfl)
    (case nt_is_residue => first | exact rfl | decide +kernel)
    (case lc_are_variables => k_is)
    (case lv_are_variables => exact rfl)
    (case nt_are_variables => first | exact rfl | decide +kernel)
    (case lc_are_known => k_is)
    (case lv_are_known => exact rfl)
    (case nt_are_known => first | exact rfl | decide +kernel)
    (case lc_are_weights => k_is)
    (case lv_are_weights => exact rfl)
    (case nt_are_weights => first | exact rfl | decide +kernel)
    (case z_isinstance => k_is)
    (case z_int => k_is)
    (case z_bool => k_is)
    (case z_tuple => k_is)
    (case z_abs => k_is)
    (case z_all => k_is)
    (case z_any => k_is)
    (case z_len => k_is)
    (case z_list => k_is)
    (case z_range => k_is)
    (case z_sorted => k_is)
    (case g__GREATEST_VARIABLE => k_is)
    (case v__GREATEST_VARIABLE => exact ⟨_, rfl⟩)
    (case z_gcd => k_is)

import PyProof.Rows.All
import Wide.All
import OpenK.AllK
import Wide.FinOn
import HandS.ForMost
import HandS.AnyAll
import HandS.EndTab
import HandS.Style
import HandS.Gcd
import HandS.Wide
import HandS.StrMore
import HandS.Evl
import KE.KNest
import HandS.GenList
import PyProof.GenArm
import KE.SortKeyHeap
import KE.SortData
import KE.DataCmp
import HandS.SortKw
import HandS.DictComp
import HandS.Conv
import HandS.SetBool
import HandS.Strs
import HandS.IsInst
import HandS.More
import HandS.TupLe
import HandS.Small
import HandS.Deep
import KE.LtData
import HandS.TupAny
import PySem.Challenge.RW_countsworn_k01_clauses_and_residues
set_option Elab.async false
set_option linter.all false
set_option maxRecDepth 100000
set_option maxHeartbeats 4000000
namespace Ky
open PySem PySem.Spec PyProof.Rows L2
/-! ### what stays -/
def NoTab (o : HO) : Prop := ∀ ps, o ≠ HO.tbl ps
theorem noTab_tup {xs : List V} : NoTab (.tup xs) := fun ps e => by cases e
theorem noTab_lst {xs : List V} : NoTab (.lst xs) := fun ps e => by cases e
/-- the cells to draw from, at d -/
def Drw (K : PySem.W.Frag) (H : Hp) (d : Addr) : Prop := ∃ (c : Addr) (ns : List Int) (a u z : Int),
  H d = some (.lst [.ref c, .int a, .int u, .int z]) ∧ H c = some (.lst (ns.map V.int)) ∧ -1 ≤ a
theorem Drw.ne {K : PySem.W.Frag} {H : Hp} {d : Addr} (h : Drw K H d) : ∃ xs, H d = some (.lst xs) := by
  obtain ⟨c, ns, a, u, z, h1, _⟩ := h
  exact ⟨_, h1⟩
structure Kept (H H' : Hp) : Prop where
  keep : ∀ b o, NoTab o → H b = some o → H' b = some o
  tab : ∀ P, GxR.TabG H P → GxR.TabG H' P
  free : ∀ b, H' b = none → H b = none
structure KeptD (K : PySem.W.Frag) (d : Addr) (H H' : Hp) : Prop where
  keep : ∀ b o, b ≠ d → NoTab o → H b = some o → H' b = some o
  drw : Drw K H d → Drw K H' d
  tab : ∀ P, GxR.TabG H P → GxR.TabG H' P
  free : ∀ b, H' b = none → H b = none
theorem Kept.refl (H : Hp) : Kept H H := ⟨fun _ _ _ h => h, fun _ h => h, fun _ h => h⟩
theorem Kept.trans {H H1 H2 : Hp} (a : Kept H H1) (b : Kept H1 H2) : Kept H H2 := ⟨fun c o n h => b.keep c o n (a.keep c o n h), fun P h => b.tab P (a.tab P h), fun c h => a.free c (b.free c h)⟩
theorem KeptD.refl {K : PySem.W.Frag} {d : Addr} (H : Hp) : KeptD K d H H := ⟨fun _ _ _ _ h => h, fun h => h, fun _ h => h, fun _ h => h⟩
theorem KeptD.trans {K : PySem.W.Frag} {d : Addr} {H H1 H2 : Hp} (a : KeptD K d H H1) (b : KeptD K d H1 H2) : KeptD K d H H2 :=
  ⟨fun c o n m h => b.keep c o n m (a.keep c o n m h), fun h => b.drw (a.drw h), fun P h => b.tab P (a.tab P h), fun c h => a.free c (b.free c h)⟩
theorem Kept.toD {K : PySem.W.Frag} {d : Addr} {H H' : Hp} (a : Kept H H') : KeptD K d H H' := ⟨fun b o _ n h => a.keep b o n h, fun h => by
  obtain ⟨c, ns, i, u, z, h1, h2, h3⟩ := h
  exact ⟨c, ns, i, u, z, a.keep _ _ noTab_lst h1, a.keep _ _ noTab_lst h2, h3⟩, a.tab, a.free⟩
theorem upd_free {H : Hp} {p b : Addr} {o : HO} (h : upd H p o b = none) : H b = none ∧ b ≠ p := by
  by_cases z : b = p
  · rw [z, upd_same] at h
    cases h
  · rw [upd_ne z] at h
    exact ⟨h, z⟩
theorem Kept.new {H : Hp} {p : Addr} {o : HO} (h : H p = none) : Kept H (upd H p o) := ⟨fun a u _ e => by
  rw [upd_ne (ne_of_none e h)]
  exact e, fun P hP => by
  obtain ⟨ps, h1, h2⟩ := hP
  exact ⟨ps, by rw [upd_ne (ne_of_none h1 h)]; exact h1, h2⟩, fun b hb => (upd_free hb).1⟩
theorem Kept.mut {H H' : Hp} {p : Addr} {o : HO} (e : Kept H H') (h : H p = none) : Kept H (upd H' p o) := ⟨fun a u n ha => by
  rw [upd_ne (ne_of_none ha h)]
  exact e.keep a u n ha, fun P hP => by
  obtain ⟨ps, h1, h2⟩ := hP
  have nP := ne_of_none h1 h
  obtain ⟨qs, g1, g2⟩ := e.tab P ⟨ps, h1, h2⟩
  exact ⟨qs, by rw [upd_ne nP]; exact g1, g2⟩, fun b hb => e.free b (upd_free hb).1⟩
theorem Kept.tabbed {H H' : Hp} {P : Addr} (hP : GxR.TabG H P) (e : GxR.Tabbed P H H') : Kept H H' := ⟨fun b o n h => by
  have nP : b ≠ P := fun z => by
    obtain ⟨ps, h1, _⟩ := hP
    rw [z, h1] at h
    exact n ps (Option.some.inj h).symm
  rw [e.2 b nP]
  exact h, fun P' h' => by
  by_cases z : P' = P
  · rw [z]
    exact e.1
  · obtain ⟨ps, h1, h2⟩ := h'
    exact ⟨ps, by rw [e.2 P' z]; exact h1, h2⟩, fun b h => by
  by_cases z : b = P
  · obtain ⟨ps, h1, _⟩ := e.1
    rw [z, h1] at h
    cases h
  · rw [e.2 b z] at h
    exact h⟩
theorem Kept.sq {K : PySem.W.Frag} {H H' : Hp} {a : Addr} {xs : List V} (e : Kept H H') (h : SqL K H a xs) : SqL K H' a xs := by
  rcases h with (h | ⟨o, h⟩) | h
  · exact .inl (.inl (e.keep _ _ noTab_lst h))
  · exact .inl (.inr ⟨o, e.keep _ _ (fun ps z => by cases z) h⟩)
  · exact .inr h
theorem Kept.tup {H H' : Hp} {p : Addr} {xs : List V} (e : Kept H H') (h : H p = some (.tup xs)) : H' p = some (.tup xs) := e.keep _ _ noTab_tup h
theorem Kept.lst {H H' : Hp} {p : Addr} {xs : List V} (e : Kept H H') (h : H p = some (.lst xs)) : H' p = some (.lst xs) := e.keep _ _ noTab_lst h
theorem KeptD.tup {K : PySem.W.Frag} {d : Addr} {H H' : Hp} {p : Addr} {xs : List V} (e : KeptD K d H H') (hd : Drw K H d) (h : H p = some (.tup xs)) : H' p = some (.tup xs) := e.keep _ _ (fun z => by
  obtain ⟨ys, h'⟩ := hd.ne
  rw [z, h'] at h
  cases h) noTab_tup h
theorem KeptD.lst {K : PySem.W.Frag} {d : Addr} {H H' : Hp} {p : Addr} {xs : List V} (e : KeptD K d H H') (hd : p ≠ d) (h : H p = some (.lst xs)) : H' p = some (.lst xs) := e.keep _ _ hd noTab_lst h
/-! ### a def of the module, to be called -/
structure Df (P : Program) (w : World) (K : PySem.W.Frag) (mg : Str → Option Value) (base : Heap) (k : Nat) (x : Str) (ps : List Str) (sp : Sp) : Prop where
  ex : ∃ f fd, FnOk P w K mg base CX0 k f fd ps sp ∧ mg x = some (.ref f) ∧ PySem.W.keepIn K (.ref f) = true ∧ Binds K fd ps []
section
variable {X : Cx} {k : Nat} {ps : List Str} {sp : Sp} {x : Str} {p pos : Pos} {e : Expr} {es : List Expr} {t : TA}
theorem pe_df (D : Df X.prog X.w X.K X.mg X.base k x ps sp) (hr : Room k X.A) (hg : Gl X x) (ha : PA X (e :: es) t) (hdb : (x == ("__debug__" : Str)) = false := by decide)
    (he : starEach (e :: es) X.env = (false, eval e X.env) :: starEach es X.env := by rfl) (hpl : (backTo pos (starEach es X.env)).any (·.1) = false := by rfl) :
    PE X (.Call (.Name x p) (e :: es) [] pos) (tCall sp [] E0 t) := by
  obtain ⟨f, fd, F, hm, hk, hb⟩ := D.ex
  exact pe_call F hr hg hm hk hb .nil pass0 ha hdb he hpl
end
/-! ### a def whose code object is told -/
structure FunC (K : PySem.W.Frag) (x : Str) (st : Stmt) (f : Addr) (fd : FuncData) (c : Addr) : Prop where
  ex : ∃ (oc : Value) (od : Option Addr) (kV doc pm : Value) (an : Option Addr) (ct : Value) (osl : Array (Option Value)),
    fd = PySem.W.fnOf x x (defArgs st) (defBody st) (defScope st) .none kV doc pm an (.ref c) ct ∧ K.lookup f = some ⟨oc, od, .func fd, osl⟩ ∧ PySem.W.codeIn K (.ref c) x = true
theorem FunC.ok {P : Program} {w : World} {K : PySem.W.Frag} {mg : Str → Option Value} {base : Heap} {x : Str} {st : Stmt} {f c : Addr} {fd : FuncData} {N ps : List Str} {k : Nat} {sp : Sp} (F : FunC K x st f fd c) (S : FnScope N ps (defScope st)) (len : ∀ vs H Q E, sp vs H Q E → vs.length = ps.length)
    (body : ∀ (A : Around) (outer : List Env) (s : Shared) (H : Hp) (vs : List V) (Q : VK) (E : XK), Room k (A.deeper (envOfC x (defScope st) s.heap.objs.size f (.ref c))) → sp vs H Q E →
      ∃ t, PSs (cxOf CX0 P w K mg base N x (defScope st) f (.ref c) A outer s H E).nox (defBody st) t ∧ t { nx := fun _ H' => Q .non H', rt := Q } (start N vs) H) : FnOk P w K mg base CX0 (k + 1) f fd ps sp := by
  obtain ⟨oc, od, kV, doc, pm, an, ct, osl, e, lk, hcd⟩ := F.ex
  subst e
  refine fn_of lk hcd S len fun A outer s H vs Q E hr hsp => ?_
  obtain ⟨t, h, q⟩ := body A outer s H vs Q E hr hsp
  exact ⟨t, h.nox, q⟩
/-- one sign among those of a written text, as the test of a generator expression -/
theorem elt_in {prog : Program} {w : World} {scope : Scope} {x k : Str} {j : Nat} {p1 p2 p3 : Pos} (hk : scope.kind = .function) (hl : scope.names.lookup x = some .local) (hd : (x == ("__debug__" : Str)) = false := by decide) :
    GxR.EltP prog w scope x (.Compare (.Name x p1) [.In] [.Constant (.str k) j p2] p3) (fun c => decide (c ∈ k.cps.toList)) := by
  intro cenv A' E' c t s2 m2 hs hn hm
  refine wpAny_Compare1 ?_
  refine wpAny_Name (wpAny_loadName_local (by rw [hs]; exact hk) (show cenv.scope.names.lookup x = some .local by rw [hs]; exact hl) hn hm ?_) hd
  refine Calls.Constant_str ?_
  exact PyProof.Rows.in_str ⟨congrArg Value.bool (PySem.StrLaws.found_one k c), GxR.keeps_tok _ _⟩
/-! ### // by any divisor but 0 -/
section
variable {X : Cx}
def CDivA (_ j : Int) : Prop := j ≠ 0 ∧ j.natAbs.log2 < 9000
theorem op_fdivA : OpR X (binaryOp .FloorDiv) (rI CDivA fun i j => .int (i.fdiv j)) := opI fun i j _ _ _ _ _ hc q =>
  floordiv_int hc.1 q (.inl (PyProof.noPylong_of_log2 hc.2))
theorem divA {i j : Int} {b : Nat} (h : j ≠ 0) (hb : j.natAbs < 2 ^ b) (h0 : 0 < b) (h9 : b ≤ 9000) : CDivA i j := ⟨h, Nat.lt_of_lt_of_le (PySem.Flt.log2_lt_of h0 hb) h9⟩
end
/-! ### one step of a reading -/
section
variable {σ σ' : L2.St} {H : Hp} {Q : VK} {D : Ends} {ta tb te : TE} {t u c : TT} {tq : TA} {s1 s2 : TS} {K : PySem.W.Frag} {v x y : V} {i : Nat} {G : TG}
theorem w_seq (q : s1 { nx := s2 D, rt := D.rt, bk := D.bk, ct := D.ct } σ H) : tSeq s1 s2 D σ H := q
theorem w_next (q : D.nx σ H) : tNext D σ H := q
theorem w_asg (q : te σ H fun v H1 => D.nx (σ.set i (some v)) H1) : tAsg te (gName i) D σ H := q
theorem w_asgG (q : te σ H fun v H1 => G v σ H1 D.nx) : tAsg te G D σ H := q
theorem w_drop (q : te σ H fun _ H1 => D.nx σ H1) : tDrop te D σ H := q
theorem w_ret (q : te σ H D.rt) : tRet te D σ H := q
theorem w_ifs (q : c σ H fun b H1 => if b = true then s1 D σ H1 else s2 D σ H1) : tIfS c s1 s2 D σ H := q
theorem w_var (h : σ[i]? = some (some v)) (q : Q v H) : tVar i σ H Q := ⟨v, h, q⟩
theorem w_c (q : Q v H) : tC v σ H Q := q
theorem w_op {r : R2} (q : ta σ H fun x H1 => tb σ H1 fun y H2 => r x y H2 Q) : tOp r ta tb σ H Q := q
theorem w_un {r : V → Hp → VK → Prop} (q : ta σ H fun x H1 => r x H1 Q) : tUn r ta σ H Q := q
theorem w_I0 {g : Int → Int → V} {i j : Int} (q : Q (g i j) H) : rI0 g (.int i) (.int j) H Q := ⟨i, j, rfl, rfl, q⟩
theorem w_I {C : Int → Int → Prop} {g : Int → Int → V} {i j : Int} (h : C i j) (q : Q (g i j) H) : rI C g (.int i) (.int j) H Q := ⟨i, j, rfl, rfl, h, q⟩
theorem w_U {g : Int → V} {i : Int} (q : Q (g i) H) : rU g (.int i) H Q := ⟨i, rfl, q⟩
theorem w_nil {R : List V → Hp → Prop} (q : R [] H) : tNil σ H R := q
theorem w_cons {R : List V → Hp → Prop} (q : te σ H fun x H1 => tq σ H1 fun xs H2 => R (x :: xs) H2) : tCons te tq σ H R := q
theorem w_call {sp : Sp} {dvs : List V} {E : XK} (q : tq σ H fun vs H1 => sp (vs ++ dvs) H1 Q E) : tCall sp dvs E tq σ H Q := q
theorem w_cb {r : List V → Hp → VK → Prop} (q : tq σ H fun vs H1 => r vs H1 Q) : tCB r tq σ H Q := q
theorem w_test {R : Bool → Hp → Prop} (q : te σ H fun x H' => ∃ k, x = .bl k ∧ R k H') : tTest te σ H R := q
theorem w_B {R : Bool → Hp → Prop} (q : te σ H fun x H' => ∃ k, x = .bl k ∧ R k H') : tB te σ H R := q
theorem w_bl {R : Bool → Prop} {b : Bool} (q : R b) : ∃ k, V.bl b = .bl k ∧ R k := ⟨b, rfl, q⟩
theorem w_and {R : Bool → Hp → Prop} (q : t σ H fun b H1 => if b = true then u σ H1 R else R false H1) : tAnd t u σ H R := q
theorem w_or {R : Bool → Hp → Prop} (q : t σ H fun b H1 => if b = true then R true H1 else u σ H1 R) : tOr t u σ H R := q
theorem w_not {R : Bool → Hp → Prop} (q : t σ H fun b H1 => R (!b) H1) : tNot t σ H R := q
theorem w_ife (q : t σ H fun b H1 => if b = true then ta σ H1 Q else tb σ H1 Q) : tIf t ta tb σ H Q := q
theorem w_ixT {p : Addr} {xs : List V} {i : Int} (h : H p = some (.tup xs)) (ha : atI xs i = some v) (q : Q v H) : rIxT K (.ref p) (.int i) H Q := ⟨p, xs, i, v, rfl, rfl, SqT.of h, ha, q⟩
theorem w_ixL {p : Addr} {xs : List V} {i : Int} (h : H p = some (.lst xs)) (ha : atI xs i = some v) (q : Q v H) : rIxL K (.ref p) (.int i) H Q := ⟨p, xs, i, v, rfl, rfl, SqL.of h, ha, q⟩
theorem w_eq (h : scal x y = true) (q : Q (.bl (decide (x = y))) H) : rEq x y H Q := ⟨h, q⟩
theorem w_ne (h : scal x y = true) (q : Q (.bl (!decide (x = y))) H) : rNe x y H Q := ⟨h, q⟩
theorem w_tup (q : tq σ H fun xs H1 => xs.length ≤ sizeLine ∧ ∀ p, H1 p = none → Q (.ref p) (upd H1 p (.tup xs))) : tTup tq σ H Q := q
theorem w_lst (q : tq σ H fun xs H1 => xs.length ≤ sizeLine ∧ ∀ p, H1 p = none → Q (.ref p) (upd H1 p (.lst xs))) : tLst tq σ H Q := q
theorem w_bm {T : String} {r : V → List V → Hp → VK → Prop} (q : te σ H fun x H1 => tyV K T x H1 ∧ tq σ H1 fun xs H2 => r x xs H2 Q) : tBM K T r te tq σ H Q := q
theorem w_m1 {r : V → List V → Hp → VK → Prop} (q : ta σ H fun x H1 => (∃ a, x = .str a) ∧ tb σ H1 fun y H2 => r x [y] H2 Q) : tM1 r ta tb σ H Q := q
theorem w_tyL {A : Prop} {l : Addr} {xs : List V} (h : H l = some (.lst xs)) (q : A) : tyV K "list" (.ref l) H ∧ A := ⟨.inl ⟨rfl, _, SqL.of h⟩, q⟩
theorem w_tyS {A : Prop} {z : Str} (q : A) : tyV K "str" (.str z) H ∧ A := ⟨rfl, q⟩
theorem w_isS {A : Prop} {z : Str} (q : A) : (∃ a, V.str z = .str a) ∧ A := ⟨⟨_, rfl⟩, q⟩
theorem w_app {l : Addr} {xs : List V} (h : H l = some (.lst xs)) (hl : xs.length < sizeLine) (q : Q .non (upd H l (.lst (xs ++ [y])))) : rAppend (.ref l) [y] H Q := ⟨l, xs, y, rfl, rfl, h, hl, q⟩
theorem w_gn {R : L2.St → Hp → Prop} (q : R (σ.set i (some v)) H) : gName i v σ H R := q
theorem w_gsub {ts : TSet} {R : L2.St → Hp → Prop} (q : ta σ H fun o H1 => tb σ H1 fun i H2 => ts o i v H2 fun H3 => R σ H3) : gSub ta tb ts v σ H R := q
theorem w_setL {p : Addr} {xs : List V} {k : Int} {j : Nat} {R : Hp → Prop} (h : H p = some (.lst xs)) (hj : ixN xs.length k = some j) (q : R (upd H p (.lst (xs.set j v)))) : rSetL (.ref p) (.int k) v H R := ⟨p, xs, k, j, rfl, rfl, h, hj, q⟩
theorem w_yes {R : Bool → Hp → Prop} (q : R true H) : tYes σ H R := q
theorem w_sl {r : V → Option Int → Option Int → Hp → VK → Prop} {tl th : TO} (q : te σ H fun x H1 => tl σ H1 fun l H2 => th σ H2 fun u H3 => r x l u H3 Q) : tSl r te tl th σ H Q := q
theorem w_part {R : Option Int → Hp → Prop} (q : te σ H fun x H1 => ∃ i, x = .int i ∧ R (some i) H1) : tPart te σ H R := q
theorem w_nop {R : Option Int → Hp → Prop} (q : R none H) : tNoPart σ H R := q
theorem w_isI {R : Int → Prop} {n : Int} (q : R n) : ∃ i, V.int n = .int i ∧ R i := ⟨n, rfl, q⟩
theorem if_t {A B : Prop} {b : Bool} (h : b = true) (q : A) : if b = true then A else B := by rw [if_pos h]; exact q
theorem if_f {A B : Prop} {b : Bool} (h : b = false) (q : B) : if b = true then A else B := by rw [h]; exact iteF q
end
local macro_rules | `(tactic| walk_at "rd") => `(tactic| repeat (first
  | with_reducible refine w_seq ?_
  | with_reducible refine w_asg ?_
  | with_reducible refine w_ret ?_
  | with_reducible refine w_drop ?_
  | with_reducible refine w_ifs ?_
  | ((with_reducible refine' w_var ?hh ?_); (case hh => exact rfl))
  | with_reducible refine w_c ?_
  | with_reducible refine w_op ?_
  | with_reducible refine w_un ?_
  | with_reducible refine w_I0 ?_
  | with_reducible refine w_U ?_
  | with_reducible refine w_nil ?_
  | with_reducible refine w_cons ?_
  | with_reducible refine w_call ?_
  | with_reducible refine w_cb ?_
  | with_reducible refine w_test ?_
  | with_reducible refine w_B ?_
  | with_reducible refine w_bl ?_
  | with_reducible refine w_and ?_
  | with_reducible refine w_or ?_
  | with_reducible refine w_not ?_
  | with_reducible refine w_ife ?_
  | with_reducible refine w_tup ?_
  | with_reducible refine w_lst ?_
  | with_reducible refine w_next ?_
  | with_reducible refine w_bm ?_
  | with_reducible refine w_sl ?_
  | with_reducible refine w_part ?_
  | with_reducible refine w_nop ?_
  | with_reducible refine w_isI ?_
  | with_reducible refine w_yes ?_
  | with_reducible refine w_gn ?_
  | with_reducible refine w_gsub ?_
  | ((with_reducible refine' w_setL ?h1 ?h2 ?_); (case h1 => first | assumption | exact upd_same); (case h2 => exact rfl))
  | with_reducible refine w_asgG ?_
  | with_reducible refine w_m1 ?_
  | with_reducible refine w_isS ?_
  | with_reducible refine w_tyS ?_
  | ((with_reducible refine' w_tyL ?h1 ?_); (case h1 => first | assumption | exact upd_same))
  | ((with_reducible refine' w_ixT ?h1 ?h2 ?_); (case h1 => first | assumption | exact upd_same); (case h2 => exact rfl))
  | ((with_reducible refine' w_ixL ?h1 ?h2 ?_); (case h1 => first | assumption | exact upd_same); (case h2 => exact rfl))
  | ((with_reducible refine w_eq ?h1 ?_); (case h1 => exact rfl))
  | ((with_reducible refine w_ne ?h1 ?_); (case h1 => exact rfl))
  | dsimp only [List.set_cons_zero, List.set_cons_succ, List.append_nil, List.cons_append, List.nil_append, cxOf]))
/-! ### the law's own draws -/
/-- only the list at d has changed, and it is still cells, a place, a rest, a mixed row -/
def TakeSt (H : Hp) (c d : Addr) (H' : Hp) : Prop := (∀ b, b ≠ d → H' b = H b) ∧ ∃ a u z : Int, H' d = some (.lst [.ref c, .int a, .int u, .int z]) ∧ -1 ≤ a
theorem TakeSt.upd {H H' : Hp} {c d : Addr} {a u z : Int} (h : TakeSt H c d H') (ha : -1 ≤ a) : TakeSt H c d (L2.upd H' d (.lst [.ref c, .int a, .int u, .int z])) :=
  ⟨fun b hb => by rw [upd_ne hb]; exact h.1 b hb, a, u, z, upd_same, ha⟩
theorem TakeSt.kept {K : PySem.W.Frag} {H H' : Hp} {c d : Addr} {ns : List Int} {xs : List V} (h : TakeSt H c d H') (hd : H d = some (.lst xs)) (hc : H c = some (.lst (ns.map V.int))) (ne : c ≠ d) : KeptD K d H H' := by
  obtain ⟨h1, a, u, z, h2, h3⟩ := h
  refine ⟨fun b o hb _ q => by rw [h1 b hb]; exact q, fun _ => ⟨c, ns, a, u, z, h2, by rw [h1 c ne]; exact hc, h3⟩, fun P hP => ?_, fun b q => ?_⟩
  · obtain ⟨ps, p1, p2⟩ := hP
    have : P ≠ d := fun e => by
      rw [e, hd] at p1
      cases p1
    exact ⟨ps, by rw [h1 P this]; exact p1, p2⟩
  · by_cases e : b = d
    · rw [e, h2] at q
      cases q
    · rw [h1 b e] at q
      exact q
def spTake (K : PySem.W.Frag) : Sp := fun vs H Q _ => ∃ (d : Addr) (m : Int), vs = [.ref d, .int m] ∧ 0 < m ∧ m < 2 ^ 62 ∧ Drw K H d ∧ ∀ (r : Int) H', 0 ≤ r → r < m → KeptD K d H H' → Q (.int r) H'
def spDraw (K : PySem.W.Frag) : Sp := fun vs H Q _ => ∃ (a : Addr) (ns : List Int), vs = [.ref a] ∧ SqL K H a (ns.map V.int) ∧ ns.length ≤ 63 ∧ ∀ d H', H d = none → Kept H H' → Drw K H' d → Q (.ref d) H'
theorem pick_int {ns : List Int} {r : Int} (h0 : 0 ≤ r) (h1 : r < (ns.length : Int)) : ∃ v ∈ ns, atI (ns.map V.int) r = some (V.int v) := by
  obtain ⟨j, rfl⟩ : ∃ j : Nat, r = (j : Int) := ⟨r.toNat, by omega⟩
  have hj : j < ns.length := by omega
  refine ⟨ns[j], List.getElem_mem hj, atI_nat ?_⟩
  rw [List.getElem?_map, List.getElem?_eq_getElem hj]
  rfl
theorem map_int {ns : List Int} {i : Nat} {y : V} (h : (ns.map V.int)[i]? = some y) : ∃ u, y = V.int u ∧ ns[i]? = some u := by
  rw [List.getElem?_map] at h
  cases e : ns[i]? with
  | none =>
    rw [e] at h
    cases h
  | some u =>
    rw [e] at h
    exact ⟨u, (Option.some.inj h).symm, rfl⟩
/-! ### fractions -/
def frc (n d : Int) : Int × Int := (n.fdiv (if d < 0 then -((Nat.gcd n.natAbs d.natAbs : Nat) : Int) else ((Nat.gcd n.natAbs d.natAbs : Nat) : Int)),
  d.fdiv (if d < 0 then -((Nat.gcd n.natAbs d.natAbs : Nat) : Int) else ((Nat.gcd n.natAbs d.natAbs : Nat) : Int)))
def FrAt (H : Hp) (p : Addr) (a : Int × Int) : Prop := H p = some (.tup [.int a.1, .int a.2])
def Small (n : Nat) (a : Int × Int) : Prop := a.1.natAbs < 2 ^ n ∧ a.2.natAbs < 2 ^ n
def spFrac : Sp := fun vs H Q _ => ∃ n d : Int, vs = [.int n, .int d] ∧ d ≠ 0 ∧ n.natAbs < 2 ^ 1000 ∧ d.natAbs < 2 ^ 1000 ∧
  ∀ p H', H p = none → Kept H H' → FrAt H' p (frc n d) → Q (.ref p) H'
end Ky

namespace Ky
open PySem PySem.Spec PyProof.Rows L2
/-! ### a generator expression's frame -/
abbrev gxEnv (X : Cx) (s : Shared) (scope : Scope) (code : Value) : Env := genEnv scope (cloFrom X.env.cells scope.names []) s.heap.objs.size code builtinsNs X.env
abbrev gx (X : Cx) (A' : Around) (s : Shared) (H : Hp) (scope : Scope) (code : Value) (fp : List Addr) : Cx :=
  { X with A := A', s_0 := s, H_0 := H, env := gxEnv X s scope code, outer := X.stack, stack := gxEnv X s scope code :: X.stack, ex := fp, fn := fun _ => false, pn := [], xe := fun _ _ => False }
theorem over_gen {A : Around} {elt : Expr} {cs : List Comprehension} {sc : Scope} {pos : Pos} {it acc : Value} {env : Env} : A.over (.compLoop (.GeneratorExp elt cs sc pos) 0 it acc env) [] = A.deeper env := by
  first
    | rfl
    | (obtain ⟨hd, d, fr, gs, u⟩ := A; simp [Around.over, Around.deeper, marksOver, frameCount, unitsOf, envsOf, guardsOf, pushEnvs, pushGuards, Code.envs, Code.env?, Code.isFrame, Code.guards, Code.isGuard, Code.weight, Code.frames, Code.isCreation, Code.isCaller, Code.cUnits])
theorem over_gen0 {A : Around} {elt : Expr} {cs : List Comprehension} {sc : Scope} {pos : Pos} {it acc : Value} {env : Env} : A.over (.compStart (.GeneratorExp elt cs sc pos) 0 it acc env) [] = A.deeper env := by
  first
    | rfl
    | (obtain ⟨hd, d, fr, gs, u⟩ := A; simp [Around.over, Around.deeper, marksOver, frameCount, unitsOf, envsOf, guardsOf, pushEnvs, pushGuards, Code.envs, Code.env?, Code.isFrame, Code.guards, Code.isGuard, Code.weight, Code.frames, Code.isCreation, Code.isCaller, Code.cUnits])
section
variable {X : Cx} {pins : List (Addr × Obj)} {σ : L2.St} {H : Hp} {s : Shared}
theorem gx_start {A' : Around} {scope : Scope} {code : Value} {own : List (Str × Nat)} {fp : List Addr} {h' : Heap} {m : Str → Option Value} {g' : Array GenState} {t' : Nat} (I : Inv X pins σ H s) (ok : BlkOk X.N X.env.scope scope own) (hcell : ∀ y ∈ scope.names, y.2 ≠ .cell) (hN : X.N.Nodup)
    (hfp : ∀ b ∈ fp, FpOk X pins H b ∧ b < s.heap.objs.size) (hh : A'.handled = none) (hfr : A'.frames = some (gxEnv X s scope code :: X.stack)) (hn : h'.Ns s.heap.objs.size m) (kp : ∀ b o, s.heap.get? b = some o → h'.get? b = some o) (hg : AllBare g') :
    Inv (gx X A' s H scope code fp) [] (wipe σ (own.map (·.2))) H { s with heap := h', gens := g', toks := t' } := by
  have hfree : ∀ y ∈ scope.names, y.2 = .free → ∃ c, X.env.cells.lookup y.1 = some c := fun y hy e => by
    rcases ok.free y hy e with k | k
    · exact I.ok.has _ (.inl k)
    · exact I.ok.has _ (.inr k)
  have cm : ∀ {y c}, (cloFrom X.env.cells scope.names []).lookup y = some c → X.env.cells.lookup y = some c ∧ c < s.heap.objs.size := fun {y c} e => by
    rcases cloFrom_mem (PySem.mem_of_lookup e) with hm | ⟨h1, rfl⟩
    · cases hm
    · obtain ⟨c, hc⟩ := hfree _ h1 rfl
      rw [hc]
      obtain ⟨w, z⟩ := I.cell _ _ hc
      exact ⟨rfl, z.lt⟩
  have look : ∀ {y}, scope.names.lookup y = some .free → ∃ c, (cloFrom X.env.cells scope.names []).lookup y = some c ∧ X.env.cells.lookup y = some c := fun {y} hl => by
    have hy : (y, NameKind.free) ∈ scope.names := PySem.mem_of_lookup hl
    obtain ⟨c', e'⟩ := mem_lookup (cloFrom_has (cells := X.env.cells) (acc := []) hy)
    exact ⟨c', e', (cm e').1⟩
  have okB : (gx X A' s H scope code fp).Ok := by
    refine ⟨I.ok.mod, ok.kind, I.ok.glob, rfl, Nat.le_refl _, fun y z c e1 e2 => I.ok.inj y z c (cm e1).1 (cm e2).1, fun y hy => ?_, fun y c z e => absurd z Bool.false_ne_true, fun _ => hh, hfr, .inr ⟨rfl, rfl⟩, fun b hb => ⟨Nat.ne_of_lt (hfp b hb).2, fun y c e => (hfp b hb).1.2.2.2.2.1 y c (cm e).1⟩,
      I.bs, Nat.le_trans I.ok.bsz I.sz, fun b o e hb => ?_, fun b hb z => ?_, I.stack, I.stkFree⟩
    · rcases hy with hy | hy
      · exact absurd rfl (hcell _ (PySem.mem_of_lookup (show scope.names.lookup y = some .cell from hy)))
      · obtain ⟨c, h1, _⟩ := look (show scope.names.lookup y = some .free from hy)
        exact ⟨c, h1⟩
    · rcases (hfp b hb).1.2.2.2.1 with z | z
      · exact I.ok.noex b o e z
      · exact absurd (Nat.lt_of_lt_of_le (Heap.lt_size e) (Nat.le_trans I.ok.bsz z)) (Nat.lt_irrefl _)
    · rcases List.mem_cons.mp (I.stkSub b z) with z | z
      · exact (hfp b hb).1.2.1 z
      · exact (hfp b hb).1.2.2.1 z
  refine ⟨okB, rfl, hg, Un.kept kp, ⟨m, hn, fun i y av e1 e2 e3 => ?_⟩, fun y c e => ?_, I.hok.fresh (Nat.le_refl _), fun y c e => I.freeC y c (cm e).1, fun p hp => absurd (show p ∈ ([] : List (Addr × Obj)) ++ [] from hp) (by simp), I.hok.kept kp, by rw [wipe_length]; exact I.len⟩
  · obtain ⟨e2, hne⟩ := wipe_some e2
    have hfr : scope.names.lookup y = some .free := by
      have no : ∀ k', scope.names.lookup y = some k' → ¬ (k' = .local ∨ k' = .cell) := fun k' e hh => by
        rcases ok.own _ (PySem.mem_of_lookup e) hh with e' | e'
        · obtain ⟨p, hp, hpy⟩ := List.mem_map.mp e'
          have e3 := ok.ix p hp
          have : p.1 = y := hpy
          rw [this] at e3
          exact hne (List.mem_map.mpr ⟨p, hp, nodup_ix hN e3 e1⟩)
        · exact e' (List.mem_of_getElem? e1)
      have e3 : Vis scope y := e3
      rcases e3 with e3 | e3 | e3
      · exact absurd (.inl rfl) (no _ e3)
      · exact absurd (.inr rfl) (no _ e3)
      · exact e3
    obtain ⟨m, hn, hl⟩ := I.loc
    have hvis : Vis X.env.scope y := (ok.free _ (PySem.mem_of_lookup hfr) rfl).elim (fun k => .inr (.inl k)) (fun k => .inr (.inr k))
    obtain ⟨w, r, q⟩ := hl i y av e1 e2 hvis
    refine ⟨w, r, .inr ⟨.inr hfr, ?_⟩⟩
    obtain ⟨c, h1, h2⟩ := look hfr
    rcases q with ⟨k, _⟩ | ⟨_, c', e', z⟩
    · have k : X.env.scope.names.lookup y = some .local := k
      rcases ok.free _ (PySem.mem_of_lookup hfr) rfl with k' | k' <;> rw [show X.env.scope.names.lookup y = _ from k'] at k <;> cases k
    · rw [h2] at e'; cases e'
      exact ⟨c, h1, z.keeps kp⟩
  · obtain ⟨w, z⟩ := I.cell y c (cm e).1
    exact ⟨w, z.keeps kp⟩
end
end Ky
namespace Ky
open PySem PySem.Spec PyProof.Rows L2
theorem not_of_ne {b c : Bool} (h : ¬ b = c) : b = !c := by
  cases b <;> cases c <;> first | rfl | exact absurd rfl h
/-- what a generator expression of tests still does: cont: the answer that goes on (all: true, any: false) -/
def Live (X : Cx) (pins : List (Addr × Obj)) (σ : L2.St) (Q : VK) (cont : Bool) (a : Addr) : Nat → Shared → Prop
  | 0, s => ∀ (QQ : Option Value → Shared → Prop) (E : Value → Shared → Prop), (∀ s' H, Inv X pins σ H s' → Q (.bl (!cont)) H → QQ (some (.bool (!cont))) s') → (∀ s' H, Inv X pins σ H s' → Q (.bl cont) H → QQ none s') → wpAny (model X.prog X.w) X.A.in1 (pyNext (.ref a)) QQ E s
  | n + 1, s => ∀ (QQ : Option Value → Shared → Prop) (E : Value → Shared → Prop), (∀ s', Live X pins σ Q cont a n s' → QQ (some (.bool cont)) s') → (∀ s' H, Inv X pins σ H s' → Q (.bl (!cont)) H → QQ (some (.bool (!cont))) s') → (∀ s' H, Inv X pins σ H s' → Q (.bl cont) H → QQ none s') →
      wpAny (model X.prog X.w) X.A.in1 (pyNext (.ref a)) QQ E s
section
variable {X : Cx} {pins : List (Addr × Obj)} {σ : L2.St} {Q : VK} {a : Addr}
theorem live_all {R : Result → Shared → Prop} : ∀ (n : Nat) (s : Shared), Live X pins σ Q true a n s → (∀ s' H b, Inv X pins σ H s' → Q (.bl b) H → R (.ok (.ret (.bool b))) s') → codeAny (model X.prog X.w) X.A (.builtin "all.loop" ⟨[.ref a], []⟩) R s := by
  intro n
  induction n with
  | zero =>
    intro s h hR
    refine codeAny_builtin F.entry_all_loop ?_
    rw [Around.under_plainId F.plain_all_loop _]
    show wpAny _ X.A.in1 (pyNext (.ref a) >>= _) _ _ s
    refine wpAny_bind (h _ _ (fun s' H I q => ?_) fun s' H I q => ?_)
    · refine wpAny_bind (wpAny_holding (wpAny_truthy_bool ?_))
      refine wpAny_bind (wpAny_letGo ?_)
      simp only [Bool.not_true, Bool.false_eq_true, if_false]
      exact wpAny_bind (wpAny_rule (wpAny_pure (hR s' H _ I q)))
    · exact wpAny_bind (wpAny_rule (wpAny_pure (hR s' H _ I q)))
  | succ n ih =>
    intro s h hR
    refine codeAny_builtin F.entry_all_loop ?_
    rw [Around.under_plainId F.plain_all_loop _]
    show wpAny _ X.A.in1 (pyNext (.ref a) >>= _) _ _ s
    refine wpAny_bind (h _ _ (fun s' hl => ?_) (fun s' H I q => ?_) fun s' H I q => ?_)
    · refine wpAny_bind (wpAny_holding (wpAny_truthy_bool ?_))
      refine wpAny_bind (wpAny_letGo ?_)
      simp only [if_true]
      exact wpAny_pure ⟨plainId_quiet F.plain_all_loop _, ih s' hl hR⟩
    · refine wpAny_bind (wpAny_holding (wpAny_truthy_bool ?_))
      refine wpAny_bind (wpAny_letGo ?_)
      simp only [Bool.not_true, Bool.false_eq_true, if_false]
      exact wpAny_bind (wpAny_rule (wpAny_pure (hR s' H _ I q)))
    · exact wpAny_bind (wpAny_rule (wpAny_pure (hR s' H _ I q)))
theorem live_any {R : Result → Shared → Prop} : ∀ (n : Nat) (s : Shared), Live X pins σ Q false a n s → (∀ s' H b, Inv X pins σ H s' → Q (.bl b) H → R (.ok (.ret (.bool b))) s') → codeAny (model X.prog X.w) X.A (.builtin "any.loop" ⟨[.ref a], []⟩) R s := by
  intro n
  induction n with
  | zero =>
    intro s h hR
    refine codeAny_builtin F.entry_any_loop ?_
    rw [Around.under_plainId F.plain_any_loop _]
    show wpAny _ X.A.in1 (pyNext (.ref a) >>= _) _ _ s
    refine wpAny_bind (h _ _ (fun s' H I q => ?_) fun s' H I q => ?_)
    · refine wpAny_bind (wpAny_holding (wpAny_truthy_bool ?_))
      refine wpAny_bind (wpAny_letGo ?_)
      simp only [Bool.not_false, if_true]
      exact wpAny_bind (wpAny_rule (wpAny_pure (hR s' H _ I q)))
    · exact wpAny_bind (wpAny_rule (wpAny_pure (hR s' H _ I q)))
  | succ n ih =>
    intro s h hR
    refine codeAny_builtin F.entry_any_loop ?_
    rw [Around.under_plainId F.plain_any_loop _]
    show wpAny _ X.A.in1 (pyNext (.ref a) >>= _) _ _ s
    refine wpAny_bind (h _ _ (fun s' hl => ?_) (fun s' H I q => ?_) fun s' H I q => ?_)
    · refine wpAny_bind (wpAny_holding (wpAny_truthy_bool ?_))
      refine wpAny_bind (wpAny_letGo ?_)
      simp only [Bool.false_eq_true, if_false]
      exact wpAny_pure ⟨plainId_quiet F.plain_any_loop _, ih s' hl hR⟩
    · refine wpAny_bind (wpAny_holding (wpAny_truthy_bool ?_))
      refine wpAny_bind (wpAny_letGo ?_)
      simp only [Bool.not_false, if_true]
      exact wpAny_bind (wpAny_rule (wpAny_pure (hR s' H _ I q)))
    · exact wpAny_bind (wpAny_rule (wpAny_pure (hR s' H _ I q)))
end
/-! ### one turn after another -/
/-- the state between turns -/
abbrev GAt (G : Cx) (pa : List (Addr × Obj)) (σw : L2.St) (fp : List Addr) (tn : Nat → Heap → Prop) (i : Nat) (H : Hp) (s : Shared) : Prop := Inv G pa σw H s ∧ tn i s.heap ∧ ∀ b ∈ fp, H b = none
/-- it has come to its end -/
def GEnd (G : Cx) (pa : List (Addr × Obj)) (σw : L2.St) (Q : VK) (cont : Bool) : Nat → Shared → Shared → Prop := fun _ _ s1 => ∃ H, Inv G pa σw H s1 ∧ Q (.bl cont) H
/-- a test's answer is handed out -/
def GYld (G : Cx) (pa : List (Addr × Obj)) (σw : L2.St) (fp : List Addr) (tn : Nat → Heap → Prop) (W : Nat → Nat → Hp → Prop) (Q : VK) (cont : Bool) : Protocol := fun n _ v s1 kap =>
  ∃ (b : Bool) (H : Hp), v = .bool b ∧ Inv G pa σw H s1 ∧ ((b = cont ∧ 0 < n ∧ ∀ g', AllBare g' → kap (.send .none) { s1 with gens := g' }) ∨ (b = (!cont) ∧ Q (.bl (!cont)) H))
/-- the turns: what an answer leads to -/
def GTurn (J : It) (g : TG) (te : TE) (σw : L2.St) (vs : List Nat) (Q : VK) (cont : Bool) (W : Nat → Nat → Hp → Prop) : Prop := ∀ i m H, W i m H →
  (J.stop i H ∧ Q (.bl cont) H) ∨ (J.go i H ∧ ∀ x H', J.yld i H x H' → g x σw H' fun σ2 H2 => wipe σ2 vs = σw ∧ te σ2 H2 fun y H3 => ∃ b, y = .bl b ∧ if b = cont then ∃ m', m' < m ∧ W (i + 1) m' H3 else Q (.bl (!cont)) H3)
section
variable {G : Cx} {pa : List (Addr × Obj)} {σ : L2.St} {vs : List Nat} {fp : List Addr} {it : Addr} {tn : Nat → Heap → Prop} {J : It} {tg elt iter : Expr} {g : TG} {te : TE} {scope : Scope} {gpos : Pos} {Q : VK} {cont : Bool} {W : Nat → Nat → Hp → Prop} {A : Around}
theorem seg_turns (hA : G.A = A.deeper G.env) (hc : G.calm = true) (hco : G.env.scope.isCoroutine = false) (hxe : G.xe = fun _ _ => False) (T : Turn G.prog G.w G.K tg J fp it tn) (pg : PG G tg g) (pe : PE G elt te) (hpn : G.pn = []) (hex : G.ex = fp)
    (hpa : ∀ p ∈ pa, ∀ b ∈ fp, p.1 ≠ b) (turn : GTurn J g te (wipe σ vs) vs Q cont W) :
    ∀ (n i m : Nat) (s₀ s : Shared) (H : Hp), m < n → GAt G pa (wipe σ vs) fp tn i H s → W i m H →
      Seg (model G.prog G.w) A (fun n s₀ r s₁ => r = .ok .next ∧ GEnd G pa (wipe σ vs) Q cont n s₀ s₁) (GYld G pa (wipe σ vs) fp tn W Q cont) n s₀
        (.compLoop (.GeneratorExp elt [⟨tg, iter, [], 0⟩] scope gpos) 0 (.ref it) .none G.env)
        ((model G.prog G.w).den (.compLoop (.GeneratorExp elt [⟨tg, iter, [], 0⟩] scope gpos) 0 (.ref it) .none G.env)) [] s := by
  have hov : A.over (.compLoop (.GeneratorExp elt [⟨tg, iter, [], 0⟩] scope gpos) 0 (.ref it) .none G.env) [] = G.A := by rw [over_gen, hA]
  have stat : ∀ {σ' : L2.St} {H' : Hp} {s' : Shared}, Inv G pa σ' H' s' → (∀ b ∈ fp, H' b = none) → ∀ b ∈ fp, FpOk G pa H' b := fun {σ' H' s'} I' hn b hb =>
    ⟨hn b hb, (I'.ok.exf b (by rw [hex]; exact hb)).1, I'.ok.exfs b (by rw [hex]; exact hb), .inl (by rw [hex]; exact hb), fun x c e => (I'.ok.exf b (by rw [hex]; exact hb)).2 x c e, fun p hp => by
      rw [hpn] at hp
      exact hpa p (by simpa using hp) b hb⟩
  intro n
  induction n with
  | zero => intro i m s₀ s H hm; exact absurd hm (Nat.not_lt_zero _)
  | succ n ih =>
    intro i m s₀ s H hm ⟨I, st, fr⟩ w
    show Seg _ A _ _ _ s₀ _ ((compTurn (.GeneratorExp elt [⟨tg, iter, [], 0⟩] scope gpos) 0 (.ref it) .none G.env).onRaise (leaving G.env)) [] s
    rw [compTurn_gen, Sem.onRaise_eq_wrap]
    refine seg_bind_wrap (wpAny_standAt ?_)
    refine seg_bind_wrap ?_
    rw [hov]
    rcases turn i m H w with ⟨stop, q⟩ | ⟨go, step⟩
    · refine thnF (T.done G rfl rfl rfl hc i pa s _ H (fun _ _ => False) I (stat I fr) st stop) fun r s1 ⟨hr, I1⟩ => ?_
      subst hr
      exact seg_end (.ok .next) ⟨rfl, H, I1, q⟩
    · refine thnF (T.item G rfl rfl rfl hc i pa s _ H (fun _ _ => False) I (stat I fr) st go) fun r s1 ⟨u, hr, h1⟩ => ?_
      subst hr
      refine seg_bind_wrap ?_
      rw [hov]
      refine thnF h1 fun _ s2 ⟨x, H2, I2, r2, y2, st2, n2⟩ => ?_
      have I2' := I2.pinned (stat I2 n2) (T.obj _ _ st2)
      refine seg_bind_wrap ?_
      rw [hov]
      have hpr := pg.run _ s2 _ H2 x u _ I2' r2 (step x H2 y2)
      rw [hxe] at hpr
      refine thnF hpr fun _ s3 ⟨σ3, H3, I3, hw3, q3⟩ => ?_
      refine seg_bind_wrap ?_
      simp only [List.forIn_nil]
      refine wpAny_pure ?_
      simp only [if_true]
      have hy : ∀ v, yieldOut G.env v = yieldValue v := fun v => by simp only [yieldOut, hco, Bool.false_eq_true, if_false]
      simp only [hy]
      rw [Sem.bind_eq_wrap', Sem.bind_eq_wrap', Sem.wrap_wrap, Sem.wrap_wrap]
      refine seg_wrap ?_
      rw [hov]
      have her := pe.run _ s3 σ3 H3 _ I3 q3
      rw [hxe] at her
      refine thnF her fun v s4 ⟨y, H4, I4, r4, b, hb, q4⟩ => ?_
      subst hb
      obtain rfl : v = Value.bool b := r4
      have pin' : ∀ c ∈ fp, ∀ o, s2.heap.get? c = some o → s4.heap.get? c = some o ∧ H4 c = none := fun c hc' o e =>
        let z := I4.pin (c, o) (List.mem_append_right _ (List.mem_append_right _ (mem_pinsAt hc' e)))
        ⟨z.1, z.2.1⟩
      have I5 : Inv G pa (wipe σ vs) H4 s4 := I4.unpinned.weak (by rw [← hw3, wipe_length]) fun j v e => by
        rw [← hw3] at e
        exact (wipe_some e).1
      have st4 : tn (i + 1) s4.heap := T.keep _ _ _ st2 fun c hc' o e => (pin' c hc' o e).1
      have fr4 : ∀ c ∈ fp, H4 c = none := fun c hc' => by
        obtain ⟨o, e, _⟩ := T.obj _ _ st2 c hc'
        exact (pin' c hc' o e).2
      refine seg_at (seg_yield rfl rfl rfl ⟨b, H4, rfl, I5, ?_⟩)
      by_cases hbc : b = cont
      · rw [if_pos hbc] at q4
        obtain ⟨m', hm', w'⟩ := q4
        refine .inl ⟨hbc, by omega, fun g' hg' => ?_⟩
        refine seg_again rfl (ih (i + 1) m' _ _ H4 (by omega) ⟨?_, st4, fr4⟩ w')
        exact ⟨I5.ok, I5.os, hg', I5.base, I5.loc, I5.cell, I5.free, I5.freeC, I5.pin, I5.hok, I5.len⟩
      · rw [if_neg hbc] at q4
        exact .inr ⟨not_of_ne hbc, q4⟩
end
end Ky
namespace Ky
open PySem PySem.Spec PyProof.Rows L2
section
variable {G : Cx} {pa : List (Addr × Obj)} {σ : L2.St} {vs : List Nat} {fp : List Addr} {it : Addr} {tn : Nat → Heap → Prop} {J : It} {tg elt iter : Expr} {g : TG} {te : TE} {scope : Scope} {gpos : Pos} {Q : VK} {cont : Bool} {W : Nat → Nat → Hp → Prop} {A : Around}
theorem seg_begin (hA : G.A = A.deeper G.env) (hc : G.calm = true) (hco : G.env.scope.isCoroutine = false) (hxe : G.xe = fun _ _ => False) (T : Turn G.prog G.w G.K tg J fp it tn) (pg : PG G tg g) (pe : PE G elt te) (hpn : G.pn = []) (hex : G.ex = fp)
    (hpa : ∀ p ∈ pa, ∀ b ∈ fp, p.1 ≠ b) (turn : GTurn J g te (wipe σ vs) vs Q cont W) (n i m : Nat) (s₀ s : Shared) (H : Hp) (hm : m < n) (hat : GAt G pa (wipe σ vs) fp tn i H s) (w : W i m H) :
    Seg (model G.prog G.w) A (fun n s₀ r s₁ => r = .ok .next ∧ GEnd G pa (wipe σ vs) Q cont n s₀ s₁) (GYld G pa (wipe σ vs) fp tn W Q cont) n s₀
      (.compStart (.GeneratorExp elt [⟨tg, iter, [], 0⟩] scope gpos) 0 (.ref it) .none G.env)
      ((model G.prog G.w).den (.compStart (.GeneratorExp elt [⟨tg, iter, [], 0⟩] scope gpos) 0 (.ref it) .none G.env)) [] s := by
  have loop := seg_turns (iter := iter) (scope := scope) (gpos := gpos) hA hc hco hxe T pg pe hpn hex hpa turn n i m s₀ s H hm hat w
  show Seg _ A _ _ _ s₀ _ ((compStart (.GeneratorExp elt [⟨tg, iter, [], 0⟩] scope gpos) 0 (.ref it) .none G.env).onRaise (leaving G.env)) [] s
  unfold compStart
  rw [Sem.onRaise_eq_wrap]
  show Seg _ A _ _ _ s₀ _ ((ask >>= _).wrap _ _ _ _) [] s
  refine seg_bind_wrap (wpAny_askSetting ?_)
  split
  · exact seg_again rfl loop
  · first
      | exact seg_bind_wrap (wpAny_rule (seg_bind_wrap (wpAny_standAt (seg_bind_wrap (T.self _ i s _ _ hat.2.1 (seg_again rfl loop))))))
      | (refine seg_bind_wrap (wpAny_rule ?_); show Seg _ A _ _ _ s₀ _ ((standAt iter.pos >>= _).wrap _ _ _ _) [] s; exact seg_bind_wrap (wpAny_standAt (seg_bind_wrap (T.self _ i s _ _ hat.2.1 (seg_again rfl loop)))))
end
theorem allBare_upd {s : Shared} {g : Nat} {x : GenState} (h : AllBare s.gens) (hx : x.bare = true) : AllBare (s.setGen g x).gens := allBare_setGen h hx
section
variable {X G : Cx} {pins pa : List (Addr × Obj)} {σ σw : L2.St} {fp : List Addr} {tn : Nat → Heap → Prop} {Q : VK} {cont : Bool} {W : Nat → Nat → Hp → Prop} {a : Addr} {gi : Nat}
theorem live_of (hh : X.A.handled = none) (hd : X.A.depth < recursionLimit) (isg : ∀ H s, Inv G pa σw H s → s.heap.IsGen a gi)
    (back : ∀ H s h' g', Inv G pa σw H s → AllBare g' → (∀ b o, s.heap.get? b = some o → h'.get? b = some o) → Inv X pins σ H { s with heap := h', gens := g' }) :
    ∀ (n : Nat) (s : Shared), s.heap.IsGen a gi → s.heap.NoLimit →
      (∃ gs, s.gens[gi]? = some gs ∧ gs.Goes (model X.prog X.w) X.A.in1.in1 (fun n s₀ r s₁ => r = .ok .next ∧ GEnd G pa σw Q cont n s₀ s₁) (GYld G pa σw fp tn W Q cont) n (.send .none) (s.setGen gi .running)) →
      Live X pins σ Q cont a n s := by
  intro n
  induction n with
  | zero =>
    intro s hg hl ⟨gs, hgs, hgo⟩ QQ E h1 h2
    refine wpAny_pyNext_genexpQ (A := X.A.in1) (P := GEnd G pa σw Q cont) hh hl hd hg hgs hgo (fun v s₁ gs' hb hv => ?_) (fun s₁ hp h' hk => ?_)
    · obtain ⟨b, H, rfl, I, ⟨_, h0, _⟩ | ⟨hb2, q⟩⟩ := hv
      · exact absurd h0 (Nat.lt_irrefl _)
      · subst hb2
        exact h1 _ H (back H s₁ s₁.heap _ I (allBare_upd I.bare hb) fun _ _ e => e) q
    · obtain ⟨H, I, q⟩ := hp
      exact h2 _ H (back H s₁ h' _ I (allBare_upd I.bare rfl) hk) q
  | succ n ih =>
    intro s hg hl ⟨gs, hgs, hgo⟩ QQ E h0 h1 h2
    have hgl : gi < s.gens.size := (Array.getElem?_eq_some_iff.mp hgs).1
    refine GenW.wpAny_gsz (n := gi + 1) hgl ?_
    refine wpAny_pyNext_genexpQ (A := X.A.in1) (P := GEnd G pa σw Q cont) hh hl hd hg hgs hgo (fun v s₁ gs' hb hv => ?_) (fun s₁ hp h' hk => ?_)
    · intro hsz
      obtain ⟨b, H, rfl, I, ⟨hbc, _, kap⟩ | ⟨hb2, q⟩⟩ := hv
      · subst hbc
        have hsz1 : gi < s₁.gens.size := by
          have q : (s₁.setGen gi gs').gens.size = s₁.gens.size := GenW.setGen_size _ _ _
          have hsz' : gi + 1 ≤ (s₁.setGen gi gs').gens.size := hsz
          omega
        refine h0 _ (ih _ (isg H s₁ I) I.nolimit ⟨gs', setGen_at hsz1, ?_⟩)
        exact kap _ (allBare_upd (s := s₁.setGen gi gs') (allBare_upd I.bare hb) rfl)
      · subst hb2
        exact h1 _ H (back H s₁ s₁.heap _ I (allBare_upd I.bare hb) fun _ _ e => e) q
    · intro _
      obtain ⟨H, I, q⟩ := hp
      exact h2 _ H (back H s₁ h' _ I (allBare_upd I.bare rfl) hk) q
end
/-! ### its making -/
/-- the generator expression's scope: no cells of its own -/
structure GxS (N : List Str) (sc scope : Scope) (own : List (Str × Nat)) : Prop where
  blk : BlkOk N sc scope own
  co : scope.isCoroutine = false
  cell : ∀ y ∈ scope.names, y.2 ≠ .cell
  dot : scope.names.lookup (".0" : Str) = some NameKind.local
/-- what its reader wants: the table may have grown by its code -/
def gRd (P : Addr) (wi : TI) (g : TG) (te : TE) (vs : List Nat) (cont : Bool) : TE := fun σ H Q => wi σ H fun J H1 => GxR.TabG H1 P ∧ ∀ H2, GxR.Tabbed P H1 H2 → ∃ W : Nat → Nat → Hp → Prop, (∃ m, W 0 m H2) ∧ GTurn J g te (wipe σ vs) vs Q cont W
section
variable {X : Cx} {pins : List (Addr × Obj)} {σ : L2.St} {H : Hp} {s : Shared} {Q : VK} {cont : Bool} {k : Nat} {c P : Addr} {tg elt iter : Expr} {scope : Scope} {own : List (Str × Nat)} {gpos : Pos} {wi : TI} {g : TG} {te : TE} {Q' : Value → Shared → Prop}
theorem gx_make (hc : X.calm = true) (hN : X.N.Nodup) (hr : Room (k + 2) X.A) (TB : GxR.TabB X.base X.mg c P) (hcode : X.env.code = .ref c) (S : GxS X.N X.env.scope scope own) (hi : PI X tg iter wi)
    (hg : ∀ A' s H code fp, PG (gx X A' s H scope code fp) tg g) (he : ∀ A' s H code fp, Room k A' → PE (gx X A' s H scope code fp) elt te) (hs : ∀ v, genFold iter X.env v = pure v)
    (I : Inv X pins σ H s) (h : gRd P wi g te (own.map (·.2)) cont σ H Q) (hQ : ∀ a gi n s', s'.heap.IsGen a gi → Live X pins σ Q cont a n s' → Q' (.ref a) s') :
    wpAny (model X.prog X.w) X.A (eval (.GeneratorExp elt [⟨tg, iter, [], 0⟩] scope gpos) X.env) Q' X.xe s := by
  have hfree : ∀ y ∈ scope.names, y.2 = .free → ∃ c, X.env.cells.lookup y.1 = some c := fun y hy e => by
    rcases S.blk.free y hy e with k | k
    · exact I.ok.has _ (.inl k)
    · exact I.ok.has _ (.inr k)
  refine wpAny_GeneratorExp_make S.co (closure_ok hfree) S.cell S.dot S.blk.kind (by have := hr.dp; omega) ?_ hs
  refine thn (hi.run pins s σ H _ I h) fun xv s1 hx => thn hx fun itv s2 h2 => ?_
  obtain ⟨it, fp, tn, J, H2, e, I2, T, st2, f2, ⟨ps, hP, ht⟩, q⟩ := h2
  subst e
  have hPs : s2.heap.get? P = some { cls := .none, data := .fields ps } := I2.hok P _ hP
  have cd : PySem.W.CodeHd s2.heap c P := TB.code.keeps I2.bk
  refine ⟨I2.nolimit, ?_⟩
  have szf : ∀ b ∈ fp, b < s2.heap.objs.size := fun b hb => by
    obtain ⟨o, e, _⟩ := T.obj _ _ st2 b hb
    exact Heap.lt_size e
  have cont' : ∀ (code : Value) (h3 : Heap) (tk : Nat) (ps' : Array Value), Heap.ExtBut P s2.heap h3 → s2.heap.objs.size ≤ h3.objs.size → h3.get? P = some { cls := .none, data := .fields ps' } → (∃ more, ps' = ps ++ more) → TriplesOk ps'.toList →
      wpAny (model X.prog X.w) X.A (builtinsFor X.env.globals X.env.builtins) (fun bi s₄ => ∀ h', h'.Ns s₄.heap.objs.size (fun y => if y = ".0" then some (.ref it) else none) → Heap.SameBut s₄.heap.objs.size (s₄.heap.push { cls := .type "frame", data := .dict #[] }) h' →
          Q' (.ref h'.objs.size) { s₄ with
            gens := s₄.gens.push (.fresh (.compStart (.GeneratorExp elt [⟨tg, iter, [], 0⟩] scope gpos) 0 (.ref it) .none (genEnv scope (cloFrom X.env.cells scope.names []) s₄.heap.objs.size code bi X.env))),
            toks := s₄.toks + 1 + 1 + 1,
            heap := h'.push { cls := .type "generator", data := .fields #[.int s₄.gens.size 0, .str "<genexpr>" (s₄.toks + 1), .str (X.env.qual ++ "<genexpr>") (s₄.toks + 1 + 1)] } }) X.xe { s2 with heap := h3, toks := tk } := by
    intro code h3 tk ps' hx hsz hP3 hmore ht3
    obtain ⟨bm, ob, e1, e2, e3, e4, e5, e6, e7, e8⟩ := TB.bm
    obtain ⟨more, em⟩ := hmore
    have keep3 : ∀ b u, b ≠ P → s2.heap.get? b = some u → h3.get? b = some u := fun b u hb e => hx b u hb e
    refine wpAny_builtinsFor (m := X.mg) (by rw [I2.ok.glob]; exact (I2.mod.glob.keeps I2.bk).extBut hx TB.gP) e1 e2 (keep3 _ _ e4 (I2.bk _ _ e5)) e6 e7 e8 ?_
    have I3 : Inv X pins σ (upd H2 P (.tbl (ps ++ more))) { s2 with heap := h3, gens := s2.gens, drawn := s2.drawn, toks := tk } := GxR.inv_tab (more := more) I2 hP keep3 (by rw [← em]; exact hP3) I2.bare
    have hTb : GxR.Tabbed P H2 (upd H2 P (.tbl (ps ++ more))) := ⟨⟨ps ++ more, upd_same, by rw [← em]; exact ht3⟩, fun b hb => upd_ne hb⟩
    obtain ⟨W, ⟨m0, w0⟩, turn⟩ := q _ hTb
    generalize hH3 : upd H2 P (.tbl (ps ++ more)) = H3 at I3 hTb w0
    generalize hs4 : ({ s2 with heap := h3, gens := s2.gens, drawn := s2.drawn, toks := tk } : Shared) = s4 at I3 ⊢
    have h4 : s4.heap = h3 := by rw [← hs4]
    have nfP : ∀ b ∈ fp, b ≠ P := fun b hb z => by
      have := (f2 b hb).1
      rw [z, hP] at this
      cases this
    have f4 : ∀ b ∈ fp, FpOk X pins H3 b ∧ b < s4.heap.objs.size := fun b hb => by
      refine ⟨⟨?_, (f2 b hb).2⟩, by rw [h4]; exact Nat.lt_of_lt_of_le (szf b hb) hsz⟩
      rw [← hH3, upd_ne (nfP b hb)]
      exact (f2 b hb).1
    have st4 : tn 0 s4.heap := T.keep _ _ _ st2 fun b hb o e => by rw [h4]; exact keep3 b o (nfP b hb) e
    intro h' hn' hs'
    have hszC : h'.objs.size = s4.heap.objs.size + 1 := by rw [hs'.1, Heap.size_push]
    have keep' : ∀ b o, s4.heap.get? b = some o → h'.get? b = some o := fun b o e => hs'.extBut b o (Nat.ne_of_lt (Heap.lt_size e)) (Heap.get?_push_of_some _ e)
    generalize hoa : ({ cls := .type "generator", data := .fields #[.int s4.gens.size 0, .str "<genexpr>" (s4.toks + 1), .str (X.env.qual ++ "<genexpr>") (s4.toks + 1 + 1)] } : Obj) = oa
    have keep5 : ∀ b o, s4.heap.get? b = some o → (h'.push oa).get? b = some o := fun b o e => Heap.get?_push_of_some _ (keep' b o e)
    have hoa5 : (h'.push oa).get? h'.objs.size = some oa := Heap.get?_push_size _ (by rw [← hoa]; rfl)
    have isG : ∀ {hh : Heap}, hh.get? h'.objs.size = some oa → hh.IsGen h'.objs.size s4.gens.size := fun {hh} e => by
      exact ⟨oa, .str "<genexpr>" (s4.toks + 1), .str (X.env.qual ++ "<genexpr>") (s4.toks + 1 + 1), e, by rw [← hoa], by rw [← hoa], by rw [← hoa]⟩
    have hh2 : (X.A.in1.in1.deeper (gxEnv X s4 scope code)).handled = none := hr.hd
    have hfr : (X.A.in1.in1.deeper (gxEnv X s4 scope code)).frames = some (gxEnv X s4 scope code :: X.stack) := Around.frames_deeper (A := X.A.in1.in1) I3.ok.frames
    have hroom : Room k (X.A.in1.in1.deeper (gxEnv X s4 scope code)) := Room.deeper (A := X.A.in1.in1) (k := k) ⟨hr.hd, by have := hr.dp; show X.A.depth + 3 * (k + 1) + 5 < _; omega, by have := hr.un; show X.A.units + 1 + 1 + 16 * (k + 1) + 200 < _; omega⟩ _
    have inv5 : ∀ g' t', AllBare g' → Inv (gx X (X.A.in1.in1.deeper (gxEnv X s4 scope code)) s4 H3 scope code fp) [(h'.objs.size, oa)] (wipe σ (own.map (·.2))) H3 { s4 with heap := h'.push oa, gens := g', toks := t' } := fun g' t' hg' => by
      have I5 := gx_start (t' := t') (code := code) I3 S.blk S.cell hN f4 hh2 hfr (hn'.push oa) keep5 hg'
      refine I5.pins_of fun p hp => ?_
      have e : p = (h'.objs.size, oa) := by simpa using hp
      subst e
      have hge : s4.heap.objs.size ≤ h'.objs.size := by omega
      refine ⟨hoa5, I3.hok.fresh hge, ?_, fun z => ?_, fun v e => ?_⟩
      · show h'.objs.size ≠ s4.heap.objs.size
        omega
      · rcases List.mem_cons.mp (I3.stkSub _ z) with z | z
        · have := I3.lt
          rw [← z] at this
          exact absurd (Nat.lt_of_lt_of_le this hge) (Nat.lt_irrefl _)
        · exact I3.nofs hge z
      · rw [← hoa] at e
        cases e
    have isg : ∀ H s, Inv (gx X (X.A.in1.in1.deeper (gxEnv X s4 scope code)) s4 H3 scope code fp) [(h'.objs.size, oa)] (wipe σ (own.map (·.2))) H s → s.heap.IsGen h'.objs.size s4.gens.size := fun H s I => isG (I.pin (h'.objs.size, oa) (by simp)).1
    have back : ∀ H s h9 g', Inv (gx X (X.A.in1.in1.deeper (gxEnv X s4 scope code)) s4 H3 scope code fp) [(h'.objs.size, oa)] (wipe σ (own.map (·.2))) H s → AllBare g' → (∀ b o, s.heap.get? b = some o → h9.get? b = some o) → Inv X pins σ H { s with heap := h9, gens := g' } := fun H s h9 g' I hg' kp =>
      I3.call' (ch := fp) I.os (I.base.trans (Un.kept kp)) (I.hok.kept kp) hg' fun b hb => ⟨(f4 b hb).1.2.2.2.1, (f4 b hb).1.2.1, (f4 b hb).1.2.2.2.2.1, (f4 b hb).1.2.2.2.2.2⟩
    refine hQ h'.objs.size s4.gens.size (m0 + 1) _ (isG hoa5) (live_of (G := gx X (X.A.in1.in1.deeper (gxEnv X s4 scope code)) s4 H3 scope code fp) (pa := [(h'.objs.size, oa)]) (σw := wipe σ (own.map (·.2))) (fp := fp) (tn := tn) (W := W) hr.hd (by have := hr.dp; omega) isg back (m0 + 1) _ (isG hoa5) (I3.nolimit.keeps keep5) ⟨_, Array.getElem?_push_size .., rfl, ?_⟩)
    have fr3 : ∀ b ∈ fp, H3 b = none := fun b hb => (f4 b hb).1.1
    have st5 : tn 0 (h'.push oa) := T.keep _ _ _ st4 fun b _ o e => keep5 b o e
    exact seg_begin (G := gx X (X.A.in1.in1.deeper (gxEnv X s4 scope code)) s4 H3 scope code fp) (A := X.A.in1.in1) rfl hc S.co rfl T (hg _ _ _ _ _) (he _ _ _ _ _ hroom) rfl rfl (fun p hp b hb => by
      have e : p = (h'.objs.size, oa) := by simpa using hp
      subst e
      have h9 : b < s4.heap.objs.size := (f4 b hb).2
      have hge : s4.heap.objs.size ≤ h'.objs.size := by omega
      exact Nat.ne_of_gt (Nat.lt_of_lt_of_le h9 hge)) turn (m0 + 1) 0 m0 _ _ H3 (Nat.lt_succ_self _) ⟨inv5 _ _ (allBare_upd (I3.bare.push rfl) rfl), st5, fr3⟩ w0
  cases hf : codeAmong gpos ps.toList with
  | none =>
    refine wpAny_genexprCodeX hcode (cd.code hPs ht) (cd.tab hPs) hf fun c' h' tk hx hge hlt hco' _ htab' _ => ?_
    obtain ⟨o1, vs, f1, tf, fl, tg, inF, tx, tt, op, _, _, _, _, _, _, _, _, _, htr, _⟩ := hco'
    exact cont' _ h' tk _ hx (Nat.le_trans hge (Nat.le_of_lt hlt)) htab'.2 ⟨_, rfl⟩ htr
  | some cv =>
    refine wpAny_genexprCode_hit hcode (cd.code hPs ht) hf ?_
    exact cont' cv s2.heap s2.toks ps (Heap.ExtBut.refl _ _) (Nat.le_refl _) hPs ⟨#[], by simp⟩ ht
end
end Ky
namespace Ky
open PySem PySem.Spec PyProof.Rows L2
section
variable {X : Cx} {k : Nat} {c P : Addr} {tg elt iter : Expr} {scope : Scope} {own : List (Str × Nat)} {gpos p pos : Pos} {wi : TI} {g : TG} {te : TE}
theorem pe_allG (hr : Room (k + 2) X.A) (hgl : Gl X "all") (hm : X.mg "all" = none) (hb : bootBuiltins "all" = some (.builtin "all")) (hc : X.calm = true) (hN : X.N.Nodup) (TB : GxR.TabB X.base X.mg c P) (hcode : X.env.code = .ref c) (S : GxS X.N X.env.scope scope own) (hi : PI X tg iter wi)
    (hg : ∀ A' s H code fp, PG (gx X A' s H scope code fp) tg g) (hel : ∀ A' s H code fp, Room k A' → PE (gx X A' s H scope code fp) elt te) (hs : ∀ v, genFold iter X.env v = pure v := by intro _; rfl)
    (he : starEach [.GeneratorExp elt [⟨tg, iter, [], 0⟩] scope gpos] X.env = (false, eval (.GeneratorExp elt [⟨tg, iter, [], 0⟩] scope gpos) X.env) :: starEach [] X.env := by rfl) :
    PE X (.Call (.Name "all" p) [.GeneratorExp elt [⟨tg, iter, [], 0⟩] scope gpos] [] pos) (gRd P wi g te (own.map (·.2)) true) := by
  refine ⟨fun pins s σ H Q I h => ?_⟩
  refine wpAny_Call_Name_kw (ld_blt I hgl hm hb ?_)
  refine PyProof.Rows.callWith_builtin1 ?_ he (by rfl)
  rw [he]
  show wpAny _ _ (spliced ((false, eval (.GeneratorExp elt [⟨tg, iter, [], 0⟩] scope gpos) X.env) :: backTo pos (starEach [] X.env))) _ _ s
  refine Calls.spliced_cons (gx_make hc hN hr TB hcode S hi hg hel hs I h fun a gi n s' hG hL => ?_)
  refine Calls.spliced_nil ?_
  refine call_function_tree F.kind_all F.plain_all F.entry_all (F.args_all1 _) ?_
  unfold Builtin.«all»
  refine wpAny_bind (m := oneArg "all" _) (wpAny_pure ?_)
  refine wpAny_bind (wpAny_pyIter_gen hG ?_)
  exact wpAny_pure ⟨plainId_quiet F.plain_all_loop _, live_all n s' hL fun s'' H' b I' q => ⟨.bl b, H', I', rfl, q⟩⟩
theorem pe_anyG (hr : Room (k + 2) X.A) (hgl : Gl X "any") (hm : X.mg "any" = none) (hb : bootBuiltins "any" = some (.builtin "any")) (hc : X.calm = true) (hN : X.N.Nodup) (TB : GxR.TabB X.base X.mg c P) (hcode : X.env.code = .ref c) (S : GxS X.N X.env.scope scope own) (hi : PI X tg iter wi)
    (hg : ∀ A' s H code fp, PG (gx X A' s H scope code fp) tg g) (hel : ∀ A' s H code fp, Room k A' → PE (gx X A' s H scope code fp) elt te) (hs : ∀ v, genFold iter X.env v = pure v := by intro _; rfl)
    (he : starEach [.GeneratorExp elt [⟨tg, iter, [], 0⟩] scope gpos] X.env = (false, eval (.GeneratorExp elt [⟨tg, iter, [], 0⟩] scope gpos) X.env) :: starEach [] X.env := by rfl) :
    PE X (.Call (.Name "any" p) [.GeneratorExp elt [⟨tg, iter, [], 0⟩] scope gpos] [] pos) (gRd P wi g te (own.map (·.2)) false) := by
  refine ⟨fun pins s σ H Q I h => ?_⟩
  refine wpAny_Call_Name_kw (ld_blt I hgl hm hb ?_)
  refine PyProof.Rows.callWith_builtin1 ?_ he (by rfl)
  rw [he]
  show wpAny _ _ (spliced ((false, eval (.GeneratorExp elt [⟨tg, iter, [], 0⟩] scope gpos) X.env) :: backTo pos (starEach [] X.env))) _ _ s
  refine Calls.spliced_cons (gx_make hc hN hr TB hcode S hi hg hel hs I h fun a gi n s' hG hL => ?_)
  refine Calls.spliced_nil ?_
  refine call_function_tree F.kind_any F.plain_any F.entry_any (F.args_any1 _) ?_
  unfold Builtin.«any»
  refine wpAny_bind (m := oneArg "any" _) (wpAny_pure ?_)
  refine wpAny_bind (wpAny_pyIter_gen hG ?_)
  exact wpAny_pure ⟨plainId_quiet F.plain_any_loop _, live_any n s' hL fun s'' H' b I' q => ⟨.bl b, H', I', rfl, q⟩⟩
end
end Ky

namespace Kz
open PySem PySem.SeqAt PySem.W PyProof.Rows
/-! ### sorting of tuples, the empty one among them -/
section
variable {prog : Program} {w : World} {A : Around} {E : Value → Shared → Prop} {s : Shared}
theorem call_tuple_lt {Q : Value → Shared → Prop} {l b : Addr} {items items2 : Array Value} {e r : Nat → Bool} (hl : s.heap.IsTuple l items) (hb : s.heap.IsTuple b items2)
    (he : ∀ j (h1 : j < items.size) (h2 : j < items2.size), EqAt A.in1 s items[j] items2[j] (e j)) (hr : ∀ j (h1 : j < items.size) (h2 : j < items2.size), e j = false → RcLt A.in1 s items[j] items2[j] (r j))
    (h : Q (.bool (firstLt e r (decide (items.size < items2.size)) (List.range (min items.size items2.size)))) s) : wpAny (model prog w) A (call (.builtin "tuple.__lt__") [.ref l, .ref b]) Q E s := by
  obtain ⟨⟨cls, dd, data, sl⟩, ho, hc, n, hd⟩ := id hl
  obtain ⟨⟨cls2, dd2, data2, sl2⟩, ho2, hc2, n2, hd2⟩ := id hb
  simp only at hc hd hc2 hd2
  subst hc hd hc2 hd2
  exact call_meets F.slot_tuple_lt ⟨_, ho, rfl⟩ F.entry_tuple_lt (F.args_tuple_lt_2 _ _) (tuple_ltAt l b items items2 n n2 dd dd2 sl sl2 e r) ⟨ho, ho2, he, hr, h⟩
theorem oneLt_any {f : Bool} {da db : PyData} {a b : Value} {as bs : List Addr} {Q : Bool → Shared → Prop} (ra : Reads s.heap a da as) (rb : Reads s.heap b db bs) (h : alike da db = true) (hn : da ≠ .none)
    (hu : A.units + min da.depth db.depth < cLine) (hq : Q (dataLt da db) s) : wpAny (model prog w) A (oneLt' f a b) Q E s := by
  by_cases ht : f = true ∧ ∃ xs, da = .tuple xs
  · obtain ⟨rfl, xs, rfl⟩ := ht
    cases db with
    | tuple ys =>
      have hal : alikeAll xs ys = true := by simpa [alike] using h
      cases ra with
      | @tuple l o vs n _ as₁ h1 h2 h3 h4 =>
        cases rb with
        | @tuple l' o' vs' n' _ bs₁ k1 k2 k3 k4 =>
          have n1 : vs.size = xs.length := by simpa using ReadsAll.length _ _ _ h4
          have n2 : vs'.size = ys.length := by simpa using ReadsAll.length _ _ _ k4
          rw [dataLt_tuple, ← firstLt_toks xs ys hal, ← n1, ← n2] at hq
          rw [oneLt'_eq]
          simp only [if_true]
          refine wpAny_bind (wpAny_cRoomFor (room_here hu) ?_)
          refine wpAny_bind (wpAny_callSpecialIfBound?_slot (T := "tuple") ⟨_, h1, h2⟩ F.slot_tuple_lt (call_tuple_lt (e := pairEq xs ys) (r := fun j => dataLt (xs.getD j .none) (ys.getD j .none)) ⟨_, h1, h2, _, h3⟩ ⟨_, k1, k2, _, k3⟩ (fun j j1 j2 => ?_) (fun j j1 j2 hj => ?_) ?_))
          · have := eqAt_alikeAll xs ys A.in1 s vs.toList vs'.toList _ _ h4 k4 hal (room_in hu) j (by simpa using j1) (by simpa using j2)
            simpa using this
          · have := rcLt_alikeAll xs ys A.in1 s vs.toList vs'.toList _ _ h4 k4 hal (room_in hu) j (by simpa using j1) (by simpa using j2) hj
            simpa using this
          · exact wpAny_truthy_bool hq
    | _ => exact absurd h (by simp [alike])
  · exact oneLt_alike (fun hf xs hx => ht ⟨hf, xs, hx⟩) ra rb h hn hu hq
def hasItem : PyData → Bool
  | .tuple [] => false
  | _ => true
theorem keyLt_general (x y : Value) : keyLt' general' x y = oneLt' false x y := rfl
theorem firsts_any {M : Model} : ∀ {vs : List Value} {ds : List PyData}, EachIs (fun v d => ∃ as, Reads s.heap v d as) vs ds → (∀ d ∈ ds, ∃ r, d = .tuple r) →
    ∃ fs : List (Option Value), (∀ (Q : List (Option Value) → Shared → Prop), Q fs s → wpAny M A (vs.mapM firstOfTuple') Q E s) ∧ fs.map (·.isSome) = ds.map hasItem
  | _, _, .nil, _ => ⟨[], fun Q h => by rw [List.mapM_nil]; exact wpAny_pure h, rfl⟩
  | _, _, .cons (b := d) ⟨as, r⟩ t, ht => by
    obtain ⟨fs, h1, h2⟩ := firsts_any (M := M) t fun d hd => ht d (List.mem_cons_of_mem _ hd)
    obtain ⟨ds, rfl⟩ := ht d (List.mem_cons_self ..)
    cases r with
    | @tuple a o xs n _ _ ho hc hd hr =>
      refine ⟨xs[0]? :: fs, fun Q h => ?_, ?_⟩
      · rw [List.mapM_cons]
        refine wpAny_bind ?_
        rw [kas_first_eq]
        refine wpAny_bind (Looks.here (show Looks M s.heap (typeOf (.ref a)) o.cls from (Looks.ld ho).andThen .now) ?_)
        rw [hc, if_neg (by first | decide | simp)]
        refine wpAny_bind (listItems_at ho hd (wpAny_pure ?_))
        exact wpAny_bind (h1 (fun bs s' => wpAny M A (pure (xs[0]? :: bs)) Q E s') (wpAny_pure h))
      · rw [List.map_cons, List.map_cons, h2]
        congr 1
        cases q : xs.toList with
        | nil =>
          rw [q] at hr
          cases hr
          have e0 : xs = #[] := by
            apply Array.toList_inj.mp
            rw [q]
          subst e0
          rfl
        | cons f fr =>
          rw [q] at hr
          cases hr with
          | cons r1 r2 =>
            have hf : xs[0]? = some f := by rw [← Array.getElem?_toList, q]; rfl
            rw [hf]
            rfl
/-- values that read as alike tuples can be sorted -/
theorem sorts_tups {vs : List Value} {ds : List PyData} (e : EachIs (fun v d => ∃ as, Reads s.heap v d as) vs ds) (hal : AllAlike ds) (hk : ∀ d ∈ ds, ∃ r, d = .tuple r) (hu : ∀ d, d ∈ ds → A.units + d.depth < cLine) : SortsAt prog w A s (dataKind s.heap ds) vs := by
  by_cases hne : ∀ d, d ∈ ds → ∃ x r, d = PyData.tuple (x :: r)
  · exact SortsAt.data e hal (.inl hne) hu
  · have hemp : PyData.tuple [] ∈ ds := by
      apply Classical.byContradiction
      intro hno
      refine hne fun d hd => ?_
      obtain ⟨r, rfl⟩ := hk d hd
      cases r with
      | nil => exact absurd hd hno
      | cons x r => exact ⟨x, r, rfl⟩
    have room : ∀ {d d' : PyData}, d ∈ ds → A.units + min d.depth d'.depth < cLine := fun {d d'} hd => Nat.lt_of_le_of_lt (Nat.add_le_add_left (Nat.min_le_left _ _) _) (hu d hd)
    have ask : ∀ f : Bool, ∀ (E : Value → Shared → Prop) (x y : Value) (a b : (dataKind s.heap ds).α) {Q : Bool → Shared → Prop}, (dataKind s.heap ds).keyOf x = some a → (dataKind s.heap ds).keyOf y = some b → Q ((dataKind s.heap ds).blt a b) s → wpAny (model prog w) A (oneLt' f x y) Q E s := by
      intro f E x y a b Q ha hb hq
      obtain ⟨d, as, hd, ra, rfl⟩ := dataKind_inv ha
      obtain ⟨d', as', hd', rb, rfl⟩ := dataKind_inv hb
      refine oneLt_any ra rb (hal d hd d' hd') (fun z => ?_) (room hd) hq
      obtain ⟨r, rfl⟩ := hk d hd
      cases z
    refine ⟨fun v hv => ?_, ?_⟩
    · obtain ⟨d, hd, as, r⟩ := e.left v hv
      exact ⟨_, dataKind_some hal hd r⟩
    · cases ds with
      | nil => exact absurd hemp (by simp)
      | cons d₀ ds₀ =>
        have nall : ∀ fs : List (Option Value), fs.map (·.isSome) = (d₀ :: ds₀).map hasItem → ¬ (fs.toArray.all (·.isSome)) = true := fun fs hfs hall => by
          simp only [List.all_toArray] at hall
          have hm : false ∈ fs.map (·.isSome) := by
            rw [hfs]
            exact List.mem_map.mpr ⟨_, hemp, rfl⟩
          obtain ⟨f, hf, hb⟩ := List.mem_map.mp hm
          have := List.all_eq_true.mp hall f hf
          rw [hb] at this
          cases this
        by_cases h0 : d₀ = PyData.tuple []
        · refine ⟨oneType', fun E x y a b Q ha hb hq => by rw [keyLt'_oneType]; exact ask true E x y a b ha hb hq, fun h2 E Q hq => ?_⟩
          obtain ⟨fs, h1, hfs⟩ := firsts_any (M := model prog w) (A := A) (E := E) e hk
          rw [keyKind'_eq, List.mapM_toArray, map_eq_pure_bind]
          refine wpAny_bind (wpAny_bind (h1 _ (wpAny_pure ?_)))
          rw [if_neg (nall fs hfs)]
          have hf0 : ¬ ((fs.toArray[0]?.bind id).isSome = true) := by
            cases fs with
            | nil => simp
            | cons f fr =>
              rw [List.map_cons, List.map_cons] at hfs
              have := (List.cons.inj hfs).1
              rw [h0] at this
              have this : f.isSome = false := this
              simpa using this
          rw [if_neg hf0, oneTypeOnly'_eq, List.mapM_toArray, map_eq_pure_bind]
          refine wpAny_bind (wpAny_bind (wpAny_bind (kas_mapM (r := Value.type "tuple") _ (fun v hv Q' hq => ?_) (wpAny_pure ?_))))
          · obtain ⟨d, hd, as, r⟩ := e.left v hv
            obtain ⟨r', rfl⟩ := hk d hd
            exact Looks.here (looks_reads (M := model prog w) r) hq
          · have hall : ((List.map (fun _ => Value.type "tuple") vs).toArray.all fun x => x == Value.type "tuple") = true := by
              simp only [List.all_toArray, List.all_map, List.all_eq_true]
              intro _ _
              exact beq_self_eq_true _
            have h0' : (List.map (fun _ => Value.type "tuple") vs).toArray[0]? = some (Value.type "tuple") := by
              cases vs with
              | nil => exact absurd h2 (by simp)
              | cons v vr => simp
            rw [h0']
            simp only [hall, if_true]
            exact wpAny_pure (wpAny_pure hq)
        · refine ⟨general', fun E x y a b Q ha hb hq => by rw [keyLt_general]; exact ask false E x y a b ha hb hq, fun h2 E Q hq => ?_⟩
          obtain ⟨fs, h1, hfs⟩ := firsts_any (M := model prog w) (A := A) (E := E) e hk
          rw [keyKind'_eq, List.mapM_toArray, map_eq_pure_bind]
          refine wpAny_bind (wpAny_bind (h1 _ (wpAny_pure ?_)))
          rw [if_neg (nall fs hfs)]
          have hf0 : (fs.toArray[0]?.bind id).isSome = true := by
            cases fs with
            | nil =>
              rw [List.map_cons] at hfs
              cases hfs
            | cons f fr =>
              rw [List.map_cons, List.map_cons] at hfs
              have := (List.cons.inj hfs).1
              obtain ⟨r, hr⟩ := hk d₀ (List.mem_cons_self ..)
              have this : f.isSome = true := by
                rw [this, hr]
                cases r with
                | nil => exact absurd hr h0
                | cons _ _ => rfl
              simpa using this
          rw [if_pos hf0]
          exact wpAny_pure hq
end
end Kz

namespace Ky
open PySem PySem.Spec PyProof.Rows L2
/-! ### data in order -/
/-- keys that sorted takes: tuples (also the empty one), or no tuples and no None -/
def Srt (ds : List PyData) : Prop := (∀ d, d ∈ ds → ∃ r, d = PyData.tuple r) ∨ (∀ d, d ∈ ds → d ≠ .none ∧ ∀ xs, d ≠ .tuple xs)
theorem srt_sorts {prog : Program} {w : World} {A : Around} {s : Shared} {vs : List Value} {ds : List PyData} (e : PySem.W.EachIs (fun v d => ∃ as, Reads s.heap v d as) vs ds) (hal : PySem.W.AllAlike ds) (hk : Srt ds) (hu : ∀ d, d ∈ ds → A.units + d.depth < cLine) : PySem.W.SortsAt prog w A s (PySem.W.dataKind s.heap ds) vs := by
  rcases hk with hk | hk
  · exact Kz.sorts_tups e hal hk hu
  · exact PySem.W.SortsAt.data e hal (.inr hk) hu
section
variable {X : Cx} {pins : List (Addr × Obj)} {σ : L2.St} {H : Hp} {s : Shared}
theorem each_dp (I : Inv X pins σ H s) : ∀ {xs : List V} {us : List Value} {ds : List PyData}, Vals xs us → DpAll X.K H xs ds → PySem.W.EachIs (fun u (b : V × PyData) => RelV b.1 u ∧ ∃ as, Reads s.heap u b.2 as) us (xs.zip ds)
  | _, _, _, .nil, .nil => .nil
  | _, _, _, .cons r1 r2, .cons d1 d2 => .cons ⟨r1, Dp.reads I _ _ _ d1 r1⟩ (each_dp I r2 d2)
theorem dpAll_len {K : PySem.W.Frag} : ∀ {xs : List V} {ds : List PyData}, DpAll K H xs ds → xs.length = ds.length
  | _, _, .nil => rfl
  | _, _, .cons _ d => by rw [List.length_cons, List.length_cons, dpAll_len d]
theorem zip_snd {xs : List V} {ds : List PyData} (h : xs.length = ds.length) : (xs.zip ds).map (·.2) = ds := List.map_snd_zip (by omega)
theorem vals_each : ∀ {us : List Value} {bs : List (V × PyData)}, PySem.W.EachIs (fun u (b : V × PyData) => RelV b.1 u) us bs → Vals (bs.map (·.1)) us
  | _, _, .nil => .nil
  | _, _, .cons r t => .cons r (vals_each t)
/-- the items in the order of their data -/
def sortD (xs : List V) (ds : List PyData) : List V := ((xs.zip ds).mergeSort (PySem.W.dataLe false (·.2))).map (·.1)
theorem sortD_len {xs : List V} {ds : List PyData} (h : xs.length = ds.length) : (sortD xs ds).length = xs.length := by
  unfold sortD
  rw [List.length_map, List.length_mergeSort, List.length_zip, ← h, Nat.min_self]
def rSortedD (K : PySem.W.Frag) : List V → Hp → VK → Prop := fun vs H Q => ∃ (a : Addr) (xs : List V) (ds : List PyData), vs = [.ref a] ∧ SqL K H a xs ∧ DpAll K H xs ds ∧ PySem.W.AllAlike ds ∧ Srt ds ∧ (∀ d ∈ ds, d.depth ≤ 60) ∧ ∀ p, H p = none → Q (.ref p) (upd H p (.lst (sortD xs ds)))
theorem cr_sortedD (hu : X.A.units + 64 < cLine) : CallR X (.builtin "sorted") (rSortedD X.K) := by
  intro pins s σ H vs us Q I r h
  obtain ⟨a, xs, ds, rfl, hs, hd, hal, hk, hdep, q⟩ := h
  obtain rfl := Vals.ref1 r
  obtain ⟨its, rv, hl, hz⟩ := I.list hs
  have hlen := dpAll_len hd
  have e := each_dp I rv hd
  have hm := zip_snd hlen
  have er' : PySem.W.EachIs (fun v (b : V × PyData) => ∃ as, Reads (PySem.W.sortingHeap (PySem.W.copyHeap s.heap its) (s.heap.objs.size + 1) its) v b.2 as) its (xs.zip ds) := e.mono fun _ _ ⟨_, as, r⟩ => ⟨as, PyProof.Rows.Reads.keeps (fun _ _ => PySem.W.sorting_copy_old) r⟩
  have em := PySem.W.each_map (R := fun v d => ∃ as, Reads (PySem.W.sortingHeap (PySem.W.copyHeap s.heap its) (s.heap.objs.size + 1) its) v d as) (fun b : V × PyData => b.2) er'
  rw [hm] at em
  refine PySem.W.sorted_vals hl.isList (srt_sorts (s := { s with heap := PySem.W.sortingHeap (PySem.W.copyHeap s.heap its) (s.heap.objs.size + 1) its }) em hal hk fun d hm' => ?_) (by rw [← rv.length]; exact hz) ?_
  · have := hdep d hm'
    show X.A.units + 1 + 1 + d.depth < cLine
    omega
  · have out := PySem.W.sortVals_data (enc := fun b : V × PyData => b.2) (R := fun u (b : V × PyData) => RelV b.1 u) false (e.mono fun _ _ z => z.1) er' (by rw [hm]; exact hal)
    rw [hm] at out
    generalize PySem.W.sortVals (PySem.W.dataKind (PySem.W.sortingHeap (PySem.W.copyHeap s.heap its) (s.heap.objs.size + 1) its) ds) false its its = res at out ⊢
    obtain ⟨ep, he'⟩ := PyProof.Rows.sortedAll_at s.heap its res.toArray
    exact ⟨.ref _, upd H (s.heap.objs.size + 1) (.lst (sortD xs ds)), I.laid (t' := s.toks) (fun _ _ => PyProof.Rows.sortedAll_old) (Nat.le_succ _) ⟨by rw [sortD_len hlen]; exact hz, _, ep, vals_each out, he'⟩, rfl, q _ (I.hok.fresh (Nat.le_succ _))⟩
/-! ### < of data -/
def rLtD (K : PySem.W.Frag) : R2 := fun x y H Q => ∃ d e, Dp K H x d ∧ Dp K H y e ∧ PySem.W.alike d e = true ∧ d ≠ .none ∧ d.depth ≤ 60 ∧ Q (.bl (PySem.W.dataLt d e)) H
theorem op_ltD (hu : X.A.units + 64 < cLine) : OpR X (compareOp .Lt) (rLtD X.K) := by
  intro pins s σ H x y v u Q I rx ry h
  obtain ⟨d, e, hd, he, ha, hn, hz, q⟩ := h
  obtain ⟨as, r1⟩ := Dp.reads I d x v hd rx
  obtain ⟨bs, r2⟩ := Dp.reads I e y u he ry
  exact PySem.W.lt_data r1 r2 ha hn (by have := Nat.min_le_left d.depth e.depth; omega) ⟨.bl _, H, I, rfl, q⟩
end
end Ky

namespace Ky
open PySem PySem.Spec PyProof.Rows L2
/-! ### sorted(l, key=f), f a def of the program -/
theorem freed_none (h : Heap) (a : Addr) : (h.update a fun _ => ⟨.none, none, .freed, #[]⟩).get? a = none := by
  cases e : (h.update a fun _ => ⟨.none, none, .freed, #[]⟩).get? a with
  | none => rfl
  | some o =>
    obtain ⟨h1, h2⟩ := Heap.get?_some_iff.mp e
    exfalso
    obtain ⟨objs⟩ := h
    simp only [Heap.update, Array.getElem?_modify, if_pos] at h1
    cases q : objs[a]? with
    | none =>
      rw [q] at h1
      cases h1
    | some x =>
      rw [q] at h1
      cases h1
      cases h2
/-- a context at another place of the same calls, where nothing is raised -/
abbrev atA (X : Cx) (A' : Around) : Cx := { X with A := A', xe := fun _ _ => False }
section
variable {X : Cx} {pins : List (Addr × Obj)} {σ : L2.St} {H : Hp} {s : Shared}
theorem inAt {A' : Around} (I : Inv X pins σ H s) (hh : X.calm = true → A'.handled = none) (hf : A'.frames = X.A.frames) : Inv (atA X A') pins σ H s :=
  ⟨⟨I.ok.mod, I.ok.kind, I.ok.glob, I.ok.blt, I.ok.above, I.ok.inj, I.ok.has, I.ok.cab, hh, hf.trans I.ok.frames, I.ok.stk, I.ok.exf, I.ok.bs, I.ok.bsz, I.ok.noex, I.ok.exfs, I.ok.funs, I.ok.frf⟩, I.os, I.bare, I.base, I.loc, I.cell, I.free, I.freeC, I.pin, I.hok, I.len⟩
theorem outAt {A' : Around} (I : Inv (atA X A') pins σ H s) (ok : X.Ok) : Inv X pins σ H s := ⟨ok, I.os, I.bare, I.base, I.loc, I.cell, I.free, I.freeC, I.pin, I.hok, I.len⟩
/-- records of ours have turned, one of them is tracked from now on -/
theorem take_in {h' : Heap} {t' : Nat} {ch : List Addr} {it : Addr} {o : HO} (I : Inv X pins σ H s) (k : ∀ b ob, b ∉ ch → s.heap.get? b = some ob → h'.get? b = some ob) (f : ∀ b ∈ ch, FpOk X pins H b) (hit : it ∈ ch)
    (new : ObjOk X.prog X.w (upd H it o) h' it o) : Inv X pins σ (upd H it o) { s with heap := h', toks := t' } := by
  have nch : ∀ b u, H b = some u → b ∉ ch := fun b u e z => by
    have := (f b z).1
    rw [e] at this
    cases this
  have up : ∀ b u, H b = some u → upd H it o b = some u := fun b u e => by rw [upd_ne (fun z => nch b u e (by rw [z]; exact hit))]; exact e
  refine I.step (g' := s.gens) (d' := s.drawn) (ch := ch) (fun b hb => ?_) (fun b ob _ _ hc e _ => k b ob hc e) (fun b ob _ _ hc e _ => ⟨ob.slots, k b ob hc e⟩)
    (fun b ob hc _ n => by rw [upd_ne (fun z => hc (by rw [z]; exact hit))]; exact n) (fun b ob hc e => ⟨ob, k b ob hc e⟩) (fun b _ e => up b _ e) (fun b _ _ e => up b _ e) (fun b ps e => ⟨#[], by rw [up b _ e]; simp⟩) (fun m hm => ?_) (fun b u e => ?_) I.bare
  · obtain ⟨_, h1, _, h2, h3, h4⟩ := f b hb
    exact ⟨h2, h1, h3, h4⟩
  · obtain ⟨ob, es, ep, ho, r⟩ := hm
    exact ⟨ob, es, ep, k _ ob (fun z => (f _ z).2.1 rfl) ho, r⟩
  · by_cases hb : b = it
    · rw [hb, upd_same] at e
      cases e
      rw [hb]
      exact new
    · rw [upd_ne hb] at e
      refine (I.hok b u e).stay (fun c v hc q => k c v ?_ q) (fun c q => up c _ q) fun c _ q => up c _ q
      rcases hc with z | z
      · rw [z]; exact nch b u e
      · exact nch c _ z
theorem dpAll_snoc {K : PySem.W.Frag} : ∀ {xs : List V} {ds : List PyData} {x : V} {d : PyData}, DpAll K H xs ds → Dp K H x d → DpAll K H (xs ++ [x]) (ds ++ [d])
  | _, _, _, _, .nil, h => .cons h .nil
  | _, _, _, _, .cons h1 h2, h => .cons h1 (dpAll_snoc h2 h)
mutual
theorem Kept.dp {K : PySem.W.Frag} {H H' : Hp} (e : Kept H H') : ∀ (d : PyData) (v : V), Dp K H v d → Dp K H' v d
  | .none, _, h => by cases h; exact .non
  | .bool b, _, h => by cases h; exact .bl b
  | .int i, _, h => by cases h; exact .int i
  | .str x, _, h => by cases h; exact .str x
  | .list ds, _, h => by
    cases h with
    | lst hs ha => exact .lst (e.sq hs) (Kept.dpAll e ds _ ha)
  | .tuple ds, _, h => by
    cases h with
    | tup hs ha =>
      refine .tup ?_ (Kept.dpAll e ds _ ha)
      rcases hs with (hs | ⟨o, hs⟩) | hs
      · exact .inl (.inl (e.tup hs))
      · exact .inl (.inr ⟨o, e.keep _ _ (fun ps z => by cases z) hs⟩)
      · exact .inr hs
  | .dict _, _, h => by cases h
theorem Kept.dpAll {K : PySem.W.Frag} {H H' : Hp} (e : Kept H H') : ∀ (ds : List PyData) (vs : List V), DpAll K H vs ds → DpAll K H' vs ds
  | [], _, h => by cases h; exact .nil
  | d :: ds, _, h => by
    cases h with
    | cons h1 h2 => exact .cons (Kept.dp e d _ h1) (Kept.dpAll e ds _ h2)
end
def rSortedF (K : PySem.W.Frag) (f : Addr) (sp : Sp) : List V → List V → Hp → VK → Prop := fun vs zs H Q => ∃ (a : Addr) (xs : List V) (ds : List PyData), vs = [.ref a] ∧ zs = [.ref f] ∧ SqL K H a xs ∧ xs.length = ds.length ∧ PySem.W.AllAlike ds ∧ Srt ds ∧ (∀ d ∈ ds, d.depth ≤ 60) ∧
  (∀ (i : Nat) (x : V) (d : PyData) (H1 : Hp), xs[i]? = some x → ds[i]? = some d → Kept H H1 → sp [x] H1 (fun y H2 => Kept H1 H2 ∧ Dp K H2 y d) E0) ∧ ∀ H2, Kept H H2 → ∀ p, H2 p = none → Q (.ref p) (upd H2 p (.lst (sortD xs ds)))
theorem vals_len {xs : List V} {us : List Value} (r : Vals xs us) : xs.length = us.length := r.length
theorem cr_sortedF {k : Nat} {f : Addr} {fd : FuncData} {ps : List Str} {sp : Sp} (hr : Room (k + 1) X.A) (F : FnOk X.prog X.w X.K X.mg X.base CX0 k f fd ps sp) (hb : Binds X.K fd ps []) : CallRK X (.builtin "sorted") [Str.ofString "key"] (rSortedF X.K f sp) := by
  intro pins s σ H vs zs us ws Q I r rz h
  obtain ⟨a, xs, ds, rfl, rfl, hs, hlen, hal, hk, hdep, call, q⟩ := h
  obtain rfl := Vals.ref1 r
  obtain ⟨w1, rfl, e1⟩ := vals1 rz
  obtain rfl : w1 = Value.ref f := e1
  obtain ⟨its, rv, hl, hz⟩ := I.list hs
  have hil : xs.length = its.length := rv.length
  have hZ : its.length ≤ sizeLine := by omega
  refine PySem.W.sorted_of_sort hl.isList hZ (PyProof.Rows.ksk_s1 _ _) (fun _ => PyProof.Rows.ksk_l1 _ _) fun E' => ?_
  show wpAny _ _ (Builtin.«list.sort» ⟨[.ref (s.heap.objs.size + 1)], [(Str.ofString "key", .ref f)]⟩) _ _ _
  rw [PyProof.Rows.ksk_t1]
  have hoL := PySem.W.copyHeap_at s.heap its
  have szc : (PySem.W.copyHeap s.heap its).objs.size = s.heap.objs.size + 2 := by
    unfold PySem.W.copyHeap
    rw [Heap.size_push, Heap.size_after_update, Heap.size_push]
  have k0 : ∀ b o, s.heap.get? b = some o → (PySem.W.sortingHeap (PySem.W.copyHeap s.heap its) (s.heap.objs.size + 1) its).get? b = some o := fun _ _ => PySem.W.sorting_copy_old
  generalize hL : s.heap.objs.size + 1 = L at hoL k0 ⊢
  obtain ⟨ep, ho1⟩ : ∃ ep, ((PySem.W.copyHeap s.heap its).update L (Obj.mapSeq fun _ => (#[] : Array Value))).get? L = some (PyProof.Rows.seqObj "list" #[] ep) := ⟨_, PyProof.Rows.get?_update_seq hoL fun _ => #[]⟩
  unfold PyProof.Rows.ksk_tree
  refine wpAny_bind (PyProof.Rows.listItems_at hoL rfl ?_)
  refine wpAny_bind (PyProof.Rows.listUpdate_at hoL rfl ?_ (by rw [List.size_toArray]; exact hZ) (Nat.zero_le _))
  refine wpAny_bind (PyProof.Rows.seqEpoch_at ho1 rfl ?_)
  refine wpAny_bind (wpAny_newTuple ?_ (by show its.length ≤ _; exact hZ))
  refine wpAny_bind (wpAny_newList ?_ (Nat.zero_le _))
  refine wpAny_holding ?_
  have hLS : (((PySem.W.copyHeap s.heap its).update L (Obj.mapSeq fun _ => (#[] : Array Value))).push (PyProof.Rows.seqObj "tuple" its.toArray 0)).objs.size = s.heap.objs.size + 3 := by rw [Heap.size_push, Heap.size_after_update, szc]
  have nk0 : (PySem.W.sortingHeap (PySem.W.copyHeap s.heap its) L its).get? (((PySem.W.copyHeap s.heap its).update L (Obj.mapSeq fun _ => (#[] : Array Value))).push (PyProof.Rows.seqObj "tuple" its.toArray 0)).objs.size = some (PyProof.Rows.seqObj "list" #[] 0) := Heap.get?_push_size _ rfl
  have nL0 : (PySem.W.sortingHeap (PySem.W.copyHeap s.heap its) L its).get? L = some (PyProof.Rows.seqObj "list" #[] ep) := Heap.get?_push_of_some _ (Heap.get?_push_of_some _ ho1)
  show wpAny (model X.prog X.w) X.A.in1.in1 (PyProof.Rows.ksk_rest L (.ref f) false its.toArray ep (.ref (((PySem.W.copyHeap s.heap its).update L (Obj.mapSeq fun _ => (#[] : Array Value))).push (PyProof.Rows.seqObj "tuple" its.toArray 0)).objs.size)) _ _ { s with heap := PySem.W.sortingHeap (PySem.W.copyHeap s.heap its) L its }
  generalize hkS : (((PySem.W.copyHeap s.heap its).update L (Obj.mapSeq fun _ => (#[] : Array Value))).push (PyProof.Rows.seqObj "tuple" its.toArray 0)).objs.size = kS at hLS nk0 ⊢
  generalize PySem.W.sortingHeap (PySem.W.copyHeap s.heap its) L its = h0 at k0 nk0 nL0 ⊢
  have hLs : s.heap.objs.size ≤ L := by omega
  have hkSs : s.heap.objs.size ≤ kS := by omega
  have hka : kS ≠ L := by omega
  have I0 : Inv (atA X X.A.in1.in1) pins σ H { s with heap := h0, toks := s.toks } := (inAt (A' := X.A.in1.in1) I (fun _ => hr.hd) rfl).kept (t' := s.toks) k0
  have fp : ∀ (b : Addr) (H' : Hp), s.heap.objs.size ≤ b → H' b = none → FpOk (atA X X.A.in1.in1) pins H' b := fun b H' hb' hn => (inAt (A' := X.A.in1.in1) I (fun _ => hr.hd) rfl).fpOk hb' hn
  have pk : ∀ {H' : Hp} {s' : Shared} {kA : Array Value} {e : Nat}, Inv (atA X X.A.in1.in1) pins σ H' s' → H' kS = none → H' L = none → s'.heap.get? kS = some (PyProof.Rows.seqObj "list" kA e) → s'.heap.get? L = some (PyProof.Rows.seqObj "list" #[] ep) →
      Inv (atA X X.A.in1.in1) (pins ++ [(L, PyProof.Rows.seqObj "list" #[] ep), (kS, PyProof.Rows.seqObj "list" kA e)]) σ H' s' := fun {H' s' kA e} I' n1 n2 g1 g2 => I'.pins_of fun p hp => by
    rcases List.mem_append.mp hp with hp | hp
    · exact I'.pin p (List.mem_append_right _ hp)
    · rcases List.mem_cons.mp hp with e2 | hp
      · subst e2
        exact ⟨g2, n2, (fp L H' hLs n2).2.1, (fp L H' hLs n2).2.2.1, fun v z => by cases z⟩
      · have e2 := List.mem_singleton.mp hp
        subst e2
        exact ⟨g1, n1, (fp kS H' hkSs n1).2.1, (fp kS H' hkSs n1).2.2.1, fun v z => by cases z⟩
  have upk : ∀ {H' : Hp} {s' : Shared} {kA : Array Value} {e : Nat}, Inv (atA X X.A.in1.in1) (pins ++ [(L, PyProof.Rows.seqObj "list" #[] ep), (kS, PyProof.Rows.seqObj "list" kA e)]) σ H' s' →
      Inv (atA X X.A.in1.in1) pins σ H' s' ∧ H' kS = none ∧ H' L = none ∧ s'.heap.get? kS = some (PyProof.Rows.seqObj "list" kA e) ∧ s'.heap.get? L = some (PyProof.Rows.seqObj "list" #[] ep) := fun {H' s' kA e} I' => by
    have a1 := I'.pin (kS, PyProof.Rows.seqObj "list" kA e) (by simp)
    have a2 := I'.pin (L, PyProof.Rows.seqObj "list" #[] ep) (by simp)
    exact ⟨I'.unpinned, a1.2.1, a2.2.1, a1.1, a2.1⟩
  unfold PyProof.Rows.ksk_rest
  refine wpAny_bind (wpAny_rule ?_)
  first
    | rw [List.forIn_toArray]
    | (rw [← Array.forIn_toList]; simp only [List.toList_toArray])
    | rw [← Array.forIn_toList]
  refine wpAny_bind (PyProof.Rows.ksk_fold (fun i s' => ∃ (H' : Hp) (kA : Array Value) (e : Nat) (ys : List V), Inv (atA X X.A.in1.in1) (pins ++ [(L, PyProof.Rows.seqObj "list" #[] ep), (kS, PyProof.Rows.seqObj "list" kA e)]) σ H' s' ∧ Kept H H' ∧ Vals ys kA.toList ∧ DpAll X.K H' ys (ds.take i)) its 0 _
    ⟨H, #[], 0, [], pk I0 (I.hok.fresh hkSs) (I.hok.fresh hLs) nk0 nL0, Kept.refl H, .nil, by rw [List.take_zero]; exact .nil⟩ ?step ?done)
  case step =>
    rintro j x s' hx ⟨H', kA, e, ys, I', kp, rv', dp'⟩
    simp only [Nat.zero_add] at dp' ⊢
    have hj : j < its.length := (List.getElem?_eq_some_iff.mp hx).1
    have hxj : xs[j]? = some (xs[j]'(by omega)) := List.getElem?_eq_getElem _
    have hdj : ds[j]? = some (ds[j]'(by omega)) := List.getElem?_eq_getElem _
    obtain ⟨u, hu', ru⟩ := rv.get hxj
    rw [hx] at hu'
    cases hu'
    have hrun := run_fn (X := atA X X.A.in1.in1) (k := k) F ⟨hr.hd, by have := hr.dp; show X.A.depth + 3 * k + 5 < _; omega, by have := hr.un; show X.A.units + 1 + 1 + 16 * k + 200 < _; omega⟩ hb .nil pass0 I' (.cons ru .nil) (call j _ _ H' hxj hdj kp)
    refine wpAny_bind (wpAny_attempt (thnF hrun fun v s'' ⟨y, H2, I2, ry, kp2, dy⟩ => ?_))
    try dsimp only
    obtain ⟨I3, n1, n2, g1, g2⟩ := upk I2
    have hsz : kA.size = j := by
      have h1 : ys.length = kA.size := by
        have z := rv'.length
        simpa using z
      have h2 := dpAll_len dp'
      rw [List.length_take] at h2
      have h3 : j ≤ ds.length := by omega
      rw [Nat.min_eq_left h3] at h2
      exact h1.symm.trans h2
    obtain ⟨c2, hc2⟩ : ∃ c2, (s''.heap.update kS (Obj.mapSeq (·.push v))).get? kS = some (PyProof.Rows.seqObj "list" (kA.push v) c2) := ⟨_, PyProof.Rows.get?_update_seq g1 (·.push v)⟩
    refine wpAny_bind (PyProof.Rows.listUpdate_at g1 rfl ?_ (by omega) (by rw [Array.size_push]; omega))
    obtain ⟨f0, f1, f2, f3, f4, f5⟩ := fp kS H2 hkSs n1
    have I4 : Inv (atA X X.A.in1.in1) pins σ H2 { s'' with heap := s''.heap.update kS (Obj.mapSeq (·.push v)), toks := s''.toks } := I3.turned (it := kS) (fun b o hbS e => (Heap.get?_update_other _ _ (Ne.symm hbS)).trans e) f0 f1 f3 f4 f5
    have ek : ds.take (j + 1) = ds.take j ++ [ds[j]'(by omega)] := by rw [List.take_add_one, hdj]; simp
    refine wpAny_pure ⟨rfl, H2, kA.push v, c2, ys ++ [y], pk I4 n1 n2 hc2 ((Heap.get?_update_other _ _ hka).trans g2), kp.trans kp2, ?_, ?_⟩
    · rw [Array.toList_push]
      exact rv'.append (.cons ry .nil)
    · rw [ek]
      exact dpAll_snoc (Kept.dpAll kp2 _ _ dp') dy
  case done =>
    rintro s' ⟨H', kA, e, ys, I', kp, rv', dp'⟩
    have e3 : ds.take (0 + its.length) = ds := List.take_of_length_le (by omega)
    rw [e3] at dp'
    obtain ⟨I3, n1, n2, g1, g2⟩ := upk I'
    try dsimp only
    refine wpAny_bind (PyProof.Rows.listItems_at g1 rfl ?_)
    have hly := dpAll_len dp'
    have hsz : kA.size = its.length := by
      have h1 : ys.length = kA.size := by
        have z := rv'.length
        simpa using z
      exact h1.symm.trans (hly.trans (hlen.symm.trans hil))
    have er := PySem.W.each_map (R := fun v d => ∃ as, Reads s'.heap v d as) (fun b : V × PyData => b.2) ((each_dp I3 rv' dp').mono fun _ _ z => z.2)
    rw [zip_snd hly] at er
    refine PySem.W.keyH_end (κ := PySem.W.dataKind s'.heap ds) (h₁ := s'.heap.update kS fun _ => ⟨.none, none, .freed, #[]⟩) (vs := its) (fun b o hbL eb => ?_) (freed_none _ _) g1 g2 hka (srt_sorts er hal hk fun d hm => ?_) hsz hZ fun h' tk c k3 n3 => ?_
    · by_cases hbS : b = kS
      · rw [hbS, freed_none] at eb
        cases eb
      · rw [Heap.get?_update_other _ _ (Ne.symm hbS)] at eb
        exact eb
    · have h1 := hdep d hm
      have h2 := hr.un
      show X.A.units + 1 + 1 + d.depth < cLine
      omega
    · have ko : PySem.W.KeyedOut false ((xs.zip ds).map fun b : V × PyData => b.2) its (PySem.W.sortVals (PySem.W.dataKind s'.heap ds) false kA.toList its) := by
        rw [zip_snd hlen]
        exact ⟨s'.heap, kA.toList, hal, rfl, er⟩
      have eR : PySem.W.EachIs (fun u (b : V × PyData) => RelV b.1 u) its (xs.zip ds) := by
        have aux : ∀ {xs : List V} {us : List Value} {ds : List PyData}, Vals xs us → xs.length = ds.length → PySem.W.EachIs (fun u (b : V × PyData) => RelV b.1 u) us (xs.zip ds) := by
          intro xs us ds r
          induction r generalizing ds with
          | nil => intro _; exact .nil
          | cons r1 r2 ih =>
            intro hl
            cases ds with
            | nil => cases hl
            | cons d ds => exact .cons r1 (ih (Nat.succ.inj hl))
        exact aux rv hlen
      have out := vals_each (PySem.W.keyedOut_each (R := fun u (b : V × PyData) => RelV b.1 u) (fun b : V × PyData => b.2) ko eR)
      refine ⟨rfl, .ref L, upd H' L (.lst (sortD xs ds)), outAt (take_in (t' := tk) (ch := [kS, L]) I3 (fun b ob hb' eb => ?_) (fun b hb' => ?_) (by simp) ⟨by rw [sortD_len hlen]; exact hz, _, c, out, n3⟩) I.ok, rfl, q H' kp L n2⟩
      · have hb1 : b ≠ kS := fun z => hb' (by simp [z])
        have hb2 : b ≠ L := fun z => hb' (by simp [z])
        exact k3 b ob hb2 ((Heap.get?_update_other _ _ (Ne.symm hb1)).trans eb)
      · rcases List.mem_cons.mp hb' with z | z
        · rw [z]; exact fp kS H' hkSs n1
        · rw [List.mem_singleton.mp z]; exact fp L H' hLs n2
end
end Ky

namespace Ky
open PySem PySem.Spec PyProof.Rows L2
/-! ### {k: v for ..} whose keys are tuples of numbers and texts -/
theorem dictSet_T {X : Cx} {pins : List (Addr × Obj)} {σ : L2.St} {H : Hp} {s : Shared} {E : Value → Shared → Prop} {D b : Addr} {kvs : List (List L2.Key × V)} {k : List L2.Key} {v : V} {r : Value} {Q : Unit → Shared → Prop} (hu : X.A.units + 1 < cLine) (I : Inv X pins σ H s) (hD : H D = some (.dT kvs)) (hb : H b = some (.tup (k.map kV)))
    (hz : kvs.length < sizeLine) (rv : RelV v r) (h : ∀ s', Inv X pins σ (upd H D (.dT (putK kvs k v))) s' → Q () s') : wpAny (model X.prog X.w) X.A (dictSet D (.ref b) r) Q E s := by
  obtain ⟨z, hd, xs, rel, dd⟩ := dt_of I.hok hD
  have hzx : xs.length ≤ sizeLine := by rw [← Paired.length rel]; exact z
  have hl : (putK kvs k v).length ≤ sizeLine := by have := length_putK kvs k v; omega
  refine wpAny_dictSet_heap (hsz := hzx) (show X.A.units < cLine by omega) (key_of I.hok hb) dd fun h' dd' hs => h _ ?_
  obtain ⟨q, es, ep, hq, h2, h3, h4, _, h5⟩ := dd'
  refine d_write I (by rw [hD]; exact True.intro) hs ⟨q, hq⟩ ⟨hl, hd, _, (rel.put k hb rv).keeps fun c ys ec => ?_, q, es, ep, hq, h2, h3, h4, h5⟩
  rw [upd_ne (ne_of ec hD (fun z => nomatch z))]
  exact ec
def tDcT (wi : TI) (g : TG) (tt : TT) (tk tv : TE) (vs : List Nat) : TE := fun σ H Q => wi σ H fun J H1 => ∀ D, H1 D = none → ∃ W : Nat → Nat → Hp → Prop, (∃ m, W 0 m (upd H1 D (.dT []))) ∧ ∀ i m H, W i m H →
  (J.stop i H ∧ Q (.ref D) H) ∨ (J.go i H ∧ ∃ Nx : Hp → Prop, (∀ H', Nx H' → ∃ m', m' < m ∧ W (i + 1) m' H') ∧ ∀ x H', J.yld i H x H' → g x (wipe σ vs) H' fun σ2 H2 => wipe σ2 vs = wipe σ vs ∧ tt σ2 H2 fun b H3 =>
    if b = true then tk σ2 H3 fun y H4 => tv σ2 H4 fun z H5 => ∃ kvs k p, y = .ref p ∧ H5 p = some (.tup (k.map kV)) ∧ H5 D = some (.dT kvs) ∧ kvs.length < sizeLine ∧ Nx (upd H5 D (.dT (putK kvs k z))) else Nx H3)
theorem dcT_core {X : Cx} {pins : List (Addr × Obj)} {s : Shared} {σ : L2.St} {H : Hp} {Q : VK} {kx vx tg iter : Expr} {ifs : List Expr} {scope : Scope} {own : List (Str × Nat)} {pos pos' : Pos} {wi : TI} {g : TG} {tt : TT} {tk tv : TE} {use : Option (Value → Sem Unit)} {Qf : Value → Shared → Prop} (hu : X.A.units + 1 < cLine) (hc : X.calm = true) (hN : X.N.Nodup) (hi : PI X tg iter wi) (ok : BlkOk X.N X.env.scope scope own)
    (hg : ∀ (s : Shared) (H : Hp) (C : Addr) (cl : List (Str × Addr)) (fp : List Addr), PG (X.blk s H scope (compEnvC scope cl C X.env) fp) tg g) (ht : ∀ (s : Shared) (H : Hp) (C : Addr) (cl : List (Str × Addr)) (fp : List Addr), PTs (X.blk s H scope (compEnvC scope cl C X.env) fp) ifs tt)
    (hk : ∀ (s : Shared) (H : Hp) (C : Addr) (cl : List (Str × Addr)) (fp : List Addr), PE (X.blk s H scope (compEnvC scope cl C X.env) fp) kx tk)
    (he : ∀ (s : Shared) (H : Hp) (C : Addr) (cl : List (Str × Addr)) (fp : List Addr), PE (X.blk s H scope (compEnvC scope cl C X.env) fp) vx tv) (hs : ∀ x, foldedSetIterable iter X.env x = pure x) (I : Inv X pins σ H s) (h : tDcT wi g tt tk tv (own.map (·.2)) σ H Q)
    (hRR : ∀ D C s' m H', Inv X pins σ H' s' → Q (.ref D) H' → s'.heap.Ns C m → FpOk X pins H' C → compPost (model X.prog X.w) X.A X.xe use Qf (.ref D) C (.ok .next) s') :
    wpAny (model X.prog X.w) X.A (comprehension (.DictComp kx vx [⟨tg, iter, ifs, 0⟩] scope pos) scope X.env pos' newDict false (eval iter X.env) use) Qf X.xe s := by
  have hfree : ∀ y ∈ scope.names, y.2 = .free → ∃ c, X.env.cells.lookup y.1 = some c := fun y hy e => (ok.free y hy e).elim (fun k => I.ok.has _ (.inl k)) fun k => I.ok.has _ (.inr k)
  refine wpAny_comprehension_free (use := use) rfl hs (closure_ok hfree) ok.kind (fun y hy e => by rw [ok.uniq y hy, e]) (thn (hi.run pins s σ H _ I h) fun xv s1 hx => thn hx fun itv s2 h2 => ?_)
  obtain ⟨it, fp, tn, J, H2, rfl, I2, T, st2, f2, q⟩ := h2
  refine wpAny_newObj_type (newEnv_comp ?_)
  have hDn : H2 s2.heap.objs.size = none := I2.hok.fresh (Nat.le_refl _)
  obtain ⟨W, ⟨m0, w0⟩, turn⟩ := q _ hDn
  have I3 : Inv X pins σ (upd H2 s2.heap.objs.size (.dT [])) { s2 with heap := s2.heap.push { cls := .type "dict", data := .dict #[] }, toks := s2.toks } := I2.laid (fun b o e => Heap.get?_push_of_some _ e) (Nat.le_refl _) (dt_empty s2.heap I2.big)
  have sz : ∀ b ∈ fp, b < s2.heap.objs.size := fun b hb => let ⟨_, e, _⟩ := T.obj _ _ st2 b hb; Heap.lt_size e
  have st3 : tn 0 (s2.heap.push { cls := .type "dict", data := .dict #[] }) := T.keep _ _ _ st2 fun b _ o e => Heap.get?_push_of_some _ e
  have f3 : ∀ b ∈ fp, FpOk X pins (upd H2 s2.heap.objs.size (.dT [])) b ∧ b < (s2.heap.push ({ cls := .type "dict", data := .dict #[] } : Obj)).objs.size := fun b hb => by
    refine ⟨⟨?_, (f2 b hb).2⟩, by rw [Heap.size_push]; exact Nat.lt_succ_of_lt (sz b hb)⟩
    rw [upd_ne (Nat.ne_of_lt (sz b hb))]
    exact (f2 b hb).1
  generalize s2.heap.objs.size = D at hDn turn w0 I3 f3 ⊢
  generalize hH3 : upd H2 D (.dT []) = H3 at I3 w0 f3
  generalize hs3 : ({ s2 with heap := s2.heap.push { cls := .type "dict", data := .dict #[] }, toks := s2.toks } : Shared) = s3 at I3 ⊢
  have h3 : s3.heap = s2.heap.push { cls := .type "dict", data := .dict #[] } := by rw [← hs3]
  rw [← h3] at st3
  have f3 : ∀ b ∈ fp, FpOk X pins H3 b ∧ b < s3.heap.objs.size := fun b hb => by rw [h3]; exact f3 b hb
  have I4 := block_start I3 ok hN f3
  have pg := hg s3 H3 s3.heap.objs.size (cellsFrom (s3.heap.objs.size + 1) scope.names (cloFrom X.env.cells scope.names [])) fp
  have pt := ht s3 H3 s3.heap.objs.size (cellsFrom (s3.heap.objs.size + 1) scope.names (cloFrom X.env.cells scope.names [])) fp
  have pk := hk s3 H3 s3.heap.objs.size (cellsFrom (s3.heap.objs.size + 1) scope.names (cloFrom X.env.cells scope.names [])) fp
  have pe := he s3 H3 s3.heap.objs.size (cellsFrom (s3.heap.objs.size + 1) scope.names (cloFrom X.env.cells scope.names [])) fp
  have nfp : ∀ b ∈ fp, H3 b = none := fun b hb => (f3 b hb).1.1
  show codeAny _ _ (.compStart (.DictComp kx vx [⟨tg, iter, ifs, 0⟩] scope pos) 0 (.ref it) (.ref D) (compEnvC scope (cellsFrom (s3.heap.objs.size + 1) scope.names (cloFrom X.env.cells scope.names [])) s3.heap.objs.size X.env)) _ { s3 with heap := pushCells (s3.heap.push { cls := .type "dict", data := .dict #[] }) scope.names }
  have cL : (compEnvC scope (cellsFrom (s3.heap.objs.size + 1) scope.names (cloFrom X.env.cells scope.names [])) s3.heap.objs.size X.env).locals = s3.heap.objs.size := rfl
  generalize compEnvC scope (cellsFrom (s3.heap.objs.size + 1) scope.names (cloFrom X.env.cells scope.names [])) s3.heap.objs.size X.env = ce at I4 pg pt pk pe cL ⊢
  have st4 : tn 0 (pushCells (s3.heap.push { cls := .type "dict", data := .dict #[] }) scope.names) := T.keep _ _ _ st3 fun b _ o e => pushCells_keeps _ _ _ _ (Heap.get?_push_of_some _ e)
  generalize hs4 : ({ s3 with heap := pushCells (s3.heap.push { cls := .type "dict", data := .dict #[] }) scope.names } : Shared) = s4 at I4 ⊢
  have st4 : tn 0 s4.heap := by rw [← hs4]; exact st4
  have stat : ∀ {σ' : L2.St} {H' : Hp} {s' : Shared}, Inv (X.blk s3 H3 scope ce fp) [] σ' H' s' → (∀ b ∈ fp, H' b = none) → ∀ b ∈ fp, FpOk (X.blk s3 H3 scope ce fp) [] H' b := fun {σ' H' s'} I' hn b hb =>
    ⟨hn b hb, (I'.ok.exf b hb).1, I'.ok.exfs b hb, .inl hb, fun x c e => (I'.ok.exf b hb).2 x c e, fun p hp => absurd (show p ∈ ([] : List (Addr × Obj)) ++ [] from hp) (by simp)⟩
  refine codeAny_compStart_dict ?loop (T.self X.A 0 _ _ _ st4 ?loop)
  refine compLoop_anyD (fun n s' => ∃ i H', Inv (X.blk s3 H3 scope ce fp) [] (wipe σ (own.map (·.2))) H' s' ∧ tn i s'.heap ∧ (∀ b ∈ fp, H' b = none) ∧ W i n H') ?_ m0 ⟨0, H3, I4, st4, nfp, w0⟩
  rintro n s5 ⟨i, H5, I5, st5, n5, w5⟩
  rcases turn i n H5 w5 with ⟨stop, qq⟩ | ⟨go, Nx, hNx, step⟩
  · refine thnF (T.done (X.blk s3 H3 scope ce fp) rfl rfl rfl hc i [] s5 _ H5 (fun _ _ => False) I5 (stat I5 n5) st5 stop) fun r s6 ⟨hr, I6⟩ => ?_
    subst hr
    have I7 : Inv X pins σ H5 s6 := I3.call' (ch := fp) I6.os I6.base I6.hok I6.bare fun b hb => ⟨(f3 b hb).1.2.2.2.1, (f3 b hb).1.2.1, (f3 b hb).1.2.2.2.2.1, (f3 b hb).1.2.2.2.2.2⟩
    have nC : H5 ce.locals = none := I6.free
    obtain ⟨m, hn, _⟩ := I6.loc
    have hn : s6.heap.Ns ce.locals m := hn
    rw [cL] at nC hn
    exact hRR D _ s6 m H5 I7 qq hn (I3.fpOk (Nat.le_refl _) nC)
  · refine thnF (T.item (X.blk s3 H3 scope ce fp) rfl rfl rfl hc i [] s5 _ H5 (fun _ _ => False) I5 (stat I5 n5) st5 go) fun r s6 ⟨u, hr, h6⟩ => ?_
    subst hr
    refine thnF h6 fun _ s7 ⟨x, H7, I7, r7, y7, st7, n7⟩ => ?_
    refine thnF (pg.run _ s7 _ H7 x u _ (I7.pinned (stat I7 n7) (T.obj _ _ st7)) r7 (step x H7 y7)) fun _ s8 ⟨σ8, H8, I8, hw8, q8⟩ => ?_
    refine thnF (pt.run _ s8 σ8 H8 _ I8 q8) fun b s9 ⟨H9, I9, q9⟩ => ?_
    have fin : ∀ {s' : Shared} {H' : Hp}, Inv (X.blk s3 H3 scope ce fp) ([] ++ pinsAt fp s7.heap) σ8 H' s' → Nx H' → ∃ m, m < n ∧ ∃ i H', Inv (X.blk s3 H3 scope ce fp) [] (wipe σ (own.map (·.2))) H' s' ∧ tn i s'.heap ∧ (∀ b ∈ fp, H' b = none) ∧ W i m H' := fun {s' H'} I' nx => by
      obtain ⟨m', hm, w'⟩ := hNx H' nx
      have pin' : ∀ b ∈ fp, ∀ o, s7.heap.get? b = some o → s'.heap.get? b = some o ∧ H' b = none := fun b hb o e =>
        let z := I'.pin (b, o) (List.mem_append_right _ (List.mem_append_right _ (mem_pinsAt hb e)))
        ⟨z.1, z.2.1⟩
      refine ⟨m', hm, i + 1, H', (I'.unpinned (pins := [])).weak (by rw [← hw8, wipe_length]) (fun j v e => ?_), T.keep _ _ _ st7 fun b hb o e => (pin' b hb o e).1, fun b hb => ?_, w'⟩
      · rw [← hw8] at e
        exact (wipe_some e).1
      · obtain ⟨o, e, _⟩ := T.obj _ _ st7 b hb
        exact (pin' b hb o e).2
    cases b with
    | false =>
      simp only [Bool.false_eq_true, if_false] at q9 ⊢
      exact fin I9 q9
    | true =>
      simp only [if_true] at q9 ⊢
      refine thnF (pk.run _ s9 σ8 H9 _ I9 q9) fun z s10 ⟨yk, H10, I10, r10, q10⟩ => ?_
      refine thnF (pe.run _ s10 σ8 H10 _ I10 q10) fun z2 s11 ⟨yv, H11, I11, r11, kvs, k, p, ek, hp, hD11, hz11, nx⟩ => ?_
      subst ek
      obtain rfl : z = Value.ref p := r10
      exact dictSet_T (X := X.blk s3 H3 scope ce fp) hu I11 hD11 hp hz11 r11 fun s12 I12 => fin I12 nx
theorem pe_dcT {X : Cx} {kx vx tg iter : Expr} {ifs : List Expr} {scope : Scope} {own : List (Str × Nat)} {pos : Pos} {wi : TI} {g : TG} {tt : TT} {tk tv : TE} (hu : X.A.units + 1 < cLine) (hc : X.calm = true) (hN : X.N.Nodup) (hi : PI X tg iter wi) (ok : BlkOk X.N X.env.scope scope own)
    (hg : ∀ (s : Shared) (H : Hp) (C : Addr) (cl : List (Str × Addr)) (fp : List Addr), PG (X.blk s H scope (compEnvC scope cl C X.env) fp) tg g) (ht : ∀ (s : Shared) (H : Hp) (C : Addr) (cl : List (Str × Addr)) (fp : List Addr), PTs (X.blk s H scope (compEnvC scope cl C X.env) fp) ifs tt)
    (hk : ∀ (s : Shared) (H : Hp) (C : Addr) (cl : List (Str × Addr)) (fp : List Addr), PE (X.blk s H scope (compEnvC scope cl C X.env) fp) kx tk)
    (he : ∀ (s : Shared) (H : Hp) (C : Addr) (cl : List (Str × Addr)) (fp : List Addr), PE (X.blk s H scope (compEnvC scope cl C X.env) fp) vx tv) (hs : ∀ x, foldedSetIterable iter X.env x = pure x := by intro _; rfl) :
    PE X (.DictComp kx vx [⟨tg, iter, ifs, 0⟩] scope pos) (tDcT wi g tt tk tv (own.map (·.2))) := by
  refine ⟨fun pins s σ H Q I h => ?_⟩
  rw [arm_eval_DictComp]
  refine dcT_core hu hc hN hi ok hg ht hk he hs I h fun D C s' m H' I' q hn f => ⟨m, hn, fun h'' sb => ?_⟩
  obtain ⟨f0, f1, f2, f3, f4, f5⟩ := f
  exact ⟨.ref D, H', I'.turned (t' := s'.toks) (fun b o hb e => (sb.2 b hb).trans e) f0 f1 f3 f4 f5, rfl, q⟩
/-- name = {..} on one line, the name a local -/
theorem ps_setDcT {X : Cx} {i : Nat} {y : Str} {py : Pos} {kx vx tg iter : Expr} {ifs : List Expr} {scope : Scope} {own : List (Str × Nat)} {pos spos : Pos} {wi : TI} {g : TG} {tt : TT} {tk tv : TE} (hy : X.N[i]? = some y) (hyl : X.env.scope.names.lookup y = some .local)
    (hsw : swapsWith (.DictComp kx vx [⟨tg, iter, ifs, 0⟩] scope pos) (some (.Name y py)) spos.line X.env = pure true) (hu : X.A.units + 1 < cLine) (hc : X.calm = true) (hN : X.N.Nodup) (hi : PI X tg iter wi) (ok : BlkOk X.N X.env.scope scope own)
    (hg : ∀ (s : Shared) (H : Hp) (C : Addr) (cl : List (Str × Addr)) (fp : List Addr), PG (X.blk s H scope (compEnvC scope cl C X.env) fp) tg g) (ht : ∀ (s : Shared) (H : Hp) (C : Addr) (cl : List (Str × Addr)) (fp : List Addr), PTs (X.blk s H scope (compEnvC scope cl C X.env) fp) ifs tt)
    (hk : ∀ (s : Shared) (H : Hp) (C : Addr) (cl : List (Str × Addr)) (fp : List Addr), PE (X.blk s H scope (compEnvC scope cl C X.env) fp) kx tk)
    (he : ∀ (s : Shared) (H : Hp) (C : Addr) (cl : List (Str × Addr)) (fp : List Addr), PE (X.blk s H scope (compEnvC scope cl C X.env) fp) vx tv) (hs : ∀ x, foldedSetIterable iter X.env x = pure x := by intro _; rfl) :
    PS X (.Assign [.Name y py] (.DictComp kx vx [⟨tg, iter, ifs, 0⟩] scope pos) spos) (tAsg (tDcT wi g tt tk tv (own.map (·.2))) (gName i)) := by
  refine ⟨fun pins s σ H D I h => ?_⟩
  rw [exec_Assign_Name_used _ _ _ _ hsw]
  refine wpAny_bind (wpAny_standAt (wpAny_bind ?_))
  show wpAny _ X.A (do let _ ← comprehension (.DictComp kx vx [⟨tg, iter, ifs, 0⟩] scope pos) scope X.env (firstIterPos [⟨tg, iter, ifs, 0⟩] pos) newDict false (eval iter X.env) (some (assign (.Name y py) X.env))) _ _ s
  have h : tDcT wi g tt tk tv (own.map (·.2)) σ H (fun x H1 => gName i x σ H1 D.nx) := h
  refine wpAny_bind (thn (dcT_core (Qf := fun _ s' => SP X pins D .next s') hu hc hN hi ok hg ht hk he hs I h fun L C s' m H' I' q hn f => ?_) fun _ s' hq => wpAny_pure (wpAny_pure hq))
  show wpAny _ _ (assign (.Name y py) X.env (.ref L)) _ _ _
  refine wpAny_assign_Name (store_ok2 (v := V.ref L) I' hN hy (.inl hyl) rfl (fun s2 I2 ⟨a, sb, ha⟩ => ?_) (.inr hyl))
  obtain ⟨f0, f1, f2, f3, f4, f5⟩ := f
  have haC : C ≠ a := by
    rcases ha with z | z
    · rw [z]; exact f1
    · exact fun e => f4 y a z e.symm
  refine ⟨m, hn.sameBut sb haC, fun h3 sb3 => ?_⟩
  exact ⟨_, H', I2.turned (t' := s2.toks) (fun b o hb e => (sb3.2 b hb).trans e) f0 f1 f3 f4 f5, q⟩
theorem sw_trueD {kx vx : Expr} {gs : List Comprehension} {scope : Scope} {pos py : Pos} {y : Str} {l : Nat} {env : Env} (hk : env.scope.kind = .function) (hy : env.scope.names.lookup y = some .local) (hl : (py.line == pos.line) = true)
    (ha : (scope.names.any fun (n, k) => n == y && (k == .local || k == .cell)) = false) : swapsWith (.DictComp kx vx gs scope pos) (some (.Name y py)) l env = pure true := by
  have ky : env.kindOf y = some .local := hy
  have hb : env.blockKind = .function := by unfold Env.blockKind; rw [hk]; rfl
  unfold swapsWith
  simp only [hb, ky, ha, Expr.pos, hl]
  rfl
end Ky

namespace Ky
open PySem PySem.Spec PyProof.Rows L2
/-! ### {k for row in rows for x in row}, k a number -/
abbrev sc2 (elt t0 i0 t1 i1 : Expr) (scope : Scope) (pos : Pos) : Expr := .SetComp elt [⟨t0, i0, [], 0⟩, ⟨t1, i1, [], 0⟩] scope pos
theorem turn_out (elt t0 i0 t1 i1 : Expr) (scope : Scope) (pos : Pos) (it acc : Value) (env : Env) : compTurn (sc2 elt t0 i0 t1 i1 scope pos) 0 it acc env = (do
      standAt i0.pos
      match ← pyNext it with
      | none => pure (.done .next)
      | some v =>
        letOwnedTupleGo t0 it v
        assign t0 env v
        let mut ok := true
        for c in ([] : List Expr) do
          if ok then ok ← isTrue c env (eval c env)
        if ok then
          let x ← eval i1 env
          standAt i1.pos
          let x ← foldedSetIterable i1 env x
          let _ ← runOwn (.compStart (sc2 elt t0 i0 t1 i1 scope pos) 1 (← holding [x] (pyIter x)) acc env) env
        again (.compLoop (sc2 elt t0 i0 t1 i1 scope pos) 0 it acc env)) := by rfl
theorem turn_in (elt t0 i0 t1 i1 : Expr) (scope : Scope) (pos : Pos) (it acc : Value) (env : Env) : compTurn (sc2 elt t0 i0 t1 i1 scope pos) 1 it acc env = (do
      standAt i1.pos
      match ← pyNext it with
      | none => pure (.done .next)
      | some v =>
        letOwnedTupleGo t1 it v
        assign t1 env v
        let mut ok := true
        for c in ([] : List Expr) do
          if ok then ok ← isTrue c env (eval c env)
        if ok then
          (do let v ← eval elt env; standAt elt.pos; let _ ← call (.builtin "set.add") [acc, v])
        again (.compLoop (sc2 elt t0 i0 t1 i1 scope pos) 1 it acc env)) := by rfl
section
variable {prog : Program} {w : World} {A : Around} {R : Result → Shared → Prop} {s : Shared} {elt t0 i0 t1 i1 : Expr} {scope : Scope} {pos : Pos} {it acc : Value} {env : Env}
theorem loop_out (hs : ∀ x, foldedSetIterable i1 env x = pure x) (I : Nat → Shared → Prop)
    (turn : ∀ n s, I n s → wpAny (model prog w) A (pyNext it) (fun r s1 => match r with
      | none => R (.ok .next) s1
      | some v => wpAny (model prog w) A (letOwnedTupleGo t0 it v) (fun _ s2 => wpAny (model prog w) A (assign t0 env v) (fun _ s3 => wpAny (model prog w) A (eval i1 env) (fun x s4 => wpAny (model prog w) A (pyIter x) (fun it1 s5 =>
          codeAny (model prog w) A (.compStart (sc2 elt t0 i0 t1 i1 scope pos) 1 it1 acc env) (fun r s' => match r with
            | .ok _ => ∃ m, m < n ∧ I m s'
            | .error _ => False) s5) (fun _ _ => False) s4) (fun _ _ => False) s3) (fun _ _ => False) s2) (fun _ _ => False) s1) (fun _ _ => False) s) (n : Nat) (h : I n s) :
    codeAny (model prog w) A (.compLoop (sc2 elt t0 i0 t1 i1 scope pos) 0 it acc env) R s := by
  refine codeAny_loop rfl I (fun n s hI => ?_) n h
  show wpAny _ A ((compTurn (sc2 elt t0 i0 t1 i1 scope pos) 0 it acc env).onRaise (fun x => do noteFrame x env; theTreesLotGoes x)) _ _ s
  refine wpAny_noted ?_
  rw [turn_out]
  refine wpAny_bind (wpAny_standAt (wpAny_bind (thnF (turn n s hI) fun r s1 h1 => ?_)))
  cases r with
  | none => exact wpAny_pure h1
  | some v =>
    refine wpAny_bind (thnF h1 fun _ s2 h2 => ?_)
    refine wpAny_bind (thnF h2 fun _ s3 h3 => ?_)
    simp only [List.forIn_nil]
    refine wpAny_bind (wpAny_pure ?_)
    simp only [if_true]
    refine wpAny_bind (thnF h3 fun x s4 h4 => ?_)
    refine wpAny_bind (wpAny_standAt (wpAny_bind (wpAny_of_eq (hs x) (wpAny_bind (wpAny_holding (thnF h4 fun it1 s5 h5 => ?_))))))
    refine wpAny_bind (wpAny_runOwn ?_)
    rw [Around.mark_none]
    refine codeAny_mono h5 fun r s' hr => ?_
    cases r with
    | ok f =>
      first
        | exact wpAny_pure ⟨rfl, hr⟩
        | exact wpAny_bind (wpAny_pure (wpAny_pure ⟨rfl, hr⟩))
    | error e => exact hr.elim
theorem loop_in (I : Nat → Shared → Prop)
    (turn : ∀ n s, I n s → wpAny (model prog w) A (pyNext it) (fun r s1 => match r with
      | none => R (.ok .next) s1
      | some v => wpAny (model prog w) A (letOwnedTupleGo t1 it v) (fun _ s2 => wpAny (model prog w) A (assign t1 env v) (fun _ s3 => wpAny (model prog w) A (eval elt env) (fun x s4 =>
          wpAny (model prog w) A (call (.builtin "set.add") [acc, x]) (fun _ s5 => ∃ m, m < n ∧ I m s5) (fun _ _ => False) s4) (fun _ _ => False) s3) (fun _ _ => False) s2) (fun _ _ => False) s1) (fun _ _ => False) s) (n : Nat) (h : I n s) :
    codeAny (model prog w) A (.compLoop (sc2 elt t0 i0 t1 i1 scope pos) 1 it acc env) R s := by
  refine codeAny_loop rfl I (fun n s hI => ?_) n h
  show wpAny _ A ((compTurn (sc2 elt t0 i0 t1 i1 scope pos) 1 it acc env).onRaise (fun x => do noteFrame x env; theTreesLotGoes x)) _ _ s
  refine wpAny_noted ?_
  rw [turn_in]
  refine wpAny_bind (wpAny_standAt (wpAny_bind (thnF (turn n s hI) fun r s1 h1 => ?_)))
  cases r with
  | none => exact wpAny_pure h1
  | some v =>
    refine wpAny_bind (thnF h1 fun _ s2 h2 => ?_)
    refine wpAny_bind (thnF h2 fun _ s3 h3 => ?_)
    simp only [List.forIn_nil]
    refine wpAny_bind (wpAny_pure ?_)
    simp only [if_true]
    exact wpAny_bind (wpAny_bind (thnF h3 fun x s4 h4 => wpAny_bind (wpAny_standAt (wpAny_bind (thnF h4 fun _ s5 h5 => wpAny_pure (wpAny_pure ⟨rfl, h5⟩))))))
theorem start_in (h0 : codeAny (model prog w) A (.compLoop (sc2 elt t0 i0 t1 i1 scope pos) 1 it acc env) R s)
    (h : ∀ (Q : Value → Shared → Prop) (E : Value → Shared → Prop), Q it s → wpAny (model prog w) A (pyIter it) Q E s) : codeAny (model prog w) A (.compStart (sc2 elt t0 i0 t1 i1 scope pos) 1 it acc env) R s := by
  refine codeAny_of_tree ?_
  show wpAny _ _ ((compStart (sc2 elt t0 i0 t1 i1 scope pos) 1 it acc env).onRaise (fun x => do noteFrame x env; standAt theWindowsPlace)) _ _ s
  refine wpAny_notedAt ?_
  unfold compStart
  show wpAny _ _ (ask >>= _) _ _ s
  refine wpAny_bind (wpAny_askSetting (wpAny_ite ?_))
  split
  · first
      | exact wpAny_bind (wpAny_pure (wpAny_pure (And.intro rfl h0)))
      | exact wpAny_pure (And.intro rfl h0)
  · refine wpAny_bind (wpAny_rule ?_)
    show wpAny _ _ (standAt i1.pos >>= _) _ _ s
    exact wpAny_bind (wpAny_standAt (wpAny_bind (h _ _ (wpAny_pure (And.intro rfl h0)))))
end
section
variable {X : Cx} {pins : List (Addr × Obj)} {σ : L2.St} {H : Hp} {s : Shared}
theorem sadd_ok {E : Value → Shared → Prop} {a : Addr} {k : Int} {u : Value} {S : Int → Bool} {n : Nat} {Q : Value → Shared → Prop} (I : Inv X pins σ H s) (ha : H a = some (SetO X.w a S n)) (room : n + 1 < scanBound) (r : RelV (.int k) u)
    (h : ∀ s', Inv X pins σ (upd H a (SetO X.w a (fun j => S j || decide (j = k)) (if S k = true then n else n + 1))) s' → Q .none s') : wpAny (model X.prog X.w) X.A (call (.builtin "set.add") [.ref a, u]) Q E s := by
  obtain ⟨tk, rfl⟩ := r
  refine setR_add (setO_get I ha) room fun h' sb new => ?_
  have he : ∃ u, h'.get? a = some u := by
    have ⟨o, _, _, _, ho, _⟩ := new
    exact ⟨o, ho⟩
  exact h _ (I.write (e := a) (t' := s.toks + 1) (by rw [ha]; trivial) (.inl rfl) (fun b u hb hu => (sb.2 b hb).trans hu) he (setO_new new))
/-- its reading: for each item of the outer walk the inner walk -/
def tSc2 (w : World) (wi : TI) (g : TG) (wi1 : TI) (g1 : TG) (te : TE) (vs vs1 : List Nat) : TE := fun σ H Q => wi σ H fun J H1 => ∀ D, H1 D = none → ∃ W : Nat → Nat → Hp → Prop, (∃ m, W 0 m (upd H1 D (SetO w D (fun _ => false) 0))) ∧ ∀ i m H, W i m H →
  (J.stop i H ∧ Q (.ref D) H) ∨ (J.go i H ∧ ∃ Nx : Hp → Prop, (∀ H', Nx H' → ∃ m', m' < m ∧ W (i + 1) m' H') ∧ ∀ x H', J.yld i H x H' → g x (wipe σ vs) H' fun σ2 H2 => wipe σ2 vs = wipe σ vs ∧
    wi1 σ2 H2 fun J1 H4 => ∃ W1 : Nat → Nat → Hp → Prop, (∃ m, W1 0 m H4) ∧ ∀ j k H, W1 j k H →
      (J1.stop j H ∧ Nx H) ∨ (J1.go j H ∧ ∃ Nx1 : Hp → Prop, (∀ H', Nx1 H' → ∃ k', k' < k ∧ W1 (j + 1) k' H') ∧ ∀ x H', J1.yld j H x H' → g1 x (wipe σ2 vs1) H' fun σ3 H5 => wipe σ3 vs1 = wipe σ2 vs1 ∧
        te σ3 H5 fun y H7 => ∃ (c : Int) (S : Int → Bool) (n : Nat), y = .int c ∧ H7 D = some (SetO w D S n) ∧ n + 1 < scanBound ∧ Nx1 (upd H7 D (SetO w D (fun j => S j || decide (j = c)) (if S c = true then n else n + 1)))))
theorem pe_sc2 {elt tg iter tg1 iter1 : Expr} {scope : Scope} {own : List (Str × Nat)} {vs1 : List Nat} {pos : Pos} {wi wi1 : TI} {g g1 : TG} {te : TE} (hc : X.calm = true) (hN : X.N.Nodup) (hi : PI X tg iter wi) (ok : BlkOk X.N X.env.scope scope own) (hv : ∀ i ∈ vs1, i ∈ own.map (·.2))
    (hg : ∀ (s : Shared) (H : Hp) (C : Addr) (cl : List (Str × Addr)) (fp : List Addr), PG (X.blk s H scope (compEnvC scope cl C X.env) fp) tg g)
    (hi1 : ∀ (s : Shared) (H : Hp) (C : Addr) (cl : List (Str × Addr)) (fp : List Addr), PI (X.blk s H scope (compEnvC scope cl C X.env) fp) tg1 iter1 wi1)
    (hg1 : ∀ (s : Shared) (H : Hp) (C : Addr) (cl : List (Str × Addr)) (fp : List Addr), PG (X.blk s H scope (compEnvC scope cl C X.env) fp) tg1 g1)
    (he : ∀ (s : Shared) (H : Hp) (C : Addr) (cl : List (Str × Addr)) (fp : List Addr), PE (X.blk s H scope (compEnvC scope cl C X.env) fp) elt te) (hs : ∀ x, foldedSetIterable iter X.env x = pure x := by intro _; rfl) (hs1 : ∀ env x, foldedSetIterable iter1 env x = pure x := by intro _ _; rfl) :
    PE X (sc2 elt tg iter tg1 iter1 scope pos) (tSc2 X.w wi g wi1 g1 te (own.map (·.2)) vs1) := by
  refine ⟨fun pins s σ H Q I h => ?_⟩
  rw [PpSet.eval_SetComp]
  have hfree : ∀ y ∈ scope.names, y.2 = .free → ∃ c, X.env.cells.lookup y.1 = some c := fun y hy e => (ok.free y hy e).elim (fun k => I.ok.has _ (.inl k)) fun k => I.ok.has _ (.inr k)
  refine wpAny_comprehension_free rfl hs (closure_ok hfree) ok.kind (fun y hy e => by rw [ok.uniq y hy, e]) (thn (hi.run pins s σ H _ I h) fun xv s1 hx => thn hx fun itv s2 h2 => ?_)
  obtain ⟨it, fp, tn, J, H2, rfl, I2, T, st2, f2, q⟩ := h2
  refine PpSet.newSet_ok (newEnv_comp ?_)
  have hDn : H2 s2.heap.objs.size = none := I2.hok.fresh (Nat.le_refl _)
  obtain ⟨W, ⟨m0, w0⟩, turn⟩ := q _ hDn
  generalize hob : ({ cls := .type "set", dict := none, data := .set #[] 0 (.fresh 0 0 (!X.w.params.followText "set-order")) } : Obj) = ob
  have I3 : Inv X pins σ (upd H2 s2.heap.objs.size (SetO X.w s2.heap.objs.size (fun _ => false) 0)) { s2 with heap := s2.heap.push ob, toks := s2.toks } := I2.laid (fun b o e => Heap.get?_push_of_some _ e) (Nat.le_refl _) (setO_new (by rw [← hob]; exact setR_fresh X.w))
  have sz : ∀ b ∈ fp, b < s2.heap.objs.size := fun b hb => let ⟨_, e, _⟩ := T.obj _ _ st2 b hb; Heap.lt_size e
  have st3 : tn 0 (s2.heap.push ob) := T.keep _ _ _ st2 fun b _ o e => Heap.get?_push_of_some _ e
  have f3 : ∀ b ∈ fp, FpOk X pins (upd H2 s2.heap.objs.size (SetO X.w s2.heap.objs.size (fun _ => false) 0)) b ∧ b < (s2.heap.push ob).objs.size := fun b hb => by
    refine ⟨⟨?_, (f2 b hb).2⟩, by rw [Heap.size_push]; exact Nat.lt_succ_of_lt (sz b hb)⟩
    rw [upd_ne (Nat.ne_of_lt (sz b hb))]
    exact (f2 b hb).1
  generalize s2.heap.objs.size = D at hDn turn w0 I3 f3 ⊢
  generalize hH3 : upd H2 D (SetO X.w D (fun _ => false) 0) = H3 at I3 w0 f3
  generalize hs3 : ({ s2 with heap := s2.heap.push ob, toks := s2.toks } : Shared) = s3 at I3 ⊢
  have h3 : s3.heap = s2.heap.push ob := by rw [← hs3]
  rw [← h3] at st3
  have f3 : ∀ b ∈ fp, FpOk X pins H3 b ∧ b < s3.heap.objs.size := fun b hb => by rw [h3]; exact f3 b hb
  have I4 := block_start I3 ok hN f3
  have pg := hg s3 H3 s3.heap.objs.size (cellsFrom (s3.heap.objs.size + 1) scope.names (cloFrom X.env.cells scope.names [])) fp
  have pi1 := hi1 s3 H3 s3.heap.objs.size (cellsFrom (s3.heap.objs.size + 1) scope.names (cloFrom X.env.cells scope.names [])) fp
  have pg1 := hg1 s3 H3 s3.heap.objs.size (cellsFrom (s3.heap.objs.size + 1) scope.names (cloFrom X.env.cells scope.names [])) fp
  have pe := he s3 H3 s3.heap.objs.size (cellsFrom (s3.heap.objs.size + 1) scope.names (cloFrom X.env.cells scope.names [])) fp
  have nfp : ∀ b ∈ fp, H3 b = none := fun b hb => (f3 b hb).1.1
  show codeAny _ _ (.compStart (sc2 elt tg iter tg1 iter1 scope pos) 0 (.ref it) (.ref D) (compEnvC scope (cellsFrom (s3.heap.objs.size + 1) scope.names (cloFrom X.env.cells scope.names [])) s3.heap.objs.size X.env)) _ { s3 with heap := pushCells (s3.heap.push { cls := .type "dict", data := .dict #[] }) scope.names }
  have cL : (compEnvC scope (cellsFrom (s3.heap.objs.size + 1) scope.names (cloFrom X.env.cells scope.names [])) s3.heap.objs.size X.env).locals = s3.heap.objs.size := rfl
  generalize compEnvC scope (cellsFrom (s3.heap.objs.size + 1) scope.names (cloFrom X.env.cells scope.names [])) s3.heap.objs.size X.env = ce at I4 pg pi1 pg1 pe cL ⊢
  have st4 : tn 0 (pushCells (s3.heap.push { cls := .type "dict", data := .dict #[] }) scope.names) := T.keep _ _ _ st3 fun b _ o e => pushCells_keeps _ _ _ _ (Heap.get?_push_of_some _ e)
  generalize hs4 : ({ s3 with heap := pushCells (s3.heap.push { cls := .type "dict", data := .dict #[] }) scope.names } : Shared) = s4 at I4 ⊢
  have st4 : tn 0 s4.heap := by rw [← hs4]; exact st4
  have stat : ∀ {σ' : L2.St} {H' : Hp} {s' : Shared}, Inv (X.blk s3 H3 scope ce fp) [] σ' H' s' → (∀ b ∈ fp, H' b = none) → ∀ b ∈ fp, FpOk (X.blk s3 H3 scope ce fp) [] H' b := fun {σ' H' s'} I' hn b hb =>
    ⟨hn b hb, (I'.ok.exf b hb).1, I'.ok.exfs b hb, .inl hb, fun x c e => (I'.ok.exf b hb).2 x c e, fun p hp => absurd (show p ∈ ([] : List (Addr × Obj)) ++ [] from hp) (by simp)⟩
  refine PpSet.codeAny_compStart_set ?loop (T.self X.A 0 _ _ _ st4 ?loop)
  refine loop_out (hs1 ce) (fun n s' => ∃ i H', Inv (X.blk s3 H3 scope ce fp) [] (wipe σ (own.map (·.2))) H' s' ∧ tn i s'.heap ∧ (∀ b ∈ fp, H' b = none) ∧ W i n H') ?_ m0 ⟨0, H3, I4, st4, nfp, w0⟩
  rintro n s5 ⟨i, H5, I5, st5, n5, w5⟩
  rcases turn i n H5 w5 with ⟨stop, qq⟩ | ⟨go, Nx, hNx, step⟩
  · refine thnF (T.done (X.blk s3 H3 scope ce fp) rfl rfl rfl hc i [] s5 _ H5 (fun _ _ => False) I5 (stat I5 n5) st5 stop) fun r s6 ⟨hr, I6⟩ => ?_
    subst hr
    have I7 : Inv X pins σ H5 s6 := I3.call' (ch := fp) I6.os I6.base I6.hok I6.bare fun b hb => ⟨(f3 b hb).1.2.2.2.1, (f3 b hb).1.2.1, (f3 b hb).1.2.2.2.2.1, (f3 b hb).1.2.2.2.2.2⟩
    have nC : H5 ce.locals = none := I6.free
    obtain ⟨m, hn, _⟩ := I6.loc
    have hn : s6.heap.Ns ce.locals m := hn
    rw [cL] at nC hn
    obtain ⟨f0, f1, f2, f3, f4, f5⟩ := I3.fpOk (Nat.le_refl _) nC
    exact ⟨m, hn, fun h'' sb => ⟨.ref D, H5, I7.turned (t' := s6.toks) (fun b o hb e => (sb.2 b hb).trans e) f0 f1 f3 f4 f5, rfl, qq⟩⟩
  · refine thnF (T.item (X.blk s3 H3 scope ce fp) rfl rfl rfl hc i [] s5 _ H5 (fun _ _ => False) I5 (stat I5 n5) st5 go) fun r s6 ⟨u, hr, h6⟩ => ?_
    subst hr
    refine thnF h6 fun _ s7 ⟨x, H7, I7, r7, y7, st7, n7⟩ => ?_
    refine thnF (pg.run _ s7 _ H7 x u _ (I7.pinned (stat I7 n7) (T.obj _ _ st7)) r7 (step x H7 y7)) fun _ s8 ⟨σ8, H8, I8, hw8, q8⟩ => ?_
    refine thnF (pi1.run _ s8 σ8 H8 _ I8 q8) fun xv s10 hx => thnF hx fun itv s11 h11 => ?_
    obtain ⟨it1, fp1, tn1, J1, H11, rfl, I11, T1, st11, f11, W1, ⟨m1, w1⟩, turn1⟩ := h11
    have fin : ∀ {σ9 : L2.St} {s' : Shared} {H' : Hp}, Inv (X.blk s3 H3 scope ce fp) ([] ++ pinsAt fp s7.heap) σ9 H' s' → (wipe σ (own.map (·.2))).length = σ9.length → (∀ (j : Nat) v, (wipe σ (own.map (·.2)))[j]? = some (some v) → σ9[j]? = some (some v)) → Nx H' →
        ∃ m, m < n ∧ ∃ i H', Inv (X.blk s3 H3 scope ce fp) [] (wipe σ (own.map (·.2))) H' s' ∧ tn i s'.heap ∧ (∀ b ∈ fp, H' b = none) ∧ W i m H' := fun {σ9 s' H'} I' hl hk nx => by
      obtain ⟨m', hm, w'⟩ := hNx H' nx
      have pin' : ∀ b ∈ fp, ∀ o, s7.heap.get? b = some o → s'.heap.get? b = some o ∧ H' b = none := fun b hb o e =>
        let z := I'.pin (b, o) (List.mem_append_right _ (List.mem_append_right _ (mem_pinsAt hb e)))
        ⟨z.1, z.2.1⟩
      refine ⟨m', hm, i + 1, H', (I'.unpinned (pins := [])).weak hl hk, T.keep _ _ _ st7 fun b hb o e => (pin' b hb o e).1, fun b hb => ?_, w'⟩
      obtain ⟨o, e, _⟩ := T.obj _ _ st7 b hb
      exact (pin' b hb o e).2
    have hl8 : (wipe σ (own.map (·.2))).length = σ8.length := by rw [← hw8, wipe_length]
    have hk9 : ∀ (j : Nat) v, (wipe σ (own.map (·.2)))[j]? = some (some v) → (wipe σ8 vs1)[j]? = some (some v) := fun j v e => by
      rw [← hw8] at e
      obtain ⟨e1, e2⟩ := wipe_some e
      rw [wipe_out fun z => e2 (hv j z)]
      exact e1
    have stat1 : ∀ {H' : Hp}, (∀ b ∈ fp1, H' b = none) → ∀ b ∈ fp1, FpOk (X.blk s3 H3 scope ce fp) ([] ++ pinsAt fp s7.heap) H' b := fun hn b hb => ⟨hn b hb, (f11 b hb).2⟩
    refine start_in ?inner fun Q' E' hq => T1.self X.A 0 _ _ _ st11 hq
    refine loop_in (fun k s' => ∃ j H', Inv (X.blk s3 H3 scope ce fp) ([] ++ pinsAt fp s7.heap) (wipe σ8 vs1) H' s' ∧ tn1 j s'.heap ∧ (∀ b ∈ fp1, H' b = none) ∧ W1 j k H') ?_ m1 ⟨0, H11, I11.weak (wipe_length _ _) (fun j v e => (wipe_some e).1), st11, fun b hb => (f11 b hb).1, w1⟩
    rintro k s12 ⟨j, H12, I12, st12, n12, w12⟩
    rcases turn1 j k H12 w12 with ⟨stop1, nx1⟩ | ⟨go1, Nx1, hNx1, step1⟩
    · refine thnF (T1.done (X.blk s3 H3 scope ce fp) rfl rfl rfl hc j _ s12 (wipe σ8 vs1) H12 (fun _ _ => False) I12 (stat1 n12) st12 stop1) fun r s13 ⟨hr, I13⟩ => ?_
      subst hr
      exact fin I13 (hl8.trans (wipe_length σ8 vs1).symm) hk9 nx1
    · refine thnF (T1.item (X.blk s3 H3 scope ce fp) rfl rfl rfl hc j _ s12 (wipe σ8 vs1) H12 (fun _ _ => False) I12 (stat1 n12) st12 go1) fun r s13 ⟨u1, hr, h13⟩ => ?_
      subst hr
      refine thnF h13 fun _ s14 ⟨x1, H14, I14, r14, y14, st14, n14⟩ => ?_
      refine thnF (pg1.run _ s14 (wipe σ8 vs1) H14 x1 u1 _ (I14.pinned (stat1 n14) (T1.obj _ _ st14)) r14 (step1 x1 H14 y14)) fun _ s15 ⟨σ15, H15, I15, hw15, q15⟩ => ?_
      refine thnF (pe.run _ s15 σ15 H15 _ I15 q15) fun z s17 ⟨yv, H17, I17, r17, c, S, nn, ey, hD17, hz17, nx⟩ => ?_
      subst ey
      refine sadd_ok (X := X.blk s3 H3 scope ce fp) I17 hD17 hz17 r17 fun s18 I18 => ?_
      obtain ⟨m', hm, w'⟩ := hNx1 _ nx
      have pin' : ∀ b ∈ fp1, ∀ o, s14.heap.get? b = some o → s18.heap.get? b = some o ∧ _ := fun b hb o e =>
        let z := I18.pin (b, o) (List.mem_append_right _ (List.mem_append_right _ (mem_pinsAt hb e)))
        ⟨z.1, z.2.1⟩
      refine ⟨m', hm, j + 1, _, I18.unpinned.weak (by rw [← hw15, wipe_length]) (fun i v e => by rw [← hw15] at e; exact (wipe_some e).1), T1.keep _ _ _ st14 fun b hb o e => (pin' b hb o e).1, fun b hb => ?_, w'⟩
      obtain ⟨o, e, _⟩ := T1.obj _ _ st14 b hb
      exact (pin' b hb o e).2
end
end Ky

namespace Ky
open PySem PySem.Spec PyProof.Rows L2
theorem _root_.L2.Room.u1 {k : Nat} {A : Around} (r : Room k A) : A.units + 1 < cLine := by have := r.un; omega
theorem _root_.L2.Room.u65 {k : Nat} {A : Around} (r : Room k A) : A.units + 65 < cLine := by have := r.un; omega
theorem wipe_one {σ : L2.St} {j : Nat} {x : Option V} : wipe ((wipe σ [j]).set j x) [j] = wipe σ [j] := by
  simp [wipe, List.set_set]
/-- all or any, walked -/
theorem g_walk {J : It} {n : Nat} {xv : Nat → V} {te : TE} {σ : L2.St} {j : Nat} {H0 : Hp} {cont : Bool} {Q : VK} (bf : Nat → Bool) (Hs : Hp → Prop) (h0 : Hs H0) (hgo : ∀ i H, i < n → Hs H → J.go i H) (hy : ∀ i H x H', i < n → Hs H → J.yld i H x H' → H' = H ∧ x = xv i)
    (hstop : ∀ H, Hs H → J.stop n H) (step : ∀ i H (k : VK), i < n → Hs H → (∀ H', Hs H' → k (.bl (bf i)) H') → te ((wipe σ [j]).set j (some (xv i))) H k)
    (fin : ∀ H, Hs H → Q (.bl (if cont = true then (List.range n).all bf else (List.range n).any bf)) H) : ∃ W : Nat → Nat → Hp → Prop, (∃ m, W 0 m H0) ∧ GTurn J (gName j) te (wipe σ [j]) [j] Q cont W := by
  refine ⟨fun i m H => m = n - i ∧ i ≤ n ∧ Hs H ∧ ∀ k, k < i → bf k = cont, ⟨n, by simp, Nat.zero_le _, h0, fun k hk => absurd hk (Nat.not_lt_zero _)⟩, ?_⟩
  rintro i m H ⟨rfl, hi, hs, hb⟩
  by_cases hlt : i < n
  · refine .inr ⟨hgo i H hlt hs, fun x H' y => ?_⟩
    obtain ⟨rfl, rfl⟩ := hy i H x H' hlt hs y
    refine ⟨wipe_one, step i H' _ hlt hs fun H2 hs2 => ⟨bf i, rfl, ?_⟩⟩
    by_cases hc : bf i = cont
    · rw [if_pos hc]
      refine ⟨n - (i + 1), by omega, rfl, hlt, hs2, fun k hk => ?_⟩
      by_cases e : k = i
      · rw [e]; exact hc
      · exact hb k (by omega)
    · rw [if_neg hc]
      have q := fin H2 hs2
      have hn := not_of_ne hc
      have e : (if cont = true then (List.range n).all bf else (List.range n).any bf) = !cont := by
        cases cont with
        | true =>
          rw [if_pos rfl]
          refine Bool.eq_false_iff.mpr fun z => ?_
          rw [List.all_eq_true.mp z i (List.mem_range.mpr hlt)] at hn
          cases hn
        | false =>
          rw [if_neg Bool.false_ne_true]
          exact List.any_eq_true.mpr ⟨i, List.mem_range.mpr hlt, hn⟩
      rw [e] at q
      exact q
  · have ei : i = n := by omega
    subst ei
    refine .inl ⟨hstop H hs, ?_⟩
    have q := fin H hs
    have e : (if cont = true then (List.range i).all bf else (List.range i).any bf) = cont := by
      cases cont with
      | true =>
        rw [if_pos rfl]
        exact List.all_eq_true.mpr fun k hk => hb k (List.mem_range.mp hk)
      | false =>
        rw [if_neg Bool.false_ne_true]
        refine Bool.eq_false_iff.mpr fun z => ?_
        obtain ⟨k, hk, hk2⟩ := List.any_eq_true.mp z
        rw [hb k (List.mem_range.mp hk)] at hk2
        cases hk2
    rw [e] at q
    exact q
theorem g_range {lo : Int} {n : Nat} {te : TE} {σ : L2.St} {j : Nat} {H0 : Hp} {cont : Bool} {Q : VK} (bf : Nat → Bool) (Hs : Hp → Prop) (h0 : Hs H0)
    (step : ∀ i H (k : VK), i < n → Hs H → (∀ H', Hs H' → k (.bl (bf i)) H') → te ((wipe σ [j]).set j (some (.int (lo + i)))) H k)
    (fin : ∀ H, Hs H → Q (.bl (if cont = true then (List.range n).all bf else (List.range n).any bf)) H) : ∃ W : Nat → Nat → Hp → Prop, (∃ m, W 0 m H0) ∧ GTurn (Itr lo n) (gName j) te (wipe σ [j]) [j] Q cont W :=
  g_walk (xv := fun i => .int (lo + i)) bf Hs h0 (fun i H h _ => h) (fun i H x H' _ _ h => h) (fun H _ => Nat.le_refl n) step fin
theorem g_list {K : PySem.W.Frag} {a : Addr} {xs : List V} {te : TE} {σ : L2.St} {j : Nat} {H0 : Hp} {cont : Bool} {Q : VK} (bf : Nat → Bool) (Hs : Hp → Prop) (h0 : Hs H0) (hl : ∀ H, Hs H → SqL K H a xs)
    (step : ∀ i x H (k : VK), xs[i]? = some x → Hs H → (∀ H', Hs H' → k (.bl (bf i)) H') → te ((wipe σ [j]).set j (some x)) H k)
    (fin : ∀ H, Hs H → Q (.bl (if cont = true then (List.range xs.length).all bf else (List.range xs.length).any bf)) H) : ∃ W : Nat → Nat → Hp → Prop, (∃ m, W 0 m H0) ∧ GTurn (Itl K a) (gName j) te (wipe σ [j]) [j] Q cont W :=
  g_walk (xv := fun i => xs.getD i .non) bf Hs h0 (fun i H h hs => ⟨xs, xs[i], hl H hs, List.getElem?_eq_getElem h⟩) (fun i H x H' h hs q => by
    obtain ⟨e, q⟩ := q
    subst e
    refine ⟨rfl, ?_⟩
    rw [List.getD_eq_getElem?_getD, q xs (hl _ hs)] <;> rfl) (fun H hs => ⟨xs, hl H hs, Nat.le_refl _⟩) (fun i H k h hs hk => step i _ H k (by rw [List.getD_eq_getElem?_getD, List.getElem?_eq_getElem h] <;> rfl) hs hk) fin
theorem g_tup {K : PySem.W.Frag} {a : Addr} {xs : List V} {te : TE} {σ : L2.St} {j : Nat} {H0 : Hp} {cont : Bool} {Q : VK} (bf : Nat → Bool) (Hs : Hp → Prop) (h0 : Hs H0) (hl : ∀ H, Hs H → SqT K H a xs)
    (step : ∀ i x H (k : VK), xs[i]? = some x → Hs H → (∀ H', Hs H' → k (.bl (bf i)) H') → te ((wipe σ [j]).set j (some x)) H k)
    (fin : ∀ H, Hs H → Q (.bl (if cont = true then (List.range xs.length).all bf else (List.range xs.length).any bf)) H) : ∃ W : Nat → Nat → Hp → Prop, (∃ m, W 0 m H0) ∧ GTurn (Itt K a) (gName j) te (wipe σ [j]) [j] Q cont W :=
  g_walk (xv := fun i => xs.getD i .non) bf Hs h0 (fun i H h hs => ⟨xs, xs[i], hl H hs, List.getElem?_eq_getElem h⟩) (fun i H x H' h hs q => by
    obtain ⟨e, q⟩ := q
    subst e
    refine ⟨rfl, ?_⟩
    rw [List.getD_eq_getElem?_getD, q xs (hl _ hs)] <;> rfl) (fun H hs => ⟨xs, hl H hs, Nat.le_refl _⟩) (fun i H k h hs hk => step i _ H k (by rw [List.getD_eq_getElem?_getD, List.getElem?_eq_getElem h] <;> rfl) hs hk) fin
/-! ### more steps of a reading -/
section
variable {σ : L2.St} {H : Hp} {Q : VK} {ta tb tc td : TE} {K : PySem.W.Frag} {x y : V}
theorem w_chain {r r' : R2} (q : ta σ H fun x H1 => tb σ H1 fun y H2 => r x y H2 fun z H3 => ∃ k, z = .bl k ∧ (if k = true then tc σ H3 fun w' H4 => r' y w' H4 Q else Q (.bl false) H3)) : tChain r r' ta tb tc σ H Q := q
theorem w_isi_ii {n : Int} (q : Q (.bl true) H) : rIsi K [.int n, .ty "int"] H Q := ⟨_, _, _, _, true, rfl, .ty _, .base (.int n), kit_ty (by decide +kernel), q⟩
theorem w_isi_ib {n : Int} (q : Q (.bl false) H) : rIsi K [.int n, .ty "bool"] H Q := ⟨_, _, _, _, false, rfl, .ty _, .base (.int n), kit_ty (by decide +kernel), q⟩
theorem w_isi_it {n : Int} (q : Q (.bl false) H) : rIsi K [.int n, .ty "tuple"] H Q := ⟨_, _, _, _, false, rfl, .ty _, .base (.int n), kit_ty (by decide +kernel), q⟩
theorem w_isi_st {z : Str} (q : Q (.bl false) H) : rIsi K [.str z, .ty "tuple"] H Q := ⟨_, _, _, _, false, rfl, .ty _, .base (.str z), kit_ty (by decide +kernel), q⟩
theorem w_isi_tt {a : Addr} {xs : List V} (h : H a = some (.tup xs)) (q : Q (.bl true) H) : rIsi K [.ref a, .ty "tuple"] H Q := ⟨_, _, _, _, true, rfl, .ty _, .base (.tup h), kit_ty (by decide +kernel), q⟩
theorem w_gRd {P0 : Addr} {wi : TI} {g : TG} {vs : List Nat} {cont : Bool} (q : wi σ H fun J H1 => GxR.TabG H1 P0 ∧ ∀ H2, GxR.Tabbed P0 H1 H2 → ∃ W : Nat → Nat → Hp → Prop, (∃ m, W 0 m H2) ∧ GTurn J g ta (wipe σ vs) vs Q cont W) : gRd P0 wi g ta vs cont σ H Q := q
theorem w_andV (q : ta σ H fun x H1 => ∃ c, x = .bl c ∧ if c = true then tb σ H1 Q else Q (.bl false) H1) : tAndV ta tb σ H Q := q
theorem w_orV (q : ta σ H fun x H1 => ∃ c, x = .bl c ∧ if c = true then Q (.bl true) H1 else tb σ H1 Q) : tOrV ta tb σ H Q := q
theorem w_notV (q : ta σ H fun x H1 => ∃ c, x = .bl c ∧ Q (.bl (!c)) H1) : tNotV ta σ H Q := q
theorem w_din {ty : TE} (q : ty σ H fun y H1 => td σ H1 fun x H2 => ∃ a o, x = .ref a ∧ DGet H2 a y o ∧ Q (.bl o.isSome) H2) : tDIn ty td σ H Q := q
end
/-! ### the rules with the fragment told: inside a block or a generator's frame the context's own letter may not be left -/
section
variable {X : Cx} {K : PySem.W.Frag}
theorem opK {op : Value → Value → Sem Value} {r : PySem.W.Frag → R2} (hK : X.K = K) (h : OpR X op (r X.K)) : OpR X op (r K) := by subst hK; exact h
theorem ix_listK (hK : X.K = K) : IxR X (rIxL K) := by subst hK; exact ix_list
theorem ix_tupK (hK : X.K = K) : IxR X (rIxT K) := by subst hK; exact ix_tup
theorem sl_listK (hK : X.K = K) : SlR X (rSlL K) := by subst hK; exact sl_list
theorem sl_tupK (hK : X.K = K) : SlR X (rSlT K) := by subst hK; exact sl_tup
theorem pi_listK {tg l : Expr} {tl : TE} (hK : X.K = K) (hl : PE X l tl) : PI X tg l (iList K tl) := by subst hK; exact pi_list hl
theorem pi_tupK {tg l : Expr} {tl : TE} (hK : X.K = K) (hl : PE X l tl) : PI X tg l (iTup K tl) := by subst hK; exact pi_tup hl
end
end Ky

namespace Ky
open PySem PySem.Spec PyProof.Rows L2
/-! ### distinct items, in their first order -/
section
variable {κ : Type} [DecidableEq κ]
def dstep (acc : List κ) (k : κ) : List κ := if k ∈ acc then acc else acc ++ [k]
def dd (ls : List κ) : List κ := ls.foldl dstep []
def setDict (ks : List κ) : List (κ × V) := ks.map fun k => (k, V.bl true)
theorem dd_snoc (ls : List κ) (k : κ) : dd (ls ++ [k]) = dstep (dd ls) k := by unfold dd; rw [List.foldl_append]; rfl
theorem setDict_len (ks : List κ) : (setDict ks).length = ks.length := List.length_map ..
theorem putK_set (ks : List κ) (k : κ) : putK (setDict ks) k (V.bl true) = setDict (dstep ks k) := by
  unfold putK dstep
  by_cases h : k ∈ ks
  · rw [if_pos h, if_pos (by
      unfold setDict
      rw [List.any_map]
      exact List.any_eq_true.mpr ⟨k, h, by simp⟩)]
    unfold setDict
    rw [List.map_map]
    refine List.map_congr_left fun x _ => ?_
    show (if x = k then (x, V.bl true) else (x, V.bl true)) = _
    by_cases e : x = k
    · rw [if_pos e]
    · rw [if_neg e]
  · rw [if_neg h, if_neg (by
      unfold setDict
      rw [List.any_map]
      intro z
      obtain ⟨x, hx, e⟩ := List.any_eq_true.mp z
      have e : x = k := by simpa using e
      rw [e] at hx
      exact h hx)]
    unfold setDict
    rw [List.map_append] <;> rfl
theorem valV_set (ks : List κ) (k : κ) : (valV (setDict ks) k).isSome = decide (k ∈ ks) := by
  induction ks with
  | nil => rfl
  | cons x ks ih =>
    unfold setDict at ih ⊢
    rw [List.map_cons]
    by_cases e : x = k
    · rw [valV_pos (p := (x, V.bl true)) e]
      rw [e]
      simp
    · rw [valV_neg (p := (x, V.bl true)) e, ih]
      exact decide_eq_decide.mpr ⟨fun h => List.mem_cons_of_mem _ h, fun h => (List.mem_cons.mp h).resolve_left fun z => e z.symm⟩
theorem mem_dstep {acc : List κ} {k x : κ} : x ∈ dstep acc k ↔ x ∈ acc ∨ x = k := by
  unfold dstep
  by_cases h : k ∈ acc
  · rw [if_pos h]
    exact ⟨.inl, fun z => z.elim id fun e => e ▸ h⟩
  · rw [if_neg h, List.mem_append, List.mem_singleton]
theorem mem_foldl {x : κ} : ∀ {ls acc : List κ}, x ∈ ls.foldl dstep acc ↔ x ∈ acc ∨ x ∈ ls
  | [], acc => by simp
  | k :: ls, acc => by
    rw [List.foldl_cons, mem_foldl, mem_dstep, List.mem_cons, or_assoc]
theorem mem_dd {ls : List κ} {x : κ} : x ∈ dd ls ↔ x ∈ ls := by unfold dd; rw [mem_foldl]; simp
theorem nodup_dstep {acc : List κ} {k : κ} (h : acc.Nodup) : (dstep acc k).Nodup := by
  unfold dstep
  by_cases e : k ∈ acc
  · rw [if_pos e]; exact h
  · rw [if_neg e]
    exact List.nodup_append.mpr ⟨h, List.nodup_cons.mpr ⟨by simp, List.nodup_nil⟩, fun a ha b hb z => by
      rw [List.mem_singleton.mp hb] at z
      exact e (z ▸ ha)⟩
theorem nodup_foldl : ∀ {ls acc : List κ}, acc.Nodup → (ls.foldl dstep acc).Nodup
  | [], _, h => h
  | k :: ls, acc, h => by
    rw [List.foldl_cons]
    exact nodup_foldl (nodup_dstep h)
theorem nodup_dd (ls : List κ) : (dd ls).Nodup := nodup_foldl List.nodup_nil
theorem len_dstep (acc : List κ) (k : κ) : (dstep acc k).length ≤ acc.length + 1 := by
  unfold dstep
  by_cases h : k ∈ acc
  · rw [if_pos h]; omega
  · rw [if_neg h, List.length_append]; exact Nat.le_refl _
theorem len_foldl : ∀ (ls acc : List κ), (ls.foldl dstep acc).length ≤ acc.length + ls.length
  | [], _ => Nat.le_refl _
  | k :: ls, acc => by
    have h := len_foldl ls (dstep acc k)
    have h2 := len_dstep acc k
    rw [List.foldl_cons, List.length_cons]
    omega
theorem len_dd (ls : List κ) : (dd ls).length ≤ ls.length := by have := len_foldl ls ([] : List κ); simpa [dd] using this
theorem dd_map {μ : Type} [DecidableEq μ] {f : κ → μ} (hf : ∀ a b, f a = f b → a = b) (ls : List κ) : dd (ls.map f) = (dd ls).map f := by
  have aux : ∀ (ls acc : List κ), (ls.map f).foldl dstep (acc.map f) = (ls.foldl dstep acc).map f := by
    intro ls
    induction ls with
    | nil => intro acc; rfl
    | cons k ls ih =>
      intro acc
      rw [List.map_cons, List.foldl_cons, List.foldl_cons, ← ih]
      congr 1
      unfold dstep
      by_cases h : k ∈ acc
      · rw [if_pos h, if_pos (List.mem_map.mpr ⟨k, h, rfl⟩)]
      · rw [if_neg h, if_neg (fun z => by
          obtain ⟨x, hx, e⟩ := List.mem_map.mp z
          exact h (hf _ _ e ▸ hx)), List.map_append] <;> rfl
  exact aux ls []
end
/-! ### sorting by data -/
section
variable {β γ : Type}
def srtBy (g : β → PyData) (bs : List β) : List β := bs.mergeSort (PySem.W.dataLe false g)
theorem sortD_map (f : β → V) (g : β → PyData) (bs : List β) : sortD (bs.map f) (bs.map g) = (srtBy g bs).map f := by
  unfold sortD srtBy
  have e : (bs.map f).zip (bs.map g) = bs.map fun b => (f b, g b) := by
    induction bs with
    | nil => rfl
    | cons b bs ih => rw [List.map_cons, List.map_cons, List.zip_cons_cons, ih] <;> rfl
  rw [e, ← PySem.W.sort_maps (fun b => (f b, g b)) (r := PySem.W.dataLe false g) (s := PySem.W.dataLe false fun p : V × PyData => p.2) (fun _ _ _ _ => rfl), List.map_map]
  rfl
theorem srtBy_map (h : β → γ) (g : γ → PyData) (bs : List β) : (srtBy (fun b => g (h b)) bs).map h = srtBy g (bs.map h) :=
  PySem.W.sort_maps h (r := PySem.W.dataLe false fun b => g (h b)) (s := PySem.W.dataLe false g) fun _ _ _ _ => rfl
theorem srtBy_perm (g : β → PyData) (bs : List β) : (srtBy g bs).Perm bs := List.mergeSort_perm _ _
theorem mem_srtBy {g : β → PyData} {bs : List β} {x : β} : x ∈ srtBy g bs ↔ x ∈ bs := (srtBy_perm g bs).mem_iff
theorem srtBy_pair (g : β → PyData) (bs : List β) : (srtBy g bs).Pairwise fun a b => PySem.W.dataLe false g a b = true :=
  PySem.W.sort_pairwise (PySem.W.sortLe_total _ _ _) bs
theorem srtBy_congr {g g' : β → PyData} {bs : List β} (h : ∀ a ∈ bs, ∀ b ∈ bs, PySem.W.dataLt (g a) (g b) = PySem.W.dataLt (g' a) (g' b)) : srtBy g bs = srtBy g' bs :=
  PySem.W.sort_congr fun a ha b hb => by
    show (!PySem.W.dataLt (g b) (g a)) = (!PySem.W.dataLt (g' b) (g' a))
    rw [h b hb a ha]
end
end Ky

namespace Ky
open PySem PySem.Spec PyProof.Rows L2
/-- any comprehension's walk -/
theorem c_walk {J : It} {n : Nat} {xv : Nat → V} {Body : V → Hp → (Hp → Prop) → Prop} {Qd : Hp → Prop} {H0 : Hp} (Pv : Nat → Hp → Prop) (h0 : Pv 0 H0) (hgo : ∀ i H, i < n → Pv i H → J.go i H) (hy : ∀ i H x H', i < n → Pv i H → J.yld i H x H' → H' = H ∧ x = xv i)
    (hstop : ∀ H, Pv n H → J.stop n H) (step : ∀ i H, i < n → Pv i H → Body (xv i) H (Pv (i + 1))) (fin : ∀ H, Pv n H → Qd H) :
    ∃ W : Nat → Nat → Hp → Prop, (∃ m, W 0 m H0) ∧ ∀ i m H, W i m H → (J.stop i H ∧ Qd H) ∨ (J.go i H ∧ ∃ Nx : Hp → Prop, (∀ H', Nx H' → ∃ m', m' < m ∧ W (i + 1) m' H') ∧ ∀ x H', J.yld i H x H' → Body x H' Nx) := by
  refine ⟨fun i m H => m = n - i ∧ i ≤ n ∧ Pv i H, ⟨n, by simp, Nat.zero_le _, h0⟩, ?_⟩
  rintro i m H ⟨rfl, hi, p⟩
  by_cases hlt : i < n
  · refine .inr ⟨hgo i H hlt p, Pv (i + 1), fun H' p' => ⟨n - (i + 1), by omega, rfl, hlt, p'⟩, fun x H' y => ?_⟩
    obtain ⟨rfl, rfl⟩ := hy i H x H' hlt p y
    exact step i H' hlt p
  · have e : i = n := by omega
    subst e
    exact .inl ⟨hstop H p, fin H p⟩
theorem c_list {K : PySem.W.Frag} {a : Addr} {xs : List V} {Body : V → Hp → (Hp → Prop) → Prop} {Qd : Hp → Prop} {H0 : Hp} (Pv : Nat → Hp → Prop) (h0 : Pv 0 H0) (hl : ∀ i H, i ≤ xs.length → Pv i H → SqL K H a xs)
    (step : ∀ i x H, xs[i]? = some x → Pv i H → Body x H (Pv (i + 1))) (fin : ∀ H, Pv xs.length H → Qd H) :
    ∃ W : Nat → Nat → Hp → Prop, (∃ m, W 0 m H0) ∧ ∀ i m H, W i m H → ((Itl K a).stop i H ∧ Qd H) ∨ ((Itl K a).go i H ∧ ∃ Nx : Hp → Prop, (∀ H', Nx H' → ∃ m', m' < m ∧ W (i + 1) m' H') ∧ ∀ x H', (Itl K a).yld i H x H' → Body x H' Nx) :=
  c_walk (xv := fun i => xs.getD i .non) Pv h0 (fun i H h hs => ⟨xs, xs[i], hl i H (Nat.le_of_lt h) hs, List.getElem?_eq_getElem h⟩) (fun i H x H' h hs q => by
    obtain ⟨e, q⟩ := q
    subst e
    refine ⟨rfl, ?_⟩
    rw [List.getD_eq_getElem?_getD, q xs (hl i _ (Nat.le_of_lt h) hs)] <;> rfl) (fun H hs => ⟨xs, hl _ H (Nat.le_refl _) hs, Nat.le_refl _⟩) (fun i H h hs => step i _ H (by rw [List.getD_eq_getElem?_getD, List.getElem?_eq_getElem h] <;> rfl) hs) fin
theorem c_tup {K : PySem.W.Frag} {a : Addr} {xs : List V} {Body : V → Hp → (Hp → Prop) → Prop} {Qd : Hp → Prop} {H0 : Hp} (Pv : Nat → Hp → Prop) (h0 : Pv 0 H0) (hl : ∀ i H, i ≤ xs.length → Pv i H → SqT K H a xs)
    (step : ∀ i x H, xs[i]? = some x → Pv i H → Body x H (Pv (i + 1))) (fin : ∀ H, Pv xs.length H → Qd H) :
    ∃ W : Nat → Nat → Hp → Prop, (∃ m, W 0 m H0) ∧ ∀ i m H, W i m H → ((Itt K a).stop i H ∧ Qd H) ∨ ((Itt K a).go i H ∧ ∃ Nx : Hp → Prop, (∀ H', Nx H' → ∃ m', m' < m ∧ W (i + 1) m' H') ∧ ∀ x H', (Itt K a).yld i H x H' → Body x H' Nx) :=
  c_walk (xv := fun i => xs.getD i .non) Pv h0 (fun i H h hs => ⟨xs, xs[i], hl i H (Nat.le_of_lt h) hs, List.getElem?_eq_getElem h⟩) (fun i H x H' h hs q => by
    obtain ⟨e, q⟩ := q
    subst e
    refine ⟨rfl, ?_⟩
    rw [List.getD_eq_getElem?_getD, q xs (hl i _ (Nat.le_of_lt h) hs)] <;> rfl) (fun H hs => ⟨xs, hl _ H (Nat.le_refl _) hs, Nat.le_refl _⟩) (fun i H h hs => step i _ H (by rw [List.getD_eq_getElem?_getD, List.getElem?_eq_getElem h] <;> rfl) hs) fin
theorem upd_again {H : Hp} {D : Addr} {a b : HO} : upd (upd H D a) D b = upd H D b := by
  funext x
  by_cases e : x = D
  · rw [e, upd_same, upd_same]
  · rw [upd_ne e, upd_ne e, upd_ne e]
def keysI (ns : List Int) : List L2.Key := ns.map Sum.inl
theorem inl_inj (a b : Int) (h : (Sum.inl a : L2.Key) = Sum.inl b) : a = b := Sum.inl.inj h
theorem keysI_inj : ∀ (a b : List Int), keysI a = keysI b → a = b
  | [], [], _ => rfl
  | x :: a, y :: b, h => by
    unfold keysI at h
    rw [List.map_cons, List.map_cons] at h
    obtain ⟨h1, h2⟩ := List.cons.inj h
    rw [Sum.inl.inj h1, keysI_inj a b h2]
  | [], _ :: _, h => by cases h
  | _ :: _, [], h => by cases h
theorem keysI_kV (ns : List Int) : (keysI ns).map kV = ns.map V.int := by unfold keysI; rw [List.map_map] <;> rfl
section
variable {K : PySem.W.Frag} {a : Addr} {σ : L2.St} {H : Hp} {Q : VK} {i0 j : Nat}
theorem var_set {x : V} (hj : j < σ.length) : ((wipe σ [j]).set j (some x))[j]? = some (some x) := by
  rw [List.getElem?_set_self (by rw [wipe_length]; exact hj)]
/-- {x: True for x in e}, e a list (a tuple) of numbers -/
theorem rd_dcI {ns : List Int} (hσ : σ[i0]? = some (some (.ref a))) (hj : j < σ.length) (ha : H a = some (.lst (ns.map V.int))) (hz : ns.length ≤ sizeLine) (k : ∀ D, H D = none → Q (.ref D) (upd H D (.dK (setDict (keysI (dd ns)))))) :
    tDc (iList K (tVar i0)) (gName j) tYes (tVar j) (tC (.bl true)) [j] σ H Q := by
  refine ⟨_, hσ, a, rfl, ⟨_, SqL.of ha⟩, fun D hD => ?_⟩
  refine c_list (xs := ns.map V.int) (fun i H1 => H1 = upd H D (.dK (setDict (keysI (dd (ns.take i)))))) (by rw [List.take_zero]; rfl) (fun i H1 _ h => by rw [h]; exact (Kept.new hD).sq (SqL.of ha)) (fun i x H1 hx h => ?_) fun H1 h => ?_
  · obtain ⟨n, rfl, hn⟩ := map_int hx
    refine ⟨wipe_one, w_yes (if_t rfl ⟨_, var_set hj, setDict (keysI (dd (ns.take i))), Sum.inl n, rfl, by rw [h]; exact upd_same, ?_, ?_⟩)⟩
    · rw [setDict_len]
      unfold keysI
      rw [List.length_map]
      have h1 := len_dd (ns.take i)
      have h2 : i < ns.length := (List.getElem?_eq_some_iff.mp hn).1
      rw [List.length_take] at h1
      omega
    · rw [h, upd_again, putK_set]
      have e : ns.take (i + 1) = ns.take i ++ [n] := by rw [List.take_add_one, hn]; rfl
      rw [e, dd_snoc]
      congr 3
      show dstep (keysI (dd (ns.take i))) (Sum.inl n) = keysI (dstep (dd (ns.take i)) n)
      unfold dstep keysI
      by_cases hm : n ∈ dd (ns.take i)
      · rw [if_pos hm, if_pos (List.mem_map.mpr ⟨n, hm, rfl⟩)]
      · rw [if_neg hm, if_neg (fun z => by
          obtain ⟨y, hy, e⟩ := List.mem_map.mp z
          exact hm (Sum.inl.inj e ▸ hy)), List.map_append] <;> rfl
  · rw [List.length_map, List.take_length] at h
    rw [h]
    exact k D hD
theorem rd_dcIt {ns : List Int} (hσ : σ[i0]? = some (some (.ref a))) (hj : j < σ.length) (ha : H a = some (.tup (ns.map V.int))) (hz : ns.length ≤ sizeLine) (k : ∀ D, H D = none → Q (.ref D) (upd H D (.dK (setDict (keysI (dd ns)))))) :
    tDc (iTup K (tVar i0)) (gName j) tYes (tVar j) (tC (.bl true)) [j] σ H Q := by
  refine ⟨_, hσ, a, rfl, ⟨_, SqT.of ha⟩, fun D hD => ?_⟩
  refine c_tup (xs := ns.map V.int) (fun i H1 => H1 = upd H D (.dK (setDict (keysI (dd (ns.take i)))))) (by rw [List.take_zero]; rfl) (fun i H1 _ h => by rw [h]; exact SqT.of ((Kept.new hD).tup ha)) (fun i x H1 hx h => ?_) fun H1 h => ?_
  · obtain ⟨n, rfl, hn⟩ := map_int hx
    refine ⟨wipe_one, w_yes (if_t rfl ⟨_, var_set hj, setDict (keysI (dd (ns.take i))), Sum.inl n, rfl, by rw [h]; exact upd_same, ?_, ?_⟩)⟩
    · rw [setDict_len]
      unfold keysI
      rw [List.length_map]
      have h1 := len_dd (ns.take i)
      have h2 : i < ns.length := (List.getElem?_eq_some_iff.mp hn).1
      rw [List.length_take] at h1
      omega
    · rw [h, upd_again, putK_set]
      have e : ns.take (i + 1) = ns.take i ++ [n] := by rw [List.take_add_one, hn]; rfl
      rw [e, dd_snoc]
      congr 3
      show dstep (keysI (dd (ns.take i))) (Sum.inl n) = keysI (dstep (dd (ns.take i)) n)
      unfold dstep keysI
      by_cases hm : n ∈ dd (ns.take i)
      · rw [if_pos hm, if_pos (List.mem_map.mpr ⟨n, hm, rfl⟩)]
      · rw [if_neg hm, if_neg (fun z => by
          obtain ⟨y, hy, e⟩ := List.mem_map.mp z
          exact hm (Sum.inl.inj e ▸ hy)), List.map_append] <;> rfl
  · rw [List.length_map, List.take_length] at h
    rw [h]
    exact k D hD
/-- {c: True for c in e}, e a list of tuples of numbers -/
theorem rd_dcT {bs : List Addr} {cs : List (List Int)} (hσ : σ[i0]? = some (some (.ref a))) (hj : j < σ.length) (ha : H a = some (.lst (bs.map V.ref))) (hl : bs.length = cs.length) (hb : ∀ (i : Nat) (b : Addr) (c : List Int), bs[i]? = some b → cs[i]? = some c → H b = some (.tup (c.map V.int))) (hz : cs.length ≤ sizeLine)
    (k : ∀ D, H D = none → Q (.ref D) (upd H D (.dT (setDict ((dd cs).map keysI))))) : tDcT (iList K (tVar i0)) (gName j) tYes (tVar j) (tC (.bl true)) [j] σ H Q := by
  refine ⟨_, hσ, a, rfl, ⟨_, SqL.of ha⟩, fun D hD => ?_⟩
  refine c_list (xs := bs.map V.ref) (fun i H1 => H1 = upd H D (.dT (setDict ((dd (cs.take i)).map keysI)))) (by rw [List.take_zero]; rfl) (fun i H1 _ h => by rw [h]; exact (Kept.new hD).sq (SqL.of ha)) (fun i x H1 hx h => ?_) fun H1 h => ?_
  · rw [List.getElem?_map] at hx
    obtain ⟨b, hb1, rfl⟩ := Option.map_eq_some_iff.mp hx
    have hi : i < cs.length := by rw [← hl]; exact (List.getElem?_eq_some_iff.mp hb1).1
    have hc : cs[i]? = some cs[i] := List.getElem?_eq_getElem hi
    have e1 := hb i b _ hb1 hc
    refine ⟨wipe_one, w_yes (if_t rfl ⟨_, var_set hj, setDict ((dd (cs.take i)).map keysI), keysI cs[i], b, rfl, ?_, by rw [h]; exact upd_same, ?_, ?_⟩)⟩
    · rw [keysI_kV, h, upd_ne (ne_of_none e1 hD)]
      exact e1
    · rw [setDict_len, List.length_map]
      have h1 := len_dd (cs.take i)
      rw [List.length_take] at h1
      omega
    · rw [h, upd_again, putK_set]
      have e : cs.take (i + 1) = cs.take i ++ [cs[i]] := by rw [List.take_add_one, hc]; rfl
      rw [e, dd_snoc]
      congr 3
      unfold dstep
      by_cases hm : cs[i] ∈ dd (cs.take i)
      · rw [if_pos hm, if_pos (List.mem_map.mpr ⟨_, hm, rfl⟩)]
      · rw [if_neg hm, if_neg (fun z => by
          obtain ⟨y, hy, e⟩ := List.mem_map.mp z
          exact hm (keysI_inj _ _ e ▸ hy)), List.map_append] <;> rfl
  · rw [List.length_map, hl, List.take_length] at h
    rw [h]
    exact k D hD
end
theorem w_ckw {σ : L2.St} {H : Hp} {Q : VK} {r : List V → List V → Hp → VK → Prop} {t tk : TA} (q : t σ H fun vs H1 => tk σ H1 fun zs H2 => r vs zs H2 Q) : tCKw r t tk σ H Q := q
theorem set_keys (ns : List Int) : (setDict (keysI ns)).map (fun kv : L2.Key × V => kV kv.1) = ns.map V.int := by
  unfold setDict keysI
  rw [List.map_map, List.map_map]
  rfl
/-! ### sets -/
theorem set_step (vs : List Int) (c : Int) : (fun j => decide (j ∈ vs) || decide (j = c)) = fun j => decide (j ∈ vs ++ [c]) := by
  funext j
  by_cases h1 : j ∈ vs <;> by_cases h2 : j = c <;> simp [h1, h2]
theorem set_len (vs : List Int) (c : Int) : (if decide (c ∈ vs) = true then (dd vs).length else (dd vs).length + 1) = (dd (vs ++ [c])).length := by
  rw [dd_snoc]
  unfold dstep
  by_cases h : c ∈ vs
  · rw [decide_eq_true h, if_pos rfl, if_pos (mem_dd.mpr h)]
  · rw [decide_eq_false h, if_neg Bool.false_ne_true, if_neg (fun z => h (mem_dd.mp z)), List.length_append] <;> rfl
end Ky

namespace Ky
open PySem PySem.Spec PyProof.Rows L2
def topS (i : Nat) : Stmt := PySem.Challenge.pw_countsworn_k01_clauses_and_residues.main.body.getD i (.Pass ⟨0, 0, 0, 0⟩)
abbrev s_is_whole : Stmt := topS 1
abbrev n_is_whole : List Str := ["value"]
theorem sc_is_whole : FnScope n_is_whole ["value"] (defScope s_is_whole) := ⟨rfl, rfl, rfl, by decide +kernel, rfl, by decide +kernel, by decide +kernel⟩
abbrev s_literal_key : Stmt := topS 4
abbrev n_literal_key : List Str := ["literal"]
theorem sc_literal_key : FnScope n_literal_key ["literal"] (defScope s_literal_key) := ⟨rfl, rfl, rfl, by decide +kernel, rfl, by decide +kernel, by decide +kernel⟩
abbrev s_clause_key : Stmt := topS 5
abbrev n_clause_key : List Str := ["clause", "literal"]
theorem sc_clause_key : FnScope n_clause_key ["clause"] (defScope s_clause_key) := ⟨rfl, rfl, rfl, by decide +kernel, rfl, by decide +kernel, by decide +kernel⟩
abbrev s_ascends : Stmt := topS 6
abbrev n_ascends : List Str := ["keys", "at"]
theorem sc_ascends : FnScope n_ascends ["keys"] (defScope s_ascends) := ⟨rfl, rfl, rfl, by decide +kernel, rfl, by decide +kernel, by decide +kernel⟩
abbrev s_clause_of : Stmt := topS 7
abbrev n_clause_of : List Str := ["literals", "once", "literal"]
theorem sc_clause_of : FnScope n_clause_of ["literals"] (defScope s_clause_of) := ⟨rfl, rfl, rfl, by decide +kernel, rfl, by decide +kernel, by decide +kernel⟩
abbrev s_residue_of : Stmt := topS 8
abbrev n_residue_of : List Str := ["clauses", "once", "clause"]
theorem sc_residue_of : FnScope n_residue_of ["clauses"] (defScope s_residue_of) := ⟨rfl, rfl, rfl, by decide +kernel, rfl, by decide +kernel, by decide +kernel⟩
abbrev s_variables_of : Stmt := topS 9
abbrev n_variables_of : List Str := ["residue", "clause", "literal"]
theorem sc_variables_of : FnScope n_variables_of ["residue"] (defScope s_variables_of) := ⟨rfl, rfl, rfl, by decide +kernel, rfl, by decide +kernel, by decide +kernel⟩
abbrev s_place_of : Stmt := topS 10
abbrev n_place_of : List Str := ["clause", "rows", "key", "low", "high", "middle"]
theorem sc_place_of : FnScope n_place_of ["clause", "rows"] (defScope s_place_of) := ⟨rfl, rfl, rfl, by decide +kernel, rfl, by decide +kernel, by decide +kernel⟩
abbrev s_merged : Stmt := topS 11
abbrev n_merged : List Str := ["rows", "clauses", "found", "clause", "at"]
theorem sc_merged : FnScope n_merged ["rows", "clauses"] (defScope s_merged) := ⟨rfl, rfl, rfl, by decide +kernel, rfl, by decide +kernel, by decide +kernel⟩
abbrev s_under : Stmt := topS 12
abbrev n_under : List Str := ["residue", "literal", "kept", "clause", "shorter", "other"]
theorem sc_under : FnScope n_under ["residue", "literal"] (defScope s_under) := ⟨rfl, rfl, rfl, by decide +kernel, rfl, by decide +kernel, by decide +kernel⟩
abbrev s_clause_under : Stmt := topS 13
abbrev n_clause_under : List Str := ["clause", "given", "literal"]
theorem sc_clause_under : FnScope n_clause_under ["clause", "given"] (defScope s_clause_under) := ⟨rfl, rfl, rfl, by decide +kernel, rfl, by decide +kernel, by decide +kernel⟩
abbrev s_given_by : Stmt := topS 14
abbrev n_given_by : List Str := ["literals", "given", "literal"]
theorem sc_given_by : FnScope n_given_by ["literals"] (defScope s_given_by) := ⟨rfl, rfl, rfl, by decide +kernel, rfl, by decide +kernel, by decide +kernel⟩
abbrev s_under_all : Stmt := topS 15
abbrev n_under_all : List Str := ["residue", "literals", "given", "kept", "shorter", "clause", "rest"]
theorem sc_under_all : FnScope n_under_all ["residue", "literals"] (defScope s_under_all) := ⟨rfl, rfl, rfl, by decide +kernel, rfl, by decide +kernel, by decide +kernel⟩
abbrev s_is_variable : Stmt := topS 16
abbrev n_is_variable : List Str := ["value"]
theorem sc_is_variable : FnScope n_is_variable ["value"] (defScope s_is_variable) := ⟨rfl, rfl, rfl, by decide +kernel, rfl, by decide +kernel, by decide +kernel⟩
abbrev s_is_literal : Stmt := topS 17
abbrev n_is_literal : List Str := ["value"]
theorem sc_is_literal : FnScope n_is_literal ["value"] (defScope s_is_literal) := ⟨rfl, rfl, rfl, by decide +kernel, rfl, by decide +kernel, by decide +kernel⟩
abbrev s_is_clause : Stmt := topS 18
abbrev n_is_clause : List Str := ["value", "item", "literal"]
theorem sc_is_clause : FnScope n_is_clause ["value"] (defScope s_is_clause) := ⟨rfl, rfl, rfl, by decide +kernel, rfl, by decide +kernel, by decide +kernel⟩
abbrev s_is_residue : Stmt := topS 19
abbrev n_is_residue : List Str := ["value", "item", "clause"]
theorem sc_is_residue : FnScope n_is_residue ["value"] (defScope s_is_residue) := ⟨rfl, rfl, rfl, by decide +kernel, rfl, by decide +kernel, by decide +kernel⟩
abbrev s_keeps : Stmt := topS 20
abbrev n_keeps : List Str := ["residue", "filling", "given", "literal", "clause"]
theorem sc_keeps : FnScope n_keeps ["residue", "filling"] (defScope s_keeps) := ⟨rfl, rfl, rfl, by decide +kernel, rfl, by decide +kernel, by decide +kernel⟩
abbrev s_l_draw : Stmt := topS 22
abbrev n_l_draw : List Str := ["script", "seed", "cell"]
theorem sc_l_draw : FnScope n_l_draw ["script"] (defScope s_l_draw) := ⟨rfl, rfl, rfl, by decide +kernel, rfl, by decide +kernel, by decide +kernel⟩
abbrev s_l_take : Stmt := topS 23
abbrev n_l_take : List Str := ["draw", "many", "found"]
theorem sc_l_take : FnScope n_l_take ["draw", "many"] (defScope s_l_take) := ⟨rfl, rfl, rfl, by decide +kernel, rfl, by decide +kernel, by decide +kernel⟩
abbrev s_l_key : Stmt := topS 24
abbrev n_l_key : List Str := ["literal"]
theorem sc_l_key : FnScope n_l_key ["literal"] (defScope s_l_key) := ⟨rfl, rfl, rfl, by decide +kernel, rfl, by decide +kernel, by decide +kernel⟩
abbrev s_l_sorted : Stmt := topS 25
abbrev n_l_sorted : List Str := ["rows", "keyed", "literal", "row", "pair"]
theorem sc_l_sorted : FnScope n_l_sorted ["rows"] (defScope s_l_sorted) := ⟨rfl, rfl, rfl, by decide +kernel, rfl, by decide +kernel, by decide +kernel⟩
abbrev s_l_clause : Stmt := topS 26
abbrev n_l_clause : List Str := ["literals", "pair", "literal"]
theorem sc_l_clause : FnScope n_l_clause ["literals"] (defScope s_l_clause) := ⟨rfl, rfl, rfl, by decide +kernel, rfl, by decide +kernel, by decide +kernel⟩
abbrev s_l_keeps : Stmt := topS 33
abbrev n_l_keeps : List Str := ["residue", "filling", "clause", "literal"]
theorem sc_l_keeps : FnScope n_l_keeps ["residue", "filling"] (defScope s_l_keeps) := ⟨rfl, rfl, rfl, by decide +kernel, rfl, by decide +kernel, by decide +kernel⟩
abbrev s_l_literals : Stmt := topS 37
abbrev n_l_literals : List Str := ["draw", "rows", "k"]
theorem sc_l_literals : FnScope n_l_literals ["draw"] (defScope s_l_literals) := ⟨rfl, rfl, rfl, by decide +kernel, rfl, by decide +kernel, by decide +kernel⟩
abbrev s_l_given : Stmt := topS 38
abbrev n_l_given : List Str := ["rows", "literal", "found", "row", "less", "item"]
theorem sc_l_given : FnScope n_l_given ["rows", "literal"] (defScope s_l_given) := ⟨rfl, rfl, rfl, by decide +kernel, rfl, by decide +kernel, by decide +kernel⟩
abbrev s_law : Stmt := topS 39
abbrev n_law : List Str := ["script", "draw", "rows", "k", "literals", "both", "literal", "once", "j", "due", "before", "backward", "residue", "names", "row", "found", "filling", "name"]
theorem sc_law : FnScope n_law ["script"] (defScope s_law) := ⟨rfl, rfl, rfl, by decide +kernel, rfl, by decide +kernel, by decide +kernel⟩
end Ky

namespace Ky
open PySem PySem.Spec PyProof.Rows L2
local macro_rules | `(tactic| walk_at "rd") => `(tactic| repeat (first
  | with_reducible refine w_seq ?_
  | with_reducible refine w_asg ?_
  | with_reducible refine w_ret ?_
  | with_reducible refine w_drop ?_
  | with_reducible refine w_ifs ?_
  | ((with_reducible refine' w_var ?hh ?_); (case hh => exact rfl))
  | with_reducible refine w_c ?_
  | with_reducible refine w_op ?_
  | with_reducible refine w_un ?_
  | with_reducible refine w_I0 ?_
  | with_reducible refine w_U ?_
  | with_reducible refine w_nil ?_
  | with_reducible refine w_cons ?_
  | with_reducible refine w_call ?_
  | with_reducible refine w_cb ?_
  | with_reducible refine w_test ?_
  | with_reducible refine w_B ?_
  | with_reducible refine w_bl ?_
  | with_reducible refine w_and ?_
  | with_reducible refine w_or ?_
  | with_reducible refine w_not ?_
  | with_reducible refine w_ife ?_
  | with_reducible refine w_gRd ?_
  | with_reducible refine w_andV ?_
  | with_reducible refine w_orV ?_
  | with_reducible refine w_notV ?_
  | with_reducible refine w_chain ?_
  | with_reducible refine w_din ?_
  | with_reducible refine w_isi_ii ?_
  | with_reducible refine w_isi_ib ?_
  | with_reducible refine w_isi_it ?_
  | with_reducible refine w_isi_st ?_
  | ((with_reducible refine w_isi_tt ?h1 ?_); (case h1 => first | assumption | exact upd_same))
  | with_reducible refine if_t rfl ?_
  | with_reducible refine if_f rfl ?_
  | with_reducible refine w_tup ?_
  | with_reducible refine w_lst ?_
  | with_reducible refine w_next ?_
  | with_reducible refine w_bm ?_
  | with_reducible refine w_sl ?_
  | with_reducible refine w_part ?_
  | with_reducible refine w_nop ?_
  | with_reducible refine w_isI ?_
  | with_reducible refine w_yes ?_
  | with_reducible refine w_gn ?_
  | with_reducible refine w_gsub ?_
  | ((with_reducible refine' w_setL ?h1 ?h2 ?_); (case h1 => first | assumption | exact upd_same); (case h2 => exact rfl))
  | with_reducible refine w_asgG ?_
  | with_reducible refine w_m1 ?_
  | with_reducible refine w_isS ?_
  | with_reducible refine w_tyS ?_
  | ((with_reducible refine' w_tyL ?h1 ?_); (case h1 => first | assumption | exact upd_same))
  | ((with_reducible refine' w_ixT ?h1 ?h2 ?_); (case h1 => first | assumption | exact upd_same); (case h2 => exact rfl))
  | ((with_reducible refine' w_ixL ?h1 ?h2 ?_); (case h1 => first | assumption | exact upd_same); (case h2 => exact rfl))
  | ((with_reducible refine w_eq ?h1 ?_); (case h1 => exact rfl))
  | ((with_reducible refine w_ne ?h1 ?_); (case h1 => exact rfl))
  | dsimp only [List.set_cons_zero, List.set_cons_succ, List.append_nil, List.cons_append, List.nil_append, cxOf]))

structure Tx (K : PySem.W.Frag) (mg : Str → Option Value) (uG : Value) : Prop where
  z_isinstance : mg "isinstance" = none
  z_int : mg "int" = none
  z_bool : mg "bool" = none
  z_tuple : mg "tuple" = none
  z_abs : mg "abs" = none
  z_all : mg "all" = none
  z_any : mg "any" = none
  z_len : mg "len" = none
  z_list : mg "list" = none
  z_range : mg "range" = none
  z_sorted : mg "sorted" = none
  g_GREATEST_VARIABLE : mg "_GREATEST_VARIABLE" = some uG
  v_GREATEST_VARIABLE : RelV (.int 999) uG
def absI (n : Int) : Int := if n < 0 then -n else n
def sgI (n : Int) : Int := if n > 0 then 1 else 0
def isVar (n : Int) : Bool := decide (1 ≤ n) && decide (n ≤ 999)
def isLit (n : Int) : Bool := isVar (absI n)
def spWhole : Sp := fun vs H Q _ => ∃ n, vs = [.int n] ∧ Q (.bl true) H
def spVar : Sp := fun vs H Q _ => ∃ n, vs = [.int n] ∧ Q (.bl (isVar n)) H
def spLit : Sp := fun vs H Q _ => ∃ n, vs = [.int n] ∧ Q (.bl (isLit n)) H
def keyV (n : Int) : List V := [.int (absI n), .int (sgI n)]
def spKey : Sp := fun vs H Q _ => ∃ n, vs = [.int n] ∧ ∀ p, H p = none → Q (.ref p) (upd H p (.tup (keyV n)))
section
variable {P : Program} {w : World} {K : PySem.W.Frag} {mg : Str → Option Value} {base : Heap} {uG : Value} {f : Addr} {fd : FuncData}
theorem ok_is_whole (F : Fun K "is_whole" "is_whole" s_is_whole f fd) (T : Tx K mg uG) : FnOk P w K mg base CX0 1 f fd ["value"] spWhole := by
  refine F.ok sc_is_whole (fun vs H Q E h => ?_) (fun cdv A outer s H vs Q E hr h => ?_)
  · obtain ⟨n, rfl, _⟩ := h
    rfl
  · obtain ⟨n, rfl, k⟩ := h
    refine ⟨_, (pss_one (ps_ret (pe_and (pe_callB call_isi (by rfl) T.z_isinstance (by decide +kernel) (pa_cons (pv 0) (pa_cons (pe_bltn (by rfl) T.z_int (by decide +kernel) (show RelV (.ty "int") _ from rfl)) pa_nil))) (pe_one (pe_not (pe_callB call_isi (by rfl) T.z_isinstance (by decide +kernel) (pa_cons (pv 0) (pa_cons (pe_bltn (by rfl) T.z_bool (by decide +kernel) (show RelV (.ty "bool") _ from rfl)) pa_nil)))))))), ?_⟩
    rw [show start n_is_whole [(.int n : V)] = ([some (.int n)] : List (Option V)) from rfl]
    walk_at "rd"
    exact k
theorem ok_is_variable (F : Fun K "is_variable" "is_variable" s_is_variable f fd) (T : Tx K mg uG) (D_is_whole : Df P w K mg base 1 "is_whole" ["value"] spWhole) : FnOk P w K mg base CX0 2 f fd ["value"] spVar := by
  refine F.ok sc_is_variable (fun vs H Q E h => ?_) (fun cdv A outer s H vs Q E hr h => ?_)
  · obtain ⟨n, rfl, _⟩ := h
    rfl
  · obtain ⟨n, rfl, k⟩ := h
    refine ⟨_, (pss_one (ps_ret (pe_and (pe_df D_is_whole (hr.mono (by decide)) (by rfl) (pa_cons (pv 0) pa_nil)) (pe_one (pe_chain op_le op_le pe_int (pv 0) (pe_glob (by rfl) T.g_GREATEST_VARIABLE T.v_GREATEST_VARIABLE)))))), ?_⟩
    rw [show start n_is_variable [(.int n : V)] = ([some (.int n)] : List (Option V)) from rfl]
    walk_at "rd"
    refine ⟨n, rfl, ?_⟩
    walk_at "rd"
    by_cases h1 : (1 : Int) ≤ n
    · rw [decide_eq_true h1]
      walk_at "rd"
      have e : isVar n = decide (n ≤ 999) := by unfold isVar; rw [decide_eq_true h1, Bool.true_and]
      rw [e] at k
      exact k
    · rw [decide_eq_false h1]
      walk_at "rd"
      have e : isVar n = false := by unfold isVar; rw [decide_eq_false h1, Bool.false_and]
      rw [e] at k
      exact k
theorem ok_is_literal (F : Fun K "is_literal" "is_literal" s_is_literal f fd) (T : Tx K mg uG) (D_is_whole : Df P w K mg base 1 "is_whole" ["value"] spWhole) (D_is_variable : Df P w K mg base 2 "is_variable" ["value"] spVar) : FnOk P w K mg base CX0 3 f fd ["value"] spLit := by
  refine F.ok sc_is_literal (fun vs H Q E h => ?_) (fun cdv A outer s H vs Q E hr h => ?_)
  · obtain ⟨n, rfl, _⟩ := h
    rfl
  · obtain ⟨n, rfl, k⟩ := h
    refine ⟨_, (pss_one (ps_ret (pe_and (pe_df D_is_whole (hr.mono (by decide)) (by rfl) (pa_cons (pv 0) pa_nil)) (pe_one (pe_df D_is_variable (hr.mono (by decide)) (by rfl) (pa_cons (pe_callB call_abs (by rfl) T.z_abs (by decide +kernel) (pa_cons (pv 0) pa_nil)) pa_nil)))))), ?_⟩
    rw [show start n_is_literal [(.int n : V)] = ([some (.int n)] : List (Option V)) from rfl]
    walk_at "rd"
    refine ⟨n, rfl, ?_⟩
    walk_at "rd"
    refine ⟨n, rfl, ?_⟩
    walk_at "rd"
    exact ⟨_, rfl, k⟩
theorem ok_literal_key (F : Fun K "literal_key" "literal_key" s_literal_key f fd) (T : Tx K mg uG) : FnOk P w K mg base CX0 1 f fd ["literal"] spKey := by
  refine F.ok sc_literal_key (fun vs H Q E h => ?_) (fun cdv A outer s H vs Q E hr h => ?_)
  · obtain ⟨n, rfl, _⟩ := h
    rfl
  · obtain ⟨n, rfl, k⟩ := h
    refine ⟨_, (pss_one (ps_ret (pe_tup (pa_cons (pe_callB call_abs (by rfl) T.z_abs (by decide +kernel) (pa_cons (pv 0) pa_nil)) (pa_cons (pe_ifExp (pt_cmpR op_gt (pv 0) pe_int (nomark _)) pe_int pe_int) pa_nil))))), ?_⟩
    rw [show start n_literal_key [(.int n : V)] = ([some (.int n)] : List (Option V)) from rfl]
    walk_at "rd"
    refine ⟨n, rfl, ?_⟩
    walk_at "rd"
    have e : (if decide ((0 : Int) < n) = true then (1 : Int) else 0) = sgI n := by
      unfold sgI
      by_cases h : (0 : Int) < n
      · rw [decide_eq_true h, if_pos rfl, if_pos h]
      · rw [decide_eq_false h, if_neg Bool.false_ne_true, if_neg h]
    by_cases h : (0 : Int) < n
    · rw [decide_eq_true h] at e ⊢
      walk_at "rd"
      refine ⟨by show 2 ≤ sizeLine; decide, fun p hp => ?_⟩
      have q := k p hp
      unfold keyV at q
      rw [← e] at q
      exact q
    · rw [decide_eq_false h] at e ⊢
      walk_at "rd"
      refine ⟨by show 2 ≤ sizeLine; decide, fun p hp => ?_⟩
      have q := k p hp
      unfold keyV at q
      rw [← e] at q
      exact q
theorem ok_l_key (F : Fun K "_law_key" "_law_key" s_l_key f fd) (T : Tx K mg uG) : FnOk P w K mg base CX0 1 f fd ["literal"] spKey := by
  refine F.ok sc_l_key (fun vs H Q E h => ?_) (fun cdv A outer s H vs Q E hr h => ?_)
  · obtain ⟨n, rfl, _⟩ := h
    rfl
  · obtain ⟨n, rfl, k⟩ := h
    refine ⟨_, (pss_one (ps_ret (pe_tup (pa_cons (pe_callB call_abs (by rfl) T.z_abs (by decide +kernel) (pa_cons (pv 0) pa_nil)) (pa_cons (pe_ifExp (pt_cmpR op_gt (pv 0) pe_int (nomark _)) pe_int pe_int) pa_nil))))), ?_⟩
    rw [show start n_l_key [(.int n : V)] = ([some (.int n)] : List (Option V)) from rfl]
    walk_at "rd"
    refine ⟨n, rfl, ?_⟩
    walk_at "rd"
    have e : (if decide ((0 : Int) < n) = true then (1 : Int) else 0) = sgI n := by
      unfold sgI
      by_cases h : (0 : Int) < n
      · rw [decide_eq_true h, if_pos rfl, if_pos h]
      · rw [decide_eq_false h, if_neg Bool.false_ne_true, if_neg h]
    by_cases h : (0 : Int) < n
    · rw [decide_eq_true h] at e ⊢
      walk_at "rd"
      refine ⟨by show 2 ≤ sizeLine; decide, fun p hp => ?_⟩
      have q := k p hp
      unfold keyV at q
      rw [← e] at q
      exact q
    · rw [decide_eq_false h] at e ⊢
      walk_at "rd"
      refine ⟨by show 2 ≤ sizeLine; decide, fun p hp => ?_⟩
      have q := k p hp
      unfold keyV at q
      rw [← e] at q
      exact q
end
/-! ### keys as data -/
def keyD (n : Int) : PyData := .tuple [.int (absI n), .int (sgI n)]
def ckD (ls : List Int) : PyData := .tuple (ls.map keyD)
/-- a new tuple whose data are the keys of a clause -/
def spCKey : Sp := fun vs H Q _ => ∃ (a : Addr) (ls : List Int), vs = [.ref a] ∧ H a = some (.tup (ls.map V.int)) ∧ ls.length ≤ sizeLine ∧ ∀ (ps : List Addr) (p : Addr) (H' : Hp), Kept H H' → H p = none → H' p = some (.tup (ps.map V.ref)) → ps.length = ls.length → (∀ (i : Nat) (q : Addr) (n : Int), ps[i]? = some q → ls[i]? = some n → H' q = some (.tup (keyV n))) → Q (.ref p) H'
theorem dp_key {K : PySem.W.Frag} {H : Hp} {q : Addr} {n : Int} (h : H q = some (.tup (keyV n))) : Dp K H (.ref q) (keyD n) := .tup (SqT.of h) (.cons (.int _) (.cons (.int _) .nil))
theorem dpAll_of {K : PySem.W.Frag} {H : Hp} : ∀ {xs : List V} {ds : List PyData}, xs.length = ds.length → (∀ (i : Nat) (x : V) (d : PyData), xs[i]? = some x → ds[i]? = some d → Dp K H x d) → DpAll K H xs ds
  | [], [], _, _ => .nil
  | x :: xs, d :: ds, hl, h => .cons (h 0 x d rfl rfl) (dpAll_of (Nat.succ.inj hl) fun i y e h1 h2 => h (i + 1) y e h1 h2)
  | [], _ :: _, hl, _ => by cases hl
  | _ :: _, [], hl, _ => by cases hl
theorem dp_ckey {K : PySem.W.Frag} {H : Hp} {p : Addr} {ps : List Addr} {ls : List Int} (hp : H p = some (.tup (ps.map V.ref))) (hl : ps.length = ls.length) (h : ∀ (i : Nat) (q : Addr) (n : Int), ps[i]? = some q → ls[i]? = some n → H q = some (.tup (keyV n))) : Dp K H (.ref p) (ckD ls) :=
  .tup (SqT.of hp) (dpAll_of (by rw [List.length_map, List.length_map, hl]) fun i x d hx hd => by
    rw [List.getElem?_map] at hx hd
    obtain ⟨q, hq, rfl⟩ := Option.map_eq_some_iff.mp hx
    obtain ⟨n, hn, rfl⟩ := Option.map_eq_some_iff.mp hd
    exact dp_key (h i q n hq hn))
section
variable {P : Program} {w : World} {K : PySem.W.Frag} {mg : Str → Option Value} {base : Heap} {uG : Value} {f : Addr} {fd : FuncData}
theorem ok_clause_key (F : Fun K "clause_key" "clause_key" s_clause_key f fd) (T : Tx K mg uG) (D_literal_key : Df P w K mg base 1 "literal_key" ["literal"] spKey) : FnOk P w K mg base CX0 2 f fd ["clause"] spCKey := by
  refine F.ok sc_clause_key (fun vs H Q E h => ?_) (fun cdv A outer s H vs Q E hr h => ?_)
  · obtain ⟨a, ls, rfl, _⟩ := h
    rfl
  · obtain ⟨a, ls, rfl, ha, hz, k⟩ := h
    refine ⟨_, (pss_one (ps_ret (pe_callTy call_tuple_of (by rfl) T.z_tuple (by decide +kernel) (pa_cons (pe_lc (own := [("literal", 1)]) (g := gName 1) (by rfl) sc_clause_key.nd (pi_tupK (K := K) rfl (pv 0)) (blkOk_by (own := [("literal", 1)]) (N := n_clause_key) (sc := defScope s_clause_key) (by decide +kernel)) (fun _ _ _ _ _ => pg_name (i := 1) sc_clause_key.nd rfl (Or.inl rfl)) (fun _ _ _ _ _ => pts_nil) (fun _ _ _ _ _ => (pe_df D_literal_key (hr.mono (by decide)) (by rfl) (pa_cons (pv 1) pa_nil)))) pa_nil)))), ?_⟩
    rw [show start n_clause_key [(.ref a : V)] = ([some (.ref a), none] : List (Option V)) from rfl]
    walk_at "rd"
    refine ⟨_, rfl, a, rfl, ⟨_, SqT.of ha⟩, fun D hD => lc_tup (K := K) (xs := ls.map V.int) (fun i H1 => ∃ ps : List Addr, H1 D = some (.lst (ps.map V.ref)) ∧ ps.length = i ∧ Kept H H1 ∧ ∀ (j : Nat) (q : Addr) (n : Int), ps[j]? = some q → ls[j]? = some n → H1 q = some (.tup (keyV n))) ⟨[], upd_same, rfl, Kept.new hD, fun j q n h => by simp at h⟩ (fun i H1 _ h => by
      obtain ⟨_, _, _, k1, _⟩ := h
      exact SqT.of (k1.tup ha)) ?_ ?_⟩
    · rintro i y H1 hi ⟨ps, h1, h2, k1, h3⟩
      obtain ⟨u, rfl, hu⟩ := map_int hi
      refine ⟨rfl, ?_⟩
      walk_at "rd"
      refine ⟨u, rfl, fun p hp => ?_⟩
      have hi2 : i < ls.length := (List.getElem?_eq_some_iff.mp hu).1
      have nD : D ≠ p := ne_of_none h1 hp
      refine ⟨ps.map V.ref, by rw [upd_ne nD]; exact h1, by rw [List.length_map]; omega, ps ++ [p], by rw [List.map_append]; exact upd_same, by rw [List.length_append, h2]; rfl, Kept.mut (k1.trans (Kept.new hp)) hD, fun j q n hq hn => ?_⟩
      by_cases hj : j < ps.length
      · rw [List.getElem?_append_left hj] at hq
        have e := h3 j q n hq hn
        have n1 : q ≠ D := fun z => by
          rw [z, h1] at e
          cases e
        have n2 : q ≠ p := ne_of_none e hp
        rw [upd_ne n1, upd_ne n2]
        exact e
      · have hj2 : j < (ps ++ [p]).length := (List.getElem?_eq_some_iff.mp hq).1
        rw [List.length_append] at hj2
        have ej : j = ps.length := by
          have : j < ps.length + 1 := hj2
          omega
        subst ej
        have eq : q = p := by simpa using hq.symm
        subst eq
        rw [h2, hu] at hn
        cases hn
        rw [upd_ne (Ne.symm nD), upd_same]
    · rintro H1 ⟨ps, h1, h2, k1, h3⟩
      walk_at "rd"
      refine ⟨D, ps.map V.ref, rfl, .inl ⟨SqL.of h1, fun l hl => ?_⟩⟩
      refine k ps l _ (k1.trans (Kept.new hl)) (k1.free _ hl) upd_same (by rw [h2, List.length_map]) fun i q n hq hn => ?_
      have e := h3 i q n hq hn
      rw [upd_ne (ne_of_none e hl)]
      exact e
theorem atI_eq {α : Type} {xs : List α} {i : Int} {j : Nat} {v : α} (e : i = (j : Int)) (h : xs[j]? = some v) : atI xs i = some v := by
  rw [e]
  exact atI_nat h
/-- each item is below the next -/
def ascD (ds : List PyData) : Bool := (List.range (ds.length - 1)).all fun j => PySem.W.dataLt (ds.getD j .none) (ds.getD (j + 1) .none)
def spAsc (K : PySem.W.Frag) (P0 : Addr) : Sp := fun vs H Q _ => ∃ (a : Addr) (xs : List V) (ds : List PyData), vs = [.ref a] ∧ H a = some (.lst xs) ∧ xs.length ≤ sizeLine ∧ DpAll K H xs ds ∧ PySem.W.AllAlike ds ∧ (∀ d ∈ ds, d ≠ .none ∧ d.depth ≤ 60) ∧ GxR.TabG H P0 ∧ ∀ H', Kept H H' → Q (.bl (ascD ds)) H'
theorem dpAll_at {K : PySem.W.Frag} {H : Hp} : ∀ {xs : List V} {ds : List PyData} {i : Nat} {x : V}, DpAll K H xs ds → xs[i]? = some x → ∃ d, ds[i]? = some d ∧ Dp K H x d
  | _, _, 0, _, .cons h _, e => by
    cases e
    exact ⟨_, rfl, h⟩
  | _, _, i + 1, _, .cons _ t, e => dpAll_at (i := i) t (by simpa using e)
theorem ok_ascends {c P0 : Addr} (F : FunC K "ascends" s_ascends f fd c) (T : Tx K mg uG) (TB : GxR.TabB base mg c P0) : FnOk P w K mg base CX0 4 f fd ["keys"] (spAsc K P0) := by
  refine F.ok sc_ascends (fun vs H Q E h => ?_) (fun A outer s H vs Q E hr h => ?_)
  · obtain ⟨a, xs, ds, rfl, _⟩ := h
    rfl
  · obtain ⟨a, xs, ds, rfl, ha, hz, hd, hal, hdn, hT, k⟩ := h
    refine ⟨_, (pss_one (ps_ret (pe_allG (k := 1) (own := [("at", 1)]) (g := gName 1) (hr.mono (by decide)) (by rfl) T.z_all (by decide +kernel) rfl sc_ascends.nd TB rfl ⟨blkOk_by (own := [("at", 1)]) (N := n_ascends) (sc := defScope s_ascends) (by decide +kernel), rfl, by decide +kernel, rfl⟩ (pi_range2 (by rfl) T.z_range (pa_cons pe_int (pa_cons (pe_callB call_len_seq (by rfl) T.z_len (by decide +kernel) (pa_cons (pv 0) pa_nil)) pa_nil))) (fun _ _ _ _ _ => pg_name (i := 1) sc_ascends.nd rfl (Or.inl rfl)) (fun _ _ _ _ _ hr => (pe_cmpR (opK (K := K) (r := rLtD) rfl (op_ltD hr.units)) (pe_ix (ix_listK (K := K) rfl) (pv 0) (pe_op op_sub (pv 1) pe_int) (fun _ _ => rfl)) (pe_ix (ix_listK (K := K) rfl) (pv 0) (pv 1) (fun _ _ => rfl)) (nomark _)))))), ?_⟩
    rw [show start n_ascends [(.ref a : V)] = ([some (.ref a), none] : List (Option V)) from rfl]
    walk_at "rd"
    have hlen := dpAll_len hd
    have hb : (xs.length : Int) < 2 ^ 62 := by
      have h1 : sizeLine < 2 ^ 62 := by decide
      exact_mod_cast Nat.lt_of_le_of_lt hz h1
    refine ⟨_, rfl, a, xs, rfl, .inl (SqL.of ha), _, _, rfl, ⟨by decide, by decide, by omega, hb⟩, hT, fun H2 hT2 => ?_⟩
    have en : ((xs.length : Int) - 1).toNat = ds.length - 1 := by omega
    rw [en]
    refine g_range (σ := [some (.ref a), none]) (j := 1) (fun j => PySem.W.dataLt (ds.getD j .none) (ds.getD (j + 1) .none)) (fun H1 => Kept H H1) (Kept.tabbed hT hT2) (fun i H1 k' hi kp hk => ?_) (fun H1 kp => k H1 kp)
    have hd1 := Kept.dpAll kp _ _ hd
    have x1 : xs[i]? = some (xs[i]'(by omega)) := List.getElem?_eq_getElem _
    have x2 : xs[i + 1]? = some (xs[i + 1]'(by omega)) := List.getElem?_eq_getElem _
    obtain ⟨d1, e1, p1⟩ := dpAll_at hd1 x1
    obtain ⟨d2, e2, p2⟩ := dpAll_at hd1 x2
    have g1 : ds.getD i .none = d1 := by rw [List.getD_eq_getElem?_getD, e1] <;> rfl
    have g2 : ds.getD (i + 1) .none = d2 := by rw [List.getD_eq_getElem?_getD, e2] <;> rfl
    have m1 := List.mem_of_getElem? e1
    have m2 := List.mem_of_getElem? e2
    refine w_op ?_
    refine w_op (w_var rfl ?_)
    walk_at "rd"
    refine ⟨a, xs, _, _, rfl, rfl, SqL.of (kp.lst ha), atI_eq (by omega) x1, ?_⟩
    walk_at "rd"
    refine ⟨a, xs, _, _, rfl, rfl, SqL.of (kp.lst ha), atI_eq (by push_cast; omega) x2, ?_⟩
    refine ⟨d1, d2, p1, p2, hal _ m1 _ m2, (hdn _ m1).1, (hdn _ m1).2, ?_⟩
    have q := hk H1 kp
    rw [g1, g2] at q
    exact q
end
end Ky

namespace Ky
open PySem PySem.Spec PyProof.Rows L2
local macro_rules | `(tactic| walk_at "rd") => `(tactic| repeat (first
  | with_reducible refine w_seq ?_
  | with_reducible refine w_asg ?_
  | with_reducible refine w_ret ?_
  | with_reducible refine w_drop ?_
  | with_reducible refine w_ifs ?_
  | ((with_reducible refine' w_var ?hh ?_); (case hh => exact rfl))
  | with_reducible refine w_c ?_
  | with_reducible refine w_op ?_
  | with_reducible refine w_un ?_
  | with_reducible refine w_I0 ?_
  | with_reducible refine w_U ?_
  | with_reducible refine w_nil ?_
  | with_reducible refine w_cons ?_
  | with_reducible refine w_call ?_
  | with_reducible refine w_cb ?_
  | with_reducible refine w_test ?_
  | with_reducible refine w_B ?_
  | with_reducible refine w_bl ?_
  | with_reducible refine w_and ?_
  | with_reducible refine w_or ?_
  | with_reducible refine w_not ?_
  | with_reducible refine w_ife ?_
  | with_reducible refine w_gRd ?_
  | with_reducible refine w_andV ?_
  | with_reducible refine w_orV ?_
  | with_reducible refine w_notV ?_
  | with_reducible refine w_chain ?_
  | with_reducible refine w_din ?_
  | with_reducible refine w_isi_ii ?_
  | with_reducible refine w_isi_ib ?_
  | with_reducible refine w_isi_it ?_
  | with_reducible refine w_isi_st ?_
  | ((with_reducible refine w_isi_tt ?h1 ?_); (case h1 => first | assumption | exact upd_same))
  | with_reducible refine if_t rfl ?_
  | with_reducible refine if_f rfl ?_
  | with_reducible refine w_tup ?_
  | with_reducible refine w_lst ?_
  | with_reducible refine w_next ?_
  | with_reducible refine w_bm ?_
  | with_reducible refine w_sl ?_
  | with_reducible refine w_part ?_
  | with_reducible refine w_nop ?_
  | with_reducible refine w_isI ?_
  | with_reducible refine w_yes ?_
  | with_reducible refine w_gn ?_
  | with_reducible refine w_gsub ?_
  | ((with_reducible refine' w_setL ?h1 ?h2 ?_); (case h1 => first | assumption | exact upd_same); (case h2 => exact rfl))
  | with_reducible refine w_asgG ?_
  | with_reducible refine w_m1 ?_
  | with_reducible refine w_isS ?_
  | with_reducible refine w_tyS ?_
  | ((with_reducible refine' w_tyL ?h1 ?_); (case h1 => first | assumption | exact upd_same))
  | ((with_reducible refine' w_ixT ?h1 ?h2 ?_); (case h1 => first | assumption | exact upd_same); (case h2 => exact rfl))
  | ((with_reducible refine' w_ixL ?h1 ?h2 ?_); (case h1 => first | assumption | exact upd_same); (case h2 => exact rfl))
  | ((with_reducible refine w_eq ?h1 ?_); (case h1 => exact rfl))
  | ((with_reducible refine w_ne ?h1 ?_); (case h1 => exact rfl))
  | dsimp only [List.set_cons_zero, List.set_cons_succ, List.append_nil, List.cons_append, List.nil_append, cxOf]))

theorem keyD_alike (a b : Int) : PySem.W.alike (keyD a) (keyD b) = true := by simp [keyD, PySem.W.alike, PySem.W.alikeAll]
theorem keyD_depth (a : Int) : (keyD a).depth ≤ 60 := by simp [keyD, PyData.depth, PyData.depthAll]
def bothS (ls : List Int) : Bool := (List.range (ls.map V.int).length).any fun i => decide (-(ls.getD i 0) ∈ ls)
def clauseF (ls : List Int) : List Int := srtBy keyD (dd ls)
def spClauseOf (P0 : Addr) : Sp := fun vs H Q _ => ∃ (a : Addr) (ls : List Int), vs = [.ref a] ∧ H a = some (.lst (ls.map V.int)) ∧ ls.length ≤ 1000 ∧ GxR.TabG H P0 ∧ (bothS ls = true → ∀ H', Kept H H' → Q .non H') ∧
  (bothS ls = false → ∀ p H', Kept H H' → H p = none → H' p = some (.tup ((clauseF ls).map V.int)) → Q (.ref p) H')
section
variable {P : Program} {w : World} {K : PySem.W.Frag} {mg : Str → Option Value} {base : Heap} {uG : Value} {f : Addr} {fd : FuncData}
theorem ok_clause_of {c P0 : Addr} (F : FunC K "clause_of" s_clause_of f fd c) (T : Tx K mg uG) (TB : GxR.TabB base mg c P0) (D_literal_key : Df P w K mg base 1 "literal_key" ["literal"] spKey) : FnOk P w K mg base CX0 4 f fd ["literals"] (spClauseOf P0) := by
  obtain ⟨fK, fdK, FK, mK, kK, bK⟩ := D_literal_key.ex
  refine F.ok sc_clause_of (fun vs H Q E h => ?_) (fun A outer s H vs Q E hr h => ?_)
  · obtain ⟨a, ls, rfl, _⟩ := h
    rfl
  · obtain ⟨a, ls, rfl, ha, hz, hT, k1, k2⟩ := h
    refine ⟨_, (pss_cons (ps_set (i := 1) sc_clause_of.nd rfl (.inr rfl) (pe_dc (own := [("literal", 2)]) (g := gName 2) (by rfl) sc_clause_of.nd (pi_listK (K := K) rfl (pv 0)) (blkOk_by (own := [("literal", 2)]) (N := n_clause_of) (sc := defScope s_clause_of) (by decide +kernel)) (fun _ _ _ _ _ => pg_name (i := 2) sc_clause_of.nd rfl (Or.inl rfl)) (fun _ _ _ _ _ => pts_nil) (fun _ _ _ _ _ => (pv 2)) (fun _ _ _ _ _ => pe_bl)))
    (pss_cons (ps_if (pt_val (pe_anyG (k := 1) (own := [("literal", 2)]) (g := gName 2) (hr.mono (by decide)) (by rfl) T.z_any (by decide +kernel) rfl sc_clause_of.nd TB rfl ⟨blkOk_by (own := [("literal", 2)]) (N := n_clause_of) (sc := defScope s_clause_of) (by decide +kernel), rfl, by decide +kernel, rfl⟩ (pi_listK (K := K) rfl (pv 0)) (fun _ _ _ _ _ => pg_name (i := 2) sc_clause_of.nd rfl (Or.inl rfl)) (fun _ _ _ _ _ hr => (pe_cmp (pc_din hr.u1 (pe_un un_neg (pv 2)) (pv 1))))))
      (pss_one (ps_ret pe_non))
      pss_nil)
    (pss_one (ps_ret (pe_callTy call_tuple_of (by rfl) T.z_tuple (by decide +kernel) (pa_cons (pe_callBK (cr_sortedF (hr.mono (by decide)) FK bK) (by rfl) T.z_sorted (by decide +kernel) (pa_cons (pe_callTy (call_list_dK rfl) (by rfl) T.z_list (by decide +kernel) (pa_cons (pv 1) pa_nil)) pa_nil) (pk_cons (pe_glob (by rfl) mK (show RelV (.ref fK) _ from rfl)) pk_nil)) pa_nil)))))), ?_⟩
    rw [show start n_clause_of [(.ref a : V)] = ([some (.ref a), none, none] : List (Option V)) from rfl]
    walk_at "rd"
    refine rd_dcI (i0 := 0) (j := 2) rfl (by show 2 < 3; decide) ha (Nat.le_trans hz (by decide)) fun D hD => ?_
    walk_at "rd"
    have kD := Kept.new (o := .dK (setDict (keysI (dd ls)))) hD
    refine ⟨_, rfl, a, rfl, ⟨_, SqL.of (kD.lst ha)⟩, kD.tab P0 hT, fun H2 hT2 => ?_⟩
    have kp2 := Kept.tabbed (kD.tab P0 hT) hT2
    refine g_list (xs := ls.map V.int) (σ := [some (.ref a), some (.ref D), none]) (j := 2) (fun i => decide (-(ls.getD i 0) ∈ ls)) (fun H1 => Kept (upd H D (.dK (setDict (keysI (dd ls))))) H1) kp2 (fun H1 kp => SqL.of ((kD.trans kp).lst ha)) (fun i x H1 k' hx kp hk => ?_) (fun H1 kp => ?_)
    · obtain ⟨n, rfl, hn⟩ := map_int hx
      walk_at "rd"
      refine ⟨D, _, rfl, DGet.k (k := Sum.inl (-n)) (kp.keep D _ (fun ps z => by cases z) upd_same), ?_⟩
      have q := hk H1 kp
      have e1 : ls.getD i 0 = n := by rw [List.getD_eq_getElem?_getD, hn] <;> rfl
      have e2 : (valV (setDict (keysI (dd ls))) (Sum.inl (-n))).isSome = decide (-n ∈ ls) := by
        rw [valV_set]
        refine decide_eq_decide.mpr ⟨fun h => ?_, fun h => ?_⟩
        · obtain ⟨y, hy, e⟩ := List.mem_map.mp h
          rw [← Sum.inl.inj e]
          exact mem_dd.mp hy
        · exact List.mem_map.mpr ⟨_, mem_dd.mpr h, rfl⟩
      rw [e1] at q
      rw [e2]
      exact q
    · refine ⟨_, rfl, ?_⟩
      show if bothS ls = true then _ else _
      cases hb : bothS ls with
      | true =>
        refine if_t rfl ?_
        walk_at "rd"
        exact k1 hb H1 (kD.trans kp)
      | false =>
        refine if_f rfl ?_
        walk_at "rd"
        refine w_ckw ?_
        walk_at "rd"
        refine ⟨D, _, rfl, kp.keep D _ (fun ps z => by cases z) upd_same, fun q hq => ?_⟩
        walk_at "rd"
        rw [set_keys]
        have kq := (kD.trans kp).trans (Kept.new (o := .lst ((dd ls).map V.int)) hq)
        refine ⟨q, (dd ls).map V.int, (dd ls).map keyD, rfl, rfl, SqL.of upd_same, by rw [List.length_map, List.length_map], PySem.W.AllAlike.of keyD_alike, .inl fun d hd => ?_, fun d hd => ?_, fun i x d H3 hx hd kp3 => ?_, fun H3 kp3 p hp => ?_⟩
        · obtain ⟨n, _, rfl⟩ := List.mem_map.mp hd
          exact ⟨_, rfl⟩
        · obtain ⟨n, _, rfl⟩ := List.mem_map.mp hd
          exact keyD_depth n
        · obtain ⟨n, rfl, hn⟩ := map_int hx
          rw [List.getElem?_map, hn] at hd
          cases hd
          exact ⟨n, rfl, fun p hp => ⟨Kept.new hp, dp_key upd_same⟩⟩
        · walk_at "rd"
          refine ⟨p, _, rfl, .inl ⟨SqL.of upd_same, fun l hl => ?_⟩⟩
          have kp4 := (kq.trans kp3).trans (Kept.new (o := .lst (sortD ((dd ls).map V.int) ((dd ls).map keyD))) hp)
          refine k2 hb l _ (kp4.trans (Kept.new hl)) (kp4.free _ hl) ?_
          rw [sortD_map]
          exact upd_same
end
end Ky

namespace Ky
open PySem PySem.Spec PyProof.Rows L2
local macro_rules | `(tactic| walk_at "rd") => `(tactic| repeat (first
  | with_reducible refine w_seq ?_
  | with_reducible refine w_asg ?_
  | with_reducible refine w_ret ?_
  | with_reducible refine w_drop ?_
  | with_reducible refine w_ifs ?_
  | ((with_reducible refine' w_var ?hh ?_); (case hh => exact rfl))
  | with_reducible refine w_c ?_
  | with_reducible refine w_op ?_
  | with_reducible refine w_un ?_
  | with_reducible refine w_I0 ?_
  | with_reducible refine w_U ?_
  | with_reducible refine w_nil ?_
  | with_reducible refine w_cons ?_
  | with_reducible refine w_call ?_
  | with_reducible refine w_cb ?_
  | with_reducible refine w_test ?_
  | with_reducible refine w_B ?_
  | with_reducible refine w_bl ?_
  | with_reducible refine w_and ?_
  | with_reducible refine w_or ?_
  | with_reducible refine w_not ?_
  | with_reducible refine w_ife ?_
  | with_reducible refine w_gRd ?_
  | with_reducible refine w_andV ?_
  | with_reducible refine w_orV ?_
  | with_reducible refine w_notV ?_
  | with_reducible refine w_chain ?_
  | with_reducible refine w_din ?_
  | with_reducible refine w_isi_ii ?_
  | with_reducible refine w_isi_ib ?_
  | with_reducible refine w_isi_it ?_
  | with_reducible refine w_isi_st ?_
  | ((with_reducible refine w_isi_tt ?h1 ?_); (case h1 => first | assumption | exact upd_same))
  | with_reducible refine if_t rfl ?_
  | with_reducible refine if_f rfl ?_
  | with_reducible refine w_tup ?_
  | with_reducible refine w_lst ?_
  | with_reducible refine w_next ?_
  | with_reducible refine w_bm ?_
  | with_reducible refine w_sl ?_
  | with_reducible refine w_part ?_
  | with_reducible refine w_nop ?_
  | with_reducible refine w_isI ?_
  | with_reducible refine w_yes ?_
  | with_reducible refine w_gn ?_
  | with_reducible refine w_gsub ?_
  | ((with_reducible refine' w_setL ?h1 ?h2 ?_); (case h1 => first | assumption | exact upd_same); (case h2 => exact rfl))
  | with_reducible refine w_asgG ?_
  | with_reducible refine w_m1 ?_
  | with_reducible refine w_isS ?_
  | with_reducible refine w_tyS ?_
  | ((with_reducible refine' w_tyL ?h1 ?_); (case h1 => first | assumption | exact upd_same))
  | ((with_reducible refine' w_ixT ?h1 ?h2 ?_); (case h1 => first | assumption | exact upd_same); (case h2 => exact rfl))
  | ((with_reducible refine' w_ixL ?h1 ?h2 ?_); (case h1 => first | assumption | exact upd_same); (case h2 => exact rfl))
  | ((with_reducible refine w_eq ?h1 ?_); (case h1 => exact rfl))
  | ((with_reducible refine w_ne ?h1 ?_); (case h1 => exact rfl))
  | dsimp only [List.set_cons_zero, List.set_cons_succ, List.append_nil, List.cons_append, List.nil_append, cxOf]))

theorem ckD_alike : ∀ (a b : List Int), PySem.W.alike (ckD a) (ckD b) = true := by
  have aux : ∀ (a b : List Int), PySem.W.alikeAll (a.map keyD) (b.map keyD) = true := by
    intro a
    induction a with
    | nil => intro b; simp [PySem.W.alikeAll]
    | cons x a ih =>
      intro b
      cases b with
      | nil => simp [PySem.W.alikeAll]
      | cons y b =>
        rw [List.map_cons, List.map_cons, PySem.W.alikeAll, keyD_alike, ih]
        rfl
  intro a b
  unfold ckD
  simp only [PySem.W.alike]
  exact aux a b
theorem ckD_depth (a : List Int) : (ckD a).depth ≤ 60 := by
  have aux : ∀ a : List Int, PyData.depthAll (a.map keyD) ≤ 2 := by
    intro a
    induction a with
    | nil => simp [PyData.depthAll]
    | cons x a ih =>
      rw [List.map_cons, PyData.depthAll]
      have h1 : (keyD x).depth ≤ 2 := by simp [keyD, PyData.depth, PyData.depthAll]
      omega
  unfold ckD
  simp only [PyData.depth]
  have := aux a
  omega
/-- rows of clauses at these places -/
def ClsAt (H : Hp) (bs : List Addr) (cs : List (List Int)) : Prop := bs.length = cs.length ∧ ∀ (i : Nat) (b : Addr) (c : List Int), bs[i]? = some b → cs[i]? = some c → H b = some (.tup (c.map V.int))
theorem ClsAt.kept {H H' : Hp} {bs : List Addr} {cs : List (List Int)} (h : ClsAt H bs cs) (k : Kept H H') : ClsAt H' bs cs := ⟨h.1, fun i b c h1 h2 => k.tup (h.2 i b c h1 h2)⟩
def residueF (cs : List (List Int)) : List (List Int) := srtBy ckD (dd cs)
theorem clsAt_zip {H : Hp} {bs : List Addr} {cs : List (List Int)} (h : ClsAt H bs cs) : ∀ p ∈ bs.zip cs, H p.1 = some (.tup (p.2.map V.int)) := fun p hp => by
  obtain ⟨i, hi⟩ := List.mem_iff_getElem?.mp hp
  rw [List.getElem?_zip_eq_some] at hi
  exact h.2 i _ _ hi.1 hi.2
theorem clsAt_of {H : Hp} {zs : List (Addr × List Int)} (h : ∀ p ∈ zs, H p.1 = some (.tup (p.2.map V.int))) : ClsAt H (zs.map (·.1)) (zs.map (·.2)) := by
  refine ⟨by rw [List.length_map, List.length_map], fun i b c h1 h2 => ?_⟩
  rw [List.getElem?_map] at h1 h2
  obtain ⟨p, hp, rfl⟩ := Option.map_eq_some_iff.mp h1
  rw [hp] at h2
  cases h2
  exact h p (List.mem_of_getElem? hp)
theorem sort_cls {H : Hp} {bs : List Addr} {cs : List (List Int)} (h : ClsAt H bs cs) : ∃ bs', sortD (bs.map V.ref) (cs.map ckD) = bs'.map V.ref ∧ ClsAt H bs' (srtBy ckD cs) := by
  have e1 : bs = (bs.zip cs).map (·.1) := (List.map_fst_zip (by rw [h.1]; exact Nat.le_refl _)).symm
  have e2 : cs = (bs.zip cs).map (·.2) := (List.map_snd_zip (by rw [h.1]; exact Nat.le_refl _)).symm
  refine ⟨(srtBy (fun p : Addr × List Int => ckD p.2) (bs.zip cs)).map (·.1), ?_, ?_⟩
  · have q := sortD_map (fun p : Addr × List Int => V.ref p.1) (fun p : Addr × List Int => ckD p.2) (bs.zip cs)
    have a1 : (bs.zip cs).map (fun p : Addr × List Int => V.ref p.1) = bs.map V.ref := by
      conv => rhs; rw [e1]
      rw [List.map_map] <;> rfl
    have a2 : (bs.zip cs).map (fun p : Addr × List Int => ckD p.2) = cs.map ckD := by
      conv => rhs; rw [e2]
      rw [List.map_map] <;> rfl
    rw [a1, a2] at q
    rw [q, List.map_map] <;> rfl
  · have q := srtBy_map (fun p : Addr × List Int => p.2) ckD (bs.zip cs)
    rw [← e2] at q
    rw [← q]
    exact clsAt_of fun p hp => clsAt_zip h p (mem_srtBy.mp hp)
theorem isKeys_cls {H : Hp} {cs : List (List Int)} {bs : List Addr} (h : IsKeys H (setDict (cs.map keysI)) bs) : ClsAt H bs cs := by
  induction cs generalizing bs with
  | nil =>
    cases h
    exact ⟨rfl, fun i b c h1 _ => by simp at h1⟩
  | cons c cs ih =>
    cases h with
    | cons h1 h2 =>
      obtain ⟨l1, l2⟩ := ih h2
      refine ⟨by rw [List.length_cons, List.length_cons, l1], fun i b d e1 e2 => ?_⟩
      cases i with
      | zero =>
        cases e1
        cases e2
        have z := h1
        rw [keysI_kV] at z
        exact z
      | succ i => exact l2 i b d (by simpa using e1) (by simpa using e2)
def spResidueOf : Sp := fun vs H Q _ => ∃ (a : Addr) (bs : List Addr) (cs : List (List Int)), vs = [.ref a] ∧ H a = some (.lst (bs.map V.ref)) ∧ ClsAt H bs cs ∧ cs.length ≤ 1000 ∧ (∀ c ∈ cs, c.length ≤ 1000) ∧
  ∀ p H' bs', Kept H H' → H p = none → H' p = some (.tup (bs'.map V.ref)) → ClsAt H' bs' (residueF cs) → Q (.ref p) H'
section
variable {P : Program} {w : World} {K : PySem.W.Frag} {mg : Str → Option Value} {base : Heap} {uG : Value} {f : Addr} {fd : FuncData}
theorem ok_residue_of (F : Fun K "residue_of" "residue_of" s_residue_of f fd) (T : Tx K mg uG) (D_clause_key : Df P w K mg base 2 "clause_key" ["clause"] spCKey) : FnOk P w K mg base CX0 4 f fd ["clauses"] spResidueOf := by
  obtain ⟨fK, fdK, FK, mK, kK, bK⟩ := D_clause_key.ex
  refine F.ok sc_residue_of (fun vs H Q E h => ?_) (fun cdv A outer s H vs Q E hr h => ?_)
  · obtain ⟨a, bs, cs, rfl, _⟩ := h
    rfl
  · obtain ⟨a, bs, cs, rfl, ha, hc, hz, hz2, k⟩ := h
    refine ⟨_, (pss_cons (ps_setDcT (i := 1) (own := [("clause", 2)]) (g := gName 2) rfl rfl (sw_trueD rfl rfl rfl (by decide +kernel)) hr.u1 (by rfl) sc_residue_of.nd (pi_listK (K := K) rfl (pv 0)) (blkOk_by (own := [("clause", 2)]) (N := n_residue_of) (sc := defScope s_residue_of) (by decide +kernel)) (fun _ _ _ _ _ => pg_name (i := 2) sc_residue_of.nd rfl (Or.inl rfl)) (fun _ _ _ _ _ => pts_nil) (fun _ _ _ _ _ => (pv 2)) (fun _ _ _ _ _ => pe_bl))
    (pss_one (ps_ret (pe_callTy call_tuple_of (by rfl) T.z_tuple (by decide +kernel) (pa_cons (pe_callBK (cr_sortedF (hr.mono (by decide)) FK bK) (by rfl) T.z_sorted (by decide +kernel) (pa_cons (pe_callTy (call_list_dT rfl) (by rfl) T.z_list (by decide +kernel) (pa_cons (pv 1) pa_nil)) pa_nil) (pk_cons (pe_glob (by rfl) mK (show RelV (.ref fK) _ from rfl)) pk_nil)) pa_nil))))), ?_⟩
    rw [show start n_residue_of [(.ref a : V)] = ([some (.ref a), none, none] : List (Option V)) from rfl]
    walk_at "rd"
    refine rd_dcT (i0 := 0) (j := 2) rfl (by show 2 < 3; decide) ha hc.1 hc.2 (Nat.le_trans hz (by decide)) fun D hD => ?_
    have kD := Kept.new (o := .dT (setDict ((dd cs).map keysI))) hD
    walk_at "rd"
    refine w_ckw ?_
    walk_at "rd"
    refine ⟨D, _, rfl, .inl upd_same, fun q bs2 hq hk => ?_⟩
    walk_at "rd"
    have kq := kD.trans (Kept.new (o := .lst (bs2.map V.ref)) hq)
    have hc2 := isKeys_cls hk
    have hz3 : ∀ c ∈ dd cs, c.length ≤ 1000 := fun c hm => hz2 c (mem_dd.mp hm)
    refine ⟨q, bs2.map V.ref, (dd cs).map ckD, rfl, rfl, SqL.of upd_same, by rw [List.length_map, List.length_map, hc2.1], PySem.W.AllAlike.of ckD_alike, .inl fun d hd => ?_, fun d hd => ?_, fun i x d H3 hx hd kp3 => ?_, fun H3 kp3 p hp => ?_⟩
    · obtain ⟨n, _, rfl⟩ := List.mem_map.mp hd
      exact ⟨_, rfl⟩
    · obtain ⟨n, _, rfl⟩ := List.mem_map.mp hd
      exact ckD_depth n
    · rw [List.getElem?_map] at hx hd
      obtain ⟨b, hb, rfl⟩ := Option.map_eq_some_iff.mp hx
      obtain ⟨c, hcc, rfl⟩ := Option.map_eq_some_iff.mp hd
      have e := ((hc2.kept (Kept.new (o := .lst (bs2.map V.ref)) hq)).kept kp3).2 i b c hb hcc
      exact ⟨b, c, rfl, e, Nat.le_trans (hz3 c (List.mem_of_getElem? hcc)) (by decide), fun ps p H' kp hp e1 e2 e3 => ⟨kp, dp_ckey e1 e2 e3⟩⟩
    · walk_at "rd"
      obtain ⟨bs', es, hs⟩ := sort_cls ((hc2.kept (Kept.new (o := .lst (bs2.map V.ref)) hq)).kept kp3)
      rw [es]
      refine ⟨p, _, rfl, .inl ⟨SqL.of upd_same, fun l hl => ?_⟩⟩
      have k5 := Kept.new (o := .lst (bs'.map V.ref)) hp
      have k6 := Kept.new (o := .tup (bs'.map V.ref)) hl
      have kp4 := ((kq.trans kp3).trans k5).trans k6
      exact k l _ bs' kp4 (((kq.trans kp3).trans k5).free _ hl) upd_same ((hs.kept k5).kept k6)
end
end Ky

namespace Ky
open PySem PySem.Spec PyProof.Rows L2
local macro_rules | `(tactic| walk_at "rd") => `(tactic| repeat (first
  | with_reducible refine w_seq ?_
  | with_reducible refine w_asg ?_
  | with_reducible refine w_ret ?_
  | with_reducible refine w_drop ?_
  | with_reducible refine w_ifs ?_
  | ((with_reducible refine' w_var ?hh ?_); (case hh => exact rfl))
  | with_reducible refine w_c ?_
  | with_reducible refine w_op ?_
  | with_reducible refine w_un ?_
  | with_reducible refine w_I0 ?_
  | with_reducible refine w_U ?_
  | with_reducible refine w_nil ?_
  | with_reducible refine w_cons ?_
  | with_reducible refine w_call ?_
  | with_reducible refine w_cb ?_
  | with_reducible refine w_test ?_
  | with_reducible refine w_B ?_
  | with_reducible refine w_bl ?_
  | with_reducible refine w_and ?_
  | with_reducible refine w_or ?_
  | with_reducible refine w_not ?_
  | with_reducible refine w_ife ?_
  | with_reducible refine w_gRd ?_
  | with_reducible refine w_andV ?_
  | with_reducible refine w_orV ?_
  | with_reducible refine w_notV ?_
  | with_reducible refine w_chain ?_
  | with_reducible refine w_din ?_
  | with_reducible refine w_isi_ii ?_
  | with_reducible refine w_isi_ib ?_
  | with_reducible refine w_isi_it ?_
  | with_reducible refine w_isi_st ?_
  | ((with_reducible refine w_isi_tt ?h1 ?_); (case h1 => first | assumption | exact upd_same))
  | with_reducible refine if_t rfl ?_
  | with_reducible refine if_f rfl ?_
  | with_reducible refine w_tup ?_
  | with_reducible refine w_lst ?_
  | with_reducible refine w_next ?_
  | with_reducible refine w_bm ?_
  | with_reducible refine w_sl ?_
  | with_reducible refine w_part ?_
  | with_reducible refine w_nop ?_
  | with_reducible refine w_isI ?_
  | with_reducible refine w_yes ?_
  | with_reducible refine w_gn ?_
  | with_reducible refine w_gsub ?_
  | ((with_reducible refine' w_setL ?h1 ?h2 ?_); (case h1 => first | assumption | exact upd_same); (case h2 => exact rfl))
  | with_reducible refine w_asgG ?_
  | with_reducible refine w_m1 ?_
  | with_reducible refine w_isS ?_
  | with_reducible refine w_tyS ?_
  | ((with_reducible refine' w_tyL ?h1 ?_); (case h1 => first | assumption | exact upd_same))
  | ((with_reducible refine' w_ixT ?h1 ?h2 ?_); (case h1 => first | assumption | exact upd_same); (case h2 => exact rfl))
  | ((with_reducible refine' w_ixL ?h1 ?h2 ?_); (case h1 => first | assumption | exact upd_same); (case h2 => exact rfl))
  | ((with_reducible refine w_eq ?h1 ?_); (case h1 => exact rfl))
  | ((with_reducible refine w_ne ?h1 ?_); (case h1 => exact rfl))
  | dsimp only [List.set_cons_zero, List.set_cons_succ, List.append_nil, List.cons_append, List.nil_append, cxOf]))

theorem dpAll_ints {K : PySem.W.Frag} {H : Hp} : ∀ ls : List Int, DpAll K H (ls.map V.int) (ls.map PyData.int)
  | [] => .nil
  | n :: ls => .cons (.int n) (dpAll_ints ls)
def absAll (cs : List (List Int)) : List Int := cs.flatten.map absI
def spVarsOf : Sp := fun vs H Q _ => ∃ (a : Addr) (bs : List Addr) (cs : List (List Int)), vs = [.ref a] ∧ H a = some (.tup (bs.map V.ref)) ∧ ClsAt H bs cs ∧ cs.flatten.length ≤ 60 ∧
  ∀ (ns : List Int) p H', ns.Pairwise (· < ·) → (∀ k, k ∈ ns ↔ k ∈ absAll cs) → Kept H H' → H p = none → H' p = some (.tup (ns.map V.int)) → Q (.ref p) H'
def isClauseF (ls : List Int) : Bool := (List.range (ls.map V.int).length).all (fun i => isLit (ls.getD i 0)) && ascD (ls.map fun n => .int (absI n))
def spIsClause (K : PySem.W.Frag) (P1 P2 : Addr) : Sp := fun vs H Q _ => (∃ z, vs = [.str z] ∧ Q (.bl false) H) ∨
  ∃ (a : Addr) (ls : List Int), vs = [.ref a] ∧ H a = some (.tup (ls.map V.int)) ∧ ls.length ≤ 1000 ∧ GxR.TabG H P1 ∧ GxR.TabG H P2 ∧ ∀ H', Kept H H' → Q (.bl (isClauseF ls)) H'
section
variable {P : Program} {w : World} {K : PySem.W.Frag} {mg : Str → Option Value} {base : Heap} {uG : Value} {f : Addr} {fd : FuncData}
theorem ok_variables_of (F : Fun K "variables_of" "variables_of" s_variables_of f fd) (T : Tx K mg uG) : FnOk P w K mg base CX0 1 f fd ["residue"] spVarsOf := by
  refine F.ok sc_variables_of (fun vs H Q E h => ?_) (fun cdv A outer s H vs Q E hr h => ?_)
  · obtain ⟨a, bs, cs, rfl, _⟩ := h
    rfl
  · obtain ⟨a, bs, cs, rfl, ha, hc, hz, k⟩ := h
    refine ⟨_, (pss_one (ps_ret (pe_callTy call_tuple_of (by rfl) T.z_tuple (by decide +kernel) (pa_cons (pe_callB (cr_sortedSet rfl) (by rfl) T.z_sorted (by decide +kernel) (pa_cons (pe_sc2 (own := [("clause", 1), ("literal", 2)]) (vs1 := [2]) (g := gName 1) (g1 := gName 2) (by rfl) sc_variables_of.nd (pi_tupK (K := K) rfl (pv 0)) (blkOk_by (own := [("clause", 1), ("literal", 2)]) (N := n_variables_of) (sc := defScope s_variables_of) (by decide +kernel)) (by decide) (fun _ _ _ _ _ => pg_name (i := 1) sc_variables_of.nd rfl (Or.inl rfl)) (fun _ _ _ _ _ => (pi_tupK (K := K) rfl (pv 1))) (fun _ _ _ _ _ => pg_name (i := 2) sc_variables_of.nd rfl (Or.inl rfl)) (fun _ _ _ _ _ => (pe_callB call_abs (by rfl) T.z_abs (by decide +kernel) (pa_cons (pv 2) pa_nil)))) pa_nil)) pa_nil)))), ?_⟩
    rw [show start n_variables_of [(.ref a : V)] = ([some (.ref a), none, none] : List (Option V)) from rfl]
    walk_at "rd"
    refine ⟨_, rfl, a, rfl, ⟨_, SqT.of ha⟩, fun D hD => ?_⟩
    refine c_tup (xs := bs.map V.ref) (fun i H1 => H1 = upd H D (SetO w D (fun k => decide (k ∈ absAll (cs.take i))) (dd (absAll (cs.take i))).length)) ?_ (fun i H1 _ h => by rw [h]; exact SqT.of ((Kept.new hD).tup ha)) (fun i x H1 hx h => ?_) fun H1 h => ?_
    · rw [List.take_zero]
      have e : (fun k => decide (k ∈ absAll [])) = fun _ => false := by
        funext k
        simp [absAll]
      rw [e] <;> rfl
    · rw [List.getElem?_map] at hx
      obtain ⟨b, hb, rfl⟩ := Option.map_eq_some_iff.mp hx
      have hi : i < cs.length := by rw [← hc.1]; exact (List.getElem?_eq_some_iff.mp hb).1
      have hci : cs[i]? = some cs[i] := List.getElem?_eq_getElem hi
      have e1 := hc.2 i b _ hb hci
      have et : cs.take (i + 1) = cs.take i ++ [cs[i]] := by rw [List.take_add_one, hci]; rfl
      have ea : absAll (cs.take (i + 1)) = absAll (cs.take i) ++ cs[i].map absI := by
        rw [et]
        unfold absAll
        rw [List.flatten_append, List.map_append]
        simp
      have hlen : (absAll (cs.take i)).length + cs[i].length ≤ 60 := by
        have h1 : (absAll (cs.take (i + 1))).length ≤ cs.flatten.length := by
          unfold absAll
          rw [List.length_map]
          have h2 : (cs.take (i + 1)).flatten.length ≤ ((cs.take (i + 1)) ++ cs.drop (i + 1)).flatten.length := by
            rw [List.flatten_append, List.length_append]
            omega
          rw [List.take_append_drop] at h2
          exact h2
        rw [ea, List.length_append, List.length_map] at h1
        omega
      refine ⟨rfl, _, rfl, b, rfl, ⟨_, SqT.of (by rw [h]; exact (Kept.new hD).tup e1)⟩, ?_⟩
      refine c_tup (xs := cs[i].map V.int) (fun j H2 => H2 = upd H D (SetO w D (fun k => decide (k ∈ absAll (cs.take i) ++ (cs[i].take j).map absI)) (dd (absAll (cs.take i) ++ (cs[i].take j).map absI)).length)) (by rw [h, List.take_zero, List.map_nil, List.append_nil]) (fun j H2 _ h2 => by rw [h2]; exact SqT.of ((Kept.new hD).tup e1)) (fun j x H2 hx h2 => ?_) fun H2 h2 => ?_
      · obtain ⟨n, rfl, hn⟩ := map_int hx
        refine ⟨rfl, ?_⟩
        walk_at "rd"
        refine ⟨n, rfl, ?_⟩
        walk_at "rd"
        have en : cs[i].take (j + 1) = cs[i].take j ++ [n] := by rw [List.take_add_one, hn]; rfl
        refine ⟨absI n, _, _, rfl, by rw [h2]; exact upd_same, ?_, ?_⟩
        · have h3 := len_dd (absAll (cs.take i) ++ (cs[i].take j).map absI)
          rw [List.length_append, List.length_map, List.length_take] at h3
          have h4 : 62 < scanBound := by decide
          omega
        · rw [h2, upd_again, set_step, set_len, en, List.map_append, List.append_assoc] <;> rfl
      · rw [h2, List.length_map, List.take_length, ← ea]
    · rw [List.length_map, hc.1, List.take_length] at h
      walk_at "rd"
      refine ⟨D, _, _, rfl, by rw [h]; exact upd_same, ?_, fun ns p h1 h2 h3 hp => ?_⟩
      · have h3 := len_dd (absAll cs)
        unfold absAll at h3 ⊢
        rw [List.length_map] at h3
        omega
      · walk_at "rd"
        have kD := Kept.new (o := SetO w D (fun k => decide (k ∈ absAll cs)) (dd (absAll cs)).length) hD
        rw [← h] at kD
        have k2 := kD.trans (Kept.new (o := .lst (ns.map V.int)) hp)
        refine ⟨p, _, rfl, .inl ⟨SqL.of upd_same, fun l hl => ?_⟩⟩
        exact k ns l _ h1 (fun k => by rw [h2 k]; exact decide_eq_true_iff) (k2.trans (Kept.new hl)) (k2.free _ hl) upd_same
theorem ok_is_clause {c P1 P2 : Addr} (F : FunC K "is_clause" s_is_clause f fd c) (T : Tx K mg uG) (TB : GxR.TabB base mg c P1) (D_is_literal : Df P w K mg base 3 "is_literal" ["value"] spLit) (D_ascends : Df P w K mg base 4 "ascends" ["keys"] (spAsc K P2)) : FnOk P w K mg base CX0 7 f fd ["value"] (spIsClause K P1 P2) := by
  refine F.ok sc_is_clause (fun vs H Q E h => ?_) (fun A outer s H vs Q E hr h => ?_)
  · rcases h with ⟨z, rfl, _⟩ | ⟨a, ls, rfl, _⟩ <;> rfl
  · rcases h with ⟨z, rfl, k⟩ | ⟨a, ls, rfl, ha, hz, hT1, hT2, k⟩
    · refine ⟨_, (pss_cons (ps_if (PW.pt (pw_or (pt_not (pt_val (pe_callB call_isi (by rfl) T.z_isinstance (by decide +kernel) (pa_cons (pv 0) (pa_cons (pe_bltn (by rfl) T.z_tuple (by decide +kernel) (show RelV (.ty "tuple") _ from rfl)) pa_nil))))) (pw_or1 (pt_not (pt_val (pe_allG (k := 4) (own := [("item", 1)]) (g := gName 1) (hr.mono (by decide)) (by rfl) T.z_all (by decide +kernel) rfl sc_is_clause.nd TB rfl ⟨blkOk_by (own := [("item", 1)]) (N := n_is_clause) (sc := defScope s_is_clause) (by decide +kernel), rfl, by decide +kernel, rfl⟩ (pi_tupK (K := K) rfl (pv 0)) (fun _ _ _ _ _ => pg_name (i := 1) sc_is_clause.nd rfl (Or.inl rfl)) (fun _ _ _ _ _ hr => (pe_df D_is_literal (hr.mono (by decide)) (by rfl) (pa_cons (pv 1) pa_nil)))))))))
      (pss_one (ps_ret pe_bl))
      pss_nil)
    (pss_one (ps_ret (pe_df D_ascends (hr.mono (by decide)) (by rfl) (pa_cons (pe_lc (own := [("literal", 2)]) (g := gName 2) (by rfl) sc_is_clause.nd (pi_tupK (K := K) rfl (pv 0)) (blkOk_by (own := [("literal", 2)]) (N := n_is_clause) (sc := defScope s_is_clause) (by decide +kernel)) (fun _ _ _ _ _ => pg_name (i := 2) sc_is_clause.nd rfl (Or.inl rfl)) (fun _ _ _ _ _ => pts_nil) (fun _ _ _ _ _ => (pe_callB call_abs (by rfl) T.z_abs (by decide +kernel) (pa_cons (pv 2) pa_nil)))) pa_nil))))), ?_⟩
      rw [show start n_is_clause [(.str z : V)] = ([some (.str z), none, none] : List (Option V)) from rfl]
      walk_at "rd"
      exact k
    · refine ⟨_, (pss_cons (ps_if (PW.pt (pw_or (pt_not (pt_val (pe_callB call_isi (by rfl) T.z_isinstance (by decide +kernel) (pa_cons (pv 0) (pa_cons (pe_bltn (by rfl) T.z_tuple (by decide +kernel) (show RelV (.ty "tuple") _ from rfl)) pa_nil))))) (pw_or1 (pt_not (pt_val (pe_allG (k := 4) (own := [("item", 1)]) (g := gName 1) (hr.mono (by decide)) (by rfl) T.z_all (by decide +kernel) rfl sc_is_clause.nd TB rfl ⟨blkOk_by (own := [("item", 1)]) (N := n_is_clause) (sc := defScope s_is_clause) (by decide +kernel), rfl, by decide +kernel, rfl⟩ (pi_tupK (K := K) rfl (pv 0)) (fun _ _ _ _ _ => pg_name (i := 1) sc_is_clause.nd rfl (Or.inl rfl)) (fun _ _ _ _ _ hr => (pe_df D_is_literal (hr.mono (by decide)) (by rfl) (pa_cons (pv 1) pa_nil)))))))))
      (pss_one (ps_ret pe_bl))
      pss_nil)
    (pss_one (ps_ret (pe_df D_ascends (hr.mono (by decide)) (by rfl) (pa_cons (pe_lc (own := [("literal", 2)]) (g := gName 2) (by rfl) sc_is_clause.nd (pi_tupK (K := K) rfl (pv 0)) (blkOk_by (own := [("literal", 2)]) (N := n_is_clause) (sc := defScope s_is_clause) (by decide +kernel)) (fun _ _ _ _ _ => pg_name (i := 2) sc_is_clause.nd rfl (Or.inl rfl)) (fun _ _ _ _ _ => pts_nil) (fun _ _ _ _ _ => (pe_callB call_abs (by rfl) T.z_abs (by decide +kernel) (pa_cons (pv 2) pa_nil)))) pa_nil))))), ?_⟩
      rw [show start n_is_clause [(.ref a : V)] = ([some (.ref a), none, none] : List (Option V)) from rfl]
      walk_at "rd"
      refine w_isi_tt ha ?_
      walk_at "rd"
      refine ⟨_, rfl, a, rfl, ⟨_, SqT.of ha⟩, hT1, fun H2 hT2' => ?_⟩
      refine g_tup (xs := ls.map V.int) (σ := [some (.ref a), none, none]) (j := 1) (fun i => isLit (ls.getD i 0)) (fun H1 => Kept H H1) (Kept.tabbed hT1 hT2') (fun H1 kp => SqT.of (kp.tup ha)) (fun i x H1 k' hx kp hk => ?_) (fun H1 kp => ?_)
      · obtain ⟨n, rfl, hn⟩ := map_int hx
        walk_at "rd"
        refine ⟨n, rfl, ?_⟩
        have q := hk H1 kp
        have e1 : ls.getD i 0 = n := by rw [List.getD_eq_getElem?_getD, hn] <;> rfl
        rw [e1] at q
        exact q
      · refine ⟨_, rfl, ?_⟩
        show if (!((List.range (ls.map V.int).length).all fun i => isLit (ls.getD i 0))) = true then _ else _
        cases hb : (List.range (ls.map V.int).length).all fun i => isLit (ls.getD i 0) with
        | false =>
          refine if_t rfl ?_
          walk_at "rd"
          have q := k H1 kp
          unfold isClauseF at q
          rw [hb, Bool.false_and] at q
          exact q
        | true =>
          refine if_f rfl ?_
          walk_at "rd"
          refine ⟨_, rfl, a, rfl, ⟨_, SqT.of (kp.tup ha)⟩, fun D hD => ?_⟩
          refine c_tup (xs := ls.map V.int) (fun i H2 => H2 = upd H1 D (.lst ((ls.take i).map fun n => V.int (absI n)))) (by rw [List.take_zero]; rfl) (fun i H2 _ h => by rw [h]; exact SqT.of ((kp.trans (Kept.new hD)).tup ha)) (fun i x H2 hx h => ?_) fun H2 h => ?_
          · obtain ⟨n, rfl, hn⟩ := map_int hx
            refine ⟨rfl, w_yes (if_t rfl ?_)⟩
            walk_at "rd"
            refine ⟨n, rfl, ?_⟩
            walk_at "rd"
            have et : ls.take (i + 1) = ls.take i ++ [n] := by rw [List.take_add_one, hn]; rfl
            refine ⟨_, by rw [h]; exact upd_same, ?_, ?_⟩
            · rw [List.length_map, List.length_take]
              have h1 : i < ls.length := (List.getElem?_eq_some_iff.mp hn).1
              have h2 : 1000 ≤ sizeLine := by decide
              omega
            · rw [h, upd_again, et, List.map_append] <;> rfl
          · walk_at "rd"
            rw [List.length_map, List.take_length] at h
            have kD := Kept.new (o := .lst (ls.map fun n => V.int (absI n))) hD
            rw [← h] at kD
            have kp2 := kp.trans kD
            refine ⟨D, _, ls.map fun n => PyData.int (absI n), rfl, by rw [h]; exact upd_same, by rw [List.length_map]; exact Nat.le_trans hz (by decide), ?_, PySem.W.AllAlike.of (fun a b => by simp [PySem.W.alike]), fun d hd => ?_, kp2.tab P2 hT2, fun H3 kp3 => ?_⟩
            · have q := dpAll_ints (K := K) (H := H2) (ls.map absI)
              rw [List.map_map, List.map_map] at q
              exact q
            · obtain ⟨n, _, rfl⟩ := List.mem_map.mp hd
              exact ⟨fun z => (by cases z), by simp [PyData.depth]⟩
            · have q := k H3 (kp2.trans kp3)
              unfold isClauseF at q
              rw [hb, Bool.true_and] at q
              exact q
/-- the keys of the clause d stand at p -/
def CkAt (H : Hp) (p : Addr) (d : List Int) : Prop := ∃ qs : List Addr, H p = some (.tup (qs.map V.ref)) ∧ qs.length = d.length ∧ ∀ (i : Nat) (q : Addr) (n : Int), qs[i]? = some q → d[i]? = some n → H q = some (.tup (keyV n))
theorem CkAt.kept {H H' : Hp} {p : Addr} {d : List Int} (h : CkAt H p d) (k : Kept H H') : CkAt H' p d := by
  obtain ⟨qs, h1, h2, h3⟩ := h
  exact ⟨qs, k.tup h1, h2, fun i q n a b => k.tup (h3 i q n a b)⟩
theorem tup_upd {H : Hp} {D q : Addr} {xs ys : List V} {o : HO} (hD : H D = some (.lst xs)) (h : H q = some (.tup ys)) : upd H D o q = some (.tup ys) := by
  rw [upd_ne (fun z => by
    rw [z, hD] at h
    cases h)]
  exact h
theorem CkAt.updL {H : Hp} {p D : Addr} {d : List Int} {xs : List V} {o : HO} (h : CkAt H p d) (hD : H D = some (.lst xs)) : CkAt (upd H D o) p d := by
  obtain ⟨qs, h1, h2, h3⟩ := h
  exact ⟨qs, tup_upd hD h1, h2, fun i q n a b => tup_upd hD (h3 i q n a b)⟩
theorem CkAt.dp {K : PySem.W.Frag} {H : Hp} {p : Addr} {d : List Int} (h : CkAt H p d) : Dp K H (.ref p) (ckD d) := by
  obtain ⟨qs, h1, h2, h3⟩ := h
  exact dp_ckey h1 h2 h3
def isResidueF (cs : List (List Int)) : Bool := (List.range cs.length).all (fun i => isClauseF (cs.getD i [])) && ascD (cs.map ckD)
def spIsResidue (K : PySem.W.Frag) (P1 P2 P3 : Addr) : Sp := fun vs H Q _ => ∃ (a : Addr) (bs : List Addr) (cs : List (List Int)), vs = [.ref a] ∧ H a = some (.tup (bs.map V.ref)) ∧ ClsAt H bs cs ∧ cs.length ≤ 1000 ∧ (∀ c ∈ cs, c.length ≤ 1000) ∧ GxR.TabG H P1 ∧ GxR.TabG H P2 ∧ GxR.TabG H P3 ∧ ∀ H', Kept H H' → Q (.bl (isResidueF cs)) H'
theorem ok_is_residue {c P1 P2 P3 : Addr} (F : FunC K "is_residue" s_is_residue f fd c) (T : Tx K mg uG) (TB : GxR.TabB base mg c P3) (D_clause_key : Df P w K mg base 2 "clause_key" ["clause"] spCKey) (D_is_clause : Df P w K mg base 7 "is_clause" ["value"] (spIsClause K P1 P2)) (D_ascends : Df P w K mg base 4 "ascends" ["keys"] (spAsc K P2)) : FnOk P w K mg base CX0 10 f fd ["value"] (spIsResidue K P1 P2 P3) := by
  refine F.ok sc_is_residue (fun vs H Q E h => ?_) (fun A outer s H vs Q E hr h => ?_)
  · obtain ⟨a, bs, cs, rfl, _⟩ := h
    rfl
  · obtain ⟨a, bs, cs, rfl, ha, hc, hz, hz2, hT1, hT2, hT3, k⟩ := h
    refine ⟨_, (pss_cons (ps_if (PW.pt (pw_or (pt_not (pt_val (pe_callB call_isi (by rfl) T.z_isinstance (by decide +kernel) (pa_cons (pv 0) (pa_cons (pe_bltn (by rfl) T.z_tuple (by decide +kernel) (show RelV (.ty "tuple") _ from rfl)) pa_nil))))) (pw_or1 (pt_not (pt_val (pe_allG (k := 7) (own := [("item", 1)]) (g := gName 1) (hr.mono (by decide)) (by rfl) T.z_all (by decide +kernel) rfl sc_is_residue.nd TB rfl ⟨blkOk_by (own := [("item", 1)]) (N := n_is_residue) (sc := defScope s_is_residue) (by decide +kernel), rfl, by decide +kernel, rfl⟩ (pi_tupK (K := K) rfl (pv 0)) (fun _ _ _ _ _ => pg_name (i := 1) sc_is_residue.nd rfl (Or.inl rfl)) (fun _ _ _ _ _ hr => (pe_df D_is_clause (hr.mono (by decide)) (by rfl) (pa_cons (pv 1) pa_nil)))))))))
      (pss_one (ps_ret pe_bl))
      pss_nil)
    (pss_one (ps_ret (pe_df D_ascends (hr.mono (by decide)) (by rfl) (pa_cons (pe_lc (own := [("clause", 2)]) (g := gName 2) (by rfl) sc_is_residue.nd (pi_tupK (K := K) rfl (pv 0)) (blkOk_by (own := [("clause", 2)]) (N := n_is_residue) (sc := defScope s_is_residue) (by decide +kernel)) (fun _ _ _ _ _ => pg_name (i := 2) sc_is_residue.nd rfl (Or.inl rfl)) (fun _ _ _ _ _ => pts_nil) (fun _ _ _ _ _ => (pe_df D_clause_key (hr.mono (by decide)) (by rfl) (pa_cons (pv 2) pa_nil)))) pa_nil))))), ?_⟩
    rw [show start n_is_residue [(.ref a : V)] = ([some (.ref a), none, none] : List (Option V)) from rfl]
    walk_at "rd"
    refine w_isi_tt ha ?_
    walk_at "rd"
    have hlb : (bs.map V.ref).length = cs.length := by rw [List.length_map, hc.1]
    refine ⟨_, rfl, a, rfl, ⟨_, SqT.of ha⟩, hT3, fun H2 hT2' => ?_⟩
    refine g_tup (xs := bs.map V.ref) (σ := [some (.ref a), none, none]) (j := 1) (fun i => isClauseF (cs.getD i [])) (fun H1 => Kept H H1) (Kept.tabbed hT3 hT2') (fun H1 kp => SqT.of (kp.tup ha)) (fun i x H1 k' hx kp hk => ?_) (fun H1 kp => ?_)
    · rw [List.getElem?_map] at hx
      obtain ⟨b, hb, rfl⟩ := Option.map_eq_some_iff.mp hx
      have hi : i < cs.length := by rw [← hc.1]; exact (List.getElem?_eq_some_iff.mp hb).1
      have hci : cs[i]? = some cs[i] := List.getElem?_eq_getElem hi
      have e2 : cs.getD i [] = cs[i] := by rw [List.getD_eq_getElem?_getD, hci] <;> rfl
      walk_at "rd"
      refine .inr ⟨b, cs[i], rfl, kp.tup (hc.2 i b _ hb hci), hz2 _ (List.getElem_mem hi), kp.tab P1 hT1, kp.tab P2 hT2, fun H3 kp3 => ?_⟩
      have q := hk H3 (kp.trans kp3)
      rw [e2] at q
      exact q
    · refine ⟨_, rfl, ?_⟩
      rw [hlb]
      show if (!((List.range cs.length).all fun i => isClauseF (cs.getD i []))) = true then _ else _
      cases hb : (List.range cs.length).all fun i => isClauseF (cs.getD i []) with
      | false =>
        refine if_t rfl ?_
        walk_at "rd"
        have q := k H1 kp
        unfold isResidueF at q
        rw [hb, Bool.false_and] at q
        exact q
      | true =>
        refine if_f rfl ?_
        walk_at "rd"
        refine ⟨_, rfl, a, rfl, ⟨_, SqT.of (kp.tup ha)⟩, fun D hD => ?_⟩
        refine c_tup (xs := bs.map V.ref) (fun i H2 => ∃ ps : List Addr, H2 D = some (.lst (ps.map V.ref)) ∧ Kept H H2 ∧ ps.length = i ∧ ∀ (j : Nat) (p : Addr) (d : List Int), ps[j]? = some p → cs[j]? = some d → CkAt H2 p d) ⟨[], upd_same, kp.trans (Kept.new hD), rfl, fun j p d h => by simp at h⟩ (fun i H2 _ h => by
          obtain ⟨_, _, k1, _⟩ := h
          exact SqT.of (k1.tup ha)) (fun i x H2 hx h => ?_) fun H2 h => ?_
        · obtain ⟨ps, h1, h2, h3, h4⟩ := h
          rw [List.getElem?_map] at hx
          obtain ⟨b, hb2, rfl⟩ := Option.map_eq_some_iff.mp hx
          have hi : i < cs.length := by rw [← hc.1]; exact (List.getElem?_eq_some_iff.mp hb2).1
          have hci : cs[i]? = some cs[i] := List.getElem?_eq_getElem hi
          refine ⟨rfl, w_yes (if_t rfl ?_)⟩
          walk_at "rd"
          have e1 := h2.tup (hc.2 i b _ hb2 hci)
          have hDn : H D = none := kp.free _ hD
          refine ⟨b, cs[i], rfl, e1, Nat.le_trans (hz2 _ (List.getElem_mem hi)) (by decide), fun qs p H4 k4 hp p1 p2 p3 => ?_⟩
          have hD4 := k4.lst h1
          refine ⟨ps.map V.ref, hD4, ?_, ps ++ [p], by rw [List.map_append]; exact upd_same, Kept.mut (h2.trans k4) hDn, by rw [List.length_append, h3] <;> rfl, fun j q d hq hd => ?_⟩
          · rw [List.length_map, h3]
            have h6 : 1000 ≤ sizeLine := by decide
            omega
          · by_cases hj : j < ps.length
            · rw [List.getElem?_append_left hj] at hq
              exact ((h4 j q d hq hd).kept k4).updL hD4
            · have hj2 : j < (ps ++ [p]).length := (List.getElem?_eq_some_iff.mp hq).1
              rw [List.length_append] at hj2
              have ej : j = ps.length := by
                have : j < ps.length + 1 := hj2
                omega
              subst ej
              have eq : q = p := by simpa using hq.symm
              subst eq
              rw [h3, hci] at hd
              cases hd
              exact CkAt.updL ⟨qs, p1, p2, p3⟩ hD4
        · obtain ⟨ps, h1, h2, h3, h4⟩ := h
          rw [hlb] at h3
          walk_at "rd"
          refine ⟨D, _, cs.map ckD, rfl, h1, by rw [List.length_map, h3]; exact Nat.le_trans hz (by decide), dpAll_of (by rw [List.length_map, List.length_map, h3]) fun i x d hx hd => ?_, PySem.W.AllAlike.of ckD_alike, fun d hd => ?_, h2.tab P2 hT2, fun H3 kp3 => ?_⟩
          · rw [List.getElem?_map] at hx hd
            obtain ⟨q, hq, rfl⟩ := Option.map_eq_some_iff.mp hx
            obtain ⟨e, he, rfl⟩ := Option.map_eq_some_iff.mp hd
            exact (h4 i q e hq he).dp
          · obtain ⟨n, _, rfl⟩ := List.mem_map.mp hd
            exact ⟨fun z => (by cases z), ckD_depth n⟩
          · have q := k H3 (h2.trans kp3)
            unfold isResidueF at q
            rw [hb, Bool.true_and] at q
            exact q
end
end Ky

namespace Ky
open PySem PySem.Spec PyProof.Rows L2
local macro_rules | `(tactic| walk_at "rd") => `(tactic| repeat (first
  | with_reducible refine w_seq ?_
  | with_reducible refine w_asg ?_
  | with_reducible refine w_ret ?_
  | with_reducible refine w_drop ?_
  | with_reducible refine w_ifs ?_
  | ((with_reducible refine' w_var ?hh ?_); (case hh => exact rfl))
  | with_reducible refine w_c ?_
  | with_reducible refine w_op ?_
  | with_reducible refine w_un ?_
  | with_reducible refine w_I0 ?_
  | with_reducible refine w_U ?_
  | with_reducible refine w_nil ?_
  | with_reducible refine w_cons ?_
  | with_reducible refine w_call ?_
  | with_reducible refine w_cb ?_
  | with_reducible refine w_test ?_
  | with_reducible refine w_B ?_
  | with_reducible refine w_bl ?_
  | with_reducible refine w_and ?_
  | with_reducible refine w_or ?_
  | with_reducible refine w_not ?_
  | with_reducible refine w_ife ?_
  | with_reducible refine w_gRd ?_
  | with_reducible refine w_andV ?_
  | with_reducible refine w_orV ?_
  | with_reducible refine w_notV ?_
  | with_reducible refine w_chain ?_
  | with_reducible refine w_din ?_
  | with_reducible refine w_isi_ii ?_
  | with_reducible refine w_isi_ib ?_
  | with_reducible refine w_isi_it ?_
  | with_reducible refine w_isi_st ?_
  | ((with_reducible refine w_isi_tt ?h1 ?_); (case h1 => first | assumption | exact upd_same))
  | with_reducible refine if_t rfl ?_
  | with_reducible refine if_f rfl ?_
  | with_reducible refine w_tup ?_
  | with_reducible refine w_lst ?_
  | with_reducible refine w_next ?_
  | with_reducible refine w_bm ?_
  | with_reducible refine w_sl ?_
  | with_reducible refine w_part ?_
  | with_reducible refine w_nop ?_
  | with_reducible refine w_isI ?_
  | with_reducible refine w_yes ?_
  | with_reducible refine w_gn ?_
  | with_reducible refine w_gsub ?_
  | ((with_reducible refine' w_setL ?h1 ?h2 ?_); (case h1 => first | assumption | exact upd_same); (case h2 => exact rfl))
  | with_reducible refine w_asgG ?_
  | with_reducible refine w_m1 ?_
  | with_reducible refine w_isS ?_
  | with_reducible refine w_tyS ?_
  | ((with_reducible refine' w_tyL ?h1 ?_); (case h1 => first | assumption | exact upd_same))
  | ((with_reducible refine' w_ixT ?h1 ?h2 ?_); (case h1 => first | assumption | exact upd_same); (case h2 => exact rfl))
  | ((with_reducible refine' w_ixL ?h1 ?h2 ?_); (case h1 => first | assumption | exact upd_same); (case h2 => exact rfl))
  | ((with_reducible refine w_eq ?h1 ?_); (case h1 => exact rfl))
  | ((with_reducible refine w_ne ?h1 ?_); (case h1 => exact rfl))
  | dsimp only [List.set_cons_zero, List.set_cons_succ, List.append_nil, List.cons_append, List.nil_append, cxOf]))

def keep1 (fs c : List Int) : Bool := (List.range (c.map V.int).length).any fun i => decide (c.getD i 0 ∈ fs)
def keepsF (cs : List (List Int)) (fs : List Int) : Bool := (List.range cs.length).all fun i => keep1 fs (cs.getD i [])
def spKeeps (P0 : Addr) : Sp := fun vs H Q _ => ∃ (a b : Addr) (bs : List Addr) (cs : List (List Int)) (fs : List Int), vs = [.ref a, .ref b] ∧ H a = some (.tup (bs.map V.ref)) ∧ ClsAt H bs cs ∧ H b = some (.tup (fs.map V.int)) ∧ fs.length ≤ 1000 ∧ GxR.TabG H P0 ∧ ∀ H', Kept H H' → Q (.bl (keepsF cs fs)) H'
section
variable {P : Program} {w : World} {K : PySem.W.Frag} {mg : Str → Option Value} {base : Heap} {uG : Value} {f : Addr} {fd : FuncData}
theorem ok_keeps {c P0 : Addr} (F : FunC K "keeps" s_keeps f fd c) (T : Tx K mg uG) (TB : GxR.TabB base mg c P0) : FnOk P w K mg base CX0 4 f fd ["residue", "filling"] (spKeeps P0) := by
  refine F.ok sc_keeps (fun vs H Q E h => ?_) (fun A outer s H vs Q E hr h => ?_)
  · obtain ⟨a, b, bs, cs, fs, rfl, _⟩ := h
    rfl
  · obtain ⟨a, b, bs, cs, fs, rfl, ha, hc, hb, hz, hT, k⟩ := h
    refine ⟨_, (pss_cons (ps_set (i := 2) sc_keeps.nd rfl (.inr rfl) (pe_dc (own := [("literal", 3)]) (g := gName 3) (by rfl) sc_keeps.nd (pi_tupK (K := K) rfl (pv 1)) (blkOk_by (own := [("literal", 3)]) (N := n_keeps) (sc := defScope s_keeps) (by decide +kernel)) (fun _ _ _ _ _ => pg_name (i := 3) sc_keeps.nd rfl (Or.inl rfl)) (fun _ _ _ _ _ => pts_nil) (fun _ _ _ _ _ => (pv 3)) (fun _ _ _ _ _ => pe_bl)))
    (pss_cons (ps_for PassesOwn.never rfl (pi_tupK (K := K) rfl (pv 0)) (pg_name (i := 4) sc_keeps.nd rfl (.inl rfl))
      (pss_one (ps_if (pt_not (pt_val (pe_anyG (k := 1) (own := [("literal", 3)]) (g := gName 3) (hr.mono (by decide)) (by rfl) T.z_any (by decide +kernel) rfl sc_keeps.nd TB rfl ⟨blkOk_by (own := [("literal", 3)]) (N := n_keeps) (sc := defScope s_keeps) (by decide +kernel), rfl, by decide +kernel, rfl⟩ (pi_tupK (K := K) rfl (pv 4)) (fun _ _ _ _ _ => pg_name (i := 3) sc_keeps.nd rfl (Or.inl rfl)) (fun _ _ _ _ _ hr => (pe_cmp (pc_din hr.u1 (pv 3) (pv 2)))))))
      (pss_one (ps_ret pe_bl))
      pss_nil)))
    (pss_one (ps_ret pe_bl)))), ?_⟩
    rw [show start n_keeps [(.ref a : V), (.ref b : V)] = ([some (.ref a), some (.ref b), none, none, none] : List (Option V)) from rfl]
    walk_at "rd"
    refine rd_dcIt (i0 := 1) (j := 3) rfl (by show 3 < 5; decide) hb (Nat.le_trans hz (by decide)) fun D hD => ?_
    have kD := Kept.new (o := .dK (setDict (keysI (dd fs)))) hD
    generalize hH1 : upd H D (.dK (setDict (keysI (dd fs)))) = H1 at kD ⊢
    have hDk : H1 D = some (.dK (setDict (keysI (dd fs)))) := by rw [← hH1]; exact upd_same
    walk_at "rd"
    refine ⟨_, rfl, a, rfl, ⟨_, SqT.of (kD.tup ha)⟩, for_tup (K := K) (a := a) (xs := bs.map V.ref) (fun i σ' H' => ∃ v, σ' = [some (.ref a), some (.ref b), some (.ref D), none, v] ∧ Kept H1 H' ∧ ∀ j, j < i → keep1 fs (cs.getD j []) = true) ⟨none, rfl, Kept.refl _, fun j hj => absurd hj (Nat.not_lt_zero _)⟩ (fun i σ' H' _ h => by
      obtain ⟨v, _, k1, _⟩ := h
      exact SqT.of ((kD.trans k1).tup ha)) ?_ ?_⟩
    · rintro i x σ' H' hx ⟨v, rfl, k1, hall⟩
      rw [List.getElem?_map] at hx
      obtain ⟨q, hq, rfl⟩ := Option.map_eq_some_iff.mp hx
      have hi : i < cs.length := by rw [← hc.1]; exact (List.getElem?_eq_some_iff.mp hq).1
      have hci : cs[i]? = some cs[i] := List.getElem?_eq_getElem hi
      have e1 := (kD.trans k1).tup (hc.2 i q _ hq hci)
      have eg : cs.getD i [] = cs[i] := by rw [List.getD_eq_getElem?_getD, hci] <;> rfl
      have hT1 := (kD.trans k1).tab P0 hT
      walk_at "rd"
      refine ⟨_, rfl, q, rfl, ⟨_, SqT.of e1⟩, hT1, fun H2 hT2 => ?_⟩
      refine g_tup (xs := cs[i].map V.int) (σ := [some (.ref a), some (.ref b), some (.ref D), none, some (.ref q)]) (j := 3) (fun j => decide (cs[i].getD j 0 ∈ fs)) (fun H3 => Kept H' H3) (Kept.tabbed hT1 hT2) (fun H3 kp => SqT.of (kp.tup e1)) (fun j x H3 k' hx kp hk => ?_) (fun H3 kp => ?_)
      · obtain ⟨n, rfl, hn⟩ := map_int hx
        walk_at "rd"
        refine ⟨D, _, rfl, DGet.k (k := Sum.inl n) ((k1.trans kp).keep D _ (fun ps z => by cases z) hDk), ?_⟩
        have q := hk H3 kp
        have e2 : cs[i].getD j 0 = n := by rw [List.getD_eq_getElem?_getD, hn] <;> rfl
        have e3 : (valV (setDict (keysI (dd fs))) (Sum.inl n)).isSome = decide (n ∈ fs) := by
          rw [valV_set]
          refine decide_eq_decide.mpr ⟨fun h => ?_, fun h => ?_⟩
          · obtain ⟨y, hy, e⟩ := List.mem_map.mp h
            rw [← Sum.inl.inj e]
            exact mem_dd.mp hy
          · exact List.mem_map.mpr ⟨_, mem_dd.mpr h, rfl⟩
        rw [e2] at q
        rw [e3]
        exact q
      · refine ⟨_, rfl, ?_⟩
        show if (!(keep1 fs cs[i])) = true then _ else _
        cases hb2 : keep1 fs cs[i] with
        | false =>
          refine if_t rfl ?_
          walk_at "rd"
          have e : keepsF cs fs = false := Bool.eq_false_iff.mpr fun z => by
            have y := List.all_eq_true.mp z i (List.mem_range.mpr hi)
            rw [eg, hb2] at y
            cases y
          have q := k H3 ((kD.trans k1).trans kp)
          rw [e] at q
          exact q
        | true =>
          refine if_f rfl ?_
          walk_at "rd"
          refine ⟨_, rfl, k1.trans kp, fun j hj => ?_⟩
          by_cases e : j = i
          · rw [e, eg]; exact hb2
          · exact hall j (by omega)
    · rintro σ' H' ⟨v, rfl, k1, hall⟩
      walk_at "rd"
      have e : keepsF cs fs = true := List.all_eq_true.mpr fun j hj => hall j (by rw [List.length_map, hc.1]; exact List.mem_range.mp hj)
      have q := k H' (kD.trans k1)
      rw [e] at q
      exact q
theorem dataLt_asym {x y : PyData} (h : PySem.W.dataLt x y = true) : PySem.W.dataLt y x = false := by
  have t := (PySem.W.sortLe_total (PyProof.Rows.listOrd PyProof.Rows.itemOrd) false fun d : PyData => PySem.W.keyToks d).total x y
  have e1 : PySem.W.sortLe (PyProof.Rows.listOrd PyProof.Rows.itemOrd) false (fun d : PyData => PySem.W.keyToks d) x y = !PySem.W.dataLt y x := rfl
  have e2 : PySem.W.sortLe (PyProof.Rows.listOrd PyProof.Rows.itemOrd) false (fun d : PyData => PySem.W.keyToks d) y x = !PySem.W.dataLt x y := rfl
  rw [e1, e2, h] at t
  cases z : PySem.W.dataLt y x with
  | false => rfl
  | true =>
    rw [z] at t
    rcases t with t | t <;> cases t
theorem dataLe_trans {x y z : PyData} (h1 : PySem.W.dataLt y x = false) (h2 : PySem.W.dataLt z y = false) : PySem.W.dataLt z x = false := by
  have t := (PySem.W.sortLe_total (PyProof.Rows.listOrd PyProof.Rows.itemOrd) false fun d : PyData => PySem.W.keyToks d).trans x y z
  have e1 : PySem.W.sortLe (PyProof.Rows.listOrd PyProof.Rows.itemOrd) false (fun d : PyData => PySem.W.keyToks d) x y = !PySem.W.dataLt y x := rfl
  have e2 : PySem.W.sortLe (PyProof.Rows.listOrd PyProof.Rows.itemOrd) false (fun d : PyData => PySem.W.keyToks d) y z = !PySem.W.dataLt z y := rfl
  have e3 : PySem.W.sortLe (PyProof.Rows.listOrd PyProof.Rows.itemOrd) false (fun d : PyData => PySem.W.keyToks d) x z = !PySem.W.dataLt z x := rfl
  rw [e1, e2, e3, h1, h2] at t
  have q := t rfl rfl
  cases w : PySem.W.dataLt z x with
  | false => rfl
  | true =>
    rw [w] at q
    cases q
theorem dataLt_trans {x y z : PyData} (h1 : PySem.W.dataLt x y = true) (h2 : PySem.W.dataLt y z = true) : PySem.W.dataLt x z = true := by
  cases w : PySem.W.dataLt x z with
  | true => rfl
  | false =>
    have q := dataLe_trans (dataLt_asym h2) w
    rw [h1] at q
    cases q
/-- the place where a clause would stand -/
def isPlace (c : List Int) (cs : List (List Int)) (n : Nat) : Prop := n ≤ cs.length ∧ (∀ i, i < n → PySem.W.dataLt (ckD (cs.getD i [])) (ckD c) = true) ∧ (∀ i, n ≤ i → i < cs.length → PySem.W.dataLt (ckD (cs.getD i [])) (ckD c) = false)
/-- the list ascends -/
def ascC (cs : List (List Int)) : Prop := cs.Pairwise fun x y => PySem.W.dataLt (ckD x) (ckD y) = true
def spPlace : Sp := fun vs H Q _ => ∃ (a b : Addr) (bs : List Addr) (cs : List (List Int)) (c : List Int), vs = [.ref a, .ref b] ∧ H a = some (.tup (c.map V.int)) ∧ c.length ≤ 1000 ∧ H b = some (.lst (bs.map V.ref)) ∧ ClsAt H bs cs ∧ ascC cs ∧ cs.length ≤ 1000 ∧ (∀ d ∈ cs, d.length ≤ 1000) ∧
  ∀ n H', Kept H H' → isPlace c cs n → Q (.int (n : Nat)) H'
theorem ok_place_of (F : Fun K "place_of" "place_of" s_place_of f fd) (T : Tx K mg uG) (D_clause_key : Df P w K mg base 2 "clause_key" ["clause"] spCKey) : FnOk P w K mg base CX0 3 f fd ["clause", "rows"] spPlace := by
  refine F.ok sc_place_of (fun vs H Q E h => ?_) (fun cdv A outer s H vs Q E hr h => ?_)
  · obtain ⟨a, b, bs, cs, c, rfl, _⟩ := h
    rfl
  · obtain ⟨a, b, bs, cs, c, rfl, ha, hz, hb, hc, hasc, hz1, hz2, k⟩ := h
    refine ⟨_, (pss_cons (ps_set (i := 2) sc_place_of.nd rfl (.inl rfl) (pe_df D_clause_key (hr.mono (by decide)) (by rfl) (pa_cons (pv 0) pa_nil)))
    (pss_cons (ps_set (i := 3) sc_place_of.nd rfl (.inl rfl) pe_int)
    (pss_cons (ps_set (i := 4) sc_place_of.nd rfl (.inl rfl) (pe_callB call_len_seq (by rfl) T.z_len (by decide +kernel) (pa_cons (pv 1) pa_nil)))
    (pss_cons (ps_while PassesOwn.never (pt_cmpR op_lt (pv 3) (pv 4) (nomark _))
      (pss_cons (ps_set (i := 5) sc_place_of.nd rfl (.inl rfl) (pe_op op_fdivW (pe_op op_add (pv 3) (pv 4)) pe_int))
    (pss_one (ps_if (pt_cmpR (opK (K := K) (r := rLtD) rfl (op_ltD hr.units)) (pe_df D_clause_key (hr.mono (by decide)) (by rfl) (pa_cons (pe_ix (ix_listK (K := K) rfl) (pv 1) (pv 5) (fun _ _ => rfl)) pa_nil)) (pv 2) (nomark _))
      (pss_one (ps_set (i := 3) sc_place_of.nd rfl (.inl rfl) (pe_op op_add (pv 5) pe_int)))
      (pss_one (ps_set (i := 4) sc_place_of.nd rfl (.inl rfl) (pv 5)))))))
    (pss_one (ps_ret (pv 3))))))), ?_⟩
    rw [show start n_place_of [(.ref a : V), (.ref b : V)] = ([some (.ref a), some (.ref b), none, none, none, none] : List (Option V)) from rfl]
    walk_at "rd"
    refine ⟨a, c, rfl, ha, Nat.le_trans hz (by decide), fun ps p H1 k1 hp p1 p2 p3 => ?_⟩
    walk_at "rd"
    refine ⟨b, bs.map V.ref, rfl, .inl (SqL.of (k1.lst hb)), ?_⟩
    walk_at "rd"
    have hlb : (bs.map V.ref).length = cs.length := by rw [List.length_map, hc.1]
    rw [hlb]
    have lt_of : ∀ i j, i < j → j < cs.length → PySem.W.dataLt (ckD (cs.getD i [])) (ckD (cs.getD j [])) = true := fun i j hij hj => by
      have e := List.pairwise_iff_getElem.mp hasc i j (by omega) hj hij
      rw [List.getD_eq_getElem?_getD, List.getD_eq_getElem?_getD, List.getElem?_eq_getElem (by omega : i < cs.length), List.getElem?_eq_getElem hj]
      exact e
    refine ⟨fun m σ' H' => ∃ (lo hi : Nat) (v : Option V), σ' = [some (.ref a), some (.ref b), some (.ref p), some (.int (lo : Nat)), some (.int (hi : Nat)), v] ∧ m = hi - lo ∧ lo ≤ hi ∧ hi ≤ cs.length ∧ Kept H1 H' ∧ (∀ i, i < lo → PySem.W.dataLt (ckD (cs.getD i [])) (ckD c) = true) ∧ (∀ i, hi ≤ i → i < cs.length → PySem.W.dataLt (ckD (cs.getD i [])) (ckD c) = false),
      ⟨cs.length, 0, cs.length, none, rfl, rfl, Nat.zero_le _, Nat.le_refl _, Kept.refl _, fun i hi => absurd hi (Nat.not_lt_zero _), fun i h1 h2 => absurd h2 (by omega)⟩, ?_⟩
    rintro m σ' H' ⟨lo, hi, v, rfl, rfl, h1, h2, k2, h3, h4⟩
    walk_at "rd"
    by_cases hlt : lo < hi
    · have e : decide ((lo : Int) < (hi : Int)) = true := decide_eq_true (by exact_mod_cast hlt)
      rw [e]
      refine if_t rfl ?_
      have hm1 : lo ≤ (lo + hi) / 2 := by omega
      have hm2 : (lo + hi) / 2 < hi := by omega
      have hml : (lo + hi) / 2 < cs.length := by omega
      have em : ((lo : Int) + (hi : Int)) / 2 = (((lo + hi) / 2 : Nat) : Int) := by push_cast; rfl
      generalize hmid : (lo + hi) / 2 = mid at hm1 hm2 hml em
      have hcm : cs[mid]? = some cs[mid] := List.getElem?_eq_getElem hml
      have hbm : bs[mid]? = some (bs[mid]'(by rw [hc.1]; exact hml)) := List.getElem?_eq_getElem _
      have egm : cs.getD mid [] = cs[mid] := by rw [List.getD_eq_getElem?_getD, hcm] <;> rfl
      refine ⟨fun σ2 H2 => ∃ m', m' < hi - lo ∧ ∃ (lo hi : Nat) (v : Option V), σ2 = [some (.ref a), some (.ref b), some (.ref p), some (.int (lo : Nat)), some (.int (hi : Nat)), v] ∧ m' = hi - lo ∧ lo ≤ hi ∧ hi ≤ cs.length ∧ Kept H1 H2 ∧ (∀ i, i < lo → PySem.W.dataLt (ckD (cs.getD i [])) (ckD c) = true) ∧ (∀ i, hi ≤ i → i < cs.length → PySem.W.dataLt (ckD (cs.getD i [])) (ckD c) = false), fun σ2 H2 h => h, ?_⟩
      walk_at "rd"
      refine w_I ?hdiv ?_
      case hdiv => exact (show (0 : Int) < 2 ∧ (2 : Int).natAbs.log2 < 9000 by decide)
      rw [em]
      walk_at "rd"
      refine ⟨b, bs.map V.ref, _, _, rfl, rfl, SqL.of (k2.lst (k1.lst hb)), atI_eq (j := mid) rfl (by rw [List.getElem?_map, hbm] <;> rfl), ?_⟩
      walk_at "rd"
      refine ⟨_, cs[mid], rfl, (k1.trans k2).tup (hc.2 mid _ _ hbm hcm), Nat.le_trans (hz2 _ (List.getElem_mem hml)) (by decide), fun qs p' H4 k4 hp' q1 q2 q3 => ?_⟩
      walk_at "rd"
      refine ⟨ckD cs[mid], ckD c, dp_ckey q1 q2 q3, Kept.dp (k2.trans k4) _ _ (dp_ckey p1 p2 p3), ckD_alike _ _, fun z => (by cases z), ckD_depth _, ?_⟩
      walk_at "rd"
      cases hb2 : PySem.W.dataLt (ckD cs[mid]) (ckD c) with
      | true =>
        refine if_t rfl ?_
        walk_at "rd"
        refine ⟨hi - (mid + 1), by omega, mid + 1, hi, _, rfl, rfl, by omega, h2, k2.trans k4, fun i hi2 => ?_, h4⟩
        by_cases e2 : i = mid
        · rw [e2, egm]; exact hb2
        · have q := lt_of i mid (by omega) hml
          rw [egm] at q
          exact dataLt_trans q hb2
      | false =>
        refine if_f rfl ?_
        walk_at "rd"
        refine ⟨mid - lo, by omega, lo, mid, _, rfl, rfl, hm1, by omega, k2.trans k4, h3, fun i hi2 hi3 => ?_⟩
        by_cases e2 : i = mid
        · rw [e2, egm]; exact hb2
        · have q := lt_of mid i (by omega) hi3
          rw [egm] at q
          cases w : PySem.W.dataLt (ckD (cs.getD i [])) (ckD c) with
          | false => rfl
          | true =>
            have y := dataLt_trans q w
            rw [hb2] at y
            cases y
    · have e : decide ((lo : Int) < (hi : Int)) = false := decide_eq_false (fun z => hlt (by exact_mod_cast z))
      rw [e]
      refine if_f rfl ?_
      walk_at "rd"
      have el : lo = hi := by omega
      subst el
      exact k lo H' (k1.trans k2) ⟨h2, h3, h4⟩
end
end Ky

namespace Ky
open PySem PySem.Spec PyProof.Rows L2
theorem key_inj {n m : Int} (h1 : absI n = absI m) (h2 : sgI n = sgI m) : n = m := by
  unfold absI at h1
  unfold sgI at h2
  by_cases a : n < 0 <;> by_cases b : m < 0 <;> by_cases c : n > 0 <;> by_cases d : m > 0 <;> simp [a, b, c, d] at h1 h2 <;> omega
theorem ck_inj : ∀ a b : List Int, PySem.W.keyToksAll (a.map keyD) = PySem.W.keyToksAll (b.map keyD) → a = b
  | [], [], _ => rfl
  | [], y :: b, h => by
    simp [PySem.W.keyToksAll] at h
  | x :: a, [], h => by
    simp [PySem.W.keyToksAll] at h
  | x :: a, y :: b, h => by
    rw [List.map_cons, List.map_cons, PySem.W.keyToksAll, PySem.W.keyToksAll] at h
    simp only [keyD, PySem.W.keyToks, PySem.W.keyToksAll, List.cons_append, List.nil_append, List.append_assoc] at h
    simp only [List.cons.injEq, Sum.inl.injEq, true_and] at h
    obtain ⟨h1, h2, h3⟩ := h
    rw [key_inj h1 h2, ck_inj a b h3]
theorem ck_total {a b : List Int} (h1 : PySem.W.dataLt (ckD a) (ckD b) = false) (h2 : PySem.W.dataLt (ckD b) (ckD a) = false) : a = b := by
  have e := (PyProof.Rows.listOrd PyProof.Rows.itemOrd).total (PySem.W.keyToks (ckD a)) (PySem.W.keyToks (ckD b)) h1 h2
  unfold ckD at e
  simp only [PySem.W.keyToks] at e
  exact ck_inj a b e
theorem lt_irr (x : PyData) : PySem.W.dataLt x x = false := (PyProof.Rows.listOrd PyProof.Rows.itemOrd).irrefl _
theorem lt_or {a b : List Int} (h : a ≠ b) (h2 : PySem.W.dataLt (ckD a) (ckD b) = false) : PySem.W.dataLt (ckD b) (ckD a) = true := by
  cases w : PySem.W.dataLt (ckD b) (ckD a) with
  | true => rfl
  | false => exact absurd (ck_total h2 w) h
theorem asc_unique : ∀ {xs ys : List (List Int)}, ascC xs → ascC ys → (∀ d, d ∈ xs ↔ d ∈ ys) → xs = ys
  | [], [], _, _, _ => rfl
  | [], y :: ys, _, _, h => absurd ((h y).mpr List.mem_cons_self) (by simp)
  | x :: xs, [], _, _, h => absurd ((h x).mp List.mem_cons_self) (by simp)
  | x :: xs, y :: ys, hx, hy, h => by
    obtain ⟨x1, x2⟩ := List.pairwise_cons.mp hx
    obtain ⟨y1, y2⟩ := List.pairwise_cons.mp hy
    have e : x = y := by
      rcases List.mem_cons.mp ((h x).mp List.mem_cons_self) with e | e
      · exact e
      · rcases List.mem_cons.mp ((h y).mpr List.mem_cons_self) with e2 | e2
        · exact e2.symm
        · have a := dataLt_asym (y1 x e)
          rw [x1 y e2] at a
          cases a
    subst e
    have nx : x ∉ xs := fun z => by
      have := x1 x z
      rw [lt_irr] at this
      cases this
    have ny : x ∉ ys := fun z => by
      have := y1 x z
      rw [lt_irr] at this
      cases this
    rw [asc_unique x2 y2 fun d => ⟨fun z => ((List.mem_cons.mp ((h d).mp (List.mem_cons_of_mem _ z))).resolve_left fun e => nx (e ▸ z)), fun z => ((List.mem_cons.mp ((h d).mpr (List.mem_cons_of_mem _ z))).resolve_left fun e => ny (e ▸ z))⟩]
theorem getD_mem {ds : List (List Int)} {i : Nat} (h : i < ds.length) : ds.getD i [] = ds[i] := by rw [List.getD_eq_getElem?_getD, List.getElem?_eq_getElem h] <;> rfl
theorem place_has {s : List Int} {ds : List (List Int)} {n : Nat} (hp : isPlace s ds n) (ha : ascC ds) (hn : n < ds.length → ds[n]? ≠ some s) : s ∉ ds := fun hm => by
  obtain ⟨j, hj, e⟩ := List.getElem_of_mem hm
  obtain ⟨p1, p2, p3⟩ := hp
  by_cases h : j < n
  · have q := p2 j h
    rw [getD_mem hj, e, lt_irr] at q
    cases q
  · by_cases h2 : j = n
    · subst h2
      exact hn hj (by rw [List.getElem?_eq_getElem hj, e])
    · have hnl : n < ds.length := by omega
      have q := List.pairwise_iff_getElem.mp ha n j hnl hj (by omega)
      rw [e] at q
      have y := p3 n (Nat.le_refl _) hnl
      rw [getD_mem hnl, q] at y
      cases y
theorem place_ins {s : List Int} {ds : List (List Int)} {n : Nat} (hp : isPlace s ds n) (ha : ascC ds) (hs : s ∉ ds) : ascC (ds.take n ++ [s] ++ ds.drop n) ∧ ∀ d, d ∈ ds.take n ++ [s] ++ ds.drop n ↔ d ∈ ds ∨ d = s := by
  obtain ⟨p1, p2, p3⟩ := hp
  have t1 : ∀ d ∈ ds.take n, PySem.W.dataLt (ckD d) (ckD s) = true := fun d hd => by
    obtain ⟨i, hi, e⟩ := List.getElem_of_mem hd
    have hi2 : i < n := by rw [List.length_take] at hi; omega
    have hi3 : i < ds.length := by omega
    have q := p2 i hi2
    rw [getD_mem hi3] at q
    rw [← e, List.getElem_take]
    exact q
  have t2 : ∀ d ∈ ds.drop n, PySem.W.dataLt (ckD s) (ckD d) = true := fun d hd => by
    obtain ⟨i, hi, e⟩ := List.getElem_of_mem hd
    rw [List.length_drop] at hi
    have hi3 : n + i < ds.length := by omega
    have q := p3 (n + i) (by omega) hi3
    rw [getD_mem hi3] at q
    rw [← e, List.getElem_drop]
    exact lt_or (fun z => hs (z ▸ List.getElem_mem hi3)) q
  have hsplit : ds.take n ++ ds.drop n = ds := List.take_append_drop n ds
  refine ⟨?_, fun d => ?_⟩
  · have ha2 : ascC (ds.take n ++ ds.drop n) := by rw [hsplit]; exact ha
    obtain ⟨a1, a2, a3⟩ := List.pairwise_append.mp ha2
    refine List.pairwise_append.mpr ⟨List.pairwise_append.mpr ⟨a1, List.pairwise_singleton _ _, fun x hx y hy => ?_⟩, a2, fun x hx y hy => ?_⟩
    · rw [List.mem_singleton.mp hy]; exact t1 x hx
    · rcases List.mem_append.mp hx with hx | hx
      · exact a3 x hx y hy
      · rw [List.mem_singleton.mp hx]; exact t2 y hy
  · rw [List.mem_append, List.mem_append, List.mem_singleton]
    constructor
    · rintro ((h | h) | h)
      · exact .inl (List.mem_of_mem_take h)
      · exact .inr h
      · exact .inl (List.mem_of_mem_drop h)
    · rintro (h | h)
      · rw [← hsplit] at h
        rcases List.mem_append.mp h with h | h
        · exact .inl (.inl h)
        · exact .inr h
      · exact .inl (.inr h)
/-- sorted, without repeats: it ascends -/
theorem asc_srt (cs : List (List Int)) : ascC (residueF cs) := by
  unfold residueF
  have h1 := srtBy_pair ckD (dd cs)
  have h2 : (srtBy ckD (dd cs)).Nodup := (srtBy_perm ckD (dd cs)).nodup_iff.mpr (nodup_dd cs)
  refine List.pairwise_iff_getElem.mpr fun i j hi hj hij => ?_
  have a := List.pairwise_iff_getElem.mp h1 i j hi hj hij
  have b := List.pairwise_iff_getElem.mp h2 i j hi hj hij
  have a' : PySem.W.dataLt (ckD (srtBy ckD (dd cs))[j]) (ckD (srtBy ckD (dd cs))[i]) = false := by
    have z : (!PySem.W.dataLt (ckD (srtBy ckD (dd cs))[j]) (ckD (srtBy ckD (dd cs))[i])) = true := a
    cases w : PySem.W.dataLt (ckD (srtBy ckD (dd cs))[j]) (ckD (srtBy ckD (dd cs))[i]) with
    | false => rfl
    | true => rw [w] at z; cases z
  exact lt_or (Ne.symm b) a'
theorem mem_residueF {cs : List (List Int)} {d : List Int} : d ∈ residueF cs ↔ d ∈ cs := by unfold residueF; rw [mem_srtBy, mem_dd]
theorem asc_is {cs ds : List (List Int)} (h : ascC ds) (hm : ∀ d, d ∈ ds ↔ d ∈ cs) : ds = residueF cs := asc_unique h (asc_srt cs) fun d => by rw [hm, mem_residueF]
end Ky

namespace Ky
open PySem PySem.Spec PyProof.Rows L2
local macro_rules | `(tactic| walk_at "rd") => `(tactic| repeat (first
  | with_reducible refine w_seq ?_
  | with_reducible refine w_asg ?_
  | with_reducible refine w_ret ?_
  | with_reducible refine w_drop ?_
  | with_reducible refine w_ifs ?_
  | ((with_reducible refine' w_var ?hh ?_); (case hh => exact rfl))
  | with_reducible refine w_c ?_
  | with_reducible refine w_op ?_
  | with_reducible refine w_un ?_
  | with_reducible refine w_I0 ?_
  | with_reducible refine w_U ?_
  | with_reducible refine w_nil ?_
  | with_reducible refine w_cons ?_
  | with_reducible refine w_call ?_
  | with_reducible refine w_cb ?_
  | with_reducible refine w_test ?_
  | with_reducible refine w_B ?_
  | with_reducible refine w_bl ?_
  | with_reducible refine w_and ?_
  | with_reducible refine w_or ?_
  | with_reducible refine w_not ?_
  | with_reducible refine w_ife ?_
  | with_reducible refine w_gRd ?_
  | with_reducible refine w_andV ?_
  | with_reducible refine w_orV ?_
  | with_reducible refine w_notV ?_
  | with_reducible refine w_chain ?_
  | with_reducible refine w_din ?_
  | with_reducible refine w_isi_ii ?_
  | with_reducible refine w_isi_ib ?_
  | with_reducible refine w_isi_it ?_
  | with_reducible refine w_isi_st ?_
  | ((with_reducible refine w_isi_tt ?h1 ?_); (case h1 => first | assumption | exact upd_same))
  | with_reducible refine if_t rfl ?_
  | with_reducible refine if_f rfl ?_
  | with_reducible refine w_tup ?_
  | with_reducible refine w_lst ?_
  | with_reducible refine w_next ?_
  | with_reducible refine w_bm ?_
  | with_reducible refine w_sl ?_
  | with_reducible refine w_part ?_
  | with_reducible refine w_nop ?_
  | with_reducible refine w_isI ?_
  | with_reducible refine w_yes ?_
  | with_reducible refine w_gn ?_
  | with_reducible refine w_gsub ?_
  | ((with_reducible refine' w_setL ?h1 ?h2 ?_); (case h1 => first | assumption | exact upd_same); (case h2 => exact rfl))
  | with_reducible refine w_asgG ?_
  | with_reducible refine w_m1 ?_
  | with_reducible refine w_isS ?_
  | with_reducible refine w_tyS ?_
  | ((with_reducible refine' w_tyL ?h1 ?_); (case h1 => first | assumption | exact upd_same))
  | ((with_reducible refine' w_ixT ?h1 ?h2 ?_); (case h1 => first | assumption | exact upd_same); (case h2 => exact rfl))
  | ((with_reducible refine' w_ixL ?h1 ?h2 ?_); (case h1 => first | assumption | exact upd_same); (case h2 => exact rfl))
  | ((with_reducible refine w_eq ?h1 ?_); (case h1 => exact rfl))
  | ((with_reducible refine w_ne ?h1 ?_); (case h1 => exact rfl))
  | dsimp only [List.set_cons_zero, List.set_cons_succ, List.append_nil, List.cons_append, List.nil_append, cxOf]))

theorem inV_ints (n : Int) (ls : List Int) : inV (.int n) (ls.map V.int) = decide (n ∈ ls) := by
  unfold inV
  rw [List.any_map, Bool.eq_iff_iff, List.any_eq_true, decide_eq_true_eq]
  constructor
  · rintro ⟨y, hy, e⟩
    have e : y = n := by simpa [eqV] using e
    rw [← e]
    exact hy
  · intro h
    exact ⟨n, h, by simp [eqV]⟩
theorem flat_ints (ls : List Int) : (ls.map V.int).all flatV = true := by
  rw [List.all_map]
  exact List.all_eq_true.mpr fun x _ => rfl
section
variable {K : PySem.W.Frag} {H : Hp} {Q : VK} {b : Addr} {n : Int} {ls : List Int}
theorem w_inT (h : H b = some (.tup (ls.map V.int))) (q : Q (.bl (decide (n ∈ ls))) H) : rIn K false (.int n) (.ref b) H Q := ⟨b, _, rfl, .inr (SqT.of h), rfl, flat_ints ls, by rw [inV_ints, if_neg Bool.false_ne_true]; exact q⟩
theorem w_ninT (h : H b = some (.tup (ls.map V.int))) (q : Q (.bl (decide (n ∉ ls))) H) : rIn K true (.int n) (.ref b) H Q := ⟨b, _, rfl, .inr (SqT.of h), rfl, flat_ints ls, by rw [inV_ints, if_pos rfl]; rw [decide_not] at q; exact q⟩
end
theorem canLay_ints : ∀ ls : List Int, PyData.canLayAll0 (ls.map PyData.int) = true
  | [] => by simp [PyData.canLayAll0]
  | x :: xs => by
    rw [List.map_cons, PyData.canLayAll0, canLay_ints xs]
    simp [PyData.canLay0]
theorem shT_ints (ls : List Int) : SeqAt.shaped (.tuple (ls.map PyData.int)) = true := by
  unfold SeqAt.shaped
  simp only [PyData.canLay0, canLay_ints, Bool.true_and, PyData.depth, PySem.W.depth_ints]
  rfl
theorem eqvAll_ints : ∀ xs ys : List Int, PyData.eqvAll (xs.map PyData.int) (ys.map PyData.int) = decide (xs = ys)
  | [], [] => by simp [PyData.eqvAll]
  | [], y :: ys => by simp [PyData.eqvAll]
  | x :: xs, [] => by simp [PyData.eqvAll]
  | x :: xs, y :: ys => by
    rw [List.map_cons, List.map_cons, PyData.eqvAll, eqvAll_ints xs ys]
    simp only [PyData.eqv]
    by_cases h : x = y <;> by_cases h2 : xs = ys <;> simp [h, h2]
theorem eqv_ints (xs ys : List Int) : PyData.eqv (.tuple (xs.map PyData.int)) (.tuple (ys.map PyData.int)) = decide (xs = ys) := by
  simp only [PyData.eqv]
  exact eqvAll_ints xs ys
theorem dp_ints {K : PySem.W.Frag} {H : Hp} {b : Addr} {ls : List Int} (h : H b = some (.tup (ls.map V.int))) : Dp K H (.ref b) (.tuple (ls.map PyData.int)) := .tup (SqT.of h) (dpAll_ints ls)
theorem clsAt_upd {H : Hp} {D : Addr} {xs : List V} {o : HO} {ps : List Addr} {ds : List (List Int)} (h : ClsAt H ps ds) (hD : H D = some (.lst xs)) : ClsAt (upd H D o) ps ds := ⟨h.1, fun i b c h1 h2 => tup_upd hD (h.2 i b c h1 h2)⟩
theorem clsAt_ins {H : Hp} {ps : List Addr} {ds : List (List Int)} {s : Addr} {sh : List Int} (h : ClsAt H ps ds) (hs : H s = some (.tup (sh.map V.int))) (n : Nat) : ClsAt H (ps.take n ++ [s] ++ ps.drop n) (ds.take n ++ [sh] ++ ds.drop n) := by
  have e1 : ps = (ps.zip ds).map (·.1) := (List.map_fst_zip (by rw [h.1]; exact Nat.le_refl _)).symm
  have e2 : ds = (ps.zip ds).map (·.2) := (List.map_snd_zip (by rw [h.1]; exact Nat.le_refl _)).symm
  have q := clsAt_of (H := H) (zs := (ps.zip ds).take n ++ [(s, sh)] ++ (ps.zip ds).drop n) fun p hp => by
    rcases List.mem_append.mp hp with hp | hp
    · rcases List.mem_append.mp hp with hp | hp
      · exact clsAt_zip h p (List.mem_of_mem_take hp)
      · rw [List.mem_singleton.mp hp]; exact hs
    · exact clsAt_zip h p (List.mem_of_mem_drop hp)
  rw [List.map_append, List.map_append, List.map_append, List.map_append, List.map_take, List.map_drop, List.map_take, List.map_drop, ← e1, ← e2] at q
  exact q
/-- the clauses of a residue under a literal -/
def inUnder (cs : List (List Int)) (l : Int) (d : List Int) : Prop := ∃ c ∈ cs, l ∉ c ∧ c.filter (fun x => decide (x ≠ -l)) = d
def noBoth (c : List Int) : Prop := ∀ l, l ∈ c → -l ∉ c
def spMerged : Sp := fun vs H Q _ => ∃ (a b : Addr) (bs ps : List Addr) (cs ds : List (List Int)), vs = [.ref a, .ref b] ∧ (H a = some (.lst (bs.map V.ref)) ∨ H a = some (.tup (bs.map V.ref))) ∧ ClsAt H bs cs ∧ ascC cs ∧ H b = some (.lst (ps.map V.ref)) ∧ ClsAt H ps ds ∧ cs.length + ds.length ≤ 900 ∧ (∀ d, d ∈ cs ∨ d ∈ ds → d.length ≤ 900) ∧
  ∀ D H' qs es, Kept H H' → H D = none → H' D = some (.lst (qs.map V.ref)) → ClsAt H' qs es → ascC es → (∀ d, d ∈ es ↔ d ∈ cs ∨ d ∈ ds) → Q (.ref D) H'
/-- the shorter of the clauses under a literal -/
def shF (l : Int) (cs : List (List Int)) : List (List Int) := (cs.filter fun c => decide (-l ∈ c)).map fun c => c.filter fun x => decide (x ≠ -l)
theorem clsAt_snoc0 {H : Hp} {ps : List Addr} {ds : List (List Int)} {s : Addr} {sh : List Int} (h : ClsAt H ps ds) (hs : H s = some (.tup (sh.map V.int))) : ClsAt H (ps ++ [s]) (ds ++ [sh]) := by
  refine ⟨by rw [List.length_append, List.length_append, h.1] <;> rfl, fun j q d hq hd => ?_⟩
  by_cases hj : j < ps.length
  · rw [List.getElem?_append_left hj] at hq
    rw [List.getElem?_append_left (by rw [← h.1]; exact hj)] at hd
    exact h.2 j q d hq hd
  · rw [List.getElem?_append_right (by omega)] at hq
    rw [List.getElem?_append_right (by rw [← h.1]; omega)] at hd
    rw [← h.1] at hd
    cases z : j - ps.length with
    | zero =>
      rw [z] at hq hd
      cases hq
      cases hd
      exact hs
    | succ m =>
      rw [z] at hq
      simp at hq
def spUnder : Sp := fun vs H Q _ => ∃ (a : Addr) (bs : List Addr) (cs : List (List Int)) (l : Int), vs = [.ref a, .int l] ∧ H a = some (.tup (bs.map V.ref)) ∧ ClsAt H bs cs ∧ ascC cs ∧ cs.length ≤ 400 ∧ (∀ c ∈ cs, c.length ≤ 400 ∧ noBoth c) ∧
  ∀ p H' (bs' : List Addr) (ds : List (List Int)), ascC ds → (∀ d, d ∈ ds ↔ inUnder cs l d) → Kept H H' → H p = none → H' p = some (.tup (bs'.map V.ref)) → ClsAt H' bs' ds → Q (.ref p) H'
section
variable {P : Program} {w : World} {K : PySem.W.Frag} {mg : Str → Option Value} {base : Heap} {uG : Value} {f : Addr} {fd : FuncData}
theorem ok_merged (F : Fun K "merged" "merged" s_merged f fd) (T : Tx K mg uG) (D_place_of : Df P w K mg base 3 "place_of" ["clause", "rows"] spPlace) : FnOk P w K mg base CX0 4 f fd ["rows", "clauses"] spMerged := by
  refine F.ok sc_merged (fun vs H Q E h => ?_) (fun cdv A outer s H vs Q E hr h => ?_)
  · obtain ⟨a, b, bs, ps, cs, ds, rfl, _⟩ := h
    rfl
  · obtain ⟨a, b, bs, ps, cs, ds, rfl, ha, hc, hasc, hb, hd, hz, hz2, k⟩ := h
    refine ⟨_, (pss_cons (ps_set (i := 2) sc_merged.nd rfl (.inl rfl) (pe_callTy call_list_of (by rfl) T.z_list (by decide +kernel) (pa_cons (pv 0) pa_nil)))
    (pss_cons (ps_for PassesOwn.never rfl (pi_listK (K := K) rfl (pv 1)) (pg_name (i := 3) sc_merged.nd rfl (.inl rfl))
      (pss_cons (ps_set (i := 4) sc_merged.nd rfl (.inl rfl) (pe_df D_place_of (hr.mono (by decide)) (by rfl) (pa_cons (pv 3) (pa_cons (pv 2) pa_nil))))
    (pss_one (ps_if (PW.pt (pw_or (pt_cmpR op_eq (pv 4) (pe_callB call_len_seq (by rfl) T.z_len (by decide +kernel) (pa_cons (pv 2) pa_nil)) (nomark _)) (pw_or1 (pt_cmpR (opK (K := K) (r := rNeD) rfl (op_neD hr.units)) (pe_ix (ix_listK (K := K) rfl) (pv 2) (pv 4) (fun _ _ => rfl)) (pv 3) (nomark _)))))
      (pss_one (ps_expr (pe_bm PySem.F.plainAttrs_list PySem.F.slot_list_insert PySem.F.type_list_insert mt_insert (pv 2) (pa_cons (pv 4) (pa_cons (pv 3) pa_nil)))))
      pss_nil))))
    (pss_one (ps_ret (pv 2))))), ?_⟩
    rw [show start n_merged [(.ref a : V), (.ref b : V)] = ([some (.ref a), some (.ref b), none, none, none] : List (Option V)) from rfl]
    have hsl : 1001 ≤ sizeLine := by decide
    have hlb : (ps.map V.ref).length = ds.length := by rw [List.length_map, hd.1]
    walk_at "rd"
    refine ⟨a, bs.map V.ref, rfl, ha.imp SqL.of SqT.of, fun D hD => ?_⟩
    have kD := Kept.new (o := .lst (bs.map V.ref)) hD
    walk_at "rd"
    refine ⟨_, rfl, b, rfl, ⟨_, SqL.of (kD.lst hb)⟩, for_list (K := K) (a := b) (xs := ps.map V.ref) (fun i σ' H' => ∃ (v3 v4 : Option V) (qs : List Addr) (es : List (List Int)), σ' = [some (.ref a), some (.ref b), some (.ref D), v3, v4] ∧ H' D = some (.lst (qs.map V.ref)) ∧ Kept H H' ∧ ClsAt H' qs es ∧ ascC es ∧ es.length ≤ cs.length + i ∧ (∀ d ∈ es, d.length ≤ 900) ∧ ∀ d, d ∈ es ↔ d ∈ cs ∨ d ∈ ds.take i)
      ⟨none, none, bs, cs, rfl, upd_same, kD, hc.kept kD, hasc, Nat.le_add_right _ _, fun d hd => hz2 d (.inl hd), fun d => by simp⟩ (fun i σ' H' _ h => by
        obtain ⟨_, _, _, _, _, _, k1, _⟩ := h
        exact SqL.of (k1.lst hb)) ?_ ?_⟩
    · rintro i x σ' H' hx ⟨v3, v4, qs, es, rfl, hDs, k1, hp, hes, hel, hez, hmem⟩
      rw [List.getElem?_map] at hx
      obtain ⟨s, hs, rfl⟩ := Option.map_eq_some_iff.mp hx
      have hi : i < ds.length := by rw [← hd.1]; exact (List.getElem?_eq_some_iff.mp hs).1
      have hdi : ds[i]? = some ds[i] := List.getElem?_eq_getElem hi
      have hs1 := k1.tup (hd.2 i s _ hs hdi)
      have et : ds.take (i + 1) = ds.take i ++ [ds[i]] := by rw [List.take_add_one, hdi]; rfl
      have hshl := hz2 _ (.inr (List.getElem_mem hi))
      generalize ds[i] = sh at hs1 et hshl
      walk_at "rd"
      refine ⟨s, D, qs, es, sh, rfl, hs1, by omega, hDs, hp, hes, by omega, fun d hd => Nat.le_trans (hez d hd) (by decide), fun n H4 k4 hpl => ?_⟩
      have hD4 := k4.lst hDs
      have k5 := k1.trans k4
      have hp4 := hp.kept k4
      walk_at "rd"
      refine ⟨D, qs.map V.ref, rfl, .inl (SqL.of hD4), ?_⟩
      walk_at "rd"
      have hs4 := k4.tup hs1
      have hpl1 := hpl.1
      have hm2 : ∀ d, (d ∈ es ∨ d = sh) ↔ (d ∈ cs ∨ d ∈ ds.take (i + 1)) := fun d => by
        rw [hmem d, et, List.mem_append, List.mem_singleton]
        exact or_assoc
      have hDH : H D = none := hD
      have hlp : qs.length = es.length := hp.1
      have hfin : sh ∉ es → ∃ (v3 v4 : Option V) (qs' : List Addr) (es' : List (List Int)), [some (V.ref a), some (V.ref b), some (V.ref D), some (V.ref s), some (V.int (n : Nat))] = [some (.ref a), some (.ref b), some (.ref D), v3, v4] ∧
          upd H4 D (.lst ((qs.map V.ref).take n ++ [V.ref s] ++ (qs.map V.ref).drop n)) D = some (.lst (qs'.map V.ref)) ∧ Kept H (upd H4 D (.lst ((qs.map V.ref).take n ++ [V.ref s] ++ (qs.map V.ref).drop n))) ∧ ClsAt (upd H4 D (.lst ((qs.map V.ref).take n ++ [V.ref s] ++ (qs.map V.ref).drop n))) qs' es' ∧ ascC es' ∧ es'.length ≤ cs.length + (i + 1) ∧ (∀ d ∈ es', d.length ≤ 900) ∧
          ∀ d, d ∈ es' ↔ d ∈ cs ∨ d ∈ ds.take (i + 1) := fun hno => by
        obtain ⟨a1, a2⟩ := place_ins hpl hes hno
        refine ⟨_, _, qs.take n ++ [s] ++ qs.drop n, es.take n ++ [sh] ++ es.drop n, rfl, ?_, Kept.mut k5 hDH, clsAt_upd (clsAt_ins hp4 hs4 n) hD4, a1, ?_, fun d hd => ?_, fun d => (a2 d).trans (hm2 d)⟩
        · rw [upd_same, List.map_append, List.map_append, List.map_take, List.map_drop] <;> rfl
        · rw [List.length_append, List.length_append, List.length_take, List.length_drop, List.length_singleton]
          omega
        · rcases (a2 d).mp hd with h | h
          · exact hez d h
          · rw [h]; exact hshl
      have hap : (qs.map V.ref).length < sizeLine := by
        rw [List.length_map, hlp]
        omega
      have hn63 : (n : Int) < 2 ^ 63 := by
        have h3 : (n : Int) ≤ 900 := by exact_mod_cast (by omega : n ≤ 900)
        omega
      by_cases hnl : n = es.length
      · have ed : decide (V.int (n : Nat) = V.int ((qs.map V.ref).length : Nat)) = true := decide_eq_true (by rw [List.length_map, hlp, hnl])
        rw [ed]
        refine if_t rfl ?_
        refine if_t rfl ?_
        walk_at "rd"
        exact ⟨D, qs.map V.ref, n, .ref s, rfl, rfl, hD4, hap, by omega, hn63, hfin (place_has hpl hes fun h => absurd h (by omega))⟩
      · have ed : decide (V.int (n : Nat) = V.int ((qs.map V.ref).length : Nat)) = false := decide_eq_false (fun z => hnl (by
          rw [List.length_map, hlp] at z
          have z := V.int.inj z
          exact_mod_cast z))
        rw [ed]
        refine if_f rfl ?_
        walk_at "rd"
        have hn2 : n < es.length := by omega
        have hdn : es[n]? = some es[n] := List.getElem?_eq_getElem hn2
        have hpn : qs[n]? = some (qs[n]'(by omega)) := List.getElem?_eq_getElem _
        refine ⟨D, qs.map V.ref, _, _, rfl, rfl, SqL.of hD4, atI_eq (j := n) rfl (by rw [List.getElem?_map, hpn] <;> rfl), ?_⟩
        walk_at "rd"
        refine ⟨_, _, dp_ints (hp4.2 n _ _ hpn hdn), dp_ints hs4, shT_ints _, shT_ints _, ?_⟩
        rw [eqv_ints]
        refine ⟨_, rfl, ?_⟩
        by_cases heq : es[n] = sh
        · rw [decide_eq_true heq]
          refine if_f rfl ?_
          walk_at "rd"
          refine ⟨_, _, qs, es, rfl, hD4, k5, hp4, hes, by omega, hez, fun d => ?_⟩
          rw [← hm2 d]
          exact ⟨.inl, fun h => h.elim id fun e => by rw [e, ← heq]; exact List.getElem_mem hn2⟩
        · rw [decide_eq_false heq]
          refine if_t rfl ?_
          walk_at "rd"
          exact ⟨D, qs.map V.ref, n, .ref s, rfl, rfl, hD4, hap, by omega, hn63, hfin (place_has hpl hes fun _ z => heq (by rw [hdn] at z; exact Option.some.inj z))⟩
    · rintro σ' H' ⟨v3, v4, qs, es, rfl, hDs, k1, hp, hes, hel, hez, hmem⟩
      rw [hlb, List.take_length] at hmem
      walk_at "rd"
      exact k D H' qs es k1 hD hDs hp hes hmem
theorem ok_under (F : Fun K "under" "under" s_under f fd) (T : Tx K mg uG) (D_merged : Df P w K mg base 4 "merged" ["rows", "clauses"] spMerged) : FnOk P w K mg base CX0 5 f fd ["residue", "literal"] spUnder := by
  refine F.ok sc_under (fun vs H Q E h => ?_) (fun cdv A outer s H vs Q E hr h => ?_)
  · obtain ⟨a, bs, cs, l, rfl, _⟩ := h
    rfl
  · obtain ⟨a, bs, cs, l, rfl, ha, hc, hasc, hz, hz2, k⟩ := h
    refine ⟨_, (pss_cons (ps_setLc (i := 2) (own := [("clause", 3)]) (g := gName 3) (by rfl) sc_under.nd rfl rfl (sw_true rfl rfl rfl (by decide +kernel)) (pi_tupK (K := K) rfl (pv 0)) (blkOk_by (own := [("clause", 3)]) (N := n_under) (sc := defScope s_under) (by decide +kernel)) (fun _ _ _ _ _ => pg_name (i := 3) sc_under.nd rfl (Or.inl rfl)) (fun _ _ _ _ _ => pts_one (PW.pt (pw_and (pt_cmpR (opK (K := K) (r := fun K => rIn K true) rfl op_notIn_seq) (pv 1) (pv 3) (by rfl)) (pw_and1 (pt_cmpR (opK (K := K) (r := fun K => rIn K true) rfl op_notIn_seq) (pe_un un_neg (pv 1)) (pv 3) (by rfl)))))) (fun _ _ _ _ _ => (pv 3)))
    (pss_cons (ps_set (i := 4) sc_under.nd rfl (.inl rfl) (pe_lst pa_nil))
    (pss_cons (ps_for PassesOwn.never rfl (pi_tupK (K := K) rfl (pv 0)) (pg_name (i := 3) sc_under.nd rfl (.inl rfl))
      (pss_one (ps_if (pt_cmpR (opK (K := K) (r := fun K => rIn K false) rfl op_in_seq) (pe_un un_neg (pv 1)) (pv 3) (by rfl))
      (pss_one (ps_expr (pe_bm PySem.F.plainAttrs_list PySem.F.slot_list_append PySem.F.type_list_append mt_append (pv 4) (pa_cons (pe_callTy call_tuple_of (by rfl) T.z_tuple (by decide +kernel) (pa_cons (pe_lc (own := [("other", 5)]) (g := gName 5) (by rfl) sc_under.nd (pi_tupK (K := K) rfl (pv 3)) (blkOk_by (own := [("other", 5)]) (N := n_under) (sc := defScope s_under) (by decide +kernel)) (fun _ _ _ _ _ => pg_name (i := 5) sc_under.nd rfl (Or.inl rfl)) (fun _ _ _ _ _ => pts_one (pt_cmpR op_ne (pv 5) (pe_un un_neg (pv 1)) (nomark _))) (fun _ _ _ _ _ => (pv 5))) pa_nil)) pa_nil))))
      pss_nil)))
    (pss_one (ps_ret (pe_callTy call_tuple_of (by rfl) T.z_tuple (by decide +kernel) (pa_cons (pe_df D_merged (hr.mono (by decide)) (by rfl) (pa_cons (pv 2) (pa_cons (pv 4) pa_nil))) pa_nil))))))), ?_⟩
    rw [show start n_under [(.ref a : V), (.int l : V)] = ([some (.ref a), some (.int l), none, none, none, none] : List (Option V)) from rfl]
    walk_at "rd"
    refine ⟨_, rfl, a, rfl, ⟨_, SqT.of ha⟩, fun D hD => ?_⟩
    have hlb : (bs.map V.ref).length = cs.length := by rw [List.length_map, hc.1]
    refine c_tup (xs := bs.map V.ref) (fun i H1 => ∃ bs' : List Addr, H1 = upd H D (.lst (bs'.map V.ref)) ∧ ClsAt H bs' ((cs.take i).filter fun c => decide (l ∉ c) && decide (-l ∉ c))) ⟨[], rfl, rfl, fun i b c h => by simp at h⟩ (fun i H1 _ h => by
      obtain ⟨bs', rfl, _⟩ := h
      exact SqT.of ((Kept.new hD).tup ha)) (fun i x H1 hx h => ?_) fun H1 h => ?_
    · obtain ⟨bs', rfl, hb'⟩ := h
      rw [List.getElem?_map] at hx
      obtain ⟨b, hb, rfl⟩ := Option.map_eq_some_iff.mp hx
      have hi : i < cs.length := by rw [← hc.1]; exact (List.getElem?_eq_some_iff.mp hb).1
      have hci : cs[i]? = some cs[i] := List.getElem?_eq_getElem hi
      have e1 := (Kept.new (o := .lst (bs'.map V.ref)) hD).tup (hc.2 i b _ hb hci)
      refine ⟨rfl, ?_⟩
      walk_at "rd"
      refine w_ninT (ls := cs[i]) e1 ?_
      refine ⟨_, rfl, ?_⟩
      have et : cs.take (i + 1) = cs.take i ++ [cs[i]] := by rw [List.take_add_one, hci]; rfl
      have keepF : ∀ b2 : Bool, (decide (l ∉ cs[i]) && decide (-l ∉ cs[i])) = b2 → (if b2 = true then (∃ bs'2 : List Addr, upd (upd H D (.lst (bs'.map V.ref))) D (.lst (bs'.map V.ref ++ [V.ref b])) = upd H D (.lst (bs'2.map V.ref)) ∧ ClsAt H bs'2 ((cs.take (i + 1)).filter fun c => decide (l ∉ c) && decide (-l ∉ c))) else
          (∃ bs'2 : List Addr, upd H D (.lst (bs'.map V.ref)) = upd H D (.lst (bs'2.map V.ref)) ∧ ClsAt H bs'2 ((cs.take (i + 1)).filter fun c => decide (l ∉ c) && decide (-l ∉ c)))) := by
        intro b2 hb2
        cases b2 with
        | true =>
          rw [if_pos rfl]
          refine ⟨bs' ++ [b], by rw [upd_again, List.map_append] <;> rfl, ?_⟩
          have hf : List.filter (fun c => decide (l ∉ c) && decide (-l ∉ c)) [cs[i]] = [cs[i]] := List.filter_cons_of_pos (p := fun c => decide (l ∉ c) && decide (-l ∉ c)) hb2
          rw [et, List.filter_append, hf]
          refine ⟨by rw [List.length_append, List.length_append, hb'.1] <;> rfl, fun j q d hq hd => ?_⟩
          by_cases hj : j < bs'.length
          · rw [List.getElem?_append_left hj] at hq
            rw [List.getElem?_append_left (by rw [← hb'.1]; exact hj)] at hd
            exact hb'.2 j q d hq hd
          · rw [List.getElem?_append_right (by omega)] at hq
            rw [List.getElem?_append_right (by rw [← hb'.1]; omega)] at hd
            rw [← hb'.1] at hd
            cases z : j - bs'.length with
            | zero =>
              rw [z] at hq hd
              cases hq
              cases hd
              exact hc.2 i b _ hb hci
            | succ m =>
              rw [z] at hq
              simp at hq
        | false =>
          rw [if_neg Bool.false_ne_true]
          refine ⟨bs', rfl, ?_⟩
          have hf : List.filter (fun c => decide (l ∉ c) && decide (-l ∉ c)) [cs[i]] = [] := List.filter_cons_of_neg (p := fun c => decide (l ∉ c) && decide (-l ∉ c)) (by rw [hb2]; exact Bool.false_ne_true)
          rw [et, List.filter_append, hf, List.append_nil]
          exact hb'
      have hsz : (bs'.map V.ref).length < sizeLine := by
        rw [List.length_map, hb'.1]
        have h1 := List.length_filter_le (fun c => decide (l ∉ c) && decide (-l ∉ c)) (cs.take i)
        rw [List.length_take] at h1
        have h2 : 1000 ≤ sizeLine := by decide
        omega
      cases hb1 : decide (l ∉ cs[i]) with
      | true =>
        refine if_t rfl ?_
        walk_at "rd"
        refine w_ninT (ls := cs[i]) e1 ?_
        refine ⟨_, rfl, ?_⟩
        cases hb2 : decide (-l ∉ cs[i]) with
        | true =>
          refine if_t rfl ?_
          walk_at "rd"
          exact ⟨_, upd_same, hsz, keepF true (by rw [hb1, hb2]; rfl)⟩
        | false =>
          refine if_f rfl ?_
          exact keepF false (by rw [hb1, hb2]; rfl)
      | false =>
        refine if_f rfl ?_
        exact keepF false (by rw [hb1]; rfl)
    · obtain ⟨bs', rfl, hb'⟩ := h
      rw [hlb, List.take_length] at hb'
      walk_at "rd"
      have kD := Kept.new (o := .lst (bs'.map V.ref)) hD
      have hDD : (upd H D (.lst (bs'.map V.ref))) D = some (.lst (bs'.map V.ref)) := upd_same
      generalize upd H D (.lst (bs'.map V.ref)) = H2 at kD hDD ⊢
      refine ⟨Nat.zero_le _, fun SH hSH => ?_⟩
      have kS := Kept.new (o := .lst []) hSH
      walk_at "rd"
      refine ⟨_, rfl, a, rfl, ⟨_, SqT.of ((kD.trans kS).tup ha)⟩, for_tup (K := K) (a := a) (xs := bs.map V.ref) (fun i σ' H' => ∃ (v3 : Option V) (ps : List Addr), σ' = [some (.ref a), some (.int l), some (.ref D), v3, some (.ref SH), none] ∧ Kept H2 H' ∧ H' SH = some (.lst (ps.map V.ref)) ∧ ClsAt H' ps (shF l (cs.take i)))
        ⟨none, [], rfl, kS, upd_same, ⟨rfl, fun i b c h => by simp at h⟩⟩ (fun i σ' H' _ h => by
          obtain ⟨_, _, _, k1, _⟩ := h
          exact SqT.of ((kD.trans k1).tup ha)) ?_ ?_⟩
      · rintro i x σ' H' hx ⟨v3, ps, rfl, k1, hSs, hp⟩
        rw [List.getElem?_map] at hx
        obtain ⟨b, hb, rfl⟩ := Option.map_eq_some_iff.mp hx
        have hi : i < cs.length := by rw [← hc.1]; exact (List.getElem?_eq_some_iff.mp hb).1
        have hci : cs[i]? = some cs[i] := List.getElem?_eq_getElem hi
        have hcm : cs[i] ∈ cs := List.getElem_mem hi
        have e1 := (kD.trans k1).tup (hc.2 i b _ hb hci)
        have et : cs.take (i + 1) = cs.take i ++ [cs[i]] := by rw [List.take_add_one, hci]; rfl
        have hpsl : ps.length ≤ 400 := by
          rw [hp.1]
          unfold shF
          rw [List.length_map]
          refine Nat.le_trans (List.length_filter_le _ _) ?_
          rw [List.length_take]
          omega
        walk_at "rd"
        refine w_inT (ls := cs[i]) e1 ?_
        refine ⟨_, rfl, ?_⟩
        by_cases hin : -l ∈ cs[i]
        · rw [decide_eq_true hin]
          refine if_t rfl ?_
          walk_at "rd"
          refine ⟨_, rfl, b, rfl, ⟨_, SqT.of e1⟩, fun D2 hD2 => ?_⟩
          refine c_tup (xs := cs[i].map V.int) (fun j H2 => H2 = upd H' D2 (.lst (((cs[i].take j).filter fun x => decide (x ≠ -l)).map V.int))) (by rw [List.take_zero]; rfl) (fun j H2 _ h => by rw [h]; exact SqT.of ((Kept.new hD2).tup e1)) (fun j x H2 hx h => ?_) fun H3 h => ?_
          · obtain ⟨n, rfl, hn⟩ := map_int hx
            have en : cs[i].take (j + 1) = cs[i].take j ++ [n] := by rw [List.take_add_one, hn]; rfl
            refine ⟨rfl, ?_⟩
            walk_at "rd"
            have ed : (!decide (V.int n = V.int (-l))) = decide (n ≠ -l) := by
              by_cases z : n = -l <;> simp [z]
            rw [ed]
            by_cases z : n ≠ -l
            · rw [decide_eq_true z]
              refine if_t rfl ?_
              walk_at "rd"
              refine ⟨_, by rw [h]; exact upd_same, ?_, ?_⟩
              · rw [List.length_map]
                have h1 := List.length_filter_le (fun x => decide (x ≠ -l)) (cs[i].take j)
                rw [List.length_take] at h1
                have h2 := (hz2 _ hcm).1
                have h3 : 1000 ≤ sizeLine := by decide
                omega
              · have hf : List.filter (fun x => decide (x ≠ -l)) [n] = [n] := List.filter_cons_of_pos (p := fun x => decide (x ≠ -l)) (decide_eq_true z)
                rw [h, upd_again, en, List.filter_append, hf, List.map_append] <;> rfl
            · rw [decide_eq_false z]
              refine if_f rfl ?_
              have hf : List.filter (fun x => decide (x ≠ -l)) [n] = [] := List.filter_cons_of_neg (p := fun x => decide (x ≠ -l)) (by rw [decide_eq_false z]; exact Bool.false_ne_true)
              show H2 = _
              rw [h, en, List.filter_append, hf, List.append_nil]
          · rw [List.length_map, List.take_length] at h
            generalize hsh : cs[i].filter (fun x => decide (x ≠ -l)) = sh at h
            have kD2 := Kept.new (o := .lst (sh.map V.int)) hD2
            rw [← h] at kD2
            walk_at "rd"
            refine ⟨D2, _, rfl, .inl ⟨SqL.of (by rw [h]; exact upd_same), fun s hs => ?_⟩⟩
            have kT := Kept.new (o := .tup (sh.map V.int)) hs
            have k3 := kD2.trans kT
            generalize hH3 : upd H3 s (.tup (sh.map V.int)) = H4 at kT k3 ⊢
            have hs3 : H4 s = some (.tup (sh.map V.int)) := by rw [← hH3]; exact upd_same
            walk_at "rd"
            refine ⟨SH, ps.map V.ref, .ref s, rfl, rfl, k3.lst hSs, by rw [List.length_map]; exact Nat.lt_of_le_of_lt hpsl (by decide), _, ps ++ [s], rfl, Kept.mut (k1.trans k3) hSH, ?_, ?_⟩
            · rw [List.map_append]
              exact upd_same
            · have e2 : shF l (cs.take (i + 1)) = shF l (cs.take i) ++ [sh] := by
                unfold shF
                rw [et, List.filter_append, List.map_append, ← hsh]
                congr 1
                rw [List.filter_cons_of_pos (by rw [decide_eq_true hin])] <;> rfl
              rw [e2]
              exact clsAt_upd (clsAt_snoc0 (hp.kept k3) hs3) (k3.lst hSs)
        · rw [decide_eq_false hin]
          refine if_f rfl ?_
          walk_at "rd"
          refine ⟨_, ps, rfl, k1, hSs, ?_⟩
          have e2 : shF l (cs.take (i + 1)) = shF l (cs.take i) := by
            unfold shF
            rw [et, List.filter_append, List.filter_cons_of_neg (by rw [decide_eq_false hin]; exact Bool.false_ne_true), List.filter_nil, List.append_nil]
          rw [e2]
          exact hp
      · rintro σ' H' ⟨v3, ps, rfl, k1, hSs, hp⟩
        rw [hlb, List.take_length] at hp
        have hl1 : (cs.filter fun c => decide (l ∉ c) && decide (-l ∉ c)).length ≤ cs.length := List.length_filter_le _ _
        have hl2 : (shF l cs).length ≤ cs.length := by
          unfold shF
          rw [List.length_map]
          exact List.length_filter_le _ _
        walk_at "rd"
        refine ⟨D, SH, bs', ps, _, _, rfl, .inl (k1.lst hDD), (hb'.kept kD).kept k1, hasc.filter _, hSs, hp, by omega, fun d hd => ?_, fun D2 H3 qs es k3 hn hD2 hq hes hmem => ?_⟩
        · rcases hd with hd | hd
          · exact Nat.le_trans (hz2 d (List.mem_filter.mp hd).1).1 (by decide)
          · obtain ⟨c, hc1, rfl⟩ := List.mem_map.mp hd
            exact Nat.le_trans (List.length_filter_le _ _) (Nat.le_trans (hz2 c (List.mem_filter.mp hc1).1).1 (by decide))
        · walk_at "rd"
          refine ⟨D2, _, rfl, .inl ⟨SqL.of hD2, fun p hp' => ?_⟩⟩
          have kN := Kept.new (o := .tup (qs.map V.ref)) hp'
          have kA := (kD.trans k1).trans k3
          refine k p _ qs es hes (fun d => ?_) (kA.trans kN) (kA.free _ hp') upd_same (hq.kept kN)
          rw [hmem d]
          constructor
          · rintro (h | h)
            · obtain ⟨h1, h2⟩ := List.mem_filter.mp h
              rw [Bool.and_eq_true, decide_eq_true_eq, decide_eq_true_eq] at h2
              exact ⟨d, h1, h2.1, List.filter_eq_self.mpr fun x hx => decide_eq_true fun z => h2.2 (z ▸ hx)⟩
            · obtain ⟨c, hc1, h3⟩ := List.mem_map.mp h
              obtain ⟨h1, h2⟩ := List.mem_filter.mp hc1
              exact ⟨c, h1, fun z => (hz2 c h1).2 l z (of_decide_eq_true h2), h3⟩
          · rintro ⟨c, h1, h2, h3⟩
            by_cases hin : -l ∈ c
            · exact .inr (List.mem_map.mpr ⟨c, List.mem_filter.mpr ⟨h1, decide_eq_true hin⟩, h3⟩)
            · refine .inl ?_
              have e : c.filter (fun x => decide (x ≠ -l)) = c := List.filter_eq_self.mpr fun x hx => decide_eq_true fun z => hin (z ▸ hx)
              rw [← h3, e]
              exact List.mem_filter.mpr ⟨h1, by rw [decide_eq_true h2, decide_eq_true hin] <;> rfl⟩
end
end Ky

namespace Ky
open PySem PySem.Spec PyProof.Rows L2
local macro_rules | `(tactic| walk_at "rd") => `(tactic| repeat (first
  | with_reducible refine w_seq ?_
  | with_reducible refine w_asg ?_
  | with_reducible refine w_ret ?_
  | with_reducible refine w_drop ?_
  | with_reducible refine w_ifs ?_
  | ((with_reducible refine' w_var ?hh ?_); (case hh => exact rfl))
  | with_reducible refine w_c ?_
  | with_reducible refine w_op ?_
  | with_reducible refine w_un ?_
  | with_reducible refine w_I0 ?_
  | with_reducible refine w_U ?_
  | with_reducible refine w_nil ?_
  | with_reducible refine w_cons ?_
  | with_reducible refine w_call ?_
  | with_reducible refine w_cb ?_
  | with_reducible refine w_test ?_
  | with_reducible refine w_B ?_
  | with_reducible refine w_bl ?_
  | with_reducible refine w_and ?_
  | with_reducible refine w_or ?_
  | with_reducible refine w_not ?_
  | with_reducible refine w_ife ?_
  | with_reducible refine w_gRd ?_
  | with_reducible refine w_andV ?_
  | with_reducible refine w_orV ?_
  | with_reducible refine w_notV ?_
  | with_reducible refine w_chain ?_
  | with_reducible refine w_din ?_
  | with_reducible refine w_isi_ii ?_
  | with_reducible refine w_isi_ib ?_
  | with_reducible refine w_isi_it ?_
  | with_reducible refine w_isi_st ?_
  | ((with_reducible refine w_isi_tt ?h1 ?_); (case h1 => first | assumption | exact upd_same))
  | with_reducible refine if_t rfl ?_
  | with_reducible refine if_f rfl ?_
  | with_reducible refine w_tup ?_
  | with_reducible refine w_lst ?_
  | with_reducible refine w_next ?_
  | with_reducible refine w_bm ?_
  | with_reducible refine w_sl ?_
  | with_reducible refine w_part ?_
  | with_reducible refine w_nop ?_
  | with_reducible refine w_isI ?_
  | with_reducible refine w_yes ?_
  | with_reducible refine w_gn ?_
  | with_reducible refine w_gsub ?_
  | ((with_reducible refine' w_setL ?h1 ?h2 ?_); (case h1 => first | assumption | exact upd_same); (case h2 => exact rfl))
  | with_reducible refine w_asgG ?_
  | with_reducible refine w_m1 ?_
  | with_reducible refine w_isS ?_
  | with_reducible refine w_tyS ?_
  | ((with_reducible refine' w_tyL ?h1 ?_); (case h1 => first | assumption | exact upd_same))
  | ((with_reducible refine' w_ixT ?h1 ?h2 ?_); (case h1 => first | assumption | exact upd_same); (case h2 => exact rfl))
  | ((with_reducible refine' w_ixL ?h1 ?h2 ?_); (case h1 => first | assumption | exact upd_same); (case h2 => exact rfl))
  | ((with_reducible refine w_eq ?h1 ?_); (case h1 => exact rfl))
  | ((with_reducible refine w_ne ?h1 ?_); (case h1 => exact rfl))
  | dsimp only [List.set_cons_zero, List.set_cons_succ, List.append_nil, List.cons_append, List.nil_append, cxOf]))

def underF (cs : List (List Int)) (l : Int) : List (List Int) := residueF ((cs.filter fun c => decide (l ∉ c)).map fun c => c.filter fun x => decide (x ≠ -l))
theorem mem_underF {cs : List (List Int)} {l : Int} {d : List Int} : d ∈ underF cs l ↔ inUnder cs l d := by
  unfold underF inUnder
  rw [mem_residueF, List.mem_map]
  constructor
  · rintro ⟨c, h1, h2⟩
    obtain ⟨h1, h3⟩ := List.mem_filter.mp h1
    exact ⟨c, h1, of_decide_eq_true h3, h2⟩
  · rintro ⟨c, h1, h2, h3⟩
    exact ⟨c, List.mem_filter.mpr ⟨h1, decide_eq_true h2⟩, h3⟩
theorem underF_asc (cs : List (List Int)) (l : Int) : ascC (underF cs l) := asc_srt _
/-- a residue of small clauses -/
structure Small3 (cs : List (List Int)) : Prop where
  asc : ascC cs
  len : cs.length ≤ 400
  cl : ∀ c ∈ cs, c.length ≤ 400 ∧ noBoth c
theorem Small3.under {cs : List (List Int)} (h : Small3 cs) (l : Int) : Small3 (underF cs l) := by
  refine ⟨underF_asc cs l, ?_, fun d hd => ?_⟩
  · have h1 : (underF cs l).length ≤ cs.length := by
      unfold underF residueF
      rw [(srtBy_perm _ _).length_eq]
      refine Nat.le_trans (len_dd _) ?_
      rw [List.length_map]
      exact List.length_filter_le _ _
    exact Nat.le_trans h1 h.len
  · obtain ⟨c, h1, _, h3⟩ := mem_underF.mp hd
    obtain ⟨h4, h5⟩ := h.cl c h1
    rw [← h3]
    exact ⟨Nat.le_trans (List.length_filter_le _ _) h4, fun k hk hk2 => h5 k (List.mem_filter.mp hk).1 (List.mem_filter.mp hk2).1⟩
theorem w_dnin {td ty : TE} {σ : L2.St} {H : Hp} {Q : VK} (q : ty σ H fun y H1 => td σ H1 fun x H2 => ∃ a o, x = .ref a ∧ DGet H2 a y o ∧ Q (.bl (!o.isSome)) H2) : tDNotIn ty td σ H Q := q
theorem snoc_ind {α : Type} {P : List α → Prop} (h0 : P []) (h1 : ∀ l x, P l → P (l ++ [x])) (l : List α) : P l := by
  have q : ∀ r : List α, P r.reverse := fun r => by
    induction r with
    | nil => exact h0
    | cons x r ih =>
      rw [List.reverse_cons]
      exact h1 _ _ ih
  have := q l.reverse
  rwa [List.reverse_reverse] at this
def givenF (ls : List Int) : List Int := ls.foldl (fun gs l => if -l ∈ gs then gs else gs ++ [l]) []
theorem givenF_snoc (ls : List Int) (l : Int) : givenF (ls ++ [l]) = if -l ∈ givenF ls then givenF ls else givenF ls ++ [l] := by
  unfold givenF
  rw [List.foldl_append] <;> rfl
theorem len_givenF (ls : List Int) : (givenF ls).length ≤ ls.length := by
  refine snoc_ind (P := fun ls => (givenF ls).length ≤ ls.length) (Nat.le_refl _) (fun l x ih => ?_) ls
  rw [givenF_snoc, List.length_append, List.length_singleton]
  split
  · omega
  · rw [List.length_append, List.length_singleton]; omega
def cutC (gs c : List Int) : List Int := c.filter fun n => decide (-n ∉ gs)
def freeC (gs c : List Int) : Bool := c.all fun n => decide (n ∉ gs)
theorem freeC_iff {gs c : List Int} : freeC gs c = true ↔ ∀ n ∈ c, n ∉ gs := by
  unfold freeC
  rw [List.all_eq_true]
  exact ⟨fun h n hn => of_decide_eq_true (h n hn), fun h n hn => decide_eq_true (h n hn)⟩
theorem mem_cutC {gs c : List Int} {n : Int} : n ∈ cutC gs c ↔ n ∈ c ∧ -n ∉ gs := by
  unfold cutC
  rw [List.mem_filter, decide_eq_true_eq]
theorem mem_foldU (cs : List (List Int)) (ls : List Int) : ∀ d, d ∈ ls.foldl underF cs ↔ ∃ c ∈ cs, freeC (givenF ls) c = true ∧ cutC (givenF ls) c = d := by
  refine snoc_ind (P := fun ls => ∀ d, d ∈ ls.foldl underF cs ↔ ∃ c ∈ cs, freeC (givenF ls) c = true ∧ cutC (givenF ls) c = d) (fun d => ?_) (fun l x ih d => ?_) ls
  · have e : ∀ c : List Int, cutC (givenF []) c = c := fun c => List.filter_eq_self.mpr fun n hn => decide_eq_true (by show ¬ (-n ∈ ([] : List Int)); simp)
    constructor
    · exact fun h => ⟨d, h, freeC_iff.mpr fun n hn => (by show ¬ (n ∈ ([] : List Int)); simp), e d⟩
    · rintro ⟨c, h1, h2, h3⟩
      rw [← h3, e c]
      exact h1
  · rw [List.foldl_append]
    show d ∈ underF (l.foldl underF cs) x ↔ _
    rw [mem_underF, givenF_snoc]
    unfold inUnder
    generalize givenF l = G at ih
    by_cases hx : -x ∈ G
    · rw [if_pos hx]
      have key : ∀ c, freeC G c = true → x ∉ cutC G c ∧ (cutC G c).filter (fun y => decide (y ≠ -x)) = cutC G c := fun c hc => by
        have hc := freeC_iff.mp hc
        exact ⟨fun z => (mem_cutC.mp z).2 hx, List.filter_eq_self.mpr fun y hy => decide_eq_true fun z => hc y (mem_cutC.mp hy).1 (z ▸ hx)⟩
      constructor
      · rintro ⟨e, he, h1, h2⟩
        obtain ⟨c, c1, c2, rfl⟩ := (ih e).mp he
        exact ⟨c, c1, c2, by rw [← h2, (key c c2).2]⟩
      · rintro ⟨c, c1, c2, rfl⟩
        exact ⟨_, (ih _).mpr ⟨c, c1, c2, rfl⟩, (key c c2).1, (key c c2).2⟩
    · rw [if_neg hx]
      have key : ∀ c : List Int, (cutC G c).filter (fun y => decide (y ≠ -x)) = cutC (G ++ [x]) c := fun c => by
        unfold cutC
        rw [List.filter_filter]
        refine List.filter_congr fun y _ => ?_
        rw [Bool.eq_iff_iff, Bool.and_eq_true, decide_eq_true_eq, decide_eq_true_eq, decide_eq_true_eq, List.mem_append, List.mem_singleton]
        constructor
        · rintro ⟨h1, h2⟩ (h | h)
          · exact h2 h
          · exact h1 (by omega)
        · exact fun h => ⟨fun z => h (.inr (by omega)), fun z => h (.inl z)⟩
      constructor
      · rintro ⟨e, he, h1, h2⟩
        obtain ⟨c, c1, c2, rfl⟩ := (ih e).mp he
        have c2' := freeC_iff.mp c2
        refine ⟨c, c1, freeC_iff.mpr fun n hn z => ?_, by rw [← key c, h2]⟩
        rcases List.mem_append.mp z with z | z
        · exact c2' n hn z
        · rw [List.mem_singleton.mp z] at hn
          exact h1 (mem_cutC.mpr ⟨hn, hx⟩)
      · rintro ⟨c, c1, c2, c3⟩
        have c2' := freeC_iff.mp c2
        refine ⟨_, (ih _).mpr ⟨c, c1, freeC_iff.mpr fun n hn z => c2' n hn (List.mem_append_left _ z), rfl⟩, fun z => ?_, by rw [key c, c3]⟩
        exact c2' x (mem_cutC.mp z).1 (List.mem_append_right _ List.mem_cons_self)
theorem Small3.foldU {cs : List (List Int)} (h : Small3 cs) (ls : List Int) : Small3 (ls.foldl underF cs) := by
  refine snoc_ind (P := fun ls => Small3 (ls.foldl underF cs)) h (fun l x ih => ?_) ls
  rw [List.foldl_append]
  exact ih.under x
/-- the literals that stand, as keys of a dict -/
def GivenAt (H : Hp) (g : Addr) (gs : List Int) : Prop := ∃ kvs : List (L2.Key × V), H g = some (.dK kvs) ∧ kvs.length ≤ gs.length ∧ ∀ k, (valV kvs (.inl k)).isSome = decide (k ∈ gs)
theorem GivenAt.kept {H H' : Hp} {g : Addr} {gs : List Int} (h : GivenAt H g gs) (k : Kept H H') : GivenAt H' g gs := by
  obtain ⟨kvs, h1, h2⟩ := h
  exact ⟨kvs, k.keep g _ (fun ps z => by cases z) h1, h2⟩
def spGivenBy : Sp := fun vs H Q _ => ∃ (a : Addr) (ls : List Int), vs = [.ref a] ∧ H a = some (.lst (ls.map V.int)) ∧ ls.length ≤ 1000 ∧ ∀ g H', Kept H H' → GivenAt H' g (givenF ls) → Q (.ref g) H'
def spClauseUnder : Sp := fun vs H Q _ => ∃ (a g : Addr) (c gs : List Int), vs = [.ref a, .ref g] ∧ H a = some (.tup (c.map V.int)) ∧ c.length ≤ 900 ∧ GivenAt H g gs ∧ (freeC gs c = false → ∀ H', Kept H H' → Q .non H') ∧
  (freeC gs c = true → ∀ p H', Kept H H' → H' p = some (.tup ((cutC gs c).map V.int)) → Q (.ref p) H')
/-- the clauses that stay, and the others cut -/
def ktF (gs : List Int) (cs : List (List Int)) : List (List Int) := cs.filter fun c => freeC gs c && decide (cutC gs c = c)
def stF (gs : List Int) (cs : List (List Int)) : List (List Int) := (cs.filter fun c => freeC gs c && !decide (cutC gs c = c)).map (cutC gs)
def spUnderAll : Sp := fun vs H Q _ => ∃ (a b : Addr) (bs : List Addr) (cs : List (List Int)) (ls : List Int), vs = [.ref a, .ref b] ∧ H a = some (.tup (bs.map V.ref)) ∧ ClsAt H bs cs ∧ Small3 cs ∧ H b = some (.lst (ls.map V.int)) ∧ ls.length ≤ 1000 ∧
  ∀ p H' (bs' : List Addr), Kept H H' → H' p = some (.tup (bs'.map V.ref)) → ClsAt H' bs' (ls.foldl underF cs) → Q (.ref p) H'
section
variable {P : Program} {w : World} {K : PySem.W.Frag} {mg : Str → Option Value} {base : Heap} {uG : Value} {f : Addr} {fd : FuncData}
theorem ok_given_by (F : Fun K "given_by" "given_by" s_given_by f fd) (T : Tx K mg uG) : FnOk P w K mg base CX0 1 f fd ["literals"] spGivenBy := by
  refine F.ok sc_given_by (fun vs H Q E h => ?_) (fun cdv A outer s H vs Q E hr h => ?_)
  · obtain ⟨a, ls, rfl, _⟩ := h
    rfl
  · obtain ⟨a, ls, rfl, ha, hz, k⟩ := h
    have hsl : 1001 ≤ sizeLine := by decide
    refine ⟨_, (pss_cons (ps_set (i := 1) sc_given_by.nd rfl (.inl rfl) pe_dnewK)
    (pss_cons (ps_for PassesOwn.never rfl (pi_listK (K := K) rfl (pv 0)) (pg_name (i := 2) sc_given_by.nd rfl (.inl rfl))
      (pss_one (ps_if (pt_cmp (pc_dnotin hr.u1 (pe_un un_neg (pv 2)) (pv 1)) (by rfl))
      (pss_one (ps_asg pe_bl (pg_sub (pv 1) (pv 2) (set_dict hr.u1))))
      pss_nil)))
    (pss_one (ps_ret (pv 1))))), ?_⟩
    rw [show start n_given_by [(.ref a : V)] = ([some (.ref a), none, none] : List (Option V)) from rfl]
    walk_at "rd"
    refine fun g hg => ?_
    have kg := Kept.new (o := .dK []) hg
    have eg : (upd H g (.dK [])) g = some (.dK []) := upd_same
    generalize upd H g (.dK []) = H1 at kg eg
    walk_at "rd"
    refine ⟨_, rfl, a, rfl, ⟨_, SqL.of (kg.lst ha)⟩, for_list (K := K) (a := a) (xs := ls.map V.int) (fun i σ' H' => ∃ v : Option V, σ' = [some (.ref a), some (.ref g), v] ∧ Kept H H' ∧ GivenAt H' g (givenF (ls.take i)))
      ⟨none, rfl, kg, [], eg, Nat.zero_le _, fun k => by simp [valV_nil, givenF]⟩ (fun i σ' H' _ h => by
        obtain ⟨_, _, k1, _⟩ := h
        exact SqL.of (k1.lst ha)) ?_ ?_⟩
    · rintro i x σ' H' hx ⟨v, rfl, k1, kvs, h1, h2, h3⟩
      obtain ⟨n, rfl, hn⟩ := map_int hx
      have hi : i < ls.length := (List.getElem?_eq_some_iff.mp hn).1
      have en : ls.take (i + 1) = ls.take i ++ [n] := by rw [List.take_add_one, hn]; rfl
      have hgl := len_givenF (ls.take i)
      rw [List.length_take] at hgl
      walk_at "rd"
      refine w_dnin ?_
      walk_at "rd"
      refine ⟨g, _, rfl, DGet.k (k := Sum.inl (-n)) h1, ?_⟩
      rw [h3 (-n)]
      by_cases m : -n ∈ givenF (ls.take i)
      · rw [decide_eq_true m]
        refine ⟨_, rfl, if_f rfl ?_⟩
        walk_at "rd"
        exact ⟨_, rfl, k1, kvs, h1, by rw [en, givenF_snoc, if_pos m]; exact h2, by rw [en, givenF_snoc, if_pos m]; exact h3⟩
      · rw [decide_eq_false m]
        refine ⟨_, rfl, if_t rfl ?_⟩
        walk_at "rd"
        refine ⟨g, _, rfl, DPut.k (k := Sum.inl n) h1 (by omega), ?_⟩
        refine ⟨_, rfl, Kept.mut k1 hg, _, upd_same, ?_, fun j => ?_⟩
        · rw [en, givenF_snoc, if_neg m, List.length_append, List.length_singleton]
          have := length_putK kvs (Sum.inl n) (V.bl true)
          omega
        · rw [valV_put, en, givenF_snoc, if_neg m]
          by_cases e : j = n
          · rw [if_pos (by rw [e]), e, decide_eq_true (List.mem_append_right _ List.mem_cons_self)] <;> rfl
          · rw [if_neg (fun z => e (Sum.inl.inj z)), h3 j]
            exact decide_eq_decide.mpr ⟨fun z => List.mem_append_left _ z, fun z => (List.mem_append.mp z).elim id fun z => absurd (List.mem_singleton.mp z) e⟩
    · rintro σ' H' ⟨v, rfl, k1, h1⟩
      rw [List.length_map, List.take_length] at h1
      walk_at "rd"
      exact k g H' k1 h1
theorem ok_clause_under (F : Fun K "clause_under" "clause_under" s_clause_under f fd) (T : Tx K mg uG) : FnOk P w K mg base CX0 1 f fd ["clause", "given"] spClauseUnder := by
  refine F.ok sc_clause_under (fun vs H Q E h => ?_) (fun cdv A outer s H vs Q E hr h => ?_)
  · obtain ⟨a, g, c, gs, rfl, _⟩ := h
    rfl
  · obtain ⟨a, g, c, gs, rfl, ha, hz, hg, kN, kS⟩ := h
    have hsl : 1001 ≤ sizeLine := by decide
    refine ⟨_, (pss_cons (ps_for PassesOwn.never rfl (pi_tupK (K := K) rfl (pv 0)) (pg_name (i := 2) sc_clause_under.nd rfl (.inl rfl))
      (pss_one (ps_if (pt_cmp (pc_din hr.u1 (pv 2) (pv 1)) (by rfl))
      (pss_one (ps_ret pe_non))
      pss_nil)))
    (pss_one (ps_ret (pe_callTy call_tuple_of (by rfl) T.z_tuple (by decide +kernel) (pa_cons (pe_lc (own := [("literal", 2)]) (g := gName 2) (by rfl) sc_clause_under.nd (pi_tupK (K := K) rfl (pv 0)) (blkOk_by (own := [("literal", 2)]) (N := n_clause_under) (sc := defScope s_clause_under) (by decide +kernel)) (fun _ _ _ _ _ => pg_name (i := 2) sc_clause_under.nd rfl (Or.inl rfl)) (fun _ _ _ _ _ => pts_one (pt_cmp (pc_dnotin hr.u1 (pe_un un_neg (pv 2)) (pv 1)) (by rfl))) (fun _ _ _ _ _ => (pv 2))) pa_nil))))), ?_⟩
    rw [show start n_clause_under [(.ref a : V), (.ref g : V)] = ([some (.ref a), some (.ref g), none] : List (Option V)) from rfl]
    walk_at "rd"
    refine ⟨_, rfl, a, rfl, ⟨_, SqT.of ha⟩, for_tup (K := K) (a := a) (xs := c.map V.int) (fun i σ' H' => ∃ v : Option V, σ' = [some (.ref a), some (.ref g), v] ∧ H' = H ∧ ∀ n ∈ c.take i, n ∉ gs)
      ⟨none, rfl, rfl, fun n hn => by rw [List.take_zero] at hn; cases hn⟩ (fun i σ' H' _ h => by
        obtain ⟨_, _, rfl, _⟩ := h
        exact SqT.of ha) ?_ ?_⟩
    · rintro i x σ' H' hx ⟨v, rfl, rfl, hno⟩
      obtain ⟨n, rfl, hn⟩ := map_int hx
      have en : c.take (i + 1) = c.take i ++ [n] := by rw [List.take_add_one, hn]; rfl
      obtain ⟨kvs, h1, h2, h3⟩ := hg
      walk_at "rd"
      refine ⟨g, _, rfl, DGet.k (k := Sum.inl n) h1, ?_⟩
      rw [h3 n]
      by_cases m : n ∈ gs
      · rw [decide_eq_true m]
        refine ⟨_, rfl, if_t rfl ?_⟩
        walk_at "rd"
        refine kN ?_ _ (Kept.refl _)
        rw [Bool.eq_false_iff]
        exact fun z => freeC_iff.mp z n (List.mem_of_getElem? hn) m
      · rw [decide_eq_false m]
        refine ⟨_, rfl, if_f rfl ?_⟩
        walk_at "rd"
        refine ⟨_, rfl, rfl, fun y hy => ?_⟩
        rw [en] at hy
        rcases List.mem_append.mp hy with z | z
        · exact hno y z
        · rw [List.mem_singleton.mp z]; exact m
    · rintro σ' H' ⟨v, rfl, rfl, hno⟩
      rw [List.length_map, List.take_length] at hno
      obtain ⟨kvs, h1, h2, h3⟩ := hg
      walk_at "rd"
      refine ⟨_, rfl, a, rfl, ⟨_, SqT.of ha⟩, fun D hD => ?_⟩
      refine c_tup (xs := c.map V.int) (fun j H2 => H2 = upd H' D (.lst ((cutC gs (c.take j)).map V.int))) (by rw [List.take_zero]; rfl) (fun j H2 _ h => by rw [h]; exact SqT.of ((Kept.new hD).tup ha)) (fun j x H2 hx h => ?_) fun H3 h => ?_
      · obtain ⟨n, rfl, hn⟩ := map_int hx
        have en : c.take (j + 1) = c.take j ++ [n] := by rw [List.take_add_one, hn]; rfl
        refine ⟨rfl, ?_⟩
        walk_at "rd"
        refine w_dnin ?_
        walk_at "rd"
        refine ⟨g, _, rfl, DGet.k (k := Sum.inl (-n)) (by rw [h]; exact (Kept.new hD).keep g _ (fun ps z => by cases z) h1), ?_⟩
        rw [h3 (-n)]
        by_cases z : -n ∈ gs
        · rw [decide_eq_true z]
          refine ⟨_, rfl, if_f rfl ?_⟩
          show H2 = _
          have hf : cutC gs [n] = [] := List.filter_cons_of_neg (p := fun x => decide (-x ∉ gs)) (by rw [decide_eq_false (fun q => q z)]; exact Bool.false_ne_true)
          rw [h, en]
          unfold cutC at hf ⊢
          rw [List.filter_append, hf, List.append_nil]
        · rw [decide_eq_false z]
          refine ⟨_, rfl, if_t rfl ?_⟩
          walk_at "rd"
          refine ⟨_, by rw [h]; exact upd_same, ?_, ?_⟩
          · rw [List.length_map]
            have h1 : (cutC gs (c.take j)).length ≤ _ := List.length_filter_le _ _
            rw [List.length_take] at h1
            omega
          · have hf : cutC gs [n] = [n] := List.filter_cons_of_pos (p := fun x => decide (-x ∉ gs)) (decide_eq_true z)
            rw [h, upd_again, en]
            unfold cutC at hf ⊢
            rw [List.filter_append, hf, List.map_append] <;> rfl
      · rw [List.length_map, List.take_length] at h
        have kD := Kept.new (o := .lst ((cutC gs c).map V.int)) hD
        rw [← h] at kD
        walk_at "rd"
        refine ⟨D, _, rfl, .inl ⟨SqL.of (by rw [h]; exact upd_same), fun s hs => ?_⟩⟩
        exact kS (freeC_iff.mpr hno) s _ (kD.trans (Kept.new hs)) upd_same
theorem ok_under_all (F : Fun K "under_all" "under_all" s_under_all f fd) (T : Tx K mg uG) (D_given_by : Df P w K mg base 1 "given_by" ["literals"] spGivenBy) (D_clause_under : Df P w K mg base 1 "clause_under" ["clause", "given"] spClauseUnder) (D_merged : Df P w K mg base 4 "merged" ["rows", "clauses"] spMerged) : FnOk P w K mg base CX0 5 f fd ["residue", "literals"] spUnderAll := by
  refine F.ok sc_under_all (fun vs H Q E h => ?_) (fun cdv A outer s H vs Q E hr h => ?_)
  · obtain ⟨a, b, bs, cs, ls, rfl, _⟩ := h
    rfl
  · obtain ⟨a, b, bs, cs, ls, rfl, ha, hc, hsm, hb, hlz, k⟩ := h
    have hsl : 1001 ≤ sizeLine := by decide
    have hlc := hsm.len
    have hlb : (bs.map V.ref).length = cs.length := by rw [List.length_map, hc.1]
    have hfold := mem_foldU cs ls
    have hsf := hsm.foldU ls
    refine ⟨_, (pss_cons (ps_set (i := 2) sc_under_all.nd rfl (.inl rfl) (pe_df D_given_by (hr.mono (by decide)) (by rfl) (pa_cons (pv 1) pa_nil)))
    (pss_cons (ps_set (i := 3) sc_under_all.nd rfl (.inl rfl) (pe_lst pa_nil))
    (pss_cons (ps_set (i := 4) sc_under_all.nd rfl (.inl rfl) (pe_lst pa_nil))
    (pss_cons (ps_for PassesOwn.never rfl (pi_tupK (K := K) rfl (pv 0)) (pg_name (i := 5) sc_under_all.nd rfl (.inl rfl))
      (pss_cons (ps_set (i := 6) sc_under_all.nd rfl (.inl rfl) (pe_df D_clause_under (hr.mono (by decide)) (by rfl) (pa_cons (pv 5) (pa_cons (pv 2) pa_nil))))
    (pss_one (ps_if (pt_cmpR (opK (K := K) (r := rEqD) rfl (op_eqD hr.units)) (pv 6) (pv 5) (nomark _))
      (pss_one (ps_expr (pe_bm PySem.F.plainAttrs_list PySem.F.slot_list_append PySem.F.type_list_append mt_append (pv 3) (pa_cons (pv 5) pa_nil))))
      (pss_one (ps_if (pt_cmpR op_notN (pv 6) pe_non (nomark _))
      (pss_one (ps_expr (pe_bm PySem.F.plainAttrs_list PySem.F.slot_list_append PySem.F.type_list_append mt_append (pv 4) (pa_cons (pv 6) pa_nil))))
      pss_nil))))))
    (pss_one (ps_ret (pe_callTy call_tuple_of (by rfl) T.z_tuple (by decide +kernel) (pa_cons (pe_df D_merged (hr.mono (by decide)) (by rfl) (pa_cons (pv 3) (pa_cons (pv 4) pa_nil))) pa_nil)))))))), ?_⟩
    rw [show start n_under_all [(.ref a : V), (.ref b : V)] = ([some (.ref a), some (.ref b), none, none, none, none, none] : List (Option V)) from rfl]
    walk_at "rd"
    refine ⟨b, ls, rfl, hb, hlz, fun g H1 k1 hG => ?_⟩
    generalize givenF ls = gs at hG hfold
    walk_at "rd"
    refine ⟨Nat.zero_le _, fun KL hKL => ?_⟩
    have kk := Kept.new (o := .lst []) hKL
    have eK : (upd H1 KL (.lst [])) KL = some (.lst []) := upd_same
    generalize upd H1 KL (.lst []) = H2 at kk eK
    walk_at "rd"
    refine ⟨Nat.zero_le _, fun SL hSL => ?_⟩
    have ks := Kept.new (o := .lst []) hSL
    have eS : (upd H2 SL (.lst [])) SL = some (.lst []) := upd_same
    have eK2 := ks.lst eK
    have ne : KL ≠ SL := ne_of_none eK hSL
    have hSL1 : H1 SL = none := kk.free _ hSL
    generalize upd H2 SL (.lst []) = H3 at ks eS eK2
    have k13 := kk.trans ks
    walk_at "rd"
    refine ⟨_, rfl, a, rfl, ⟨_, SqT.of ((k1.trans k13).tup ha)⟩, for_tup (K := K) (a := a) (xs := bs.map V.ref) (fun i σ' H' => ∃ (v5 v6 : Option V) (kb sb : List Addr), σ' = [some (.ref a), some (.ref b), some (.ref g), some (.ref KL), some (.ref SL), v5, v6] ∧ Kept H1 H' ∧ H' KL = some (.lst (kb.map V.ref)) ∧ ClsAt H' kb (ktF gs (cs.take i)) ∧ H' SL = some (.lst (sb.map V.ref)) ∧ ClsAt H' sb (stF gs (cs.take i)))
      ⟨none, none, [], [], rfl, k13, eK2, ⟨rfl, fun i b c h => by simp at h⟩, eS, ⟨rfl, fun i b c h => by simp at h⟩⟩ (fun i σ' H' _ h => by
        obtain ⟨_, _, _, _, _, k2, _⟩ := h
        exact SqT.of ((k1.trans k2).tup ha)) ?_ ?_⟩
    · rintro i x σ' H' hx ⟨v5, v6, kb, sb, rfl, k2, hK, hKc, hS, hSc⟩
      rw [List.getElem?_map] at hx
      obtain ⟨q, hq, rfl⟩ := Option.map_eq_some_iff.mp hx
      have hi : i < cs.length := by rw [← hc.1]; exact (List.getElem?_eq_some_iff.mp hq).1
      have hci : cs[i]? = some cs[i] := List.getElem?_eq_getElem hi
      have e1 := (k1.trans k2).tup (hc.2 i q _ hq hci)
      have hcl := (hsm.cl _ (List.getElem_mem hi)).1
      have et : cs.take (i + 1) = cs.take i ++ [cs[i]] := by rw [List.take_add_one, hci]; rfl
      have hkl : kb.length ≤ i := by
        rw [hKc.1]
        refine Nat.le_trans (List.length_filter_le _ _) ?_
        rw [List.length_take]; omega
      have hsl2 : sb.length ≤ i := by
        rw [hSc.1]
        unfold stF
        rw [List.length_map]
        refine Nat.le_trans (List.length_filter_le _ _) ?_
        rw [List.length_take]; omega
      have eKt : ktF gs (cs.take (i + 1)) = ktF gs (cs.take i) ++ ktF gs [cs[i]] := by unfold ktF; rw [et, List.filter_append]
      have eSt : stF gs (cs.take (i + 1)) = stF gs (cs.take i) ++ stF gs [cs[i]] := by unfold stF; rw [et, List.filter_append, List.map_append]
      rw [eKt, eSt]
      generalize cs[i] = c at e1 hcl ⊢
      walk_at "rd"
      refine ⟨q, g, c, gs, rfl, e1, by omega, hG.kept k2, fun hf H5 k5 => ?_, fun hf p H5 k5 hp5 => ?_⟩
      · have z1 : ktF gs [c] = [] := List.filter_cons_of_neg (by rw [hf]; exact Bool.false_ne_true)
        have z2 : stF gs [c] = [] := by unfold stF; rw [List.filter_cons_of_neg (by rw [hf]; exact Bool.false_ne_true)] <;> rfl
        rw [z1, z2, List.append_nil, List.append_nil]
        walk_at "rd"
        refine ⟨.none, _, .non, dp_ints (k5.tup e1), rfl, shT_ints _, ?_⟩
        rw [show PyData.eqv .none (.tuple (c.map PyData.int)) = false from by simp [PyData.eqv]]
        refine ⟨_, rfl, if_f rfl ?_⟩
        walk_at "rd"
        refine ⟨rfl, _, rfl, if_f rfl ?_⟩
        walk_at "rd"
        exact ⟨_, _, kb, sb, rfl, k2.trans k5, k5.lst hK, hKc.kept k5, k5.lst hS, hSc.kept k5⟩
      · walk_at "rd"
        refine ⟨_, _, dp_ints hp5, dp_ints (k5.tup e1), shT_ints _, shT_ints _, ?_⟩
        rw [eqv_ints]
        have hK5 := k5.lst hK
        have hS5 := k5.lst hS
        by_cases hcc : cutC gs c = c
        · have z1 : ktF gs [c] = [c] := List.filter_cons_of_pos (by rw [hf, decide_eq_true hcc] <;> rfl)
          have z2 : stF gs [c] = [] := by unfold stF; rw [List.filter_cons_of_neg (by rw [hf, decide_eq_true hcc]; exact Bool.false_ne_true)] <;> rfl
          rw [z1, z2, List.append_nil]
          refine ⟨_, rfl, if_t (decide_eq_true hcc) ?_⟩
          walk_at "rd"
          refine ⟨KL, kb.map V.ref, .ref q, rfl, rfl, hK5, by rw [List.length_map]; omega, ?_⟩
          refine ⟨_, _, kb ++ [q], sb, rfl, Kept.mut (k2.trans k5) hKL, by rw [List.map_append]; exact upd_same, clsAt_upd (clsAt_snoc0 (hKc.kept k5) (k5.tup e1)) hK5, by rw [upd_ne ne.symm]; exact hS5, clsAt_upd (hSc.kept k5) hK5⟩
        · have z1 : ktF gs [c] = [] := List.filter_cons_of_neg (by rw [hf, decide_eq_false hcc]; exact Bool.false_ne_true)
          have z2 : stF gs [c] = [cutC gs c] := by unfold stF; rw [List.filter_cons_of_pos (by rw [hf, decide_eq_false hcc] <;> rfl)] <;> rfl
          rw [z1, z2, List.append_nil]
          refine ⟨_, rfl, if_f (decide_eq_false hcc) ?_⟩
          walk_at "rd"
          refine ⟨rfl, _, rfl, if_t rfl ?_⟩
          walk_at "rd"
          refine ⟨SL, sb.map V.ref, .ref p, rfl, rfl, hS5, by rw [List.length_map]; omega, ?_⟩
          refine ⟨_, _, kb, sb ++ [p], rfl, Kept.mut (k2.trans k5) hSL1, by rw [upd_ne ne]; exact hK5, clsAt_upd (hKc.kept k5) hS5, by rw [List.map_append]; exact upd_same, clsAt_upd (clsAt_snoc0 (hSc.kept k5) hp5) hS5⟩
    · rintro σ' H' ⟨v5, v6, kb, sb, rfl, k2, hK, hKc, hS, hSc⟩
      rw [hlb, List.take_length] at hKc hSc
      have hl1 : (ktF gs cs).length ≤ cs.length := List.length_filter_le _ _
      have hl2 : (stF gs cs).length ≤ cs.length := by
        unfold stF
        rw [List.length_map]
        exact List.length_filter_le _ _
      walk_at "rd"
      refine ⟨KL, SL, kb, sb, _, _, rfl, .inl hK, hKc, hsm.asc.filter _, hS, hSc, by omega, fun d hd => ?_, fun D2 H3 qs es k3 hn hD2 hq hes hmem => ?_⟩
      · rcases hd with hd | hd
        · exact Nat.le_trans (hsm.cl d (List.mem_filter.mp hd).1).1 (by decide)
        · obtain ⟨c, hc1, rfl⟩ := List.mem_map.mp hd
          exact Nat.le_trans (List.length_filter_le _ _) (Nat.le_trans (hsm.cl c (List.mem_filter.mp hc1).1).1 (by decide))
      · walk_at "rd"
        refine ⟨D2, _, rfl, .inl ⟨SqL.of hD2, fun p hp' => ?_⟩⟩
        have kN := Kept.new (o := .tup (qs.map V.ref)) hp'
        have ee : es = ls.foldl underF cs := by
          refine asc_unique hes hsf.asc fun d => ?_
          rw [hmem d, hfold d]
          constructor
          · rintro (h | h)
            · obtain ⟨h1, h2⟩ := List.mem_filter.mp h
              rw [Bool.and_eq_true, decide_eq_true_eq] at h2
              exact ⟨d, h1, h2.1, h2.2⟩
            · obtain ⟨c, hc1, h3⟩ := List.mem_map.mp h
              obtain ⟨h1, h2⟩ := List.mem_filter.mp hc1
              rw [Bool.and_eq_true] at h2
              exact ⟨c, h1, h2.1, h3⟩
          · rintro ⟨c, h1, h2, h3⟩
            by_cases hcc : cutC gs c = c
            · refine .inl (List.mem_filter.mpr ⟨?_, ?_⟩)
              · rw [← h3, hcc]; exact h1
              · rw [← h3, hcc, h2, decide_eq_true hcc] <;> rfl
            · exact .inr (List.mem_map.mpr ⟨c, List.mem_filter.mpr ⟨h1, by rw [h2, decide_eq_false hcc] <;> rfl⟩, h3⟩)
        rw [ee] at hq
        exact k p _ qs ((k1.trans k2).trans (k3.trans kN)) upd_same (hq.kept kN)
end
section
variable {P : Program} {w : World} {K : PySem.W.Frag} {mg : Str → Option Value} {base : Heap} {uG : Value} {f : Addr} {fd : FuncData}
/-! ### the law's own -/
/-- rows in the order of their data, each still what it was -/
theorem sort_at {γ : Type} (g : γ → PyData) (R : Addr → γ → Prop) {bs : List Addr} {cs : List γ} (hl : bs.length = cs.length) (h : ∀ (i : Nat) (b : Addr) (c : γ), bs[i]? = some b → cs[i]? = some c → R b c) :
    ∃ bs' : List Addr, sortD (bs.map V.ref) (cs.map g) = bs'.map V.ref ∧ bs'.length = (srtBy g cs).length ∧ ∀ (i : Nat) (b : Addr) (c : γ), bs'[i]? = some b → (srtBy g cs)[i]? = some c → R b c := by
  have e1 : bs = (bs.zip cs).map (·.1) := (List.map_fst_zip (by omega)).symm
  have e2 : cs = (bs.zip cs).map (·.2) := (List.map_snd_zip (by omega)).symm
  have hz : ∀ p ∈ bs.zip cs, R p.1 p.2 := fun p hp => by
    obtain ⟨i, hi⟩ := List.mem_iff_getElem?.mp hp
    rw [List.getElem?_zip_eq_some] at hi
    exact h i _ _ hi.1 hi.2
  have q2 := srtBy_map (fun p : Addr × γ => p.2) g (bs.zip cs)
  rw [← e2] at q2
  refine ⟨(srtBy (fun p : Addr × γ => g p.2) (bs.zip cs)).map (·.1), ?_, by rw [← q2, List.length_map, List.length_map], fun i b c h1 h2 => ?_⟩
  · have q := sortD_map (fun p : Addr × γ => V.ref p.1) (fun p : Addr × γ => g p.2) (bs.zip cs)
    have a1 : (bs.zip cs).map (fun p : Addr × γ => V.ref p.1) = bs.map V.ref := by
      conv => rhs; rw [e1]
      rw [List.map_map] <;> rfl
    have a2 : (bs.zip cs).map (fun p : Addr × γ => g p.2) = cs.map g := by
      conv => rhs; rw [e2]
      rw [List.map_map] <;> rfl
    rw [a1, a2] at q
    rw [q, List.map_map] <;> rfl
  · rw [← q2] at h2
    rw [List.getElem?_map] at h1 h2
    obtain ⟨p, hp, rfl⟩ := Option.map_eq_some_iff.mp h1
    rw [hp] at h2
    cases h2
    exact hz p (mem_srtBy.mp (List.mem_of_getElem? hp))
theorem mulW {i j : Int} (hi : i.natAbs < 2 ^ 64) (hj : j.natAbs < 2 ^ 64) : CMulW i j := by
  have h1 := PySem.Flt.log2_lt_of (by decide) hi
  have h2 := PySem.Flt.log2_lt_of (by decide) hj
  unfold CMulW
  omega
def spLClause : Sp := fun vs H Q _ => ∃ (a : Addr) (ls : List Int), vs = [.ref a] ∧ H a = some (.lst (ls.map V.int)) ∧ ls.length ≤ 1000 ∧ (∀ n ∈ ls, n.natAbs < 2 ^ 60) ∧ ∀ p H', Kept H H' → H p = none → H' p = some (.tup ((srtBy keyD ls).map V.int)) → Q (.ref p) H'
theorem sgn_back (n : Int) : absI n * (2 * sgI n - 1) = n := by
  unfold absI sgI
  by_cases h : n < 0
  · rw [if_pos h, if_neg (by omega)]
    omega
  · rw [if_neg h]
    by_cases h2 : n > 0
    · rw [if_pos h2]; omega
    · rw [if_neg h2]
      have : n = 0 := by omega
      subst this
      rfl
theorem ok_l_clause (F : Fun K "_law_clause" "_law_clause" s_l_clause f fd) (T : Tx K mg uG) (D_l_key : Df P w K mg base 1 "_law_key" ["literal"] spKey) : FnOk P w K mg base CX0 2 f fd ["literals"] spLClause := by
  refine F.ok sc_l_clause (fun vs H Q E h => ?_) (fun cdv A outer s H vs Q E hr h => ?_)
  · obtain ⟨a, ls, rfl, _⟩ := h
    rfl
  · obtain ⟨a, ls, rfl, ha, hz, hsm, k⟩ := h
    refine ⟨_, (pss_one (ps_ret (pe_callTy call_tuple_of (by rfl) T.z_tuple (by decide +kernel) (pa_cons (pe_lc (own := [("pair", 1)]) (g := gName 1) (by rfl) sc_l_clause.nd (pi_listK (K := K) rfl (pe_callB (cr_sortedD hr.units) (by rfl) T.z_sorted (by decide +kernel) (pa_cons (pe_lc (own := [("literal", 2)]) (g := gName 2) (by rfl) sc_l_clause.nd (pi_listK (K := K) rfl (pv 0)) (blkOk_by (own := [("literal", 2)]) (N := n_l_clause) (by rfl)) (fun _ _ _ _ _ => pg_name (i := 2) sc_l_clause.nd rfl (Or.inl rfl)) (fun _ _ _ _ _ => pts_nil) (fun _ _ _ _ _ => (pe_df D_l_key (hr.mono (by decide)) (by rfl) (pa_cons (pv 2) pa_nil)))) pa_nil))) (blkOk_by (own := [("pair", 1)]) (N := n_l_clause) (sc := defScope s_l_clause) (by decide +kernel)) (fun _ _ _ _ _ => pg_name (i := 1) sc_l_clause.nd rfl (Or.inl rfl)) (fun _ _ _ _ _ => pts_nil) (fun _ _ _ _ _ => (pe_op op_mulW (pe_ix (ix_tupK (K := K) rfl) (pv 1) pe_int (fun _ _ => rfl)) (pe_op op_sub (pe_op op_mulW pe_int (pe_ix (ix_tupK (K := K) rfl) (pv 1) pe_int (fun _ _ => rfl))) pe_int)))) pa_nil)))), ?_⟩
    rw [show start n_l_clause [(.ref a : V)] = ([some (.ref a), none, none] : List (Option V)) from rfl]
    walk_at "rd"
    refine ⟨_, rfl, a, rfl, ⟨_, SqL.of ha⟩, fun D hD => ?_⟩
    refine c_list (xs := ls.map V.int) (fun i H1 => ∃ qs : List Addr, H1 D = some (.lst (qs.map V.ref)) ∧ Kept H H1 ∧ qs.length = i ∧ ∀ (j : Nat) (q : Addr) (n : Int), qs[j]? = some q → ls[j]? = some n → H1 q = some (.tup (keyV n))) ⟨[], upd_same, Kept.new hD, rfl, fun j q n h => by simp at h⟩ (fun i H1 _ h => by
      obtain ⟨_, _, k1, _⟩ := h
      exact SqL.of (k1.lst ha)) (fun i x H1 hx h => ?_) fun H1 h => ?_
    · obtain ⟨qs, h1, h2, h3, h4⟩ := h
      obtain ⟨n, rfl, hn⟩ := map_int hx
      have hi : i < ls.length := (List.getElem?_eq_some_iff.mp hn).1
      refine ⟨rfl, w_yes (if_t rfl ?_)⟩
      walk_at "rd"
      refine ⟨n, rfl, fun p hp => ?_⟩
      have kN := Kept.new (o := .tup (keyV n)) hp
      have hD4 := kN.lst h1
      refine ⟨qs.map V.ref, hD4, ?_, qs ++ [p], by rw [List.map_append]; exact upd_same, Kept.mut (h2.trans kN) hD, by rw [List.length_append, h3] <;> rfl, fun j q m hq hm => ?_⟩
      · rw [List.length_map, h3]
        have h6 : 1000 ≤ sizeLine := by decide
        omega
      · by_cases hj : j < qs.length
        · rw [List.getElem?_append_left hj] at hq
          exact tup_upd hD4 (kN.tup (h4 j q m hq hm))
        · have hj2 : j < (qs ++ [p]).length := (List.getElem?_eq_some_iff.mp hq).1
          rw [List.length_append] at hj2
          have ej : j = qs.length := by
            have : j < qs.length + 1 := hj2
            omega
          subst ej
          have eq : q = p := by simpa using hq.symm
          subst eq
          rw [h3, hn] at hm
          cases hm
          exact tup_upd hD4 upd_same
    · obtain ⟨qs, h1, h2, h3, h4⟩ := h
      rw [List.length_map] at h3
      walk_at "rd"
      refine ⟨D, qs.map V.ref, ls.map keyD, rfl, SqL.of h1, dpAll_of (by rw [List.length_map, List.length_map, h3]) fun i x d hx hd => ?_, PySem.W.AllAlike.of keyD_alike, .inl fun d hd => ?_, fun d hd => ?_, fun p hp => ?_⟩
      · rw [List.getElem?_map] at hx hd
        obtain ⟨q, hq, rfl⟩ := Option.map_eq_some_iff.mp hx
        obtain ⟨n, hn, rfl⟩ := Option.map_eq_some_iff.mp hd
        exact dp_key (h4 i q n hq hn)
      · obtain ⟨n, _, rfl⟩ := List.mem_map.mp hd
        exact ⟨_, rfl⟩
      · obtain ⟨n, _, rfl⟩ := List.mem_map.mp hd
        exact keyD_depth n
      · obtain ⟨qs', es, hl', hs'⟩ := sort_at keyD (fun q n => H1 q = some (.tup (keyV n))) h3 h4
        rw [es]
        have kP := Kept.new (o := .lst (qs'.map V.ref)) hp
        refine ⟨p, rfl, ⟨_, SqL.of upd_same⟩, fun D2 hD2 => ?_⟩
        refine c_list (xs := qs'.map V.ref) (fun i H3 => H3 = upd (upd H1 p (.lst (qs'.map V.ref))) D2 (.lst (((srtBy keyD ls).take i).map V.int))) (by rw [List.take_zero]; rfl) (fun i H3 _ h => by rw [h]; exact SqL.of ((Kept.new hD2).lst upd_same)) (fun i x H3 hx h => ?_) fun H3 h => ?_
        · rw [List.getElem?_map] at hx
          obtain ⟨q, hq, rfl⟩ := Option.map_eq_some_iff.mp hx
          have hi : i < (srtBy keyD ls).length := by rw [← hl']; exact (List.getElem?_eq_some_iff.mp hq).1
          have hni : (srtBy keyD ls)[i]? = some (srtBy keyD ls)[i] := List.getElem?_eq_getElem hi
          have hmem : (srtBy keyD ls)[i] ∈ ls := mem_srtBy.mp (List.getElem_mem hi)
          have e1 : H3 q = some (.tup (keyV (srtBy keyD ls)[i])) := by
            rw [h]
            exact (Kept.new hD2).tup (kP.tup (hs' i q _ hq hni))
          have et : (srtBy keyD ls).take (i + 1) = (srtBy keyD ls).take i ++ [(srtBy keyD ls)[i]] := by rw [List.take_add_one, hni]; rfl
          generalize (srtBy keyD ls)[i] = n at hni hmem e1 et
          have hb := hsm n hmem
          refine ⟨rfl, w_yes (if_t rfl ?_)⟩
          have e1' : H3 q = some (.tup [.int (absI n), .int (sgI n)]) := e1
          walk_at "rd"
          have hs1 : (sgI n).natAbs < 2 ^ 64 := by
            unfold sgI
            split <;> decide
          have hs2 : (2 * sgI n - 1).natAbs < 2 ^ 64 := by
            unfold sgI
            split <;> decide
          have hs3 : (absI n).natAbs < 2 ^ 64 := by
            unfold absI
            split <;> omega
          refine w_I (mulW (by decide) hs1) ?_
          walk_at "rd"
          refine w_I (mulW hs3 hs2) ?_
          rw [sgn_back]
          refine ⟨_, by rw [h]; exact upd_same, ?_, ?_⟩
          · rw [List.length_map, List.length_take]
            have h5 : (srtBy keyD ls).length = ls.length := (srtBy_perm keyD ls).length_eq
            have h6 : 1001 ≤ sizeLine := by decide
            omega
          · rw [h, upd_again, et, List.map_append] <;> rfl
        · rw [List.length_map, hl', List.take_length] at h
          have kD2 := Kept.new (o := .lst ((srtBy keyD ls).map V.int)) hD2
          rw [← h] at kD2
          walk_at "rd"
          refine ⟨D2, _, rfl, .inl ⟨SqL.of (by rw [h]; exact upd_same), fun l hl => ?_⟩⟩
          have k9 := (h2.trans kP).trans kD2
          exact k l _ (k9.trans (Kept.new hl)) (k9.free _ hl) upd_same
end
def pairD (c : List Int) : PyData := .tuple [.list (c.map keyD), .tuple (c.map .int)]
theorem ck_listL (a b : List Int) : PySem.W.dataLt (.list (a.map keyD)) (.list (b.map keyD)) = PySem.W.dataLt (ckD a) (ckD b) := by
  unfold ckD
  rw [PySem.W.dataLt_list, PySem.W.dataLt_tuple]
theorem key_eqv : ∀ a b : List Int, PyData.eqvAll (a.map keyD) (b.map keyD) = decide (a = b)
  | [], [] => by simp [PyData.eqvAll]
  | [], y :: ys => by simp [PyData.eqvAll]
  | x :: xs, [] => by simp [PyData.eqvAll]
  | x :: xs, y :: ys => by
    rw [List.map_cons, List.map_cons, PyData.eqvAll, key_eqv xs ys]
    have e : PyData.eqv (keyD x) (keyD y) = decide (x = y) := by
      by_cases h : x = y
      · subst h
        simp [keyD, PyData.eqv, PyData.eqvAll]
      · rw [decide_eq_false h]
        simp only [keyD, PyData.eqv, PyData.eqvAll, Bool.and_true]
        refine Bool.eq_false_iff.mpr fun z => h ?_
        rw [Bool.and_eq_true] at z
        exact key_inj (by simpa using z.1) (by simpa using z.2)
    rw [e]
    by_cases h : x = y <;> by_cases h2 : xs = ys <;> simp [h, h2]
theorem ints_alike : ∀ a b : List Int, PySem.W.alike (.tuple (a.map PyData.int)) (.tuple (b.map PyData.int)) = true := fun a b => by
  simp only [PySem.W.alike]
  exact PySem.W.alike_ints a b
theorem keysL_alike (a b : List Int) : PySem.W.alike (.list (a.map keyD)) (.list (b.map keyD)) = true := by
  have q := ckD_alike a b
  unfold ckD at q
  simp only [PySem.W.alike] at q ⊢
  exact q
theorem pair_lt (a b : List Int) : PySem.W.dataLt (pairD a) (pairD b) = PySem.W.dataLt (ckD a) (ckD b) := by
  unfold pairD
  rw [PySem.W.dataLt_pair (keysL_alike a b) (ints_alike a b), ck_listL]
  have e : PyData.eqv (.list (a.map keyD)) (.list (b.map keyD)) = decide (a = b) := by
    simp only [PyData.eqv]
    exact key_eqv a b
  rw [e, eqv_ints]
  by_cases h : a = b
  · subst h
    simp [lt_irr]
  · simp [h]
theorem pair_alike (a b : List Int) : PySem.W.alike (pairD a) (pairD b) = true := by
  unfold pairD
  simp only [PySem.W.alike, PySem.W.alikeAll]
  have q1 := keysL_alike a b
  have q2 := ints_alike a b
  simp only [PySem.W.alike] at q1 q2
  rw [q1, q2]
  rfl
theorem pair_depth (a : List Int) : (pairD a).depth ≤ 60 := by
  have h1 : (ckD a).depth ≤ 4 := by
    have aux : ∀ a : List Int, PyData.depthAll (a.map keyD) ≤ 2 := by
      intro a
      induction a with
      | nil => simp [PyData.depthAll]
      | cons x a ih =>
        rw [List.map_cons, PyData.depthAll]
        have h1 : (keyD x).depth ≤ 2 := by simp [keyD, PyData.depth, PyData.depthAll]
        omega
    unfold ckD
    simp only [PyData.depth]
    have := aux a
    omega
  unfold ckD at h1
  unfold pairD
  simp only [PyData.depth, PyData.depthAll, PySem.W.depth_ints] at h1 ⊢
  omega
theorem srt_pair (cs : List (List Int)) : srtBy pairD cs = srtBy ckD cs := srtBy_congr fun a _ b _ => pair_lt a b
end Ky

namespace Ky
open PySem PySem.Spec PyProof.Rows L2
local macro_rules | `(tactic| walk_at "rd") => `(tactic| repeat (first
  | with_reducible refine w_seq ?_
  | with_reducible refine w_asg ?_
  | with_reducible refine w_ret ?_
  | with_reducible refine w_drop ?_
  | with_reducible refine w_ifs ?_
  | ((with_reducible refine' w_var ?hh ?_); (case hh => exact rfl))
  | with_reducible refine w_c ?_
  | with_reducible refine w_op ?_
  | with_reducible refine w_un ?_
  | with_reducible refine w_I0 ?_
  | with_reducible refine w_U ?_
  | with_reducible refine w_nil ?_
  | with_reducible refine w_cons ?_
  | with_reducible refine w_call ?_
  | with_reducible refine w_cb ?_
  | with_reducible refine w_test ?_
  | with_reducible refine w_B ?_
  | with_reducible refine w_bl ?_
  | with_reducible refine w_and ?_
  | with_reducible refine w_or ?_
  | with_reducible refine w_not ?_
  | with_reducible refine w_ife ?_
  | with_reducible refine w_gRd ?_
  | with_reducible refine w_andV ?_
  | with_reducible refine w_orV ?_
  | with_reducible refine w_notV ?_
  | with_reducible refine w_chain ?_
  | with_reducible refine w_din ?_
  | with_reducible refine w_isi_ii ?_
  | with_reducible refine w_isi_ib ?_
  | with_reducible refine w_isi_it ?_
  | with_reducible refine w_isi_st ?_
  | ((with_reducible refine w_isi_tt ?h1 ?_); (case h1 => first | assumption | exact upd_same))
  | with_reducible refine if_t rfl ?_
  | with_reducible refine if_f rfl ?_
  | with_reducible refine w_tup ?_
  | with_reducible refine w_lst ?_
  | with_reducible refine w_next ?_
  | with_reducible refine w_bm ?_
  | with_reducible refine w_sl ?_
  | with_reducible refine w_part ?_
  | with_reducible refine w_nop ?_
  | with_reducible refine w_isI ?_
  | with_reducible refine w_yes ?_
  | with_reducible refine w_gn ?_
  | with_reducible refine w_gsub ?_
  | ((with_reducible refine' w_setL ?h1 ?h2 ?_); (case h1 => first | assumption | exact upd_same); (case h2 => exact rfl))
  | with_reducible refine w_asgG ?_
  | with_reducible refine w_m1 ?_
  | with_reducible refine w_isS ?_
  | with_reducible refine w_tyS ?_
  | ((with_reducible refine' w_tyL ?h1 ?_); (case h1 => first | assumption | exact upd_same))
  | ((with_reducible refine' w_ixT ?h1 ?h2 ?_); (case h1 => first | assumption | exact upd_same); (case h2 => exact rfl))
  | ((with_reducible refine' w_ixL ?h1 ?h2 ?_); (case h1 => first | assumption | exact upd_same); (case h2 => exact rfl))
  | ((with_reducible refine w_eq ?h1 ?_); (case h1 => exact rfl))
  | ((with_reducible refine w_ne ?h1 ?_); (case h1 => exact rfl))
  | dsimp only [List.set_cons_zero, List.set_cons_succ, List.append_nil, List.cons_append, List.nil_append, cxOf]))

section
variable {K : PySem.W.Frag} {a : Addr} {σ : L2.St} {H : Hp} {Q : VK} {i0 j : Nat}
/-- [key(x) for x in e], e a tuple of numbers -/
theorem rd_keys {ls : List Int} (hσ : σ[i0]? = some (some (.ref a))) (hj : j < σ.length) (ha : H a = some (.tup (ls.map V.int))) (hz : ls.length < sizeLine)
    (k : ∀ D (qs : List Addr) H', Kept H H' → H D = none → H' D = some (.lst (qs.map V.ref)) → qs.length = ls.length → (∀ (i : Nat) (q : Addr) (n : Int), qs[i]? = some q → ls[i]? = some n → H' q = some (.tup (keyV n))) → Q (.ref D) H') :
    tLc (iTup K (tVar i0)) (gName j) tYes (tCall spKey [] E0 (tCons (tVar j) tNil)) [j] σ H Q := by
  refine ⟨_, hσ, a, rfl, ⟨_, SqT.of ha⟩, fun D hD => ?_⟩
  refine c_tup (xs := ls.map V.int) (fun i H1 => ∃ qs : List Addr, H1 D = some (.lst (qs.map V.ref)) ∧ Kept H H1 ∧ qs.length = i ∧ ∀ (j : Nat) (q : Addr) (n : Int), qs[j]? = some q → ls[j]? = some n → H1 q = some (.tup (keyV n))) ⟨[], upd_same, Kept.new hD, rfl, fun j q n h => by simp at h⟩ (fun i H1 _ h => by
    obtain ⟨_, _, k1, _⟩ := h
    exact SqT.of (k1.tup ha)) (fun i x H1 hx h => ?_) fun H1 h => ?_
  · obtain ⟨qs, h1, h2, h3, h4⟩ := h
    obtain ⟨n, rfl, hn⟩ := map_int hx
    have hi : i < ls.length := (List.getElem?_eq_some_iff.mp hn).1
    refine ⟨wipe_one, w_yes (if_t rfl (w_call (w_cons ⟨_, var_set hj, w_nil ?_⟩)))⟩
    refine ⟨n, rfl, fun p hp => ?_⟩
    have kN := Kept.new (o := .tup (keyV n)) hp
    have hD4 := kN.lst h1
    refine ⟨qs.map V.ref, hD4, by rw [List.length_map, h3]; omega, qs ++ [p], by rw [List.map_append]; exact upd_same, Kept.mut (h2.trans kN) hD, by rw [List.length_append, h3] <;> rfl, fun j q m hq hm => ?_⟩
    by_cases hj : j < qs.length
    · rw [List.getElem?_append_left hj] at hq
      exact tup_upd hD4 (kN.tup (h4 j q m hq hm))
    · have hj2 : j < (qs ++ [p]).length := (List.getElem?_eq_some_iff.mp hq).1
      rw [List.length_append] at hj2
      have ej : j = qs.length := by
        have : j < qs.length + 1 := hj2
        omega
      subst ej
      have eq : q = p := by simpa using hq.symm
      subst eq
      rw [h3, hn] at hm
      cases hm
      exact tup_upd hD4 upd_same
  · obtain ⟨qs, h1, h2, h3, h4⟩ := h
    rw [List.length_map] at h3
    exact k D qs H1 h2 hD h1 h3 h4
end
/-- a pair (list of keys, clause) at t -/
def PairAt (H : Hp) (D b t : Addr) (c : List Int) : Prop := ∃ (q : Addr) (qs : List Addr), q ≠ D ∧ H t = some (.tup [.ref q, .ref b]) ∧ H q = some (.lst (qs.map V.ref)) ∧ qs.length = c.length ∧ (∀ (i : Nat) (r : Addr) (n : Int), qs[i]? = some r → c[i]? = some n → H r = some (.tup (keyV n))) ∧ H b = some (.tup (c.map V.int))
theorem PairAt.kept {H H' : Hp} {D b t : Addr} {c : List Int} (h : PairAt H D b t c) (k : Kept H H') : PairAt H' D b t c := by
  obtain ⟨q, qs, n, h1, h2, h3, h4, h5⟩ := h
  exact ⟨q, qs, n, k.tup h1, k.lst h2, h3, fun i r m a b => k.tup (h4 i r m a b), k.tup h5⟩
theorem PairAt.updL {H : Hp} {D b t : Addr} {c : List Int} {xs : List V} {o : HO} (h : PairAt H D b t c) (hD : H D = some (.lst xs)) : PairAt (upd H D o) D b t c := by
  obtain ⟨q, qs, n, h1, h2, h3, h4, h5⟩ := h
  exact ⟨q, qs, n, tup_upd hD h1, by rw [upd_ne n]; exact h2, h3, fun i r m a b => tup_upd hD (h4 i r m a b), tup_upd hD h5⟩
theorem PairAt.dp {K : PySem.W.Frag} {H : Hp} {D b t : Addr} {c : List Int} (h : PairAt H D b t c) : Dp K H (.ref t) (pairD c) := by
  obtain ⟨q, qs, n, h1, h2, h3, h4, h5⟩ := h
  refine .tup (SqT.of h1) (.cons (.lst (SqL.of h2) (dpAll_of (by rw [List.length_map, List.length_map, h3]) fun i x d hx hd => ?_)) (.cons (dp_ints h5) .nil))
  rw [List.getElem?_map] at hx hd
  obtain ⟨r, hr, rfl⟩ := Option.map_eq_some_iff.mp hx
  obtain ⟨m, hm, rfl⟩ := Option.map_eq_some_iff.mp hd
  exact dp_key (h4 i r m hr hm)
def spLSorted : Sp := fun vs H Q _ => ∃ (a : Addr) (bs : List Addr) (cs : List (List Int)), vs = [.ref a] ∧ H a = some (.lst (bs.map V.ref)) ∧ ClsAt H bs cs ∧ cs.length ≤ 1000 ∧ (∀ c ∈ cs, c.length ≤ 1000) ∧
  ∀ p H' bs', Kept H H' → H p = none → H' p = some (.lst (bs'.map V.ref)) → ClsAt H' bs' (srtBy ckD cs) → Q (.ref p) H'
section
variable {P : Program} {w : World} {K : PySem.W.Frag} {mg : Str → Option Value} {base : Heap} {uG : Value} {f : Addr} {fd : FuncData}
theorem ok_l_sorted (F : Fun K "_law_sorted" "_law_sorted" s_l_sorted f fd) (T : Tx K mg uG) (D_l_key : Df P w K mg base 1 "_law_key" ["literal"] spKey) : FnOk P w K mg base CX0 2 f fd ["rows"] spLSorted := by
  refine F.ok sc_l_sorted (fun vs H Q E h => ?_) (fun cdv A outer s H vs Q E hr h => ?_)
  · obtain ⟨a, bs, cs, rfl, _⟩ := h
    rfl
  · obtain ⟨a, bs, cs, rfl, ha, hc, hz, hz2, k⟩ := h
    refine ⟨_, (pss_cons (ps_set (i := 1) sc_l_sorted.nd rfl (.inl rfl) (pe_callB (cr_sortedD hr.units) (by rfl) T.z_sorted (by decide +kernel) (pa_cons (pe_lc (own := [("row", 3)]) (g := gName 3) (by rfl) sc_l_sorted.nd (pi_listK (K := K) rfl (pv 0)) (blkOk_by (own := [("row", 3)]) (N := n_l_sorted) (sc := defScope s_l_sorted) (by decide +kernel)) (fun _ _ _ _ _ => pg_name (i := 3) sc_l_sorted.nd rfl (Or.inl rfl)) (fun _ _ _ _ _ => pts_nil) (fun _ _ _ _ _ => (pe_tup (pa_cons (pe_lc (own := [("literal", 2)]) (g := gName 2) (by rfl) sc_l_sorted.nd (pi_tupK (K := K) rfl (pv 3)) (blkOk_by (own := [("literal", 2)]) (N := n_l_sorted) (by rfl)) (fun _ _ _ _ _ => pg_name (i := 2) sc_l_sorted.nd rfl (Or.inl rfl)) (fun _ _ _ _ _ => pts_nil) (fun _ _ _ _ _ => (pe_df D_l_key (hr.mono (by decide)) (by rfl) (pa_cons (pv 2) pa_nil)))) (pa_cons (pv 3) pa_nil))))) pa_nil)))
    (pss_one (ps_ret (pe_lc (own := [("pair", 4)]) (g := gName 4) (by rfl) sc_l_sorted.nd (pi_listK (K := K) rfl (pv 1)) (blkOk_by (own := [("pair", 4)]) (N := n_l_sorted) (sc := defScope s_l_sorted) (by decide +kernel)) (fun _ _ _ _ _ => pg_name (i := 4) sc_l_sorted.nd rfl (Or.inl rfl)) (fun _ _ _ _ _ => pts_nil) (fun _ _ _ _ _ => (pe_ix (ix_tupK (K := K) rfl) (pv 4) pe_int (fun _ _ => rfl))))))), ?_⟩
    rw [show start n_l_sorted [(.ref a : V)] = ([some (.ref a), none, none, none, none] : List (Option V)) from rfl]
    walk_at "rd"
    have hlb : (bs.map V.ref).length = cs.length := by rw [List.length_map, hc.1]
    refine ⟨_, rfl, a, rfl, ⟨_, SqL.of ha⟩, fun D hD => ?_⟩
    refine c_list (xs := bs.map V.ref) (fun i H1 => ∃ ts : List Addr, H1 D = some (.lst (ts.map V.ref)) ∧ Kept H H1 ∧ ts.length = i ∧ ∀ (j : Nat) (t : Addr) (c : List Int), ts[j]? = some t → cs[j]? = some c → ∃ b, PairAt H1 D b t c) ⟨[], upd_same, Kept.new hD, rfl, fun j t c h => by simp at h⟩ (fun i H1 _ h => by
      obtain ⟨_, _, k1, _⟩ := h
      exact SqL.of (k1.lst ha)) (fun i x H1 hx h => ?_) fun H1 h => ?_
    · obtain ⟨ts, h1, h2, h3, h4⟩ := h
      rw [List.getElem?_map] at hx
      obtain ⟨b, hb, rfl⟩ := Option.map_eq_some_iff.mp hx
      have hi : i < cs.length := by rw [← hc.1]; exact (List.getElem?_eq_some_iff.mp hb).1
      have hci : cs[i]? = some cs[i] := List.getElem?_eq_getElem hi
      have e0 := h2.tup (hc.2 i b _ hb hci)
      refine ⟨rfl, w_yes (if_t rfl (w_tup (w_cons ?_)))⟩
      refine rd_keys (i0 := 3) (j := 2) rfl (by show 2 < 5; decide) e0 (Nat.lt_of_le_of_lt (hz2 _ (List.getElem_mem hi)) (by decide)) fun D2 qs H2 k2 hD2 e1 e2 e3 => ?_
      walk_at "rd"
      refine ⟨by show 2 ≤ sizeLine; decide, fun t ht => ?_⟩
      have kT := Kept.new (o := .tup [.ref D2, .ref b]) ht
      have hD4 := kT.lst (k2.lst h1)
      have nD : D2 ≠ D := fun z => by
        rw [z, h1] at hD2
        cases hD2
      refine ⟨ts.map V.ref, hD4, ?_, ts ++ [t], by rw [List.map_append]; exact upd_same, Kept.mut (h2.trans (k2.trans kT)) hD, by rw [List.length_append, h3] <;> rfl, fun j t' c ht' hcj => ?_⟩
      · rw [List.length_map, h3]
        have h6 : 1001 ≤ sizeLine := by decide
        omega
      · by_cases hj : j < ts.length
        · rw [List.getElem?_append_left hj] at ht'
          obtain ⟨b', hb'⟩ := h4 j t' c ht' hcj
          exact ⟨b', (hb'.kept (k2.trans kT)).updL hD4⟩
        · have hj2 : j < (ts ++ [t]).length := (List.getElem?_eq_some_iff.mp ht').1
          rw [List.length_append] at hj2
          have ej : j = ts.length := by
            have : j < ts.length + 1 := hj2
            omega
          subst ej
          have eq : t' = t := by simpa using ht'.symm
          subst eq
          rw [h3, hci] at hcj
          cases hcj
          exact ⟨b, PairAt.updL ⟨D2, qs, nD, upd_same, kT.lst e1, e2, fun i r n a1 a2 => kT.tup (e3 i r n a1 a2), kT.tup (k2.tup e0)⟩ hD4⟩
    · obtain ⟨ts, h1, h2, h3, h4⟩ := h
      rw [hlb] at h3
      walk_at "rd"
      refine ⟨D, ts.map V.ref, cs.map pairD, rfl, SqL.of h1, dpAll_of (by rw [List.length_map, List.length_map, h3]) fun i x d hx hd => ?_, PySem.W.AllAlike.of pair_alike, .inl fun d hd => ?_, fun d hd => ?_, fun p hp => ?_⟩
      · rw [List.getElem?_map] at hx hd
        obtain ⟨t, ht, rfl⟩ := Option.map_eq_some_iff.mp hx
        obtain ⟨c, hcc, rfl⟩ := Option.map_eq_some_iff.mp hd
        obtain ⟨b, hb⟩ := h4 i t c ht hcc
        exact hb.dp
      · obtain ⟨n, _, rfl⟩ := List.mem_map.mp hd
        exact ⟨_, rfl⟩
      · obtain ⟨n, _, rfl⟩ := List.mem_map.mp hd
        exact pair_depth n
      · obtain ⟨ts', es, hl', hs'⟩ := sort_at pairD (fun t c => ∃ b, PairAt H1 D b t c) h3 h4
        rw [srt_pair] at hl' hs'
        rw [es]
        have kP := Kept.new (o := .lst (ts'.map V.ref)) hp
        generalize hH2 : upd H1 p (.lst (ts'.map V.ref)) = H2 at kP ⊢
        have hp2 : H2 p = some (.lst (ts'.map V.ref)) := by rw [← hH2]; exact upd_same
        walk_at "rd"
        refine ⟨_, rfl, p, rfl, ⟨_, SqL.of hp2⟩, fun D3 hD3 => ?_⟩
        refine c_list (xs := ts'.map V.ref) (fun i H3 => ∃ bs' : List Addr, H3 D3 = some (.lst (bs'.map V.ref)) ∧ Kept H2 H3 ∧ bs'.length = i ∧ ∀ (j : Nat) (b : Addr) (c : List Int), bs'[j]? = some b → (srtBy ckD cs)[j]? = some c → H2 b = some (.tup (c.map V.int))) ⟨[], upd_same, Kept.new hD3, rfl, fun j b c h => by simp at h⟩ (fun i H3 _ h => by
          obtain ⟨_, _, k1, _⟩ := h
          exact SqL.of (k1.lst hp2)) (fun i x H3 hx h => ?_) fun H3 h => ?_
        · obtain ⟨bs', g1, g2, g3, g4⟩ := h
          rw [List.getElem?_map] at hx
          obtain ⟨t, ht, rfl⟩ := Option.map_eq_some_iff.mp hx
          have hi : i < (srtBy ckD cs).length := by rw [← hl']; exact (List.getElem?_eq_some_iff.mp ht).1
          have hci : (srtBy ckD cs)[i]? = some (srtBy ckD cs)[i] := List.getElem?_eq_getElem hi
          obtain ⟨b, hb⟩ := hs' i t _ ht hci
          obtain ⟨q, qs, _, y1, y2, y3, y4, y5⟩ := hb.kept kP
          have y1' := g2.tup y1
          refine ⟨rfl, w_yes (if_t rfl ?_)⟩
          walk_at "rd"
          refine ⟨bs'.map V.ref, g1, ?_, bs' ++ [b], by rw [List.map_append]; exact upd_same, Kept.mut g2 hD3, by rw [List.length_append, g3] <;> rfl, fun j b' c hb' hcj => ?_⟩
          · rw [List.length_map, g3]
            have h5 : (srtBy ckD cs).length = cs.length := (srtBy_perm ckD cs).length_eq
            have h6 : 1001 ≤ sizeLine := by decide
            omega
          · by_cases hj : j < bs'.length
            · rw [List.getElem?_append_left hj] at hb'
              exact g4 j b' c hb' hcj
            · have hj2 : j < (bs' ++ [b]).length := (List.getElem?_eq_some_iff.mp hb').1
              rw [List.length_append] at hj2
              have ej : j = bs'.length := by
                have : j < bs'.length + 1 := hj2
                omega
              subst ej
              have eq : b' = b := by simpa using hb'.symm
              subst eq
              rw [g3, hci] at hcj
              cases hcj
              exact y5
        · obtain ⟨bs', g1, g2, g3, g4⟩ := h
          rw [List.length_map, hl'] at g3
          walk_at "rd"
          have kA := (h2.trans kP).trans g2
          exact k D3 H3 bs' kA (((h2.trans kP)).free _ hD3) g1 ⟨g3, fun i b c e1 e2 => g2.tup (g4 i b c e1 e2)⟩
theorem asc_srtN {ds : List (List Int)} (h0 : ds.Nodup) : ascC (srtBy ckD ds) := by
  have h1 := srtBy_pair ckD ds
  have h2 : (srtBy ckD ds).Nodup := (srtBy_perm ckD ds).nodup_iff.mpr h0
  refine List.pairwise_iff_getElem.mpr fun i j hi hj hij => ?_
  have a := List.pairwise_iff_getElem.mp h1 i j hi hj hij
  have b := List.pairwise_iff_getElem.mp h2 i j hi hj hij
  have a' : PySem.W.dataLt (ckD (srtBy ckD ds)[j]) (ckD (srtBy ckD ds)[i]) = false := by
    have z : (!PySem.W.dataLt (ckD (srtBy ckD ds)[j]) (ckD (srtBy ckD ds)[i])) = true := a
    cases w : PySem.W.dataLt (ckD (srtBy ckD ds)[j]) (ckD (srtBy ckD ds)[i]) with
    | false => rfl
    | true => rw [w] at z; cases z
  exact lt_or (Ne.symm b) a'
def rowD (c : List Int) : PyData := .tuple (c.map .int)
theorem canLay_rows : ∀ ds : List (List Int), PyData.canLayAll0 (ds.map rowD) = true
  | [] => by simp [PyData.canLayAll0]
  | x :: xs => by
    rw [List.map_cons, PyData.canLayAll0, canLay_rows xs]
    simp only [rowD, PyData.canLay0, canLay_ints, Bool.and_self]
theorem depth_rows : ∀ ds : List (List Int), PyData.depthAll (ds.map rowD) ≤ 2
  | [] => by simp [PyData.depthAll]
  | x :: xs => by
    rw [List.map_cons, PyData.depthAll]
    have h1 := depth_rows xs
    have h2 : (rowD x).depth ≤ 2 := by
      simp only [rowD, PyData.depth, PySem.W.depth_ints]
      omega
    omega
theorem shL_rows (ds : List (List Int)) : SeqAt.shaped (.list (ds.map rowD)) = true := by
  have h1 := depth_rows ds
  have h2 : PyData.depth (.list (ds.map rowD)) ≤ 64 := by
    simp only [PyData.depth]
    omega
  show (PyData.canLay0 (.list (ds.map rowD)) && decide (PyData.depth (.list (ds.map rowD)) ≤ 64)) = true
  rw [Bool.and_eq_true]
  exact ⟨by simp only [PyData.canLay0]; exact canLay_rows ds, decide_eq_true h2⟩
theorem any_rows (s : List Int) (ds : List (List Int)) : ((ds.map rowD).any fun z => PyData.eqv z (.tuple (s.map PyData.int))) = decide (s ∈ ds) := by
  rw [List.any_map, Bool.eq_iff_iff, List.any_eq_true, decide_eq_true_eq]
  constructor
  · rintro ⟨y, hy, e⟩
    have e : PyData.eqv (.tuple (y.map PyData.int)) (.tuple (s.map PyData.int)) = true := e
    rw [eqv_ints, decide_eq_true_eq] at e
    rw [← e]
    exact hy
  · intro h
    refine ⟨s, h, ?_⟩
    show PyData.eqv (.tuple (s.map PyData.int)) (.tuple (s.map PyData.int)) = true
    rw [eqv_ints]
    exact decide_eq_true rfl
theorem w_ninL {K : PySem.W.Frag} {H : Hp} {Q : VK} {D s : Addr} {ps : List Addr} {ds : List (List Int)} {sh : List Int} (hD : H D = some (.lst (ps.map V.ref))) (hp : ClsAt H ps ds) (hs : H s = some (.tup (sh.map V.int))) (q : Q (.bl (decide (sh ∉ ds))) H) : rNotInD K (.ref s) (.ref D) H Q := by
  refine ⟨_, ds.map rowD, dp_ints hs, .lst (SqL.of hD) (dpAll_of (by rw [List.length_map, List.length_map, hp.1]) fun i x d hx hd => ?_), shT_ints sh, shL_rows ds, by rw [any_rows]; rw [decide_not] at q; exact q⟩
  rw [List.getElem?_map] at hx hd
  obtain ⟨b, hb, rfl⟩ := Option.map_eq_some_iff.mp hx
  obtain ⟨c, hc, rfl⟩ := Option.map_eq_some_iff.mp hd
  exact dp_ints (hp.2 i b c hb hc)
def spLGiven : Sp := fun vs H Q _ => ∃ (a : Addr) (bs : List Addr) (cs : List (List Int)) (l : Int), vs = [.ref a, .int l] ∧ H a = some (.tup (bs.map V.ref)) ∧ ClsAt H bs cs ∧ cs.length ≤ 400 ∧ (∀ c ∈ cs, c.length ≤ 400) ∧
  ∀ p H' bs', Kept H H' → H p = none → H' p = some (.tup (bs'.map V.ref)) → ClsAt H' bs' (underF cs l) → Q (.ref p) H'
theorem ok_l_given (F : Fun K "_law_given" "_law_given" s_l_given f fd) (T : Tx K mg uG) (D_l_sorted : Df P w K mg base 2 "_law_sorted" ["rows"] spLSorted) : FnOk P w K mg base CX0 3 f fd ["rows", "literal"] spLGiven := by
  refine F.ok sc_l_given (fun vs H Q E h => ?_) (fun cdv A outer s H vs Q E hr h => ?_)
  · obtain ⟨a, bs, cs, l, rfl, _⟩ := h
    rfl
  · obtain ⟨a, bs, cs, l, rfl, ha, hc, hz, hz2, k⟩ := h
    refine ⟨_, (pss_cons (ps_set (i := 2) sc_l_given.nd rfl (.inl rfl) (pe_lst pa_nil))
    (pss_cons (ps_for PassesOwn.never rfl (pi_tupK (K := K) rfl (pv 0)) (pg_name (i := 3) sc_l_given.nd rfl (.inl rfl))
      (pss_one (ps_if (pt_cmpR (opK (K := K) (r := fun K => rIn K true) rfl op_notIn_seq) (pv 1) (pv 3) (by rfl))
      (pss_cons (ps_set (i := 4) sc_l_given.nd rfl (.inl rfl) (pe_callTy call_tuple_of (by rfl) T.z_tuple (by decide +kernel) (pa_cons (pe_lc (own := [("item", 5)]) (g := gName 5) (by rfl) sc_l_given.nd (pi_tupK (K := K) rfl (pv 3)) (blkOk_by (own := [("item", 5)]) (N := n_l_given) (sc := defScope s_l_given) (by decide +kernel)) (fun _ _ _ _ _ => pg_name (i := 5) sc_l_given.nd rfl (Or.inl rfl)) (fun _ _ _ _ _ => pts_one (pt_cmpR op_ne (pv 5) (pe_un un_neg (pv 1)) (nomark _))) (fun _ _ _ _ _ => (pv 5))) pa_nil)))
    (pss_one (ps_if (pt_cmpR (opK (K := K) (r := rNotInD) rfl (op_notInD hr.u65)) (pv 4) (pv 2) (by rfl))
      (pss_one (ps_expr (pe_bm PySem.F.plainAttrs_list PySem.F.slot_list_append PySem.F.type_list_append mt_append (pv 2) (pa_cons (pv 4) pa_nil))))
      pss_nil)))
      pss_nil)))
    (pss_one (ps_ret (pe_callTy call_tuple_of (by rfl) T.z_tuple (by decide +kernel) (pa_cons (pe_df D_l_sorted (hr.mono (by decide)) (by rfl) (pa_cons (pv 2) pa_nil)) pa_nil)))))), ?_⟩
    rw [show start n_l_given [(.ref a : V), (.int l : V)] = ([some (.ref a), some (.int l), none, none, none, none] : List (Option V)) from rfl]
    walk_at "rd"
    refine ⟨Nat.zero_le _, fun D hD => ?_⟩
    have kD := Kept.new (o := .lst []) hD
    have hlb : (bs.map V.ref).length = cs.length := by rw [List.length_map, hc.1]
    walk_at "rd"
    refine ⟨_, rfl, a, rfl, ⟨_, SqT.of (kD.tup ha)⟩, for_tup (K := K) (a := a) (xs := bs.map V.ref) (fun i σ' H' => ∃ (v3 v4 : Option V) (ps : List Addr) (ds : List (List Int)), σ' = [some (.ref a), some (.int l), some (.ref D), v3, v4, none] ∧ H' D = some (.lst (ps.map V.ref)) ∧ Kept H H' ∧ ClsAt H' ps ds ∧ ds.Nodup ∧ ds.length ≤ i ∧ (∀ d ∈ ds, d.length ≤ 400) ∧
        ∀ d, d ∈ ds ↔ ∃ c ∈ cs.take i, l ∉ c ∧ c.filter (fun x => decide (x ≠ -l)) = d)
        ⟨none, none, [], [], rfl, upd_same, kD, ⟨rfl, fun i b c h => by simp at h⟩, List.nodup_nil, Nat.zero_le _, fun d hd => (by simp at hd), fun d => by simp⟩ (fun i σ' H' _ h => by
          obtain ⟨_, _, _, _, _, _, k1, _⟩ := h
          exact SqT.of (k1.tup ha)) ?_ ?_⟩
    · rintro i x σ' H' hx ⟨v3, v4, ps, ds, rfl, hDs, k1, hp, hnd, hdl, hdz, hmem⟩
      rw [List.getElem?_map] at hx
      obtain ⟨b, hb, rfl⟩ := Option.map_eq_some_iff.mp hx
      have hi : i < cs.length := by rw [← hc.1]; exact (List.getElem?_eq_some_iff.mp hb).1
      have hci : cs[i]? = some cs[i] := List.getElem?_eq_getElem hi
      have hcm : cs[i] ∈ cs := List.getElem_mem hi
      have e1 := k1.tup (hc.2 i b _ hb hci)
      have et : cs.take (i + 1) = cs.take i ++ [cs[i]] := by rw [List.take_add_one, hci]; rfl
      walk_at "rd"
      refine w_ninT (ls := cs[i]) e1 ?_
      refine ⟨_, rfl, ?_⟩
      by_cases hin : l ∉ cs[i]
      · rw [decide_eq_true hin]
        refine if_t rfl ?_
        walk_at "rd"
        refine ⟨_, rfl, b, rfl, ⟨_, SqT.of e1⟩, fun D2 hD2 => ?_⟩
        refine c_tup (xs := cs[i].map V.int) (fun j H2 => H2 = upd H' D2 (.lst (((cs[i].take j).filter fun x => decide (x ≠ -l)).map V.int))) (by rw [List.take_zero]; rfl) (fun j H2 _ h => by rw [h]; exact SqT.of ((Kept.new hD2).tup e1)) (fun j x H2 hx h => ?_) fun H2 h => ?_
        · obtain ⟨n, rfl, hn⟩ := map_int hx
          have en : cs[i].take (j + 1) = cs[i].take j ++ [n] := by rw [List.take_add_one, hn]; rfl
          refine ⟨rfl, ?_⟩
          walk_at "rd"
          have ed : (!decide (V.int n = V.int (-l))) = decide (n ≠ -l) := by
            by_cases z : n = -l <;> simp [z]
          rw [ed]
          by_cases z : n ≠ -l
          · rw [decide_eq_true z]
            refine if_t rfl ?_
            walk_at "rd"
            refine ⟨_, by rw [h]; exact upd_same, ?_, ?_⟩
            · rw [List.length_map]
              have h1 := List.length_filter_le (fun x => decide (x ≠ -l)) (cs[i].take j)
              rw [List.length_take] at h1
              have h2 := hz2 _ hcm
              have h3 : 1000 ≤ sizeLine := by decide
              omega
            · have hf : List.filter (fun x => decide (x ≠ -l)) [n] = [n] := List.filter_cons_of_pos (p := fun x => decide (x ≠ -l)) (decide_eq_true z)
              rw [h, upd_again, en, List.filter_append, hf, List.map_append] <;> rfl
          · rw [decide_eq_false z]
            refine if_f rfl ?_
            have hf : List.filter (fun x => decide (x ≠ -l)) [n] = [] := List.filter_cons_of_neg (p := fun x => decide (x ≠ -l)) (by rw [decide_eq_false z]; exact Bool.false_ne_true)
            show H2 = _
            rw [h, en, List.filter_append, hf, List.append_nil]
        · rw [List.length_map, List.take_length] at h
          generalize hsh : cs[i].filter (fun x => decide (x ≠ -l)) = sh at h
          have hshl : sh.length ≤ 400 := by
            rw [← hsh]
            exact Nat.le_trans (List.length_filter_le _ _) (hz2 _ hcm)
          have kD2 := Kept.new (o := .lst (sh.map V.int)) hD2
          rw [← h] at kD2
          walk_at "rd"
          refine ⟨D2, _, rfl, .inl ⟨SqL.of (by rw [h]; exact upd_same), fun s hs => ?_⟩⟩
          have kS := Kept.new (o := .tup (sh.map V.int)) hs
          have k3 := kD2.trans kS
          generalize hH3 : upd H2 s (.tup (sh.map V.int)) = H3 at kS k3 ⊢
          have hs3 : H3 s = some (.tup (sh.map V.int)) := by rw [← hH3]; exact upd_same
          have hD3 := k3.lst hDs
          have hp3 := hp.kept k3
          have hm2 : ∀ d, (d ∈ ds ∨ d = sh) ↔ ∃ c ∈ cs.take (i + 1), l ∉ c ∧ c.filter (fun x => decide (x ≠ -l)) = d := fun d => by
            rw [hmem d, et]
            constructor
            · rintro (⟨c, h1, h2⟩ | h)
              · exact ⟨c, List.mem_append_left _ h1, h2⟩
              · exact ⟨cs[i], List.mem_append_right _ List.mem_cons_self, hin, hsh.trans h.symm⟩
            · rintro ⟨c, h1, h2, h3⟩
              rcases List.mem_append.mp h1 with h1 | h1
              · exact .inl ⟨c, h1, h2, h3⟩
              · rw [List.mem_singleton.mp h1, hsh] at h3
                exact .inr h3.symm
          walk_at "rd"
          refine w_ninL hD3 hp3 hs3 ?_
          by_cases hs : sh ∉ ds
          · rw [decide_eq_true hs]
            refine ⟨_, rfl, if_t rfl ?_⟩
            walk_at "rd"
            refine ⟨_, _, _, rfl, rfl, hD3, ?_, some (.ref b), some (.ref s), ps ++ [s], ds ++ [sh], rfl, by rw [List.map_append]; exact upd_same, Kept.mut (k1.trans k3) hD, ⟨?_, ?_⟩, ?_, ?_, fun d hd => ?_, fun d => ?_⟩
            · rw [List.length_map, hp.1]
              have h3 : 1000 ≤ sizeLine := by decide
              omega
            · rw [List.length_append, List.length_append, hp.1] <;> rfl
            · intro j q d hq hd
              by_cases hj : j < ps.length
              · rw [List.getElem?_append_left hj] at hq
                rw [List.getElem?_append_left (by rw [← hp.1]; exact hj)] at hd
                exact tup_upd hD3 (hp3.2 j q d hq hd)
              · rw [List.getElem?_append_right (by omega)] at hq
                rw [List.getElem?_append_right (by rw [← hp.1]; omega)] at hd
                rw [← hp.1] at hd
                cases z : j - ps.length with
                | zero =>
                  rw [z] at hq hd
                  cases hq
                  cases hd
                  exact tup_upd hD3 hs3
                | succ m =>
                  rw [z] at hq
                  simp at hq
            · exact List.nodup_append.mpr ⟨hnd, by simp, fun x hx y hy => by rw [List.mem_singleton.mp hy]; exact fun z => hs (z ▸ hx)⟩
            · rw [List.length_append]
              show ds.length + 1 ≤ i + 1
              omega
            · rcases List.mem_append.mp hd with h | h
              · exact hdz d h
              · rw [List.mem_singleton.mp h]; exact hshl
            · rw [← hm2 d, List.mem_append, List.mem_singleton]
          · rw [decide_eq_false hs]
            refine ⟨_, rfl, if_f rfl ?_⟩
            walk_at "rd"
            have hs' : sh ∈ ds := Classical.not_not.mp hs
            refine ⟨some (.ref b), some (.ref s), ps, ds, rfl, hD3, k1.trans k3, hp3, hnd, by omega, hdz, fun d => ?_⟩
            rw [← hm2 d]
            exact ⟨.inl, fun h => h.elim id fun e => e ▸ hs'⟩
      · rw [decide_eq_false hin]
        refine if_f rfl ?_
        walk_at "rd"
        refine ⟨some (.ref b), v4, ps, ds, rfl, hDs, k1, hp, hnd, by omega, hdz, fun d => ?_⟩
        rw [hmem d, et]
        constructor
        · rintro ⟨c, h1, h2⟩
          exact ⟨c, List.mem_append_left _ h1, h2⟩
        · rintro ⟨c, h1, h2, h3⟩
          rcases List.mem_append.mp h1 with h1 | h1
          · exact ⟨c, h1, h2, h3⟩
          · exact absurd (List.mem_singleton.mp h1 ▸ h2) hin
    · rintro σ' H' ⟨v3, v4, ps, ds, rfl, hDs, k1, hp, hnd, hdl, hdz, hmem⟩
      rw [hlb] at hdl
      rw [hlb, List.take_length] at hmem
      walk_at "rd"
      refine ⟨D, ps, ds, rfl, hDs, hp, by omega, fun c hc => Nat.le_trans (hdz c hc) (by decide), fun p H2 bs' k2 hpn hp2 hb2 => ?_⟩
      walk_at "rd"
      refine ⟨p, _, rfl, .inl ⟨SqL.of hp2, fun q hq => ?_⟩⟩
      have kQ := Kept.new (o := .tup (bs'.map V.ref)) hq
      have e : srtBy ckD ds = underF cs l := asc_unique (asc_srtN hnd) (underF_asc cs l) fun d => by
        rw [mem_srtBy, hmem d, mem_underF]
        rfl
      rw [e] at hb2
      have kA := (k1.trans k2)
      exact k q _ bs' (kA.trans kQ) (kA.free _ hq) upd_same (hb2.kept kQ)
end
end Ky

namespace Ky
open PySem PySem.Spec PyProof.Rows L2
/-! ### the law's draws, the cells' own place told (so that a fresh list may change between draws) -/
def DrwC (d c : Addr) (H : Hp) : Prop := ∃ (ns : List Int) (a u z : Int), c ≠ d ∧ H d = some (.lst [.ref c, .int a, .int u, .int z]) ∧ H c = some (.lst (ns.map V.int)) ∧ -1 ≤ a
structure KeptC (d c : Addr) (H H' : Hp) : Prop where
  keep : ∀ b o, b ≠ d → NoTab o → H b = some o → H' b = some o
  drw : DrwC d c H → DrwC d c H'
  tab : ∀ P, GxR.TabG H P → GxR.TabG H' P
  free : ∀ b, H' b = none → H b = none
theorem DrwC.old {d c : Addr} {H : Hp} (h : DrwC d c H) {p : Addr} (hp : H p = none) : p ≠ d ∧ p ≠ c := by
  obtain ⟨ns, a, u, z, n, h1, h2, _⟩ := h
  refine ⟨fun e => ?_, fun e => ?_⟩
  · rw [e, h1] at hp
    cases hp
  · rw [e, h2] at hp
    cases hp
theorem KeptC.refl {d c : Addr} (H : Hp) : KeptC d c H H := ⟨fun _ _ _ _ h => h, fun h => h, fun _ h => h, fun _ h => h⟩
theorem KeptC.trans {d c : Addr} {H H1 H2 : Hp} (a : KeptC d c H H1) (b : KeptC d c H1 H2) : KeptC d c H H2 :=
  ⟨fun x o n m h => b.keep x o n m (a.keep x o n m h), fun h => b.drw (a.drw h), fun P h => b.tab P (a.tab P h), fun x h => a.free x (b.free x h)⟩
theorem Kept.toC {d c : Addr} {H H' : Hp} (a : Kept H H') : KeptC d c H H' := ⟨fun b o _ n h => a.keep b o n h, fun h => by
  obtain ⟨ns, i, u, z, n, h1, h2, h3⟩ := h
  exact ⟨ns, i, u, z, n, a.keep _ _ noTab_lst h1, a.keep _ _ noTab_lst h2, h3⟩, a.tab, a.free⟩
theorem KeptC.mut {d c : Addr} {H H' : Hp} {p : Addr} {o : HO} (e : KeptC d c H H') (h : H p = none) : KeptC d c H (upd H' p o) := ⟨fun a u m n ha => by
  rw [upd_ne (ne_of_none ha h)]
  exact e.keep a u m n ha, fun hd => by
  obtain ⟨n1, n2⟩ := hd.old h
  obtain ⟨ns, i, u, z, n, h1, h2, h3⟩ := e.drw hd
  exact ⟨ns, i, u, z, n, by rw [upd_ne (Ne.symm n1)]; exact h1, by rw [upd_ne (Ne.symm n2)]; exact h2, h3⟩, fun P hP => by
  obtain ⟨ps, h1, h2⟩ := hP
  have nP := ne_of_none h1 h
  obtain ⟨qs, g1, g2⟩ := e.tab P ⟨ps, h1, h2⟩
  exact ⟨qs, by rw [upd_ne nP]; exact g1, g2⟩, fun b hb => e.free b (upd_free hb).1⟩
theorem KeptC.tup {d c : Addr} {H H' : Hp} {p : Addr} {xs : List V} (e : KeptC d c H H') (hd : DrwC d c H) (h : H p = some (.tup xs)) : H' p = some (.tup xs) := e.keep _ _ (fun z => by
  obtain ⟨ns, a, u, z', n, h', _⟩ := hd
  rw [z, h'] at h
  cases h) noTab_tup h
theorem KeptC.lst {d c : Addr} {H H' : Hp} {p : Addr} {xs : List V} (e : KeptC d c H H') (hd : p ≠ d) (h : H p = some (.lst xs)) : H' p = some (.lst xs) := e.keep _ _ hd noTab_lst h
theorem TakeSt.keptC {H H' : Hp} {c d : Addr} {ns : List Int} {xs : List V} (h : TakeSt H c d H') (hd : H d = some (.lst xs)) (hc : H c = some (.lst (ns.map V.int))) (ne : c ≠ d) : KeptC d c H H' := by
  obtain ⟨h1, a, u, z, h2, h3⟩ := h
  refine ⟨fun b o hb _ q => by rw [h1 b hb]; exact q, fun _ => ⟨ns, a, u, z, ne, h2, by rw [h1 c ne]; exact hc, h3⟩, fun P hP => ?_, fun b q => ?_⟩
  · obtain ⟨ps, p1, p2⟩ := hP
    have : P ≠ d := fun e => by
      rw [e, hd] at p1
      cases p1
    exact ⟨ps, by rw [h1 P this]; exact p1, p2⟩
  · by_cases e : b = d
    · rw [e, h2] at q
      cases q
    · rw [h1 b e] at q
      exact q
def spTakeC : Sp := fun vs H Q _ => ∃ (d c : Addr) (m : Int), vs = [.ref d, .int m] ∧ 0 < m ∧ m < 2 ^ 62 ∧ DrwC d c H ∧ ∀ (r : Int) H', 0 ≤ r → r < m → KeptC d c H H' → Q (.int r) H'
def spDrawC (K : PySem.W.Frag) : Sp := fun vs H Q _ => ∃ (a : Addr) (ns : List Int), vs = [.ref a] ∧ SqL K H a (ns.map V.int) ∧ ns.length ≤ 63 ∧ ∀ d c H', H d = none → Kept H H' → DrwC d c H' → Q (.ref d) H'
/-! ### is not, of two truths -/
def rNB : R2 := fun x y H Q => ∃ a b : Bool, x = .bl a ∧ y = .bl b ∧ Q (.bl (!decide (a = b))) H
section
variable {X : Cx}
def rLenK (K : PySem.W.Frag) : List V → Hp → VK → Prop := fun xs H Q => ∃ p ys, xs = [.ref p] ∧ (SqL K H p ys ∨ SqT K H p ys) ∧ Q (.int ys.length) H
theorem call_lenK {K : PySem.W.Frag} (e : X.K = K) : CallR X (.builtin "len") (rLenK K) := by
  subst e
  exact call_len_seq
theorem op_notB : OpR X (compareOp .IsNot) rNB := by
  intro pins s σ H x y v u Q I rx ry h
  obtain ⟨a, b, rfl, rfl, q⟩ := h
  cases (show v = Value.bool a from rx)
  cases (show u = Value.bool b from ry)
  exact wpAny_isNot_plain rfl (fin_bl I q (by cases a <;> cases b <;> rfl))
end
end Ky

namespace Ky
open PySem PySem.Spec PyProof.Rows L2
local macro_rules | `(tactic| walk_at "rd") => `(tactic| repeat (first
  | with_reducible refine w_seq ?_
  | with_reducible refine w_asg ?_
  | with_reducible refine w_ret ?_
  | with_reducible refine w_drop ?_
  | with_reducible refine w_ifs ?_
  | ((with_reducible refine' w_var ?hh ?_); (case hh => exact rfl))
  | with_reducible refine w_c ?_
  | with_reducible refine w_op ?_
  | with_reducible refine w_un ?_
  | with_reducible refine w_I0 ?_
  | with_reducible refine w_U ?_
  | with_reducible refine w_nil ?_
  | with_reducible refine w_cons ?_
  | with_reducible refine w_call ?_
  | with_reducible refine w_cb ?_
  | with_reducible refine w_test ?_
  | with_reducible refine w_B ?_
  | with_reducible refine w_bl ?_
  | with_reducible refine w_and ?_
  | with_reducible refine w_or ?_
  | with_reducible refine w_not ?_
  | with_reducible refine w_ife ?_
  | with_reducible refine w_gRd ?_
  | with_reducible refine w_andV ?_
  | with_reducible refine w_orV ?_
  | with_reducible refine w_notV ?_
  | with_reducible refine w_chain ?_
  | with_reducible refine w_din ?_
  | with_reducible refine w_isi_ii ?_
  | with_reducible refine w_isi_ib ?_
  | with_reducible refine w_isi_it ?_
  | with_reducible refine w_isi_st ?_
  | ((with_reducible refine w_isi_tt ?h1 ?_); (case h1 => first | assumption | exact upd_same))
  | with_reducible refine if_t rfl ?_
  | with_reducible refine if_f rfl ?_
  | with_reducible refine w_tup ?_
  | with_reducible refine w_lst ?_
  | with_reducible refine w_next ?_
  | with_reducible refine w_bm ?_
  | with_reducible refine w_sl ?_
  | with_reducible refine w_part ?_
  | with_reducible refine w_nop ?_
  | with_reducible refine w_isI ?_
  | with_reducible refine w_yes ?_
  | with_reducible refine w_gn ?_
  | with_reducible refine w_gsub ?_
  | ((with_reducible refine' w_setL ?h1 ?h2 ?_); (case h1 => first | assumption | exact upd_same); (case h2 => exact rfl))
  | with_reducible refine w_asgG ?_
  | with_reducible refine w_m1 ?_
  | with_reducible refine w_isS ?_
  | with_reducible refine w_tyS ?_
  | ((with_reducible refine' w_tyL ?h1 ?_); (case h1 => first | assumption | exact upd_same))
  | ((with_reducible refine' w_ixT ?h1 ?h2 ?_); (case h1 => first | assumption | exact upd_same); (case h2 => exact rfl))
  | ((with_reducible refine' w_ixL ?h1 ?h2 ?_); (case h1 => first | assumption | exact upd_same); (case h2 => exact rfl))
  | ((with_reducible refine w_eq ?h1 ?_); (case h1 => exact rfl))
  | ((with_reducible refine w_ne ?h1 ?_); (case h1 => exact rfl))
  | dsimp only [List.set_cons_zero, List.set_cons_succ, List.append_nil, List.cons_append, List.nil_append, cxOf]))

section
variable {P : Program} {w : World} {K : PySem.W.Frag} {mg : Str → Option Value} {base : Heap} {uG : Value} {f : Addr} {fd : FuncData}
theorem ok_l_draw (F : Fun K "_law_draw" "_law_draw" s_l_draw f fd) (T : Tx K mg uG) : FnOk P w K mg base CX0 1 f fd ["script"] (spDrawC K) := by
  refine F.ok sc_l_draw (fun vs H Q E h => ?_) (fun cdv A outer s H vs Q E hr h => ?_)
  · obtain ⟨a, ns, rfl, _⟩ := h
    rfl
  · obtain ⟨a, ns, rfl, hS, hlen, k⟩ := h
    refine ⟨_, (pss_cons (ps_set (i := 1) sc_l_draw.nd rfl (.inl rfl) pe_int)
    (pss_cons (ps_for PassesOwn.never rfl (pi_listK (K := K) rfl (pv 0)) (pg_name (i := 2) sc_l_draw.nd rfl (.inl rfl))
      (pss_one (ps_set (i := 1) sc_l_draw.nd rfl (.inl rfl) (pe_op op_mod (pe_callTy call_int1 (by rfl) T.z_int (by decide +kernel) (pa_cons (pe_op op_add (pe_op op_add (pe_op op_mul (pv 1) pe_int) (pe_op op_mod (pe_callB call_abs (by rfl) T.z_abs (by decide +kernel) (pa_cons (pe_callTy call_int1 (by rfl) T.z_int (by decide +kernel) (pa_cons (pv 2) pa_nil)) pa_nil)) pe_int)) pe_int) pa_nil)) pe_int))))
    (pss_one (ps_ret (pe_lst (pa_cons (pe_lc (own := [("cell", 2)]) (g := gName 2) (by rfl) sc_l_draw.nd (pi_listK (K := K) rfl (pv 0)) (blkOk_by (own := [("cell", 2)]) (N := n_l_draw) (sc := defScope s_l_draw) (by decide +kernel)) (fun _ _ _ _ _ => pg_name (i := 2) sc_l_draw.nd rfl (Or.inl rfl)) (fun _ _ _ _ _ => pts_nil) (fun _ _ _ _ _ => (pe_callB call_abs (by rfl) T.z_abs (by decide +kernel) (pa_cons (pe_callTy call_int1 (by rfl) T.z_int (by decide +kernel) (pa_cons (pv 2) pa_nil)) pa_nil)))) (pa_cons (pe_un un_neg pe_int) (pa_cons pe_int (pa_cons (pv 1) pa_nil))))))))), ?_⟩
    rw [show start n_l_draw [(.ref a : V)] = ([some (.ref a), none, none] : List (Option V)) from rfl]
    walk_at "rd"
    refine ⟨_, rfl, a, rfl, ⟨_, hS⟩, for_list (K := K) (a := a) (xs := ns.map V.int) (fun i σ' H' => ∃ z v, σ' = [some (.ref a), some (.int z), v] ∧ H' = H) ⟨7, none, rfl, rfl⟩ (fun i σ' H' _ h => by
      obtain ⟨_, _, _, rfl⟩ := h
      exact hS) ?_ ?_⟩
    · rintro i y σ' H' hi ⟨z, v, rfl, rfl⟩
      obtain ⟨u, rfl, _⟩ := map_int hi
      walk_at "rd"
      refine w_I (.inr ⟨by decide, by decide⟩) ?_
      walk_at "rd"
      refine .inl ⟨_, rfl, ?_⟩
      walk_at "rd"
      refine ⟨_, rfl, ?_⟩
      walk_at "rd"
      refine w_I (by show (0 : Int) < 65521; decide) ?_
      walk_at "rd"
      refine .inl ⟨_, rfl, ?_⟩
      walk_at "rd"
      refine w_I (by show (0 : Int) < 2147483647; decide) ?_
      exact ⟨_, _, rfl, rfl⟩
    · rintro σ' H' ⟨z, v, rfl, rfl⟩
      walk_at "rd"
      refine ⟨_, rfl, a, rfl, ⟨_, hS⟩, fun D hD => lc_list (K := K) (xs := ns.map V.int) (fun i H1 => ∃ acc : List Int, H1 D = some (.lst (acc.map V.int)) ∧ acc.length = i ∧ Kept H' H1) ⟨[], upd_same, rfl, Kept.new hD⟩ (fun i H1 _ h => by
        obtain ⟨_, _, _, k1⟩ := h
        exact k1.sq hS) ?_ ?_⟩
      · rintro i y H1 hi ⟨acc, h1, h2, k1⟩
        obtain ⟨u, rfl, hu⟩ := map_int hi
        have hi2 : i < ns.length := (List.getElem?_eq_some_iff.mp hu).1
        refine ⟨rfl, w_yes (if_t rfl ?_)⟩
        walk_at "rd"
        refine .inl ⟨_, rfl, ?_⟩
        walk_at "rd"
        refine ⟨_, rfl, ?_⟩
        refine ⟨acc.map V.int, h1, ?_, acc ++ [if u < 0 then -u else u], ?_, ?_, Kept.mut k1 hD⟩
        · rw [List.length_map]
          exact small1000 (by omega)
        · rw [List.map_append]
          exact upd_same
        · rw [List.length_append, h2]
          rfl
      · rintro H1 ⟨acc, h1, h2, k1⟩
        walk_at "rd"
        refine ⟨by show 4 ≤ sizeLine; decide, fun d hd => ?_⟩
        refine k d D _ (k1.free _ hd) (k1.trans (Kept.new hd)) ⟨acc, -1, 0, z, ne_of_none h1 hd, upd_same, ?_, by decide⟩
        rw [upd_ne (ne_of_none h1 hd)]
        exact h1
theorem ok_l_take (F : Fun K "_law_take" "_law_take" s_l_take f fd) (T : Tx K mg uG) : FnOk P w K mg base CX0 1 f fd ["draw", "many"] spTakeC := by
  refine F.ok sc_l_take (fun vs H Q E h => ?_) (fun cdv A outer s H vs Q E hr h => ?_)
  · obtain ⟨d, c, m, rfl, _⟩ := h
    rfl
  · obtain ⟨d, c, m, rfl, m0, m1, hD, k⟩ := h
    have hD0 := hD
    obtain ⟨ns, a, u, z, ne, hd, hc, ha⟩ := hD
    have st0 : TakeSt H c d H := ⟨fun _ _ => rfl, a, u, z, hd, ha⟩
    refine ⟨_, (Evl.pss_cut (ps_if (pt_cmpR op_eq (pe_ix (ix_listK (K := K) rfl) (pv 0) pe_int (fun _ _ => rfl)) pe_int (nomark _))
      (pss_cons (ps_asg (pe_op op_add (pe_ix (ix_listK (K := K) rfl) (pv 0) pe_int (fun _ _ => rfl)) pe_int) (pg_sub (pv 0) pe_int set_list))
    (Evl.pss_cut (ps_if (pt_cmpR op_lt (pe_ix (ix_listK (K := K) rfl) (pv 0) pe_int (fun _ _ => rfl)) (pe_callB call_len_seq (by rfl) T.z_len (by decide +kernel) (pa_cons (pe_ix (ix_listK (K := K) rfl) (pv 0) pe_int (fun _ _ => rfl)) pa_nil)) (nomark _))
      (pss_one (ps_asg (pe_ix (ix_listK (K := K) rfl) (pe_ix (ix_listK (K := K) rfl) (pv 0) pe_int (fun _ _ => rfl)) (pe_ix (ix_listK (K := K) rfl) (pv 0) pe_int (fun _ _ => rfl)) (fun _ _ => rfl)) (pg_sub (pv 0) pe_int set_list)))
      pss_nil)
    (pss_one (ps_if (pt_cmpR op_eq (pe_ix (ix_listK (K := K) rfl) (pv 0) pe_int (fun _ _ => rfl)) pe_int (nomark _))
      (pss_cons (ps_asg (pe_op op_mod (pe_callTy call_int1 (by rfl) T.z_int (by decide +kernel) (pa_cons (pe_op op_add (pe_op op_mul (pe_ix (ix_listK (K := K) rfl) (pv 0) pe_int (fun _ _ => rfl)) pe_int) pe_int) pa_nil)) pe_int) (pg_sub (pv 0) pe_int set_list))
    (pss_one (ps_asg (pe_ix (ix_listK (K := K) rfl) (pv 0) pe_int (fun _ _ => rfl)) (pg_sub (pv 0) pe_int set_list))))
      pss_nil))))
      pss_nil)
    (pss_cons (ps_set (i := 2) sc_l_take.nd rfl (.inl rfl) (pe_op op_mod (pe_callTy call_int1 (by rfl) T.z_int (by decide +kernel) (pa_cons (pe_ix (ix_listK (K := K) rfl) (pv 0) pe_int (fun _ _ => rfl)) pa_nil)) (pv 1)))
    (pss_cons (ps_asg (pe_op op_fdivW (pe_ix (ix_listK (K := K) rfl) (pv 0) pe_int (fun _ _ => rfl)) (pv 1)) (pg_sub (pv 0) pe_int set_list))
    (pss_one (ps_ret (pv 2)))))), ?_⟩
    rw [show start n_l_take [(.ref d : V), (.int m : V)] = ([some (.ref d), some (.int m), none] : List (Option V)) from rfl]
    refine ⟨fun σ' H' => σ' = [some (.ref d), some (.int m), none] ∧ TakeSt H c d H', ?_, ?_⟩
    · walk_at "rd"
      refine ite2 (fun _ => ?_) (fun _ => ?_)
      · walk_at "rd"
        refine ⟨fun σ' H' => σ' = [some (.ref d), some (.int m), none] ∧ TakeSt H c d H', ?_, ?_⟩
        · have st1 : TakeSt H c d (upd H d (.lst [.ref c, .int (a + 1), .int u, .int z])) := st0.upd (by omega)
          have hc1 : (upd H d (.lst [.ref c, .int (a + 1), .int u, .int z])) c = some (.lst (ns.map V.int)) := by rw [st1.1 c ne]; exact hc
          walk_at "rd"
          refine ⟨c, ns.map V.int, rfl, .inl (SqL.of hc1), ?_⟩
          walk_at "rd"
          refine ite2 (fun e => ?_) (fun _ => ⟨rfl, st1⟩)
          have e' : a + 1 < (ns.length : Int) := by
            have := of_decide_eq_true e
            rw [List.length_map] at this
            exact this
          obtain ⟨v, _, hv⟩ := pick_int (ns := ns) (r := a + 1) (by omega) e'
          walk_at "rd"
          refine w_ixL hc1 hv ?_
          walk_at "rd"
          exact ⟨rfl, st1.upd (by omega)⟩
        · rintro σ' H' ⟨rfl, st1⟩
          have st2 := st1
          obtain ⟨_, a1, u1, z1, hd1, ha1⟩ := st2
          walk_at "rd"
          refine ite2 (fun _ => ?_) (fun _ => ⟨rfl, st1⟩)
          walk_at "rd"
          refine w_I (.inr ⟨by decide, by decide⟩) ?_
          walk_at "rd"
          refine .inl ⟨_, rfl, ?_⟩
          walk_at "rd"
          refine w_I (by show (0 : Int) < 2147483647; decide) ?_
          walk_at "rd"
          exact ⟨rfl, (st1.upd ha1).upd ha1⟩
      · exact ⟨rfl, st0⟩
    · rintro σ' H' ⟨rfl, st1⟩
      have st2 := st1
      obtain ⟨_, a1, u1, z1, hd1, ha1⟩ := st2
      walk_at "rd"
      refine .inl ⟨_, rfl, ?_⟩
      walk_at "rd"
      refine w_I m0 ?_
      walk_at "rd"
      refine w_I (wide_div (b := 62) m0 (by omega) (by decide) (by decide)) ?_
      walk_at "rd"
      exact k _ _ (Int.emod_nonneg _ (by omega)) (Int.emod_lt_of_pos _ m0) ((st1.upd ha1).keptC hd hc ne)
theorem shLi (ls : List Int) : SeqAt.shaped (.list (ls.map PyData.int)) = true := by
  unfold SeqAt.shaped
  simp only [PyData.canLay0, canLay_ints, Bool.true_and, PyData.depth, PySem.W.depth_ints]
  rfl
def spLKeeps : Sp := fun vs H Q _ => ∃ (a b : Addr) (bs : List Addr) (cs : List (List Int)) (fs : List Int), vs = [.ref a, .ref b] ∧ H a = some (.tup (bs.map V.ref)) ∧ ClsAt H bs cs ∧ (∀ c ∈ cs, c.length ≤ 1000) ∧ H b = some (.tup (fs.map V.int)) ∧ ∀ H', Kept H H' → Q (.bl (cs.all fun c => c.any fun x => decide (x ∈ fs))) H'
theorem ok_l_keeps (F : Fun K "_law_keeps" "_law_keeps" s_l_keeps f fd) (T : Tx K mg uG) : FnOk P w K mg base CX0 1 f fd ["residue", "filling"] spLKeeps := by
  refine F.ok sc_l_keeps (fun vs H Q E h => ?_) (fun cdv A outer s H vs Q E hr h => ?_)
  · obtain ⟨a, b, bs, cs, fs, rfl, _⟩ := h
    rfl
  · obtain ⟨a, b, bs, cs, fs, rfl, ha, hc, hz, hb, k⟩ := h
    have hlb : (bs.map V.ref).length = cs.length := by rw [List.length_map, hc.1]
    refine ⟨_, (pss_cons (ps_for PassesOwn.never rfl (pi_tupK (K := K) rfl (pv 0)) (pg_name (i := 2) sc_l_keeps.nd rfl (.inl rfl))
      (pss_one (ps_if (pt_cmpR (opK (K := K) (r := rEqD) rfl (op_eqD hr.units)) (pe_lc (own := [("literal", 3)]) (g := gName 3) (by rfl) sc_l_keeps.nd (pi_tupK (K := K) rfl (pv 2)) (blkOk_by (own := [("literal", 3)]) (N := n_l_keeps) (sc := defScope s_l_keeps) (by decide +kernel)) (fun _ _ _ _ _ => pg_name (i := 3) sc_l_keeps.nd rfl (Or.inl rfl)) (fun _ _ _ _ _ => pts_one (pt_cmpR (opK (K := K) (r := fun K => rIn K false) rfl op_in_seq) (pv 3) (pv 1) (by rfl))) (fun _ _ _ _ _ => (pv 3))) (pe_lst pa_nil) (nomark _))
      (pss_one (ps_ret pe_bl))
      pss_nil)))
    (pss_one (ps_ret pe_bl))), ?_⟩
    rw [show start n_l_keeps [(.ref a : V), (.ref b : V)] = ([some (.ref a), some (.ref b), none, none] : List (Option V)) from rfl]
    walk_at "rd"
    refine ⟨_, rfl, a, rfl, ⟨_, SqT.of ha⟩, for_tup (K := K) (a := a) (xs := bs.map V.ref) (fun i σ' H' => ∃ (v2 : Option V), σ' = [some (.ref a), some (.ref b), v2, none] ∧ Kept H H' ∧ ((cs.take i).all fun c => c.any fun x => decide (x ∈ fs)) = true)
        ⟨none, rfl, Kept.refl _, rfl⟩ (fun i σ' H' _ h => by
          obtain ⟨_, _, k1, _⟩ := h
          exact SqT.of (k1.tup ha)) ?_ ?_⟩
    · rintro i x σ' H' hx ⟨v2, rfl, k1, hall⟩
      rw [List.getElem?_map] at hx
      obtain ⟨q, hq, rfl⟩ := Option.map_eq_some_iff.mp hx
      have hi : i < cs.length := by rw [← hc.1]; exact (List.getElem?_eq_some_iff.mp hq).1
      have hci : cs[i]? = some cs[i] := List.getElem?_eq_getElem hi
      have hcm : cs[i] ∈ cs := List.getElem_mem hi
      have e1 := k1.tup (hc.2 i q _ hq hci)
      have eb := k1.tup hb
      have et : cs.take (i + 1) = cs.take i ++ [cs[i]] := by rw [List.take_add_one, hci]; rfl
      walk_at "rd"
      refine ⟨_, rfl, q, rfl, ⟨_, SqT.of e1⟩, fun D2 hD2 => ?_⟩
      refine c_tup (xs := cs[i].map V.int) (fun j H2 => H2 = upd H' D2 (.lst (((cs[i].take j).filter fun x => decide (x ∈ fs)).map V.int))) (by rw [List.take_zero]; rfl) (fun j H2 _ h => by rw [h]; exact SqT.of ((Kept.new hD2).tup e1)) (fun j x H2 hx h => ?_) fun H2 h => ?_
      · obtain ⟨n, rfl, hn⟩ := map_int hx
        have en : cs[i].take (j + 1) = cs[i].take j ++ [n] := by rw [List.take_add_one, hn]; rfl
        have eb2 : H2 b = some (.tup (fs.map V.int)) := by rw [h]; exact (Kept.new hD2).tup eb
        refine ⟨rfl, ?_⟩
        walk_at "rd"
        refine w_inT (ls := fs) eb2 ?_
        by_cases z : n ∈ fs
        · rw [decide_eq_true z]
          refine ⟨_, rfl, if_t rfl ?_⟩
          walk_at "rd"
          refine ⟨_, by rw [h]; exact upd_same, ?_, ?_⟩
          · rw [List.length_map]
            have h1 := List.length_filter_le (fun x => decide (x ∈ fs)) (cs[i].take j)
            rw [List.length_take] at h1
            have h2 := hz _ hcm
            have h3 : 1001 ≤ sizeLine := by decide
            have h4 : j < cs[i].length := (List.getElem?_eq_some_iff.mp hn).1
            omega
          · have hf : List.filter (fun x => decide (x ∈ fs)) [n] = [n] := List.filter_cons_of_pos (p := fun x => decide (x ∈ fs)) (decide_eq_true z)
            rw [h, upd_again, en, List.filter_append, hf, List.map_append] <;> rfl
        · rw [decide_eq_false z]
          refine ⟨_, rfl, if_f rfl ?_⟩
          have hf : List.filter (fun x => decide (x ∈ fs)) [n] = [] := List.filter_cons_of_neg (p := fun x => decide (x ∈ fs)) (by rw [decide_eq_false z]; exact Bool.false_ne_true)
          show H2 = _
          rw [h, en, List.filter_append, hf, List.append_nil]
      · rw [List.length_map, List.take_length] at h
        generalize hsh : cs[i].filter (fun x => decide (x ∈ fs)) = sh at h
        have kD2 := Kept.new (o := .lst (sh.map V.int)) hD2
        rw [← h] at kD2
        have hD3 : H2 D2 = some (.lst (sh.map V.int)) := by rw [h]; exact upd_same
        have eany : (cs[i].any fun x => decide (x ∈ fs)) = !decide (sh = []) := by
          rw [← hsh]
          cases e : cs[i].any fun x => decide (x ∈ fs) with
          | true =>
            obtain ⟨x, h1, h2⟩ := List.any_eq_true.mp e
            have hne : cs[i].filter (fun x => decide (x ∈ fs)) ≠ [] := List.ne_nil_of_mem (List.mem_filter.mpr ⟨h1, h2⟩)
            rw [decide_eq_false hne] <;> rfl
          | false =>
            have hn : cs[i].filter (fun x => decide (x ∈ fs)) = [] := List.filter_eq_nil_iff.mpr fun x hx hy => by
              rw [List.any_eq_false] at e
              exact e x hx hy
            rw [decide_eq_true hn] <;> rfl
        walk_at "rd"
        refine ⟨Nat.zero_le _, fun q2 hq2 => ?_⟩
        have kQ := Kept.new (o := .lst []) hq2
        refine ⟨.list (sh.map PyData.int), .list [], .lst (SqL.of (kQ.lst hD3)) (dpAll_ints sh), .lst (SqL.of upd_same) .nil, shLi sh, shLi [], ?_⟩
        have ee : PyData.eqv (.list (sh.map PyData.int)) (.list []) = decide (sh = []) := by
          simp only [PyData.eqv]
          exact eqvAll_ints sh []
        rw [ee]
        have kA := (k1.trans kD2).trans kQ
        refine ⟨_, rfl, ?_⟩
        by_cases z : sh = []
        · rw [decide_eq_true z]
          refine if_t rfl ?_
          walk_at "rd"
          have ev : (cs.all fun c => c.any fun x => decide (x ∈ fs)) = false := List.all_eq_false.mpr ⟨_, hcm, by rw [eany, decide_eq_true z]; exact Bool.false_ne_true⟩
          rw [← ev]
          exact k _ kA
        · rw [decide_eq_false z]
          refine if_f rfl ?_
          refine ⟨_, rfl, kA, ?_⟩
          rw [et, List.all_append, hall, Bool.true_and, List.all_cons, eany, decide_eq_false z] <;> rfl
    · rintro σ' H' ⟨v2, rfl, k1, hall⟩
      rw [hlb, List.take_length] at hall
      walk_at "rd"
      rw [← hall]
      exact k _ k1
def spLLits : Sp := fun vs H Q _ => ∃ (d c : Addr), vs = [.ref d] ∧ DrwC d c H ∧ ∀ (p : Addr) H' (ls : List Int), H p = none → KeptC d c H H' → H' p = some (.lst (ls.map V.int)) → ls.length ≤ 4 → (∀ n ∈ ls, isLit n = true) → Q (.ref p) H'
theorem ok_l_literals (F : Fun K "_law_literals" "_law_literals" s_l_literals f fd) (T : Tx K mg uG) (D_l_take : Df P w K mg base 1 "_law_take" ["draw", "many"] spTakeC) : FnOk P w K mg base CX0 2 f fd ["draw"] spLLits := by
  refine F.ok sc_l_literals (fun vs H Q E h => ?_) (fun cdv A outer s H vs Q E hr h => ?_)
  · obtain ⟨d, c, rfl, _⟩ := h
    rfl
  · obtain ⟨d, c, rfl, hD, k⟩ := h
    refine ⟨_, (pss_cons (ps_set (i := 1) sc_l_literals.nd rfl (.inl rfl) (pe_lst pa_nil))
    (pss_cons (ps_for PassesOwn.never rfl (pi_range1 (by rfl) T.z_range (pa_cons (pe_df D_l_take (hr.mono (by decide)) (by rfl) (pa_cons (pv 0) (pa_cons pe_int pa_nil))) pa_nil)) (pg_name (i := 2) sc_l_literals.nd rfl (.inl rfl))
      (pss_one (ps_expr (pe_bm PySem.F.plainAttrs_list PySem.F.slot_list_append PySem.F.type_list_append mt_append (pv 1) (pa_cons (pe_op op_mulW (pe_ix (ix_listK (K := K) rfl) (pe_lst (pa_cons pe_int (pa_cons pe_int (pa_cons pe_int (pa_cons pe_int (pa_cons (pe_op op_add pe_int (pe_df D_l_take (hr.mono (by decide)) (by rfl) (pa_cons (pv 0) (pa_cons pe_int pa_nil)))) pa_nil)))))) (pe_df D_l_take (hr.mono (by decide)) (by rfl) (pa_cons (pv 0) (pa_cons pe_int pa_nil))) (fun _ _ => rfl)) (pe_ix (ix_listK (K := K) rfl) (pe_lst (pa_cons pe_int (pa_cons (pe_un un_neg pe_int) pa_nil))) (pe_df D_l_take (hr.mono (by decide)) (by rfl) (pa_cons (pv 0) (pa_cons pe_int pa_nil))) (fun _ _ => rfl))) pa_nil)))))
    (pss_one (ps_ret (pv 1))))), ?_⟩
    rw [show start n_l_literals [(.ref d : V)] = ([some (.ref d), none, none] : List (Option V)) from rfl]
    walk_at "rd"
    refine ⟨Nat.zero_le _, fun D hN => ?_⟩
    have k0 : KeptC d c H (upd H D (.lst [])) := (Kept.new hN).toC
    have nD := hD.old hN
    walk_at "rd"
    unfold tFor iRng1
    walk_at "rd"
    refine ⟨d, c, 5, rfl, by decide, by decide, k0.drw hD, fun r H1 l1 g1 k1 => ?_⟩
    obtain ⟨m, rfl⟩ : ∃ m : Nat, r = (m : Int) := ⟨r.toNat, by omega⟩
    refine ⟨(m : Int), rfl, by omega, by omega, for_range (lo := 0) (n := m) (D := { nx := tRet (tVar 1) { nx := fun x H' => Q V.non H', rt := Q }, rt := Q }) (fun i σ' H' => ∃ (v : Option V) (ls : List Int), σ' = [some (.ref d), some (.ref D), v] ∧ KeptC d c H H' ∧ H' D = some (.lst (ls.map V.int)) ∧ ls.length = i ∧ ∀ n ∈ ls, isLit n = true) ⟨none, [], rfl, k0.trans k1, k1.lst nD.1 upd_same, rfl, fun n hn => (by simp at hn)⟩ ?_ ?_⟩
    · rintro i σ' H' hi ⟨v, ls, rfl, k2, hDl, hl, hlit⟩
      walk_at "rd"
      have hD2 := k2.drw hD
      refine ⟨d, c, 4, rfl, by decide, by decide, hD2, fun r1 H3 l1 g1 k3 => ?_⟩
      walk_at "rd"
      have hD3 := k3.drw hD2
      refine ⟨by show 5 ≤ sizeLine; decide, fun p hp => ?_⟩
      have kp : KeptC d c H3 (upd H3 p (.lst [V.int 1, V.int 2, V.int 3, V.int 999, V.int (5 + r1)])) := (Kept.new hp).toC
      have np := hD3.old hp
      walk_at "rd"
      refine ⟨d, c, 5, rfl, by decide, by decide, kp.drw hD3, fun r2 H4 l2 g2 k4 => ?_⟩
      have hD4 := k4.drw (kp.drw hD3)
      obtain ⟨n, hn, en⟩ := pick_int (ns := [1, 2, 3, 999, 5 + r1]) l2 g2
      refine w_ixL (k4.lst np.1 upd_same) en ?_
      walk_at "rd"
      refine ⟨by show 2 ≤ sizeLine; decide, fun p2 hp2 => ?_⟩
      have kp2 : KeptC d c H4 (upd H4 p2 (.lst [V.int 1, V.int (-1)])) := (Kept.new hp2).toC
      have np2 := hD4.old hp2
      walk_at "rd"
      refine ⟨d, c, 2, rfl, by decide, by decide, kp2.drw hD4, fun r3 H5 l3 g3 k5 => ?_⟩
      obtain ⟨z, hz, ez⟩ := pick_int (ns := [1, -1]) l3 g3
      refine w_ixL (k5.lst np2.1 upd_same) ez ?_
      have kA := k3.trans (kp.trans (k4.trans (kp2.trans k5)))
      have hDl5 := kA.lst nD.1 hDl
      have hn' : 1 ≤ n ∧ n ≤ 999 := by
        simp only [List.mem_cons, List.not_mem_nil, or_false] at hn
        rcases hn with rfl | rfl | rfl | rfl | rfl <;> omega
      have hz' : z = 1 ∨ z = -1 := by
        simpa using hz
      refine w_I (mulW (by omega) (by omega)) ?_
      walk_at "rd"
      refine ⟨_, _, _, rfl, rfl, hDl5, ?_, _, ls ++ [n * z], rfl, KeptC.mut (k2.trans kA) hN, by rw [List.map_append]; exact upd_same, by rw [List.length_append, hl] <;> rfl, fun m hm => ?_⟩
      · rw [List.length_map]
        exact small1000 (by omega)
      · rcases List.mem_append.mp hm with h | h
        · exact hlit m h
        · rw [List.mem_singleton.mp h]
          unfold isLit isVar absI
          rcases hz' with rfl | rfl
          · rw [Int.mul_one, if_neg (by omega)]
            simp [hn'.1, hn'.2]
          · rw [Int.mul_neg, Int.mul_one, if_pos (by omega)]
            simp [hn'.1, hn'.2]
    · rintro σ' H' ⟨v, ls, rfl, k2, hDl, hl, hlit⟩
      walk_at "rd"
      exact k D H' ls hN k2 hDl (by omega) hlit
end
end Ky

namespace Ky
open PySem PySem.Spec PyProof.Rows L2
/-! ### mathematics for the law -/
theorem range_all {α : Type} (d : α) (p : α → Bool) (xs : List α) : ((List.range xs.length).all fun i => p (xs.getD i d)) = xs.all p := by
  rw [Bool.eq_iff_iff, List.all_eq_true, List.all_eq_true]
  constructor
  · intro h x hx
    obtain ⟨i, hi, e⟩ := List.getElem_of_mem hx
    have q := h i (List.mem_range.mpr hi)
    rw [List.getD_eq_getElem?_getD, List.getElem?_eq_getElem hi, e] at q
    exact q
  · intro h i hi
    have hi := List.mem_range.mp hi
    rw [List.getD_eq_getElem?_getD, List.getElem?_eq_getElem hi]
    exact h _ (List.getElem_mem hi)
theorem range_any {α : Type} (d : α) (p : α → Bool) (xs : List α) : ((List.range xs.length).any fun i => p (xs.getD i d)) = xs.any p := by
  have h := range_all d (fun x => !p x) xs
  rw [← Bool.not_inj_iff, List.not_any_eq_all_not, List.not_any_eq_all_not]
  exact h
theorem keep1_any (fs c : List Int) : keep1 fs c = c.any fun x => decide (x ∈ fs) := by
  unfold keep1
  rw [List.length_map]
  exact range_any 0 (fun x => decide (x ∈ fs)) c
theorem keepsF_all (cs : List (List Int)) (fs : List Int) : keepsF cs fs = cs.all fun c => c.any fun x => decide (x ∈ fs) := by
  unfold keepsF
  rw [range_all [] (keep1 fs) cs]
  congr 1
  funext c
  exact keep1_any fs c
theorem ascD_pair {ds : List PyData} (h : ds.Pairwise fun a b => PySem.W.dataLt a b = true) : ascD ds = true := by
  unfold ascD
  refine List.all_eq_true.mpr fun j hj => ?_
  have hj := List.mem_range.mp hj
  have h1 : j < ds.length := by omega
  have h2 : j + 1 < ds.length := by omega
  rw [List.getD_eq_getElem?_getD, List.getElem?_eq_getElem h1, List.getD_eq_getElem?_getD, List.getElem?_eq_getElem h2]
  exact List.pairwise_iff_getElem.mp h j (j + 1) h1 h2 (by omega)
theorem ascD_not {ds : List PyData} {j : Nat} (h2 : j + 1 < ds.length) (h : PySem.W.dataLt (ds.getD j .none) (ds.getD (j + 1) .none) = false) : ascD ds = false := by
  unfold ascD
  exact List.all_eq_false.mpr ⟨j, List.mem_range.mpr (by omega), by rw [h]; exact Bool.false_ne_true⟩
theorem isClauseF_all (ls : List Int) : isClauseF ls = (ls.all isLit && ascD (ls.map fun n => .int (absI n))) := by
  unfold isClauseF
  rw [List.length_map, range_all 0 isLit ls]
theorem isResidueF_all (cs : List (List Int)) : isResidueF cs = (cs.all isClauseF && ascD (cs.map ckD)) := by
  unfold isResidueF
  rw [range_all [] isClauseF cs]
/-- a residue that ascends, of clauses, is one -/
theorem isResidueF_asc {cs : List (List Int)} (h : ascC cs) (hc : ∀ c ∈ cs, isClauseF c = true) : isResidueF cs = true := by
  rw [isResidueF_all, List.all_eq_true.mpr hc, Bool.true_and]
  exact ascD_pair (List.pairwise_map.mpr h)
/-- + 1000 is no clause -/
theorem isClauseF_big (ls : List Int) : isClauseF (ls ++ [1000]) = false := by
  rw [isClauseF_all, List.all_append]
  have e : List.all [(1000 : Int)] isLit = false := by decide
  rw [e, Bool.and_false, Bool.false_and]
theorem bothS_no {ls : List Int} (h : bothS ls = false) : noBoth ls := by
  unfold bothS at h
  rw [List.length_map, range_any 0 (fun x => decide (-x ∈ ls)) ls, List.any_eq_false] at h
  intro l hl hl2
  exact h l hl (decide_eq_true hl2)
theorem keyD_lt (a b : Int) : PySem.W.dataLt (keyD a) (keyD b) = if absI a = absI b then decide (sgI a < sgI b) else decide (absI a < absI b) := by
  unfold keyD
  rw [PySem.W.dataLt_pair (by simp [PySem.W.alike]) (by simp [PySem.W.alike]), PySem.W.dataLt_int, PySem.W.dataLt_int]
  simp only [PyData.eqv, beq_iff_eq]
  by_cases h : absI a = absI b
  · rw [if_pos h, if_pos h]
    by_cases h2 : sgI a = sgI b
    · rw [if_pos h2, h2]
      simp
    · rw [if_neg h2]
  · rw [if_neg h, if_neg h]
theorem absI_eq {a b : Int} (h : absI a = absI b) : a = b ∨ a = -b := by
  unfold absI at h
  split at h <;> split at h <;> omega
/-- sorted by key, without repeats and without both signs: it ascends in size -/
theorem clause_asc {ls : List Int} (hn : ls.Nodup) (hb : noBoth ls) : (srtBy keyD ls).Pairwise fun a b => absI a < absI b := by
  have h1 := srtBy_pair keyD ls
  have h2 : (srtBy keyD ls).Nodup := (srtBy_perm keyD ls).nodup_iff.mpr hn
  refine List.pairwise_iff_getElem.mpr fun i j hi hj hij => ?_
  have a := List.pairwise_iff_getElem.mp h1 i j hi hj hij
  have b := List.pairwise_iff_getElem.mp h2 i j hi hj hij
  have m1 : (srtBy keyD ls)[i] ∈ ls := mem_srtBy.mp (List.getElem_mem hi)
  have m2 : (srtBy keyD ls)[j] ∈ ls := mem_srtBy.mp (List.getElem_mem hj)
  generalize (srtBy keyD ls)[i] = x at a b m1 ⊢
  generalize (srtBy keyD ls)[j] = y at a b m2 ⊢
  have a : (!PySem.W.dataLt (keyD y) (keyD x)) = true := a
  rw [keyD_lt] at a
  have ne : absI y ≠ absI x := fun e => by
    rcases absI_eq e with e | e
    · exact b e.symm
    · exact hb x m1 (e ▸ m2)
  rw [if_neg ne] at a
  have a' : ¬ absI y < absI x := by simpa using a
  omega
theorem abs_asc {ls : List Int} (h : ls.Pairwise fun a b => absI a < absI b) : ascD (ls.map fun n => .int (absI n)) = true :=
  ascD_pair (List.pairwise_map.mpr (h.imp fun {a b} q => by rw [PySem.W.dataLt_int, decide_eq_true q]))
/-- what the law makes of literals is a clause -/
theorem isClauseF_srt {ls : List Int} (hn : ls.Nodup) (hb : noBoth ls) (hl : ∀ n ∈ ls, isLit n = true) : isClauseF (srtBy keyD ls) = true := by
  rw [isClauseF_all, abs_asc (clause_asc hn hb), Bool.and_true]
  exact List.all_eq_true.mpr fun n hn => hl n (mem_srtBy.mp hn)
/-- and backward it is none, if it has two -/
theorem isClauseF_rev {ls : List Int} (h : ls.Pairwise fun a b => absI a < absI b) (h2 : 2 ≤ ls.length) : isClauseF ls.reverse = false := by
  rw [isClauseF_all]
  have q : ascD (ls.reverse.map fun n => .int (absI n)) = false := by
    refine ascD_not (j := 0) (by rw [List.length_map, List.length_reverse]; omega) ?_
    have l1 : 0 < (ls.reverse.map fun n => PyData.int (absI n)).length := by rw [List.length_map, List.length_reverse]; omega
    have l2 : 0 + 1 < (ls.reverse.map fun n => PyData.int (absI n)).length := by rw [List.length_map, List.length_reverse]; omega
    rw [List.getD_eq_getElem?_getD, List.getElem?_eq_getElem l1, List.getD_eq_getElem?_getD, List.getElem?_eq_getElem l2]
    simp only [Option.getD_some, List.getElem_map, List.getElem_reverse, PySem.W.dataLt_int]
    have q := List.pairwise_iff_getElem.mp h (ls.length - 1 - 1) (ls.length - 1 - 0) (by omega) (by omega) (by omega)
    refine decide_eq_false ?_
    have e : ls.length - 1 - (0 + 1) = ls.length - 1 - 1 := by omega
    simp only [e]
    omega
  rw [q, Bool.and_false]
theorem isResidueF_end {ys : List (List Int)} {u v : List Int} (h : PySem.W.dataLt (ckD u) (ckD v) = false) : isResidueF (ys ++ [u, v]) = false := by
  rw [isResidueF_all]
  have q : ascD ((ys ++ [u, v]).map ckD) = false := by
    have e : (ys ++ [u, v]).map ckD = ys.map ckD ++ [ckD u, ckD v] := by rw [List.map_append] <;> rfl
    rw [e]
    refine ascD_not (j := (ys.map ckD).length) (by rw [List.length_append]; simp) ?_
    rw [List.getD_eq_getElem?_getD, List.getD_eq_getElem?_getD, List.getElem?_append_right (Nat.le_refl _), List.getElem?_append_right (Nat.le_succ _), Nat.sub_self, Nat.succ_sub (Nat.le_refl _), Nat.sub_self]
    exact h
  rw [q, Bool.and_false]
theorem last_of {α : Type} : ∀ {xs : List α}, 0 < xs.length → ∃ ys u, xs = ys ++ [u]
  | [], h => by simp at h
  | x :: xs, _ => by
    cases xs with
    | nil => exact ⟨[], x, rfl⟩
    | cons y t =>
      obtain ⟨ys, u, e⟩ := last_of (xs := y :: t) (by simp)
      exact ⟨x :: ys, u, by rw [e] <;> rfl⟩
/-- the last doubled -/
theorem isResidueF_dbl {cs : List (List Int)} (h : 0 < cs.length) : isResidueF (cs ++ cs.drop (cs.length - 1)) = false := by
  obtain ⟨ys, u, rfl⟩ := last_of h
  have e : (ys ++ [u]).drop ((ys ++ [u]).length - 1) = [u] := by
    rw [List.length_append]
    show List.drop (ys.length + 1 - 1) _ = _
    rw [Nat.add_sub_cancel, List.drop_left]
  rw [e, List.append_assoc]
  exact isResidueF_end (lt_irr _)
/-- the first at the end -/
theorem isResidueF_rot {cs : List (List Int)} (ha : ascC cs) (h : 1 < cs.length) : isResidueF (cs.drop 1 ++ cs.take 1) = false := by
  cases cs with
  | nil => simp at h
  | cons a t =>
    obtain ⟨ys, u, rfl⟩ := last_of (xs := t) (by simpa using h)
    obtain ⟨p1, _⟩ := List.pairwise_cons.mp ha
    have q := p1 u (List.mem_append_right _ List.mem_cons_self)
    show isResidueF ((ys ++ [u]) ++ [a]) = false
    rw [List.append_assoc]
    exact isResidueF_end (dataLt_asym q)
/-- two lists that ascend with the same members are one -/
theorem intAsc_unique : ∀ {xs ys : List Int}, xs.Pairwise (· < ·) → ys.Pairwise (· < ·) → (∀ d, d ∈ xs ↔ d ∈ ys) → xs = ys
  | [], [], _, _, _ => rfl
  | [], y :: ys, _, _, h => absurd ((h y).mpr List.mem_cons_self) (by simp)
  | x :: xs, [], _, _, h => absurd ((h x).mp List.mem_cons_self) (by simp)
  | x :: xs, y :: ys, hx, hy, h => by
    obtain ⟨x1, x2⟩ := List.pairwise_cons.mp hx
    obtain ⟨y1, y2⟩ := List.pairwise_cons.mp hy
    have e : x = y := by
      rcases List.mem_cons.mp ((h x).mp List.mem_cons_self) with e | e
      · exact e
      · rcases List.mem_cons.mp ((h y).mpr List.mem_cons_self) with e2 | e2
        · exact e2.symm
        · have a := y1 x e
          have b := x1 y e2
          omega
    subst e
    have nx : x ∉ xs := fun z => by
      have := x1 x z
      omega
    have ny : x ∉ ys := fun z => by
      have := y1 x z
      omega
    rw [intAsc_unique x2 y2 fun d => ⟨fun z => ((List.mem_cons.mp ((h d).mp (List.mem_cons_of_mem _ z))).resolve_left fun e => nx (e ▸ z)), fun z => ((List.mem_cons.mp ((h d).mpr (List.mem_cons_of_mem _ z))).resolve_left fun e => ny (e ▸ z))⟩]
theorem noBoth_srt {ls : List Int} (h : noBoth ls) : noBoth (srtBy keyD ls) := fun l h1 h2 => h l (mem_srtBy.mp h1) (mem_srtBy.mp h2)
theorem small3_res {cs : List (List Int)} (hl : cs.length ≤ 400) (hc : ∀ c ∈ cs, c.length ≤ 400 ∧ noBoth c) : Small3 (residueF cs) := by
  refine ⟨asc_srt cs, ?_, fun c h => hc c (mem_residueF.mp h)⟩
  unfold residueF
  rw [(srtBy_perm _ _).length_eq]
  exact Nat.le_trans (len_dd _) hl
theorem isResidueF_res {cs : List (List Int)} (h : ∀ c ∈ cs, isClauseF c = true) : isResidueF (residueF cs) = true := isResidueF_asc (asc_srt cs) fun c hc => h c (mem_residueF.mp hc)
/-- a list's own without repeats, in any order, sorted: the residue -/
theorem srt_once {cs ds : List (List Int)} (hn : ds.Nodup) (hm : ∀ d, d ∈ ds ↔ d ∈ cs) : srtBy ckD ds = residueF cs := asc_is (asc_srtN hn) fun d => by rw [mem_srtBy, hm]
/-- one more of `[xs[j] for j .. if xs[j] not in xs[:j]]` -/
theorem once_step {α : Type} [DecidableEq α] {xs ds : List α} {j : Nat} {x : α} (hx : xs[j]? = some x) (hn : ds.Nodup) (hm : ∀ d, d ∈ ds ↔ d ∈ xs.take j) :
    (x ∉ xs.take j → (ds ++ [x]).Nodup ∧ ∀ d, d ∈ ds ++ [x] ↔ d ∈ xs.take (j + 1)) ∧ (x ∈ xs.take j → ∀ d, d ∈ ds ↔ d ∈ xs.take (j + 1)) := by
  have et : xs.take (j + 1) = xs.take j ++ [x] := by rw [List.take_add_one, hx]; rfl
  refine ⟨fun h => ⟨?_, fun d => ?_⟩, fun h d => ?_⟩
  · exact List.nodup_append.mpr ⟨hn, by simp, fun y hy z hz => by rw [List.mem_singleton.mp hz]; exact fun e => h ((hm x).mp (e ▸ hy))⟩
  · rw [et, List.mem_append, List.mem_append, hm]
  · rw [et, List.mem_append, hm, List.mem_singleton]
    exact ⟨.inl, fun h2 => h2.elim id fun e => e ▸ h⟩
/-- two lists that ascend by size with the same members are one -/
theorem absAsc_unique {m : Int → Int} : ∀ {xs ys : List Int}, (xs.Pairwise fun a b => m a < m b) → (ys.Pairwise fun a b => m a < m b) → (∀ d, d ∈ xs ↔ d ∈ ys) → xs = ys
  | [], [], _, _, _ => rfl
  | [], y :: ys, _, _, h => absurd ((h y).mpr List.mem_cons_self) (by simp)
  | x :: xs, [], _, _, h => absurd ((h x).mp List.mem_cons_self) (by simp)
  | x :: xs, y :: ys, hx, hy, h => by
    obtain ⟨x1, x2⟩ := List.pairwise_cons.mp hx
    obtain ⟨y1, y2⟩ := List.pairwise_cons.mp hy
    have e : x = y := by
      rcases List.mem_cons.mp ((h x).mp List.mem_cons_self) with e | e
      · exact e
      · rcases List.mem_cons.mp ((h y).mpr List.mem_cons_self) with e2 | e2
        · exact e2.symm
        · have a := y1 x e
          have b := x1 y e2
          omega
    subst e
    have nx : x ∉ xs := fun z => by
      have := x1 x z
      omega
    have ny : x ∉ ys := fun z => by
      have := y1 x z
      omega
    rw [absAsc_unique x2 y2 fun d => ⟨fun z => ((List.mem_cons.mp ((h d).mp (List.mem_cons_of_mem _ z))).resolve_left fun e => nx (e ▸ z)), fun z => ((List.mem_cons.mp ((h d).mpr (List.mem_cons_of_mem _ z))).resolve_left fun e => ny (e ▸ z))⟩]
/-- the clause of literals, from any list of them without repeats -/
theorem clauseF_once {ls ds : List Int} (hb : noBoth ls) (hn : ds.Nodup) (hm : ∀ d, d ∈ ds ↔ d ∈ ls) : srtBy keyD ds = clauseF ls := by
  unfold clauseF
  have hb1 : noBoth ds := fun l h1 h2 => hb l ((hm l).mp h1) ((hm _).mp h2)
  have hb2 : noBoth (dd ls) := fun l h1 h2 => hb l (mem_dd.mp h1) (mem_dd.mp h2)
  exact absAsc_unique (m := absI) (clause_asc hn hb1) (clause_asc (nodup_dd ls) hb2) fun d => by rw [mem_srtBy, mem_srtBy, mem_dd, hm]
end Ky

namespace Ky
open PySem PySem.Spec PyProof.Rows L2
/-! ### loops and comprehensions, one step each; what is told of the walk stands in one word -/
def FrJ (g : TG) (tb : TS) (D : Ends) (σ : L2.St) (J : It) (H1 : Hp) : Prop := ∃ W : Nat → Nat → L2.St → Hp → Prop, (∃ m, W 0 m σ H1) ∧ ∀ i m σ H, W i m σ H →
  (J.stop i H ∧ D.nx σ H) ∨ (J.go i H ∧ ∃ N : L2.St → Hp → Prop, (∀ σ' H', N σ' H' → ∃ m', m' < m ∧ W (i + 1) m' σ' H') ∧ ∀ x H', J.yld i H x H' → g x σ H' fun σ2 H2 => tb { D with nx := N, ct := N, bk := D.nx } σ2 H2)
def Fr1 (g : TG) (tb : TS) (D : Ends) (σ : L2.St) (vs : List V) (H1 : Hp) : Prop := ∃ j : Int, vs = [.int j] ∧ -(2 ^ 62) ≤ j ∧ j < 2 ^ 62 ∧ FrJ g tb D σ (Itr 0 j.toNat) H1
def Fr2 (g : TG) (tb : TS) (D : Ends) (σ : L2.St) (vs : List V) (H1 : Hp) : Prop := ∃ i j : Int, vs = [.int i, .int j] ∧ (-(2 ^ 62) ≤ i ∧ i < 2 ^ 62 ∧ -(2 ^ 62) ≤ j ∧ j < 2 ^ 62) ∧ FrJ g tb D σ (Itr i (j - i).toNat) H1
def FrL (K : PySem.W.Frag) (g : TG) (tb : TS) (D : Ends) (σ : L2.St) (x : V) (H1 : Hp) : Prop := ∃ a, x = .ref a ∧ (∃ xs, SqL K H1 a xs) ∧ FrJ g tb D σ (Itl K a) H1
def FrT (K : PySem.W.Frag) (g : TG) (tb : TS) (D : Ends) (σ : L2.St) (x : V) (H1 : Hp) : Prop := ∃ a, x = .ref a ∧ (∃ xs, SqT K H1 a xs) ∧ FrJ g tb D σ (Itt K a) H1
def LcJ (g : TG) (tt : TT) (te : TE) (vs : List Nat) (σ : L2.St) (Q : VK) (J : It) (H1 : Hp) : Prop := ∀ D, H1 D = none → ∃ W : Nat → Nat → Hp → Prop, (∃ m, W 0 m (upd H1 D (.lst []))) ∧ ∀ i m H, W i m H →
  (J.stop i H ∧ Q (.ref D) H) ∨ (J.go i H ∧ ∃ Nx : Hp → Prop, (∀ H', Nx H' → ∃ m', m' < m ∧ W (i + 1) m' H') ∧ ∀ x H', J.yld i H x H' → g x (wipe σ vs) H' fun σ2 H2 => wipe σ2 vs = wipe σ vs ∧ tt σ2 H2 fun b H3 =>
    if b = true then te σ2 H3 fun y H4 => ∃ acc, H4 D = some (.lst acc) ∧ acc.length < sizeLine ∧ Nx (upd H4 D (.lst (acc ++ [y]))) else Nx H3)
def Lc1 (g : TG) (tt : TT) (te : TE) (vs : List Nat) (σ : L2.St) (Q : VK) (ws : List V) (H1 : Hp) : Prop := ∃ j : Int, ws = [.int j] ∧ -(2 ^ 62) ≤ j ∧ j < 2 ^ 62 ∧ LcJ g tt te vs σ Q (Itr 0 j.toNat) H1
def LcL (K : PySem.W.Frag) (g : TG) (tt : TT) (te : TE) (vs : List Nat) (σ : L2.St) (Q : VK) (x : V) (H1 : Hp) : Prop := ∃ a, x = .ref a ∧ (∃ xs, SqL K H1 a xs) ∧ LcJ g tt te vs σ Q (Itl K a) H1
def LcT (K : PySem.W.Frag) (g : TG) (tt : TT) (te : TE) (vs : List Nat) (σ : L2.St) (Q : VK) (x : V) (H1 : Hp) : Prop := ∃ a, x = .ref a ∧ (∃ xs, SqT K H1 a xs) ∧ LcJ g tt te vs σ Q (Itt K a) H1
section
variable {K : PySem.W.Frag} {σ : L2.St} {H H1 : Hp} {Q : VK} {D : Ends} {g : TG} {tb : TS} {ta : TA} {te te2 : TE} {tt : TT} {vs : List Nat} {J : It}
theorem w_for1 (q : ta σ H (Fr1 g tb D σ)) : tFor (iRng1 ta) g tb D σ H := q
theorem w_for2 (q : ta σ H (Fr2 g tb D σ)) : tFor (iRng2 ta) g tb D σ H := q
theorem w_forL (q : te σ H (FrL K g tb D σ)) : tFor (iList K te) g tb D σ H := q
theorem w_forT (q : te σ H (FrT K g tb D σ)) : tFor (iTup K te) g tb D σ H := q
theorem w_lc1 (q : ta σ H (Lc1 g tt te vs σ Q)) : tLc (iRng1 ta) g tt te vs σ H Q := q
theorem w_lcL (q : te2 σ H (LcL K g tt te vs σ Q)) : tLc (iList K te2) g tt te vs σ H Q := q
theorem w_lcT (q : te2 σ H (LcT K g tt te vs σ Q)) : tLc (iTup K te2) g tt te vs σ H Q := q
theorem FrJ.range {lo : Int} {n : Nat} (Pv : Nat → L2.St → Hp → Prop) (h0 : Pv 0 σ H) (hs : ∀ i σ H, i < n → Pv i σ H → g (.int (lo + i)) σ H fun σ2 H2 => tb { D with nx := Pv (i + 1), ct := Pv (i + 1), bk := D.nx } σ2 H2) (hd : ∀ σ H, Pv n σ H → D.nx σ H) : FrJ g tb D σ (Itr lo n) H := for_range Pv h0 hs hd
theorem Fr1.mk {m : Nat} (hm : (m : Int) < 2 ^ 62) (Pv : Nat → L2.St → Hp → Prop) (h0 : Pv 0 σ H) (hs : ∀ i σ H, i < m → Pv i σ H → g (.int (i : Int)) σ H fun σ2 H2 => tb { D with nx := Pv (i + 1), ct := Pv (i + 1), bk := D.nx } σ2 H2) (hd : ∀ σ H, Pv m σ H → D.nx σ H) : Fr1 g tb D σ [.int (m : Int)] H := by
  refine ⟨_, rfl, by omega, hm, ?_⟩
  rw [Int.toNat_natCast]
  refine for_range Pv h0 (fun i σ H hi p => ?_) hd
  rw [Int.zero_add]
  exact hs i σ H hi p
theorem FrL.mk {a : Addr} {xs : List V} (Pv : Nat → L2.St → Hp → Prop) (h0 : Pv 0 σ H) (hl : ∀ i σ H, i ≤ xs.length → Pv i σ H → SqL K H a xs) (hs : ∀ i x σ H, xs[i]? = some x → Pv i σ H → g x σ H fun σ2 H2 => tb { D with nx := Pv (i + 1), ct := Pv (i + 1), bk := D.nx } σ2 H2) (hd : ∀ σ H, Pv xs.length σ H → D.nx σ H) : FrL K g tb D σ (.ref a) H :=
  ⟨a, rfl, ⟨xs, hl 0 σ H (Nat.zero_le _) h0⟩, for_list Pv h0 hl hs hd⟩
theorem FrT.mk {a : Addr} {xs : List V} (Pv : Nat → L2.St → Hp → Prop) (h0 : Pv 0 σ H) (hl : ∀ i σ H, i ≤ xs.length → Pv i σ H → SqT K H a xs) (hs : ∀ i x σ H, xs[i]? = some x → Pv i σ H → g x σ H fun σ2 H2 => tb { D with nx := Pv (i + 1), ct := Pv (i + 1), bk := D.nx } σ2 H2) (hd : ∀ σ H, Pv xs.length σ H → D.nx σ H) : FrT K g tb D σ (.ref a) H :=
  ⟨a, rfl, ⟨xs, hl 0 σ H (Nat.zero_le _) h0⟩, for_tup Pv h0 hl hs hd⟩
/-- a comprehension's walk: what it appends is told, and the heap only grows -/
theorem LcJ.run {n : Nat} {xv : Nat → V} {j : Nat} {H0 : Hp} {Q : VK} (p : Nat → Bool) (f : Nat → V) (hn : n ≤ sizeLine) (hgo : ∀ i H, i < n → Kept H0 H → J.go i H) (hy : ∀ i H x H', i < n → Kept H0 H → J.yld i H x H' → H' = H ∧ x = xv i) (hstop : ∀ H, Kept H0 H → J.stop n H)
    (step : ∀ i H (k : Hp → Prop) (k2 : VK), i < n → Kept H0 H → (∀ H4, Kept H H4 → p i = true → k2 (f i) H4) → (∀ H4, Kept H H4 → p i = false → k H4) → tt ((wipe σ [j]).set j (some (xv i))) H fun b H3 => if b = true then te ((wipe σ [j]).set j (some (xv i))) H3 k2 else k H3)
    (fin : ∀ D H, H0 D = none → Kept H0 H → H D = some (.lst (((List.range n).filter p).map f)) → Q (.ref D) H) : LcJ (gName j) tt te [j] σ Q J H0 := by
  intro D hD
  refine c_walk (xv := xv) (fun i H => Kept H0 H ∧ H D = some (.lst (((List.range i).filter p).map f))) ⟨Kept.new hD, upd_same⟩ (fun i H h s => hgo i H h s.1) (fun i H x H' h s => hy i H x H' h s.1) (fun H s => hstop H s.1) (fun i H hi s => ?_) fun H s => fin D H hD s.1 s.2
  refine ⟨wipe_one, ?_⟩
  refine step i H _ _ hi s.1 (fun H4 k4 hp => ?_) fun H4 k4 hp => ?_
  · refine ⟨_, k4.lst s.2, ?_, Kept.mut (s.1.trans k4) hD, ?_⟩
    · rw [List.length_map]
      have h1 := List.length_filter_le p (List.range i)
      rw [List.length_range] at h1
      omega
    · rw [List.range_succ, List.filter_append, List.map_append, List.filter_cons_of_pos hp]
      exact upd_same
  · refine ⟨s.1.trans k4, ?_⟩
    rw [List.range_succ, List.filter_append, List.filter_cons_of_neg (by rw [hp]; exact Bool.false_ne_true), List.filter_nil, List.append_nil]
    exact k4.lst s.2
theorem Lc1.run {n : Nat} {j : Nat} {H0 : Hp} {Q : VK} (p : Nat → Bool) (f : Nat → V) (hn : n ≤ sizeLine)
    (step : ∀ i H (k : Hp → Prop) (k2 : VK), i < n → Kept H0 H → (∀ H4, Kept H H4 → p i = true → k2 (f i) H4) → (∀ H4, Kept H H4 → p i = false → k H4) → tt ((wipe σ [j]).set j (some (.int (i : Int)))) H fun b H3 => if b = true then te ((wipe σ [j]).set j (some (.int (i : Int)))) H3 k2 else k H3)
    (fin : ∀ D H, H0 D = none → Kept H0 H → H D = some (.lst (((List.range n).filter p).map f)) → Q (.ref D) H) : Lc1 (gName j) tt te [j] σ Q [.int (n : Int)] H0 := by
  have hz : sizeLine < 2 ^ 62 := by decide
  refine ⟨_, rfl, by omega, by omega, ?_⟩
  rw [Int.toNat_natCast]
  exact LcJ.run (xv := fun i => .int (i : Int)) p f hn (fun i H h _ => h) (fun i H x H' _ _ h => by
    obtain ⟨h1, h2⟩ := h
    rw [Int.zero_add] at h2
    exact ⟨h1, h2⟩) (fun H _ => Nat.le_refl n) step fin
theorem LcL.run {a : Addr} {xs : List V} {j : Nat} {H0 : Hp} {Q : VK} (p : Nat → Bool) (f : Nat → V) (hn : xs.length ≤ sizeLine) (ha : H0 a = some (.lst xs))
    (step : ∀ i x H (k : Hp → Prop) (k2 : VK), xs[i]? = some x → Kept H0 H → (∀ H4, Kept H H4 → p i = true → k2 (f i) H4) → (∀ H4, Kept H H4 → p i = false → k H4) → tt ((wipe σ [j]).set j (some x)) H fun b H3 => if b = true then te ((wipe σ [j]).set j (some x)) H3 k2 else k H3)
    (fin : ∀ D H, H0 D = none → Kept H0 H → H D = some (.lst (((List.range xs.length).filter p).map f)) → Q (.ref D) H) : LcL K (gName j) tt te [j] σ Q (.ref a) H0 := by
  refine ⟨a, rfl, ⟨_, SqL.of ha⟩, LcJ.run (xv := fun i => xs.getD i .non) p f hn (fun i H h kp => ⟨xs, xs[i], SqL.of (kp.lst ha), List.getElem?_eq_getElem h⟩) (fun i H x H' h kp q => ?_) (fun H kp => ⟨xs, SqL.of (kp.lst ha), Nat.le_refl _⟩) (fun i H k k2 h kp => step i _ H k k2 (by rw [List.getD_eq_getElem?_getD, List.getElem?_eq_getElem h] <;> rfl) kp) fin⟩
  obtain ⟨e, q⟩ := q
  subst e
  refine ⟨rfl, ?_⟩
  rw [List.getD_eq_getElem?_getD, q xs (SqL.of (kp.lst ha))] <;> rfl
theorem LcT.run {a : Addr} {xs : List V} {j : Nat} {H0 : Hp} {Q : VK} (p : Nat → Bool) (f : Nat → V) (hn : xs.length ≤ sizeLine) (ha : H0 a = some (.tup xs))
    (step : ∀ i x H (k : Hp → Prop) (k2 : VK), xs[i]? = some x → Kept H0 H → (∀ H4, Kept H H4 → p i = true → k2 (f i) H4) → (∀ H4, Kept H H4 → p i = false → k H4) → tt ((wipe σ [j]).set j (some x)) H fun b H3 => if b = true then te ((wipe σ [j]).set j (some x)) H3 k2 else k H3)
    (fin : ∀ D H, H0 D = none → Kept H0 H → H D = some (.lst (((List.range xs.length).filter p).map f)) → Q (.ref D) H) : LcT K (gName j) tt te [j] σ Q (.ref a) H0 := by
  refine ⟨a, rfl, ⟨_, SqT.of ha⟩, LcJ.run (xv := fun i => xs.getD i .non) p f hn (fun i H h kp => ⟨xs, xs[i], SqT.of (kp.tup ha), List.getElem?_eq_getElem h⟩) (fun i H x H' h kp q => ?_) (fun H kp => ⟨xs, SqT.of (kp.tup ha), Nat.le_refl _⟩) (fun i H k k2 h kp => step i _ H k k2 (by rw [List.getD_eq_getElem?_getD, List.getElem?_eq_getElem h] <;> rfl) kp) fin⟩
  obtain ⟨e, q⟩ := q
  subst e
  refine ⟨rfl, ?_⟩
  rw [List.getD_eq_getElem?_getD, q xs (SqT.of (kp.tup ha))] <;> rfl
end
/-! ### what the walks leave, as lists -/
theorem range_filter {α β : Type} (d : α) (p : α → Bool) (f : α → β) : ∀ xs : List α, ((List.range xs.length).filter fun i => p (xs.getD i d)).map (fun i => f (xs.getD i d)) = (xs.filter p).map f := by
  intro xs
  have h : ∀ m, m ≤ xs.length → ((List.range m).filter fun i => p (xs.getD i d)).map (fun i => f (xs.getD i d)) = ((xs.take m).filter p).map f := by
    intro m
    induction m with
    | zero => intro _; rfl
    | succ m ih =>
      intro hm
      have hx : xs[m]? = some xs[m] := List.getElem?_eq_getElem hm
      rw [List.range_succ, List.filter_append, List.map_append, ih (by omega), List.take_add_one, hx, List.filter_append, List.map_append]
      congr 1
      have e : xs.getD m d = xs[m] := by rw [List.getD_eq_getElem?_getD, hx] <;> rfl
      show (List.filter _ [m]).map _ = (List.filter p [xs[m]]).map f
      cases hp : p xs[m] with
      | true => rw [List.filter_cons_of_pos (by rw [e]; exact hp), List.filter_cons_of_pos hp, List.filter_nil, List.filter_nil, List.map_cons, List.map_cons, e] <;> rfl
      | false => rw [List.filter_cons_of_neg (by rw [e, hp]; exact Bool.false_ne_true), List.filter_cons_of_neg (by rw [hp]; exact Bool.false_ne_true)] <;> rfl
  rw [h _ (Nat.le_refl _), List.take_length]
theorem range_map {α β : Type} (d : α) (f : α → β) (xs : List α) : (List.range xs.length).map (fun i => f (xs.getD i d)) = xs.map f := by
  have h := range_filter d (fun _ => true) f xs
  rw [List.filter_eq_self.mpr (fun _ _ => rfl), List.filter_eq_self.mpr (fun _ _ => rfl)] at h
  exact h
section
variable {K : PySem.W.Frag} {σ : L2.St} {Q : VK} {te : TE} {tt : TT} {a : Addr} {ns : List Int} {j : Nat} {H0 : Hp}
/-- a comprehension over numbers -/
theorem LcL.ints (p : Int → Bool) (f : Int → V) (hn : ns.length ≤ sizeLine) (ha : H0 a = some (.lst (ns.map V.int)))
    (step : ∀ n H (k : Hp → Prop) (k2 : VK), n ∈ ns → Kept H0 H → (∀ H4, Kept H H4 → p n = true → k2 (f n) H4) → (∀ H4, Kept H H4 → p n = false → k H4) → tt ((wipe σ [j]).set j (some (.int n))) H fun b H3 => if b = true then te ((wipe σ [j]).set j (some (.int n))) H3 k2 else k H3)
    (fin : ∀ D H, H0 D = none → Kept H0 H → H D = some (.lst ((ns.filter p).map f)) → Q (.ref D) H) : LcL K (gName j) tt te [j] σ Q (.ref a) H0 := by
  refine LcL.run (fun i => p (ns.getD i 0)) (fun i => f (ns.getD i 0)) (by rw [List.length_map]; exact hn) ha (fun i x H k k2 hx kp h1 h2 => ?_) fun D H hD kp h => fin D H hD kp ?_
  · obtain ⟨n, rfl, hn⟩ := map_int hx
    have e : ns.getD i 0 = n := by rw [List.getD_eq_getElem?_getD, hn] <;> rfl
    refine step n H k k2 (List.mem_of_getElem? hn) kp (fun H4 k4 hp => ?_) fun H4 k4 hp => ?_
    · have q := h1 H4 k4 (by rw [e]; exact hp)
      rw [e] at q
      exact q
    · exact h2 H4 k4 (by rw [e]; exact hp)
  · rw [h, List.length_map]
    exact congrArg (fun z => some (HO.lst z)) (range_filter 0 p f ns)
theorem LcT.ints (p : Int → Bool) (f : Int → V) (hn : ns.length ≤ sizeLine) (ha : H0 a = some (.tup (ns.map V.int)))
    (step : ∀ n H (k : Hp → Prop) (k2 : VK), n ∈ ns → Kept H0 H → (∀ H4, Kept H H4 → p n = true → k2 (f n) H4) → (∀ H4, Kept H H4 → p n = false → k H4) → tt ((wipe σ [j]).set j (some (.int n))) H fun b H3 => if b = true then te ((wipe σ [j]).set j (some (.int n))) H3 k2 else k H3)
    (fin : ∀ D H, H0 D = none → Kept H0 H → H D = some (.lst ((ns.filter p).map f)) → Q (.ref D) H) : LcT K (gName j) tt te [j] σ Q (.ref a) H0 := by
  refine LcT.run (fun i => p (ns.getD i 0)) (fun i => f (ns.getD i 0)) (by rw [List.length_map]; exact hn) ha (fun i x H k k2 hx kp h1 h2 => ?_) fun D H hD kp h => fin D H hD kp ?_
  · obtain ⟨n, rfl, hn⟩ := map_int hx
    have e : ns.getD i 0 = n := by rw [List.getD_eq_getElem?_getD, hn] <;> rfl
    refine step n H k k2 (List.mem_of_getElem? hn) kp (fun H4 k4 hp => ?_) fun H4 k4 hp => ?_
    · have q := h1 H4 k4 (by rw [e]; exact hp)
      rw [e] at q
      exact q
    · exact h2 H4 k4 (by rw [e]; exact hp)
  · rw [h, List.length_map]
    exact congrArg (fun z => some (HO.lst z)) (range_filter 0 p f ns)
end
section
variable {K : PySem.W.Frag} {σ : L2.St} {te : TE} {J : It}
theorem tupUpd {H : Hp} {D q : Addr} {xs ys : List V} {o : HO} (hD : H D = some (.lst xs)) (h : H q = some (.tup ys)) : upd H D o q = some (.tup ys) := by
  rw [upd_ne (fun z => by
    rw [z, hD] at h
    cases h)]
  exact h
/-- a comprehension whose elements are tuples of told contents -/
theorem LcJ.tups {n : Nat} {xv : Nat → V} {j : Nat} {H0 : Hp} {Q : VK} (T : Nat → List V) (hn : n ≤ sizeLine) (hgo : ∀ i H, i < n → Kept H0 H → J.go i H) (hy : ∀ i H x H', i < n → Kept H0 H → J.yld i H x H' → H' = H ∧ x = xv i) (hstop : ∀ H, Kept H0 H → J.stop n H)
    (step : ∀ i H (k2 : VK), i < n → Kept H0 H → (∀ H4 q, Kept H H4 → H4 q = some (.tup (T i)) → k2 (.ref q) H4) → te ((wipe σ [j]).set j (some (xv i))) H k2)
    (fin : ∀ D H (qs : List Addr), H0 D = none → Kept H0 H → H D = some (.lst (qs.map V.ref)) → qs.length = n → (∀ i q, qs[i]? = some q → H q = some (.tup (T i))) → Q (.ref D) H) : LcJ (gName j) tYes te [j] σ Q J H0 := by
  intro D hD
  refine c_walk (xv := xv) (fun i H => Kept H0 H ∧ ∃ qs : List Addr, H D = some (.lst (qs.map V.ref)) ∧ qs.length = i ∧ ∀ i q, qs[i]? = some q → H q = some (.tup (T i))) ⟨Kept.new hD, [], upd_same, rfl, fun i q h => by simp at h⟩ (fun i H h s => hgo i H h s.1) (fun i H x H' h s => hy i H x H' h s.1) (fun H s => hstop H s.1) (fun i H hi s => ?_) fun H s => ?_
  · obtain ⟨kp, qs, h1, h2, h3⟩ := s
    refine ⟨wipe_one, w_yes (if_t rfl ?_)⟩
    refine step i H _ hi kp fun H4 q k4 hq => ⟨_, k4.lst h1, ?_, Kept.mut (kp.trans k4) hD, qs ++ [q], ?_, ?_, fun m r hr => ?_⟩
    · rw [List.length_map, h2]
      omega
    · rw [List.map_append]
      exact upd_same
    · rw [List.length_append, h2] <;> rfl
    · by_cases hm : m < qs.length
      · rw [List.getElem?_append_left hm] at hr
        exact tupUpd (k4.lst h1) (k4.tup (h3 m r hr))
      · rw [List.getElem?_append_right (by omega)] at hr
        cases z : m - qs.length with
        | zero =>
          rw [z] at hr
          cases hr
          have e : m = i := by omega
          rw [e]
          exact tupUpd (k4.lst h1) hq
        | succ m =>
          rw [z] at hr
          simp at hr
  · obtain ⟨kp, qs, h1, h2, h3⟩ := s
    exact fin D H qs hD kp h1 h2 h3
theorem LcL.tups {a : Addr} {xs : List V} {j : Nat} {H0 : Hp} {Q : VK} (T : Nat → List V) (hn : xs.length ≤ sizeLine) (ha : H0 a = some (.lst xs))
    (step : ∀ i x H (k2 : VK), xs[i]? = some x → Kept H0 H → (∀ H4 q, Kept H H4 → H4 q = some (.tup (T i)) → k2 (.ref q) H4) → te ((wipe σ [j]).set j (some x)) H k2)
    (fin : ∀ D H (qs : List Addr), H0 D = none → Kept H0 H → H D = some (.lst (qs.map V.ref)) → qs.length = xs.length → (∀ i q, qs[i]? = some q → H q = some (.tup (T i))) → Q (.ref D) H) : LcL K (gName j) tYes te [j] σ Q (.ref a) H0 := by
  refine ⟨a, rfl, ⟨_, SqL.of ha⟩, LcJ.tups (xv := fun i => xs.getD i .non) T hn (fun i H h kp => ⟨xs, xs[i], SqL.of (kp.lst ha), List.getElem?_eq_getElem h⟩) (fun i H x H' h kp q => ?_) (fun H kp => ⟨xs, SqL.of (kp.lst ha), Nat.le_refl _⟩) (fun i H k2 h kp => step i _ H k2 (by rw [List.getD_eq_getElem?_getD, List.getElem?_eq_getElem h] <;> rfl) kp) fin⟩
  obtain ⟨e, q⟩ := q
  subst e
  refine ⟨rfl, ?_⟩
  rw [List.getD_eq_getElem?_getD, q xs (SqL.of (kp.lst ha))] <;> rfl
theorem LcT.tups {a : Addr} {xs : List V} {j : Nat} {H0 : Hp} {Q : VK} (T : Nat → List V) (hn : xs.length ≤ sizeLine) (ha : H0 a = some (.tup xs))
    (step : ∀ i x H (k2 : VK), xs[i]? = some x → Kept H0 H → (∀ H4 q, Kept H H4 → H4 q = some (.tup (T i)) → k2 (.ref q) H4) → te ((wipe σ [j]).set j (some x)) H k2)
    (fin : ∀ D H (qs : List Addr), H0 D = none → Kept H0 H → H D = some (.lst (qs.map V.ref)) → qs.length = xs.length → (∀ i q, qs[i]? = some q → H q = some (.tup (T i))) → Q (.ref D) H) : LcT K (gName j) tYes te [j] σ Q (.ref a) H0 := by
  refine ⟨a, rfl, ⟨_, SqT.of ha⟩, LcJ.tups (xv := fun i => xs.getD i .non) T hn (fun i H h kp => ⟨xs, xs[i], SqT.of (kp.tup ha), List.getElem?_eq_getElem h⟩) (fun i H x H' h kp q => ?_) (fun H kp => ⟨xs, SqT.of (kp.tup ha), Nat.le_refl _⟩) (fun i H k2 h kp => step i _ H k2 (by rw [List.getD_eq_getElem?_getD, List.getElem?_eq_getElem h] <;> rfl) kp) fin⟩
  obtain ⟨e, q⟩ := q
  subst e
  refine ⟨rfl, ?_⟩
  rw [List.getD_eq_getElem?_getD, q xs (SqT.of (kp.tup ha))] <;> rfl
end
theorem pg_tupK {X : Cx} {K : PySem.W.Frag} {pos : Pos} (hK : X.K = K) {es : List Expr} {k : Nat} {t : TGs} {n : Nat} (hc : X.calm = true) (h : PGs X es t)
    (hn : (assignEach es X.env).length = n := by rfl) (hst : (assignEach es X.env).findIdx? (·.1) = none := by rfl) : PG X (.Tuple es k pos) (gTup K n t) := by
  subst hK
  exact pg_tup hc h hn hst
end Ky

namespace Ky
open PySem PySem.Spec PyProof.Rows L2
/-! ### steps for the law's walk -/
theorem c_rangeU {lo : Int} {n : Nat} {Body : V → Hp → (Hp → Prop) → Prop} {Qd : Hp → Prop} {H0 : Hp} (Pv : Nat → Hp → Prop) (h0 : Pv 0 H0) (step : ∀ i H, i < n → Pv i H → Body (.int (lo + i)) H (Pv (i + 1))) (fin : ∀ H, Pv n H → Qd H) :
    ∃ W : Nat → Nat → Hp → Prop, (∃ m, W 0 m H0) ∧ ∀ i m H, W i m H → ((Itr lo n).stop i H ∧ Qd H) ∨ ((Itr lo n).go i H ∧ ∃ Nx : Hp → Prop, (∀ H', Nx H' → ∃ m', m' < m ∧ W (i + 1) m' H') ∧ ∀ x H', (Itr lo n).yld i H x H' → Body x H' Nx) :=
  c_walk (xv := fun i => .int (lo + i)) Pv h0 (fun i H h _ => h) (fun i H x H' _ _ h => h) (fun H _ => Nat.le_refl n) step fin
theorem cut_to (xs : List V) (j : Nat) (h : j ≤ xs.length) : cutV xs none (some (j : Int)) = xs.take j := by
  unfold cutV
  rw [HT.sIx_none, HT.sIx_nat, Nat.min_eq_left h, Nat.sub_zero]
  rfl
theorem cut_of (xs : List V) (j : Nat) (h : j ≤ xs.length) : cutV xs (some (j : Int)) none = xs.drop j := by
  unfold cutV
  rw [HT.sIx_none, HT.sIx_nat, Nat.min_eq_left h]
  exact List.take_of_length_le (by rw [List.length_drop]; exact Nat.le_refl _)
theorem any_ints (n : Int) (ls : List Int) : ((ls.map PyData.int).any fun z => PyData.eqv z (.int n)) = decide (n ∈ ls) := by
  rw [List.any_map, Bool.eq_iff_iff, List.any_eq_true, decide_eq_true_eq]
  constructor
  · rintro ⟨y, hy, e⟩
    have e : PyData.eqv (.int y) (.int n) = true := e
    have e : y = n := by simpa [PyData.eqv] using e
    rw [← e]
    exact hy
  · intro h
    refine ⟨n, h, ?_⟩
    show PyData.eqv (.int n) (.int n) = true
    simp [PyData.eqv]
section
variable {K : PySem.W.Frag} {H : Hp} {Q : VK} {D s a b : Addr} {n : Int} {xs ys : List Int}
theorem dl_ints (h : H b = some (.lst (xs.map V.int))) : Dp K H (.ref b) (.list (xs.map PyData.int)) := .lst (SqL.of h) (dpAll_ints xs)
theorem sh_int (n : Int) : SeqAt.shaped (.int n) = true := by
  unfold SeqAt.shaped
  simp only [PyData.canLay0, PyData.depth, Bool.true_and]
  rfl
theorem sh_none : SeqAt.shaped .none = true := by
  unfold SeqAt.shaped
  simp only [PyData.canLay0, PyData.depth, Bool.true_and]
  rfl
theorem w_ninLI (hD : H D = some (.lst (xs.map V.int))) (q : Q (.bl (decide (n ∉ xs))) H) : rNotInD K (.int n) (.ref D) H Q :=
  ⟨_, _, .int n, dl_ints hD, sh_int n, shLi xs, by rw [any_ints]; rw [decide_not] at q; exact q⟩
theorem w_neLL (ha : H a = some (.lst (xs.map V.int))) (hb : H b = some (.lst (ys.map V.int))) (q : Q (.bl (!decide (xs = ys))) H) : rNeD K (.ref a) (.ref b) H Q := by
  refine ⟨_, _, dl_ints ha, dl_ints hb, shLi xs, shLi ys, ?_⟩
  have e : PyData.eqv (.list (xs.map PyData.int)) (.list (ys.map PyData.int)) = decide (xs = ys) := by
    simp only [PyData.eqv]
    exact eqvAll_ints xs ys
  rw [e]
  exact q
theorem w_neTT (ha : H a = some (.tup (xs.map V.int))) (hb : H b = some (.tup (ys.map V.int))) (q : Q (.bl (!decide (xs = ys))) H) : rNeD K (.ref a) (.ref b) H Q :=
  ⟨_, _, dp_ints ha, dp_ints hb, shT_ints xs, shT_ints ys, by rw [eqv_ints]; exact q⟩
theorem w_neNN (q : Q (.bl false) H) : rNeD K .non .non H Q := ⟨_, _, .non, .non, sh_none, sh_none, by rw [show PyData.eqv .none .none = true by simp [PyData.eqv]]; exact q⟩
/-- keys, in a tuple of pairs -/
def KeysAt (H : Hp) (ps : List Addr) (ls : List Int) : Prop := ps.length = ls.length ∧ ∀ (i : Nat) (q : Addr) (n : Int), ps[i]? = some q → ls[i]? = some n → H q = some (.tup (keyV n))
theorem dp_keys {ps : List Addr} (hp : KeysAt H ps xs) (h : H a = some (.tup (ps.map V.ref))) : Dp K H (.ref a) (ckD xs) := by
  refine .tup (SqT.of h) (dpAll_of (by rw [List.length_map, List.length_map, hp.1]) fun i x d hx hd => ?_)
  rw [List.getElem?_map] at hx hd
  obtain ⟨q, hq, rfl⟩ := Option.map_eq_some_iff.mp hx
  obtain ⟨n, hn, rfl⟩ := Option.map_eq_some_iff.mp hd
  exact dp_key (hp.2 i q n hq hn)
end
theorem canLay_keys : ∀ ls : List Int, PyData.canLayAll0 (ls.map keyD) = true
  | [] => by simp [PyData.canLayAll0]
  | x :: xs => by
    rw [List.map_cons, PyData.canLayAll0, canLay_keys xs]
    simp [keyD, PyData.canLay0, PyData.canLayAll0]
theorem depth_keys : ∀ ls : List Int, PyData.depthAll (ls.map keyD) ≤ 2
  | [] => by simp [PyData.depthAll]
  | x :: xs => by
    rw [List.map_cons, PyData.depthAll]
    have h1 := depth_keys xs
    have h2 : (keyD x).depth ≤ 2 := by
      simp [keyD, PyData.depth, PyData.depthAll]
    omega
theorem sh_keys (ls : List Int) : SeqAt.shaped (ckD ls) = true := by
  have h1 := depth_keys ls
  have h2 : PyData.depth (ckD ls) ≤ 64 := by
    simp only [ckD, PyData.depth]
    omega
  show (PyData.canLay0 (ckD ls) && decide (PyData.depth (ckD ls) ≤ 64)) = true
  rw [Bool.and_eq_true]
  exact ⟨by simp only [ckD, PyData.canLay0]; exact canLay_keys ls, decide_eq_true h2⟩
theorem shT_rows (ds : List (List Int)) : SeqAt.shaped (.tuple (ds.map rowD)) = true := by
  have h1 := depth_rows ds
  have h2 : PyData.depth (.tuple (ds.map rowD)) ≤ 64 := by
    simp only [PyData.depth]
    omega
  show (PyData.canLay0 (.tuple (ds.map rowD)) && decide (PyData.depth (.tuple (ds.map rowD)) ≤ 64)) = true
  rw [Bool.and_eq_true]
  exact ⟨by simp only [PyData.canLay0]; exact canLay_rows ds, decide_eq_true h2⟩
theorem eqvAll_rows : ∀ xs ys : List (List Int), PyData.eqvAll (xs.map rowD) (ys.map rowD) = decide (xs = ys)
  | [], [] => by simp [PyData.eqvAll]
  | [], y :: ys => by simp [PyData.eqvAll]
  | x :: xs, [] => by simp [PyData.eqvAll]
  | x :: xs, y :: ys => by
    rw [List.map_cons, List.map_cons, PyData.eqvAll, eqvAll_rows xs ys]
    have e : PyData.eqv (rowD x) (rowD y) = decide (x = y) := eqv_ints x y
    rw [e]
    by_cases h : x = y <;> by_cases h2 : xs = ys <;> simp [h, h2]
section
variable {K : PySem.W.Frag} {H : Hp} {Q : VK} {a b : Addr} {n : Int} {xs ys : List Int} {cs ds : List (List Int)} {ps qs : List Addr}
theorem w_neKK {xs ys : List Int} (h1 : KeysAt H ps xs) (ha : H a = some (.tup (ps.map V.ref))) (h2 : KeysAt H qs ys) (hb : H b = some (.tup (qs.map V.ref))) (q : Q (.bl (!decide (xs = ys))) H) : rNeD K (.ref a) (.ref b) H Q := by
  refine ⟨_, _, dp_keys h1 ha, dp_keys h2 hb, sh_keys xs, sh_keys ys, ?_⟩
  have e : PyData.eqv (ckD xs) (ckD ys) = decide (xs = ys) := by
    simp only [ckD, PyData.eqv]
    exact key_eqv xs ys
  rw [e]
  exact q
theorem w_neK {n m : Int} (ha : H a = some (.tup (keyV n))) (hb : H b = some (.tup (keyV m))) (q : Q (.bl (!decide (n = m))) H) : rNeD K (.ref a) (.ref b) H Q := by
  refine ⟨_, _, dp_key ha, dp_key hb, ?_, ?_, ?_⟩
  · exact shT_ints [absI n, sgI n]
  · exact shT_ints [absI m, sgI m]
  · have e := key_eqv [n] [m]
    simp only [List.map_cons, List.map_nil, PyData.eqvAll, Bool.and_true, List.cons.injEq, and_true] at e
    rw [e]
    exact q
theorem dp_rows (h1 : ClsAt H ps cs) (ha : H a = some (.tup (ps.map V.ref))) : Dp K H (.ref a) (.tuple (cs.map rowD)) := by
  refine .tup (SqT.of ha) (dpAll_of (by rw [List.length_map, List.length_map, h1.1]) fun i x d hx hd => ?_)
  rw [List.getElem?_map] at hx hd
  obtain ⟨b, hb, rfl⟩ := Option.map_eq_some_iff.mp hx
  obtain ⟨c, hc, rfl⟩ := Option.map_eq_some_iff.mp hd
  exact dp_ints (h1.2 i b c hb hc)
theorem w_neCC (h1 : ClsAt H ps cs) (ha : H a = some (.tup (ps.map V.ref))) (h2 : ClsAt H qs ds) (hb : H b = some (.tup (qs.map V.ref))) (q : Q (.bl (!decide (cs = ds))) H) : rNeD K (.ref a) (.ref b) H Q := by
  refine ⟨_, _, dp_rows h1 ha, dp_rows h2 hb, shT_rows cs, shT_rows ds, ?_⟩
  have e : PyData.eqv (.tuple (cs.map rowD)) (.tuple (ds.map rowD)) = decide (cs = ds) := by
    simp only [PyData.eqv]
    exact eqvAll_rows cs ds
  rw [e]
  exact q
end
theorem filt_one {α : Type} (p : α → Bool) (xs : List α) (j : Nat) (x : α) (hx : xs[j]? = some x) : (xs.take (j + 1)).filter p = (xs.take j).filter p ++ if p x = true then [x] else [] := by
  rw [List.take_add_one, hx, List.filter_append]
  by_cases h : p x = true
  · rw [if_pos h]
    show _ ++ List.filter p [x] = _
    rw [List.filter_cons_of_pos h] <;> rfl
  · rw [if_neg h]
    show _ ++ List.filter p [x] = _
    rw [List.filter_cons_of_neg h] <;> rfl
theorem bothS_filter (ls : List Int) : (!decide (ls.filter (fun x => decide (-x ∈ ls)) = [])) = bothS ls := by
  unfold bothS
  rw [List.length_map, range_any 0 (fun x => decide (-x ∈ ls)) ls]
  cases e : ls.any fun x => decide (-x ∈ ls) with
  | true =>
    obtain ⟨x, h1, h2⟩ := List.any_eq_true.mp e
    have hne : ls.filter (fun x => decide (-x ∈ ls)) ≠ [] := List.ne_nil_of_mem (List.mem_filter.mpr ⟨h1, h2⟩)
    rw [decide_eq_false hne] <;> rfl
  | false =>
    have hn : ls.filter (fun x => decide (-x ∈ ls)) = [] := List.filter_eq_nil_iff.mpr fun x hx hy => by
      rw [List.any_eq_false] at e
      exact e x hx hy
    rw [decide_eq_true hn] <;> rfl
theorem dd_len_le (ls : List Int) : (dd ls).length ≤ ls.length := len_dd ls
section
variable {K : PySem.W.Frag} {H : Hp} {Q : VK} {D s a b : Addr} {n : Int} {xs ys : List Int} {cs ds : List (List Int)} {ps qs : List Addr}
theorem w_inL (h : H b = some (.lst (xs.map V.int))) (q : Q (.bl (decide (n ∈ xs))) H) : rIn K false (.int n) (.ref b) H Q := ⟨b, _, rfl, .inl (SqL.of h), rfl, flat_ints xs, by rw [inV_ints, if_neg Bool.false_ne_true]; exact q⟩
theorem w_ninLn (h : H b = some (.lst (xs.map V.int))) (q : Q (.bl (decide (n ∉ xs))) H) : rIn K true (.int n) (.ref b) H Q := ⟨b, _, rfl, .inl (SqL.of h), rfl, flat_ints xs, by rw [inV_ints, if_pos rfl]; rw [decide_not] at q; exact q⟩
theorem w_sLL (ha : H a = some (.lst (xs.map V.int))) (hb : H b = some (.lst (xs.map V.int))) (q : Q (.bl false) H) : rNeD K (.ref a) (.ref b) H Q := w_neLL ha hb (by rw [decide_eq_true rfl]; exact q)
theorem w_sTT (ha : H a = some (.tup (xs.map V.int))) (hb : H b = some (.tup (xs.map V.int))) (q : Q (.bl false) H) : rNeD K (.ref a) (.ref b) H Q := w_neTT ha hb (by rw [decide_eq_true rfl]; exact q)
theorem w_sKK (h1 : KeysAt H ps xs) (ha : H a = some (.tup (ps.map V.ref))) (h2 : KeysAt H qs xs) (hb : H b = some (.tup (qs.map V.ref))) (q : Q (.bl false) H) : rNeD K (.ref a) (.ref b) H Q := w_neKK h1 ha h2 hb (by rw [decide_eq_true rfl]; exact q)
theorem w_sK (ha : H a = some (.tup (keyV n))) (hb : H b = some (.tup (keyV n))) (q : Q (.bl false) H) : rNeD K (.ref a) (.ref b) H Q := w_neK ha hb (by rw [decide_eq_true rfl]; exact q)
theorem w_sCC (h1 : ClsAt H ps cs) (ha : H a = some (.tup (ps.map V.ref))) (h2 : ClsAt H qs cs) (hb : H b = some (.tup (qs.map V.ref))) (q : Q (.bl false) H) : rNeD K (.ref a) (.ref b) H Q := w_neCC h1 ha h2 hb (by rw [decide_eq_true rfl]; exact q)
end
theorem ClsAt.keptC {d c : Addr} {H H' : Hp} {bs : List Addr} {cs : List (List Int)} (h : ClsAt H bs cs) (k : KeptC d c H H') (hd : DrwC d c H) : ClsAt H' bs cs := ⟨h.1, fun i b x h1 h2 => k.tup hd (h.2 i b x h1 h2)⟩
theorem clsAt_snoc {H : Hp} {bs : List Addr} {cs : List (List Int)} {b : Addr} {x : List Int} (h : ClsAt H bs cs) (hb : H b = some (.tup (x.map V.int))) : ClsAt H (bs ++ [b]) (cs ++ [x]) := by
  refine ⟨by rw [List.length_append, List.length_append, h.1] <;> rfl, fun j q d hq hd => ?_⟩
  by_cases hj : j < bs.length
  · rw [List.getElem?_append_left hj] at hq
    rw [List.getElem?_append_left (by rw [← h.1]; exact hj)] at hd
    exact h.2 j q d hq hd
  · rw [List.getElem?_append_right (by omega)] at hq
    rw [List.getElem?_append_right (by rw [← h.1]; omega)] at hd
    rw [← h.1] at hd
    cases z : j - bs.length with
    | zero =>
      rw [z] at hq hd
      cases hq
      cases hd
      exact hb
    | succ m =>
      rw [z] at hq
      simp at hq
theorem clsAt_pick {H : Hp} {bs : List Addr} {cs : List (List Int)} (h : ClsAt H bs cs) {L : List Nat} (hL : ∀ i ∈ L, i < cs.length) : ClsAt H (L.map fun i => bs.getD i 0) (L.map fun i => cs.getD i []) := by
  refine ⟨by rw [List.length_map, List.length_map], fun j q d hq hd => ?_⟩
  rw [List.getElem?_map] at hq hd
  obtain ⟨i, hi, rfl⟩ := Option.map_eq_some_iff.mp hq
  rw [hi] at hd
  cases hd
  have hlt := hL i (List.mem_of_getElem? hi)
  refine h.2 i _ _ (?_ : bs[i]? = some (bs.getD i 0)) (?_ : cs[i]? = some (cs.getD i []))
  · rw [List.getD_eq_getElem?_getD, List.getElem?_eq_getElem (by rw [h.1]; exact hlt)] <;> rfl
  · rw [List.getD_eq_getElem?_getD, List.getElem?_eq_getElem hlt] <;> rfl
/-- the places that are first -/
def onceIx {α : Type} [DecidableEq α] (d : α) (xs : List α) : List Nat := (List.range xs.length).filter fun i => decide (xs.getD i d ∉ xs.take i)
theorem once_all {α : Type} [DecidableEq α] (d : α) (xs : List α) : ((onceIx d xs).map fun i => xs.getD i d).Nodup ∧ ∀ x, x ∈ ((onceIx d xs).map fun i => xs.getD i d) ↔ x ∈ xs := by
  have h : ∀ m, m ≤ xs.length → ((((List.range m).filter fun i => decide (xs.getD i d ∉ xs.take i))).map fun i => xs.getD i d).Nodup ∧ ∀ x, x ∈ ((((List.range m).filter fun i => decide (xs.getD i d ∉ xs.take i))).map fun i => xs.getD i d) ↔ x ∈ xs.take m := by
    intro m
    induction m with
    | zero => intro _; exact ⟨List.nodup_nil, fun x => by simp⟩
    | succ m ih =>
      intro hm
      obtain ⟨i1, i2⟩ := ih (by omega)
      have hx : xs[m]? = some xs[m] := List.getElem?_eq_getElem hm
      have e : xs.getD m d = xs[m] := by rw [List.getD_eq_getElem?_getD, hx] <;> rfl
      obtain ⟨s1, s2⟩ := once_step hx i1 i2
      rw [List.range_succ, List.filter_append, List.map_append]
      by_cases hp : xs[m] ∉ xs.take m
      · rw [List.filter_cons_of_pos (by rw [e]; exact decide_eq_true hp), List.filter_nil, List.map_cons, List.map_nil, e]
        exact s1 hp
      · rw [List.filter_cons_of_neg (by rw [e, decide_eq_false hp]; exact Bool.false_ne_true), List.filter_nil, List.map_nil, List.append_nil]
        exact ⟨i1, s2 (Classical.not_not.mp hp)⟩
  obtain ⟨h1, h2⟩ := h _ (Nat.le_refl _)
  rw [List.take_length] at h2
  exact ⟨h1, h2⟩
theorem onceIx_len {α : Type} [DecidableEq α] (d : α) (xs : List α) : (onceIx d xs).length ≤ xs.length := by
  have h := List.length_filter_le (fun i => decide (xs.getD i d ∉ xs.take i)) (List.range xs.length)
  rw [List.length_range] at h
  exact h
theorem onceIx_lt {α : Type} [DecidableEq α] (d : α) (xs : List α) : ∀ i ∈ onceIx d xs, i < xs.length := fun i hi => List.mem_range.mp (List.mem_filter.mp hi).1
/-- a clause that the law makes -/
def GoodC (x : List Int) : Prop := ∃ ls : List Int, ls.Nodup ∧ noBoth ls ∧ (∀ n ∈ ls, isLit n = true) ∧ ls.length ≤ 4 ∧ x = srtBy keyD ls
theorem GoodC.clause {x : List Int} (h : GoodC x) : isClauseF x = true := by
  obtain ⟨ls, h1, h2, h3, _, rfl⟩ := h
  exact isClauseF_srt h1 h2 h3
theorem GoodC.len {x : List Int} (h : GoodC x) : x.length ≤ 4 := by
  obtain ⟨ls, _, _, _, h4, rfl⟩ := h
  rw [(srtBy_perm keyD ls).length_eq]
  exact h4
theorem GoodC.nob {x : List Int} (h : GoodC x) : noBoth x := by
  obtain ⟨ls, _, h2, _, _, rfl⟩ := h
  exact noBoth_srt h2
theorem GoodC.asc {x : List Int} (h : GoodC x) : x.Pairwise fun a b => absI a < absI b := by
  obtain ⟨ls, h1, h2, _, _, rfl⟩ := h
  exact clause_asc h1 h2
theorem GoodC.lit {x : List Int} (h : GoodC x) : ∀ n ∈ x, isLit n = true := by
  obtain ⟨ls, _, _, h3, _, rfl⟩ := h
  exact fun n hn => h3 n (mem_srtBy.mp hn)
theorem GoodC.back {x : List Int} (h : GoodC x) : isClauseF x.reverse = decide (x.length < 2) := by
  by_cases hl : x.length < 2
  · rw [decide_eq_true hl]
    have e : x.reverse = x := by
      match x, hl with
      | [], _ => rfl
      | [a], _ => rfl
      | a :: b :: t, hl => exact absurd hl (by simp only [List.length_cons]; omega)
    rw [e]
    exact h.clause
  · rw [decide_eq_false hl]
    exact isClauseF_rev h.asc (by omega)
theorem back_range (x : List Int) : (List.range x.length).map (fun i => x.getD (x.length - 1 - i) 0) = x.reverse := by
  refine List.ext_getElem (by simp) fun i h1 h2 => ?_
  rw [List.getElem_map, List.getElem_range, List.getElem_reverse]
  have h3 : i < x.length := by simpa using h2
  rw [List.getD_eq_getElem?_getD, List.getElem?_eq_getElem (by omega)] <;> rfl
theorem lit_small {n : Int} (h : isLit n = true) : n.natAbs < 2 ^ 60 := by
  unfold isLit isVar absI at h
  rw [Bool.and_eq_true, decide_eq_true_eq, decide_eq_true_eq] at h
  split at h <;> omega
theorem srt_ints {ns : List Int} (h : ns.Nodup) : (srtBy PyData.int ns).Pairwise (· < ·) := by
  have h1 := srtBy_pair PyData.int ns
  have h2 : (srtBy PyData.int ns).Nodup := (srtBy_perm PyData.int ns).nodup_iff.mpr h
  refine List.pairwise_iff_getElem.mpr fun i j hi hj hij => ?_
  have a := List.pairwise_iff_getElem.mp h1 i j hi hj hij
  have b := List.pairwise_iff_getElem.mp h2 i j hi hj hij
  have a : (!PySem.W.dataLt (.int (srtBy PyData.int ns)[j]) (.int (srtBy PyData.int ns)[i])) = true := a
  rw [PySem.W.dataLt_int] at a
  have a : ¬ (srtBy PyData.int ns)[j] < (srtBy PyData.int ns)[i] := by simpa using a
  omega
theorem clsAt_zipOf {H : Hp} {bs : List Addr} {cs : List (List Int)} (zs : List (Addr × List Int)) (hb : zs.map (·.1) = bs) (hc : zs.map (·.2) = cs) (h : ∀ p ∈ zs, H p.1 = some (.tup (p.2.map V.int))) : ClsAt H bs cs := by
  subst hb hc
  exact clsAt_of h
theorem ClsAt.fst {H : Hp} {bs : List Addr} {cs : List (List Int)} (h : ClsAt H bs cs) : (bs.zip cs).map (·.1) = bs := List.map_fst_zip (by rw [h.1]; exact Nat.le_refl _)
theorem ClsAt.snd {H : Hp} {bs : List Addr} {cs : List (List Int)} (h : ClsAt H bs cs) : (bs.zip cs).map (·.2) = cs := List.map_snd_zip (by rw [h.1]; exact Nat.le_refl _)
theorem ClsAt.take {H : Hp} {bs : List Addr} {cs : List (List Int)} (h : ClsAt H bs cs) (n : Nat) : ClsAt H (bs.take n) (cs.take n) :=
  clsAt_zipOf ((bs.zip cs).take n) (by rw [List.map_take, h.fst]) (by rw [List.map_take, h.snd]) fun p hp => clsAt_zip h p (List.mem_of_mem_take hp)
theorem ClsAt.drop {H : Hp} {bs : List Addr} {cs : List (List Int)} (h : ClsAt H bs cs) (n : Nat) : ClsAt H (bs.drop n) (cs.drop n) :=
  clsAt_zipOf ((bs.zip cs).drop n) (by rw [List.map_drop, h.fst]) (by rw [List.map_drop, h.snd]) fun p hp => clsAt_zip h p (List.mem_of_mem_drop hp)
theorem ClsAt.app {H : Hp} {bs bs2 : List Addr} {cs cs2 : List (List Int)} (h : ClsAt H bs cs) (h2 : ClsAt H bs2 cs2) : ClsAt H (bs ++ bs2) (cs ++ cs2) :=
  clsAt_zipOf (bs.zip cs ++ bs2.zip cs2) (by rw [List.map_append, h.fst, h2.fst]) (by rw [List.map_append, h.snd, h2.snd]) fun p hp => (List.mem_append.mp hp).elim (clsAt_zip h p) (clsAt_zip h2 p)
theorem flat_len : ∀ {cs : List (List Int)} {n : Nat}, (∀ c ∈ cs, c.length ≤ n) → cs.flatten.length ≤ n * cs.length
  | [], n, _ => by simp
  | c :: cs, n, h => by
    rw [List.flatten_cons, List.length_append, List.length_cons, Nat.mul_succ]
    have h1 := h c List.mem_cons_self
    have h2 := flat_len (cs := cs) fun d hd => h d (List.mem_cons_of_mem _ hd)
    omega
theorem absAll_app (cs ds : List (List Int)) : absAll (cs ++ ds) = absAll cs ++ absAll ds := by
  unfold absAll
  rw [List.flatten_append, List.map_append]
theorem absAll_one (c : List Int) : absAll [c] = c.map absI := by
  unfold absAll
  simp
theorem onceC_eq (cs : List (List Int)) : (List.range cs.length).filter (fun j => decide (cs.getD j [] ∉ cs.take j)) = onceIx [] cs := by
  unfold onceIx
  congr 1
  funext j
  exact decide_eq_decide.mpr Iff.rfl
theorem allAlike_ints (ns : List Int) : PySem.W.AllAlike (ns.map PyData.int) := by
  intro d hd d' hd'
  obtain ⟨a, _, rfl⟩ := List.mem_map.mp hd
  obtain ⟨b, _, rfl⟩ := List.mem_map.mp hd'
  simp [PySem.W.alike]
theorem srt_intsS (ns : List Int) : Srt (ns.map PyData.int) := .inr fun d hd => by
  obtain ⟨a, _, rfl⟩ := List.mem_map.mp hd
  exact ⟨by simp, by simp⟩
theorem depth_intsS (ns : List Int) : ∀ d ∈ ns.map PyData.int, d.depth ≤ 60 := fun d hd => by
  obtain ⟨a, _, rfl⟩ := List.mem_map.mp hd
  simp [PyData.depth]
theorem absAll_small {cs : List (List Int)} (h : ∀ c ∈ cs, ∀ n ∈ c, isLit n = true) : ∀ k ∈ absAll cs, k.natAbs < 2 ^ 60 := fun k hk => by
  unfold absAll at hk
  obtain ⟨n, hn, rfl⟩ := List.mem_map.mp hk
  obtain ⟨c, hc, hn⟩ := List.mem_flatten.mp hn
  have := lit_small (h c hc n hn)
  unfold absI
  split <;> omega
end Ky

namespace Ky
open PySem PySem.Spec PyProof.Rows L2
local macro_rules | `(tactic| walk_at "rd") => `(tactic| repeat (first
  | with_reducible refine w_for1 ?_
  | with_reducible refine w_for2 ?_
  | with_reducible refine w_forL ?_
  | with_reducible refine w_forT ?_
  | with_reducible refine w_lc1 ?_
  | with_reducible refine w_lcL ?_
  | with_reducible refine w_lcT ?_
  | with_reducible refine w_seq ?_
  | with_reducible refine w_asg ?_
  | with_reducible refine w_ret ?_
  | with_reducible refine w_drop ?_
  | with_reducible refine w_ifs ?_
  | ((with_reducible refine' w_var ?hh ?_); (case hh => exact rfl))
  | with_reducible refine w_c ?_
  | with_reducible refine w_op ?_
  | with_reducible refine w_un ?_
  | with_reducible refine w_I0 ?_
  | with_reducible refine w_U ?_
  | with_reducible refine w_nil ?_
  | with_reducible refine w_cons ?_
  | with_reducible refine w_call ?_
  | with_reducible refine w_cb ?_
  | with_reducible refine w_test ?_
  | with_reducible refine w_B ?_
  | with_reducible refine w_bl ?_
  | with_reducible refine w_and ?_
  | with_reducible refine w_or ?_
  | with_reducible refine w_not ?_
  | with_reducible refine w_ife ?_
  | with_reducible refine w_gRd ?_
  | with_reducible refine w_andV ?_
  | with_reducible refine w_orV ?_
  | with_reducible refine w_notV ?_
  | with_reducible refine w_chain ?_
  | with_reducible refine w_din ?_
  | with_reducible refine w_isi_ii ?_
  | with_reducible refine w_isi_ib ?_
  | with_reducible refine w_isi_it ?_
  | with_reducible refine w_isi_st ?_
  | ((with_reducible refine w_isi_tt ?h1 ?_); (case h1 => first | assumption | exact upd_same))
  | with_reducible refine if_t rfl ?_
  | with_reducible refine if_f rfl ?_
  | with_reducible refine w_tup ?_
  | with_reducible refine w_lst ?_
  | with_reducible refine w_next ?_
  | with_reducible refine w_bm ?_
  | with_reducible refine w_sl ?_
  | with_reducible refine w_part ?_
  | with_reducible refine w_nop ?_
  | with_reducible refine w_isI ?_
  | with_reducible refine w_yes ?_
  | with_reducible refine w_gn ?_
  | with_reducible refine w_gsub ?_
  | ((with_reducible refine' w_setL ?h1 ?h2 ?_); (case h1 => first | assumption | exact upd_same); (case h2 => exact rfl))
  | with_reducible refine w_asgG ?_
  | with_reducible refine w_m1 ?_
  | with_reducible refine w_isS ?_
  | with_reducible refine w_tyS ?_
  | ((with_reducible refine' w_tyL ?h1 ?_); (case h1 => first | assumption | exact upd_same))
  | ((with_reducible refine' w_ixT ?h1 ?h2 ?_); (case h1 => first | assumption | exact upd_same); (case h2 => exact rfl))
  | ((with_reducible refine' w_ixL ?h1 ?h2 ?_); (case h1 => first | assumption | exact upd_same); (case h2 => exact rfl))
  | ((with_reducible refine w_eq ?h1 ?_); (case h1 => exact rfl))
  | ((with_reducible refine w_ne ?h1 ?_); (case h1 => exact rfl))
  | dsimp only [List.set_cons_zero, List.set_cons_succ, List.append_nil, List.cons_append, List.nil_append, cxOf]))

def spLaw (K : PySem.W.Frag) (Pa Pb Pc Pd Pe : Addr) : Sp := fun vs H Q _ => ∃ (sa : Addr) (ns : List Int), vs = [.ref sa] ∧ SqL K H sa (ns.map V.int) ∧ ns.length ≤ 63 ∧ GxR.TabG H Pa ∧ GxR.TabG H Pb ∧ GxR.TabG H Pc ∧ GxR.TabG H Pd ∧ GxR.TabG H Pe ∧ ∀ H', Q (.bl true) H'
section
variable {P : Program} {w : World} {K : PySem.W.Frag} {mg : Str → Option Value} {base : Heap} {uG : Value} {f : Addr} {fd : FuncData} {Pa Pb Pc Pd Pe : Addr}
theorem ok_law (F : Fun K "law" "law" s_law f fd) (T : Tx K mg uG) (D_l_draw : Df P w K mg base 1 "_law_draw" ["script"] (spDrawC K)) (D_l_take : Df P w K mg base 1 "_law_take" ["draw", "many"] spTakeC) (D_l_literals : Df P w K mg base 2 "_law_literals" ["draw"] spLLits)
  (D_l_clause : Df P w K mg base 2 "_law_clause" ["literals"] spLClause) (D_clause_of : Df P w K mg base 4 "clause_of" ["literals"] (spClauseOf Pa)) (D_clause_key : Df P w K mg base 2 "clause_key" ["clause"] spCKey) (D_l_key : Df P w K mg base 1 "_law_key" ["literal"] spKey) (D_literal_key : Df P w K mg base 1 "literal_key" ["literal"] spKey)
  (D_is_clause : Df P w K mg base 7 "is_clause" ["value"] (spIsClause K Pb Pc)) (D_residue_of : Df P w K mg base 4 "residue_of" ["clauses"] spResidueOf) (D_l_sorted : Df P w K mg base 2 "_law_sorted" ["rows"] spLSorted) (D_is_residue : Df P w K mg base 10 "is_residue" ["value"] (spIsResidue K Pb Pc Pd))
  (D_variables_of : Df P w K mg base 1 "variables_of" ["residue"] spVarsOf) (D_l_given : Df P w K mg base 3 "_law_given" ["rows", "literal"] spLGiven) (D_under : Df P w K mg base 5 "under" ["residue", "literal"] spUnder) (D_under_all : Df P w K mg base 5 "under_all" ["residue", "literals"] spUnderAll)
  (D_keeps : Df P w K mg base 4 "keeps" ["residue", "filling"] (spKeeps Pe)) (D_l_keeps : Df P w K mg base 1 "_law_keeps" ["residue", "filling"] spLKeeps) : FnOk P w K mg base CX0 11 f fd ["script"] (spLaw K Pa Pb Pc Pd Pe) := by
  refine F.ok sc_law (fun vs H Q E h => ?_) (fun cdv A outer s H vs Q E hr h => ?_)
  · obtain ⟨a, ns, rfl, _⟩ := h
    rfl
  · obtain ⟨sa, ns, rfl, hS, hlen, tA, tB, tC', tD, tE, k⟩ := h
    refine ⟨_, (pss_cons (ps_set (i := 1) sc_law.nd rfl (.inr rfl) (pe_df D_l_draw (hr.mono (by decide)) (by rfl) (pa_cons (pv 0) pa_nil)))
    (pss_cons (ps_set (i := 2) sc_law.nd rfl (.inr rfl) (pe_lst pa_nil))
    (pss_cons (ps_for PassesOwn.never rfl (pi_range1 (by rfl) T.z_range (pa_cons (pe_df D_l_take (hr.mono (by decide)) (by rfl) (pa_cons (pv 1) (pa_cons pe_int pa_nil))) pa_nil)) (pg_name (i := 3) sc_law.nd rfl (.inl rfl))
      (pss_cons (ps_set (i := 4) sc_law.nd rfl (.inr rfl) (pe_df D_l_literals (hr.mono (by decide)) (by rfl) (pa_cons (pv 1) pa_nil)))
    (pss_cons (ps_set (i := 5) sc_law.nd rfl (.inl rfl) (pe_cmpR (opK (K := K) (r := rNeD) rfl (op_neD hr.units)) (pe_lc (own := [("literal", 6)]) (g := gName 6) (by rfl) sc_law.nd (pi_listK (K := K) rfl (pv 4)) (blkOk_by (own := [("literal", 6)]) (N := n_law) (sc := defScope s_law) (by decide +kernel)) (fun _ _ _ _ _ => pg_name (i := 6) sc_law.nd rfl (Or.inl rfl)) (fun _ _ _ _ _ => pts_one (pt_cmpR (opK (K := K) (r := fun K => rIn K false) rfl op_in_seq) (pe_un un_neg (pv 6)) (pv 4) (by rfl))) (fun _ _ _ _ _ => (pv 6))) (pe_lst pa_nil) (nomark _)))
    (pss_cons (ps_setLc (i := 7) (own := [("j", 8)]) (g := gName 8) (by rfl) sc_law.nd rfl rfl (sw_true rfl rfl rfl (by decide +kernel)) (pi_range1 (by rfl) T.z_range (pa_cons (pe_callB (call_lenK (K := K) rfl) (by rfl) T.z_len (by decide +kernel) (pa_cons (pv 4) pa_nil)) pa_nil)) (blkOk_by (own := [("j", 8)]) (N := n_law) (sc := defScope s_law) (by decide +kernel)) (fun _ _ _ _ _ => pg_name (i := 8) sc_law.nd rfl (Or.inl rfl)) (fun _ _ _ _ _ => pts_one (pt_cmpR (opK (K := K) (r := fun K => rIn K true) rfl op_notIn_seq) (pe_ix (ix_listK (K := K) rfl) (pv 4) (pv 8) (fun _ _ => rfl)) (pe_slice (sl_listK (K := K) rfl) (pv 4) po_none (po_some (pv 8))) (by rfl))) (fun _ _ _ _ _ => (pe_ix (ix_listK (K := K) rfl) (pv 4) (pv 8) (fun _ _ => rfl))))
    (pss_cons (ps_set (i := 9) sc_law.nd rfl (.inr rfl) (pe_ifExp (pt_val (pv 5)) pe_non (pe_df D_l_clause (hr.mono (by decide)) (by rfl) (pa_cons (pv 7) pa_nil))))
    (pss_cons (ps_set (i := 10) sc_law.nd rfl (.inl rfl) (pe_callTy call_list_of (by rfl) T.z_list (by decide +kernel) (pa_cons (pv 4) pa_nil)))
    (pss_cons (ps_if (PW.pt (pw_or (pt_cmpR (opK (K := K) (r := rNeD) rfl (op_neD hr.units)) (pe_df D_clause_of (hr.mono (by decide)) (by rfl) (pa_cons (pv 4) pa_nil)) (pv 9) (nomark _)) (pw_or1 (pt_cmpR (opK (K := K) (r := rNeD) rfl (op_neD hr.units)) (pv 4) (pv 10) (nomark _)))))
      (pss_one (ps_ret pe_bl))
      pss_nil)
    (pss_one (ps_if (pt_cmpR op_notN (pv 9) pe_non (nomark _))
      (pss_cons (ps_expr (pe_bm PySem.F.plainAttrs_list PySem.F.slot_list_append PySem.F.type_list_append mt_append (pv 2) (pa_cons (pv 9) pa_nil)))
    (pss_cons (ps_if (PW.pt (pw_or (pt_cmpR (opK (K := K) (r := rNeD) rfl (op_neD hr.units)) (pe_df D_clause_key (hr.mono (by decide)) (by rfl) (pa_cons (pv 9) pa_nil)) (pe_callTy call_tuple_of (by rfl) T.z_tuple (by decide +kernel) (pa_cons (pe_lc (own := [("literal", 6)]) (g := gName 6) (by rfl) sc_law.nd (pi_tupK (K := K) rfl (pv 9)) (blkOk_by (own := [("literal", 6)]) (N := n_law) (sc := defScope s_law) (by decide +kernel)) (fun _ _ _ _ _ => pg_name (i := 6) sc_law.nd rfl (Or.inl rfl)) (fun _ _ _ _ _ => pts_nil) (fun _ _ _ _ _ => (pe_df D_l_key (hr.mono (by decide)) (by rfl) (pa_cons (pv 6) pa_nil)))) pa_nil)) (nomark _)) (pw_or1 (pt_cmpR op_notB (pe_df D_is_clause (hr.mono (by decide)) (by rfl) (pa_cons (pv 9) pa_nil)) pe_bl (nomark _)))))
      (pss_one (ps_ret pe_bl))
      pss_nil)
    (pss_cons (ps_set (i := 11) sc_law.nd rfl (.inl rfl) (pe_callTy call_tuple_of (by rfl) T.z_tuple (by decide +kernel) (pa_cons (pe_lc (own := [("j", 8)]) (g := gName 8) (by rfl) sc_law.nd (pi_range1 (by rfl) T.z_range (pa_cons (pe_callB (call_lenK (K := K) rfl) (by rfl) T.z_len (by decide +kernel) (pa_cons (pv 9) pa_nil)) pa_nil)) (blkOk_by (own := [("j", 8)]) (N := n_law) (sc := defScope s_law) (by decide +kernel)) (fun _ _ _ _ _ => pg_name (i := 8) sc_law.nd rfl (Or.inl rfl)) (fun _ _ _ _ _ => pts_nil) (fun _ _ _ _ _ => (pe_ix (ix_tupK (K := K) rfl) (pv 9) (pe_op op_sub (pe_op op_sub (pe_callB (call_lenK (K := K) rfl) (by rfl) T.z_len (by decide +kernel) (pa_cons (pv 9) pa_nil)) pe_int) (pv 8)) (fun _ _ => rfl)))) pa_nil)))
    (pss_one (ps_if (PW.pt (pw_or (pt_cmpR op_ne (pe_df D_is_clause (hr.mono (by decide)) (by rfl) (pa_cons (pv 11) pa_nil)) (pe_cmpR op_lt (pe_callB (call_lenK (K := K) rfl) (by rfl) T.z_len (by decide +kernel) (pa_cons (pv 9) pa_nil)) pe_int (nomark _)) (nomark _)) (pw_or (pt_val (pe_df D_is_clause (hr.mono (by decide)) (by rfl) (pa_cons pe_str pa_nil))) (pw_or1 (pt_val (pe_df D_is_clause (hr.mono (by decide)) (by rfl) (pa_cons (pe_op op_catA (pv 9) (pe_tup (pa_cons pe_int pa_nil))) pa_nil)))))))
      (pss_one (ps_ret pe_bl))
      pss_nil)))))
      pss_nil)))))))))
    (pss_cons (ps_setLc (i := 7) (own := [("j", 8)]) (g := gName 8) (by rfl) sc_law.nd rfl rfl (sw_true rfl rfl rfl (by decide +kernel)) (pi_range1 (by rfl) T.z_range (pa_cons (pe_callB (call_lenK (K := K) rfl) (by rfl) T.z_len (by decide +kernel) (pa_cons (pv 2) pa_nil)) pa_nil)) (blkOk_by (own := [("j", 8)]) (N := n_law) (sc := defScope s_law) (by decide +kernel)) (fun _ _ _ _ _ => pg_name (i := 8) sc_law.nd rfl (Or.inl rfl)) (fun _ _ _ _ _ => pts_one (pt_cmpR (opK (K := K) (r := rNotInD) rfl (op_notInD hr.u65)) (pe_ix (ix_listK (K := K) rfl) (pv 2) (pv 8) (fun _ _ => rfl)) (pe_slice (sl_listK (K := K) rfl) (pv 2) po_none (po_some (pv 8))) (by rfl))) (fun _ _ _ _ _ => (pe_ix (ix_listK (K := K) rfl) (pv 2) (pv 8) (fun _ _ => rfl))))
    (pss_cons (ps_set (i := 12) sc_law.nd rfl (.inl rfl) (pe_df D_residue_of (hr.mono (by decide)) (by rfl) (pa_cons (pe_callTy call_list_of (by rfl) T.z_list (by decide +kernel) (pa_cons (pv 2) pa_nil)) pa_nil)))
    (pss_cons (ps_if (PW.pt (pw_or (pt_cmpR (opK (K := K) (r := rNeD) rfl (op_neD hr.units)) (pv 12) (pe_callTy call_tuple_of (by rfl) T.z_tuple (by decide +kernel) (pa_cons (pe_df D_l_sorted (hr.mono (by decide)) (by rfl) (pa_cons (pv 7) pa_nil)) pa_nil)) (nomark _)) (pw_or1 (pt_cmpR op_notB (pe_df D_is_residue (hr.mono (by decide)) (by rfl) (pa_cons (pv 12) pa_nil)) pe_bl (nomark _)))))
      (pss_one (ps_ret pe_bl))
      pss_nil)
    (Evl.pss_cut (ps_if (PW.pt (pw_and (pt_cmpR op_gt (pe_callB (call_lenK (K := K) rfl) (by rfl) T.z_len (by decide +kernel) (pa_cons (pv 12) pa_nil)) pe_int (nomark _)) (pw_and1 (PW.pt (pw_or (pt_val (pe_df D_is_residue (hr.mono (by decide)) (by rfl) (pa_cons (pe_op op_catA (pe_slice (sl_tupK (K := K) rfl) (pv 12) (po_some pe_int) po_none) (pe_slice (sl_tupK (K := K) rfl) (pv 12) po_none (po_some pe_int))) pa_nil))) (pw_or1 (pt_val (pe_df D_is_residue (hr.mono (by decide)) (by rfl) (pa_cons (pe_op op_catA (pv 12) (pe_slice (sl_tupK (K := K) rfl) (pv 12) (po_some (pe_op op_sub (pe_callB (call_lenK (K := K) rfl) (by rfl) T.z_len (by decide +kernel) (pa_cons (pv 12) pa_nil)) pe_int)) po_none)) pa_nil)))))))))
      (pss_one (ps_ret pe_bl))
      pss_nil)
    (pss_cons (ps_set (i := 13) sc_law.nd rfl (.inl rfl) (pe_lst pa_nil))
    (pss_cons (ps_for PassesOwn.never rfl (pi_tupK (K := K) rfl (pv 12)) (pg_name (i := 14) sc_law.nd rfl (.inl rfl))
      (pss_one (ps_for PassesOwn.never rfl (pi_tupK (K := K) rfl (pv 14)) (pg_name (i := 6) sc_law.nd rfl (.inl rfl))
      (pss_one (ps_if (pt_cmpR (opK (K := K) (r := fun K => rIn K true) rfl op_notIn_seq) (pe_callB call_abs (by rfl) T.z_abs (by decide +kernel) (pa_cons (pv 6) pa_nil)) (pv 13) (by rfl))
      (pss_one (ps_expr (pe_bm PySem.F.plainAttrs_list PySem.F.slot_list_append PySem.F.type_list_append mt_append (pv 13) (pa_cons (pe_callB call_abs (by rfl) T.z_abs (by decide +kernel) (pa_cons (pv 6) pa_nil)) pa_nil))))
      pss_nil)))))
    (pss_cons (ps_if (pt_cmpR (opK (K := K) (r := rNeD) rfl (op_neD hr.units)) (pe_df D_variables_of (hr.mono (by decide)) (by rfl) (pa_cons (pv 12) pa_nil)) (pe_callTy call_tuple_of (by rfl) T.z_tuple (by decide +kernel) (pa_cons (pe_callB (cr_sortedD hr.units) (by rfl) T.z_sorted (by decide +kernel) (pa_cons (pv 13) pa_nil)) pa_nil)) (nomark _))
      (pss_one (ps_ret pe_bl))
      pss_nil)
    (pss_cons (ps_set (i := 4) sc_law.nd rfl (.inr rfl) (pe_df D_l_literals (hr.mono (by decide)) (by rfl) (pa_cons (pv 1) pa_nil)))
    (pss_cons (ps_set (i := 15) sc_law.nd rfl (.inl rfl) (pv 12))
    (pss_cons (ps_for PassesOwn.never rfl (pi_listK (K := K) rfl (pv 4)) (pg_name (i := 6) sc_law.nd rfl (.inl rfl))
      (pss_cons (ps_if (pt_cmpR (opK (K := K) (r := rNeD) rfl (op_neD hr.units)) (pe_df D_literal_key (hr.mono (by decide)) (by rfl) (pa_cons (pv 6) pa_nil)) (pe_df D_l_key (hr.mono (by decide)) (by rfl) (pa_cons (pv 6) pa_nil)) (nomark _))
      (pss_one (ps_ret pe_bl))
      pss_nil)
    (pss_cons (ps_set (i := 9) sc_law.nd rfl (.inr rfl) (pe_df D_l_given (hr.mono (by decide)) (by rfl) (pa_cons (pv 15) (pa_cons (pv 6) pa_nil))))
    (pss_cons (ps_if (pt_cmpR (opK (K := K) (r := rNeD) rfl (op_neD hr.units)) (pe_df D_under (hr.mono (by decide)) (by rfl) (pa_cons (pv 15) (pa_cons (pv 6) pa_nil))) (pv 9) (nomark _))
      (pss_one (ps_ret pe_bl))
      pss_nil)
    (pss_one (ps_set (i := 15) sc_law.nd rfl (.inl rfl) (pv 9)))))))
    (pss_cons (ps_if (pt_cmpR (opK (K := K) (r := rNeD) rfl (op_neD hr.units)) (pe_df D_under_all (hr.mono (by decide)) (by rfl) (pa_cons (pv 12) (pa_cons (pe_callTy call_list_of (by rfl) T.z_list (by decide +kernel) (pa_cons (pv 4) pa_nil)) pa_nil))) (pv 15) (nomark _))
      (pss_one (ps_ret pe_bl))
      pss_nil)
    (pss_cons (ps_set (i := 16) sc_law.nd rfl (.inl rfl) (pe_callTy call_tuple_of (by rfl) T.z_tuple (by decide +kernel) (pa_cons (pe_lc (own := [("name", 17)]) (g := gName 17) (by rfl) sc_law.nd (pi_listK (K := K) rfl (pe_callB (cr_sortedD hr.units) (by rfl) T.z_sorted (by decide +kernel) (pa_cons (pv 13) pa_nil))) (blkOk_by (own := [("name", 17)]) (N := n_law) (sc := defScope s_law) (by decide +kernel)) (fun _ _ _ _ _ => pg_name (i := 17) sc_law.nd rfl (Or.inl rfl)) (fun _ _ _ _ _ => pts_nil) (fun _ _ _ _ _ => (pe_op op_mulW (pv 17) (pe_ix (ix_listK (K := K) rfl) (pe_lst (pa_cons pe_int (pa_cons (pe_un un_neg pe_int) pa_nil))) (pe_df D_l_take (hr.mono (by decide)) (by rfl) (pa_cons (pv 1) (pa_cons pe_int pa_nil))) (fun _ _ => rfl))))) pa_nil)))
    (pss_one (ps_ret (pe_cmpR op_eq (pe_df D_keeps (hr.mono (by decide)) (by rfl) (pa_cons (pv 12) (pa_cons (pv 16) pa_nil))) (pe_df D_l_keeps (hr.mono (by decide)) (by rfl) (pa_cons (pv 12) (pa_cons (pv 16) pa_nil))) (nomark _))))))))))))))))))), ?_⟩
    rw [show start n_law [(.ref sa : V)] = ([some (.ref sa), none, none, none, none, none, none, none, none, none, none, none, none, none, none, none, none, none] : List (Option V)) from rfl]
    have hlt : 1001 ≤ sizeLine := by decide
    walk_at "rd"
    refine ⟨sa, ns, rfl, hS, hlen, fun d c H1 hd k0 hD1 => ?_⟩
    walk_at "rd"
    refine ⟨Nat.zero_le _, fun R hR => ?_⟩
    have kR : KeptC d c H1 (upd H1 R (.lst [])) := (Kept.new hR).toC
    have nR := hD1.old hR
    walk_at "rd"
    refine ⟨d, c, 7, rfl, by decide, by decide, kR.drw hD1, fun r H2 l1 g1 k1 => ?_⟩
    obtain ⟨m, rfl⟩ : ∃ m : Nat, r = (m : Int) := ⟨r.toNat, by omega⟩
    refine Fr1.mk (by omega) (fun i σ' H' => ∃ (v3 v4 v5 v6 v7 v8 v9 v10 v11 : Option V) (bs : List Addr) (cs : List (List Int)), σ' = [some (.ref sa), some (.ref d), some (.ref R), v3, v4, v5, v6, v7, v8, v9, v10, v11, none, none, none, none, none, none] ∧ KeptC d c H1 H' ∧ H' R = some (.lst (bs.map V.ref)) ∧ ClsAt H' bs cs ∧ cs.length ≤ i ∧ ∀ x ∈ cs, GoodC x)
      ⟨none, none, none, none, none, none, none, none, none, [], [], rfl, kR.trans k1, k1.lst nR.1 upd_same, ⟨rfl, fun i b c h => by simp at h⟩, Nat.zero_le _, fun x hx => by simp at hx⟩ ?_ ?_
    · rintro i σ' H' hi ⟨v3, v4, v5, v6, v7, v8, v9, v10, v11, bs, cs, rfl, k2, hRb, hbs, hcl, hgood⟩
      have hD2 := k2.drw hD1
      walk_at "rd"
      refine ⟨d, c, rfl, hD2, fun p H3 ls hp k3 hpl hl4 hlit => ?_⟩
      have hD3 := k3.drw hD2
      have hlsz : ls.length ≤ sizeLine := by omega
      walk_at "rd"
      refine LcL.ints (ns := ls) (fun x => decide (-x ∈ ls)) V.int hlsz hpl (fun n H4 k k' hn kp h1 h2 => ?_) fun D4 H4 hD4 kp hDl => ?_
      · walk_at "rd"
        refine w_inL (kp.lst hpl) ?_
        refine ⟨_, rfl, ?_⟩
        cases hb : decide (-n ∈ ls) with
        | true =>
          refine if_t rfl ?_
          walk_at "rd"
          exact h1 H4 (Kept.refl _) hb
        | false => exact if_f rfl (h2 H4 (Kept.refl _) hb)
      walk_at "rd"
      refine ⟨Nat.zero_le _, fun q hq => ?_⟩
      have kq := Kept.new (o := .lst []) hq
      refine w_neLL (xs := ls.filter fun x => decide (-x ∈ ls)) (ys := []) (kq.lst (by rw [hDl])) upd_same ?_
      rw [bothS_filter]
      have k5 := kp.trans kq
      generalize upd H4 q (.lst []) = H5 at k5 kq ⊢
      have hpl5 := k5.lst hpl
      walk_at "rd"
      refine ⟨p, ls.map V.int, rfl, .inl (SqL.of hpl5), ?_⟩
      walk_at "rd"
      refine Lc1.run (fun j => decide (ls.getD j 0 ∉ ls.take j)) (fun j => V.int (ls.getD j 0)) (by rw [List.length_map]; exact hlsz) (fun j H6 k k' hj kp6 h1 h2 => ?_) fun D6 H6 hD6 kp6 hDl6 => ?_
      · rw [List.length_map] at hj
        have hx : (ls.map V.int)[j]? = some (V.int (ls.getD j 0)) := by rw [List.getElem?_map, List.getD_eq_getElem?_getD, List.getElem?_eq_getElem hj] <;> rfl
        have hp6 := kp6.lst hpl5
        walk_at "rd"
        refine w_ixL hp6 (atI_nat hx) ?_
        walk_at "rd"
        refine ⟨p, _, rfl, SqL.of hp6, fun q6 hq6 => ?_⟩
        rw [cut_to _ j (by rw [List.length_map]; omega), ← List.map_take]
        have kq6 := Kept.new (o := .lst ((ls.take j).map V.int)) hq6
        refine w_ninLn upd_same ?_
        refine ⟨_, rfl, ?_⟩
        cases hb : decide (ls.getD j 0 ∉ ls.take j) with
        | true =>
          refine if_t rfl ?_
          walk_at "rd"
          refine w_ixL (kq6.lst hp6) (atI_nat hx) ?_
          exact h1 _ kq6 hb
        | false => exact if_f rfl (h2 _ kq6 hb)
      have kB : KeptC d c H' H6 := k3.trans ((k5.trans kp6).toC)
      have kA := k2.trans kB
      have hpl6 := kp6.lst hpl5
      have hRb6 := kB.lst nR.1 hRb
      have hbs6 := hbs.keptC kB hD2
      walk_at "rd"
      cases hbb : bothS ls with
      | true =>
        refine if_t rfl ?_
        walk_at "rd"
        refine ⟨p, _, rfl, .inl (SqL.of hpl6), fun B hB => ?_⟩
        have kb := Kept.new (o := .lst (ls.map V.int)) hB
        walk_at "rd"
        refine ⟨p, ls, rfl, kb.lst hpl6, by omega, kb.tab _ (kA.tab _ (k0.tab _ tA)), fun _ H7 k7 => ?_, fun z => (by rw [hbb] at z; cases z)⟩
        walk_at "rd"
        refine w_neNN ?_
        walk_at "rd"
        refine w_sLL (k7.lst (kb.lst hpl6)) (k7.lst upd_same) ?_
        walk_at "rd"
        refine ⟨rfl, ?_⟩
        walk_at "rd"
        exact ⟨_, _, _, _, _, _, _, _, _, bs, cs, rfl, kA.trans (kb.trans k7).toC, k7.lst (kb.lst hRb6), (hbs6.kept kb).kept k7, by omega, hgood⟩
      | false =>
        have hnb := bothS_no hbb
        refine if_f rfl ?_
        have hD6' : H6 D6 = some (.lst (((onceIx 0 ls).map fun i => ls.getD i 0).map V.int)) := by
          rw [hDl6, List.length_map, List.map_map]
          rfl
        obtain ⟨on1, on2⟩ := once_all 0 ls
        have onl : ((onceIx 0 ls).map fun i => ls.getD i 0).length ≤ 4 := by rw [List.length_map]; exact Nat.le_trans (onceIx_len 0 ls) hl4
        generalize (onceIx 0 ls).map (fun i => ls.getD i 0) = on at hD6' on1 on2 onl
        walk_at "rd"
        refine ⟨D6, on, rfl, hD6', by omega, fun n hn => lit_small (hlit n ((on2 n).mp hn)), fun u H7 k7 hu hu7 => ?_⟩
        have hg : GoodC (clauseF ls) := ⟨on, on1, fun l a b => hnb l ((on2 l).mp a) ((on2 _).mp b), fun n hn => hlit n ((on2 n).mp hn), onl, (clauseF_once hnb on1 on2).symm⟩
        rw [clauseF_once hnb on1 on2] at hu7
        walk_at "rd"
        refine ⟨p, _, rfl, .inl (SqL.of (k7.lst hpl6)), fun B hB => ?_⟩
        have kb := Kept.new (o := .lst (ls.map V.int)) hB
        have k8 := k7.trans kb
        walk_at "rd"
        refine ⟨p, ls, rfl, k8.lst hpl6, by omega, k8.tab _ (kA.tab _ (k0.tab _ tA)), fun z => (by rw [hbb] at z; cases z), fun _ e H9 k9 he he9 => ?_⟩
        have hu9 := k9.tup (kb.tup hu7)
        have k10 := k8.trans k9
        have hRb9 := k10.lst hRb6
        have hbs9 := hbs6.kept k10
        have hpl9 := k10.lst hpl6
        generalize clauseF ls = du at *
        have hdl := hg.len
        walk_at "rd"
        refine w_sTT he9 hu9 ?_
        walk_at "rd"
        refine w_sLL hpl9 (k9.lst upd_same) ?_
        walk_at "rd"
        refine ⟨rfl, ?_⟩
        walk_at "rd"
        refine ⟨_, _, _, rfl, rfl, hRb9, by rw [List.length_map, hbs9.1]; omega, ?_⟩
        have kU : KeptC d c H1 (upd H9 R (.lst (bs.map V.ref ++ [V.ref u]))) := KeptC.mut (kA.trans k10.toC) hR
        have hu10 := tup_upd (o := .lst (bs.map V.ref ++ [V.ref u])) hRb9 hu9
        have hbs10 := clsAt_upd (o := .lst (bs.map V.ref ++ [V.ref u])) (clsAt_snoc hbs9 hu9) hRb9
        have hR10 : (upd H9 R (.lst (bs.map V.ref ++ [V.ref u]))) R = some (.lst ((bs ++ [u]).map V.ref)) := by rw [List.map_append]; exact upd_same
        generalize upd H9 R (.lst (bs.map V.ref ++ [V.ref u])) = H10 at kU hu10 hbs10 hR10 ⊢
        walk_at "rd"
        refine ⟨u, du, rfl, hu10, by omega, fun ps1 p1 H11 k11 hp1 hp11 hl1 hk1 => ?_⟩
        have hu11 := k11.tup hu10
        walk_at "rd"
        refine LcT.tups (fun i => keyV (du.getD i 0)) (by rw [List.length_map]; omega) hu11 (fun i x H12 k2' hx kp12 h1 => ?_) fun D12 H12 qs hD12 kp12 hDl12 hql hqk => ?_
        · obtain ⟨n, rfl, hn⟩ := map_int hx
          have e1 : du.getD i 0 = n := by rw [List.getD_eq_getElem?_getD, hn] <;> rfl
          rw [e1] at h1
          walk_at "rd"
          exact ⟨n, rfl, fun z hz => h1 _ _ (Kept.new hz) upd_same⟩
        walk_at "rd"
        refine ⟨D12, _, rfl, .inl ⟨SqL.of hDl12, fun y hy => ?_⟩⟩
        have ky := Kept.new (o := .tup (qs.map V.ref)) hy
        have k12 := kp12.trans ky
        rw [List.length_map] at hql
        refine w_sKK (xs := du) ⟨hl1, fun i q n h1 h2 => k12.tup (hk1 i q n h1 h2)⟩ (k12.tup hp11) ⟨hql, fun i q n h1 h2 => ?_⟩ upd_same ?_
        · have e1 : du.getD i 0 = n := by rw [List.getD_eq_getElem?_getD, h2] <;> rfl
          rw [← e1]
          exact ky.tup (hqk i q h1)
        have k13 := k11.trans k12
        generalize upd H12 y (.tup (qs.map V.ref)) = H13 at ky k12 k13 ⊢
        walk_at "rd"
        refine .inr ⟨u, du, rfl, k13.tup hu10, by omega, k13.tab _ (kU.tab _ (k0.tab _ tB)), k13.tab _ (kU.tab _ (k0.tab _ tC')), fun H14 k14 => ?_⟩
        rw [hg.clause]
        refine ⟨_, _, rfl, rfl, ?_⟩
        have k15 := k13.trans k14
        have hu14 := k15.tup hu10
        walk_at "rd"
        have eDu : (List.map V.int du).length = du.length := List.length_map _
        refine ⟨u, du.map V.int, rfl, .inr (SqT.of hu14), ?_⟩
        walk_at "rd"
        refine Lc1.run (fun _ => true) (fun j => V.int (du.getD (du.length - 1 - j) 0)) (by omega) (fun j H16 k k' hj kp16 h1 h2 => ?_) fun D16 H16 hD16 kp16 hDl16 => ?_
        · rw [eDu] at hj
          have hu16 := kp16.tup hu14
          walk_at "rd"
          refine ⟨u, du.map V.int, rfl, .inr (SqT.of hu16), ?_⟩
          walk_at "rd"
          have ej : ((List.map V.int du).length : Int) - 1 - (j : Int) = ((du.length - 1 - j : Nat) : Int) := by omega
          rw [ej]
          refine w_ixT hu16 (atI_nat ?_) (h1 H16 (Kept.refl _) rfl)
          rw [List.getElem?_map, List.getD_eq_getElem?_getD, List.getElem?_eq_getElem (by omega)] <;> rfl
        have hback : H16 D16 = some (.lst (du.reverse.map V.int)) := by
          rw [hDl16, List.filter_eq_self.mpr (fun _ _ => rfl), eDu, ← back_range du, List.map_map]
          rfl
        walk_at "rd"
        refine ⟨D16, _, rfl, .inl ⟨SqL.of hback, fun y2 hy2 => ?_⟩⟩
        have ky2 := Kept.new (o := .tup (du.reverse.map V.int)) hy2
        have k17 := k15.trans (kp16.trans ky2)
        have hyb : upd H16 y2 (.tup (du.reverse.map V.int)) y2 = some (.tup (du.reverse.map V.int)) := upd_same
        generalize upd H16 y2 (.tup (du.reverse.map V.int)) = H17 at ky2 k17 hyb ⊢
        walk_at "rd"
        refine .inr ⟨y2, du.reverse, rfl, hyb, by rw [List.length_reverse]; omega, k17.tab _ (kU.tab _ (k0.tab _ tB)), k17.tab _ (kU.tab _ (k0.tab _ tC')), fun H18 k18 => ?_⟩
        have k19 := k17.trans k18
        have hu19 := k19.tup hu10
        have eb : isClauseF du.reverse = decide (((List.map V.int du).length : Int) < 2) := by
          rw [hg.back, eDu]
          exact decide_eq_decide.mpr (by omega)
        rw [eb]
        walk_at "rd"
        refine ⟨u, du.map V.int, rfl, .inr (SqT.of hu19), ?_⟩
        walk_at "rd"
        refine if_f (by simp) ?_
        walk_at "rd"
        refine .inl ⟨_, rfl, ?_⟩
        walk_at "rd"
        refine ⟨by show 1 ≤ sizeLine; omega, fun z hz => ?_⟩
        have kz := Kept.new (o := .tup [V.int 1000]) hz
        have hz2 : upd H18 z (.tup [V.int 1000]) z = some (.tup [V.int 1000]) := upd_same
        have k20 := k19.trans kz
        generalize upd H18 z (.tup [V.int 1000]) = H20 at kz hz2 k20 ⊢
        have fin : ∀ H21, Kept H20 H21 → KeptC d c H1 H21 ∧ H21 R = some (.lst ((bs ++ [u]).map V.ref)) ∧ ClsAt H21 (bs ++ [u]) (cs ++ [du]) ∧ (cs ++ [du]).length ≤ i + 1 ∧ ∀ x ∈ cs ++ [du], GoodC x := fun H21 k21 => by
          have k22 := k20.trans k21
          refine ⟨kU.trans k22.toC, k22.lst hR10, hbs10.kept k22, ?_, fun x hx => ?_⟩
          · rw [List.length_append]
            show cs.length + 1 ≤ i + 1
            omega
          · rcases List.mem_append.mp hx with h | h
            · exact hgood x h
            · rw [List.mem_singleton.mp h]
              exact hg
        refine ⟨u, z, du.map V.int, [V.int 1000], rfl, rfl, SqT.of (k20.tup hu10), SqT.of hz2, by rw [eDu]; show du.length + 1 ≤ sizeLine; omega, fun h0 => ?_, fun _ h1 => (by cases h1), fun _ _ zz hzz => ?_⟩
        · walk_at "rd"
          refine .inr ⟨z, [1000], rfl, hz2, by decide, k20.tab _ (kU.tab _ (k0.tab _ tB)), k20.tab _ (kU.tab _ (k0.tab _ tC')), fun H21 k21 => ?_⟩
          rw [show isClauseF [1000] = false from isClauseF_big []]
          walk_at "rd"
          exact ⟨_, _, _, _, _, _, _, _, _, _, _, rfl, fin H21 k21⟩
        · have kzz := Kept.new (o := .tup (du.map V.int ++ [V.int 1000])) hzz
          have k23 := k20.trans kzz
          walk_at "rd"
          refine .inr ⟨zz, du ++ [1000], rfl, by rw [List.map_append]; exact upd_same, by rw [List.length_append]; show du.length + 1 ≤ 1000; omega, k23.tab _ (kU.tab _ (k0.tab _ tB)), k23.tab _ (kU.tab _ (k0.tab _ tC')), fun H21 k21 => ?_⟩
          rw [isClauseF_big du]
          walk_at "rd"
          exact ⟨_, _, _, _, _, _, _, _, _, _, _, rfl, fin H21 (kzz.trans k21)⟩
    · rintro σ' H' ⟨v3, v4, v5, v6, v7, v8, v9, v10, v11, bs, cs, rfl, k2, hRb, hbs, hcl, hgood⟩
      have hD2 := k2.drw hD1
      have hbl : (bs.map V.ref).length = cs.length := by rw [List.length_map, hbs.1]
      walk_at "rd"
      refine ⟨R, bs.map V.ref, rfl, .inl (SqL.of hRb), ?_⟩
      walk_at "rd"
      refine Lc1.run (fun j => decide (cs.getD j [] ∉ cs.take j)) (fun j => V.ref (bs.getD j 0)) (by omega) (fun j H6 k k' hj kp6 h1 h2 => ?_) fun D6 H6 hD6 kp6 hDl6 => ?_
      · rw [hbl] at hj
        have hbj : bs[j]? = some (bs.getD j 0) := by rw [List.getD_eq_getElem?_getD, List.getElem?_eq_getElem (by rw [hbs.1]; exact hj)] <;> rfl
        have hcj : cs[j]? = some (cs.getD j []) := by rw [List.getD_eq_getElem?_getD, List.getElem?_eq_getElem hj] <;> rfl
        have hx : (bs.map V.ref)[j]? = some (V.ref (bs.getD j 0)) := by rw [List.getElem?_map, hbj] <;> rfl
        have hR6 := kp6.lst hRb
        walk_at "rd"
        refine w_ixL hR6 (atI_nat hx) ?_
        walk_at "rd"
        refine ⟨R, _, rfl, SqL.of hR6, fun q6 hq6 => ?_⟩
        rw [cut_to _ j (by rw [hbl]; omega), ← List.map_take]
        have kq6 := Kept.new (o := .lst ((bs.take j).map V.ref)) hq6
        refine w_ninL upd_same (((hbs.kept kp6).kept kq6).take j) (kq6.tup (kp6.tup (hbs.2 j _ _ hbj hcj))) ?_
        refine ⟨_, rfl, ?_⟩
        cases hb : decide (cs.getD j [] ∉ cs.take j) with
        | true =>
          refine if_t rfl ?_
          walk_at "rd"
          refine w_ixL (kq6.lst hR6) (atI_nat hx) ?_
          exact h1 _ kq6 hb
        | false => exact if_f rfl (h2 _ kq6 hb)
      have hD6' : H6 D6 = some (.lst (((onceIx [] cs).map fun i => bs.getD i 0).map V.ref)) := by
        rw [hDl6, hbl, onceC_eq, List.map_map]
        rfl
      have hpk := clsAt_pick (hbs.kept kp6) (onceIx_lt [] cs)
      obtain ⟨on1, on2⟩ := once_all [] cs
      have onl : ((onceIx [] cs).map fun i => cs.getD i []).length ≤ 6 := by rw [List.length_map]; exact Nat.le_trans (onceIx_len [] cs) (by omega)
      generalize (onceIx [] cs).map (fun i => cs.getD i []) = on at hpk on1 on2 onl
      generalize (onceIx [] cs).map (fun i => bs.getD i 0) = pk at hD6' hpk
      walk_at "rd"
      refine ⟨R, _, rfl, .inl (SqL.of (kp6.lst hRb)), fun L hL => ?_⟩
      have kL := Kept.new (o := .lst (bs.map V.ref)) hL
      walk_at "rd"
      refine ⟨L, bs, cs, rfl, upd_same, (hbs.kept kp6).kept kL, by omega, fun x hx => by have := (hgood x hx).len; omega, fun r H7 rb k7 hr hr7 hrb7 => ?_⟩
      have k8 := kL.trans k7
      have hgr : ∀ x ∈ residueF cs, GoodC x := fun x hx => hgood x (mem_residueF.mp hx)
      have hsm : Small3 (residueF cs) := small3_res (by omega) fun x hx => ⟨by have := (hgood x hx).len; omega, (hgood x hx).nob⟩
      have hrl : (residueF cs).length ≤ 6 := by
        unfold residueF
        rw [(srtBy_perm _ _).length_eq]
        exact Nat.le_trans (len_dd _) (by omega)
      have hiR : isResidueF (residueF cs) = true := isResidueF_res fun x hx => (hgood x hx).clause
      have eso := srt_once on1 on2
      have hra : ascC (residueF cs) := asc_srt cs
      walk_at "rd"
      refine ⟨D6, pk, on, rfl, k8.lst hD6', hpk.kept k8, by omega, fun x hx => by have := (hgood x ((on2 x).mp hx)).len; omega, fun s1 H9 sb k9 hs1 hs9 hsb9 => ?_⟩
      rw [eso] at hsb9
      generalize residueF cs = rc at *
      walk_at "rd"
      refine ⟨s1, _, rfl, .inl ⟨SqL.of hs9, fun s2 hs2 => ?_⟩⟩
      have ks2 := Kept.new (o := .tup (sb.map V.ref)) hs2
      have k10 := k9.trans ks2
      refine w_sCC (hrb7.kept k10) (k10.tup hr7) (hsb9.kept ks2) upd_same ?_
      have kA := k2.trans (kp6.trans (k8.trans k10)).toC
      have hr10 := k10.tup hr7
      have hrb10 := hrb7.kept k10
      generalize upd H9 s2 (.tup (sb.map V.ref)) = H10 at ks2 k10 kA hr10 hrb10 ⊢
      have hrbl : (rb.map V.ref).length = rc.length := by rw [List.length_map, hrb10.1]
      walk_at "rd"
      refine ⟨r, rb, rc, rfl, hr10, hrb10, by omega, fun x hx => by have := (hgr x hx).len; omega, kA.tab _ (k0.tab _ tB), kA.tab _ (k0.tab _ tC'), kA.tab _ (k0.tab _ tD), fun H11 k11 => ?_⟩
      rw [hiR]
      refine ⟨_, _, rfl, rfl, ?_⟩
      have hr11 := k11.tup hr10
      have hrb11 := hrb10.kept k11
      have kA := kA.trans k11.toC
      walk_at "rd"
      refine ⟨fun σ' H' => σ' = [some (.ref sa), some (.ref d), some (.ref R), v3, v4, v5, v6, some (.ref D6), v8, v9, v10, v11, some (.ref r), none, none, none, none, none] ∧ Kept H11 H', ?_, ?_⟩
      · walk_at "rd"
        refine ⟨r, rb.map V.ref, rfl, .inr (SqT.of hr11), ?_⟩
        walk_at "rd"
        by_cases h1 : 1 < rc.length
        · refine if_t (decide_eq_true (by omega)) ?_
          walk_at "rd"
          refine ⟨r, rb.map V.ref, rfl, SqT.of hr11, fun z => ?_, fun q hq => ?_⟩
          · have z1 := z.1
            rw [show HT.sIx (rb.map V.ref).length 0 (some 1) = min 1 (rb.map V.ref).length from HT.sIx_nat _ 0 1] at z1
            omega
          rw [show cutV (rb.map V.ref) (some 1) none = (rb.drop 1).map V.ref from (cut_of _ 1 (by omega)).trans List.map_drop.symm]
          have kq := Kept.new (o := .tup ((rb.drop 1).map V.ref)) hq
          walk_at "rd"
          refine ⟨r, rb.map V.ref, rfl, SqT.of (kq.tup hr11), fun z => ?_, fun q2 hq2 => ?_⟩
          · have z1 := z.2
            rw [show HT.sIx (rb.map V.ref).length (rb.map V.ref).length (some 1) = min 1 (rb.map V.ref).length from HT.sIx_nat _ _ 1] at z1
            omega
          rw [show cutV (rb.map V.ref) none (some 1) = (rb.take 1).map V.ref from (cut_to _ 1 (by omega)).trans List.map_take.symm]
          have kq2 := Kept.new (o := .tup ((rb.take 1).map V.ref)) hq2
          have l1 : ((rb.drop 1).map V.ref).length = rc.length - 1 := by rw [List.length_map, List.length_drop, hrb10.1]
          have l2 : ((rb.take 1).map V.ref).length = 1 := by rw [List.length_map, List.length_take, hrb10.1]; omega
          refine ⟨q, q2, _, _, rfl, rfl, SqT.of (kq2.tup upd_same), SqT.of upd_same, by omega, fun z => (by rw [z] at l1; simp at l1; omega), fun _ z => (by rw [z] at l2; cases l2), fun _ _ y hy => ?_⟩
          have ky := Kept.new (o := .tup ((rb.drop 1).map V.ref ++ (rb.take 1).map V.ref)) hy
          have k12 := (kq.trans kq2).trans ky
          walk_at "rd"
          refine ⟨y, rb.drop 1 ++ rb.take 1, rc.drop 1 ++ rc.take 1, rfl, by rw [List.map_append]; exact upd_same, ((hrb11.kept k12).drop 1).app ((hrb11.kept k12).take 1), by rw [List.length_append, List.length_drop, List.length_take]; omega, fun x hx => ?_, k12.tab _ (kA.tab _ (k0.tab _ tB)), k12.tab _ (kA.tab _ (k0.tab _ tC')), k12.tab _ (kA.tab _ (k0.tab _ tD)), fun H13 k13 => ?_⟩
          · have hxr : x ∈ rc := (List.mem_append.mp hx).elim List.mem_of_mem_drop List.mem_of_mem_take
            have := (hgr x hxr).len
            omega
          rw [isResidueF_rot hra h1]
          have k14 := k12.trans k13
          have hr14 := k14.tup hr11
          walk_at "rd"
          refine ⟨r, rb.map V.ref, rfl, .inr (SqT.of hr14), ?_⟩
          walk_at "rd"
          have el : ((rb.map V.ref).length : Int) - 1 = ((rc.length - 1 : Nat) : Int) := by omega
          rw [el]
          refine ⟨r, rb.map V.ref, rfl, SqT.of hr14, fun z => ?_, fun q3 hq3 => ?_⟩
          · have z1 := z.1
            rw [HT.sIx_nat] at z1
            omega
          rw [show cutV (rb.map V.ref) (some ((rc.length - 1 : Nat) : Int)) none = (rb.drop (rc.length - 1)).map V.ref from (cut_of _ _ (by omega)).trans List.map_drop.symm]
          have kq3 := Kept.new (o := .tup ((rb.drop (rc.length - 1)).map V.ref)) hq3
          have l3 : ((rb.drop (rc.length - 1)).map V.ref).length = 1 := by rw [List.length_map, List.length_drop, hrb10.1]; omega
          refine ⟨r, q3, _, _, rfl, rfl, SqT.of (kq3.tup hr14), SqT.of upd_same, by omega, fun z => (by rw [z] at hrbl; simp at hrbl; omega), fun _ z => (by rw [z] at l3; cases l3), fun _ _ y3 hy3 => ?_⟩
          have ky3 := Kept.new (o := .tup (rb.map V.ref ++ (rb.drop (rc.length - 1)).map V.ref)) hy3
          have k15 := k14.trans (kq3.trans ky3)
          walk_at "rd"
          refine ⟨y3, rb ++ rb.drop (rc.length - 1), rc ++ rc.drop (rc.length - 1), rfl, by rw [List.map_append]; exact upd_same, (hrb11.kept k15).app ((hrb11.kept k15).drop _), by rw [List.length_append, List.length_drop]; omega, fun x hx => ?_, k15.tab _ (kA.tab _ (k0.tab _ tB)), k15.tab _ (kA.tab _ (k0.tab _ tC')), k15.tab _ (kA.tab _ (k0.tab _ tD)), fun H16 k16 => ?_⟩
          · have hxr : x ∈ rc := (List.mem_append.mp hx).elim id List.mem_of_mem_drop
            have := (hgr x hxr).len
            omega
          rw [isResidueF_dbl (by omega)]
          walk_at "rd"
          exact ⟨rfl, k15.trans k16⟩
        · refine if_f (decide_eq_false (by omega)) ?_
          walk_at "rd"
          exact ⟨rfl, Kept.refl _⟩
      · rintro σ' H12 ⟨rfl, k12⟩
        have kA := kA.trans k12.toC
        have hr12 := k12.tup hr11
        have hrb12 := hrb11.kept k12
        walk_at "rd"
        refine ⟨Nat.zero_le _, fun N hN => ?_⟩
        have kN := Kept.new (o := .lst []) hN
        walk_at "rd"
        refine FrT.mk (xs := rb.map V.ref) (fun i σ' H' => ∃ (v6 v14 : Option V) (ns : List Int), σ' = [some (.ref sa), some (.ref d), some (.ref R), v3, v4, v5, v6, some (.ref D6), v8, v9, v10, v11, some (.ref r), some (.ref N), v14, none, none, none] ∧ Kept H12 H' ∧ H' N = some (.lst (ns.map V.int)) ∧ ns.Nodup ∧ ns.length ≤ 4 * i ∧ ∀ k, k ∈ ns ↔ k ∈ absAll (rc.take i))
          ⟨v6, none, [], rfl, kN, upd_same, List.nodup_nil, Nat.zero_le _, fun k => by simp [absAll]⟩ (fun i σ' H' _ h => by
            obtain ⟨_, _, _, _, k1, _⟩ := h
            exact SqT.of (k1.tup hr12)) ?_ ?_
        · rintro i x σ' H' hx ⟨v6, v14, ns, rfl, k13, hNl, hnd, hnl, hmem⟩
          rw [List.getElem?_map] at hx
          obtain ⟨b, hb, rfl⟩ := Option.map_eq_some_iff.mp hx
          have hi : i < rc.length := by rw [← hrb12.1]; exact (List.getElem?_eq_some_iff.mp hb).1
          have hci : rc[i]? = some rc[i] := List.getElem?_eq_getElem hi
          have hcm := (hgr _ (List.getElem_mem hi)).len
          have et : rc.take (i + 1) = rc.take i ++ [rc[i]] := by rw [List.take_add_one, hci]; rfl
          have hb12 := hrb12.2 i b _ hb hci
          generalize rc[i] = ci at hci hcm et hb12
          walk_at "rd"
          refine FrT.mk (xs := ci.map V.int) (fun j σ' H' => ∃ (v6 : Option V) (ns : List Int), σ' = [some (.ref sa), some (.ref d), some (.ref R), v3, v4, v5, v6, some (.ref D6), v8, v9, v10, v11, some (.ref r), some (.ref N), some (.ref b), none, none, none] ∧ Kept H12 H' ∧ H' N = some (.lst (ns.map V.int)) ∧ ns.Nodup ∧ ns.length ≤ 4 * i + j ∧ ∀ k, k ∈ ns ↔ k ∈ absAll (rc.take i) ++ (ci.take j).map absI)
            ⟨v6, ns, rfl, k13, hNl, hnd, by omega, fun k => by rw [hmem]; simp⟩ (fun j σ' H' _ h => by
              obtain ⟨_, _, _, k1, _⟩ := h
              exact SqT.of (k1.tup hb12)) ?_ ?_
          · rintro j x σ' H' hx ⟨v6, ns, rfl, k13, hNl, hnd, hnl, hmem⟩
            obtain ⟨n, rfl, hn⟩ := map_int hx
            have hj : j < ci.length := (List.getElem?_eq_some_iff.mp hn).1
            have en : ci.take (j + 1) = ci.take j ++ [n] := by rw [List.take_add_one, hn]; rfl
            have hm2 : ∀ k, (k ∈ ns ∨ k = absI n) ↔ k ∈ absAll (rc.take i) ++ (ci.take (j + 1)).map absI := fun k => by
              rw [hmem k, en, List.map_append, ← List.append_assoc, List.mem_append (s := _ ++ _)]
              simp
            walk_at "rd"
            refine ⟨n, rfl, ?_⟩
            walk_at "rd"
            refine w_ninLn hNl ?_
            refine ⟨_, rfl, ?_⟩
            by_cases hin : absI n ∉ ns
            · refine if_t (decide_eq_true hin) ?_
              walk_at "rd"
              refine ⟨n, rfl, ?_⟩
              walk_at "rd"
              refine ⟨_, _, _, rfl, rfl, hNl, by rw [List.length_map]; omega, _, ns ++ [absI n], rfl, Kept.mut k13 hN, by rw [List.map_append]; exact upd_same, ?_, ?_, fun k => ?_⟩
              · exact List.nodup_append.mpr ⟨hnd, by simp, fun x hx y hy => by rw [List.mem_singleton.mp hy]; exact fun z => hin (z ▸ hx)⟩
              · rw [List.length_append]
                show ns.length + 1 ≤ _
                omega
              · rw [← hm2 k, List.mem_append, List.mem_singleton]
            · refine if_f (decide_eq_false hin) ?_
              walk_at "rd"
              have hin' : absI n ∈ ns := Classical.not_not.mp hin
              refine ⟨_, ns, rfl, k13, hNl, hnd, by omega, fun k => ?_⟩
              rw [← hm2 k]
              exact ⟨.inl, fun h => h.elim id fun e => e ▸ hin'⟩
          · rintro σ' H' ⟨v6, ns, rfl, k13, hNl, hnd, hnl, hmem⟩
            rw [List.length_map] at hnl
            rw [List.length_map, List.take_length] at hmem
            refine ⟨_, _, ns, rfl, k13, hNl, hnd, by omega, fun k => ?_⟩
            rw [hmem k, et, absAll_app, absAll_one]
        · rintro σ' H' ⟨v6, v14, ns, rfl, k13, hNl, hnd, hnl, hmem⟩
          rw [hrbl] at hnl
          rw [hrbl, List.take_length] at hmem
          have hrb13 := hrb12.kept k13
          walk_at "rd"
          have hfl := flat_len (cs := rc) (n := 4) fun x hx => (hgr x hx).len
          refine ⟨r, rb, rc, rfl, k13.tup hr12, hrb13, by omega, fun vs y1 H14 hva hvm k14 hy1 hy14 => ?_⟩
          walk_at "rd"
          refine ⟨N, ns.map V.int, ns.map PyData.int, rfl, SqL.of (k14.lst hNl), dpAll_ints ns, allAlike_ints ns, srt_intsS ns, depth_intsS ns, fun p1 hp1 => ?_⟩
          rw [sortD_map V.int PyData.int ns]
          have evs : vs = srtBy PyData.int ns := intAsc_unique hva (srt_ints hnd) fun d => by rw [hvm d, mem_srtBy, hmem d]
          have hsl : (srtBy PyData.int ns).length ≤ 24 := by
            rw [(srtBy_perm _ _).length_eq]
            omega
          have hss : ∀ k ∈ srtBy PyData.int ns, k.natAbs < 2 ^ 60 := fun k hk => absAll_small (fun c hc => (hgr c hc).lit) k ((hmem k).mp (mem_srtBy.mp hk))
          have hsu := sortD_map V.int PyData.int ns
          rw [evs] at hy14
          generalize srtBy PyData.int ns = ms at *
          have kp1 := Kept.new (o := .lst (ms.map V.int)) hp1
          walk_at "rd"
          refine ⟨p1, _, rfl, .inl ⟨SqL.of upd_same, fun y2 hy2 => ?_⟩⟩
          have ky2 := Kept.new (o := .tup (ms.map V.int)) hy2
          refine w_sTT (xs := ms) (ky2.tup (kp1.tup hy14)) upd_same ?_
          have k15 := ((k13.trans k14).trans kp1).trans ky2
          generalize upd (upd H14 p1 (.lst (ms.map V.int))) y2 (.tup (ms.map V.int)) = H15 at ky2 k15 ⊢
          have hN15 := (((k14.trans kp1).trans ky2)).lst hNl
          have kC := kA.trans k15.toC
          have hD15 := kC.drw hD1
          have hr15 := k15.tup hr12
          have hrb15 := hrb12.kept k15
          walk_at "rd"
          refine ⟨d, c, rfl, hD15, fun p5 H16 ls hp5 k16 hpl5 hl4 hlit => ?_⟩
          have hD16 := k16.drw hD15
          have nN := hD15.old (p := p5) hp5
          have hN16 : H16 N = some (.lst (ns.map V.int)) := k16.lst (fun e => by
            obtain ⟨_, _, _, _, _, g1, _⟩ := hD15
            rw [e, g1] at hN15
            have g2 := congrArg List.length (HO.lst.inj (Option.some.inj hN15))
            have g3 := HO.lst.inj (Option.some.inj hN15)
            cases ns with
            | nil => simp at g2
            | cons n t => simp at g3) hN15
          have hr16 := k16.tup hD15 hr15
          have hrb16 := hrb15.keptC k16 hD15
          have kC := kC.trans k16
          walk_at "rd"
          refine FrL.mk (xs := ls.map V.int) (fun i σ' H' => ∃ (v6 v9 : Option V) (a : Addr) (ba : List Addr), σ' = [some (.ref sa), some (.ref d), some (.ref R), v3, some (.ref p5), v5, v6, some (.ref D6), v8, v9, v10, v11, some (.ref r), some (.ref N), v14, some (.ref a), none, none] ∧ Kept H16 H' ∧ H' a = some (.tup (ba.map V.ref)) ∧ ClsAt H' ba ((ls.take i).foldl underF rc) ∧ Small3 ((ls.take i).foldl underF rc))
            ⟨_, _, r, rb, rfl, Kept.refl _, hr16, hrb16, hsm⟩ (fun i σ' H' _ h => by
              obtain ⟨_, _, _, _, _, k1, _⟩ := h
              exact SqL.of (k1.lst hpl5)) ?_ ?_
          · rintro i x σ' H' hx ⟨v6, v9, a, ba, rfl, k17, ha, hba, hs3⟩
            obtain ⟨n, rfl, hn⟩ := map_int hx
            have en : (ls.take (i + 1)).foldl underF rc = underF ((ls.take i).foldl underF rc) n := by rw [List.take_add_one, hn, List.foldl_append]; rfl
            rw [en]
            generalize (ls.take i).foldl underF rc = cur at hba hs3 ⊢
            walk_at "rd"
            refine ⟨n, rfl, fun q1 hq1 => ?_⟩
            have kq1 := Kept.new (o := .tup (keyV n)) hq1
            walk_at "rd"
            refine ⟨n, rfl, fun q2 hq2 => ?_⟩
            have kq2 := Kept.new (o := .tup (keyV n)) hq2
            refine w_sK (kq2.tup upd_same) upd_same ?_
            have k18 := kq1.trans kq2
            walk_at "rd"
            refine ⟨a, ba, cur, n, rfl, k18.tup ha, hba.kept k18, hs3.len, fun c hc => (hs3.cl c hc).1, fun u H19 ub k19 hu hu19 hub => ?_⟩
            have k20 := k18.trans k19
            walk_at "rd"
            refine ⟨a, ba, cur, n, rfl, k20.tup ha, hba.kept k20, hs3.asc, hs3.len, hs3.cl, fun w1 H21 wb ds hasc hdm k21 hw hw21 hwb => ?_⟩
            rw [asc_unique hasc (underF_asc cur n) fun d => by rw [hdm d, mem_underF]] at hwb
            walk_at "rd"
            refine w_sCC hwb hw21 (hub.kept k21) (k21.tup hu19) ?_
            walk_at "rd"
            exact ⟨_, _, u, ub, rfl, k17.trans (k20.trans k21), k21.tup hu19, hub.kept k21, hs3.under n⟩
          · rintro σ' H' ⟨v6, v9, a, ba, rfl, k17, ha, hba, hs3⟩
            rw [List.length_map, List.take_length] at hba hs3
            walk_at "rd"
            refine ⟨p5, _, rfl, .inl (SqL.of (k17.lst hpl5)), fun l hl => ?_⟩
            have kl := Kept.new (o := .lst (ls.map V.int)) hl
            walk_at "rd"
            refine ⟨r, l, rb, rc, ls, rfl, kl.tup (k17.tup hr16), (hrb16.kept k17).kept kl, hsm, upd_same, by omega, fun y5 H19 yb k19 hy19 hyb => ?_⟩
            walk_at "rd"
            refine w_sCC hyb hy19 ((hba.kept kl).kept k19) (k19.tup (kl.tup ha)) ?_
            have k20 := k17.trans (kl.trans k19)
            have hN19 := k20.lst hN16
            walk_at "rd"
            refine ⟨N, ns.map V.int, ns.map PyData.int, rfl, SqL.of hN19, dpAll_ints ns, allAlike_ints ns, srt_intsS ns, depth_intsS ns, fun p6 hp6 => ?_⟩
            rw [hsu]
            have kp6 := Kept.new (o := .lst (ms.map V.int)) hp6
            have k21 := k20.trans kp6
            have hp6' : upd H19 p6 (.lst (ms.map V.int)) p6 = some (.lst (ms.map V.int)) := upd_same
            generalize upd H19 p6 (.lst (ms.map V.int)) = H20 at kp6 k21 hp6' ⊢
            have hD20 := k21.toC.drw hD16
            have np6 : p6 ≠ d := fun e => by
              obtain ⟨_, _, _, _, _, g1, _⟩ := hD20
              rw [e, g1] at hp6'
              have g2 := congrArg List.length (HO.lst.inj (Option.some.inj hp6'))
              have g3 := HO.lst.inj (Option.some.inj hp6')
              cases ms with
              | nil => simp at g2
              | cons n t => simp at g3
            walk_at "rd"
            refine ⟨p6, rfl, ⟨_, SqL.of hp6'⟩, fun D hD => c_list (xs := ms.map V.int) (fun i H => KeptC d c H20 H ∧ ∃ fs : List Int, H D = some (.lst (fs.map V.int)) ∧ fs.length = i) ⟨(Kept.new hD).toC, [], upd_same, rfl⟩ (fun i H _ h => SqL.of (h.1.lst np6 hp6')) (fun i x H hx h => ?_) fun H h => ?_⟩
            · obtain ⟨n, rfl, hn⟩ := map_int hx
              obtain ⟨k22, fs, hDf, hfl2⟩ := h
              have hnm := hss n (List.mem_of_getElem? hn)
              have hi : i < ms.length := (List.getElem?_eq_some_iff.mp hn).1
              have hDx := k22.drw hD20
              refine ⟨rfl, w_yes (if_t rfl ?_)⟩
              walk_at "rd"
              refine ⟨by show 2 ≤ sizeLine; omega, fun p2 hp2 => ?_⟩
              have kp2 : KeptC d c H (upd H p2 (.lst [V.int 1, V.int (-1)])) := (Kept.new hp2).toC
              have np2 := hDx.old hp2
              walk_at "rd"
              refine ⟨d, c, 2, rfl, by decide, by decide, kp2.drw hDx, fun r3 H5 l3 g3 k5 => ?_⟩
              obtain ⟨z, hz, ez⟩ := pick_int (ns := [1, -1]) l3 g3
              refine w_ixL (k5.lst np2.1 upd_same) ez ?_
              have hz' : z = 1 ∨ z = -1 := by simpa using hz
              refine w_I (mulW (by omega) (by omega)) ?_
              have nD := hD20.old hD
              have kk := kp2.trans k5
              refine ⟨_, kk.lst nD.1 hDf, by rw [List.length_map]; omega, KeptC.mut (k22.trans kk) hD, fs ++ [n * z], by rw [List.map_append]; exact upd_same, by rw [List.length_append, hfl2] <;> rfl⟩
            · obtain ⟨k22, fs, hDf, hfl2⟩ := h
              rw [List.length_map] at hfl2
              walk_at "rd"
              refine ⟨D, _, rfl, .inl ⟨SqL.of hDf, fun f1 hf1 => ?_⟩⟩
              have kf := Kept.new (o := .tup (fs.map V.int)) hf1
              have hr22 := k22.tup hD20 (k21.tup hr16)
              have hrb22 := (hrb16.kept k21).keptC k22 hD20
              have kF := ((kC.trans k21.toC).trans k22).trans kf.toC
              walk_at "rd"
              refine ⟨r, f1, rb, rc, fs, rfl, kf.tup hr22, hrb22.kept kf, upd_same, by omega, kF.tab _ (k0.tab _ tE), fun H23 k23 => ?_⟩
              walk_at "rd"
              refine ⟨r, f1, rb, rc, fs, rfl, k23.tup (kf.tup hr22), (hrb22.kept kf).kept k23, fun x hx => by have := (hgr x hx).len; omega, k23.tup upd_same, fun H24 k24 => ?_⟩
              rw [keepsF_all]
              refine w_eq rfl ?_
              rw [decide_eq_true rfl]
              exact k H24
end
end Ky

namespace Ky
open PySem PySem.Spec PyProof.Rows L2
/-- the end of a row by what the top has left: the law's promise may lean on the tables of code objects -/
theorem walk_own {l : PySem.W.OpenLaw} {n k : Nat} {q : Program} {loose : List Str} {XP : (Str → Option Value) → Heap → Prop} {YP : World → Heap → Prop} {d : DefRec} {K : Params → PySem.W.Frag} {x : Str}
    (hn : l.most = some n) (hn2 : n ≤ sizeLine) (hdf : d.params.defaults = []) (hr : Room k callerA) (hK : ∀ (w : World) (h : Heap), YP w h → (K w.params).In h)
    (F : ∀ (w : World) (s0 : Shared) (mg mb : Str → Option Value) (fa : Addr) (h : Heap), PySem.W.Ground q loose [] XP w s0 mg mb h → YP w h →
      mg d.name = some (.ref fa) → (K w.params).In h → LamX.LawAtS l w (K w.params) CX0 k n x mg fa h) :
    PySem.W.WalkO q loose XP YP l.row.toRowW d [] (fun f vs => PySem.call f vs) :=
  Att.attach_callB hn hdf fun w s0 s1 mg mb fa _ _ _ _ a _ ns G Y _ _ _ hm ho hi hl hz hg => by
    have X := hK w s1.heap Y
    obtain ⟨fd, cs, sp, t1, t2, t3, t4, t5, t6⟩ := F w s0 mg mb fa s1.heap G Y hm X
    have T := G.T
    exact LamX.law_callTs X T.g T.b T.builtins T.nolimit hg t1 t2 t3 T.bmain ho hi (Nat.le_trans hl hn2) hr t6 t4 (fun H a1 a2 => t5 H a ns hl hz a1 a2) fun _ _ _ z => z
theorem df_of {P : Program} {w : World} {K : PySem.W.Frag} {mg : Str → Option Value} {base : Heap} {k : Nat} {x : Str} {ps : List Str} {sp : Sp} {f : Addr} {fd : FuncData} (F : FnOk P w K mg base CX0 k f fd ps sp) (m : mg x = some (.ref f)) (kp : PySem.W.keepIn K (.ref f) = true) (b : Binds K fd ps []) : Df P w K mg base k x ps sp := ⟨f, fd, F, m, kp, b⟩
theorem func_mk {K : PySem.W.Frag} {x : Str} {st : Stmt} {f c : Addr} {oc : Value} {od an : Option Addr} {osl : Array (Option Value)} {kV doc pm ct : Value} (l : K.lookup f = some ⟨oc, od, .func (PySem.W.fnOf x x (defArgs st) (defBody st) (defScope st) .none kV doc pm an (.ref c) ct), osl⟩) (b : PySem.W.codeIn K (.ref c) x = true) : FunC K x st f (PySem.W.fnOf x x (defArgs st) (defBody st) (defScope st) .none kV doc pm an (.ref c) ct) c := ⟨⟨oc, od, kV, doc, pm, an, ct, osl, rfl, l, b⟩⟩
theorem tab_in {K : PySem.W.Frag} {x : Str} {f c t : Addr} {oc e : Value} {od dd : Option Addr} {fd : FuncData} {sl sv : Array (Option Value)} {vs : Array Value} (a : PySem.W.nsIn K mainGlobals x = some (some (.ref f))) (l : K.lookup f = some ⟨oc, od, .func fd, sl⟩) (hc : fd.code = .ref c)
    (lc : K.lookup c = some ⟨e, dd, .fields vs, sv⟩) (lv : vs[11]? = some (.ref t)) : PySem.W.tabIn K x = some (c, t) := by
  unfold PySem.W.tabIn
  simp only [a, l, hc, lc, lv]
theorem all_mk {l : PySem.W.OpenLaw} {w : World} {K : PySem.W.Frag} {q : Program} {lo : List Str} {lv : List (Str × PySem.W.WData)} {s0 : Shared} {h : Heap} {mg mb : Str → Option Value} {fa : Addr} {dR_clause_of : DefRec} {dR_is_clause : DefRec} {dR_ascends : DefRec} {dR_is_residue : DefRec} {dR_keeps : DefRec} (X : K.In h)
    (G : PySem.W.Ground q lo [] (PySem.W.XL q lv) w s0 mg mb h) (hfa : mg "law" = some (.ref fa)) (hR_clause_of : (recsOf q).find? (fun e => e.name == ("clause_of" : Str)) = some dR_clause_of) (hR_is_clause : (recsOf q).find? (fun e => e.name == ("is_clause" : Str)) = some dR_is_clause) (hR_ascends : (recsOf q).find? (fun e => e.name == ("ascends" : Str)) = some dR_ascends) (hR_is_residue : (recsOf q).find? (fun e => e.name == ("is_residue" : Str)) = some dR_is_residue) (hR_keeps : (recsOf q).find? (fun e => e.name == ("keeps" : Str)) = some dR_keeps)
    {f_is_whole : Addr} {od_is_whole an_is_whole : Option Addr} {sl_is_whole : Array (Option Value)} {oc_is_whole kV_is_whole dc_is_whole pm_is_whole cd_is_whole ct_is_whole : Value}
    (a_is_whole : PySem.W.nsIn K mainGlobals "is_whole" = some (some (.ref f_is_whole))) (l_is_whole : K.lookup f_is_whole = some ⟨oc_is_whole, od_is_whole, .func (PySem.W.fnOf "is_whole" "is_whole" (defArgs s_is_whole) (defBody s_is_whole) (defScope s_is_whole) .none kV_is_whole dc_is_whole pm_is_whole an_is_whole (cd_is_whole) ct_is_whole), sl_is_whole⟩)
    (b_is_whole : PySem.W.codeIn K (cd_is_whole) "is_whole" = true) (k_is_whole : PySem.W.keepIn K (.ref f_is_whole) = true)
    {f_literal_key : Addr} {od_literal_key an_literal_key : Option Addr} {sl_literal_key : Array (Option Value)} {oc_literal_key kV_literal_key dc_literal_key pm_literal_key cd_literal_key ct_literal_key : Value}
    (a_literal_key : PySem.W.nsIn K mainGlobals "literal_key" = some (some (.ref f_literal_key))) (l_literal_key : K.lookup f_literal_key = some ⟨oc_literal_key, od_literal_key, .func (PySem.W.fnOf "literal_key" "literal_key" (defArgs s_literal_key) (defBody s_literal_key) (defScope s_literal_key) .none kV_literal_key dc_literal_key pm_literal_key an_literal_key (cd_literal_key) ct_literal_key), sl_literal_key⟩)
    (b_literal_key : PySem.W.codeIn K (cd_literal_key) "literal_key" = true) (k_literal_key : PySem.W.keepIn K (.ref f_literal_key) = true)
    {f_clause_key : Addr} {od_clause_key an_clause_key : Option Addr} {sl_clause_key : Array (Option Value)} {oc_clause_key kV_clause_key dc_clause_key pm_clause_key cd_clause_key ct_clause_key : Value}
    (a_clause_key : PySem.W.nsIn K mainGlobals "clause_key" = some (some (.ref f_clause_key))) (l_clause_key : K.lookup f_clause_key = some ⟨oc_clause_key, od_clause_key, .func (PySem.W.fnOf "clause_key" "clause_key" (defArgs s_clause_key) (defBody s_clause_key) (defScope s_clause_key) .none kV_clause_key dc_clause_key pm_clause_key an_clause_key (cd_clause_key) ct_clause_key), sl_clause_key⟩)
    (b_clause_key : PySem.W.codeIn K (cd_clause_key) "clause_key" = true) (k_clause_key : PySem.W.keepIn K (.ref f_clause_key) = true)
    {f_ascends : Addr} {od_ascends an_ascends : Option Addr} {sl_ascends : Array (Option Value)} {oc_ascends kV_ascends dc_ascends pm_ascends ct_ascends : Value} {c_ascends t_ascends : Addr}
    (a_ascends : PySem.W.nsIn K mainGlobals "ascends" = some (some (.ref f_ascends))) (l_ascends : K.lookup f_ascends = some ⟨oc_ascends, od_ascends, .func (PySem.W.fnOf "ascends" "ascends" (defArgs s_ascends) (defBody s_ascends) (defScope s_ascends) .none kV_ascends dc_ascends pm_ascends an_ascends (.ref c_ascends) ct_ascends), sl_ascends⟩)
    (b_ascends : PySem.W.codeIn K (.ref c_ascends) "ascends" = true) (k_ascends : PySem.W.keepIn K (.ref f_ascends) = true)
    {f_clause_of : Addr} {od_clause_of an_clause_of : Option Addr} {sl_clause_of : Array (Option Value)} {oc_clause_of kV_clause_of dc_clause_of pm_clause_of ct_clause_of : Value} {c_clause_of t_clause_of : Addr}
    (a_clause_of : PySem.W.nsIn K mainGlobals "clause_of" = some (some (.ref f_clause_of))) (l_clause_of : K.lookup f_clause_of = some ⟨oc_clause_of, od_clause_of, .func (PySem.W.fnOf "clause_of" "clause_of" (defArgs s_clause_of) (defBody s_clause_of) (defScope s_clause_of) .none kV_clause_of dc_clause_of pm_clause_of an_clause_of (.ref c_clause_of) ct_clause_of), sl_clause_of⟩)
    (b_clause_of : PySem.W.codeIn K (.ref c_clause_of) "clause_of" = true) (k_clause_of : PySem.W.keepIn K (.ref f_clause_of) = true)
    {f_residue_of : Addr} {od_residue_of an_residue_of : Option Addr} {sl_residue_of : Array (Option Value)} {oc_residue_of kV_residue_of dc_residue_of pm_residue_of cd_residue_of ct_residue_of : Value}
    (a_residue_of : PySem.W.nsIn K mainGlobals "residue_of" = some (some (.ref f_residue_of))) (l_residue_of : K.lookup f_residue_of = some ⟨oc_residue_of, od_residue_of, .func (PySem.W.fnOf "residue_of" "residue_of" (defArgs s_residue_of) (defBody s_residue_of) (defScope s_residue_of) .none kV_residue_of dc_residue_of pm_residue_of an_residue_of (cd_residue_of) ct_residue_of), sl_residue_of⟩)
    (b_residue_of : PySem.W.codeIn K (cd_residue_of) "residue_of" = true) (k_residue_of : PySem.W.keepIn K (.ref f_residue_of) = true)
    {f_variables_of : Addr} {od_variables_of an_variables_of : Option Addr} {sl_variables_of : Array (Option Value)} {oc_variables_of kV_variables_of dc_variables_of pm_variables_of cd_variables_of ct_variables_of : Value}
    (a_variables_of : PySem.W.nsIn K mainGlobals "variables_of" = some (some (.ref f_variables_of))) (l_variables_of : K.lookup f_variables_of = some ⟨oc_variables_of, od_variables_of, .func (PySem.W.fnOf "variables_of" "variables_of" (defArgs s_variables_of) (defBody s_variables_of) (defScope s_variables_of) .none kV_variables_of dc_variables_of pm_variables_of an_variables_of (cd_variables_of) ct_variables_of), sl_variables_of⟩)
    (b_variables_of : PySem.W.codeIn K (cd_variables_of) "variables_of" = true) (k_variables_of : PySem.W.keepIn K (.ref f_variables_of) = true)
    {f_place_of : Addr} {od_place_of an_place_of : Option Addr} {sl_place_of : Array (Option Value)} {oc_place_of kV_place_of dc_place_of pm_place_of cd_place_of ct_place_of : Value}
    (a_place_of : PySem.W.nsIn K mainGlobals "place_of" = some (some (.ref f_place_of))) (l_place_of : K.lookup f_place_of = some ⟨oc_place_of, od_place_of, .func (PySem.W.fnOf "place_of" "place_of" (defArgs s_place_of) (defBody s_place_of) (defScope s_place_of) .none kV_place_of dc_place_of pm_place_of an_place_of (cd_place_of) ct_place_of), sl_place_of⟩)
    (b_place_of : PySem.W.codeIn K (cd_place_of) "place_of" = true) (k_place_of : PySem.W.keepIn K (.ref f_place_of) = true)
    {f_merged : Addr} {od_merged an_merged : Option Addr} {sl_merged : Array (Option Value)} {oc_merged kV_merged dc_merged pm_merged cd_merged ct_merged : Value}
    (a_merged : PySem.W.nsIn K mainGlobals "merged" = some (some (.ref f_merged))) (l_merged : K.lookup f_merged = some ⟨oc_merged, od_merged, .func (PySem.W.fnOf "merged" "merged" (defArgs s_merged) (defBody s_merged) (defScope s_merged) .none kV_merged dc_merged pm_merged an_merged (cd_merged) ct_merged), sl_merged⟩)
    (b_merged : PySem.W.codeIn K (cd_merged) "merged" = true) (k_merged : PySem.W.keepIn K (.ref f_merged) = true)
    {f_under : Addr} {od_under an_under : Option Addr} {sl_under : Array (Option Value)} {oc_under kV_under dc_under pm_under cd_under ct_under : Value}
    (a_under : PySem.W.nsIn K mainGlobals "under" = some (some (.ref f_under))) (l_under : K.lookup f_under = some ⟨oc_under, od_under, .func (PySem.W.fnOf "under" "under" (defArgs s_under) (defBody s_under) (defScope s_under) .none kV_under dc_under pm_under an_under (cd_under) ct_under), sl_under⟩)
    (b_under : PySem.W.codeIn K (cd_under) "under" = true) (k_under : PySem.W.keepIn K (.ref f_under) = true)
    {f_clause_under : Addr} {od_clause_under an_clause_under : Option Addr} {sl_clause_under : Array (Option Value)} {oc_clause_under kV_clause_under dc_clause_under pm_clause_under cd_clause_under ct_clause_under : Value}
    (a_clause_under : PySem.W.nsIn K mainGlobals "clause_under" = some (some (.ref f_clause_under))) (l_clause_under : K.lookup f_clause_under = some ⟨oc_clause_under, od_clause_under, .func (PySem.W.fnOf "clause_under" "clause_under" (defArgs s_clause_under) (defBody s_clause_under) (defScope s_clause_under) .none kV_clause_under dc_clause_under pm_clause_under an_clause_under (cd_clause_under) ct_clause_under), sl_clause_under⟩)
    (b_clause_under : PySem.W.codeIn K (cd_clause_under) "clause_under" = true) (k_clause_under : PySem.W.keepIn K (.ref f_clause_under) = true)
    {f_given_by : Addr} {od_given_by an_given_by : Option Addr} {sl_given_by : Array (Option Value)} {oc_given_by kV_given_by dc_given_by pm_given_by cd_given_by ct_given_by : Value}
    (a_given_by : PySem.W.nsIn K mainGlobals "given_by" = some (some (.ref f_given_by))) (l_given_by : K.lookup f_given_by = some ⟨oc_given_by, od_given_by, .func (PySem.W.fnOf "given_by" "given_by" (defArgs s_given_by) (defBody s_given_by) (defScope s_given_by) .none kV_given_by dc_given_by pm_given_by an_given_by (cd_given_by) ct_given_by), sl_given_by⟩)
    (b_given_by : PySem.W.codeIn K (cd_given_by) "given_by" = true) (k_given_by : PySem.W.keepIn K (.ref f_given_by) = true)
    {f_under_all : Addr} {od_under_all an_under_all : Option Addr} {sl_under_all : Array (Option Value)} {oc_under_all kV_under_all dc_under_all pm_under_all cd_under_all ct_under_all : Value}
    (a_under_all : PySem.W.nsIn K mainGlobals "under_all" = some (some (.ref f_under_all))) (l_under_all : K.lookup f_under_all = some ⟨oc_under_all, od_under_all, .func (PySem.W.fnOf "under_all" "under_all" (defArgs s_under_all) (defBody s_under_all) (defScope s_under_all) .none kV_under_all dc_under_all pm_under_all an_under_all (cd_under_all) ct_under_all), sl_under_all⟩)
    (b_under_all : PySem.W.codeIn K (cd_under_all) "under_all" = true) (k_under_all : PySem.W.keepIn K (.ref f_under_all) = true)
    {f_is_variable : Addr} {od_is_variable an_is_variable : Option Addr} {sl_is_variable : Array (Option Value)} {oc_is_variable kV_is_variable dc_is_variable pm_is_variable cd_is_variable ct_is_variable : Value}
    (a_is_variable : PySem.W.nsIn K mainGlobals "is_variable" = some (some (.ref f_is_variable))) (l_is_variable : K.lookup f_is_variable = some ⟨oc_is_variable, od_is_variable, .func (PySem.W.fnOf "is_variable" "is_variable" (defArgs s_is_variable) (defBody s_is_variable) (defScope s_is_variable) .none kV_is_variable dc_is_variable pm_is_variable an_is_variable (cd_is_variable) ct_is_variable), sl_is_variable⟩)
    (b_is_variable : PySem.W.codeIn K (cd_is_variable) "is_variable" = true) (k_is_variable : PySem.W.keepIn K (.ref f_is_variable) = true)
    {f_is_literal : Addr} {od_is_literal an_is_literal : Option Addr} {sl_is_literal : Array (Option Value)} {oc_is_literal kV_is_literal dc_is_literal pm_is_literal cd_is_literal ct_is_literal : Value}
    (a_is_literal : PySem.W.nsIn K mainGlobals "is_literal" = some (some (.ref f_is_literal))) (l_is_literal : K.lookup f_is_literal = some ⟨oc_is_literal, od_is_literal, .func (PySem.W.fnOf "is_literal" "is_literal" (defArgs s_is_literal) (defBody s_is_literal) (defScope s_is_literal) .none kV_is_literal dc_is_literal pm_is_literal an_is_literal (cd_is_literal) ct_is_literal), sl_is_literal⟩)
    (b_is_literal : PySem.W.codeIn K (cd_is_literal) "is_literal" = true) (k_is_literal : PySem.W.keepIn K (.ref f_is_literal) = true)
    {f_is_clause : Addr} {od_is_clause an_is_clause : Option Addr} {sl_is_clause : Array (Option Value)} {oc_is_clause kV_is_clause dc_is_clause pm_is_clause ct_is_clause : Value} {c_is_clause t_is_clause : Addr}
    (a_is_clause : PySem.W.nsIn K mainGlobals "is_clause" = some (some (.ref f_is_clause))) (l_is_clause : K.lookup f_is_clause = some ⟨oc_is_clause, od_is_clause, .func (PySem.W.fnOf "is_clause" "is_clause" (defArgs s_is_clause) (defBody s_is_clause) (defScope s_is_clause) .none kV_is_clause dc_is_clause pm_is_clause an_is_clause (.ref c_is_clause) ct_is_clause), sl_is_clause⟩)
    (b_is_clause : PySem.W.codeIn K (.ref c_is_clause) "is_clause" = true) (k_is_clause : PySem.W.keepIn K (.ref f_is_clause) = true)
    {f_is_residue : Addr} {od_is_residue an_is_residue : Option Addr} {sl_is_residue : Array (Option Value)} {oc_is_residue kV_is_residue dc_is_residue pm_is_residue ct_is_residue : Value} {c_is_residue t_is_residue : Addr}
    (a_is_residue : PySem.W.nsIn K mainGlobals "is_residue" = some (some (.ref f_is_residue))) (l_is_residue : K.lookup f_is_residue = some ⟨oc_is_residue, od_is_residue, .func (PySem.W.fnOf "is_residue" "is_residue" (defArgs s_is_residue) (defBody s_is_residue) (defScope s_is_residue) .none kV_is_residue dc_is_residue pm_is_residue an_is_residue (.ref c_is_residue) ct_is_residue), sl_is_residue⟩)
    (b_is_residue : PySem.W.codeIn K (.ref c_is_residue) "is_residue" = true) (k_is_residue : PySem.W.keepIn K (.ref f_is_residue) = true)
    {f_keeps : Addr} {od_keeps an_keeps : Option Addr} {sl_keeps : Array (Option Value)} {oc_keeps kV_keeps dc_keeps pm_keeps ct_keeps : Value} {c_keeps t_keeps : Addr}
    (a_keeps : PySem.W.nsIn K mainGlobals "keeps" = some (some (.ref f_keeps))) (l_keeps : K.lookup f_keeps = some ⟨oc_keeps, od_keeps, .func (PySem.W.fnOf "keeps" "keeps" (defArgs s_keeps) (defBody s_keeps) (defScope s_keeps) .none kV_keeps dc_keeps pm_keeps an_keeps (.ref c_keeps) ct_keeps), sl_keeps⟩)
    (b_keeps : PySem.W.codeIn K (.ref c_keeps) "keeps" = true) (k_keeps : PySem.W.keepIn K (.ref f_keeps) = true)
    {f_l_draw : Addr} {od_l_draw an_l_draw : Option Addr} {sl_l_draw : Array (Option Value)} {oc_l_draw kV_l_draw dc_l_draw pm_l_draw cd_l_draw ct_l_draw : Value}
    (a_l_draw : PySem.W.nsIn K mainGlobals "_law_draw" = some (some (.ref f_l_draw))) (l_l_draw : K.lookup f_l_draw = some ⟨oc_l_draw, od_l_draw, .func (PySem.W.fnOf "_law_draw" "_law_draw" (defArgs s_l_draw) (defBody s_l_draw) (defScope s_l_draw) .none kV_l_draw dc_l_draw pm_l_draw an_l_draw (cd_l_draw) ct_l_draw), sl_l_draw⟩)
    (b_l_draw : PySem.W.codeIn K (cd_l_draw) "_law_draw" = true) (k_l_draw : PySem.W.keepIn K (.ref f_l_draw) = true)
    {f_l_take : Addr} {od_l_take an_l_take : Option Addr} {sl_l_take : Array (Option Value)} {oc_l_take kV_l_take dc_l_take pm_l_take cd_l_take ct_l_take : Value}
    (a_l_take : PySem.W.nsIn K mainGlobals "_law_take" = some (some (.ref f_l_take))) (l_l_take : K.lookup f_l_take = some ⟨oc_l_take, od_l_take, .func (PySem.W.fnOf "_law_take" "_law_take" (defArgs s_l_take) (defBody s_l_take) (defScope s_l_take) .none kV_l_take dc_l_take pm_l_take an_l_take (cd_l_take) ct_l_take), sl_l_take⟩)
    (b_l_take : PySem.W.codeIn K (cd_l_take) "_law_take" = true) (k_l_take : PySem.W.keepIn K (.ref f_l_take) = true)
    {f_l_key : Addr} {od_l_key an_l_key : Option Addr} {sl_l_key : Array (Option Value)} {oc_l_key kV_l_key dc_l_key pm_l_key cd_l_key ct_l_key : Value}
    (a_l_key : PySem.W.nsIn K mainGlobals "_law_key" = some (some (.ref f_l_key))) (l_l_key : K.lookup f_l_key = some ⟨oc_l_key, od_l_key, .func (PySem.W.fnOf "_law_key" "_law_key" (defArgs s_l_key) (defBody s_l_key) (defScope s_l_key) .none kV_l_key dc_l_key pm_l_key an_l_key (cd_l_key) ct_l_key), sl_l_key⟩)
    (b_l_key : PySem.W.codeIn K (cd_l_key) "_law_key" = true) (k_l_key : PySem.W.keepIn K (.ref f_l_key) = true)
    {f_l_sorted : Addr} {od_l_sorted an_l_sorted : Option Addr} {sl_l_sorted : Array (Option Value)} {oc_l_sorted kV_l_sorted dc_l_sorted pm_l_sorted cd_l_sorted ct_l_sorted : Value}
    (a_l_sorted : PySem.W.nsIn K mainGlobals "_law_sorted" = some (some (.ref f_l_sorted))) (l_l_sorted : K.lookup f_l_sorted = some ⟨oc_l_sorted, od_l_sorted, .func (PySem.W.fnOf "_law_sorted" "_law_sorted" (defArgs s_l_sorted) (defBody s_l_sorted) (defScope s_l_sorted) .none kV_l_sorted dc_l_sorted pm_l_sorted an_l_sorted (cd_l_sorted) ct_l_sorted), sl_l_sorted⟩)
    (b_l_sorted : PySem.W.codeIn K (cd_l_sorted) "_law_sorted" = true) (k_l_sorted : PySem.W.keepIn K (.ref f_l_sorted) = true)
    {f_l_clause : Addr} {od_l_clause an_l_clause : Option Addr} {sl_l_clause : Array (Option Value)} {oc_l_clause kV_l_clause dc_l_clause pm_l_clause cd_l_clause ct_l_clause : Value}
    (a_l_clause : PySem.W.nsIn K mainGlobals "_law_clause" = some (some (.ref f_l_clause))) (l_l_clause : K.lookup f_l_clause = some ⟨oc_l_clause, od_l_clause, .func (PySem.W.fnOf "_law_clause" "_law_clause" (defArgs s_l_clause) (defBody s_l_clause) (defScope s_l_clause) .none kV_l_clause dc_l_clause pm_l_clause an_l_clause (cd_l_clause) ct_l_clause), sl_l_clause⟩)
    (b_l_clause : PySem.W.codeIn K (cd_l_clause) "_law_clause" = true) (k_l_clause : PySem.W.keepIn K (.ref f_l_clause) = true)
    {f_l_keeps : Addr} {od_l_keeps an_l_keeps : Option Addr} {sl_l_keeps : Array (Option Value)} {oc_l_keeps kV_l_keeps dc_l_keeps pm_l_keeps cd_l_keeps ct_l_keeps : Value}
    (a_l_keeps : PySem.W.nsIn K mainGlobals "_law_keeps" = some (some (.ref f_l_keeps))) (l_l_keeps : K.lookup f_l_keeps = some ⟨oc_l_keeps, od_l_keeps, .func (PySem.W.fnOf "_law_keeps" "_law_keeps" (defArgs s_l_keeps) (defBody s_l_keeps) (defScope s_l_keeps) .none kV_l_keeps dc_l_keeps pm_l_keeps an_l_keeps (cd_l_keeps) ct_l_keeps), sl_l_keeps⟩)
    (b_l_keeps : PySem.W.codeIn K (cd_l_keeps) "_law_keeps" = true) (k_l_keeps : PySem.W.keepIn K (.ref f_l_keeps) = true)
    {f_l_literals : Addr} {od_l_literals an_l_literals : Option Addr} {sl_l_literals : Array (Option Value)} {oc_l_literals kV_l_literals dc_l_literals pm_l_literals cd_l_literals ct_l_literals : Value}
    (a_l_literals : PySem.W.nsIn K mainGlobals "_law_literals" = some (some (.ref f_l_literals))) (l_l_literals : K.lookup f_l_literals = some ⟨oc_l_literals, od_l_literals, .func (PySem.W.fnOf "_law_literals" "_law_literals" (defArgs s_l_literals) (defBody s_l_literals) (defScope s_l_literals) .none kV_l_literals dc_l_literals pm_l_literals an_l_literals (cd_l_literals) ct_l_literals), sl_l_literals⟩)
    (b_l_literals : PySem.W.codeIn K (cd_l_literals) "_law_literals" = true) (k_l_literals : PySem.W.keepIn K (.ref f_l_literals) = true)
    {f_l_given : Addr} {od_l_given an_l_given : Option Addr} {sl_l_given : Array (Option Value)} {oc_l_given kV_l_given dc_l_given pm_l_given cd_l_given ct_l_given : Value}
    (a_l_given : PySem.W.nsIn K mainGlobals "_law_given" = some (some (.ref f_l_given))) (l_l_given : K.lookup f_l_given = some ⟨oc_l_given, od_l_given, .func (PySem.W.fnOf "_law_given" "_law_given" (defArgs s_l_given) (defBody s_l_given) (defScope s_l_given) .none kV_l_given dc_l_given pm_l_given an_l_given (cd_l_given) ct_l_given), sl_l_given⟩)
    (b_l_given : PySem.W.codeIn K (cd_l_given) "_law_given" = true) (k_l_given : PySem.W.keepIn K (.ref f_l_given) = true)
    {f_law : Addr} {od_law an_law : Option Addr} {sl_law : Array (Option Value)} {oc_law kV_law dc_law pm_law cd_law ct_law : Value}
    (a_law : PySem.W.nsIn K mainGlobals "law" = some (some (.ref f_law))) (l_law : K.lookup f_law = some ⟨oc_law, od_law, .func (PySem.W.fnOf "law" "law" (defArgs s_law) (defBody s_law) (defScope s_law) .none kV_law dc_law pm_law an_law (cd_law) ct_law), sl_law⟩)
    (b_law : PySem.W.codeIn K (cd_law) "law" = true) (k_law : PySem.W.keepIn K (.ref f_law) = true)
    {e_clause_of : Value} {dd_clause_of : Option Addr} {vs_clause_of : Array Value} {sv_clause_of : Array (Option Value)} (lc_clause_of : K.lookup c_clause_of = some ⟨e_clause_of, dd_clause_of, .fields vs_clause_of, sv_clause_of⟩) (lv_clause_of : vs_clause_of[11]? = some (.ref t_clause_of)) (nt_clause_of : K.lookup t_clause_of = none)
    {e_is_clause : Value} {dd_is_clause : Option Addr} {vs_is_clause : Array Value} {sv_is_clause : Array (Option Value)} (lc_is_clause : K.lookup c_is_clause = some ⟨e_is_clause, dd_is_clause, .fields vs_is_clause, sv_is_clause⟩) (lv_is_clause : vs_is_clause[11]? = some (.ref t_is_clause)) (nt_is_clause : K.lookup t_is_clause = none)
    {e_ascends : Value} {dd_ascends : Option Addr} {vs_ascends : Array Value} {sv_ascends : Array (Option Value)} (lc_ascends : K.lookup c_ascends = some ⟨e_ascends, dd_ascends, .fields vs_ascends, sv_ascends⟩) (lv_ascends : vs_ascends[11]? = some (.ref t_ascends)) (nt_ascends : K.lookup t_ascends = none)
    {e_is_residue : Value} {dd_is_residue : Option Addr} {vs_is_residue : Array Value} {sv_is_residue : Array (Option Value)} (lc_is_residue : K.lookup c_is_residue = some ⟨e_is_residue, dd_is_residue, .fields vs_is_residue, sv_is_residue⟩) (lv_is_residue : vs_is_residue[11]? = some (.ref t_is_residue)) (nt_is_residue : K.lookup t_is_residue = none)
    {e_keeps : Value} {dd_keeps : Option Addr} {vs_keeps : Array Value} {sv_keeps : Array (Option Value)} (lc_keeps : K.lookup c_keeps = some ⟨e_keeps, dd_keeps, .fields vs_keeps, sv_keeps⟩) (lv_keeps : vs_keeps[11]? = some (.ref t_keeps)) (nt_keeps : K.lookup t_keeps = none)
    (z_isinstance : PySem.W.nsIn K mainGlobals "isinstance" = some none)
    (z_int : PySem.W.nsIn K mainGlobals "int" = some none)
    (z_bool : PySem.W.nsIn K mainGlobals "bool" = some none)
    (z_tuple : PySem.W.nsIn K mainGlobals "tuple" = some none)
    (z_abs : PySem.W.nsIn K mainGlobals "abs" = some none)
    (z_all : PySem.W.nsIn K mainGlobals "all" = some none)
    (z_any : PySem.W.nsIn K mainGlobals "any" = some none)
    (z_len : PySem.W.nsIn K mainGlobals "len" = some none)
    (z_list : PySem.W.nsIn K mainGlobals "list" = some none)
    (z_range : PySem.W.nsIn K mainGlobals "range" = some none)
    (z_sorted : PySem.W.nsIn K mainGlobals "sorted" = some none)
    {u__GREATEST_VARIABLE : Value} (g__GREATEST_VARIABLE : PySem.W.nsIn K mainGlobals "_GREATEST_VARIABLE" = some (some u__GREATEST_VARIABLE)) (v__GREATEST_VARIABLE : RelV (.int 999) u__GREATEST_VARIABLE) : LamX.LawAtS l w K CX0 11 63 "script" mg fa h := by
  have Gg := G.T.g
  have e := hfa.symm.trans (PySem.W.mg_of X Gg a_law)
  cases e
  have T : Tx K mg u__GREATEST_VARIABLE := ⟨PySem.W.mg_none_of X Gg z_isinstance, PySem.W.mg_none_of X Gg z_int, PySem.W.mg_none_of X Gg z_bool, PySem.W.mg_none_of X Gg z_tuple, PySem.W.mg_none_of X Gg z_abs, PySem.W.mg_none_of X Gg z_all, PySem.W.mg_none_of X Gg z_any, PySem.W.mg_none_of X Gg z_len, PySem.W.mg_none_of X Gg z_list, PySem.W.mg_none_of X Gg z_range, PySem.W.mg_none_of X Gg z_sorted, PySem.W.mg_of X Gg g__GREATEST_VARIABLE, v__GREATEST_VARIABLE⟩
  obtain ⟨CH_clause_of, tE_clause_of⟩ := PySem.W.tab_of G.T X hR_clause_of (tab_in a_clause_of l_clause_of rfl lc_clause_of lv_clause_of)
  obtain ⟨CH_is_clause, tE_is_clause⟩ := PySem.W.tab_of G.T X hR_is_clause (tab_in a_is_clause l_is_clause rfl lc_is_clause lv_is_clause)
  obtain ⟨CH_ascends, tE_ascends⟩ := PySem.W.tab_of G.T X hR_ascends (tab_in a_ascends l_ascends rfl lc_ascends lv_ascends)
  obtain ⟨CH_is_residue, tE_is_residue⟩ := PySem.W.tab_of G.T X hR_is_residue (tab_in a_is_residue l_is_residue rfl lc_is_residue lv_is_residue)
  obtain ⟨CH_keeps, tE_keeps⟩ := PySem.W.tab_of G.T X hR_keeps (tab_in a_keeps l_keeps rfl lc_keeps lv_keeps)
  have F_is_whole := fun_mk (st := s_is_whole) l_is_whole b_is_whole k_is_whole
  have F_literal_key := fun_mk (st := s_literal_key) l_literal_key b_literal_key k_literal_key
  have F_clause_key := fun_mk (st := s_clause_key) l_clause_key b_clause_key k_clause_key
  have F_ascends := func_mk (st := s_ascends) l_ascends b_ascends
  have F_clause_of := func_mk (st := s_clause_of) l_clause_of b_clause_of
  have F_residue_of := fun_mk (st := s_residue_of) l_residue_of b_residue_of k_residue_of
  have F_variables_of := fun_mk (st := s_variables_of) l_variables_of b_variables_of k_variables_of
  have F_place_of := fun_mk (st := s_place_of) l_place_of b_place_of k_place_of
  have F_merged := fun_mk (st := s_merged) l_merged b_merged k_merged
  have F_under := fun_mk (st := s_under) l_under b_under k_under
  have F_clause_under := fun_mk (st := s_clause_under) l_clause_under b_clause_under k_clause_under
  have F_given_by := fun_mk (st := s_given_by) l_given_by b_given_by k_given_by
  have F_under_all := fun_mk (st := s_under_all) l_under_all b_under_all k_under_all
  have F_is_variable := fun_mk (st := s_is_variable) l_is_variable b_is_variable k_is_variable
  have F_is_literal := fun_mk (st := s_is_literal) l_is_literal b_is_literal k_is_literal
  have F_is_clause := func_mk (st := s_is_clause) l_is_clause b_is_clause
  have F_is_residue := func_mk (st := s_is_residue) l_is_residue b_is_residue
  have F_keeps := func_mk (st := s_keeps) l_keeps b_keeps
  have F_l_draw := fun_mk (st := s_l_draw) l_l_draw b_l_draw k_l_draw
  have F_l_take := fun_mk (st := s_l_take) l_l_take b_l_take k_l_take
  have F_l_key := fun_mk (st := s_l_key) l_l_key b_l_key k_l_key
  have F_l_sorted := fun_mk (st := s_l_sorted) l_l_sorted b_l_sorted k_l_sorted
  have F_l_clause := fun_mk (st := s_l_clause) l_l_clause b_l_clause k_l_clause
  have F_l_keeps := fun_mk (st := s_l_keeps) l_l_keeps b_l_keeps k_l_keeps
  have F_l_literals := fun_mk (st := s_l_literals) l_l_literals b_l_literals k_l_literals
  have F_l_given := fun_mk (st := s_l_given) l_l_given b_l_given k_l_given
  have F_law := fun_mk (st := s_law) l_law b_law k_law
  refine ⟨PySem.W.fnOf "law" "law" (defArgs s_law) (defBody s_law) (defScope s_law) .none kV_law dc_law pm_law an_law cd_law ct_law, [(c_clause_of, t_clause_of), (c_is_clause, t_is_clause), (c_ascends, t_ascends), (c_is_residue, t_is_residue), (c_keeps, t_keeps)], spLaw K t_clause_of t_is_clause t_ascends t_is_residue t_keeps, ?_, ?_, ?_, fun s v => .of_eq rfl, ?_, fun base KB MB hTB => ?_⟩
  · intro p hp
    simp only [List.mem_cons, List.not_mem_nil, or_false] at hp
    rcases hp with rfl | rfl | rfl | rfl | rfl
    · exact tE_clause_of
    · exact tE_is_clause
    · exact tE_ascends
    · exact tE_is_residue
    · exact tE_keeps
  · intro p hp
    simp only [List.mem_cons, List.not_mem_nil, or_false] at hp
    rcases hp with rfl | rfl | rfl | rfl | rfl
    · exact nt_clause_of
    · exact nt_is_clause
    · exact nt_ascends
    · exact nt_is_residue
    · exact nt_keeps
  · intro p hp
    simp only [List.mem_cons, List.not_mem_nil, or_false] at hp
    rcases hp with rfl | rfl | rfl | rfl | rfl
    · exact CH_clause_of
    · exact CH_is_clause
    · exact CH_ascends
    · exact CH_is_residue
    · exact CH_keeps
  · intro H a ns hl _ ht hS
    exact ⟨a, ns, rfl, hS, hl, ⟨#[], ht _ (.head _), True.intro⟩, ⟨#[], ht _ (.tail _ (.head _)), True.intro⟩, ⟨#[], ht _ (.tail _ (.tail _ (.head _))), True.intro⟩, ⟨#[], ht _ (.tail _ (.tail _ (.tail _ (.head _)))), True.intro⟩, ⟨#[], ht _ (.tail _ (.tail _ (.tail _ (.tail _ (.head _))))), True.intro⟩, fun _ => rfl⟩
  have TB0_clause_of := hTB _ (.head _)
  have TB_clause_of : GxR.TabB base mg c_clause_of t_clause_of := ⟨TB0_clause_of.code, TB0_clause_of.bm, TB0_clause_of.gP⟩
  have TB0_is_clause := hTB _ (.tail _ (.head _))
  have TB_is_clause : GxR.TabB base mg c_is_clause t_is_clause := ⟨TB0_is_clause.code, TB0_is_clause.bm, TB0_is_clause.gP⟩
  have TB0_ascends := hTB _ (.tail _ (.tail _ (.head _)))
  have TB_ascends : GxR.TabB base mg c_ascends t_ascends := ⟨TB0_ascends.code, TB0_ascends.bm, TB0_ascends.gP⟩
  have TB0_is_residue := hTB _ (.tail _ (.tail _ (.tail _ (.head _))))
  have TB_is_residue : GxR.TabB base mg c_is_residue t_is_residue := ⟨TB0_is_residue.code, TB0_is_residue.bm, TB0_is_residue.gP⟩
  have TB0_keeps := hTB _ (.tail _ (.tail _ (.tail _ (.tail _ (.head _)))))
  have TB_keeps : GxR.TabB base mg c_keeps t_keeps := ⟨TB0_keeps.code, TB0_keeps.bm, TB0_keeps.gP⟩
  have D_is_whole : Df l.prog w K mg base 1 "is_whole" ["value"] spWhole := df_of (ok_is_whole F_is_whole T) (PySem.W.mg_of X Gg a_is_whole) k_is_whole (Binds.all fun us hl => match us, hl with | [_], _ => rfl)
  have D_is_variable : Df l.prog w K mg base 2 "is_variable" ["value"] spVar := df_of (ok_is_variable F_is_variable T D_is_whole) (PySem.W.mg_of X Gg a_is_variable) k_is_variable (Binds.all fun us hl => match us, hl with | [_], _ => rfl)
  have D_is_literal : Df l.prog w K mg base 3 "is_literal" ["value"] spLit := df_of (ok_is_literal F_is_literal T D_is_whole D_is_variable) (PySem.W.mg_of X Gg a_is_literal) k_is_literal (Binds.all fun us hl => match us, hl with | [_], _ => rfl)
  have D_literal_key : Df l.prog w K mg base 1 "literal_key" ["literal"] spKey := df_of (ok_literal_key F_literal_key T) (PySem.W.mg_of X Gg a_literal_key) k_literal_key (Binds.all fun us hl => match us, hl with | [_], _ => rfl)
  have D_clause_key : Df l.prog w K mg base 2 "clause_key" ["clause"] spCKey := df_of (ok_clause_key F_clause_key T D_literal_key) (PySem.W.mg_of X Gg a_clause_key) k_clause_key (Binds.all fun us hl => match us, hl with | [_], _ => rfl)
  have D_ascends : Df l.prog w K mg base 4 "ascends" ["keys"] (spAsc K t_ascends) := df_of (ok_ascends F_ascends T TB_ascends) (PySem.W.mg_of X Gg a_ascends) k_ascends (Binds.all fun us hl => match us, hl with | [_], _ => rfl)
  have D_clause_of : Df l.prog w K mg base 4 "clause_of" ["literals"] (spClauseOf t_clause_of) := df_of (ok_clause_of F_clause_of T TB_clause_of D_literal_key) (PySem.W.mg_of X Gg a_clause_of) k_clause_of (Binds.all fun us hl => match us, hl with | [_], _ => rfl)
  have D_residue_of : Df l.prog w K mg base 4 "residue_of" ["clauses"] spResidueOf := df_of (ok_residue_of F_residue_of T D_clause_key) (PySem.W.mg_of X Gg a_residue_of) k_residue_of (Binds.all fun us hl => match us, hl with | [_], _ => rfl)
  have D_variables_of : Df l.prog w K mg base 1 "variables_of" ["residue"] spVarsOf := df_of (ok_variables_of F_variables_of T) (PySem.W.mg_of X Gg a_variables_of) k_variables_of (Binds.all fun us hl => match us, hl with | [_], _ => rfl)
  have D_place_of : Df l.prog w K mg base 3 "place_of" ["clause", "rows"] spPlace := df_of (ok_place_of F_place_of T D_clause_key) (PySem.W.mg_of X Gg a_place_of) k_place_of (Binds.all fun us hl => match us, hl with | [_, _], _ => rfl)
  have D_merged : Df l.prog w K mg base 4 "merged" ["rows", "clauses"] spMerged := df_of (ok_merged F_merged T D_place_of) (PySem.W.mg_of X Gg a_merged) k_merged (Binds.all fun us hl => match us, hl with | [_, _], _ => rfl)
  have D_under : Df l.prog w K mg base 5 "under" ["residue", "literal"] spUnder := df_of (ok_under F_under T D_merged) (PySem.W.mg_of X Gg a_under) k_under (Binds.all fun us hl => match us, hl with | [_, _], _ => rfl)
  have D_clause_under : Df l.prog w K mg base 1 "clause_under" ["clause", "given"] spClauseUnder := df_of (ok_clause_under F_clause_under T) (PySem.W.mg_of X Gg a_clause_under) k_clause_under (Binds.all fun us hl => match us, hl with | [_, _], _ => rfl)
  have D_given_by : Df l.prog w K mg base 1 "given_by" ["literals"] spGivenBy := df_of (ok_given_by F_given_by T) (PySem.W.mg_of X Gg a_given_by) k_given_by (Binds.all fun us hl => match us, hl with | [_], _ => rfl)
  have D_under_all : Df l.prog w K mg base 5 "under_all" ["residue", "literals"] spUnderAll := df_of (ok_under_all F_under_all T D_given_by D_clause_under D_merged) (PySem.W.mg_of X Gg a_under_all) k_under_all (Binds.all fun us hl => match us, hl with | [_, _], _ => rfl)
  have D_is_clause : Df l.prog w K mg base 7 "is_clause" ["value"] (spIsClause K t_is_clause t_ascends) := df_of (ok_is_clause F_is_clause T TB_is_clause D_is_literal D_ascends) (PySem.W.mg_of X Gg a_is_clause) k_is_clause (Binds.all fun us hl => match us, hl with | [_], _ => rfl)
  have D_is_residue : Df l.prog w K mg base 10 "is_residue" ["value"] (spIsResidue K t_is_clause t_ascends t_is_residue) := df_of (ok_is_residue F_is_residue T TB_is_residue D_clause_key D_is_clause D_ascends) (PySem.W.mg_of X Gg a_is_residue) k_is_residue (Binds.all fun us hl => match us, hl with | [_], _ => rfl)
  have D_keeps : Df l.prog w K mg base 4 "keeps" ["residue", "filling"] (spKeeps t_keeps) := df_of (ok_keeps F_keeps T TB_keeps) (PySem.W.mg_of X Gg a_keeps) k_keeps (Binds.all fun us hl => match us, hl with | [_, _], _ => rfl)
  have D_l_draw : Df l.prog w K mg base 1 "_law_draw" ["script"] (spDrawC K) := df_of (ok_l_draw F_l_draw T) (PySem.W.mg_of X Gg a_l_draw) k_l_draw (Binds.all fun us hl => match us, hl with | [_], _ => rfl)
  have D_l_take : Df l.prog w K mg base 1 "_law_take" ["draw", "many"] spTakeC := df_of (ok_l_take F_l_take T) (PySem.W.mg_of X Gg a_l_take) k_l_take (Binds.all fun us hl => match us, hl with | [_, _], _ => rfl)
  have D_l_key : Df l.prog w K mg base 1 "_law_key" ["literal"] spKey := df_of (ok_l_key F_l_key T) (PySem.W.mg_of X Gg a_l_key) k_l_key (Binds.all fun us hl => match us, hl with | [_], _ => rfl)
  have D_l_sorted : Df l.prog w K mg base 2 "_law_sorted" ["rows"] spLSorted := df_of (ok_l_sorted F_l_sorted T D_l_key) (PySem.W.mg_of X Gg a_l_sorted) k_l_sorted (Binds.all fun us hl => match us, hl with | [_], _ => rfl)
  have D_l_clause : Df l.prog w K mg base 2 "_law_clause" ["literals"] spLClause := df_of (ok_l_clause F_l_clause T D_l_key) (PySem.W.mg_of X Gg a_l_clause) k_l_clause (Binds.all fun us hl => match us, hl with | [_], _ => rfl)
  have D_l_keeps : Df l.prog w K mg base 1 "_law_keeps" ["residue", "filling"] spLKeeps := df_of (ok_l_keeps F_l_keeps T) (PySem.W.mg_of X Gg a_l_keeps) k_l_keeps (Binds.all fun us hl => match us, hl with | [_, _], _ => rfl)
  have D_l_literals : Df l.prog w K mg base 2 "_law_literals" ["draw"] spLLits := df_of (ok_l_literals F_l_literals T D_l_take) (PySem.W.mg_of X Gg a_l_literals) k_l_literals (Binds.all fun us hl => match us, hl with | [_], _ => rfl)
  have D_l_given : Df l.prog w K mg base 3 "_law_given" ["rows", "literal"] spLGiven := df_of (ok_l_given F_l_given T D_l_sorted) (PySem.W.mg_of X Gg a_l_given) k_l_given (Binds.all fun us hl => match us, hl with | [_, _], _ => rfl)
  exact ok_law F_law T D_l_draw D_l_take D_l_literals D_l_clause D_clause_of D_clause_key D_l_key D_literal_key D_is_clause D_residue_of D_l_sorted D_is_residue D_variables_of D_l_given D_under D_under_all D_keeps D_l_keeps
end Ky
open PySem PySem.W PyProof.Rows in
set_option maxRecDepth 100000 in
set_option maxHeartbeats 0 in
theorem PySem.Challenge.cw_countsworn_k01_clauses_and_residues_holds : PySem.Challenge.rw_countsworn_k01_clauses_and_residues.Holds := by
  w_on; o_law; k_head; (case hw => w_witness2)
  k_fill
  refine Ky.walk_own (l := PySem.Challenge.rw_countsworn_k01_clauses_and_residues) (n := 63) (k := 11) (x := "script") rfl (by decide) rfl ⟨rfl, by decide, by decide⟩ (fun w h Y => PySem.W.kIn_of Y) ?F
  case F =>
    intro w s0 mg mb fa h G Y hmg KX
    refine' Ky.all_mk KX G hmg ?hR_clause_of ?hR_is_clause ?hR_ascends ?hR_is_residue ?hR_keeps ?a_is_whole ?l_is_whole ?b_is_whole ?k_is_whole ?a_literal_key ?l_literal_key ?b_literal_key ?k_literal_key ?a_clause_key ?l_clause_key ?b_clause_key ?k_clause_key ?a_ascends ?l_ascends ?b_ascends ?k_ascends ?a_clause_of ?l_clause_of ?b_clause_of ?k_clause_of ?a_residue_of ?l_residue_of ?b_residue_of ?k_residue_of ?a_variables_of ?l_variables_of ?b_variables_of ?k_variables_of ?a_place_of ?l_place_of ?b_place_of ?k_place_of ?a_merged ?l_merged ?b_merged ?k_merged ?a_under ?l_under ?b_under ?k_under ?a_clause_under ?l_clause_under ?b_clause_under ?k_clause_under ?a_given_by ?l_given_by ?b_given_by ?k_given_by ?a_under_all ?l_under_all ?b_under_all ?k_under_all ?a_is_variable ?l_is_variable ?b_is_variable ?k_is_variable ?a_is_literal ?l_is_literal ?b_is_literal ?k_is_literal ?a_is_clause ?l_is_clause ?b_is_clause ?k_is_clause ?a_is_residue ?l_is_residue ?b_is_residue ?k_is_residue ?a_keeps ?l_keeps ?b_keeps ?k_keeps ?a_l_draw ?l_l_draw ?b_l_draw ?k_l_draw ?a_l_take ?l_l_take ?b_l_take ?k_l_take ?a_l_key ?l_l_key ?b_l_key ?k_l_key ?a_l_sorted ?l_l_sorted ?b_l_sorted ?k_l_sorted ?a_l_clause ?l_l_clause ?b_l_clause ?k_l_clause ?a_l_keeps ?l_l_keeps ?b_l_keeps ?k_l_keeps ?a_l_literals ?l_l_literals ?b_l_literals ?k_l_literals ?a_l_given ?l_l_given ?b_l_given ?k_l_given ?a_law ?l_law ?b_law ?k_law ?lc_clause_of ?lv_clause_of ?nt_clause_of ?lc_is_clause ?lv_is_clause ?nt_is_clause ?lc_ascends ?lv_ascends ?nt_ascends ?lc_is_residue ?lv_is_residue ?nt_is_residue ?lc_keeps ?lv_keeps ?nt_keeps ?z_isinstance ?z_int ?z_bool ?z_tuple ?z_abs ?z_all ?z_any ?z_len ?z_list ?z_range ?z_sorted ?g__GREATEST_VARIABLE ?v__GREATEST_VARIABLE
    (case hR_clause_of => rfl)
    (case hR_is_clause => rfl)
    (case hR_ascends => rfl)
    (case hR_is_residue => rfl)
    (case hR_keeps => rfl)
    (case a_is_whole => k_is)
    (case l_is_whole => k_is)
    (case b_is_whole => k_is)
    (case k_is_whole => k_is)
    (case a_literal_key => k_is)
    (case l_literal_key => k_is)
    (case b_literal_key => k_is)
    (case k_literal_key => k_is)
    (case a_clause_key => k_is)
    (case l_clause_key => k_is)
    (case b_clause_key => k_is)
    (case k_clause_key => k_is)
    (case a_ascends => k_is)
    (case l_ascends => k_is)
    (case b_ascends => k_is)
    (case k_ascends => k_is)
    (case a_clause_of => k_is)
    (case l_clause_of => k_is)
    (case b_clause_of => k_is)
    (case k_clause_of => k_is)
    (case a_residue_of => k_is)
    (case l_residue_of => k_is)
    (case b_residue_of => k_is)
    (case k_residue_of => k_is)
    (case a_variables_of => k_is)
    (case l_variables_of => k_is)
    (case b_variables_of => k_is)
    (case k_variables_of => k_is)
    (case a_place_of => k_is)
    (case l_place_of => k_is)
    (case b_place_of => k_is)
    (case k_place_of => k_is)
    (case a_merged => k_is)
    (case l_merged => k_is)
    (case b_merged => k_is)
    (case k_merged => k_is)
    (case a_under => k_is)
    (case l_under => k_is)
    (case b_under => k_is)
    (case k_under => k_is)
    (case a_clause_under => k_is)
    (case l_clause_under => k_is)
    (case b_clause_under => k_is)
    (case k_clause_under => k_is)
    (case a_given_by => k_is)
    (case l_given_by => k_is)
    (case b_given_by => k_is)
    (case k_given_by => k_is)
    (case a_under_all => k_is)
    (case l_under_all => k_is)
    (case b_under_all => k_is)
    (case k_under_all => k_is)
    (case a_is_variable => k_is)
    (case l_is_variable => k_is)
    (case b_is_variable => k_is)
    (case k_is_variable => k_is)
    (case a_is_literal => k_is)
    (case l_is_literal => k_is)
    (case b_is_literal => k_is)
    (case k_is_literal => k_is)
    (case a_is_clause => k_is)
    (case l_is_clause => k_is)
    (case b_is_clause => k_is)
    (case k_is_clause => k_is)
    (case a_is_residue => k_is)
    (case l_is_residue => k_is)
    (case b_is_residue => k_is)
    (case k_is_residue => k_is)
    (case a_keeps => k_is)
    (case l_keeps => k_is)
    (case b_keeps => k_is)
    (case k_keeps => k_is)
    (case a_l_draw => k_is)
    (case l_l_draw => k_is)
    (case b_l_draw => k_is)
    (case k_l_draw => k_is)
    (case a_l_take => k_is)
    (case l_l_take => k_is)
    (case b_l_take => k_is)
    (case k_l_take => k_is)
    (case a_l_key => k_is)
    (case l_l_key => k_is)
    (case b_l_key => k_is)
    (case k_l_key => k_is)
    (case a_l_sorted => k_is)
    (case l_l_sorted => k_is)
    (case b_l_sorted => k_is)
    (case k_l_sorted => k_is)
    (case a_l_clause => k_is)
    (case l_l_clause => k_is)
    (case b_l_clause => k_is)
    (case k_l_clause => k_is)
    (case a_l_keeps => k_is)
    (case l_l_keeps => k_is)
    (case b_l_keeps => k_is)
    (case k_l_keeps => k_is)
    (case a_l_literals => k_is)
    (case l_l_literals => k_is)
    (case b_l_literals => k_is)
    (case k_l_literals => k_is)
    (case a_l_given => k_is)
    (case l_l_given => k_is)
    (case b_l_given => k_is)
    (case k_l_given => k_is)
    (case a_law => k_is)
    (case l_law => k_is)
    (case b_law => k_is)
    (case k_law => k_is)
    (case lc_clause_of => k_is)
    (case lv_clause_of => exact rfl)
    (case nt_clause_of => first | exact rfl | decide +kernel)
    (case lc_is_clause => k_is)
    (case lv_is_clause => exact rfl)
    (case nt_is_clause => first | exact rfl | decide +kernel)
    (case lc_ascends => k_is)
    (case lv_ascends => exact rfl)
    (case nt_ascends => first | exact rfl | decide +kernel)
    (case lc_is_residue => k_is)
    (case lv_is_residue => exact rfl)
    (case nt_is_residue => first | exact rfl | decide +kernel)
    (case lc_keeps => k_is)
    (case lv_keeps => exact rfl)
    (case nt_keeps => first | exact rfl | decide +kernel)
    (case z_isinstance => k_is)
    (case z_int => k_is)
    (case z_bool => k_is)
    (case z_tuple => k_is)
    (case z_abs => k_is)
    (case z_all => k_is)
    (case z_any => k_is)
    (case z_len => k_is)
    (case z_list => k_is)
    (case z_range => k_is)
    (case z_sorted => k_is)
    (case g__GREATEST_VARIABLE => k_is)
    (case v__GREATEST_VARIABLE => exact ⟨_, rfl⟩)

import PyProof.Rows.All
import Wide.All
import OpenK.AllK
import Wide.FinOn
import HandS.ForMost
import HandS.AnyAll
import HandS.EndTab
import HandS.Style
import HandS.Gcd
import HandS.Wide
import HandS.StrMore
import HandS.Evl
import KE.KNest
import HandS.GenList
import PyProof.GenArm
import KE.SortKeyHeap
import KE.SortData
import KE.DataCmp
import HandS.SortKw
import HandS.DictComp
import HandS.Conv
import HandS.SetBool
import HandS.Strs
import HandS.IsInst
import HandS.More
import HandS.TupLe
import HandS.TupAny
import HandS.SetFor
import PyProof.Rows.SortShellAny
import PyProof.Rows.SortStr
import HandS.Small
import HandS.WordsDict
import KE.DataFind
import HandS.RevRange
import PySem.Challenge.RW_countsworn_k33_nodes_that_are_reached
set_option Elab.async false
set_option linter.all false
set_option maxRecDepth 100000
set_option maxHeartbeats 4000000
namespace Ky
open PySem PySem.Spec PyProof.Rows L2
/-! ### what stays -/
def NoTab (o : HO) : Prop := ∀ ps, o ≠ HO.tbl ps
theorem noTab_tup {xs : List V} : NoTab (.tup xs) := fun ps e => by cases e
theorem noTab_lst {xs : List V} : NoTab (.lst xs) := fun ps e => by cases e
/-- the cells to draw from, at d -/
def Drw (K : PySem.W.Frag) (H : Hp) (d : Addr) : Prop := ∃ (c : Addr) (ns : List Int) (a u z : Int),
  H d = some (.lst [.ref c, .int a, .int u, .int z]) ∧ H c = some (.lst (ns.map V.int)) ∧ -1 ≤ a
theorem Drw.ne {K : PySem.W.Frag} {H : Hp} {d : Addr} (h : Drw K H d) : ∃ xs, H d = some (.lst xs) := by
  obtain ⟨c, ns, a, u, z, h1, _⟩ := h
  exact ⟨_, h1⟩
structure Kept (H H' : Hp) : Prop where
  keep : ∀ b o, NoTab o → H b = some o → H' b = some o
  tab : ∀ P, GxR.TabG H P → GxR.TabG H' P
  free : ∀ b, H' b = none → H b = none
structure KeptD (K : PySem.W.Frag) (d : Addr) (H H' : Hp) : Prop where
  keep : ∀ b o, b ≠ d → NoTab o → H b = some o → H' b = some o
  drw : Drw K H d → Drw K H' d
  tab : ∀ P, GxR.TabG H P → GxR.TabG H' P
  free : ∀ b, H' b = none → H b = none
theorem Kept.refl (H : Hp) : Kept H H := ⟨fun _ _ _ h => h, fun _ h => h, fun _ h => h⟩
theorem Kept.trans {H H1 H2 : Hp} (a : Kept H H1) (b : Kept H1 H2) : Kept H H2 := ⟨fun c o n h => b.keep c o n (a.keep c o n h), fun P h => b.tab P (a.tab P h), fun c h => a.free c (b.free c h)⟩
theorem KeptD.refl {K : PySem.W.Frag} {d : Addr} (H : Hp) : KeptD K d H H := ⟨fun _ _ _ _ h => h, fun h => h, fun _ h => h, fun _ h => h⟩
theorem KeptD.trans {K : PySem.W.Frag} {d : Addr} {H H1 H2 : Hp} (a : KeptD K d H H1) (b : KeptD K d H1 H2) : KeptD K d H H2 :=
  ⟨fun c o n m h => b.keep c o n m (a.keep c o n m h), fun h => b.drw (a.drw h), fun P h => b.tab P (a.tab P h), fun c h => a.free c (b.free c h)⟩
theorem Kept.toD {K : PySem.W.Frag} {d : Addr} {H H' : Hp} (a : Kept H H') : KeptD K d H H' := ⟨fun b o _ n h => a.keep b o n h, fun h => by
  obtain ⟨c, ns, i, u, z, h1, h2, h3⟩ := h
  exact ⟨c, ns, i, u, z, a.keep _ _ noTab_lst h1, a.keep _ _ noTab_lst h2, h3⟩, a.tab, a.free⟩
theorem upd_free {H : Hp} {p b : Addr} {o : HO} (h : upd H p o b = none) : H b = none ∧ b ≠ p := by
  by_cases z : b = p
  · rw [z, upd_same] at h
    cases h
  · rw [upd_ne z] at h
    exact ⟨h, z⟩
theorem Kept.new {H : Hp} {p : Addr} {o : HO} (h : H p = none) : Kept H (upd H p o) := ⟨fun a u _ e => by
  rw [upd_ne (ne_of_none e h)]
  exact e, fun P hP => by
  obtain ⟨ps, h1, h2⟩ := hP
  exact ⟨ps, by rw [upd_ne (ne_of_none h1 h)]; exact h1, h2⟩, fun b hb => (upd_free hb).1⟩
theorem Kept.mut {H H' : Hp} {p : Addr} {o : HO} (e : Kept H H') (h : H p = none) : Kept H (upd H' p o) := ⟨fun a u n ha => by
  rw [upd_ne (ne_of_none ha h)]
  exact e.keep a u n ha, fun P hP => by
  obtain ⟨ps, h1, h2⟩ := hP
  have nP := ne_of_none h1 h
  obtain ⟨qs, g1, g2⟩ := e.tab P ⟨ps, h1, h2⟩
  exact ⟨qs, by rw [upd_ne nP]; exact g1, g2⟩, fun b hb => e.free b (upd_free hb).1⟩
theorem Kept.tabbed {H H' : Hp} {P : Addr} (hP : GxR.TabG H P) (e : GxR.Tabbed P H H') : Kept H H' := ⟨fun b o n h => by
  have nP : b ≠ P := fun z => by
    obtain ⟨ps, h1, _⟩ := hP
    rw [z, h1] at h
    exact n ps (Option.some.inj h).symm
  rw [e.2 b nP]
  exact h, fun P' h' => by
  by_cases z : P' = P
  · rw [z]
    exact e.1
  · obtain ⟨ps, h1, h2⟩ := h'
    exact ⟨ps, by rw [e.2 P' z]; exact h1, h2⟩, fun b h => by
  by_cases z : b = P
  · obtain ⟨ps, h1, _⟩ := e.1
    rw [z, h1] at h
    cases h
  · rw [e.2 b z] at h
    exact h⟩
theorem Kept.sq {K : PySem.W.Frag} {H H' : Hp} {a : Addr} {xs : List V} (e : Kept H H') (h : SqL K H a xs) : SqL K H' a xs := by
  rcases h with (h | ⟨o, h⟩) | h
  · exact .inl (.inl (e.keep _ _ noTab_lst h))
  · exact .inl (.inr ⟨o, e.keep _ _ (fun ps z => by cases z) h⟩)
  · exact .inr h
theorem Kept.tup {H H' : Hp} {p : Addr} {xs : List V} (e : Kept H H') (h : H p = some (.tup xs)) : H' p = some (.tup xs) := e.keep _ _ noTab_tup h
theorem Kept.lst {H H' : Hp} {p : Addr} {xs : List V} (e : Kept H H') (h : H p = some (.lst xs)) : H' p = some (.lst xs) := e.keep _ _ noTab_lst h
theorem KeptD.tup {K : PySem.W.Frag} {d : Addr} {H H' : Hp} {p : Addr} {xs : List V} (e : KeptD K d H H') (hd : Drw K H d) (h : H p = some (.tup xs)) : H' p = some (.tup xs) := e.keep _ _ (fun z => by
  obtain ⟨ys, h'⟩ := hd.ne
  rw [z, h'] at h
  cases h) noTab_tup h
theorem KeptD.lst {K : PySem.W.Frag} {d : Addr} {H H' : Hp} {p : Addr} {xs : List V} (e : KeptD K d H H') (hd : p ≠ d) (h : H p = some (.lst xs)) : H' p = some (.lst xs) := e.keep _ _ hd noTab_lst h
/-! ### a def of the module, to be called -/
structure Df (P : Program) (w : World) (K : PySem.W.Frag) (mg : Str → Option Value) (base : Heap) (k : Nat) (x : Str) (ps : List Str) (sp : Sp) : Prop where
  ex : ∃ f fd, FnOk P w K mg base CX0 k f fd ps sp ∧ mg x = some (.ref f) ∧ PySem.W.keepIn K (.ref f) = true ∧ Binds K fd ps []
section
variable {X : Cx} {k : Nat} {ps : List Str} {sp : Sp} {x : Str} {p pos : Pos} {e : Expr} {es : List Expr} {t : TA}
theorem pe_df (D : Df X.prog X.w X.K X.mg X.base k x ps sp) (hr : Room k X.A) (hg : Gl X x) (ha : PA X (e :: es) t) (hdb : (x == ("__debug__" : Str)) = false := by decide)
    (he : starEach (e :: es) X.env = (false, eval e X.env) :: starEach es X.env := by rfl) (hpl : (backTo pos (starEach es X.env)).any (·.1) = false := by rfl) :
    PE X (.Call (.Name x p) (e :: es) [] pos) (tCall sp [] E0 t) := by
  obtain ⟨f, fd, F, hm, hk, hb⟩ := D.ex
  exact pe_call F hr hg hm hk hb .nil pass0 ha hdb he hpl
end
/-! ### a def whose code object is told -/
structure FunC (K : PySem.W.Frag) (x : Str) (st : Stmt) (f : Addr) (fd : FuncData) (c : Addr) : Prop where
  ex : ∃ (oc : Value) (od : Option Addr) (kV doc pm : Value) (an : Option Addr) (ct : Value) (osl : Array (Option Value)),
    fd = PySem.W.fnOf x x (defArgs st) (defBody st) (defScope st) .none kV doc pm an (.ref c) ct ∧ K.lookup f = some ⟨oc, od, .func fd, osl⟩ ∧ PySem.W.codeIn K (.ref c) x = true
theorem FunC.ok {P : Program} {w : World} {K : PySem.W.Frag} {mg : Str → Option Value} {base : Heap} {x : Str} {st : Stmt} {f c : Addr} {fd : FuncData} {N ps : List Str} {k : Nat} {sp : Sp} (F : FunC K x st f fd c) (S : FnScope N ps (defScope st)) (len : ∀ vs H Q E, sp vs H Q E → vs.length = ps.length)
    (body : ∀ (A : Around) (outer : List Env) (s : Shared) (H : Hp) (vs : List V) (Q : VK) (E : XK), Room k (A.deeper (envOfC x (defScope st) s.heap.objs.size f (.ref c))) → sp vs H Q E →
      ∃ t, PSs (cxOf CX0 P w K mg base N x (defScope st) f (.ref c) A outer s H E).nox (defBody st) t ∧ t { nx := fun _ H' => Q .non H', rt := Q } (start N vs) H) : FnOk P w K mg base CX0 (k + 1) f fd ps sp := by
  obtain ⟨oc, od, kV, doc, pm, an, ct, osl, e, lk, hcd⟩ := F.ex
  subst e
  refine fn_of lk hcd S len fun A outer s H vs Q E hr hsp => ?_
  obtain ⟨t, h, q⟩ := body A outer s H vs Q E hr hsp
  exact ⟨t, h.nox, q⟩
/-- one sign among those of a written text, as the test of a generator expression -/
theorem elt_in {prog : Program} {w : World} {scope : Scope} {x k : Str} {j : Nat} {p1 p2 p3 : Pos} (hk : scope.kind = .function) (hl : scope.names.lookup x = some .local) (hd : (x == ("__debug__" : Str)) = false := by decide) :
    GxR.EltP prog w scope x (.Compare (.Name x p1) [.In] [.Constant (.str k) j p2] p3) (fun c => decide (c ∈ k.cps.toList)) := by
  intro cenv A' E' c t s2 m2 hs hn hm
  refine wpAny_Compare1 ?_
  refine wpAny_Name (wpAny_loadName_local (by rw [hs]; exact hk) (show cenv.scope.names.lookup x = some .local by rw [hs]; exact hl) hn hm ?_) hd
  refine Calls.Constant_str ?_
  exact PyProof.Rows.in_str ⟨congrArg Value.bool (PySem.StrLaws.found_one k c), GxR.keeps_tok _ _⟩
/-! ### // by any divisor but 0 -/
section
variable {X : Cx}
def CDivA (_ j : Int) : Prop := j ≠ 0 ∧ j.natAbs.log2 < 9000
theorem op_fdivA : OpR X (binaryOp .FloorDiv) (rI CDivA fun i j => .int (i.fdiv j)) := opI fun i j _ _ _ _ _ hc q =>
  floordiv_int hc.1 q (.inl (PyProof.noPylong_of_log2 hc.2))
theorem divA {i j : Int} {b : Nat} (h : j ≠ 0) (hb : j.natAbs < 2 ^ b) (h0 : 0 < b) (h9 : b ≤ 9000) : CDivA i j := ⟨h, Nat.lt_of_lt_of_le (PySem.Flt.log2_lt_of h0 hb) h9⟩
end
/-! ### one step of a reading -/
section
variable {σ σ' : L2.St} {H : Hp} {Q : VK} {D : Ends} {ta tb te : TE} {t u c : TT} {tq : TA} {s1 s2 : TS} {K : PySem.W.Frag} {v x y : V} {i : Nat} {G : TG}
theorem w_seq (q : s1 { nx := s2 D, rt := D.rt, bk := D.bk, ct := D.ct } σ H) : tSeq s1 s2 D σ H := q
theorem w_next (q : D.nx σ H) : tNext D σ H := q
theorem w_asg (q : te σ H fun v H1 => D.nx (σ.set i (some v)) H1) : tAsg te (gName i) D σ H := q
theorem w_asgG (q : te σ H fun v H1 => G v σ H1 D.nx) : tAsg te G D σ H := q
theorem w_drop (q : te σ H fun _ H1 => D.nx σ H1) : tDrop te D σ H := q
theorem w_ret (q : te σ H D.rt) : tRet te D σ H := q
theorem w_ifs (q : c σ H fun b H1 => if b = true then s1 D σ H1 else s2 D σ H1) : tIfS c s1 s2 D σ H := q
theorem w_var (h : σ[i]? = some (some v)) (q : Q v H) : tVar i σ H Q := ⟨v, h, q⟩
theorem w_c (q : Q v H) : tC v σ H Q := q
theorem w_op {r : R2} (q : ta σ H fun x H1 => tb σ H1 fun y H2 => r x y H2 Q) : tOp r ta tb σ H Q := q
theorem w_un {r : V → Hp → VK → Prop} (q : ta σ H fun x H1 => r x H1 Q) : tUn r ta σ H Q := q
theorem w_I0 {g : Int → Int → V} {i j : Int} (q : Q (g i j) H) : rI0 g (.int i) (.int j) H Q := ⟨i, j, rfl, rfl, q⟩
theorem w_I {C : Int → Int → Prop} {g : Int → Int → V} {i j : Int} (h : C i j) (q : Q (g i j) H) : rI C g (.int i) (.int j) H Q := ⟨i, j, rfl, rfl, h, q⟩
theorem w_U {g : Int → V} {i : Int} (q : Q (g i) H) : rU g (.int i) H Q := ⟨i, rfl, q⟩
theorem w_nil {R : List V → Hp → Prop} (q : R [] H) : tNil σ H R := q
theorem w_cons {R : List V → Hp → Prop} (q : te σ H fun x H1 => tq σ H1 fun xs H2 => R (x :: xs) H2) : tCons te tq σ H R := q
theorem w_call {sp : Sp} {dvs : List V} {E : XK} (q : tq σ H fun vs H1 => sp (vs ++ dvs) H1 Q E) : tCall sp dvs E tq σ H Q := q
theorem w_cb {r : List V → Hp → VK → Prop} (q : tq σ H fun vs H1 => r vs H1 Q) : tCB r tq σ H Q := q
theorem w_test {R : Bool → Hp → Prop} (q : te σ H fun x H' => ∃ k, x = .bl k ∧ R k H') : tTest te σ H R := q
theorem w_B {R : Bool → Hp → Prop} (q : te σ H fun x H' => ∃ k, x = .bl k ∧ R k H') : tB te σ H R := q
theorem w_bl {R : Bool → Prop} {b : Bool} (q : R b) : ∃ k, V.bl b = .bl k ∧ R k := ⟨b, rfl, q⟩
theorem w_and {R : Bool → Hp → Prop} (q : t σ H fun b H1 => if b = true then u σ H1 R else R false H1) : tAnd t u σ H R := q
theorem w_or {R : Bool → Hp → Prop} (q : t σ H fun b H1 => if b = true then R true H1 else u σ H1 R) : tOr t u σ H R := q
theorem w_not {R : Bool → Hp → Prop} (q : t σ H fun b H1 => R (!b) H1) : tNot t σ H R := q
theorem w_ife (q : t σ H fun b H1 => if b = true then ta σ H1 Q else tb σ H1 Q) : tIf t ta tb σ H Q := q
theorem w_ixT {p : Addr} {xs : List V} {i : Int} (h : H p = some (.tup xs)) (ha : atI xs i = some v) (q : Q v H) : rIxT K (.ref p) (.int i) H Q := ⟨p, xs, i, v, rfl, rfl, SqT.of h, ha, q⟩
theorem w_ixL {p : Addr} {xs : List V} {i : Int} (h : H p = some (.lst xs)) (ha : atI xs i = some v) (q : Q v H) : rIxL K (.ref p) (.int i) H Q := ⟨p, xs, i, v, rfl, rfl, SqL.of h, ha, q⟩
theorem w_eq (h : scal x y = true) (q : Q (.bl (decide (x = y))) H) : rEq x y H Q := ⟨h, q⟩
theorem w_ne (h : scal x y = true) (q : Q (.bl (!decide (x = y))) H) : rNe x y H Q := ⟨h, q⟩
theorem w_tup (q : tq σ H fun xs H1 => xs.length ≤ sizeLine ∧ ∀ p, H1 p = none → Q (.ref p) (upd H1 p (.tup xs))) : tTup tq σ H Q := q
theorem w_lst (q : tq σ H fun xs H1 => xs.length ≤ sizeLine ∧ ∀ p, H1 p = none → Q (.ref p) (upd H1 p (.lst xs))) : tLst tq σ H Q := q
theorem w_bm {T : String} {r : V → List V → Hp → VK → Prop} (q : te σ H fun x H1 => tyV K T x H1 ∧ tq σ H1 fun xs H2 => r x xs H2 Q) : tBM K T r te tq σ H Q := q
theorem w_m1 {r : V → List V → Hp → VK → Prop} (q : ta σ H fun x H1 => (∃ a, x = .str a) ∧ tb σ H1 fun y H2 => r x [y] H2 Q) : tM1 r ta tb σ H Q := q
theorem w_tyL {A : Prop} {l : Addr} {xs : List V} (h : H l = some (.lst xs)) (q : A) : tyV K "list" (.ref l) H ∧ A := ⟨.inl ⟨rfl, _, SqL.of h⟩, q⟩
theorem w_tyS {A : Prop} {z : Str} (q : A) : tyV K "str" (.str z) H ∧ A := ⟨rfl, q⟩
theorem w_isS {A : Prop} {z : Str} (q : A) : (∃ a, V.str z = .str a) ∧ A := ⟨⟨_, rfl⟩, q⟩
theorem w_app {l : Addr} {xs : List V} (h : H l = some (.lst xs)) (hl : xs.length < sizeLine) (q : Q .non (upd H l (.lst (xs ++ [y])))) : rAppend (.ref l) [y] H Q := ⟨l, xs, y, rfl, rfl, h, hl, q⟩
theorem w_gn {R : L2.St → Hp → Prop} (q : R (σ.set i (some v)) H) : gName i v σ H R := q
theorem w_gsub {ts : TSet} {R : L2.St → Hp → Prop} (q : ta σ H fun o H1 => tb σ H1 fun i H2 => ts o i v H2 fun H3 => R σ H3) : gSub ta tb ts v σ H R := q
theorem w_setL {p : Addr} {xs : List V} {k : Int} {j : Nat} {R : Hp → Prop} (h : H p = some (.lst xs)) (hj : ixN xs.length k = some j) (q : R (upd H p (.lst (xs.set j v)))) : rSetL (.ref p) (.int k) v H R := ⟨p, xs, k, j, rfl, rfl, h, hj, q⟩
theorem w_yes {R : Bool → Hp → Prop} (q : R true H) : tYes σ H R := q
theorem w_sl {r : V → Option Int → Option Int → Hp → VK → Prop} {tl th : TO} (q : te σ H fun x H1 => tl σ H1 fun l H2 => th σ H2 fun u H3 => r x l u H3 Q) : tSl r te tl th σ H Q := q
theorem w_part {R : Option Int → Hp → Prop} (q : te σ H fun x H1 => ∃ i, x = .int i ∧ R (some i) H1) : tPart te σ H R := q
theorem w_nop {R : Option Int → Hp → Prop} (q : R none H) : tNoPart σ H R := q
theorem w_isI {R : Int → Prop} {n : Int} (q : R n) : ∃ i, V.int n = .int i ∧ R i := ⟨n, rfl, q⟩
theorem if_t {A B : Prop} {b : Bool} (h : b = true) (q : A) : if b = true then A else B := by rw [if_pos h]; exact q
theorem if_f {A B : Prop} {b : Bool} (h : b = false) (q : B) : if b = true then A else B := by rw [h]; exact iteF q
end
local macro_rules | `(tactic| walk_at "rd") => `(tactic| repeat (first
  | with_reducible refine w_seq ?_
  | with_reducible refine w_asg ?_
  | with_reducible refine w_ret ?_
  | with_reducible refine w_drop ?_
  | with_reducible refine w_ifs ?_
  | ((with_reducible refine' w_var ?hh ?_); (case hh => exact rfl))
  | with_reducible refine w_c ?_
  | with_reducible refine w_op ?_
  | with_reducible refine w_un ?_
  | with_reducible refine w_I0 ?_
  | with_reducible refine w_U ?_
  | with_reducible refine w_nil ?_
  | with_reducible refine w_cons ?_
  | with_reducible refine w_call ?_
  | with_reducible refine w_cb ?_
  | with_reducible refine w_test ?_
  | with_reducible refine w_B ?_
  | with_reducible refine w_bl ?_
  | with_reducible refine w_and ?_
  | with_reducible refine w_or ?_
  | with_reducible refine w_not ?_
  | with_reducible refine w_ife ?_
  | with_reducible refine w_tup ?_
  | with_reducible refine w_lst ?_
  | with_reducible refine w_next ?_
  | with_reducible refine w_bm ?_
  | with_reducible refine w_sl ?_
  | with_reducible refine w_part ?_
  | with_reducible refine w_nop ?_
  | with_reducible refine w_isI ?_
  | with_reducible refine w_yes ?_
  | with_reducible refine w_gn ?_
  | with_reducible refine w_gsub ?_
  | ((with_reducible refine' w_setL ?h1 ?h2 ?_); (case h1 => first | assumption | exact upd_same); (case h2 => exact rfl))
  | with_reducible refine w_asgG ?_
  | with_reducible refine w_m1 ?_
  | with_reducible refine w_isS ?_
  | with_reducible refine w_tyS ?_
  | ((with_reducible refine' w_tyL ?h1 ?_); (case h1 => first | assumption | exact upd_same))
  | ((with_reducible refine' w_ixT ?h1 ?h2 ?_); (case h1 => first | assumption | exact upd_same); (case h2 => exact rfl))
  | ((with_reducible refine' w_ixL ?h1 ?h2 ?_); (case h1 => first | assumption | exact upd_same); (case h2 => exact rfl))
  | ((with_reducible refine w_eq ?h1 ?_); (case h1 => exact rfl))
  | ((with_reducible refine w_ne ?h1 ?_); (case h1 => exact rfl))
  | dsimp only [List.set_cons_zero, List.set_cons_succ, List.append_nil, List.cons_append, List.nil_append, cxOf]))
/-! ### the law's own draws -/
/-- only the list at d has changed, and it is still cells, a place, a rest, a mixed row -/
def TakeSt (H : Hp) (c d : Addr) (H' : Hp) : Prop := (∀ b, b ≠ d → H' b = H b) ∧ ∃ a u z : Int, H' d = some (.lst [.ref c, .int a, .int u, .int z]) ∧ -1 ≤ a
theorem TakeSt.upd {H H' : Hp} {c d : Addr} {a u z : Int} (h : TakeSt H c d H') (ha : -1 ≤ a) : TakeSt H c d (L2.upd H' d (.lst [.ref c, .int a, .int u, .int z])) :=
  ⟨fun b hb => by rw [upd_ne hb]; exact h.1 b hb, a, u, z, upd_same, ha⟩
theorem TakeSt.kept {K : PySem.W.Frag} {H H' : Hp} {c d : Addr} {ns : List Int} {xs : List V} (h : TakeSt H c d H') (hd : H d = some (.lst xs)) (hc : H c = some (.lst (ns.map V.int))) (ne : c ≠ d) : KeptD K d H H' := by
  obtain ⟨h1, a, u, z, h2, h3⟩ := h
  refine ⟨fun b o hb _ q => by rw [h1 b hb]; exact q, fun _ => ⟨c, ns, a, u, z, h2, by rw [h1 c ne]; exact hc, h3⟩, fun P hP => ?_, fun b q => ?_⟩
  · obtain ⟨ps, p1, p2⟩ := hP
    have : P ≠ d := fun e => by
      rw [e, hd] at p1
      cases p1
    exact ⟨ps, by rw [h1 P this]; exact p1, p2⟩
  · by_cases e : b = d
    · rw [e, h2] at q
      cases q
    · rw [h1 b e] at q
      exact q
def spTake (K : PySem.W.Frag) : Sp := fun vs H Q _ => ∃ (d : Addr) (m : Int), vs = [.ref d, .int m] ∧ 0 < m ∧ m < 2 ^ 62 ∧ Drw K H d ∧ ∀ (r : Int) H', 0 ≤ r → r < m → KeptD K d H H' → Q (.int r) H'
def spDraw (K : PySem.W.Frag) : Sp := fun vs H Q _ => ∃ (a : Addr) (ns : List Int), vs = [.ref a] ∧ SqL K H a (ns.map V.int) ∧ ns.length ≤ 63 ∧ ∀ d H', H d = none → Kept H H' → Drw K H' d → Q (.ref d) H'
theorem pick_int {ns : List Int} {r : Int} (h0 : 0 ≤ r) (h1 : r < (ns.length : Int)) : ∃ v ∈ ns, atI (ns.map V.int) r = some (V.int v) := by
  obtain ⟨j, rfl⟩ : ∃ j : Nat, r = (j : Int) := ⟨r.toNat, by omega⟩
  have hj : j < ns.length := by omega
  refine ⟨ns[j], List.getElem_mem hj, atI_nat ?_⟩
  rw [List.getElem?_map, List.getElem?_eq_getElem hj]
  rfl
theorem map_int {ns : List Int} {i : Nat} {y : V} (h : (ns.map V.int)[i]? = some y) : ∃ u, y = V.int u ∧ ns[i]? = some u := by
  rw [List.getElem?_map] at h
  cases e : ns[i]? with
  | none =>
    rw [e] at h
    cases h
  | some u =>
    rw [e] at h
    exact ⟨u, (Option.some.inj h).symm, rfl⟩
/-! ### fractions -/
def frc (n d : Int) : Int × Int := (n.fdiv (if d < 0 then -((Nat.gcd n.natAbs d.natAbs : Nat) : Int) else ((Nat.gcd n.natAbs d.natAbs : Nat) : Int)),
  d.fdiv (if d < 0 then -((Nat.gcd n.natAbs d.natAbs : Nat) : Int) else ((Nat.gcd n.natAbs d.natAbs : Nat) : Int)))
def FrAt (H : Hp) (p : Addr) (a : Int × Int) : Prop := H p = some (.tup [.int a.1, .int a.2])
def Small (n : Nat) (a : Int × Int) : Prop := a.1.natAbs < 2 ^ n ∧ a.2.natAbs < 2 ^ n
def spFrac : Sp := fun vs H Q _ => ∃ n d : Int, vs = [.int n, .int d] ∧ d ≠ 0 ∧ n.natAbs < 2 ^ 1000 ∧ d.natAbs < 2 ^ 1000 ∧
  ∀ p H', H p = none → Kept H H' → FrAt H' p (frc n d) → Q (.ref p) H'
end Ky

namespace Ky
open PySem PySem.Spec PyProof.Rows L2
/-! ### a generator expression's frame -/
abbrev gxEnv (X : Cx) (s : Shared) (scope : Scope) (code : Value) : Env := genEnv scope (cloFrom X.env.cells scope.names []) s.heap.objs.size code builtinsNs X.env
abbrev gx (X : Cx) (A' : Around) (s : Shared) (H : Hp) (scope : Scope) (code : Value) (fp : List Addr) : Cx :=
  { X with A := A', s_0 := s, H_0 := H, env := gxEnv X s scope code, outer := X.stack, stack := gxEnv X s scope code :: X.stack, ex := fp, fn := fun _ => false, pn := [], xe := fun _ _ => False }
theorem over_gen {A : Around} {elt : Expr} {cs : List Comprehension} {sc : Scope} {pos : Pos} {it acc : Value} {env : Env} : A.over (.compLoop (.GeneratorExp elt cs sc pos) 0 it acc env) [] = A.deeper env := by
  first
    | rfl
    | (obtain ⟨hd, d, fr, gs, u⟩ := A; simp [Around.over, Around.deeper, marksOver, frameCount, unitsOf, envsOf, guardsOf, pushEnvs, pushGuards, Code.envs, Code.env?, Code.isFrame, Code.guards, Code.isGuard, Code.weight, Code.frames, Code.isCreation, Code.isCaller, Code.cUnits])
theorem over_gen0 {A : Around} {elt : Expr} {cs : List Comprehension} {sc : Scope} {pos : Pos} {it acc : Value} {env : Env} : A.over (.compStart (.GeneratorExp elt cs sc pos) 0 it acc env) [] = A.deeper env := by
  first
    | rfl
    | (obtain ⟨hd, d, fr, gs, u⟩ := A; simp [Around.over, Around.deeper, marksOver, frameCount, unitsOf, envsOf, guardsOf, pushEnvs, pushGuards, Code.envs, Code.env?, Code.isFrame, Code.guards, Code.isGuard, Code.weight, Code.frames, Code.isCreation, Code.isCaller, Code.cUnits])
section
variable {X : Cx} {pins : List (Addr × Obj)} {σ : L2.St} {H : Hp} {s : Shared}
theorem gx_start {A' : Around} {scope : Scope} {code : Value} {own : List (Str × Nat)} {fp : List Addr} {h' : Heap} {m : Str → Option Value} {g' : Array GenState} {t' : Nat} (I : Inv X pins σ H s) (ok : BlkOk X.N X.env.scope scope own) (hcell : ∀ y ∈ scope.names, y.2 ≠ .cell) (hN : X.N.Nodup)
    (hfp : ∀ b ∈ fp, FpOk X pins H b ∧ b < s.heap.objs.size) (hh : A'.handled = none) (hfr : A'.frames = some (gxEnv X s scope code :: X.stack)) (hn : h'.Ns s.heap.objs.size m) (kp : ∀ b o, s.heap.get? b = some o → h'.get? b = some o) (hg : AllBare g') :
    Inv (gx X A' s H scope code fp) [] (wipe σ (own.map (·.2))) H { s with heap := h', gens := g', toks := t' } := by
  have hfree : ∀ y ∈ scope.names, y.2 = .free → ∃ c, X.env.cells.lookup y.1 = some c := fun y hy e => by
    rcases ok.free y hy e with k | k
    · exact I.ok.has _ (.inl k)
    · exact I.ok.has _ (.inr k)
  have cm : ∀ {y c}, (cloFrom X.env.cells scope.names []).lookup y = some c → X.env.cells.lookup y = some c ∧ c < s.heap.objs.size := fun {y c} e => by
    rcases cloFrom_mem (PySem.mem_of_lookup e) with hm | ⟨h1, rfl⟩
    · cases hm
    · obtain ⟨c, hc⟩ := hfree _ h1 rfl
      rw [hc]
      obtain ⟨w, z⟩ := I.cell _ _ hc
      exact ⟨rfl, z.lt⟩
  have look : ∀ {y}, scope.names.lookup y = some .free → ∃ c, (cloFrom X.env.cells scope.names []).lookup y = some c ∧ X.env.cells.lookup y = some c := fun {y} hl => by
    have hy : (y, NameKind.free) ∈ scope.names := PySem.mem_of_lookup hl
    obtain ⟨c', e'⟩ := mem_lookup (cloFrom_has (cells := X.env.cells) (acc := []) hy)
    exact ⟨c', e', (cm e').1⟩
  have okB : (gx X A' s H scope code fp).Ok := by
    refine ⟨I.ok.mod, ok.kind, I.ok.glob, rfl, Nat.le_refl _, fun y z c e1 e2 => I.ok.inj y z c (cm e1).1 (cm e2).1, fun y hy => ?_, fun y c z e => absurd z Bool.false_ne_true, fun _ => hh, hfr, .inr ⟨rfl, rfl⟩, fun b hb => ⟨Nat.ne_of_lt (hfp b hb).2, fun y c e => (hfp b hb).1.2.2.2.2.1 y c (cm e).1⟩,
      I.bs, Nat.le_trans I.ok.bsz I.sz, fun b o e hb => ?_, fun b hb z => ?_, I.stack, I.stkFree⟩
    · rcases hy with hy | hy
      · exact absurd rfl (hcell _ (PySem.mem_of_lookup (show scope.names.lookup y = some .cell from hy)))
      · obtain ⟨c, h1, _⟩ := look (show scope.names.lookup y = some .free from hy)
        exact ⟨c, h1⟩
    · rcases (hfp b hb).1.2.2.2.1 with z | z
      · exact I.ok.noex b o e z
      · exact absurd (Nat.lt_of_lt_of_le (Heap.lt_size e) (Nat.le_trans I.ok.bsz z)) (Nat.lt_irrefl _)
    · rcases List.mem_cons.mp (I.stkSub b z) with z | z
      · exact (hfp b hb).1.2.1 z
      · exact (hfp b hb).1.2.2.1 z
  refine ⟨okB, rfl, hg, Un.kept kp, ⟨m, hn, fun i y av e1 e2 e3 => ?_⟩, fun y c e => ?_, I.hok.fresh (Nat.le_refl _), fun y c e => I.freeC y c (cm e).1, fun p hp => absurd (show p ∈ ([] : List (Addr × Obj)) ++ [] from hp) (by simp), I.hok.kept kp, by rw [wipe_length]; exact I.len⟩
  · obtain ⟨e2, hne⟩ := wipe_some e2
    have hfr : scope.names.lookup y = some .free := by
      have no : ∀ k', scope.names.lookup y = some k' → ¬ (k' = .local ∨ k' = .cell) := fun k' e hh => by
        rcases ok.own _ (PySem.mem_of_lookup e) hh with e' | e'
        · obtain ⟨p, hp, hpy⟩ := List.mem_map.mp e'
          have e3 := ok.ix p hp
          have : p.1 = y := hpy
          rw [this] at e3
          exact hne (List.mem_map.mpr ⟨p, hp, nodup_ix hN e3 e1⟩)
        · exact e' (List.mem_of_getElem? e1)
      have e3 : Vis scope y := e3
      rcases e3 with e3 | e3 | e3
      · exact absurd (.inl rfl) (no _ e3)
      · exact absurd (.inr rfl) (no _ e3)
      · exact e3
    obtain ⟨m, hn, hl⟩ := I.loc
    have hvis : Vis X.env.scope y := (ok.free _ (PySem.mem_of_lookup hfr) rfl).elim (fun k => .inr (.inl k)) (fun k => .inr (.inr k))
    obtain ⟨w, r, q⟩ := hl i y av e1 e2 hvis
    refine ⟨w, r, .inr ⟨.inr hfr, ?_⟩⟩
    obtain ⟨c, h1, h2⟩ := look hfr
    rcases q with ⟨k, _⟩ | ⟨_, c', e', z⟩
    · have k : X.env.scope.names.lookup y = some .local := k
      rcases ok.free _ (PySem.mem_of_lookup hfr) rfl with k' | k' <;> rw [show X.env.scope.names.lookup y = _ from k'] at k <;> cases k
    · rw [h2] at e'; cases e'
      exact ⟨c, h1, z.keeps kp⟩
  · obtain ⟨w, z⟩ := I.cell y c (cm e).1
    exact ⟨w, z.keeps kp⟩
end
end Ky
namespace Ky
open PySem PySem.Spec PyProof.Rows L2
theorem not_of_ne {b c : Bool} (h : ¬ b = c) : b = !c := by
  cases b <;> cases c <;> first | rfl | exact absurd rfl h
/-- what a generator expression of tests still does: cont: the answer that goes on (all: true, any: false) -/
def Live (X : Cx) (pins : List (Addr × Obj)) (σ : L2.St) (Q : VK) (cont : Bool) (a : Addr) : Nat → Shared → Prop
  | 0, s => ∀ (QQ : Option Value → Shared → Prop) (E : Value → Shared → Prop), (∀ s' H, Inv X pins σ H s' → Q (.bl (!cont)) H → QQ (some (.bool (!cont))) s') → (∀ s' H, Inv X pins σ H s' → Q (.bl cont) H → QQ none s') → wpAny (model X.prog X.w) X.A.in1 (pyNext (.ref a)) QQ E s
  | n + 1, s => ∀ (QQ : Option Value → Shared → Prop) (E : Value → Shared → Prop), (∀ s', Live X pins σ Q cont a n s' → QQ (some (.bool cont)) s') → (∀ s' H, Inv X pins σ H s' → Q (.bl (!cont)) H → QQ (some (.bool (!cont))) s') → (∀ s' H, Inv X pins σ H s' → Q (.bl cont) H → QQ none s') →
      wpAny (model X.prog X.w) X.A.in1 (pyNext (.ref a)) QQ E s
section
variable {X : Cx} {pins : List (Addr × Obj)} {σ : L2.St} {Q : VK} {a : Addr}
theorem live_all {R : Result → Shared → Prop} : ∀ (n : Nat) (s : Shared), Live X pins σ Q true a n s → (∀ s' H b, Inv X pins σ H s' → Q (.bl b) H → R (.ok (.ret (.bool b))) s') → codeAny (model X.prog X.w) X.A (.builtin "all.loop" ⟨[.ref a], []⟩) R s := by
  intro n
  induction n with
  | zero =>
    intro s h hR
    refine codeAny_builtin F.entry_all_loop ?_
    rw [Around.under_plainId F.plain_all_loop _]
    show wpAny _ X.A.in1 (pyNext (.ref a) >>= _) _ _ s
    refine wpAny_bind (h _ _ (fun s' H I q => ?_) fun s' H I q => ?_)
    · refine wpAny_bind (wpAny_holding (wpAny_truthy_bool ?_))
      refine wpAny_bind (wpAny_letGo ?_)
      simp only [Bool.not_true, Bool.false_eq_true, if_false]
      exact wpAny_bind (wpAny_rule (wpAny_pure (hR s' H _ I q)))
    · exact wpAny_bind (wpAny_rule (wpAny_pure (hR s' H _ I q)))
  | succ n ih =>
    intro s h hR
    refine codeAny_builtin F.entry_all_loop ?_
    rw [Around.under_plainId F.plain_all_loop _]
    show wpAny _ X.A.in1 (pyNext (.ref a) >>= _) _ _ s
    refine wpAny_bind (h _ _ (fun s' hl => ?_) (fun s' H I q => ?_) fun s' H I q => ?_)
    · refine wpAny_bind (wpAny_holding (wpAny_truthy_bool ?_))
      refine wpAny_bind (wpAny_letGo ?_)
      simp only [if_true]
      exact wpAny_pure ⟨plainId_quiet F.plain_all_loop _, ih s' hl hR⟩
    · refine wpAny_bind (wpAny_holding (wpAny_truthy_bool ?_))
      refine wpAny_bind (wpAny_letGo ?_)
      simp only [Bool.not_true, Bool.false_eq_true, if_false]
      exact wpAny_bind (wpAny_rule (wpAny_pure (hR s' H _ I q)))
    · exact wpAny_bind (wpAny_rule (wpAny_pure (hR s' H _ I q)))
theorem live_any {R : Result → Shared → Prop} : ∀ (n : Nat) (s : Shared), Live X pins σ Q false a n s → (∀ s' H b, Inv X pins σ H s' → Q (.bl b) H → R (.ok (.ret (.bool b))) s') → codeAny (model X.prog X.w) X.A (.builtin "any.loop" ⟨[.ref a], []⟩) R s := by
  intro n
  induction n with
  | zero =>
    intro s h hR
    refine codeAny_builtin F.entry_any_loop ?_
    rw [Around.under_plainId F.plain_any_loop _]
    show wpAny _ X.A.in1 (pyNext (.ref a) >>= _) _ _ s
    refine wpAny_bind (h _ _ (fun s' H I q => ?_) fun s' H I q => ?_)
    · refine wpAny_bind (wpAny_holding (wpAny_truthy_bool ?_))
      refine wpAny_bind (wpAny_letGo ?_)
      simp only [Bool.not_false, if_true]
      exact wpAny_bind (wpAny_rule (wpAny_pure (hR s' H _ I q)))
    · exact wpAny_bind (wpAny_rule (wpAny_pure (hR s' H _ I q)))
  | succ n ih =>
    intro s h hR
    refine codeAny_builtin F.entry_any_loop ?_
    rw [Around.under_plainId F.plain_any_loop _]
    show wpAny _ X.A.in1 (pyNext (.ref a) >>= _) _ _ s
    refine wpAny_bind (h _ _ (fun s' hl => ?_) (fun s' H I q => ?_) fun s' H I q => ?_)
    · refine wpAny_bind (wpAny_holding (wpAny_truthy_bool ?_))
      refine wpAny_bind (wpAny_letGo ?_)
      simp only [Bool.false_eq_true, if_false]
      exact wpAny_pure ⟨plainId_quiet F.plain_any_loop _, ih s' hl hR⟩
    · refine wpAny_bind (wpAny_holding (wpAny_truthy_bool ?_))
      refine wpAny_bind (wpAny_letGo ?_)
      simp only [Bool.not_false, if_true]
      exact wpAny_bind (wpAny_rule (wpAny_pure (hR s' H _ I q)))
    · exact wpAny_bind (wpAny_rule (wpAny_pure (hR s' H _ I q)))
end
/-! ### one turn after another -/
/-- the state between turns -/
abbrev GAt (G : Cx) (pa : List (Addr × Obj)) (σw : L2.St) (fp : List Addr) (tn : Nat → Heap → Prop) (i : Nat) (H : Hp) (s : Shared) : Prop := Inv G pa σw H s ∧ tn i s.heap ∧ ∀ b ∈ fp, H b = none
/-- it has come to its end -/
def GEnd (G : Cx) (pa : List (Addr × Obj)) (σw : L2.St) (Q : VK) (cont : Bool) : Nat → Shared → Shared → Prop := fun _ _ s1 => ∃ H, Inv G pa σw H s1 ∧ Q (.bl cont) H
/-- a test's answer is handed out -/
def GYld (G : Cx) (pa : List (Addr × Obj)) (σw : L2.St) (fp : List Addr) (tn : Nat → Heap → Prop) (W : Nat → Nat → Hp → Prop) (Q : VK) (cont : Bool) : Protocol := fun n _ v s1 kap =>
  ∃ (b : Bool) (H : Hp), v = .bool b ∧ Inv G pa σw H s1 ∧ ((b = cont ∧ 0 < n ∧ ∀ g', AllBare g' → kap (.send .none) { s1 with gens := g' }) ∨ (b = (!cont) ∧ Q (.bl (!cont)) H))
/-- the turns: what an answer leads to -/
def GTurn (J : It) (g : TG) (te : TE) (σw : L2.St) (vs : List Nat) (Q : VK) (cont : Bool) (W : Nat → Nat → Hp → Prop) : Prop := ∀ i m H, W i m H →
  (J.stop i H ∧ Q (.bl cont) H) ∨ (J.go i H ∧ ∀ x H', J.yld i H x H' → g x σw H' fun σ2 H2 => wipe σ2 vs = σw ∧ te σ2 H2 fun y H3 => ∃ b, y = .bl b ∧ if b = cont then ∃ m', m' < m ∧ W (i + 1) m' H3 else Q (.bl (!cont)) H3)
section
variable {G : Cx} {pa : List (Addr × Obj)} {σ : L2.St} {vs : List Nat} {fp : List Addr} {it : Addr} {tn : Nat → Heap → Prop} {J : It} {tg elt iter : Expr} {g : TG} {te : TE} {scope : Scope} {gpos : Pos} {Q : VK} {cont : Bool} {W : Nat → Nat → Hp → Prop} {A : Around}
theorem seg_turns (hA : G.A = A.deeper G.env) (hc : G.calm = true) (hco : G.env.scope.isCoroutine = false) (hxe : G.xe = fun _ _ => False) (T : Turn G.prog G.w G.K tg J fp it tn) (pg : PG G tg g) (pe : PE G elt te) (hpn : G.pn = []) (hex : G.ex = fp)
    (hpa : ∀ p ∈ pa, ∀ b ∈ fp, p.1 ≠ b) (turn : GTurn J g te (wipe σ vs) vs Q cont W) :
    ∀ (n i m : Nat) (s₀ s : Shared) (H : Hp), m < n → GAt G pa (wipe σ vs) fp tn i H s → W i m H →
      Seg (model G.prog G.w) A (fun n s₀ r s₁ => r = .ok .next ∧ GEnd G pa (wipe σ vs) Q cont n s₀ s₁) (GYld G pa (wipe σ vs) fp tn W Q cont) n s₀
        (.compLoop (.GeneratorExp elt [⟨tg, iter, [], 0⟩] scope gpos) 0 (.ref it) .none G.env)
        ((model G.prog G.w).den (.compLoop (.GeneratorExp elt [⟨tg, iter, [], 0⟩] scope gpos) 0 (.ref it) .none G.env)) [] s := by
  have hov : A.over (.compLoop (.GeneratorExp elt [⟨tg, iter, [], 0⟩] scope gpos) 0 (.ref it) .none G.env) [] = G.A := by rw [over_gen, hA]
  have stat : ∀ {σ' : L2.St} {H' : Hp} {s' : Shared}, Inv G pa σ' H' s' → (∀ b ∈ fp, H' b = none) → ∀ b ∈ fp, FpOk G pa H' b := fun {σ' H' s'} I' hn b hb =>
    ⟨hn b hb, (I'.ok.exf b (by rw [hex]; exact hb)).1, I'.ok.exfs b (by rw [hex]; exact hb), .inl (by rw [hex]; exact hb), fun x c e => (I'.ok.exf b (by rw [hex]; exact hb)).2 x c e, fun p hp => by
      rw [hpn] at hp
      exact hpa p (by simpa using hp) b hb⟩
  intro n
  induction n with
  | zero => intro i m s₀ s H hm; exact absurd hm (Nat.not_lt_zero _)
  | succ n ih =>
    intro i m s₀ s H hm ⟨I, st, fr⟩ w
    show Seg _ A _ _ _ s₀ _ ((compTurn (.GeneratorExp elt [⟨tg, iter, [], 0⟩] scope gpos) 0 (.ref it) .none G.env).onRaise (leaving G.env)) [] s
    rw [compTurn_gen, Sem.onRaise_eq_wrap]
    refine seg_bind_wrap (wpAny_standAt ?_)
    refine seg_bind_wrap ?_
    rw [hov]
    rcases turn i m H w with ⟨stop, q⟩ | ⟨go, step⟩
    · refine thnF (T.done G rfl rfl rfl hc i pa s _ H (fun _ _ => False) I (stat I fr) st stop) fun r s1 ⟨hr, I1⟩ => ?_
      subst hr
      exact seg_end (.ok .next) ⟨rfl, H, I1, q⟩
    · refine thnF (T.item G rfl rfl rfl hc i pa s _ H (fun _ _ => False) I (stat I fr) st go) fun r s1 ⟨u, hr, h1⟩ => ?_
      subst hr
      refine seg_bind_wrap ?_
      rw [hov]
      refine thnF h1 fun _ s2 ⟨x, H2, I2, r2, y2, st2, n2⟩ => ?_
      have I2' := I2.pinned (stat I2 n2) (T.obj _ _ st2)
      refine seg_bind_wrap ?_
      rw [hov]
      have hpr := pg.run _ s2 _ H2 x u _ I2' r2 (step x H2 y2)
      rw [hxe] at hpr
      refine thnF hpr fun _ s3 ⟨σ3, H3, I3, hw3, q3⟩ => ?_
      refine seg_bind_wrap ?_
      simp only [List.forIn_nil]
      refine wpAny_pure ?_
      simp only [if_true]
      have hy : ∀ v, yieldOut G.env v = yieldValue v := fun v => by simp only [yieldOut, hco, Bool.false_eq_true, if_false]
      simp only [hy]
      rw [Sem.bind_eq_wrap', Sem.bind_eq_wrap', Sem.wrap_wrap, Sem.wrap_wrap]
      refine seg_wrap ?_
      rw [hov]
      have her := pe.run _ s3 σ3 H3 _ I3 q3
      rw [hxe] at her
      refine thnF her fun v s4 ⟨y, H4, I4, r4, b, hb, q4⟩ => ?_
      subst hb
      obtain rfl : v = Value.bool b := r4
      have pin' : ∀ c ∈ fp, ∀ o, s2.heap.get? c = some o → s4.heap.get? c = some o ∧ H4 c = none := fun c hc' o e =>
        let z := I4.pin (c, o) (List.mem_append_right _ (List.mem_append_right _ (mem_pinsAt hc' e)))
        ⟨z.1, z.2.1⟩
      have I5 : Inv G pa (wipe σ vs) H4 s4 := I4.unpinned.weak (by rw [← hw3, wipe_length]) fun j v e => by
        rw [← hw3] at e
        exact (wipe_some e).1
      have st4 : tn (i + 1) s4.heap := T.keep _ _ _ st2 fun c hc' o e => (pin' c hc' o e).1
      have fr4 : ∀ c ∈ fp, H4 c = none := fun c hc' => by
        obtain ⟨o, e, _⟩ := T.obj _ _ st2 c hc'
        exact (pin' c hc' o e).2
      refine seg_at (seg_yield rfl rfl rfl ⟨b, H4, rfl, I5, ?_⟩)
      by_cases hbc : b = cont
      · rw [if_pos hbc] at q4
        obtain ⟨m', hm', w'⟩ := q4
        refine .inl ⟨hbc, by omega, fun g' hg' => ?_⟩
        refine seg_again rfl (ih (i + 1) m' _ _ H4 (by omega) ⟨?_, st4, fr4⟩ w')
        exact ⟨I5.ok, I5.os, hg', I5.base, I5.loc, I5.cell, I5.free, I5.freeC, I5.pin, I5.hok, I5.len⟩
      · rw [if_neg hbc] at q4
        exact .inr ⟨not_of_ne hbc, q4⟩
end
end Ky
namespace Ky
open PySem PySem.Spec PyProof.Rows L2
section
variable {G : Cx} {pa : List (Addr × Obj)} {σ : L2.St} {vs : List Nat} {fp : List Addr} {it : Addr} {tn : Nat → Heap → Prop} {J : It} {tg elt iter : Expr} {g : TG} {te : TE} {scope : Scope} {gpos : Pos} {Q : VK} {cont : Bool} {W : Nat → Nat → Hp → Prop} {A : Around}
theorem seg_begin (hA : G.A = A.deeper G.env) (hc : G.calm = true) (hco : G.env.scope.isCoroutine = false) (hxe : G.xe = fun _ _ => False) (T : Turn G.prog G.w G.K tg J fp it tn) (pg : PG G tg g) (pe : PE G elt te) (hpn : G.pn = []) (hex : G.ex = fp)
    (hpa : ∀ p ∈ pa, ∀ b ∈ fp, p.1 ≠ b) (turn : GTurn J g te (wipe σ vs) vs Q cont W) (n i m : Nat) (s₀ s : Shared) (H : Hp) (hm : m < n) (hat : GAt G pa (wipe σ vs) fp tn i H s) (w : W i m H) :
    Seg (model G.prog G.w) A (fun n s₀ r s₁ => r = .ok .next ∧ GEnd G pa (wipe σ vs) Q cont n s₀ s₁) (GYld G pa (wipe σ vs) fp tn W Q cont) n s₀
      (.compStart (.GeneratorExp elt [⟨tg, iter, [], 0⟩] scope gpos) 0 (.ref it) .none G.env)
      ((model G.prog G.w).den (.compStart (.GeneratorExp elt [⟨tg, iter, [], 0⟩] scope gpos) 0 (.ref it) .none G.env)) [] s := by
  have loop := seg_turns (iter := iter) (scope := scope) (gpos := gpos) hA hc hco hxe T pg pe hpn hex hpa turn n i m s₀ s H hm hat w
  show Seg _ A _ _ _ s₀ _ ((compStart (.GeneratorExp elt [⟨tg, iter, [], 0⟩] scope gpos) 0 (.ref it) .none G.env).onRaise (leaving G.env)) [] s
  unfold compStart
  rw [Sem.onRaise_eq_wrap]
  show Seg _ A _ _ _ s₀ _ ((ask >>= _).wrap _ _ _ _) [] s
  refine seg_bind_wrap (wpAny_askSetting ?_)
  split
  · exact seg_again rfl loop
  · first
      | exact seg_bind_wrap (wpAny_rule (seg_bind_wrap (wpAny_standAt (seg_bind_wrap (T.self _ i s _ _ hat.2.1 (seg_again rfl loop))))))
      | (refine seg_bind_wrap (wpAny_rule ?_); show Seg _ A _ _ _ s₀ _ ((standAt iter.pos >>= _).wrap _ _ _ _) [] s; exact seg_bind_wrap (wpAny_standAt (seg_bind_wrap (T.self _ i s _ _ hat.2.1 (seg_again rfl loop)))))
end
theorem allBare_upd {s : Shared} {g : Nat} {x : GenState} (h : AllBare s.gens) (hx : x.bare = true) : AllBare (s.setGen g x).gens := allBare_setGen h hx
section
variable {X G : Cx} {pins pa : List (Addr × Obj)} {σ σw : L2.St} {fp : List Addr} {tn : Nat → Heap → Prop} {Q : VK} {cont : Bool} {W : Nat → Nat → Hp → Prop} {a : Addr} {gi : Nat}
theorem live_of (hh : X.A.handled = none) (hd : X.A.depth < recursionLimit) (isg : ∀ H s, Inv G pa σw H s → s.heap.IsGen a gi)
    (back : ∀ H s h' g', Inv G pa σw H s → AllBare g' → (∀ b o, s.heap.get? b = some o → h'.get? b = some o) → Inv X pins σ H { s with heap := h', gens := g' }) :
    ∀ (n : Nat) (s : Shared), s.heap.IsGen a gi → s.heap.NoLimit →
      (∃ gs, s.gens[gi]? = some gs ∧ gs.Goes (model X.prog X.w) X.A.in1.in1 (fun n s₀ r s₁ => r = .ok .next ∧ GEnd G pa σw Q cont n s₀ s₁) (GYld G pa σw fp tn W Q cont) n (.send .none) (s.setGen gi .running)) →
      Live X pins σ Q cont a n s := by
  intro n
  induction n with
  | zero =>
    intro s hg hl ⟨gs, hgs, hgo⟩ QQ E h1 h2
    refine wpAny_pyNext_genexpQ (A := X.A.in1) (P := GEnd G pa σw Q cont) hh hl hd hg hgs hgo (fun v s₁ gs' hb hv => ?_) (fun s₁ hp h' hk => ?_)
    · obtain ⟨b, H, rfl, I, ⟨_, h0, _⟩ | ⟨hb2, q⟩⟩ := hv
      · exact absurd h0 (Nat.lt_irrefl _)
      · subst hb2
        exact h1 _ H (back H s₁ s₁.heap _ I (allBare_upd I.bare hb) fun _ _ e => e) q
    · obtain ⟨H, I, q⟩ := hp
      exact h2 _ H (back H s₁ h' _ I (allBare_upd I.bare rfl) hk) q
  | succ n ih =>
    intro s hg hl ⟨gs, hgs, hgo⟩ QQ E h0 h1 h2
    have hgl : gi < s.gens.size := (Array.getElem?_eq_some_iff.mp hgs).1
    refine GenW.wpAny_gsz (n := gi + 1) hgl ?_
    refine wpAny_pyNext_genexpQ (A := X.A.in1) (P := GEnd G pa σw Q cont) hh hl hd hg hgs hgo (fun v s₁ gs' hb hv => ?_) (fun s₁ hp h' hk => ?_)
    · intro hsz
      obtain ⟨b, H, rfl, I, ⟨hbc, _, kap⟩ | ⟨hb2, q⟩⟩ := hv
      · subst hbc
        have hsz1 : gi < s₁.gens.size := by
          have q : (s₁.setGen gi gs').gens.size = s₁.gens.size := GenW.setGen_size _ _ _
          have hsz' : gi + 1 ≤ (s₁.setGen gi gs').gens.size := hsz
          omega
        refine h0 _ (ih _ (isg H s₁ I) I.nolimit ⟨gs', setGen_at hsz1, ?_⟩)
        exact kap _ (allBare_upd (s := s₁.setGen gi gs') (allBare_upd I.bare hb) rfl)
      · subst hb2
        exact h1 _ H (back H s₁ s₁.heap _ I (allBare_upd I.bare hb) fun _ _ e => e) q
    · intro _
      obtain ⟨H, I, q⟩ := hp
      exact h2 _ H (back H s₁ h' _ I (allBare_upd I.bare rfl) hk) q
end
/-! ### its making -/
/-- the generator expression's scope: no cells of its own -/
structure GxS (N : List Str) (sc scope : Scope) (own : List (Str × Nat)) : Prop where
  blk : BlkOk N sc scope own
  co : scope.isCoroutine = false
  cell : ∀ y ∈ scope.names, y.2 ≠ .cell
  dot : scope.names.lookup (".0" : Str) = some NameKind.local
/-- what its reader wants: the table may have grown by its code -/
def gRd (P : Addr) (wi : TI) (g : TG) (te : TE) (vs : List Nat) (cont : Bool) : TE := fun σ H Q => wi σ H fun J H1 => GxR.TabG H1 P ∧ ∀ H2, GxR.Tabbed P H1 H2 → ∃ W : Nat → Nat → Hp → Prop, (∃ m, W 0 m H2) ∧ GTurn J g te (wipe σ vs) vs Q cont W
section
variable {X : Cx} {pins : List (Addr × Obj)} {σ : L2.St} {H : Hp} {s : Shared} {Q : VK} {cont : Bool} {k : Nat} {c P : Addr} {tg elt iter : Expr} {scope : Scope} {own : List (Str × Nat)} {gpos : Pos} {wi : TI} {g : TG} {te : TE} {Q' : Value → Shared → Prop}
theorem gx_make (hc : X.calm = true) (hN : X.N.Nodup) (hr : Room (k + 2) X.A) (TB : GxR.TabB X.base X.mg c P) (hcode : X.env.code = .ref c) (S : GxS X.N X.env.scope scope own) (hi : PI X tg iter wi)
    (hg : ∀ A' s H code fp, PG (gx X A' s H scope code fp) tg g) (he : ∀ A' s H code fp, Room k A' → PE (gx X A' s H scope code fp) elt te) (hs : ∀ v, genFold iter X.env v = pure v)
    (I : Inv X pins σ H s) (h : gRd P wi g te (own.map (·.2)) cont σ H Q) (hQ : ∀ a gi n s', s'.heap.IsGen a gi → Live X pins σ Q cont a n s' → Q' (.ref a) s') :
    wpAny (model X.prog X.w) X.A (eval (.GeneratorExp elt [⟨tg, iter, [], 0⟩] scope gpos) X.env) Q' X.xe s := by
  have hfree : ∀ y ∈ scope.names, y.2 = .free → ∃ c, X.env.cells.lookup y.1 = some c := fun y hy e => by
    rcases S.blk.free y hy e with k | k
    · exact I.ok.has _ (.inl k)
    · exact I.ok.has _ (.inr k)
  refine wpAny_GeneratorExp_make S.co (closure_ok hfree) S.cell S.dot S.blk.kind (by have := hr.dp; omega) ?_ hs
  refine thn (hi.run pins s σ H _ I h) fun xv s1 hx => thn hx fun itv s2 h2 => ?_
  obtain ⟨it, fp, tn, J, H2, e, I2, T, st2, f2, ⟨ps, hP, ht⟩, q⟩ := h2
  subst e
  have hPs : s2.heap.get? P = some { cls := .none, data := .fields ps } := I2.hok P _ hP
  have cd : PySem.W.CodeHd s2.heap c P := TB.code.keeps I2.bk
  refine ⟨I2.nolimit, ?_⟩
  have szf : ∀ b ∈ fp, b < s2.heap.objs.size := fun b hb => by
    obtain ⟨o, e, _⟩ := T.obj _ _ st2 b hb
    exact Heap.lt_size e
  have cont' : ∀ (code : Value) (h3 : Heap) (tk : Nat) (ps' : Array Value), Heap.ExtBut P s2.heap h3 → s2.heap.objs.size ≤ h3.objs.size → h3.get? P = some { cls := .none, data := .fields ps' } → (∃ more, ps' = ps ++ more) → TriplesOk ps'.toList →
      wpAny (model X.prog X.w) X.A (builtinsFor X.env.globals X.env.builtins) (fun bi s₄ => ∀ h', h'.Ns s₄.heap.objs.size (fun y => if y = ".0" then some (.ref it) else none) → Heap.SameBut s₄.heap.objs.size (s₄.heap.push { cls := .type "frame", data := .dict #[] }) h' →
          Q' (.ref h'.objs.size) { s₄ with
            gens := s₄.gens.push (.fresh (.compStart (.GeneratorExp elt [⟨tg, iter, [], 0⟩] scope gpos) 0 (.ref it) .none (genEnv scope (cloFrom X.env.cells scope.names []) s₄.heap.objs.size code bi X.env))),
            toks := s₄.toks + 1 + 1 + 1,
            heap := h'.push { cls := .type "generator", data := .fields #[.int s₄.gens.size 0, .str "<genexpr>" (s₄.toks + 1), .str (X.env.qual ++ "<genexpr>") (s₄.toks + 1 + 1)] } }) X.xe { s2 with heap := h3, toks := tk } := by
    intro code h3 tk ps' hx hsz hP3 hmore ht3
    obtain ⟨bm, ob, e1, e2, e3, e4, e5, e6, e7, e8⟩ := TB.bm
    obtain ⟨more, em⟩ := hmore
    have keep3 : ∀ b u, b ≠ P → s2.heap.get? b = some u → h3.get? b = some u := fun b u hb e => hx b u hb e
    refine wpAny_builtinsFor (m := X.mg) (by rw [I2.ok.glob]; exact (I2.mod.glob.keeps I2.bk).extBut hx TB.gP) e1 e2 (keep3 _ _ e4 (I2.bk _ _ e5)) e6 e7 e8 ?_
    have I3 : Inv X pins σ (upd H2 P (.tbl (ps ++ more))) { s2 with heap := h3, gens := s2.gens, drawn := s2.drawn, toks := tk } := GxR.inv_tab (more := more) I2 hP keep3 (by rw [← em]; exact hP3) I2.bare
    have hTb : GxR.Tabbed P H2 (upd H2 P (.tbl (ps ++ more))) := ⟨⟨ps ++ more, upd_same, by rw [← em]; exact ht3⟩, fun b hb => upd_ne hb⟩
    obtain ⟨W, ⟨m0, w0⟩, turn⟩ := q _ hTb
    generalize hH3 : upd H2 P (.tbl (ps ++ more)) = H3 at I3 hTb w0
    generalize hs4 : ({ s2 with heap := h3, gens := s2.gens, drawn := s2.drawn, toks := tk } : Shared) = s4 at I3 ⊢
    have h4 : s4.heap = h3 := by rw [← hs4]
    have nfP : ∀ b ∈ fp, b ≠ P := fun b hb z => by
      have := (f2 b hb).1
      rw [z, hP] at this
      cases this
    have f4 : ∀ b ∈ fp, FpOk X pins H3 b ∧ b < s4.heap.objs.size := fun b hb => by
      refine ⟨⟨?_, (f2 b hb).2⟩, by rw [h4]; exact Nat.lt_of_lt_of_le (szf b hb) hsz⟩
      rw [← hH3, upd_ne (nfP b hb)]
      exact (f2 b hb).1
    have st4 : tn 0 s4.heap := T.keep _ _ _ st2 fun b hb o e => by rw [h4]; exact keep3 b o (nfP b hb) e
    intro h' hn' hs'
    have hszC : h'.objs.size = s4.heap.objs.size + 1 := by rw [hs'.1, Heap.size_push]
    have keep' : ∀ b o, s4.heap.get? b = some o → h'.get? b = some o := fun b o e => hs'.extBut b o (Nat.ne_of_lt (Heap.lt_size e)) (Heap.get?_push_of_some _ e)
    generalize hoa : ({ cls := .type "generator", data := .fields #[.int s4.gens.size 0, .str "<genexpr>" (s4.toks + 1), .str (X.env.qual ++ "<genexpr>") (s4.toks + 1 + 1)] } : Obj) = oa
    have keep5 : ∀ b o, s4.heap.get? b = some o → (h'.push oa).get? b = some o := fun b o e => Heap.get?_push_of_some _ (keep' b o e)
    have hoa5 : (h'.push oa).get? h'.objs.size = some oa := Heap.get?_push_size _ (by rw [← hoa]; rfl)
    have isG : ∀ {hh : Heap}, hh.get? h'.objs.size = some oa → hh.IsGen h'.objs.size s4.gens.size := fun {hh} e => by
      exact ⟨oa, .str "<genexpr>" (s4.toks + 1), .str (X.env.qual ++ "<genexpr>") (s4.toks + 1 + 1), e, by rw [← hoa], by rw [← hoa], by rw [← hoa]⟩
    have hh2 : (X.A.in1.in1.deeper (gxEnv X s4 scope code)).handled = none := hr.hd
    have hfr : (X.A.in1.in1.deeper (gxEnv X s4 scope code)).frames = some (gxEnv X s4 scope code :: X.stack) := Around.frames_deeper (A := X.A.in1.in1) I3.ok.frames
    have hroom : Room k (X.A.in1.in1.deeper (gxEnv X s4 scope code)) := Room.deeper (A := X.A.in1.in1) (k := k) ⟨hr.hd, by have := hr.dp; show X.A.depth + 3 * (k + 1) + 5 < _; omega, by have := hr.un; show X.A.units + 1 + 1 + 16 * (k + 1) + 200 < _; omega⟩ _
    have inv5 : ∀ g' t', AllBare g' → Inv (gx X (X.A.in1.in1.deeper (gxEnv X s4 scope code)) s4 H3 scope code fp) [(h'.objs.size, oa)] (wipe σ (own.map (·.2))) H3 { s4 with heap := h'.push oa, gens := g', toks := t' } := fun g' t' hg' => by
      have I5 := gx_start (t' := t') (code := code) I3 S.blk S.cell hN f4 hh2 hfr (hn'.push oa) keep5 hg'
      refine I5.pins_of fun p hp => ?_
      have e : p = (h'.objs.size, oa) := by simpa using hp
      subst e
      have hge : s4.heap.objs.size ≤ h'.objs.size := by omega
      refine ⟨hoa5, I3.hok.fresh hge, ?_, fun z => ?_, fun v e => ?_⟩
      · show h'.objs.size ≠ s4.heap.objs.size
        omega
      · rcases List.mem_cons.mp (I3.stkSub _ z) with z | z
        · have := I3.lt
          rw [← z] at this
          exact absurd (Nat.lt_of_lt_of_le this hge) (Nat.lt_irrefl _)
        · exact I3.nofs hge z
      · rw [← hoa] at e
        cases e
    have isg : ∀ H s, Inv (gx X (X.A.in1.in1.deeper (gxEnv X s4 scope code)) s4 H3 scope code fp) [(h'.objs.size, oa)] (wipe σ (own.map (·.2))) H s → s.heap.IsGen h'.objs.size s4.gens.size := fun H s I => isG (I.pin (h'.objs.size, oa) (by simp)).1
    have back : ∀ H s h9 g', Inv (gx X (X.A.in1.in1.deeper (gxEnv X s4 scope code)) s4 H3 scope code fp) [(h'.objs.size, oa)] (wipe σ (own.map (·.2))) H s → AllBare g' → (∀ b o, s.heap.get? b = some o → h9.get? b = some o) → Inv X pins σ H { s with heap := h9, gens := g' } := fun H s h9 g' I hg' kp =>
      I3.call' (ch := fp) I.os (I.base.trans (Un.kept kp)) (I.hok.kept kp) hg' fun b hb => ⟨(f4 b hb).1.2.2.2.1, (f4 b hb).1.2.1, (f4 b hb).1.2.2.2.2.1, (f4 b hb).1.2.2.2.2.2⟩
    refine hQ h'.objs.size s4.gens.size (m0 + 1) _ (isG hoa5) (live_of (G := gx X (X.A.in1.in1.deeper (gxEnv X s4 scope code)) s4 H3 scope code fp) (pa := [(h'.objs.size, oa)]) (σw := wipe σ (own.map (·.2))) (fp := fp) (tn := tn) (W := W) hr.hd (by have := hr.dp; omega) isg back (m0 + 1) _ (isG hoa5) (I3.nolimit.keeps keep5) ⟨_, Array.getElem?_push_size .., rfl, ?_⟩)
    have fr3 : ∀ b ∈ fp, H3 b = none := fun b hb => (f4 b hb).1.1
    have st5 : tn 0 (h'.push oa) := T.keep _ _ _ st4 fun b _ o e => keep5 b o e
    exact seg_begin (G := gx X (X.A.in1.in1.deeper (gxEnv X s4 scope code)) s4 H3 scope code fp) (A := X.A.in1.in1) rfl hc S.co rfl T (hg _ _ _ _ _) (he _ _ _ _ _ hroom) rfl rfl (fun p hp b hb => by
      have e : p = (h'.objs.size, oa) := by simpa using hp
      subst e
      have h9 : b < s4.heap.objs.size := (f4 b hb).2
      have hge : s4.heap.objs.size ≤ h'.objs.size := by omega
      exact Nat.ne_of_gt (Nat.lt_of_lt_of_le h9 hge)) turn (m0 + 1) 0 m0 _ _ H3 (Nat.lt_succ_self _) ⟨inv5 _ _ (allBare_upd (I3.bare.push rfl) rfl), st5, fr3⟩ w0
  cases hf : codeAmong gpos ps.toList with
  | none =>
    refine wpAny_genexprCodeX hcode (cd.code hPs ht) (cd.tab hPs) hf fun c' h' tk hx hge hlt hco' _ htab' _ => ?_
    obtain ⟨o1, vs, f1, tf, fl, tg, inF, tx, tt, op, _, _, _, _, _, _, _, _, _, htr, _⟩ := hco'
    exact cont' _ h' tk _ hx (Nat.le_trans hge (Nat.le_of_lt hlt)) htab'.2 ⟨_, rfl⟩ htr
  | some cv =>
    refine wpAny_genexprCode_hit hcode (cd.code hPs ht) hf ?_
    exact cont' cv s2.heap s2.toks ps (Heap.ExtBut.refl _ _) (Nat.le_refl _) hPs ⟨#[], by simp⟩ ht
end
end Ky
namespace Ky
open PySem PySem.Spec PyProof.Rows L2
section
variable {X : Cx} {k : Nat} {c P : Addr} {tg elt iter : Expr} {scope : Scope} {own : List (Str × Nat)} {gpos p pos : Pos} {wi : TI} {g : TG} {te : TE}
theorem pe_allG (hr : Room (k + 2) X.A) (hgl : Gl X "all") (hm : X.mg "all" = none) (hb : bootBuiltins "all" = some (.builtin "all")) (hc : X.calm = true) (hN : X.N.Nodup) (TB : GxR.TabB X.base X.mg c P) (hcode : X.env.code = .ref c) (S : GxS X.N X.env.scope scope own) (hi : PI X tg iter wi)
    (hg : ∀ A' s H code fp, PG (gx X A' s H scope code fp) tg g) (hel : ∀ A' s H code fp, Room k A' → PE (gx X A' s H scope code fp) elt te) (hs : ∀ v, genFold iter X.env v = pure v := by intro _; rfl)
    (he : starEach [.GeneratorExp elt [⟨tg, iter, [], 0⟩] scope gpos] X.env = (false, eval (.GeneratorExp elt [⟨tg, iter, [], 0⟩] scope gpos) X.env) :: starEach [] X.env := by rfl) :
    PE X (.Call (.Name "all" p) [.GeneratorExp elt [⟨tg, iter, [], 0⟩] scope gpos] [] pos) (gRd P wi g te (own.map (·.2)) true) := by
  refine ⟨fun pins s σ H Q I h => ?_⟩
  refine wpAny_Call_Name_kw (ld_blt I hgl hm hb ?_)
  refine PyProof.Rows.callWith_builtin1 ?_ he (by rfl)
  rw [he]
  show wpAny _ _ (spliced ((false, eval (.GeneratorExp elt [⟨tg, iter, [], 0⟩] scope gpos) X.env) :: backTo pos (starEach [] X.env))) _ _ s
  refine Calls.spliced_cons (gx_make hc hN hr TB hcode S hi hg hel hs I h fun a gi n s' hG hL => ?_)
  refine Calls.spliced_nil ?_
  refine call_function_tree F.kind_all F.plain_all F.entry_all (F.args_all1 _) ?_
  unfold Builtin.«all»
  refine wpAny_bind (m := oneArg "all" _) (wpAny_pure ?_)
  refine wpAny_bind (wpAny_pyIter_gen hG ?_)
  exact wpAny_pure ⟨plainId_quiet F.plain_all_loop _, live_all n s' hL fun s'' H' b I' q => ⟨.bl b, H', I', rfl, q⟩⟩
theorem pe_anyG (hr : Room (k + 2) X.A) (hgl : Gl X "any") (hm : X.mg "any" = none) (hb : bootBuiltins "any" = some (.builtin "any")) (hc : X.calm = true) (hN : X.N.Nodup) (TB : GxR.TabB X.base X.mg c P) (hcode : X.env.code = .ref c) (S : GxS X.N X.env.scope scope own) (hi : PI X tg iter wi)
    (hg : ∀ A' s H code fp, PG (gx X A' s H scope code fp) tg g) (hel : ∀ A' s H code fp, Room k A' → PE (gx X A' s H scope code fp) elt te) (hs : ∀ v, genFold iter X.env v = pure v := by intro _; rfl)
    (he : starEach [.GeneratorExp elt [⟨tg, iter, [], 0⟩] scope gpos] X.env = (false, eval (.GeneratorExp elt [⟨tg, iter, [], 0⟩] scope gpos) X.env) :: starEach [] X.env := by rfl) :
    PE X (.Call (.Name "any" p) [.GeneratorExp elt [⟨tg, iter, [], 0⟩] scope gpos] [] pos) (gRd P wi g te (own.map (·.2)) false) := by
  refine ⟨fun pins s σ H Q I h => ?_⟩
  refine wpAny_Call_Name_kw (ld_blt I hgl hm hb ?_)
  refine PyProof.Rows.callWith_builtin1 ?_ he (by rfl)
  rw [he]
  show wpAny _ _ (spliced ((false, eval (.GeneratorExp elt [⟨tg, iter, [], 0⟩] scope gpos) X.env) :: backTo pos (starEach [] X.env))) _ _ s
  refine Calls.spliced_cons (gx_make hc hN hr TB hcode S hi hg hel hs I h fun a gi n s' hG hL => ?_)
  refine Calls.spliced_nil ?_
  refine call_function_tree F.kind_any F.plain_any F.entry_any (F.args_any1 _) ?_
  unfold Builtin.«any»
  refine wpAny_bind (m := oneArg "any" _) (wpAny_pure ?_)
  refine wpAny_bind (wpAny_pyIter_gen hG ?_)
  exact wpAny_pure ⟨plainId_quiet F.plain_any_loop _, live_any n s' hL fun s'' H' b I' q => ⟨.bl b, H', I', rfl, q⟩⟩
end
end Ky

namespace Kz
open PySem PySem.SeqAt PySem.W PyProof.Rows
/-! ### sorting of tuples, the empty one among them -/
section
variable {prog : Program} {w : World} {A : Around} {E : Value → Shared → Prop} {s : Shared}
theorem call_tuple_lt {Q : Value → Shared → Prop} {l b : Addr} {items items2 : Array Value} {e r : Nat → Bool} (hl : s.heap.IsTuple l items) (hb : s.heap.IsTuple b items2)
    (he : ∀ j (h1 : j < items.size) (h2 : j < items2.size), EqAt A.in1 s items[j] items2[j] (e j)) (hr : ∀ j (h1 : j < items.size) (h2 : j < items2.size), e j = false → RcLt A.in1 s items[j] items2[j] (r j))
    (h : Q (.bool (firstLt e r (decide (items.size < items2.size)) (List.range (min items.size items2.size)))) s) : wpAny (model prog w) A (call (.builtin "tuple.__lt__") [.ref l, .ref b]) Q E s := by
  obtain ⟨⟨cls, dd, data, sl⟩, ho, hc, n, hd⟩ := id hl
  obtain ⟨⟨cls2, dd2, data2, sl2⟩, ho2, hc2, n2, hd2⟩ := id hb
  simp only at hc hd hc2 hd2
  subst hc hd hc2 hd2
  exact call_meets F.slot_tuple_lt ⟨_, ho, rfl⟩ F.entry_tuple_lt (F.args_tuple_lt_2 _ _) (tuple_ltAt l b items items2 n n2 dd dd2 sl sl2 e r) ⟨ho, ho2, he, hr, h⟩
theorem oneLt_any {f : Bool} {da db : PyData} {a b : Value} {as bs : List Addr} {Q : Bool → Shared → Prop} (ra : Reads s.heap a da as) (rb : Reads s.heap b db bs) (h : alike da db = true) (hn : da ≠ .none)
    (hu : A.units + min da.depth db.depth < cLine) (hq : Q (dataLt da db) s) : wpAny (model prog w) A (oneLt' f a b) Q E s := by
  by_cases ht : f = true ∧ ∃ xs, da = .tuple xs
  · obtain ⟨rfl, xs, rfl⟩ := ht
    cases db with
    | tuple ys =>
      have hal : alikeAll xs ys = true := by simpa [alike] using h
      cases ra with
      | @tuple l o vs n _ as₁ h1 h2 h3 h4 =>
        cases rb with
        | @tuple l' o' vs' n' _ bs₁ k1 k2 k3 k4 =>
          have n1 : vs.size = xs.length := by simpa using ReadsAll.length _ _ _ h4
          have n2 : vs'.size = ys.length := by simpa using ReadsAll.length _ _ _ k4
          rw [dataLt_tuple, ← firstLt_toks xs ys hal, ← n1, ← n2] at hq
          rw [oneLt'_eq]
          simp only [if_true]
          refine wpAny_bind (wpAny_cRoomFor (room_here hu) ?_)
          refine wpAny_bind (wpAny_callSpecialIfBound?_slot (T := "tuple") ⟨_, h1, h2⟩ F.slot_tuple_lt (call_tuple_lt (e := pairEq xs ys) (r := fun j => dataLt (xs.getD j .none) (ys.getD j .none)) ⟨_, h1, h2, _, h3⟩ ⟨_, k1, k2, _, k3⟩ (fun j j1 j2 => ?_) (fun j j1 j2 hj => ?_) ?_))
          · have := eqAt_alikeAll xs ys A.in1 s vs.toList vs'.toList _ _ h4 k4 hal (room_in hu) j (by simpa using j1) (by simpa using j2)
            simpa using this
          · have := rcLt_alikeAll xs ys A.in1 s vs.toList vs'.toList _ _ h4 k4 hal (room_in hu) j (by simpa using j1) (by simpa using j2) hj
            simpa using this
          · exact wpAny_truthy_bool hq
    | _ => exact absurd h (by simp [alike])
  · exact oneLt_alike (fun hf xs hx => ht ⟨hf, xs, hx⟩) ra rb h hn hu hq
def hasItem : PyData → Bool
  | .tuple [] => false
  | _ => true
theorem keyLt_general (x y : Value) : keyLt' general' x y = oneLt' false x y := rfl
theorem firsts_any {M : Model} : ∀ {vs : List Value} {ds : List PyData}, EachIs (fun v d => ∃ as, Reads s.heap v d as) vs ds → (∀ d ∈ ds, ∃ r, d = .tuple r) →
    ∃ fs : List (Option Value), (∀ (Q : List (Option Value) → Shared → Prop), Q fs s → wpAny M A (vs.mapM firstOfTuple') Q E s) ∧ fs.map (·.isSome) = ds.map hasItem
  | _, _, .nil, _ => ⟨[], fun Q h => by rw [List.mapM_nil]; exact wpAny_pure h, rfl⟩
  | _, _, .cons (b := d) ⟨as, r⟩ t, ht => by
    obtain ⟨fs, h1, h2⟩ := firsts_any (M := M) t fun d hd => ht d (List.mem_cons_of_mem _ hd)
    obtain ⟨ds, rfl⟩ := ht d (List.mem_cons_self ..)
    cases r with
    | @tuple a o xs n _ _ ho hc hd hr =>
      refine ⟨xs[0]? :: fs, fun Q h => ?_, ?_⟩
      · rw [List.mapM_cons]
        refine wpAny_bind ?_
        rw [kas_first_eq]
        refine wpAny_bind (Looks.here (show Looks M s.heap (typeOf (.ref a)) o.cls from (Looks.ld ho).andThen .now) ?_)
        rw [hc, if_neg (by first | decide | simp)]
        refine wpAny_bind (listItems_at ho hd (wpAny_pure ?_))
        exact wpAny_bind (h1 (fun bs s' => wpAny M A (pure (xs[0]? :: bs)) Q E s') (wpAny_pure h))
      · rw [List.map_cons, List.map_cons, h2]
        congr 1
        cases q : xs.toList with
        | nil =>
          rw [q] at hr
          cases hr
          have e0 : xs = #[] := by
            apply Array.toList_inj.mp
            rw [q]
          subst e0
          rfl
        | cons f fr =>
          rw [q] at hr
          cases hr with
          | cons r1 r2 =>
            have hf : xs[0]? = some f := by rw [← Array.getElem?_toList, q]; rfl
            rw [hf]
            rfl
/-- values that read as alike tuples can be sorted -/
theorem sorts_tups {vs : List Value} {ds : List PyData} (e : EachIs (fun v d => ∃ as, Reads s.heap v d as) vs ds) (hal : AllAlike ds) (hk : ∀ d ∈ ds, ∃ r, d = .tuple r) (hu : ∀ d, d ∈ ds → A.units + d.depth < cLine) : SortsAt prog w A s (dataKind s.heap ds) vs := by
  by_cases hne : ∀ d, d ∈ ds → ∃ x r, d = PyData.tuple (x :: r)
  · exact SortsAt.data e hal (.inl hne) hu
  · have hemp : PyData.tuple [] ∈ ds := by
      apply Classical.byContradiction
      intro hno
      refine hne fun d hd => ?_
      obtain ⟨r, rfl⟩ := hk d hd
      cases r with
      | nil => exact absurd hd hno
      | cons x r => exact ⟨x, r, rfl⟩
    have room : ∀ {d d' : PyData}, d ∈ ds → A.units + min d.depth d'.depth < cLine := fun {d d'} hd => Nat.lt_of_le_of_lt (Nat.add_le_add_left (Nat.min_le_left _ _) _) (hu d hd)
    have ask : ∀ f : Bool, ∀ (E : Value → Shared → Prop) (x y : Value) (a b : (dataKind s.heap ds).α) {Q : Bool → Shared → Prop}, (dataKind s.heap ds).keyOf x = some a → (dataKind s.heap ds).keyOf y = some b → Q ((dataKind s.heap ds).blt a b) s → wpAny (model prog w) A (oneLt' f x y) Q E s := by
      intro f E x y a b Q ha hb hq
      obtain ⟨d, as, hd, ra, rfl⟩ := dataKind_inv ha
      obtain ⟨d', as', hd', rb, rfl⟩ := dataKind_inv hb
      refine oneLt_any ra rb (hal d hd d' hd') (fun z => ?_) (room hd) hq
      obtain ⟨r, rfl⟩ := hk d hd
      cases z
    refine ⟨fun v hv => ?_, ?_⟩
    · obtain ⟨d, hd, as, r⟩ := e.left v hv
      exact ⟨_, dataKind_some hal hd r⟩
    · cases ds with
      | nil => exact absurd hemp (by simp)
      | cons d₀ ds₀ =>
        have nall : ∀ fs : List (Option Value), fs.map (·.isSome) = (d₀ :: ds₀).map hasItem → ¬ (fs.toArray.all (·.isSome)) = true := fun fs hfs hall => by
          simp only [List.all_toArray] at hall
          have hm : false ∈ fs.map (·.isSome) := by
            rw [hfs]
            exact List.mem_map.mpr ⟨_, hemp, rfl⟩
          obtain ⟨f, hf, hb⟩ := List.mem_map.mp hm
          have := List.all_eq_true.mp hall f hf
          rw [hb] at this
          cases this
        by_cases h0 : d₀ = PyData.tuple []
        · refine ⟨oneType', fun E x y a b Q ha hb hq => by rw [keyLt'_oneType]; exact ask true E x y a b ha hb hq, fun h2 E Q hq => ?_⟩
          obtain ⟨fs, h1, hfs⟩ := firsts_any (M := model prog w) (A := A) (E := E) e hk
          rw [keyKind'_eq, List.mapM_toArray, map_eq_pure_bind]
          refine wpAny_bind (wpAny_bind (h1 _ (wpAny_pure ?_)))
          rw [if_neg (nall fs hfs)]
          have hf0 : ¬ ((fs.toArray[0]?.bind id).isSome = true) := by
            cases fs with
            | nil => simp
            | cons f fr =>
              rw [List.map_cons, List.map_cons] at hfs
              have := (List.cons.inj hfs).1
              rw [h0] at this
              have this : f.isSome = false := this
              simpa using this
          rw [if_neg hf0, oneTypeOnly'_eq, List.mapM_toArray, map_eq_pure_bind]
          refine wpAny_bind (wpAny_bind (wpAny_bind (kas_mapM (r := Value.type "tuple") _ (fun v hv Q' hq => ?_) (wpAny_pure ?_))))
          · obtain ⟨d, hd, as, r⟩ := e.left v hv
            obtain ⟨r', rfl⟩ := hk d hd
            exact Looks.here (looks_reads (M := model prog w) r) hq
          · have hall : ((List.map (fun _ => Value.type "tuple") vs).toArray.all fun x => x == Value.type "tuple") = true := by
              simp only [List.all_toArray, List.all_map, List.all_eq_true]
              intro _ _
              exact beq_self_eq_true _
            have h0' : (List.map (fun _ => Value.type "tuple") vs).toArray[0]? = some (Value.type "tuple") := by
              cases vs with
              | nil => exact absurd h2 (by simp)
              | cons v vr => simp
            rw [h0']
            simp only [hall, if_true]
            exact wpAny_pure (wpAny_pure hq)
        · refine ⟨general', fun E x y a b Q ha hb hq => by rw [keyLt_general]; exact ask false E x y a b ha hb hq, fun h2 E Q hq => ?_⟩
          obtain ⟨fs, h1, hfs⟩ := firsts_any (M := model prog w) (A := A) (E := E) e hk
          rw [keyKind'_eq, List.mapM_toArray, map_eq_pure_bind]
          refine wpAny_bind (wpAny_bind (h1 _ (wpAny_pure ?_)))
          rw [if_neg (nall fs hfs)]
          have hf0 : (fs.toArray[0]?.bind id).isSome = true := by
            cases fs with
            | nil =>
              rw [List.map_cons] at hfs
              cases hfs
            | cons f fr =>
              rw [List.map_cons, List.map_cons] at hfs
              have := (List.cons.inj hfs).1
              obtain ⟨r, hr⟩ := hk d₀ (List.mem_cons_self ..)
              have this : f.isSome = true := by
                rw [this, hr]
                cases r with
                | nil => exact absurd hr h0
                | cons _ _ => rfl
              simpa using this
          rw [if_pos hf0]
          exact wpAny_pure hq
end
end Kz

namespace Ky
open PySem PySem.Spec PyProof.Rows L2
/-! ### data in order -/
/-- keys that sorted takes: tuples (also the empty one), or no tuples and no None -/
def Srt (ds : List PyData) : Prop := (∀ d, d ∈ ds → ∃ r, d = PyData.tuple r) ∨ (∀ d, d ∈ ds → d ≠ .none ∧ ∀ xs, d ≠ .tuple xs)
theorem srt_sorts {prog : Program} {w : World} {A : Around} {s : Shared} {vs : List Value} {ds : List PyData} (e : PySem.W.EachIs (fun v d => ∃ as, Reads s.heap v d as) vs ds) (hal : PySem.W.AllAlike ds) (hk : Srt ds) (hu : ∀ d, d ∈ ds → A.units + d.depth < cLine) : PySem.W.SortsAt prog w A s (PySem.W.dataKind s.heap ds) vs := by
  rcases hk with hk | hk
  · exact Kz.sorts_tups e hal hk hu
  · exact PySem.W.SortsAt.data e hal (.inr hk) hu
section
variable {X : Cx} {pins : List (Addr × Obj)} {σ : L2.St} {H : Hp} {s : Shared}
theorem each_dp (I : Inv X pins σ H s) : ∀ {xs : List V} {us : List Value} {ds : List PyData}, Vals xs us → DpAll X.K H xs ds → PySem.W.EachIs (fun u (b : V × PyData) => RelV b.1 u ∧ ∃ as, Reads s.heap u b.2 as) us (xs.zip ds)
  | _, _, _, .nil, .nil => .nil
  | _, _, _, .cons r1 r2, .cons d1 d2 => .cons ⟨r1, Dp.reads I _ _ _ d1 r1⟩ (each_dp I r2 d2)
theorem dpAll_len {K : PySem.W.Frag} : ∀ {xs : List V} {ds : List PyData}, DpAll K H xs ds → xs.length = ds.length
  | _, _, .nil => rfl
  | _, _, .cons _ d => by rw [List.length_cons, List.length_cons, dpAll_len d]
theorem zip_snd {xs : List V} {ds : List PyData} (h : xs.length = ds.length) : (xs.zip ds).map (·.2) = ds := List.map_snd_zip (by omega)
theorem vals_each : ∀ {us : List Value} {bs : List (V × PyData)}, PySem.W.EachIs (fun u (b : V × PyData) => RelV b.1 u) us bs → Vals (bs.map (·.1)) us
  | _, _, .nil => .nil
  | _, _, .cons r t => .cons r (vals_each t)
/-- the items in the order of their data -/
def sortD (xs : List V) (ds : List PyData) : List V := ((xs.zip ds).mergeSort (PySem.W.dataLe false (·.2))).map (·.1)
theorem sortD_len {xs : List V} {ds : List PyData} (h : xs.length = ds.length) : (sortD xs ds).length = xs.length := by
  unfold sortD
  rw [List.length_map, List.length_mergeSort, List.length_zip, ← h, Nat.min_self]
def rSortedD (K : PySem.W.Frag) : List V → Hp → VK → Prop := fun vs H Q => ∃ (a : Addr) (xs : List V) (ds : List PyData), vs = [.ref a] ∧ SqL K H a xs ∧ DpAll K H xs ds ∧ PySem.W.AllAlike ds ∧ Srt ds ∧ (∀ d ∈ ds, d.depth ≤ 60) ∧ ∀ p, H p = none → Q (.ref p) (upd H p (.lst (sortD xs ds)))
theorem cr_sortedD (hu : X.A.units + 64 < cLine) : CallR X (.builtin "sorted") (rSortedD X.K) := by
  intro pins s σ H vs us Q I r h
  obtain ⟨a, xs, ds, rfl, hs, hd, hal, hk, hdep, q⟩ := h
  obtain rfl := Vals.ref1 r
  obtain ⟨its, rv, hl, hz⟩ := I.list hs
  have hlen := dpAll_len hd
  have e := each_dp I rv hd
  have hm := zip_snd hlen
  have er' : PySem.W.EachIs (fun v (b : V × PyData) => ∃ as, Reads (PySem.W.sortingHeap (PySem.W.copyHeap s.heap its) (s.heap.objs.size + 1) its) v b.2 as) its (xs.zip ds) := e.mono fun _ _ ⟨_, as, r⟩ => ⟨as, PyProof.Rows.Reads.keeps (fun _ _ => PySem.W.sorting_copy_old) r⟩
  have em := PySem.W.each_map (R := fun v d => ∃ as, Reads (PySem.W.sortingHeap (PySem.W.copyHeap s.heap its) (s.heap.objs.size + 1) its) v d as) (fun b : V × PyData => b.2) er'
  rw [hm] at em
  refine PySem.W.sorted_vals hl.isList (srt_sorts (s := { s with heap := PySem.W.sortingHeap (PySem.W.copyHeap s.heap its) (s.heap.objs.size + 1) its }) em hal hk fun d hm' => ?_) (by rw [← rv.length]; exact hz) ?_
  · have := hdep d hm'
    show X.A.units + 1 + 1 + d.depth < cLine
    omega
  · have out := PySem.W.sortVals_data (enc := fun b : V × PyData => b.2) (R := fun u (b : V × PyData) => RelV b.1 u) false (e.mono fun _ _ z => z.1) er' (by rw [hm]; exact hal)
    rw [hm] at out
    generalize PySem.W.sortVals (PySem.W.dataKind (PySem.W.sortingHeap (PySem.W.copyHeap s.heap its) (s.heap.objs.size + 1) its) ds) false its its = res at out ⊢
    obtain ⟨ep, he'⟩ := PyProof.Rows.sortedAll_at s.heap its res.toArray
    exact ⟨.ref _, upd H (s.heap.objs.size + 1) (.lst (sortD xs ds)), I.laid (t' := s.toks) (fun _ _ => PyProof.Rows.sortedAll_old) (Nat.le_succ _) ⟨by rw [sortD_len hlen]; exact hz, _, ep, vals_each out, he'⟩, rfl, q _ (I.hok.fresh (Nat.le_succ _))⟩
/-! ### < of data -/
def rLtD (K : PySem.W.Frag) : R2 := fun x y H Q => ∃ d e, Dp K H x d ∧ Dp K H y e ∧ PySem.W.alike d e = true ∧ d ≠ .none ∧ d.depth ≤ 60 ∧ Q (.bl (PySem.W.dataLt d e)) H
theorem op_ltD (hu : X.A.units + 64 < cLine) : OpR X (compareOp .Lt) (rLtD X.K) := by
  intro pins s σ H x y v u Q I rx ry h
  obtain ⟨d, e, hd, he, ha, hn, hz, q⟩ := h
  obtain ⟨as, r1⟩ := Dp.reads I d x v hd rx
  obtain ⟨bs, r2⟩ := Dp.reads I e y u he ry
  exact PySem.W.lt_data r1 r2 ha hn (by have := Nat.min_le_left d.depth e.depth; omega) ⟨.bl _, H, I, rfl, q⟩
end
end Ky

namespace Ky
open PySem PySem.Spec PyProof.Rows L2
/-! ### sorted(l, key=f), f a def of the program -/
theorem freed_none (h : Heap) (a : Addr) : (h.update a fun _ => ⟨.none, none, .freed, #[]⟩).get? a = none := by
  cases e : (h.update a fun _ => ⟨.none, none, .freed, #[]⟩).get? a with
  | none => rfl
  | some o =>
    obtain ⟨h1, h2⟩ := Heap.get?_some_iff.mp e
    exfalso
    obtain ⟨objs⟩ := h
    simp only [Heap.update, Array.getElem?_modify, if_pos] at h1
    cases q : objs[a]? with
    | none =>
      rw [q] at h1
      cases h1
    | some x =>
      rw [q] at h1
      cases h1
      cases h2
/-- a context at another place of the same calls, where nothing is raised -/
abbrev atA (X : Cx) (A' : Around) : Cx := { X with A := A', xe := fun _ _ => False }
section
variable {X : Cx} {pins : List (Addr × Obj)} {σ : L2.St} {H : Hp} {s : Shared}
theorem inAt {A' : Around} (I : Inv X pins σ H s) (hh : X.calm = true → A'.handled = none) (hf : A'.frames = X.A.frames) : Inv (atA X A') pins σ H s :=
  ⟨⟨I.ok.mod, I.ok.kind, I.ok.glob, I.ok.blt, I.ok.above, I.ok.inj, I.ok.has, I.ok.cab, hh, hf.trans I.ok.frames, I.ok.stk, I.ok.exf, I.ok.bs, I.ok.bsz, I.ok.noex, I.ok.exfs, I.ok.funs, I.ok.frf⟩, I.os, I.bare, I.base, I.loc, I.cell, I.free, I.freeC, I.pin, I.hok, I.len⟩
theorem outAt {A' : Around} (I : Inv (atA X A') pins σ H s) (ok : X.Ok) : Inv X pins σ H s := ⟨ok, I.os, I.bare, I.base, I.loc, I.cell, I.free, I.freeC, I.pin, I.hok, I.len⟩
/-- records of ours have turned, one of them is tracked from now on -/
theorem take_in {h' : Heap} {t' : Nat} {ch : List Addr} {it : Addr} {o : HO} (I : Inv X pins σ H s) (k : ∀ b ob, b ∉ ch → s.heap.get? b = some ob → h'.get? b = some ob) (f : ∀ b ∈ ch, FpOk X pins H b) (hit : it ∈ ch)
    (new : ObjOk X.prog X.w (upd H it o) h' it o) : Inv X pins σ (upd H it o) { s with heap := h', toks := t' } := by
  have nch : ∀ b u, H b = some u → b ∉ ch := fun b u e z => by
    have := (f b z).1
    rw [e] at this
    cases this
  have up : ∀ b u, H b = some u → upd H it o b = some u := fun b u e => by rw [upd_ne (fun z => nch b u e (by rw [z]; exact hit))]; exact e
  refine I.step (g' := s.gens) (d' := s.drawn) (ch := ch) (fun b hb => ?_) (fun b ob _ _ hc e _ => k b ob hc e) (fun b ob _ _ hc e _ => ⟨ob.slots, k b ob hc e⟩)
    (fun b ob hc _ n => by rw [upd_ne (fun z => hc (by rw [z]; exact hit))]; exact n) (fun b ob hc e => ⟨ob, k b ob hc e⟩) (fun b _ e => up b _ e) (fun b _ _ e => up b _ e) (fun b ps e => ⟨#[], by rw [up b _ e]; simp⟩) (fun m hm => ?_) (fun b u e => ?_) I.bare
  · obtain ⟨_, h1, _, h2, h3, h4⟩ := f b hb
    exact ⟨h2, h1, h3, h4⟩
  · obtain ⟨ob, es, ep, ho, r⟩ := hm
    exact ⟨ob, es, ep, k _ ob (fun z => (f _ z).2.1 rfl) ho, r⟩
  · by_cases hb : b = it
    · rw [hb, upd_same] at e
      cases e
      rw [hb]
      exact new
    · rw [upd_ne hb] at e
      refine (I.hok b u e).stay (fun c v hc q => k c v ?_ q) (fun c q => up c _ q) fun c _ q => up c _ q
      rcases hc with z | z
      · rw [z]; exact nch b u e
      · exact nch c _ z
theorem dpAll_snoc {K : PySem.W.Frag} : ∀ {xs : List V} {ds : List PyData} {x : V} {d : PyData}, DpAll K H xs ds → Dp K H x d → DpAll K H (xs ++ [x]) (ds ++ [d])
  | _, _, _, _, .nil, h => .cons h .nil
  | _, _, _, _, .cons h1 h2, h => .cons h1 (dpAll_snoc h2 h)
mutual
theorem Kept.dp {K : PySem.W.Frag} {H H' : Hp} (e : Kept H H') : ∀ (d : PyData) (v : V), Dp K H v d → Dp K H' v d
  | .none, _, h => by cases h; exact .non
  | .bool b, _, h => by cases h; exact .bl b
  | .int i, _, h => by cases h; exact .int i
  | .str x, _, h => by cases h; exact .str x
  | .list ds, _, h => by
    cases h with
    | lst hs ha => exact .lst (e.sq hs) (Kept.dpAll e ds _ ha)
  | .tuple ds, _, h => by
    cases h with
    | tup hs ha =>
      refine .tup ?_ (Kept.dpAll e ds _ ha)
      rcases hs with (hs | ⟨o, hs⟩) | hs
      · exact .inl (.inl (e.tup hs))
      · exact .inl (.inr ⟨o, e.keep _ _ (fun ps z => by cases z) hs⟩)
      · exact .inr hs
  | .dict _, _, h => by cases h
theorem Kept.dpAll {K : PySem.W.Frag} {H H' : Hp} (e : Kept H H') : ∀ (ds : List PyData) (vs : List V), DpAll K H vs ds → DpAll K H' vs ds
  | [], _, h => by cases h; exact .nil
  | d :: ds, _, h => by
    cases h with
    | cons h1 h2 => exact .cons (Kept.dp e d _ h1) (Kept.dpAll e ds _ h2)
end
def rSortedF (K : PySem.W.Frag) (f : Addr) (sp : Sp) : List V → List V → Hp → VK → Prop := fun vs zs H Q => ∃ (a : Addr) (xs : List V) (ds : List PyData), vs = [.ref a] ∧ zs = [.ref f] ∧ SqL K H a xs ∧ xs.length = ds.length ∧ PySem.W.AllAlike ds ∧ Srt ds ∧ (∀ d ∈ ds, d.depth ≤ 60) ∧
  (∀ (i : Nat) (x : V) (d : PyData) (H1 : Hp), xs[i]? = some x → ds[i]? = some d → Kept H H1 → sp [x] H1 (fun y H2 => Kept H1 H2 ∧ Dp K H2 y d) E0) ∧ ∀ H2, Kept H H2 → ∀ p, H2 p = none → Q (.ref p) (upd H2 p (.lst (sortD xs ds)))
theorem vals_len {xs : List V} {us : List Value} (r : Vals xs us) : xs.length = us.length := r.length
theorem cr_sortedF {k : Nat} {f : Addr} {fd : FuncData} {ps : List Str} {sp : Sp} (hr : Room (k + 1) X.A) (F : FnOk X.prog X.w X.K X.mg X.base CX0 k f fd ps sp) (hb : Binds X.K fd ps []) : CallRK X (.builtin "sorted") [Str.ofString "key"] (rSortedF X.K f sp) := by
  intro pins s σ H vs zs us ws Q I r rz h
  obtain ⟨a, xs, ds, rfl, rfl, hs, hlen, hal, hk, hdep, call, q⟩ := h
  obtain rfl := Vals.ref1 r
  obtain ⟨w1, rfl, e1⟩ := vals1 rz
  obtain rfl : w1 = Value.ref f := e1
  obtain ⟨its, rv, hl, hz⟩ := I.list hs
  have hil : xs.length = its.length := rv.length
  have hZ : its.length ≤ sizeLine := by omega
  refine PySem.W.sorted_of_sort hl.isList hZ (PyProof.Rows.ksk_s1 _ _) (fun _ => PyProof.Rows.ksk_l1 _ _) fun E' => ?_
  show wpAny _ _ (Builtin.«list.sort» ⟨[.ref (s.heap.objs.size + 1)], [(Str.ofString "key", .ref f)]⟩) _ _ _
  rw [PyProof.Rows.ksk_t1]
  have hoL := PySem.W.copyHeap_at s.heap its
  have szc : (PySem.W.copyHeap s.heap its).objs.size = s.heap.objs.size + 2 := by
    unfold PySem.W.copyHeap
    rw [Heap.size_push, Heap.size_after_update, Heap.size_push]
  have k0 : ∀ b o, s.heap.get? b = some o → (PySem.W.sortingHeap (PySem.W.copyHeap s.heap its) (s.heap.objs.size + 1) its).get? b = some o := fun _ _ => PySem.W.sorting_copy_old
  generalize hL : s.heap.objs.size + 1 = L at hoL k0 ⊢
  obtain ⟨ep, ho1⟩ : ∃ ep, ((PySem.W.copyHeap s.heap its).update L (Obj.mapSeq fun _ => (#[] : Array Value))).get? L = some (PyProof.Rows.seqObj "list" #[] ep) := ⟨_, PyProof.Rows.get?_update_seq hoL fun _ => #[]⟩
  unfold PyProof.Rows.ksk_tree
  refine wpAny_bind (PyProof.Rows.listItems_at hoL rfl ?_)
  refine wpAny_bind (PyProof.Rows.listUpdate_at hoL rfl ?_ (by rw [List.size_toArray]; exact hZ) (Nat.zero_le _))
  refine wpAny_bind (PyProof.Rows.seqEpoch_at ho1 rfl ?_)
  refine wpAny_bind (wpAny_newTuple ?_ (by show its.length ≤ _; exact hZ))
  refine wpAny_bind (wpAny_newList ?_ (Nat.zero_le _))
  refine wpAny_holding ?_
  have hLS : (((PySem.W.copyHeap s.heap its).update L (Obj.mapSeq fun _ => (#[] : Array Value))).push (PyProof.Rows.seqObj "tuple" its.toArray 0)).objs.size = s.heap.objs.size + 3 := by rw [Heap.size_push, Heap.size_after_update, szc]
  have nk0 : (PySem.W.sortingHeap (PySem.W.copyHeap s.heap its) L its).get? (((PySem.W.copyHeap s.heap its).update L (Obj.mapSeq fun _ => (#[] : Array Value))).push (PyProof.Rows.seqObj "tuple" its.toArray 0)).objs.size = some (PyProof.Rows.seqObj "list" #[] 0) := Heap.get?_push_size _ rfl
  have nL0 : (PySem.W.sortingHeap (PySem.W.copyHeap s.heap its) L its).get? L = some (PyProof.Rows.seqObj "list" #[] ep) := Heap.get?_push_of_some _ (Heap.get?_push_of_some _ ho1)
  show wpAny (model X.prog X.w) X.A.in1.in1 (PyProof.Rows.ksk_rest L (.ref f) false its.toArray ep (.ref (((PySem.W.copyHeap s.heap its).update L (Obj.mapSeq fun _ => (#[] : Array Value))).push (PyProof.Rows.seqObj "tuple" its.toArray 0)).objs.size)) _ _ { s with heap := PySem.W.sortingHeap (PySem.W.copyHeap s.heap its) L its }
  generalize hkS : (((PySem.W.copyHeap s.heap its).update L (Obj.mapSeq fun _ => (#[] : Array Value))).push (PyProof.Rows.seqObj "tuple" its.toArray 0)).objs.size = kS at hLS nk0 ⊢
  generalize PySem.W.sortingHeap (PySem.W.copyHeap s.heap its) L its = h0 at k0 nk0 nL0 ⊢
  have hLs : s.heap.objs.size ≤ L := by omega
  have hkSs : s.heap.objs.size ≤ kS := by omega
  have hka : kS ≠ L := by omega
  have I0 : Inv (atA X X.A.in1.in1) pins σ H { s with heap := h0, toks := s.toks } := (inAt (A' := X.A.in1.in1) I (fun _ => hr.hd) rfl).kept (t' := s.toks) k0
  have fp : ∀ (b : Addr) (H' : Hp), s.heap.objs.size ≤ b → H' b = none → FpOk (atA X X.A.in1.in1) pins H' b := fun b H' hb' hn => (inAt (A' := X.A.in1.in1) I (fun _ => hr.hd) rfl).fpOk hb' hn
  have pk : ∀ {H' : Hp} {s' : Shared} {kA : Array Value} {e : Nat}, Inv (atA X X.A.in1.in1) pins σ H' s' → H' kS = none → H' L = none → s'.heap.get? kS = some (PyProof.Rows.seqObj "list" kA e) → s'.heap.get? L = some (PyProof.Rows.seqObj "list" #[] ep) →
      Inv (atA X X.A.in1.in1) (pins ++ [(L, PyProof.Rows.seqObj "list" #[] ep), (kS, PyProof.Rows.seqObj "list" kA e)]) σ H' s' := fun {H' s' kA e} I' n1 n2 g1 g2 => I'.pins_of fun p hp => by
    rcases List.mem_append.mp hp with hp | hp
    · exact I'.pin p (List.mem_append_right _ hp)
    · rcases List.mem_cons.mp hp with e2 | hp
      · subst e2
        exact ⟨g2, n2, (fp L H' hLs n2).2.1, (fp L H' hLs n2).2.2.1, fun v z => by cases z⟩
      · have e2 := List.mem_singleton.mp hp
        subst e2
        exact ⟨g1, n1, (fp kS H' hkSs n1).2.1, (fp kS H' hkSs n1).2.2.1, fun v z => by cases z⟩
  have upk : ∀ {H' : Hp} {s' : Shared} {kA : Array Value} {e : Nat}, Inv (atA X X.A.in1.in1) (pins ++ [(L, PyProof.Rows.seqObj "list" #[] ep), (kS, PyProof.Rows.seqObj "list" kA e)]) σ H' s' →
      Inv (atA X X.A.in1.in1) pins σ H' s' ∧ H' kS = none ∧ H' L = none ∧ s'.heap.get? kS = some (PyProof.Rows.seqObj "list" kA e) ∧ s'.heap.get? L = some (PyProof.Rows.seqObj "list" #[] ep) := fun {H' s' kA e} I' => by
    have a1 := I'.pin (kS, PyProof.Rows.seqObj "list" kA e) (by simp)
    have a2 := I'.pin (L, PyProof.Rows.seqObj "list" #[] ep) (by simp)
    exact ⟨I'.unpinned, a1.2.1, a2.2.1, a1.1, a2.1⟩
  unfold PyProof.Rows.ksk_rest
  refine wpAny_bind (wpAny_rule ?_)
  first
    | rw [List.forIn_toArray]
    | (rw [← Array.forIn_toList]; simp only [List.toList_toArray])
    | rw [← Array.forIn_toList]
  refine wpAny_bind (PyProof.Rows.ksk_fold (fun i s' => ∃ (H' : Hp) (kA : Array Value) (e : Nat) (ys : List V), Inv (atA X X.A.in1.in1) (pins ++ [(L, PyProof.Rows.seqObj "list" #[] ep), (kS, PyProof.Rows.seqObj "list" kA e)]) σ H' s' ∧ Kept H H' ∧ Vals ys kA.toList ∧ DpAll X.K H' ys (ds.take i)) its 0 _
    ⟨H, #[], 0, [], pk I0 (I.hok.fresh hkSs) (I.hok.fresh hLs) nk0 nL0, Kept.refl H, .nil, by rw [List.take_zero]; exact .nil⟩ ?step ?done)
  case step =>
    rintro j x s' hx ⟨H', kA, e, ys, I', kp, rv', dp'⟩
    simp only [Nat.zero_add] at dp' ⊢
    have hj : j < its.length := (List.getElem?_eq_some_iff.mp hx).1
    have hxj : xs[j]? = some (xs[j]'(by omega)) := List.getElem?_eq_getElem _
    have hdj : ds[j]? = some (ds[j]'(by omega)) := List.getElem?_eq_getElem _
    obtain ⟨u, hu', ru⟩ := rv.get hxj
    rw [hx] at hu'
    cases hu'
    have hrun := run_fn (X := atA X X.A.in1.in1) (k := k) F ⟨hr.hd, by have := hr.dp; show X.A.depth + 3 * k + 5 < _; omega, by have := hr.un; show X.A.units + 1 + 1 + 16 * k + 200 < _; omega⟩ hb .nil pass0 I' (.cons ru .nil) (call j _ _ H' hxj hdj kp)
    refine wpAny_bind (wpAny_attempt (thnF hrun fun v s'' ⟨y, H2, I2, ry, kp2, dy⟩ => ?_))
    try dsimp only
    obtain ⟨I3, n1, n2, g1, g2⟩ := upk I2
    have hsz : kA.size = j := by
      have h1 : ys.length = kA.size := by
        have z := rv'.length
        simpa using z
      have h2 := dpAll_len dp'
      rw [List.length_take] at h2
      have h3 : j ≤ ds.length := by omega
      rw [Nat.min_eq_left h3] at h2
      exact h1.symm.trans h2
    obtain ⟨c2, hc2⟩ : ∃ c2, (s''.heap.update kS (Obj.mapSeq (·.push v))).get? kS = some (PyProof.Rows.seqObj "list" (kA.push v) c2) := ⟨_, PyProof.Rows.get?_update_seq g1 (·.push v)⟩
    refine wpAny_bind (PyProof.Rows.listUpdate_at g1 rfl ?_ (by omega) (by rw [Array.size_push]; omega))
    obtain ⟨f0, f1, f2, f3, f4, f5⟩ := fp kS H2 hkSs n1
    have I4 : Inv (atA X X.A.in1.in1) pins σ H2 { s'' with heap := s''.heap.update kS (Obj.mapSeq (·.push v)), toks := s''.toks } := I3.turned (it := kS) (fun b o hbS e => (Heap.get?_update_other _ _ (Ne.symm hbS)).trans e) f0 f1 f3 f4 f5
    have ek : ds.take (j + 1) = ds.take j ++ [ds[j]'(by omega)] := by rw [List.take_add_one, hdj]; simp
    refine wpAny_pure ⟨rfl, H2, kA.push v, c2, ys ++ [y], pk I4 n1 n2 hc2 ((Heap.get?_update_other _ _ hka).trans g2), kp.trans kp2, ?_, ?_⟩
    · rw [Array.toList_push]
      exact rv'.append (.cons ry .nil)
    · rw [ek]
      exact dpAll_snoc (Kept.dpAll kp2 _ _ dp') dy
  case done =>
    rintro s' ⟨H', kA, e, ys, I', kp, rv', dp'⟩
    have e3 : ds.take (0 + its.length) = ds := List.take_of_length_le (by omega)
    rw [e3] at dp'
    obtain ⟨I3, n1, n2, g1, g2⟩ := upk I'
    try dsimp only
    refine wpAny_bind (PyProof.Rows.listItems_at g1 rfl ?_)
    have hly := dpAll_len dp'
    have hsz : kA.size = its.length := by
      have h1 : ys.length = kA.size := by
        have z := rv'.length
        simpa using z
      exact h1.symm.trans (hly.trans (hlen.symm.trans hil))
    have er := PySem.W.each_map (R := fun v d => ∃ as, Reads s'.heap v d as) (fun b : V × PyData => b.2) ((each_dp I3 rv' dp').mono fun _ _ z => z.2)
    rw [zip_snd hly] at er
    refine PySem.W.keyH_end (κ := PySem.W.dataKind s'.heap ds) (h₁ := s'.heap.update kS fun _ => ⟨.none, none, .freed, #[]⟩) (vs := its) (fun b o hbL eb => ?_) (freed_none _ _) g1 g2 hka (srt_sorts er hal hk fun d hm => ?_) hsz hZ fun h' tk c k3 n3 => ?_
    · by_cases hbS : b = kS
      · rw [hbS, freed_none] at eb
        cases eb
      · rw [Heap.get?_update_other _ _ (Ne.symm hbS)] at eb
        exact eb
    · have h1 := hdep d hm
      have h2 := hr.un
      show X.A.units + 1 + 1 + d.depth < cLine
      omega
    · have ko : PySem.W.KeyedOut false ((xs.zip ds).map fun b : V × PyData => b.2) its (PySem.W.sortVals (PySem.W.dataKind s'.heap ds) false kA.toList its) := by
        rw [zip_snd hlen]
        exact ⟨s'.heap, kA.toList, hal, rfl, er⟩
      have eR : PySem.W.EachIs (fun u (b : V × PyData) => RelV b.1 u) its (xs.zip ds) := by
        have aux : ∀ {xs : List V} {us : List Value} {ds : List PyData}, Vals xs us → xs.length = ds.length → PySem.W.EachIs (fun u (b : V × PyData) => RelV b.1 u) us (xs.zip ds) := by
          intro xs us ds r
          induction r generalizing ds with
          | nil => intro _; exact .nil
          | cons r1 r2 ih =>
            intro hl
            cases ds with
            | nil => cases hl
            | cons d ds => exact .cons r1 (ih (Nat.succ.inj hl))
        exact aux rv hlen
      have out := vals_each (PySem.W.keyedOut_each (R := fun u (b : V × PyData) => RelV b.1 u) (fun b : V × PyData => b.2) ko eR)
      refine ⟨rfl, .ref L, upd H' L (.lst (sortD xs ds)), outAt (take_in (t' := tk) (ch := [kS, L]) I3 (fun b ob hb' eb => ?_) (fun b hb' => ?_) (by simp) ⟨by rw [sortD_len hlen]; exact hz, _, c, out, n3⟩) I.ok, rfl, q H' kp L n2⟩
      · have hb1 : b ≠ kS := fun z => hb' (by simp [z])
        have hb2 : b ≠ L := fun z => hb' (by simp [z])
        exact k3 b ob hb2 ((Heap.get?_update_other _ _ (Ne.symm hb1)).trans eb)
      · rcases List.mem_cons.mp hb' with z | z
        · rw [z]; exact fp kS H' hkSs n1
        · rw [List.mem_singleton.mp z]; exact fp L H' hLs n2
end
end Ky

namespace Ky
open PySem PySem.Spec PyProof.Rows L2
/-! ### {k: v for ..} whose keys are tuples of numbers and texts -/
theorem dictSet_T {X : Cx} {pins : List (Addr × Obj)} {σ : L2.St} {H : Hp} {s : Shared} {E : Value → Shared → Prop} {D b : Addr} {kvs : List (List L2.Key × V)} {k : List L2.Key} {v : V} {r : Value} {Q : Unit → Shared → Prop} (hu : X.A.units + 1 < cLine) (I : Inv X pins σ H s) (hD : H D = some (.dT kvs)) (hb : H b = some (.tup (k.map kV)))
    (hz : kvs.length < sizeLine) (rv : RelV v r) (h : ∀ s', Inv X pins σ (upd H D (.dT (putK kvs k v))) s' → Q () s') : wpAny (model X.prog X.w) X.A (dictSet D (.ref b) r) Q E s := by
  obtain ⟨z, hd, xs, rel, dd⟩ := dt_of I.hok hD
  have hzx : xs.length ≤ sizeLine := by rw [← Paired.length rel]; exact z
  have hl : (putK kvs k v).length ≤ sizeLine := by have := length_putK kvs k v; omega
  refine wpAny_dictSet_heap (hsz := hzx) (show X.A.units < cLine by omega) (key_of I.hok hb) dd fun h' dd' hs => h _ ?_
  obtain ⟨q, es, ep, hq, h2, h3, h4, _, h5⟩ := dd'
  refine d_write I (by rw [hD]; exact True.intro) hs ⟨q, hq⟩ ⟨hl, hd, _, (rel.put k hb rv).keeps fun c ys ec => ?_, q, es, ep, hq, h2, h3, h4, h5⟩
  rw [upd_ne (ne_of ec hD (fun z => nomatch z))]
  exact ec
def tDcT (wi : TI) (g : TG) (tt : TT) (tk tv : TE) (vs : List Nat) : TE := fun σ H Q => wi σ H fun J H1 => ∀ D, H1 D = none → ∃ W : Nat → Nat → Hp → Prop, (∃ m, W 0 m (upd H1 D (.dT []))) ∧ ∀ i m H, W i m H →
  (J.stop i H ∧ Q (.ref D) H) ∨ (J.go i H ∧ ∃ Nx : Hp → Prop, (∀ H', Nx H' → ∃ m', m' < m ∧ W (i + 1) m' H') ∧ ∀ x H', J.yld i H x H' → g x (wipe σ vs) H' fun σ2 H2 => wipe σ2 vs = wipe σ vs ∧ tt σ2 H2 fun b H3 =>
    if b = true then tk σ2 H3 fun y H4 => tv σ2 H4 fun z H5 => ∃ kvs k p, y = .ref p ∧ H5 p = some (.tup (k.map kV)) ∧ H5 D = some (.dT kvs) ∧ kvs.length < sizeLine ∧ Nx (upd H5 D (.dT (putK kvs k z))) else Nx H3)
theorem dcT_core {X : Cx} {pins : List (Addr × Obj)} {s : Shared} {σ : L2.St} {H : Hp} {Q : VK} {kx vx tg iter : Expr} {ifs : List Expr} {scope : Scope} {own : List (Str × Nat)} {pos pos' : Pos} {wi : TI} {g : TG} {tt : TT} {tk tv : TE} {use : Option (Value → Sem Unit)} {Qf : Value → Shared → Prop} (hu : X.A.units + 1 < cLine) (hc : X.calm = true) (hN : X.N.Nodup) (hi : PI X tg iter wi) (ok : BlkOk X.N X.env.scope scope own)
    (hg : ∀ (s : Shared) (H : Hp) (C : Addr) (cl : List (Str × Addr)) (fp : List Addr), PG (X.blk s H scope (compEnvC scope cl C X.env) fp) tg g) (ht : ∀ (s : Shared) (H : Hp) (C : Addr) (cl : List (Str × Addr)) (fp : List Addr), PTs (X.blk s H scope (compEnvC scope cl C X.env) fp) ifs tt)
    (hk : ∀ (s : Shared) (H : Hp) (C : Addr) (cl : List (Str × Addr)) (fp : List Addr), PE (X.blk s H scope (compEnvC scope cl C X.env) fp) kx tk)
    (he : ∀ (s : Shared) (H : Hp) (C : Addr) (cl : List (Str × Addr)) (fp : List Addr), PE (X.blk s H scope (compEnvC scope cl C X.env) fp) vx tv) (hs : ∀ x, foldedSetIterable iter X.env x = pure x) (I : Inv X pins σ H s) (h : tDcT wi g tt tk tv (own.map (·.2)) σ H Q)
    (hRR : ∀ D C s' m H', Inv X pins σ H' s' → Q (.ref D) H' → s'.heap.Ns C m → FpOk X pins H' C → compPost (model X.prog X.w) X.A X.xe use Qf (.ref D) C (.ok .next) s') :
    wpAny (model X.prog X.w) X.A (comprehension (.DictComp kx vx [⟨tg, iter, ifs, 0⟩] scope pos) scope X.env pos' newDict false (eval iter X.env) use) Qf X.xe s := by
  have hfree : ∀ y ∈ scope.names, y.2 = .free → ∃ c, X.env.cells.lookup y.1 = some c := fun y hy e => (ok.free y hy e).elim (fun k => I.ok.has _ (.inl k)) fun k => I.ok.has _ (.inr k)
  refine wpAny_comprehension_free (use := use) rfl hs (closure_ok hfree) ok.kind (fun y hy e => by rw [ok.uniq y hy, e]) (thn (hi.run pins s σ H _ I h) fun xv s1 hx => thn hx fun itv s2 h2 => ?_)
  obtain ⟨it, fp, tn, J, H2, rfl, I2, T, st2, f2, q⟩ := h2
  refine wpAny_newObj_type (newEnv_comp ?_)
  have hDn : H2 s2.heap.objs.size = none := I2.hok.fresh (Nat.le_refl _)
  obtain ⟨W, ⟨m0, w0⟩, turn⟩ := q _ hDn
  have I3 : Inv X pins σ (upd H2 s2.heap.objs.size (.dT [])) { s2 with heap := s2.heap.push { cls := .type "dict", data := .dict #[] }, toks := s2.toks } := I2.laid (fun b o e => Heap.get?_push_of_some _ e) (Nat.le_refl _) (dt_empty s2.heap I2.big)
  have sz : ∀ b ∈ fp, b < s2.heap.objs.size := fun b hb => let ⟨_, e, _⟩ := T.obj _ _ st2 b hb; Heap.lt_size e
  have st3 : tn 0 (s2.heap.push { cls := .type "dict", data := .dict #[] }) := T.keep _ _ _ st2 fun b _ o e => Heap.get?_push_of_some _ e
  have f3 : ∀ b ∈ fp, FpOk X pins (upd H2 s2.heap.objs.size (.dT [])) b ∧ b < (s2.heap.push ({ cls := .type "dict", data := .dict #[] } : Obj)).objs.size := fun b hb => by
    refine ⟨⟨?_, (f2 b hb).2⟩, by rw [Heap.size_push]; exact Nat.lt_succ_of_lt (sz b hb)⟩
    rw [upd_ne (Nat.ne_of_lt (sz b hb))]
    exact (f2 b hb).1
  generalize s2.heap.objs.size = D at hDn turn w0 I3 f3 ⊢
  generalize hH3 : upd H2 D (.dT []) = H3 at I3 w0 f3
  generalize hs3 : ({ s2 with heap := s2.heap.push { cls := .type "dict", data := .dict #[] }, toks := s2.toks } : Shared) = s3 at I3 ⊢
  have h3 : s3.heap = s2.heap.push { cls := .type "dict", data := .dict #[] } := by rw [← hs3]
  rw [← h3] at st3
  have f3 : ∀ b ∈ fp, FpOk X pins H3 b ∧ b < s3.heap.objs.size := fun b hb => by rw [h3]; exact f3 b hb
  have I4 := block_start I3 ok hN f3
  have pg := hg s3 H3 s3.heap.objs.size (cellsFrom (s3.heap.objs.size + 1) scope.names (cloFrom X.env.cells scope.names [])) fp
  have pt := ht s3 H3 s3.heap.objs.size (cellsFrom (s3.heap.objs.size + 1) scope.names (cloFrom X.env.cells scope.names [])) fp
  have pk := hk s3 H3 s3.heap.objs.size (cellsFrom (s3.heap.objs.size + 1) scope.names (cloFrom X.env.cells scope.names [])) fp
  have pe := he s3 H3 s3.heap.objs.size (cellsFrom (s3.heap.objs.size + 1) scope.names (cloFrom X.env.cells scope.names [])) fp
  have nfp : ∀ b ∈ fp, H3 b = none := fun b hb => (f3 b hb).1.1
  show codeAny _ _ (.compStart (.DictComp kx vx [⟨tg, iter, ifs, 0⟩] scope pos) 0 (.ref it) (.ref D) (compEnvC scope (cellsFrom (s3.heap.objs.size + 1) scope.names (cloFrom X.env.cells scope.names [])) s3.heap.objs.size X.env)) _ { s3 with heap := pushCells (s3.heap.push { cls := .type "dict", data := .dict #[] }) scope.names }
  have cL : (compEnvC scope (cellsFrom (s3.heap.objs.size + 1) scope.names (cloFrom X.env.cells scope.names [])) s3.heap.objs.size X.env).locals = s3.heap.objs.size := rfl
  generalize compEnvC scope (cellsFrom (s3.heap.objs.size + 1) scope.names (cloFrom X.env.cells scope.names [])) s3.heap.objs.size X.env = ce at I4 pg pt pk pe cL ⊢
  have st4 : tn 0 (pushCells (s3.heap.push { cls := .type "dict", data := .dict #[] }) scope.names) := T.keep _ _ _ st3 fun b _ o e => pushCells_keeps _ _ _ _ (Heap.get?_push_of_some _ e)
  generalize hs4 : ({ s3 with heap := pushCells (s3.heap.push { cls := .type "dict", data := .dict #[] }) scope.names } : Shared) = s4 at I4 ⊢
  have st4 : tn 0 s4.heap := by rw [← hs4]; exact st4
  have stat : ∀ {σ' : L2.St} {H' : Hp} {s' : Shared}, Inv (X.blk s3 H3 scope ce fp) [] σ' H' s' → (∀ b ∈ fp, H' b = none) → ∀ b ∈ fp, FpOk (X.blk s3 H3 scope ce fp) [] H' b := fun {σ' H' s'} I' hn b hb =>
    ⟨hn b hb, (I'.ok.exf b hb).1, I'.ok.exfs b hb, .inl hb, fun x c e => (I'.ok.exf b hb).2 x c e, fun p hp => absurd (show p ∈ ([] : List (Addr × Obj)) ++ [] from hp) (by simp)⟩
  refine codeAny_compStart_dict ?loop (T.self X.A 0 _ _ _ st4 ?loop)
  refine compLoop_anyD (fun n s' => ∃ i H', Inv (X.blk s3 H3 scope ce fp) [] (wipe σ (own.map (·.2))) H' s' ∧ tn i s'.heap ∧ (∀ b ∈ fp, H' b = none) ∧ W i n H') ?_ m0 ⟨0, H3, I4, st4, nfp, w0⟩
  rintro n s5 ⟨i, H5, I5, st5, n5, w5⟩
  rcases turn i n H5 w5 with ⟨stop, qq⟩ | ⟨go, Nx, hNx, step⟩
  · refine thnF (T.done (X.blk s3 H3 scope ce fp) rfl rfl rfl hc i [] s5 _ H5 (fun _ _ => False) I5 (stat I5 n5) st5 stop) fun r s6 ⟨hr, I6⟩ => ?_
    subst hr
    have I7 : Inv X pins σ H5 s6 := I3.call' (ch := fp) I6.os I6.base I6.hok I6.bare fun b hb => ⟨(f3 b hb).1.2.2.2.1, (f3 b hb).1.2.1, (f3 b hb).1.2.2.2.2.1, (f3 b hb).1.2.2.2.2.2⟩
    have nC : H5 ce.locals = none := I6.free
    obtain ⟨m, hn, _⟩ := I6.loc
    have hn : s6.heap.Ns ce.locals m := hn
    rw [cL] at nC hn
    exact hRR D _ s6 m H5 I7 qq hn (I3.fpOk (Nat.le_refl _) nC)
  · refine thnF (T.item (X.blk s3 H3 scope ce fp) rfl rfl rfl hc i [] s5 _ H5 (fun _ _ => False) I5 (stat I5 n5) st5 go) fun r s6 ⟨u, hr, h6⟩ => ?_
    subst hr
    refine thnF h6 fun _ s7 ⟨x, H7, I7, r7, y7, st7, n7⟩ => ?_
    refine thnF (pg.run _ s7 _ H7 x u _ (I7.pinned (stat I7 n7) (T.obj _ _ st7)) r7 (step x H7 y7)) fun _ s8 ⟨σ8, H8, I8, hw8, q8⟩ => ?_
    refine thnF (pt.run _ s8 σ8 H8 _ I8 q8) fun b s9 ⟨H9, I9, q9⟩ => ?_
    have fin : ∀ {s' : Shared} {H' : Hp}, Inv (X.blk s3 H3 scope ce fp) ([] ++ pinsAt fp s7.heap) σ8 H' s' → Nx H' → ∃ m, m < n ∧ ∃ i H', Inv (X.blk s3 H3 scope ce fp) [] (wipe σ (own.map (·.2))) H' s' ∧ tn i s'.heap ∧ (∀ b ∈ fp, H' b = none) ∧ W i m H' := fun {s' H'} I' nx => by
      obtain ⟨m', hm, w'⟩ := hNx H' nx
      have pin' : ∀ b ∈ fp, ∀ o, s7.heap.get? b = some o → s'.heap.get? b = some o ∧ H' b = none := fun b hb o e =>
        let z := I'.pin (b, o) (List.mem_append_right _ (List.mem_append_right _ (mem_pinsAt hb e)))
        ⟨z.1, z.2.1⟩
      refine ⟨m', hm, i + 1, H', (I'.unpinned (pins := [])).weak (by rw [← hw8, wipe_length]) (fun j v e => ?_), T.keep _ _ _ st7 fun b hb o e => (pin' b hb o e).1, fun b hb => ?_, w'⟩
      · rw [← hw8] at e
        exact (wipe_some e).1
      · obtain ⟨o, e, _⟩ := T.obj _ _ st7 b hb
        exact (pin' b hb o e).2
    cases b with
    | false =>
      simp only [Bool.false_eq_true, if_false] at q9 ⊢
      exact fin I9 q9
    | true =>
      simp only [if_true] at q9 ⊢
      refine thnF (pk.run _ s9 σ8 H9 _ I9 q9) fun z s10 ⟨yk, H10, I10, r10, q10⟩ => ?_
      refine thnF (pe.run _ s10 σ8 H10 _ I10 q10) fun z2 s11 ⟨yv, H11, I11, r11, kvs, k, p, ek, hp, hD11, hz11, nx⟩ => ?_
      subst ek
      obtain rfl : z = Value.ref p := r10
      exact dictSet_T (X := X.blk s3 H3 scope ce fp) hu I11 hD11 hp hz11 r11 fun s12 I12 => fin I12 nx
theorem pe_dcT {X : Cx} {kx vx tg iter : Expr} {ifs : List Expr} {scope : Scope} {own : List (Str × Nat)} {pos : Pos} {wi : TI} {g : TG} {tt : TT} {tk tv : TE} (hu : X.A.units + 1 < cLine) (hc : X.calm = true) (hN : X.N.Nodup) (hi : PI X tg iter wi) (ok : BlkOk X.N X.env.scope scope own)
    (hg : ∀ (s : Shared) (H : Hp) (C : Addr) (cl : List (Str × Addr)) (fp : List Addr), PG (X.blk s H scope (compEnvC scope cl C X.env) fp) tg g) (ht : ∀ (s : Shared) (H : Hp) (C : Addr) (cl : List (Str × Addr)) (fp : List Addr), PTs (X.blk s H scope (compEnvC scope cl C X.env) fp) ifs tt)
    (hk : ∀ (s : Shared) (H : Hp) (C : Addr) (cl : List (Str × Addr)) (fp : List Addr), PE (X.blk s H scope (compEnvC scope cl C X.env) fp) kx tk)
    (he : ∀ (s : Shared) (H : Hp) (C : Addr) (cl : List (Str × Addr)) (fp : List Addr), PE (X.blk s H scope (compEnvC scope cl C X.env) fp) vx tv) (hs : ∀ x, foldedSetIterable iter X.env x = pure x := by intro _; rfl) :
    PE X (.DictComp kx vx [⟨tg, iter, ifs, 0⟩] scope pos) (tDcT wi g tt tk tv (own.map (·.2))) := by
  refine ⟨fun pins s σ H Q I h => ?_⟩
  rw [arm_eval_DictComp]
  refine dcT_core hu hc hN hi ok hg ht hk he hs I h fun D C s' m H' I' q hn f => ⟨m, hn, fun h'' sb => ?_⟩
  obtain ⟨f0, f1, f2, f3, f4, f5⟩ := f
  exact ⟨.ref D, H', I'.turned (t' := s'.toks) (fun b o hb e => (sb.2 b hb).trans e) f0 f1 f3 f4 f5, rfl, q⟩
/-- name = {..} on one line, the name a local -/
theorem ps_setDcT {X : Cx} {i : Nat} {y : Str} {py : Pos} {kx vx tg iter : Expr} {ifs : List Expr} {scope : Scope} {own : List (Str × Nat)} {pos spos : Pos} {wi : TI} {g : TG} {tt : TT} {tk tv : TE} (hy : X.N[i]? = some y) (hyl : X.env.scope.names.lookup y = some .local)
    (hsw : swapsWith (.DictComp kx vx [⟨tg, iter, ifs, 0⟩] scope pos) (some (.Name y py)) spos.line X.env = pure true) (hu : X.A.units + 1 < cLine) (hc : X.calm = true) (hN : X.N.Nodup) (hi : PI X tg iter wi) (ok : BlkOk X.N X.env.scope scope own)
    (hg : ∀ (s : Shared) (H : Hp) (C : Addr) (cl : List (Str × Addr)) (fp : List Addr), PG (X.blk s H scope (compEnvC scope cl C X.env) fp) tg g) (ht : ∀ (s : Shared) (H : Hp) (C : Addr) (cl : List (Str × Addr)) (fp : List Addr), PTs (X.blk s H scope (compEnvC scope cl C X.env) fp) ifs tt)
    (hk : ∀ (s : Shared) (H : Hp) (C : Addr) (cl : List (Str × Addr)) (fp : List Addr), PE (X.blk s H scope (compEnvC scope cl C X.env) fp) kx tk)
    (he : ∀ (s : Shared) (H : Hp) (C : Addr) (cl : List (Str × Addr)) (fp : List Addr), PE (X.blk s H scope (compEnvC scope cl C X.env) fp) vx tv) (hs : ∀ x, foldedSetIterable iter X.env x = pure x := by intro _; rfl) :
    PS X (.Assign [.Name y py] (.DictComp kx vx [⟨tg, iter, ifs, 0⟩] scope pos) spos) (tAsg (tDcT wi g tt tk tv (own.map (·.2))) (gName i)) := by
  refine ⟨fun pins s σ H D I h => ?_⟩
  rw [exec_Assign_Name_used _ _ _ _ hsw]
  refine wpAny_bind (wpAny_standAt (wpAny_bind ?_))
  show wpAny _ X.A (do let _ ← comprehension (.DictComp kx vx [⟨tg, iter, ifs, 0⟩] scope pos) scope X.env (firstIterPos [⟨tg, iter, ifs, 0⟩] pos) newDict false (eval iter X.env) (some (assign (.Name y py) X.env))) _ _ s
  have h : tDcT wi g tt tk tv (own.map (·.2)) σ H (fun x H1 => gName i x σ H1 D.nx) := h
  refine wpAny_bind (thn (dcT_core (Qf := fun _ s' => SP X pins D .next s') hu hc hN hi ok hg ht hk he hs I h fun L C s' m H' I' q hn f => ?_) fun _ s' hq => wpAny_pure (wpAny_pure hq))
  show wpAny _ _ (assign (.Name y py) X.env (.ref L)) _ _ _
  refine wpAny_assign_Name (store_ok2 (v := V.ref L) I' hN hy (.inl hyl) rfl (fun s2 I2 ⟨a, sb, ha⟩ => ?_) (.inr hyl))
  obtain ⟨f0, f1, f2, f3, f4, f5⟩ := f
  have haC : C ≠ a := by
    rcases ha with z | z
    · rw [z]; exact f1
    · exact fun e => f4 y a z e.symm
  refine ⟨m, hn.sameBut sb haC, fun h3 sb3 => ?_⟩
  exact ⟨_, H', I2.turned (t' := s2.toks) (fun b o hb e => (sb3.2 b hb).trans e) f0 f1 f3 f4 f5, q⟩
theorem sw_trueD {kx vx : Expr} {gs : List Comprehension} {scope : Scope} {pos py : Pos} {y : Str} {l : Nat} {env : Env} (hk : env.scope.kind = .function) (hy : env.scope.names.lookup y = some .local) (hl : (py.line == pos.line) = true)
    (ha : (scope.names.any fun (n, k) => n == y && (k == .local || k == .cell)) = false) : swapsWith (.DictComp kx vx gs scope pos) (some (.Name y py)) l env = pure true := by
  have ky : env.kindOf y = some .local := hy
  have hb : env.blockKind = .function := by unfold Env.blockKind; rw [hk]; rfl
  unfold swapsWith
  simp only [hb, ky, ha, Expr.pos, hl]
  rfl
end Ky

namespace Ky
open PySem PySem.Spec PyProof.Rows L2
/-! ### {k for row in rows for x in row}, k a number -/
abbrev sc2 (elt t0 i0 t1 i1 : Expr) (scope : Scope) (pos : Pos) : Expr := .SetComp elt [⟨t0, i0, [], 0⟩, ⟨t1, i1, [], 0⟩] scope pos
theorem turn_out (elt t0 i0 t1 i1 : Expr) (scope : Scope) (pos : Pos) (it acc : Value) (env : Env) : compTurn (sc2 elt t0 i0 t1 i1 scope pos) 0 it acc env = (do
      standAt i0.pos
      match ← pyNext it with
      | none => pure (.done .next)
      | some v =>
        letOwnedTupleGo t0 it v
        assign t0 env v
        let mut ok := true
        for c in ([] : List Expr) do
          if ok then ok ← isTrue c env (eval c env)
        if ok then
          let x ← eval i1 env
          standAt i1.pos
          let x ← foldedSetIterable i1 env x
          let _ ← runOwn (.compStart (sc2 elt t0 i0 t1 i1 scope pos) 1 (← holding [x] (pyIter x)) acc env) env
        again (.compLoop (sc2 elt t0 i0 t1 i1 scope pos) 0 it acc env)) := by rfl
theorem turn_in (elt t0 i0 t1 i1 : Expr) (scope : Scope) (pos : Pos) (it acc : Value) (env : Env) : compTurn (sc2 elt t0 i0 t1 i1 scope pos) 1 it acc env = (do
      standAt i1.pos
      match ← pyNext it with
      | none => pure (.done .next)
      | some v =>
        letOwnedTupleGo t1 it v
        assign t1 env v
        let mut ok := true
        for c in ([] : List Expr) do
          if ok then ok ← isTrue c env (eval c env)
        if ok then
          (do let v ← eval elt env; standAt elt.pos; let _ ← call (.builtin "set.add") [acc, v])
        again (.compLoop (sc2 elt t0 i0 t1 i1 scope pos) 1 it acc env)) := by rfl
section
variable {prog : Program} {w : World} {A : Around} {R : Result → Shared → Prop} {s : Shared} {elt t0 i0 t1 i1 : Expr} {scope : Scope} {pos : Pos} {it acc : Value} {env : Env}
theorem loop_out (hs : ∀ x, foldedSetIterable i1 env x = pure x) (I : Nat → Shared → Prop)
    (turn : ∀ n s, I n s → wpAny (model prog w) A (pyNext it) (fun r s1 => match r with
      | none => R (.ok .next) s1
      | some v => wpAny (model prog w) A (letOwnedTupleGo t0 it v) (fun _ s2 => wpAny (model prog w) A (assign t0 env v) (fun _ s3 => wpAny (model prog w) A (eval i1 env) (fun x s4 => wpAny (model prog w) A (pyIter x) (fun it1 s5 =>
          codeAny (model prog w) A (.compStart (sc2 elt t0 i0 t1 i1 scope pos) 1 it1 acc env) (fun r s' => match r with
            | .ok _ => ∃ m, m < n ∧ I m s'
            | .error _ => False) s5) (fun _ _ => False) s4) (fun _ _ => False) s3) (fun _ _ => False) s2) (fun _ _ => False) s1) (fun _ _ => False) s) (n : Nat) (h : I n s) :
    codeAny (model prog w) A (.compLoop (sc2 elt t0 i0 t1 i1 scope pos) 0 it acc env) R s := by
  refine codeAny_loop rfl I (fun n s hI => ?_) n h
  show wpAny _ A ((compTurn (sc2 elt t0 i0 t1 i1 scope pos) 0 it acc env).onRaise (fun x => do noteFrame x env; theTreesLotGoes x)) _ _ s
  refine wpAny_noted ?_
  rw [turn_out]
  refine wpAny_bind (wpAny_standAt (wpAny_bind (thnF (turn n s hI) fun r s1 h1 => ?_)))
  cases r with
  | none => exact wpAny_pure h1
  | some v =>
    refine wpAny_bind (thnF h1 fun _ s2 h2 => ?_)
    refine wpAny_bind (thnF h2 fun _ s3 h3 => ?_)
    simp only [List.forIn_nil]
    refine wpAny_bind (wpAny_pure ?_)
    simp only [if_true]
    refine wpAny_bind (thnF h3 fun x s4 h4 => ?_)
    refine wpAny_bind (wpAny_standAt (wpAny_bind (wpAny_of_eq (hs x) (wpAny_bind (wpAny_holding (thnF h4 fun it1 s5 h5 => ?_))))))
    refine wpAny_bind (wpAny_runOwn ?_)
    rw [Around.mark_none]
    refine codeAny_mono h5 fun r s' hr => ?_
    cases r with
    | ok f =>
      first
        | exact wpAny_pure ⟨rfl, hr⟩
        | exact wpAny_bind (wpAny_pure (wpAny_pure ⟨rfl, hr⟩))
    | error e => exact hr.elim
theorem loop_in (I : Nat → Shared → Prop)
    (turn : ∀ n s, I n s → wpAny (model prog w) A (pyNext it) (fun r s1 => match r with
      | none => R (.ok .next) s1
      | some v => wpAny (model prog w) A (letOwnedTupleGo t1 it v) (fun _ s2 => wpAny (model prog w) A (assign t1 env v) (fun _ s3 => wpAny (model prog w) A (eval elt env) (fun x s4 =>
          wpAny (model prog w) A (call (.builtin "set.add") [acc, x]) (fun _ s5 => ∃ m, m < n ∧ I m s5) (fun _ _ => False) s4) (fun _ _ => False) s3) (fun _ _ => False) s2) (fun _ _ => False) s1) (fun _ _ => False) s) (n : Nat) (h : I n s) :
    codeAny (model prog w) A (.compLoop (sc2 elt t0 i0 t1 i1 scope pos) 1 it acc env) R s := by
  refine codeAny_loop rfl I (fun n s hI => ?_) n h
  show wpAny _ A ((compTurn (sc2 elt t0 i0 t1 i1 scope pos) 1 it acc env).onRaise (fun x => do noteFrame x env; theTreesLotGoes x)) _ _ s
  refine wpAny_noted ?_
  rw [turn_in]
  refine wpAny_bind (wpAny_standAt (wpAny_bind (thnF (turn n s hI) fun r s1 h1 => ?_)))
  cases r with
  | none => exact wpAny_pure h1
  | some v =>
    refine wpAny_bind (thnF h1 fun _ s2 h2 => ?_)
    refine wpAny_bind (thnF h2 fun _ s3 h3 => ?_)
    simp only [List.forIn_nil]
    refine wpAny_bind (wpAny_pure ?_)
    simp only [if_true]
    exact wpAny_bind (wpAny_bind (thnF h3 fun x s4 h4 => wpAny_bind (wpAny_standAt (wpAny_bind (thnF h4 fun _ s5 h5 => wpAny_pure (wpAny_pure ⟨rfl, h5⟩))))))
theorem start_in (h0 : codeAny (model prog w) A (.compLoop (sc2 elt t0 i0 t1 i1 scope pos) 1 it acc env) R s)
    (h : ∀ (Q : Value → Shared → Prop) (E : Value → Shared → Prop), Q it s → wpAny (model prog w) A (pyIter it) Q E s) : codeAny (model prog w) A (.compStart (sc2 elt t0 i0 t1 i1 scope pos) 1 it acc env) R s := by
  refine codeAny_of_tree ?_
  show wpAny _ _ ((compStart (sc2 elt t0 i0 t1 i1 scope pos) 1 it acc env).onRaise (fun x => do noteFrame x env; standAt theWindowsPlace)) _ _ s
  refine wpAny_notedAt ?_
  unfold compStart
  show wpAny _ _ (ask >>= _) _ _ s
  refine wpAny_bind (wpAny_askSetting (wpAny_ite ?_))
  split
  · first
      | exact wpAny_bind (wpAny_pure (wpAny_pure (And.intro rfl h0)))
      | exact wpAny_pure (And.intro rfl h0)
  · refine wpAny_bind (wpAny_rule ?_)
    show wpAny _ _ (standAt i1.pos >>= _) _ _ s
    exact wpAny_bind (wpAny_standAt (wpAny_bind (h _ _ (wpAny_pure (And.intro rfl h0)))))
end
section
variable {X : Cx} {pins : List (Addr × Obj)} {σ : L2.St} {H : Hp} {s : Shared}
theorem sadd_ok {E : Value → Shared → Prop} {a : Addr} {k : Int} {u : Value} {S : Int → Bool} {n : Nat} {Q : Value → Shared → Prop} (I : Inv X pins σ H s) (ha : H a = some (SetO X.w a S n)) (room : n + 1 < scanBound) (r : RelV (.int k) u)
    (h : ∀ s', Inv X pins σ (upd H a (SetO X.w a (fun j => S j || decide (j = k)) (if S k = true then n else n + 1))) s' → Q .none s') : wpAny (model X.prog X.w) X.A (call (.builtin "set.add") [.ref a, u]) Q E s := by
  obtain ⟨tk, rfl⟩ := r
  refine setR_add (setO_get I ha) room fun h' sb new => ?_
  have he : ∃ u, h'.get? a = some u := by
    have ⟨o, _, _, _, ho, _⟩ := new
    exact ⟨o, ho⟩
  exact h _ (I.write (e := a) (t' := s.toks + 1) (by rw [ha]; trivial) (.inl rfl) (fun b u hb hu => (sb.2 b hb).trans hu) he (setO_new new))
/-- its reading: for each item of the outer walk the inner walk -/
def tSc2 (w : World) (wi : TI) (g : TG) (wi1 : TI) (g1 : TG) (te : TE) (vs vs1 : List Nat) : TE := fun σ H Q => wi σ H fun J H1 => ∀ D, H1 D = none → ∃ W : Nat → Nat → Hp → Prop, (∃ m, W 0 m (upd H1 D (SetO w D (fun _ => false) 0))) ∧ ∀ i m H, W i m H →
  (J.stop i H ∧ Q (.ref D) H) ∨ (J.go i H ∧ ∃ Nx : Hp → Prop, (∀ H', Nx H' → ∃ m', m' < m ∧ W (i + 1) m' H') ∧ ∀ x H', J.yld i H x H' → g x (wipe σ vs) H' fun σ2 H2 => wipe σ2 vs = wipe σ vs ∧
    wi1 σ2 H2 fun J1 H4 => ∃ W1 : Nat → Nat → Hp → Prop, (∃ m, W1 0 m H4) ∧ ∀ j k H, W1 j k H →
      (J1.stop j H ∧ Nx H) ∨ (J1.go j H ∧ ∃ Nx1 : Hp → Prop, (∀ H', Nx1 H' → ∃ k', k' < k ∧ W1 (j + 1) k' H') ∧ ∀ x H', J1.yld j H x H' → g1 x (wipe σ2 vs1) H' fun σ3 H5 => wipe σ3 vs1 = wipe σ2 vs1 ∧
        te σ3 H5 fun y H7 => ∃ (c : Int) (S : Int → Bool) (n : Nat), y = .int c ∧ H7 D = some (SetO w D S n) ∧ n + 1 < scanBound ∧ Nx1 (upd H7 D (SetO w D (fun j => S j || decide (j = c)) (if S c = true then n else n + 1)))))
theorem pe_sc2 {elt tg iter tg1 iter1 : Expr} {scope : Scope} {own : List (Str × Nat)} {vs1 : List Nat} {pos : Pos} {wi wi1 : TI} {g g1 : TG} {te : TE} (hc : X.calm = true) (hN : X.N.Nodup) (hi : PI X tg iter wi) (ok : BlkOk X.N X.env.scope scope own) (hv : ∀ i ∈ vs1, i ∈ own.map (·.2))
    (hg : ∀ (s : Shared) (H : Hp) (C : Addr) (cl : List (Str × Addr)) (fp : List Addr), PG (X.blk s H scope (compEnvC scope cl C X.env) fp) tg g)
    (hi1 : ∀ (s : Shared) (H : Hp) (C : Addr) (cl : List (Str × Addr)) (fp : List Addr), PI (X.blk s H scope (compEnvC scope cl C X.env) fp) tg1 iter1 wi1)
    (hg1 : ∀ (s : Shared) (H : Hp) (C : Addr) (cl : List (Str × Addr)) (fp : List Addr), PG (X.blk s H scope (compEnvC scope cl C X.env) fp) tg1 g1)
    (he : ∀ (s : Shared) (H : Hp) (C : Addr) (cl : List (Str × Addr)) (fp : List Addr), PE (X.blk s H scope (compEnvC scope cl C X.env) fp) elt te) (hs : ∀ x, foldedSetIterable iter X.env x = pure x := by intro _; rfl) (hs1 : ∀ env x, foldedSetIterable iter1 env x = pure x := by intro _ _; rfl) :
    PE X (sc2 elt tg iter tg1 iter1 scope pos) (tSc2 X.w wi g wi1 g1 te (own.map (·.2)) vs1) := by
  refine ⟨fun pins s σ H Q I h => ?_⟩
  rw [PpSet.eval_SetComp]
  have hfree : ∀ y ∈ scope.names, y.2 = .free → ∃ c, X.env.cells.lookup y.1 = some c := fun y hy e => (ok.free y hy e).elim (fun k => I.ok.has _ (.inl k)) fun k => I.ok.has _ (.inr k)
  refine wpAny_comprehension_free rfl hs (closure_ok hfree) ok.kind (fun y hy e => by rw [ok.uniq y hy, e]) (thn (hi.run pins s σ H _ I h) fun xv s1 hx => thn hx fun itv s2 h2 => ?_)
  obtain ⟨it, fp, tn, J, H2, rfl, I2, T, st2, f2, q⟩ := h2
  refine PpSet.newSet_ok (newEnv_comp ?_)
  have hDn : H2 s2.heap.objs.size = none := I2.hok.fresh (Nat.le_refl _)
  obtain ⟨W, ⟨m0, w0⟩, turn⟩ := q _ hDn
  generalize hob : ({ cls := .type "set", dict := none, data := .set #[] 0 (.fresh 0 0 (!X.w.params.followText "set-order")) } : Obj) = ob
  have I3 : Inv X pins σ (upd H2 s2.heap.objs.size (SetO X.w s2.heap.objs.size (fun _ => false) 0)) { s2 with heap := s2.heap.push ob, toks := s2.toks } := I2.laid (fun b o e => Heap.get?_push_of_some _ e) (Nat.le_refl _) (setO_new (by rw [← hob]; exact setR_fresh X.w))
  have sz : ∀ b ∈ fp, b < s2.heap.objs.size := fun b hb => let ⟨_, e, _⟩ := T.obj _ _ st2 b hb; Heap.lt_size e
  have st3 : tn 0 (s2.heap.push ob) := T.keep _ _ _ st2 fun b _ o e => Heap.get?_push_of_some _ e
  have f3 : ∀ b ∈ fp, FpOk X pins (upd H2 s2.heap.objs.size (SetO X.w s2.heap.objs.size (fun _ => false) 0)) b ∧ b < (s2.heap.push ob).objs.size := fun b hb => by
    refine ⟨⟨?_, (f2 b hb).2⟩, by rw [Heap.size_push]; exact Nat.lt_succ_of_lt (sz b hb)⟩
    rw [upd_ne (Nat.ne_of_lt (sz b hb))]
    exact (f2 b hb).1
  generalize s2.heap.objs.size = D at hDn turn w0 I3 f3 ⊢
  generalize hH3 : upd H2 D (SetO X.w D (fun _ => false) 0) = H3 at I3 w0 f3
  generalize hs3 : ({ s2 with heap := s2.heap.push ob, toks := s2.toks } : Shared) = s3 at I3 ⊢
  have h3 : s3.heap = s2.heap.push ob := by rw [← hs3]
  rw [← h3] at st3
  have f3 : ∀ b ∈ fp, FpOk X pins H3 b ∧ b < s3.heap.objs.size := fun b hb => by rw [h3]; exact f3 b hb
  have I4 := block_start I3 ok hN f3
  have pg := hg s3 H3 s3.heap.objs.size (cellsFrom (s3.heap.objs.size + 1) scope.names (cloFrom X.env.cells scope.names [])) fp
  have pi1 := hi1 s3 H3 s3.heap.objs.size (cellsFrom (s3.heap.objs.size + 1) scope.names (cloFrom X.env.cells scope.names [])) fp
  have pg1 := hg1 s3 H3 s3.heap.objs.size (cellsFrom (s3.heap.objs.size + 1) scope.names (cloFrom X.env.cells scope.names [])) fp
  have pe := he s3 H3 s3.heap.objs.size (cellsFrom (s3.heap.objs.size + 1) scope.names (cloFrom X.env.cells scope.names [])) fp
  have nfp : ∀ b ∈ fp, H3 b = none := fun b hb => (f3 b hb).1.1
  show codeAny _ _ (.compStart (sc2 elt tg iter tg1 iter1 scope pos) 0 (.ref it) (.ref D) (compEnvC scope (cellsFrom (s3.heap.objs.size + 1) scope.names (cloFrom X.env.cells scope.names [])) s3.heap.objs.size X.env)) _ { s3 with heap := pushCells (s3.heap.push { cls := .type "dict", data := .dict #[] }) scope.names }
  have cL : (compEnvC scope (cellsFrom (s3.heap.objs.size + 1) scope.names (cloFrom X.env.cells scope.names [])) s3.heap.objs.size X.env).locals = s3.heap.objs.size := rfl
  generalize compEnvC scope (cellsFrom (s3.heap.objs.size + 1) scope.names (cloFrom X.env.cells scope.names [])) s3.heap.objs.size X.env = ce at I4 pg pi1 pg1 pe cL ⊢
  have st4 : tn 0 (pushCells (s3.heap.push { cls := .type "dict", data := .dict #[] }) scope.names) := T.keep _ _ _ st3 fun b _ o e => pushCells_keeps _ _ _ _ (Heap.get?_push_of_some _ e)
  generalize hs4 : ({ s3 with heap := pushCells (s3.heap.push { cls := .type "dict", data := .dict #[] }) scope.names } : Shared) = s4 at I4 ⊢
  have st4 : tn 0 s4.heap := by rw [← hs4]; exact st4
  have stat : ∀ {σ' : L2.St} {H' : Hp} {s' : Shared}, Inv (X.blk s3 H3 scope ce fp) [] σ' H' s' → (∀ b ∈ fp, H' b = none) → ∀ b ∈ fp, FpOk (X.blk s3 H3 scope ce fp) [] H' b := fun {σ' H' s'} I' hn b hb =>
    ⟨hn b hb, (I'.ok.exf b hb).1, I'.ok.exfs b hb, .inl hb, fun x c e => (I'.ok.exf b hb).2 x c e, fun p hp => absurd (show p ∈ ([] : List (Addr × Obj)) ++ [] from hp) (by simp)⟩
  refine PpSet.codeAny_compStart_set ?loop (T.self X.A 0 _ _ _ st4 ?loop)
  refine loop_out (hs1 ce) (fun n s' => ∃ i H', Inv (X.blk s3 H3 scope ce fp) [] (wipe σ (own.map (·.2))) H' s' ∧ tn i s'.heap ∧ (∀ b ∈ fp, H' b = none) ∧ W i n H') ?_ m0 ⟨0, H3, I4, st4, nfp, w0⟩
  rintro n s5 ⟨i, H5, I5, st5, n5, w5⟩
  rcases turn i n H5 w5 with ⟨stop, qq⟩ | ⟨go, Nx, hNx, step⟩
  · refine thnF (T.done (X.blk s3 H3 scope ce fp) rfl rfl rfl hc i [] s5 _ H5 (fun _ _ => False) I5 (stat I5 n5) st5 stop) fun r s6 ⟨hr, I6⟩ => ?_
    subst hr
    have I7 : Inv X pins σ H5 s6 := I3.call' (ch := fp) I6.os I6.base I6.hok I6.bare fun b hb => ⟨(f3 b hb).1.2.2.2.1, (f3 b hb).1.2.1, (f3 b hb).1.2.2.2.2.1, (f3 b hb).1.2.2.2.2.2⟩
    have nC : H5 ce.locals = none := I6.free
    obtain ⟨m, hn, _⟩ := I6.loc
    have hn : s6.heap.Ns ce.locals m := hn
    rw [cL] at nC hn
    obtain ⟨f0, f1, f2, f3, f4, f5⟩ := I3.fpOk (Nat.le_refl _) nC
    exact ⟨m, hn, fun h'' sb => ⟨.ref D, H5, I7.turned (t' := s6.toks) (fun b o hb e => (sb.2 b hb).trans e) f0 f1 f3 f4 f5, rfl, qq⟩⟩
  · refine thnF (T.item (X.blk s3 H3 scope ce fp) rfl rfl rfl hc i [] s5 _ H5 (fun _ _ => False) I5 (stat I5 n5) st5 go) fun r s6 ⟨u, hr, h6⟩ => ?_
    subst hr
    refine thnF h6 fun _ s7 ⟨x, H7, I7, r7, y7, st7, n7⟩ => ?_
    refine thnF (pg.run _ s7 _ H7 x u _ (I7.pinned (stat I7 n7) (T.obj _ _ st7)) r7 (step x H7 y7)) fun _ s8 ⟨σ8, H8, I8, hw8, q8⟩ => ?_
    refine thnF (pi1.run _ s8 σ8 H8 _ I8 q8) fun xv s10 hx => thnF hx fun itv s11 h11 => ?_
    obtain ⟨it1, fp1, tn1, J1, H11, rfl, I11, T1, st11, f11, W1, ⟨m1, w1⟩, turn1⟩ := h11
    have fin : ∀ {σ9 : L2.St} {s' : Shared} {H' : Hp}, Inv (X.blk s3 H3 scope ce fp) ([] ++ pinsAt fp s7.heap) σ9 H' s' → (wipe σ (own.map (·.2))).length = σ9.length → (∀ (j : Nat) v, (wipe σ (own.map (·.2)))[j]? = some (some v) → σ9[j]? = some (some v)) → Nx H' →
        ∃ m, m < n ∧ ∃ i H', Inv (X.blk s3 H3 scope ce fp) [] (wipe σ (own.map (·.2))) H' s' ∧ tn i s'.heap ∧ (∀ b ∈ fp, H' b = none) ∧ W i m H' := fun {σ9 s' H'} I' hl hk nx => by
      obtain ⟨m', hm, w'⟩ := hNx H' nx
      have pin' : ∀ b ∈ fp, ∀ o, s7.heap.get? b = some o → s'.heap.get? b = some o ∧ H' b = none := fun b hb o e =>
        let z := I'.pin (b, o) (List.mem_append_right _ (List.mem_append_right _ (mem_pinsAt hb e)))
        ⟨z.1, z.2.1⟩
      refine ⟨m', hm, i + 1, H', (I'.unpinned (pins := [])).weak hl hk, T.keep _ _ _ st7 fun b hb o e => (pin' b hb o e).1, fun b hb => ?_, w'⟩
      obtain ⟨o, e, _⟩ := T.obj _ _ st7 b hb
      exact (pin' b hb o e).2
    have hl8 : (wipe σ (own.map (·.2))).length = σ8.length := by rw [← hw8, wipe_length]
    have hk9 : ∀ (j : Nat) v, (wipe σ (own.map (·.2)))[j]? = some (some v) → (wipe σ8 vs1)[j]? = some (some v) := fun j v e => by
      rw [← hw8] at e
      obtain ⟨e1, e2⟩ := wipe_some e
      rw [wipe_out fun z => e2 (hv j z)]
      exact e1
    have stat1 : ∀ {H' : Hp}, (∀ b ∈ fp1, H' b = none) → ∀ b ∈ fp1, FpOk (X.blk s3 H3 scope ce fp) ([] ++ pinsAt fp s7.heap) H' b := fun hn b hb => ⟨hn b hb, (f11 b hb).2⟩
    refine start_in ?inner fun Q' E' hq => T1.self X.A 0 _ _ _ st11 hq
    refine loop_in (fun k s' => ∃ j H', Inv (X.blk s3 H3 scope ce fp) ([] ++ pinsAt fp s7.heap) (wipe σ8 vs1) H' s' ∧ tn1 j s'.heap ∧ (∀ b ∈ fp1, H' b = none) ∧ W1 j k H') ?_ m1 ⟨0, H11, I11.weak (wipe_length _ _) (fun j v e => (wipe_some e).1), st11, fun b hb => (f11 b hb).1, w1⟩
    rintro k s12 ⟨j, H12, I12, st12, n12, w12⟩
    rcases turn1 j k H12 w12 with ⟨stop1, nx1⟩ | ⟨go1, Nx1, hNx1, step1⟩
    · refine thnF (T1.done (X.blk s3 H3 scope ce fp) rfl rfl rfl hc j _ s12 (wipe σ8 vs1) H12 (fun _ _ => False) I12 (stat1 n12) st12 stop1) fun r s13 ⟨hr, I13⟩ => ?_
      subst hr
      exact fin I13 (hl8.trans (wipe_length σ8 vs1).symm) hk9 nx1
    · refine thnF (T1.item (X.blk s3 H3 scope ce fp) rfl rfl rfl hc j _ s12 (wipe σ8 vs1) H12 (fun _ _ => False) I12 (stat1 n12) st12 go1) fun r s13 ⟨u1, hr, h13⟩ => ?_
      subst hr
      refine thnF h13 fun _ s14 ⟨x1, H14, I14, r14, y14, st14, n14⟩ => ?_
      refine thnF (pg1.run _ s14 (wipe σ8 vs1) H14 x1 u1 _ (I14.pinned (stat1 n14) (T1.obj _ _ st14)) r14 (step1 x1 H14 y14)) fun _ s15 ⟨σ15, H15, I15, hw15, q15⟩ => ?_
      refine thnF (pe.run _ s15 σ15 H15 _ I15 q15) fun z s17 ⟨yv, H17, I17, r17, c, S, nn, ey, hD17, hz17, nx⟩ => ?_
      subst ey
      refine sadd_ok (X := X.blk s3 H3 scope ce fp) I17 hD17 hz17 r17 fun s18 I18 => ?_
      obtain ⟨m', hm, w'⟩ := hNx1 _ nx
      have pin' : ∀ b ∈ fp1, ∀ o, s14.heap.get? b = some o → s18.heap.get? b = some o ∧ _ := fun b hb o e =>
        let z := I18.pin (b, o) (List.mem_append_right _ (List.mem_append_right _ (mem_pinsAt hb e)))
        ⟨z.1, z.2.1⟩
      refine ⟨m', hm, j + 1, _, I18.unpinned.weak (by rw [← hw15, wipe_length]) (fun i v e => by rw [← hw15] at e; exact (wipe_some e).1), T1.keep _ _ _ st14 fun b hb o e => (pin' b hb o e).1, fun b hb => ?_, w'⟩
      obtain ⟨o, e, _⟩ := T1.obj _ _ st14 b hb
      exact (pin' b hb o e).2
end
end Ky

namespace Ky
open PySem PySem.Spec PyProof.Rows L2
theorem _root_.L2.Room.u1 {k : Nat} {A : Around} (r : Room k A) : A.units + 1 < cLine := by have := r.un; omega
theorem _root_.L2.Room.u65 {k : Nat} {A : Around} (r : Room k A) : A.units + 65 < cLine := by have := r.un; omega
theorem wipe_one {σ : L2.St} {j : Nat} {x : Option V} : wipe ((wipe σ [j]).set j x) [j] = wipe σ [j] := by
  simp [wipe, List.set_set]
/-- all or any, walked -/
theorem g_walk {J : It} {n : Nat} {xv : Nat → V} {te : TE} {σ : L2.St} {j : Nat} {H0 : Hp} {cont : Bool} {Q : VK} (bf : Nat → Bool) (Hs : Hp → Prop) (h0 : Hs H0) (hgo : ∀ i H, i < n → Hs H → J.go i H) (hy : ∀ i H x H', i < n → Hs H → J.yld i H x H' → H' = H ∧ x = xv i)
    (hstop : ∀ H, Hs H → J.stop n H) (step : ∀ i H (k : VK), i < n → Hs H → (∀ H', Hs H' → k (.bl (bf i)) H') → te ((wipe σ [j]).set j (some (xv i))) H k)
    (fin : ∀ H, Hs H → Q (.bl (if cont = true then (List.range n).all bf else (List.range n).any bf)) H) : ∃ W : Nat → Nat → Hp → Prop, (∃ m, W 0 m H0) ∧ GTurn J (gName j) te (wipe σ [j]) [j] Q cont W := by
  refine ⟨fun i m H => m = n - i ∧ i ≤ n ∧ Hs H ∧ ∀ k, k < i → bf k = cont, ⟨n, by simp, Nat.zero_le _, h0, fun k hk => absurd hk (Nat.not_lt_zero _)⟩, ?_⟩
  rintro i m H ⟨rfl, hi, hs, hb⟩
  by_cases hlt : i < n
  · refine .inr ⟨hgo i H hlt hs, fun x H' y => ?_⟩
    obtain ⟨rfl, rfl⟩ := hy i H x H' hlt hs y
    refine ⟨wipe_one, step i H' _ hlt hs fun H2 hs2 => ⟨bf i, rfl, ?_⟩⟩
    by_cases hc : bf i = cont
    · rw [if_pos hc]
      refine ⟨n - (i + 1), by omega, rfl, hlt, hs2, fun k hk => ?_⟩
      by_cases e : k = i
      · rw [e]; exact hc
      · exact hb k (by omega)
    · rw [if_neg hc]
      have q := fin H2 hs2
      have hn := not_of_ne hc
      have e : (if cont = true then (List.range n).all bf else (List.range n).any bf) = !cont := by
        cases cont with
        | true =>
          rw [if_pos rfl]
          refine Bool.eq_false_iff.mpr fun z => ?_
          rw [List.all_eq_true.mp z i (List.mem_range.mpr hlt)] at hn
          cases hn
        | false =>
          rw [if_neg Bool.false_ne_true]
          exact List.any_eq_true.mpr ⟨i, List.mem_range.mpr hlt, hn⟩
      rw [e] at q
      exact q
  · have ei : i = n := by omega
    subst ei
    refine .inl ⟨hstop H hs, ?_⟩
    have q := fin H hs
    have e : (if cont = true then (List.range i).all bf else (List.range i).any bf) = cont := by
      cases cont with
      | true =>
        rw [if_pos rfl]
        exact List.all_eq_true.mpr fun k hk => hb k (List.mem_range.mp hk)
      | false =>
        rw [if_neg Bool.false_ne_true]
        refine Bool.eq_false_iff.mpr fun z => ?_
        obtain ⟨k, hk, hk2⟩ := List.any_eq_true.mp z
        rw [hb k (List.mem_range.mp hk)] at hk2
        cases hk2
    rw [e] at q
    exact q
theorem g_range {lo : Int} {n : Nat} {te : TE} {σ : L2.St} {j : Nat} {H0 : Hp} {cont : Bool} {Q : VK} (bf : Nat → Bool) (Hs : Hp → Prop) (h0 : Hs H0)
    (step : ∀ i H (k : VK), i < n → Hs H → (∀ H', Hs H' → k (.bl (bf i)) H') → te ((wipe σ [j]).set j (some (.int (lo + i)))) H k)
    (fin : ∀ H, Hs H → Q (.bl (if cont = true then (List.range n).all bf else (List.range n).any bf)) H) : ∃ W : Nat → Nat → Hp → Prop, (∃ m, W 0 m H0) ∧ GTurn (Itr lo n) (gName j) te (wipe σ [j]) [j] Q cont W :=
  g_walk (xv := fun i => .int (lo + i)) bf Hs h0 (fun i H h _ => h) (fun i H x H' _ _ h => h) (fun H _ => Nat.le_refl n) step fin
theorem g_list {K : PySem.W.Frag} {a : Addr} {xs : List V} {te : TE} {σ : L2.St} {j : Nat} {H0 : Hp} {cont : Bool} {Q : VK} (bf : Nat → Bool) (Hs : Hp → Prop) (h0 : Hs H0) (hl : ∀ H, Hs H → SqL K H a xs)
    (step : ∀ i x H (k : VK), xs[i]? = some x → Hs H → (∀ H', Hs H' → k (.bl (bf i)) H') → te ((wipe σ [j]).set j (some x)) H k)
    (fin : ∀ H, Hs H → Q (.bl (if cont = true then (List.range xs.length).all bf else (List.range xs.length).any bf)) H) : ∃ W : Nat → Nat → Hp → Prop, (∃ m, W 0 m H0) ∧ GTurn (Itl K a) (gName j) te (wipe σ [j]) [j] Q cont W :=
  g_walk (xv := fun i => xs.getD i .non) bf Hs h0 (fun i H h hs => ⟨xs, xs[i], hl H hs, List.getElem?_eq_getElem h⟩) (fun i H x H' h hs q => by
    obtain ⟨e, q⟩ := q
    subst e
    refine ⟨rfl, ?_⟩
    rw [List.getD_eq_getElem?_getD, q xs (hl _ hs)] <;> rfl) (fun H hs => ⟨xs, hl H hs, Nat.le_refl _⟩) (fun i H k h hs hk => step i _ H k (by rw [List.getD_eq_getElem?_getD, List.getElem?_eq_getElem h] <;> rfl) hs hk) fin
theorem g_tup {K : PySem.W.Frag} {a : Addr} {xs : List V} {te : TE} {σ : L2.St} {j : Nat} {H0 : Hp} {cont : Bool} {Q : VK} (bf : Nat → Bool) (Hs : Hp → Prop) (h0 : Hs H0) (hl : ∀ H, Hs H → SqT K H a xs)
    (step : ∀ i x H (k : VK), xs[i]? = some x → Hs H → (∀ H', Hs H' → k (.bl (bf i)) H') → te ((wipe σ [j]).set j (some x)) H k)
    (fin : ∀ H, Hs H → Q (.bl (if cont = true then (List.range xs.length).all bf else (List.range xs.length).any bf)) H) : ∃ W : Nat → Nat → Hp → Prop, (∃ m, W 0 m H0) ∧ GTurn (Itt K a) (gName j) te (wipe σ [j]) [j] Q cont W :=
  g_walk (xv := fun i => xs.getD i .non) bf Hs h0 (fun i H h hs => ⟨xs, xs[i], hl H hs, List.getElem?_eq_getElem h⟩) (fun i H x H' h hs q => by
    obtain ⟨e, q⟩ := q
    subst e
    refine ⟨rfl, ?_⟩
    rw [List.getD_eq_getElem?_getD, q xs (hl _ hs)] <;> rfl) (fun H hs => ⟨xs, hl H hs, Nat.le_refl _⟩) (fun i H k h hs hk => step i _ H k (by rw [List.getD_eq_getElem?_getD, List.getElem?_eq_getElem h] <;> rfl) hs hk) fin
/-! ### more steps of a reading -/
section
variable {σ : L2.St} {H : Hp} {Q : VK} {ta tb tc td : TE} {K : PySem.W.Frag} {x y : V}
theorem w_chain {r r' : R2} (q : ta σ H fun x H1 => tb σ H1 fun y H2 => r x y H2 fun z H3 => ∃ k, z = .bl k ∧ (if k = true then tc σ H3 fun w' H4 => r' y w' H4 Q else Q (.bl false) H3)) : tChain r r' ta tb tc σ H Q := q
theorem w_isi_ii {n : Int} (q : Q (.bl true) H) : rIsi K [.int n, .ty "int"] H Q := ⟨_, _, _, _, true, rfl, .ty _, .base (.int n), kit_ty (by decide +kernel), q⟩
theorem w_isi_ib {n : Int} (q : Q (.bl false) H) : rIsi K [.int n, .ty "bool"] H Q := ⟨_, _, _, _, false, rfl, .ty _, .base (.int n), kit_ty (by decide +kernel), q⟩
theorem w_isi_it {n : Int} (q : Q (.bl false) H) : rIsi K [.int n, .ty "tuple"] H Q := ⟨_, _, _, _, false, rfl, .ty _, .base (.int n), kit_ty (by decide +kernel), q⟩
theorem w_isi_st {z : Str} (q : Q (.bl false) H) : rIsi K [.str z, .ty "tuple"] H Q := ⟨_, _, _, _, false, rfl, .ty _, .base (.str z), kit_ty (by decide +kernel), q⟩
theorem w_isi_tt {a : Addr} {xs : List V} (h : H a = some (.tup xs)) (q : Q (.bl true) H) : rIsi K [.ref a, .ty "tuple"] H Q := ⟨_, _, _, _, true, rfl, .ty _, .base (.tup h), kit_ty (by decide +kernel), q⟩
theorem w_gRd {P0 : Addr} {wi : TI} {g : TG} {vs : List Nat} {cont : Bool} (q : wi σ H fun J H1 => GxR.TabG H1 P0 ∧ ∀ H2, GxR.Tabbed P0 H1 H2 → ∃ W : Nat → Nat → Hp → Prop, (∃ m, W 0 m H2) ∧ GTurn J g ta (wipe σ vs) vs Q cont W) : gRd P0 wi g ta vs cont σ H Q := q
theorem w_andV (q : ta σ H fun x H1 => ∃ c, x = .bl c ∧ if c = true then tb σ H1 Q else Q (.bl false) H1) : tAndV ta tb σ H Q := q
theorem w_orV (q : ta σ H fun x H1 => ∃ c, x = .bl c ∧ if c = true then Q (.bl true) H1 else tb σ H1 Q) : tOrV ta tb σ H Q := q
theorem w_notV (q : ta σ H fun x H1 => ∃ c, x = .bl c ∧ Q (.bl (!c)) H1) : tNotV ta σ H Q := q
theorem w_din {ty : TE} (q : ty σ H fun y H1 => td σ H1 fun x H2 => ∃ a o, x = .ref a ∧ DGet H2 a y o ∧ Q (.bl o.isSome) H2) : tDIn ty td σ H Q := q
end
/-! ### the rules with the fragment told: inside a block or a generator's frame the context's own letter may not be left -/
section
variable {X : Cx} {K : PySem.W.Frag}
theorem opK {op : Value → Value → Sem Value} {r : PySem.W.Frag → R2} (hK : X.K = K) (h : OpR X op (r X.K)) : OpR X op (r K) := by subst hK; exact h
theorem ix_listK (hK : X.K = K) : IxR X (rIxL K) := by subst hK; exact ix_list
theorem ix_tupK (hK : X.K = K) : IxR X (rIxT K) := by subst hK; exact ix_tup
theorem sl_listK (hK : X.K = K) : SlR X (rSlL K) := by subst hK; exact sl_list
theorem sl_tupK (hK : X.K = K) : SlR X (rSlT K) := by subst hK; exact sl_tup
theorem pi_listK {tg l : Expr} {tl : TE} (hK : X.K = K) (hl : PE X l tl) : PI X tg l (iList K tl) := by subst hK; exact pi_list hl
theorem pi_tupK {tg l : Expr} {tl : TE} (hK : X.K = K) (hl : PE X l tl) : PI X tg l (iTup K tl) := by subst hK; exact pi_tup hl
end
end Ky

namespace Ky
open PySem PySem.Spec PyProof.Rows L2
/-! ### distinct items, in their first order -/
section
variable {κ : Type} [DecidableEq κ]
def dstep (acc : List κ) (k : κ) : List κ := if k ∈ acc then acc else acc ++ [k]
def dd (ls : List κ) : List κ := ls.foldl dstep []
def setDict (ks : List κ) : List (κ × V) := ks.map fun k => (k, V.bl true)
theorem dd_snoc (ls : List κ) (k : κ) : dd (ls ++ [k]) = dstep (dd ls) k := by unfold dd; rw [List.foldl_append]; rfl
theorem setDict_len (ks : List κ) : (setDict ks).length = ks.length := List.length_map ..
theorem putK_set (ks : List κ) (k : κ) : putK (setDict ks) k (V.bl true) = setDict (dstep ks k) := by
  unfold putK dstep
  by_cases h : k ∈ ks
  · rw [if_pos h, if_pos (by
      unfold setDict
      rw [List.any_map]
      exact List.any_eq_true.mpr ⟨k, h, by simp⟩)]
    unfold setDict
    rw [List.map_map]
    refine List.map_congr_left fun x _ => ?_
    show (if x = k then (x, V.bl true) else (x, V.bl true)) = _
    by_cases e : x = k
    · rw [if_pos e]
    · rw [if_neg e]
  · rw [if_neg h, if_neg (by
      unfold setDict
      rw [List.any_map]
      intro z
      obtain ⟨x, hx, e⟩ := List.any_eq_true.mp z
      have e : x = k := by simpa using e
      rw [e] at hx
      exact h hx)]
    unfold setDict
    rw [List.map_append] <;> rfl
theorem valV_set (ks : List κ) (k : κ) : (valV (setDict ks) k).isSome = decide (k ∈ ks) := by
  induction ks with
  | nil => rfl
  | cons x ks ih =>
    unfold setDict at ih ⊢
    rw [List.map_cons]
    by_cases e : x = k
    · rw [valV_pos (p := (x, V.bl true)) e]
      rw [e]
      simp
    · rw [valV_neg (p := (x, V.bl true)) e, ih]
      exact decide_eq_decide.mpr ⟨fun h => List.mem_cons_of_mem _ h, fun h => (List.mem_cons.mp h).resolve_left fun z => e z.symm⟩
theorem mem_dstep {acc : List κ} {k x : κ} : x ∈ dstep acc k ↔ x ∈ acc ∨ x = k := by
  unfold dstep
  by_cases h : k ∈ acc
  · rw [if_pos h]
    exact ⟨.inl, fun z => z.elim id fun e => e ▸ h⟩
  · rw [if_neg h, List.mem_append, List.mem_singleton]
theorem mem_foldl {x : κ} : ∀ {ls acc : List κ}, x ∈ ls.foldl dstep acc ↔ x ∈ acc ∨ x ∈ ls
  | [], acc => by simp
  | k :: ls, acc => by
    rw [List.foldl_cons, mem_foldl, mem_dstep, List.mem_cons, or_assoc]
theorem mem_dd {ls : List κ} {x : κ} : x ∈ dd ls ↔ x ∈ ls := by unfold dd; rw [mem_foldl]; simp
theorem nodup_dstep {acc : List κ} {k : κ} (h : acc.Nodup) : (dstep acc k).Nodup := by
  unfold dstep
  by_cases e : k ∈ acc
  · rw [if_pos e]; exact h
  · rw [if_neg e]
    exact List.nodup_append.mpr ⟨h, List.nodup_cons.mpr ⟨by simp, List.nodup_nil⟩, fun a ha b hb z => by
      rw [List.mem_singleton.mp hb] at z
      exact e (z ▸ ha)⟩
theorem nodup_foldl : ∀ {ls acc : List κ}, acc.Nodup → (ls.foldl dstep acc).Nodup
  | [], _, h => h
  | k :: ls, acc, h => by
    rw [List.foldl_cons]
    exact nodup_foldl (nodup_dstep h)
theorem nodup_dd (ls : List κ) : (dd ls).Nodup := nodup_foldl List.nodup_nil
theorem len_dstep (acc : List κ) (k : κ) : (dstep acc k).length ≤ acc.length + 1 := by
  unfold dstep
  by_cases h : k ∈ acc
  · rw [if_pos h]; omega
  · rw [if_neg h, List.length_append]; exact Nat.le_refl _
theorem len_foldl : ∀ (ls acc : List κ), (ls.foldl dstep acc).length ≤ acc.length + ls.length
  | [], _ => Nat.le_refl _
  | k :: ls, acc => by
    have h := len_foldl ls (dstep acc k)
    have h2 := len_dstep acc k
    rw [List.foldl_cons, List.length_cons]
    omega
theorem len_dd (ls : List κ) : (dd ls).length ≤ ls.length := by have := len_foldl ls ([] : List κ); simpa [dd] using this
theorem dd_map {μ : Type} [DecidableEq μ] {f : κ → μ} (hf : ∀ a b, f a = f b → a = b) (ls : List κ) : dd (ls.map f) = (dd ls).map f := by
  have aux : ∀ (ls acc : List κ), (ls.map f).foldl dstep (acc.map f) = (ls.foldl dstep acc).map f := by
    intro ls
    induction ls with
    | nil => intro acc; rfl
    | cons k ls ih =>
      intro acc
      rw [List.map_cons, List.foldl_cons, List.foldl_cons, ← ih]
      congr 1
      unfold dstep
      by_cases h : k ∈ acc
      · rw [if_pos h, if_pos (List.mem_map.mpr ⟨k, h, rfl⟩)]
      · rw [if_neg h, if_neg (fun z => by
          obtain ⟨x, hx, e⟩ := List.mem_map.mp z
          exact h (hf _ _ e ▸ hx)), List.map_append] <;> rfl
  exact aux ls []
end
/-! ### sorting by data -/
section
variable {β γ : Type}
def srtBy (g : β → PyData) (bs : List β) : List β := bs.mergeSort (PySem.W.dataLe false g)
theorem sortD_map (f : β → V) (g : β → PyData) (bs : List β) : sortD (bs.map f) (bs.map g) = (srtBy g bs).map f := by
  unfold sortD srtBy
  have e : (bs.map f).zip (bs.map g) = bs.map fun b => (f b, g b) := by
    induction bs with
    | nil => rfl
    | cons b bs ih => rw [List.map_cons, List.map_cons, List.zip_cons_cons, ih] <;> rfl
  rw [e, ← PySem.W.sort_maps (fun b => (f b, g b)) (r := PySem.W.dataLe false g) (s := PySem.W.dataLe false fun p : V × PyData => p.2) (fun _ _ _ _ => rfl), List.map_map]
  rfl
theorem srtBy_map (h : β → γ) (g : γ → PyData) (bs : List β) : (srtBy (fun b => g (h b)) bs).map h = srtBy g (bs.map h) :=
  PySem.W.sort_maps h (r := PySem.W.dataLe false fun b => g (h b)) (s := PySem.W.dataLe false g) fun _ _ _ _ => rfl
theorem srtBy_perm (g : β → PyData) (bs : List β) : (srtBy g bs).Perm bs := List.mergeSort_perm _ _
theorem mem_srtBy {g : β → PyData} {bs : List β} {x : β} : x ∈ srtBy g bs ↔ x ∈ bs := (srtBy_perm g bs).mem_iff
theorem srtBy_pair (g : β → PyData) (bs : List β) : (srtBy g bs).Pairwise fun a b => PySem.W.dataLe false g a b = true :=
  PySem.W.sort_pairwise (PySem.W.sortLe_total _ _ _) bs
theorem srtBy_congr {g g' : β → PyData} {bs : List β} (h : ∀ a ∈ bs, ∀ b ∈ bs, PySem.W.dataLt (g a) (g b) = PySem.W.dataLt (g' a) (g' b)) : srtBy g bs = srtBy g' bs :=
  PySem.W.sort_congr fun a ha b hb => by
    show (!PySem.W.dataLt (g b) (g a)) = (!PySem.W.dataLt (g' b) (g' a))
    rw [h b hb a ha]
end
end Ky

namespace Ky
open PySem PySem.Spec PyProof.Rows L2
/-- any comprehension's walk -/
theorem c_walk {J : It} {n : Nat} {xv : Nat → V} {Body : V → Hp → (Hp → Prop) → Prop} {Qd : Hp → Prop} {H0 : Hp} (Pv : Nat → Hp → Prop) (h0 : Pv 0 H0) (hgo : ∀ i H, i < n → Pv i H → J.go i H) (hy : ∀ i H x H', i < n → Pv i H → J.yld i H x H' → H' = H ∧ x = xv i)
    (hstop : ∀ H, Pv n H → J.stop n H) (step : ∀ i H, i < n → Pv i H → Body (xv i) H (Pv (i + 1))) (fin : ∀ H, Pv n H → Qd H) :
    ∃ W : Nat → Nat → Hp → Prop, (∃ m, W 0 m H0) ∧ ∀ i m H, W i m H → (J.stop i H ∧ Qd H) ∨ (J.go i H ∧ ∃ Nx : Hp → Prop, (∀ H', Nx H' → ∃ m', m' < m ∧ W (i + 1) m' H') ∧ ∀ x H', J.yld i H x H' → Body x H' Nx) := by
  refine ⟨fun i m H => m = n - i ∧ i ≤ n ∧ Pv i H, ⟨n, by simp, Nat.zero_le _, h0⟩, ?_⟩
  rintro i m H ⟨rfl, hi, p⟩
  by_cases hlt : i < n
  · refine .inr ⟨hgo i H hlt p, Pv (i + 1), fun H' p' => ⟨n - (i + 1), by omega, rfl, hlt, p'⟩, fun x H' y => ?_⟩
    obtain ⟨rfl, rfl⟩ := hy i H x H' hlt p y
    exact step i H' hlt p
  · have e : i = n := by omega
    subst e
    exact .inl ⟨hstop H p, fin H p⟩
theorem c_list {K : PySem.W.Frag} {a : Addr} {xs : List V} {Body : V → Hp → (Hp → Prop) → Prop} {Qd : Hp → Prop} {H0 : Hp} (Pv : Nat → Hp → Prop) (h0 : Pv 0 H0) (hl : ∀ i H, i ≤ xs.length → Pv i H → SqL K H a xs)
    (step : ∀ i x H, xs[i]? = some x → Pv i H → Body x H (Pv (i + 1))) (fin : ∀ H, Pv xs.length H → Qd H) :
    ∃ W : Nat → Nat → Hp → Prop, (∃ m, W 0 m H0) ∧ ∀ i m H, W i m H → ((Itl K a).stop i H ∧ Qd H) ∨ ((Itl K a).go i H ∧ ∃ Nx : Hp → Prop, (∀ H', Nx H' → ∃ m', m' < m ∧ W (i + 1) m' H') ∧ ∀ x H', (Itl K a).yld i H x H' → Body x H' Nx) :=
  c_walk (xv := fun i => xs.getD i .non) Pv h0 (fun i H h hs => ⟨xs, xs[i], hl i H (Nat.le_of_lt h) hs, List.getElem?_eq_getElem h⟩) (fun i H x H' h hs q => by
    obtain ⟨e, q⟩ := q
    subst e
    refine ⟨rfl, ?_⟩
    rw [List.getD_eq_getElem?_getD, q xs (hl i _ (Nat.le_of_lt h) hs)] <;> rfl) (fun H hs => ⟨xs, hl _ H (Nat.le_refl _) hs, Nat.le_refl _⟩) (fun i H h hs => step i _ H (by rw [List.getD_eq_getElem?_getD, List.getElem?_eq_getElem h] <;> rfl) hs) fin
theorem c_tup {K : PySem.W.Frag} {a : Addr} {xs : List V} {Body : V → Hp → (Hp → Prop) → Prop} {Qd : Hp → Prop} {H0 : Hp} (Pv : Nat → Hp → Prop) (h0 : Pv 0 H0) (hl : ∀ i H, i ≤ xs.length → Pv i H → SqT K H a xs)
    (step : ∀ i x H, xs[i]? = some x → Pv i H → Body x H (Pv (i + 1))) (fin : ∀ H, Pv xs.length H → Qd H) :
    ∃ W : Nat → Nat → Hp → Prop, (∃ m, W 0 m H0) ∧ ∀ i m H, W i m H → ((Itt K a).stop i H ∧ Qd H) ∨ ((Itt K a).go i H ∧ ∃ Nx : Hp → Prop, (∀ H', Nx H' → ∃ m', m' < m ∧ W (i + 1) m' H') ∧ ∀ x H', (Itt K a).yld i H x H' → Body x H' Nx) :=
  c_walk (xv := fun i => xs.getD i .non) Pv h0 (fun i H h hs => ⟨xs, xs[i], hl i H (Nat.le_of_lt h) hs, List.getElem?_eq_getElem h⟩) (fun i H x H' h hs q => by
    obtain ⟨e, q⟩ := q
    subst e
    refine ⟨rfl, ?_⟩
    rw [List.getD_eq_getElem?_getD, q xs (hl i _ (Nat.le_of_lt h) hs)] <;> rfl) (fun H hs => ⟨xs, hl _ H (Nat.le_refl _) hs, Nat.le_refl _⟩) (fun i H h hs => step i _ H (by rw [List.getD_eq_getElem?_getD, List.getElem?_eq_getElem h] <;> rfl) hs) fin
theorem upd_again {H : Hp} {D : Addr} {a b : HO} : upd (upd H D a) D b = upd H D b := by
  funext x
  by_cases e : x = D
  · rw [e, upd_same, upd_same]
  · rw [upd_ne e, upd_ne e, upd_ne e]
def keysI (ns : List Int) : List L2.Key := ns.map Sum.inl
theorem inl_inj (a b : Int) (h : (Sum.inl a : L2.Key) = Sum.inl b) : a = b := Sum.inl.inj h
theorem keysI_inj : ∀ (a b : List Int), keysI a = keysI b → a = b
  | [], [], _ => rfl
  | x :: a, y :: b, h => by
    unfold keysI at h
    rw [List.map_cons, List.map_cons] at h
    obtain ⟨h1, h2⟩ := List.cons.inj h
    rw [Sum.inl.inj h1, keysI_inj a b h2]
  | [], _ :: _, h => by cases h
  | _ :: _, [], h => by cases h
theorem keysI_kV (ns : List Int) : (keysI ns).map kV = ns.map V.int := by unfold keysI; rw [List.map_map] <;> rfl
section
variable {K : PySem.W.Frag} {a : Addr} {σ : L2.St} {H : Hp} {Q : VK} {i0 j : Nat}
theorem var_set {x : V} (hj : j < σ.length) : ((wipe σ [j]).set j (some x))[j]? = some (some x) := by
  rw [List.getElem?_set_self (by rw [wipe_length]; exact hj)]
/-- {x: True for x in e}, e a list (a tuple) of numbers -/
theorem rd_dcI {ns : List Int} (hσ : σ[i0]? = some (some (.ref a))) (hj : j < σ.length) (ha : H a = some (.lst (ns.map V.int))) (hz : ns.length ≤ sizeLine) (k : ∀ D, H D = none → Q (.ref D) (upd H D (.dK (setDict (keysI (dd ns)))))) :
    tDc (iList K (tVar i0)) (gName j) tYes (tVar j) (tC (.bl true)) [j] σ H Q := by
  refine ⟨_, hσ, a, rfl, ⟨_, SqL.of ha⟩, fun D hD => ?_⟩
  refine c_list (xs := ns.map V.int) (fun i H1 => H1 = upd H D (.dK (setDict (keysI (dd (ns.take i)))))) (by rw [List.take_zero]; rfl) (fun i H1 _ h => by rw [h]; exact (Kept.new hD).sq (SqL.of ha)) (fun i x H1 hx h => ?_) fun H1 h => ?_
  · obtain ⟨n, rfl, hn⟩ := map_int hx
    refine ⟨wipe_one, w_yes (if_t rfl ⟨_, var_set hj, setDict (keysI (dd (ns.take i))), Sum.inl n, rfl, by rw [h]; exact upd_same, ?_, ?_⟩)⟩
    · rw [setDict_len]
      unfold keysI
      rw [List.length_map]
      have h1 := len_dd (ns.take i)
      have h2 : i < ns.length := (List.getElem?_eq_some_iff.mp hn).1
      rw [List.length_take] at h1
      omega
    · rw [h, upd_again, putK_set]
      have e : ns.take (i + 1) = ns.take i ++ [n] := by rw [List.take_add_one, hn]; rfl
      rw [e, dd_snoc]
      congr 3
      show dstep (keysI (dd (ns.take i))) (Sum.inl n) = keysI (dstep (dd (ns.take i)) n)
      unfold dstep keysI
      by_cases hm : n ∈ dd (ns.take i)
      · rw [if_pos hm, if_pos (List.mem_map.mpr ⟨n, hm, rfl⟩)]
      · rw [if_neg hm, if_neg (fun z => by
          obtain ⟨y, hy, e⟩ := List.mem_map.mp z
          exact hm (Sum.inl.inj e ▸ hy)), List.map_append] <;> rfl
  · rw [List.length_map, List.take_length] at h
    rw [h]
    exact k D hD
theorem rd_dcIt {ns : List Int} (hσ : σ[i0]? = some (some (.ref a))) (hj : j < σ.length) (ha : H a = some (.tup (ns.map V.int))) (hz : ns.length ≤ sizeLine) (k : ∀ D, H D = none → Q (.ref D) (upd H D (.dK (setDict (keysI (dd ns)))))) :
    tDc (iTup K (tVar i0)) (gName j) tYes (tVar j) (tC (.bl true)) [j] σ H Q := by
  refine ⟨_, hσ, a, rfl, ⟨_, SqT.of ha⟩, fun D hD => ?_⟩
  refine c_tup (xs := ns.map V.int) (fun i H1 => H1 = upd H D (.dK (setDict (keysI (dd (ns.take i)))))) (by rw [List.take_zero]; rfl) (fun i H1 _ h => by rw [h]; exact SqT.of ((Kept.new hD).tup ha)) (fun i x H1 hx h => ?_) fun H1 h => ?_
  · obtain ⟨n, rfl, hn⟩ := map_int hx
    refine ⟨wipe_one, w_yes (if_t rfl ⟨_, var_set hj, setDict (keysI (dd (ns.take i))), Sum.inl n, rfl, by rw [h]; exact upd_same, ?_, ?_⟩)⟩
    · rw [setDict_len]
      unfold keysI
      rw [List.length_map]
      have h1 := len_dd (ns.take i)
      have h2 : i < ns.length := (List.getElem?_eq_some_iff.mp hn).1
      rw [List.length_take] at h1
      omega
    · rw [h, upd_again, putK_set]
      have e : ns.take (i + 1) = ns.take i ++ [n] := by rw [List.take_add_one, hn]; rfl
      rw [e, dd_snoc]
      congr 3
      show dstep (keysI (dd (ns.take i))) (Sum.inl n) = keysI (dstep (dd (ns.take i)) n)
      unfold dstep keysI
      by_cases hm : n ∈ dd (ns.take i)
      · rw [if_pos hm, if_pos (List.mem_map.mpr ⟨n, hm, rfl⟩)]
      · rw [if_neg hm, if_neg (fun z => by
          obtain ⟨y, hy, e⟩ := List.mem_map.mp z
          exact hm (Sum.inl.inj e ▸ hy)), List.map_append] <;> rfl
  · rw [List.length_map, List.take_length] at h
    rw [h]
    exact k D hD
/-- {c: True for c in e}, e a list of tuples of numbers -/
theorem rd_dcT {bs : List Addr} {cs : List (List Int)} (hσ : σ[i0]? = some (some (.ref a))) (hj : j < σ.length) (ha : H a = some (.lst (bs.map V.ref))) (hl : bs.length = cs.length) (hb : ∀ (i : Nat) (b : Addr) (c : List Int), bs[i]? = some b → cs[i]? = some c → H b = some (.tup (c.map V.int))) (hz : cs.length ≤ sizeLine)
    (k : ∀ D, H D = none → Q (.ref D) (upd H D (.dT (setDict ((dd cs).map keysI))))) : tDcT (iList K (tVar i0)) (gName j) tYes (tVar j) (tC (.bl true)) [j] σ H Q := by
  refine ⟨_, hσ, a, rfl, ⟨_, SqL.of ha⟩, fun D hD => ?_⟩
  refine c_list (xs := bs.map V.ref) (fun i H1 => H1 = upd H D (.dT (setDict ((dd (cs.take i)).map keysI)))) (by rw [List.take_zero]; rfl) (fun i H1 _ h => by rw [h]; exact (Kept.new hD).sq (SqL.of ha)) (fun i x H1 hx h => ?_) fun H1 h => ?_
  · rw [List.getElem?_map] at hx
    obtain ⟨b, hb1, rfl⟩ := Option.map_eq_some_iff.mp hx
    have hi : i < cs.length := by rw [← hl]; exact (List.getElem?_eq_some_iff.mp hb1).1
    have hc : cs[i]? = some cs[i] := List.getElem?_eq_getElem hi
    have e1 := hb i b _ hb1 hc
    refine ⟨wipe_one, w_yes (if_t rfl ⟨_, var_set hj, setDict ((dd (cs.take i)).map keysI), keysI cs[i], b, rfl, ?_, by rw [h]; exact upd_same, ?_, ?_⟩)⟩
    · rw [keysI_kV, h, upd_ne (ne_of_none e1 hD)]
      exact e1
    · rw [setDict_len, List.length_map]
      have h1 := len_dd (cs.take i)
      rw [List.length_take] at h1
      omega
    · rw [h, upd_again, putK_set]
      have e : cs.take (i + 1) = cs.take i ++ [cs[i]] := by rw [List.take_add_one, hc]; rfl
      rw [e, dd_snoc]
      congr 3
      unfold dstep
      by_cases hm : cs[i] ∈ dd (cs.take i)
      · rw [if_pos hm, if_pos (List.mem_map.mpr ⟨_, hm, rfl⟩)]
      · rw [if_neg hm, if_neg (fun z => by
          obtain ⟨y, hy, e⟩ := List.mem_map.mp z
          exact hm (keysI_inj _ _ e ▸ hy)), List.map_append] <;> rfl
  · rw [List.length_map, hl, List.take_length] at h
    rw [h]
    exact k D hD
end
theorem w_ckw {σ : L2.St} {H : Hp} {Q : VK} {r : List V → List V → Hp → VK → Prop} {t tk : TA} (q : t σ H fun vs H1 => tk σ H1 fun zs H2 => r vs zs H2 Q) : tCKw r t tk σ H Q := q
theorem set_keys (ns : List Int) : (setDict (keysI ns)).map (fun kv : L2.Key × V => kV kv.1) = ns.map V.int := by
  unfold setDict keysI
  rw [List.map_map, List.map_map]
  rfl
/-! ### sets -/
theorem set_step (vs : List Int) (c : Int) : (fun j => decide (j ∈ vs) || decide (j = c)) = fun j => decide (j ∈ vs ++ [c]) := by
  funext j
  by_cases h1 : j ∈ vs <;> by_cases h2 : j = c <;> simp [h1, h2]
theorem set_len (vs : List Int) (c : Int) : (if decide (c ∈ vs) = true then (dd vs).length else (dd vs).length + 1) = (dd (vs ++ [c])).length := by
  rw [dd_snoc]
  unfold dstep
  by_cases h : c ∈ vs
  · rw [decide_eq_true h, if_pos rfl, if_pos (mem_dd.mpr h)]
  · rw [decide_eq_false h, if_neg Bool.false_ne_true, if_neg (fun z => h (mem_dd.mp z)), List.length_append] <;> rfl
end Ky

namespace Ky
open PySem PySem.Spec PyProof.Rows L2
/-! ### the law's draws, the cells' own place told (so that a fresh list may change between draws) -/
def DrwC (d c : Addr) (H : Hp) : Prop := ∃ (ns : List Int) (a u z : Int), c ≠ d ∧ H d = some (.lst [.ref c, .int a, .int u, .int z]) ∧ H c = some (.lst (ns.map V.int)) ∧ -1 ≤ a
structure KeptC (d c : Addr) (H H' : Hp) : Prop where
  keep : ∀ b o, b ≠ d → NoTab o → H b = some o → H' b = some o
  drw : DrwC d c H → DrwC d c H'
  tab : ∀ P, GxR.TabG H P → GxR.TabG H' P
  free : ∀ b, H' b = none → H b = none
theorem DrwC.old {d c : Addr} {H : Hp} (h : DrwC d c H) {p : Addr} (hp : H p = none) : p ≠ d ∧ p ≠ c := by
  obtain ⟨ns, a, u, z, n, h1, h2, _⟩ := h
  refine ⟨fun e => ?_, fun e => ?_⟩
  · rw [e, h1] at hp
    cases hp
  · rw [e, h2] at hp
    cases hp
theorem KeptC.refl {d c : Addr} (H : Hp) : KeptC d c H H := ⟨fun _ _ _ _ h => h, fun h => h, fun _ h => h, fun _ h => h⟩
theorem KeptC.trans {d c : Addr} {H H1 H2 : Hp} (a : KeptC d c H H1) (b : KeptC d c H1 H2) : KeptC d c H H2 :=
  ⟨fun x o n m h => b.keep x o n m (a.keep x o n m h), fun h => b.drw (a.drw h), fun P h => b.tab P (a.tab P h), fun x h => a.free x (b.free x h)⟩
theorem Kept.toC {d c : Addr} {H H' : Hp} (a : Kept H H') : KeptC d c H H' := ⟨fun b o _ n h => a.keep b o n h, fun h => by
  obtain ⟨ns, i, u, z, n, h1, h2, h3⟩ := h
  exact ⟨ns, i, u, z, n, a.keep _ _ noTab_lst h1, a.keep _ _ noTab_lst h2, h3⟩, a.tab, a.free⟩
theorem KeptC.mut {d c : Addr} {H H' : Hp} {p : Addr} {o : HO} (e : KeptC d c H H') (h : H p = none) : KeptC d c H (upd H' p o) := ⟨fun a u m n ha => by
  rw [upd_ne (ne_of_none ha h)]
  exact e.keep a u m n ha, fun hd => by
  obtain ⟨n1, n2⟩ := hd.old h
  obtain ⟨ns, i, u, z, n, h1, h2, h3⟩ := e.drw hd
  exact ⟨ns, i, u, z, n, by rw [upd_ne (Ne.symm n1)]; exact h1, by rw [upd_ne (Ne.symm n2)]; exact h2, h3⟩, fun P hP => by
  obtain ⟨ps, h1, h2⟩ := hP
  have nP := ne_of_none h1 h
  obtain ⟨qs, g1, g2⟩ := e.tab P ⟨ps, h1, h2⟩
  exact ⟨qs, by rw [upd_ne nP]; exact g1, g2⟩, fun b hb => e.free b (upd_free hb).1⟩
theorem KeptC.tup {d c : Addr} {H H' : Hp} {p : Addr} {xs : List V} (e : KeptC d c H H') (hd : DrwC d c H) (h : H p = some (.tup xs)) : H' p = some (.tup xs) := e.keep _ _ (fun z => by
  obtain ⟨ns, a, u, z', n, h', _⟩ := hd
  rw [z, h'] at h
  cases h) noTab_tup h
theorem KeptC.lst {d c : Addr} {H H' : Hp} {p : Addr} {xs : List V} (e : KeptC d c H H') (hd : p ≠ d) (h : H p = some (.lst xs)) : H' p = some (.lst xs) := e.keep _ _ hd noTab_lst h
theorem TakeSt.keptC {H H' : Hp} {c d : Addr} {ns : List Int} {xs : List V} (h : TakeSt H c d H') (hd : H d = some (.lst xs)) (hc : H c = some (.lst (ns.map V.int))) (ne : c ≠ d) : KeptC d c H H' := by
  obtain ⟨h1, a, u, z, h2, h3⟩ := h
  refine ⟨fun b o hb _ q => by rw [h1 b hb]; exact q, fun _ => ⟨ns, a, u, z, ne, h2, by rw [h1 c ne]; exact hc, h3⟩, fun P hP => ?_, fun b q => ?_⟩
  · obtain ⟨ps, p1, p2⟩ := hP
    have : P ≠ d := fun e => by
      rw [e, hd] at p1
      cases p1
    exact ⟨ps, by rw [h1 P this]; exact p1, p2⟩
  · by_cases e : b = d
    · rw [e, h2] at q
      cases q
    · rw [h1 b e] at q
      exact q
def spTakeC : Sp := fun vs H Q _ => ∃ (d c : Addr) (m : Int), vs = [.ref d, .int m] ∧ 0 < m ∧ m < 2 ^ 62 ∧ DrwC d c H ∧ ∀ (r : Int) H', 0 ≤ r → r < m → KeptC d c H H' → Q (.int r) H'
def spDrawC (K : PySem.W.Frag) : Sp := fun vs H Q _ => ∃ (a : Addr) (ns : List Int), vs = [.ref a] ∧ SqL K H a (ns.map V.int) ∧ ns.length ≤ 63 ∧ ∀ d c H', H d = none → Kept H H' → DrwC d c H' → Q (.ref d) H'
/-! ### is not, of two truths -/
def rNB : R2 := fun x y H Q => ∃ a b : Bool, x = .bl a ∧ y = .bl b ∧ Q (.bl (!decide (a = b))) H
section
variable {X : Cx}
def rLenK (K : PySem.W.Frag) : List V → Hp → VK → Prop := fun xs H Q => ∃ p ys, xs = [.ref p] ∧ (SqL K H p ys ∨ SqT K H p ys) ∧ Q (.int ys.length) H
theorem call_lenK {K : PySem.W.Frag} (e : X.K = K) : CallR X (.builtin "len") (rLenK K) := by
  subst e
  exact call_len_seq
theorem op_notB : OpR X (compareOp .IsNot) rNB := by
  intro pins s σ H x y v u Q I rx ry h
  obtain ⟨a, b, rfl, rfl, q⟩ := h
  cases (show v = Value.bool a from rx)
  cases (show u = Value.bool b from ry)
  exact wpAny_isNot_plain rfl (fin_bl I q (by cases a <;> cases b <;> rfl))
end
end Ky

namespace Ky
open PySem PySem.Spec PyProof.Rows L2
/-! ### loops and comprehensions, one step each; what is told of the walk stands in one word -/
def FrJ (g : TG) (tb : TS) (D : Ends) (σ : L2.St) (J : It) (H1 : Hp) : Prop := ∃ W : Nat → Nat → L2.St → Hp → Prop, (∃ m, W 0 m σ H1) ∧ ∀ i m σ H, W i m σ H →
  (J.stop i H ∧ D.nx σ H) ∨ (J.go i H ∧ ∃ N : L2.St → Hp → Prop, (∀ σ' H', N σ' H' → ∃ m', m' < m ∧ W (i + 1) m' σ' H') ∧ ∀ x H', J.yld i H x H' → g x σ H' fun σ2 H2 => tb { D with nx := N, ct := N, bk := D.nx } σ2 H2)
def Fr1 (g : TG) (tb : TS) (D : Ends) (σ : L2.St) (vs : List V) (H1 : Hp) : Prop := ∃ j : Int, vs = [.int j] ∧ -(2 ^ 62) ≤ j ∧ j < 2 ^ 62 ∧ FrJ g tb D σ (Itr 0 j.toNat) H1
def Fr2 (g : TG) (tb : TS) (D : Ends) (σ : L2.St) (vs : List V) (H1 : Hp) : Prop := ∃ i j : Int, vs = [.int i, .int j] ∧ (-(2 ^ 62) ≤ i ∧ i < 2 ^ 62 ∧ -(2 ^ 62) ≤ j ∧ j < 2 ^ 62) ∧ FrJ g tb D σ (Itr i (j - i).toNat) H1
def FrL (K : PySem.W.Frag) (g : TG) (tb : TS) (D : Ends) (σ : L2.St) (x : V) (H1 : Hp) : Prop := ∃ a, x = .ref a ∧ (∃ xs, SqL K H1 a xs) ∧ FrJ g tb D σ (Itl K a) H1
def FrT (K : PySem.W.Frag) (g : TG) (tb : TS) (D : Ends) (σ : L2.St) (x : V) (H1 : Hp) : Prop := ∃ a, x = .ref a ∧ (∃ xs, SqT K H1 a xs) ∧ FrJ g tb D σ (Itt K a) H1
def LcJ (g : TG) (tt : TT) (te : TE) (vs : List Nat) (σ : L2.St) (Q : VK) (J : It) (H1 : Hp) : Prop := ∀ D, H1 D = none → ∃ W : Nat → Nat → Hp → Prop, (∃ m, W 0 m (upd H1 D (.lst []))) ∧ ∀ i m H, W i m H →
  (J.stop i H ∧ Q (.ref D) H) ∨ (J.go i H ∧ ∃ Nx : Hp → Prop, (∀ H', Nx H' → ∃ m', m' < m ∧ W (i + 1) m' H') ∧ ∀ x H', J.yld i H x H' → g x (wipe σ vs) H' fun σ2 H2 => wipe σ2 vs = wipe σ vs ∧ tt σ2 H2 fun b H3 =>
    if b = true then te σ2 H3 fun y H4 => ∃ acc, H4 D = some (.lst acc) ∧ acc.length < sizeLine ∧ Nx (upd H4 D (.lst (acc ++ [y]))) else Nx H3)
def Lc1 (g : TG) (tt : TT) (te : TE) (vs : List Nat) (σ : L2.St) (Q : VK) (ws : List V) (H1 : Hp) : Prop := ∃ j : Int, ws = [.int j] ∧ -(2 ^ 62) ≤ j ∧ j < 2 ^ 62 ∧ LcJ g tt te vs σ Q (Itr 0 j.toNat) H1
def LcL (K : PySem.W.Frag) (g : TG) (tt : TT) (te : TE) (vs : List Nat) (σ : L2.St) (Q : VK) (x : V) (H1 : Hp) : Prop := ∃ a, x = .ref a ∧ (∃ xs, SqL K H1 a xs) ∧ LcJ g tt te vs σ Q (Itl K a) H1
def LcT (K : PySem.W.Frag) (g : TG) (tt : TT) (te : TE) (vs : List Nat) (σ : L2.St) (Q : VK) (x : V) (H1 : Hp) : Prop := ∃ a, x = .ref a ∧ (∃ xs, SqT K H1 a xs) ∧ LcJ g tt te vs σ Q (Itt K a) H1
section
variable {K : PySem.W.Frag} {σ : L2.St} {H H1 : Hp} {Q : VK} {D : Ends} {g : TG} {tb : TS} {ta : TA} {te te2 : TE} {tt : TT} {vs : List Nat} {J : It}
theorem w_for1 (q : ta σ H (Fr1 g tb D σ)) : tFor (iRng1 ta) g tb D σ H := q
theorem w_for2 (q : ta σ H (Fr2 g tb D σ)) : tFor (iRng2 ta) g tb D σ H := q
theorem w_forL (q : te σ H (FrL K g tb D σ)) : tFor (iList K te) g tb D σ H := q
theorem w_forT (q : te σ H (FrT K g tb D σ)) : tFor (iTup K te) g tb D σ H := q
theorem w_lc1 (q : ta σ H (Lc1 g tt te vs σ Q)) : tLc (iRng1 ta) g tt te vs σ H Q := q
theorem w_lcL (q : te2 σ H (LcL K g tt te vs σ Q)) : tLc (iList K te2) g tt te vs σ H Q := q
theorem w_lcT (q : te2 σ H (LcT K g tt te vs σ Q)) : tLc (iTup K te2) g tt te vs σ H Q := q
theorem FrJ.range {lo : Int} {n : Nat} (Pv : Nat → L2.St → Hp → Prop) (h0 : Pv 0 σ H) (hs : ∀ i σ H, i < n → Pv i σ H → g (.int (lo + i)) σ H fun σ2 H2 => tb { D with nx := Pv (i + 1), ct := Pv (i + 1), bk := D.nx } σ2 H2) (hd : ∀ σ H, Pv n σ H → D.nx σ H) : FrJ g tb D σ (Itr lo n) H := for_range Pv h0 hs hd
theorem Fr1.mk {m : Nat} (hm : (m : Int) < 2 ^ 62) (Pv : Nat → L2.St → Hp → Prop) (h0 : Pv 0 σ H) (hs : ∀ i σ H, i < m → Pv i σ H → g (.int (i : Int)) σ H fun σ2 H2 => tb { D with nx := Pv (i + 1), ct := Pv (i + 1), bk := D.nx } σ2 H2) (hd : ∀ σ H, Pv m σ H → D.nx σ H) : Fr1 g tb D σ [.int (m : Int)] H := by
  refine ⟨_, rfl, by omega, hm, ?_⟩
  rw [Int.toNat_natCast]
  refine for_range Pv h0 (fun i σ H hi p => ?_) hd
  rw [Int.zero_add]
  exact hs i σ H hi p
theorem FrL.mk {a : Addr} {xs : List V} (Pv : Nat → L2.St → Hp → Prop) (h0 : Pv 0 σ H) (hl : ∀ i σ H, i ≤ xs.length → Pv i σ H → SqL K H a xs) (hs : ∀ i x σ H, xs[i]? = some x → Pv i σ H → g x σ H fun σ2 H2 => tb { D with nx := Pv (i + 1), ct := Pv (i + 1), bk := D.nx } σ2 H2) (hd : ∀ σ H, Pv xs.length σ H → D.nx σ H) : FrL K g tb D σ (.ref a) H :=
  ⟨a, rfl, ⟨xs, hl 0 σ H (Nat.zero_le _) h0⟩, for_list Pv h0 hl hs hd⟩
theorem FrT.mk {a : Addr} {xs : List V} (Pv : Nat → L2.St → Hp → Prop) (h0 : Pv 0 σ H) (hl : ∀ i σ H, i ≤ xs.length → Pv i σ H → SqT K H a xs) (hs : ∀ i x σ H, xs[i]? = some x → Pv i σ H → g x σ H fun σ2 H2 => tb { D with nx := Pv (i + 1), ct := Pv (i + 1), bk := D.nx } σ2 H2) (hd : ∀ σ H, Pv xs.length σ H → D.nx σ H) : FrT K g tb D σ (.ref a) H :=
  ⟨a, rfl, ⟨xs, hl 0 σ H (Nat.zero_le _) h0⟩, for_tup Pv h0 hl hs hd⟩
/-- a comprehension's walk: what it appends is told, and the heap only grows -/
theorem LcJ.run {n : Nat} {xv : Nat → V} {j : Nat} {H0 : Hp} {Q : VK} (p : Nat → Bool) (f : Nat → V) (hn : n ≤ sizeLine) (hgo : ∀ i H, i < n → Kept H0 H → J.go i H) (hy : ∀ i H x H', i < n → Kept H0 H → J.yld i H x H' → H' = H ∧ x = xv i) (hstop : ∀ H, Kept H0 H → J.stop n H)
    (step : ∀ i H (k : Hp → Prop) (k2 : VK), i < n → Kept H0 H → (∀ H4, Kept H H4 → p i = true → k2 (f i) H4) → (∀ H4, Kept H H4 → p i = false → k H4) → tt ((wipe σ [j]).set j (some (xv i))) H fun b H3 => if b = true then te ((wipe σ [j]).set j (some (xv i))) H3 k2 else k H3)
    (fin : ∀ D H, H0 D = none → Kept H0 H → H D = some (.lst (((List.range n).filter p).map f)) → Q (.ref D) H) : LcJ (gName j) tt te [j] σ Q J H0 := by
  intro D hD
  refine c_walk (xv := xv) (fun i H => Kept H0 H ∧ H D = some (.lst (((List.range i).filter p).map f))) ⟨Kept.new hD, upd_same⟩ (fun i H h s => hgo i H h s.1) (fun i H x H' h s => hy i H x H' h s.1) (fun H s => hstop H s.1) (fun i H hi s => ?_) fun H s => fin D H hD s.1 s.2
  refine ⟨wipe_one, ?_⟩
  refine step i H _ _ hi s.1 (fun H4 k4 hp => ?_) fun H4 k4 hp => ?_
  · refine ⟨_, k4.lst s.2, ?_, Kept.mut (s.1.trans k4) hD, ?_⟩
    · rw [List.length_map]
      have h1 := List.length_filter_le p (List.range i)
      rw [List.length_range] at h1
      omega
    · rw [List.range_succ, List.filter_append, List.map_append, List.filter_cons_of_pos hp]
      exact upd_same
  · refine ⟨s.1.trans k4, ?_⟩
    rw [List.range_succ, List.filter_append, List.filter_cons_of_neg (by rw [hp]; exact Bool.false_ne_true), List.filter_nil, List.append_nil]
    exact k4.lst s.2
theorem Lc1.run {n : Nat} {j : Nat} {H0 : Hp} {Q : VK} (p : Nat → Bool) (f : Nat → V) (hn : n ≤ sizeLine)
    (step : ∀ i H (k : Hp → Prop) (k2 : VK), i < n → Kept H0 H → (∀ H4, Kept H H4 → p i = true → k2 (f i) H4) → (∀ H4, Kept H H4 → p i = false → k H4) → tt ((wipe σ [j]).set j (some (.int (i : Int)))) H fun b H3 => if b = true then te ((wipe σ [j]).set j (some (.int (i : Int)))) H3 k2 else k H3)
    (fin : ∀ D H, H0 D = none → Kept H0 H → H D = some (.lst (((List.range n).filter p).map f)) → Q (.ref D) H) : Lc1 (gName j) tt te [j] σ Q [.int (n : Int)] H0 := by
  have hz : sizeLine < 2 ^ 62 := by decide
  refine ⟨_, rfl, by omega, by omega, ?_⟩
  rw [Int.toNat_natCast]
  exact LcJ.run (xv := fun i => .int (i : Int)) p f hn (fun i H h _ => h) (fun i H x H' _ _ h => by
    obtain ⟨h1, h2⟩ := h
    rw [Int.zero_add] at h2
    exact ⟨h1, h2⟩) (fun H _ => Nat.le_refl n) step fin
theorem LcL.run {a : Addr} {xs : List V} {j : Nat} {H0 : Hp} {Q : VK} (p : Nat → Bool) (f : Nat → V) (hn : xs.length ≤ sizeLine) (ha : H0 a = some (.lst xs))
    (step : ∀ i x H (k : Hp → Prop) (k2 : VK), xs[i]? = some x → Kept H0 H → (∀ H4, Kept H H4 → p i = true → k2 (f i) H4) → (∀ H4, Kept H H4 → p i = false → k H4) → tt ((wipe σ [j]).set j (some x)) H fun b H3 => if b = true then te ((wipe σ [j]).set j (some x)) H3 k2 else k H3)
    (fin : ∀ D H, H0 D = none → Kept H0 H → H D = some (.lst (((List.range xs.length).filter p).map f)) → Q (.ref D) H) : LcL K (gName j) tt te [j] σ Q (.ref a) H0 := by
  refine ⟨a, rfl, ⟨_, SqL.of ha⟩, LcJ.run (xv := fun i => xs.getD i .non) p f hn (fun i H h kp => ⟨xs, xs[i], SqL.of (kp.lst ha), List.getElem?_eq_getElem h⟩) (fun i H x H' h kp q => ?_) (fun H kp => ⟨xs, SqL.of (kp.lst ha), Nat.le_refl _⟩) (fun i H k k2 h kp => step i _ H k k2 (by rw [List.getD_eq_getElem?_getD, List.getElem?_eq_getElem h] <;> rfl) kp) fin⟩
  obtain ⟨e, q⟩ := q
  subst e
  refine ⟨rfl, ?_⟩
  rw [List.getD_eq_getElem?_getD, q xs (SqL.of (kp.lst ha))] <;> rfl
theorem LcT.run {a : Addr} {xs : List V} {j : Nat} {H0 : Hp} {Q : VK} (p : Nat → Bool) (f : Nat → V) (hn : xs.length ≤ sizeLine) (ha : H0 a = some (.tup xs))
    (step : ∀ i x H (k : Hp → Prop) (k2 : VK), xs[i]? = some x → Kept H0 H → (∀ H4, Kept H H4 → p i = true → k2 (f i) H4) → (∀ H4, Kept H H4 → p i = false → k H4) → tt ((wipe σ [j]).set j (some x)) H fun b H3 => if b = true then te ((wipe σ [j]).set j (some x)) H3 k2 else k H3)
    (fin : ∀ D H, H0 D = none → Kept H0 H → H D = some (.lst (((List.range xs.length).filter p).map f)) → Q (.ref D) H) : LcT K (gName j) tt te [j] σ Q (.ref a) H0 := by
  refine ⟨a, rfl, ⟨_, SqT.of ha⟩, LcJ.run (xv := fun i => xs.getD i .non) p f hn (fun i H h kp => ⟨xs, xs[i], SqT.of (kp.tup ha), List.getElem?_eq_getElem h⟩) (fun i H x H' h kp q => ?_) (fun H kp => ⟨xs, SqT.of (kp.tup ha), Nat.le_refl _⟩) (fun i H k k2 h kp => step i _ H k k2 (by rw [List.getD_eq_getElem?_getD, List.getElem?_eq_getElem h] <;> rfl) kp) fin⟩
  obtain ⟨e, q⟩ := q
  subst e
  refine ⟨rfl, ?_⟩
  rw [List.getD_eq_getElem?_getD, q xs (SqT.of (kp.tup ha))] <;> rfl
end
/-! ### what the walks leave, as lists -/
theorem range_filter {α β : Type} (d : α) (p : α → Bool) (f : α → β) : ∀ xs : List α, ((List.range xs.length).filter fun i => p (xs.getD i d)).map (fun i => f (xs.getD i d)) = (xs.filter p).map f := by
  intro xs
  have h : ∀ m, m ≤ xs.length → ((List.range m).filter fun i => p (xs.getD i d)).map (fun i => f (xs.getD i d)) = ((xs.take m).filter p).map f := by
    intro m
    induction m with
    | zero => intro _; rfl
    | succ m ih =>
      intro hm
      have hx : xs[m]? = some xs[m] := List.getElem?_eq_getElem hm
      rw [List.range_succ, List.filter_append, List.map_append, ih (by omega), List.take_add_one, hx, List.filter_append, List.map_append]
      congr 1
      have e : xs.getD m d = xs[m] := by rw [List.getD_eq_getElem?_getD, hx] <;> rfl
      show (List.filter _ [m]).map _ = (List.filter p [xs[m]]).map f
      cases hp : p xs[m] with
      | true => rw [List.filter_cons_of_pos (by rw [e]; exact hp), List.filter_cons_of_pos hp, List.filter_nil, List.filter_nil, List.map_cons, List.map_cons, e] <;> rfl
      | false => rw [List.filter_cons_of_neg (by rw [e, hp]; exact Bool.false_ne_true), List.filter_cons_of_neg (by rw [hp]; exact Bool.false_ne_true)] <;> rfl
  rw [h _ (Nat.le_refl _), List.take_length]
theorem range_map {α β : Type} (d : α) (f : α → β) (xs : List α) : (List.range xs.length).map (fun i => f (xs.getD i d)) = xs.map f := by
  have h := range_filter d (fun _ => true) f xs
  rw [List.filter_eq_self.mpr (fun _ _ => rfl), List.filter_eq_self.mpr (fun _ _ => rfl)] at h
  exact h
section
variable {K : PySem.W.Frag} {σ : L2.St} {Q : VK} {te : TE} {tt : TT} {a : Addr} {ns : List Int} {j : Nat} {H0 : Hp}
/-- a comprehension over numbers -/
theorem LcL.ints (p : Int → Bool) (f : Int → V) (hn : ns.length ≤ sizeLine) (ha : H0 a = some (.lst (ns.map V.int)))
    (step : ∀ n H (k : Hp → Prop) (k2 : VK), n ∈ ns → Kept H0 H → (∀ H4, Kept H H4 → p n = true → k2 (f n) H4) → (∀ H4, Kept H H4 → p n = false → k H4) → tt ((wipe σ [j]).set j (some (.int n))) H fun b H3 => if b = true then te ((wipe σ [j]).set j (some (.int n))) H3 k2 else k H3)
    (fin : ∀ D H, H0 D = none → Kept H0 H → H D = some (.lst ((ns.filter p).map f)) → Q (.ref D) H) : LcL K (gName j) tt te [j] σ Q (.ref a) H0 := by
  refine LcL.run (fun i => p (ns.getD i 0)) (fun i => f (ns.getD i 0)) (by rw [List.length_map]; exact hn) ha (fun i x H k k2 hx kp h1 h2 => ?_) fun D H hD kp h => fin D H hD kp ?_
  · obtain ⟨n, rfl, hn⟩ := map_int hx
    have e : ns.getD i 0 = n := by rw [List.getD_eq_getElem?_getD, hn] <;> rfl
    refine step n H k k2 (List.mem_of_getElem? hn) kp (fun H4 k4 hp => ?_) fun H4 k4 hp => ?_
    · have q := h1 H4 k4 (by rw [e]; exact hp)
      rw [e] at q
      exact q
    · exact h2 H4 k4 (by rw [e]; exact hp)
  · rw [h, List.length_map]
    exact congrArg (fun z => some (HO.lst z)) (range_filter 0 p f ns)
theorem LcT.ints (p : Int → Bool) (f : Int → V) (hn : ns.length ≤ sizeLine) (ha : H0 a = some (.tup (ns.map V.int)))
    (step : ∀ n H (k : Hp → Prop) (k2 : VK), n ∈ ns → Kept H0 H → (∀ H4, Kept H H4 → p n = true → k2 (f n) H4) → (∀ H4, Kept H H4 → p n = false → k H4) → tt ((wipe σ [j]).set j (some (.int n))) H fun b H3 => if b = true then te ((wipe σ [j]).set j (some (.int n))) H3 k2 else k H3)
    (fin : ∀ D H, H0 D = none → Kept H0 H → H D = some (.lst ((ns.filter p).map f)) → Q (.ref D) H) : LcT K (gName j) tt te [j] σ Q (.ref a) H0 := by
  refine LcT.run (fun i => p (ns.getD i 0)) (fun i => f (ns.getD i 0)) (by rw [List.length_map]; exact hn) ha (fun i x H k k2 hx kp h1 h2 => ?_) fun D H hD kp h => fin D H hD kp ?_
  · obtain ⟨n, rfl, hn⟩ := map_int hx
    have e : ns.getD i 0 = n := by rw [List.getD_eq_getElem?_getD, hn] <;> rfl
    refine step n H k k2 (List.mem_of_getElem? hn) kp (fun H4 k4 hp => ?_) fun H4 k4 hp => ?_
    · have q := h1 H4 k4 (by rw [e]; exact hp)
      rw [e] at q
      exact q
    · exact h2 H4 k4 (by rw [e]; exact hp)
  · rw [h, List.length_map]
    exact congrArg (fun z => some (HO.lst z)) (range_filter 0 p f ns)
end
section
variable {K : PySem.W.Frag} {σ : L2.St} {te : TE} {J : It}
theorem tupUpd {H : Hp} {D q : Addr} {xs ys : List V} {o : HO} (hD : H D = some (.lst xs)) (h : H q = some (.tup ys)) : upd H D o q = some (.tup ys) := by
  rw [upd_ne (fun z => by
    rw [z, hD] at h
    cases h)]
  exact h
/-- a comprehension whose elements are tuples of told contents -/
theorem LcJ.tups {n : Nat} {xv : Nat → V} {j : Nat} {H0 : Hp} {Q : VK} (T : Nat → List V) (hn : n ≤ sizeLine) (hgo : ∀ i H, i < n → Kept H0 H → J.go i H) (hy : ∀ i H x H', i < n → Kept H0 H → J.yld i H x H' → H' = H ∧ x = xv i) (hstop : ∀ H, Kept H0 H → J.stop n H)
    (step : ∀ i H (k2 : VK), i < n → Kept H0 H → (∀ H4 q, Kept H H4 → H4 q = some (.tup (T i)) → k2 (.ref q) H4) → te ((wipe σ [j]).set j (some (xv i))) H k2)
    (fin : ∀ D H (qs : List Addr), H0 D = none → Kept H0 H → H D = some (.lst (qs.map V.ref)) → qs.length = n → (∀ i q, qs[i]? = some q → H q = some (.tup (T i))) → Q (.ref D) H) : LcJ (gName j) tYes te [j] σ Q J H0 := by
  intro D hD
  refine c_walk (xv := xv) (fun i H => Kept H0 H ∧ ∃ qs : List Addr, H D = some (.lst (qs.map V.ref)) ∧ qs.length = i ∧ ∀ i q, qs[i]? = some q → H q = some (.tup (T i))) ⟨Kept.new hD, [], upd_same, rfl, fun i q h => by simp at h⟩ (fun i H h s => hgo i H h s.1) (fun i H x H' h s => hy i H x H' h s.1) (fun H s => hstop H s.1) (fun i H hi s => ?_) fun H s => ?_
  · obtain ⟨kp, qs, h1, h2, h3⟩ := s
    refine ⟨wipe_one, w_yes (if_t rfl ?_)⟩
    refine step i H _ hi kp fun H4 q k4 hq => ⟨_, k4.lst h1, ?_, Kept.mut (kp.trans k4) hD, qs ++ [q], ?_, ?_, fun m r hr => ?_⟩
    · rw [List.length_map, h2]
      omega
    · rw [List.map_append]
      exact upd_same
    · rw [List.length_append, h2] <;> rfl
    · by_cases hm : m < qs.length
      · rw [List.getElem?_append_left hm] at hr
        exact tupUpd (k4.lst h1) (k4.tup (h3 m r hr))
      · rw [List.getElem?_append_right (by omega)] at hr
        cases z : m - qs.length with
        | zero =>
          rw [z] at hr
          cases hr
          have e : m = i := by omega
          rw [e]
          exact tupUpd (k4.lst h1) hq
        | succ m =>
          rw [z] at hr
          simp at hr
  · obtain ⟨kp, qs, h1, h2, h3⟩ := s
    exact fin D H qs hD kp h1 h2 h3
theorem LcL.tups {a : Addr} {xs : List V} {j : Nat} {H0 : Hp} {Q : VK} (T : Nat → List V) (hn : xs.length ≤ sizeLine) (ha : H0 a = some (.lst xs))
    (step : ∀ i x H (k2 : VK), xs[i]? = some x → Kept H0 H → (∀ H4 q, Kept H H4 → H4 q = some (.tup (T i)) → k2 (.ref q) H4) → te ((wipe σ [j]).set j (some x)) H k2)
    (fin : ∀ D H (qs : List Addr), H0 D = none → Kept H0 H → H D = some (.lst (qs.map V.ref)) → qs.length = xs.length → (∀ i q, qs[i]? = some q → H q = some (.tup (T i))) → Q (.ref D) H) : LcL K (gName j) tYes te [j] σ Q (.ref a) H0 := by
  refine ⟨a, rfl, ⟨_, SqL.of ha⟩, LcJ.tups (xv := fun i => xs.getD i .non) T hn (fun i H h kp => ⟨xs, xs[i], SqL.of (kp.lst ha), List.getElem?_eq_getElem h⟩) (fun i H x H' h kp q => ?_) (fun H kp => ⟨xs, SqL.of (kp.lst ha), Nat.le_refl _⟩) (fun i H k2 h kp => step i _ H k2 (by rw [List.getD_eq_getElem?_getD, List.getElem?_eq_getElem h] <;> rfl) kp) fin⟩
  obtain ⟨e, q⟩ := q
  subst e
  refine ⟨rfl, ?_⟩
  rw [List.getD_eq_getElem?_getD, q xs (SqL.of (kp.lst ha))] <;> rfl
theorem LcT.tups {a : Addr} {xs : List V} {j : Nat} {H0 : Hp} {Q : VK} (T : Nat → List V) (hn : xs.length ≤ sizeLine) (ha : H0 a = some (.tup xs))
    (step : ∀ i x H (k2 : VK), xs[i]? = some x → Kept H0 H → (∀ H4 q, Kept H H4 → H4 q = some (.tup (T i)) → k2 (.ref q) H4) → te ((wipe σ [j]).set j (some x)) H k2)
    (fin : ∀ D H (qs : List Addr), H0 D = none → Kept H0 H → H D = some (.lst (qs.map V.ref)) → qs.length = xs.length → (∀ i q, qs[i]? = some q → H q = some (.tup (T i))) → Q (.ref D) H) : LcT K (gName j) tYes te [j] σ Q (.ref a) H0 := by
  refine ⟨a, rfl, ⟨_, SqT.of ha⟩, LcJ.tups (xv := fun i => xs.getD i .non) T hn (fun i H h kp => ⟨xs, xs[i], SqT.of (kp.tup ha), List.getElem?_eq_getElem h⟩) (fun i H x H' h kp q => ?_) (fun H kp => ⟨xs, SqT.of (kp.tup ha), Nat.le_refl _⟩) (fun i H k2 h kp => step i _ H k2 (by rw [List.getD_eq_getElem?_getD, List.getElem?_eq_getElem h] <;> rfl) kp) fin⟩
  obtain ⟨e, q⟩ := q
  subst e
  refine ⟨rfl, ?_⟩
  rw [List.getD_eq_getElem?_getD, q xs (SqT.of (kp.tup ha))] <;> rfl
end
theorem pg_tupK {X : Cx} {K : PySem.W.Frag} {pos : Pos} (hK : X.K = K) {es : List Expr} {k : Nat} {t : TGs} {n : Nat} (hc : X.calm = true) (h : PGs X es t)
    (hn : (assignEach es X.env).length = n := by rfl) (hst : (assignEach es X.env).findIdx? (·.1) = none := by rfl) : PG X (.Tuple es k pos) (gTup K n t) := by
  subst hK
  exact pg_tup hc h hn hst
end Ky

namespace Ky
open PySem PySem.Spec PyProof.Rows L2
/-! ### an index of a list or a tuple; >= of data; the whole of a tuple's slice; isinstance, the frame told -/
def rIxE (K : PySem.W.Frag) : R2 := fun x y H Q => rIxL K x y H Q ∨ rIxT K x y H Q
def rGeD (K : PySem.W.Frag) : R2 := fun x y H Q => ∃ d e, Dp K H x d ∧ Dp K H y e ∧ PySem.W.alike d e = true ∧ d ≠ .none ∧ d.depth ≤ 60 ∧ Q (.bl (!PySem.W.dataLt d e)) H
section
variable {X : Cx} {K : PySem.W.Frag}
theorem ix_either : IxR X (rIxE X.K) := by
  intro value slice pins s σ H x y v u Q I rx ry h hs
  rcases h with h | h
  · exact ix_list value slice pins s σ H x y v u Q I rx ry h hs
  · exact ix_tup value slice pins s σ H x y v u Q I rx ry h hs
theorem ix_eitherK (hK : X.K = K) : IxR X (rIxE K) := by subst hK; exact ix_either
theorem op_geD (hu : X.A.units + 64 < cLine) : OpR X (compareOp .GtE) (rGeD X.K) := by
  intro pins s σ H x y v u Q I rx ry h
  obtain ⟨d, e, hd, he, ha, hn, hz, q⟩ := h
  obtain ⟨as, r1⟩ := Dp.reads I d x v hd rx
  obtain ⟨bs, r2⟩ := Dp.reads I e y u he ry
  exact PySem.W.ge_data r1 r2 ha hn (by have := Nat.min_le_left d.depth e.depth; omega) ⟨.bl _, H, I, rfl, q⟩
theorem sl_tupAK (hK : X.K = K) : SlR X (rSlA K) := by subst hK; exact sl_tupA
theorem call_isiK (hK : X.K = K) : CallR X (.builtin "isinstance") (rIsi K) := by subst hK; exact call_isi
end
section
variable {σ : L2.St} {H : Hp} {Q : VK} {K : PySem.W.Frag} {x y : V}
theorem w_isi_bi {b : Bool} (q : Q (.bl true) H) : rIsi K [.bl b, .ty "int"] H Q := ⟨_, _, _, _, true, rfl, .ty _, .base (.bl b), kit_ty (by decide +kernel), q⟩
theorem w_isi_bb {b : Bool} (q : Q (.bl true) H) : rIsi K [.bl b, .ty "bool"] H Q := ⟨_, _, _, _, true, rfl, .ty _, .base (.bl b), kit_ty (by decide +kernel), q⟩
theorem w_isi_bt {b : Bool} (q : Q (.bl false) H) : rIsi K [.bl b, .ty "tuple"] H Q := ⟨_, _, _, _, false, rfl, .ty _, .base (.bl b), kit_ty (by decide +kernel), q⟩
theorem w_isi_si {z : Str} (q : Q (.bl false) H) : rIsi K [.str z, .ty "int"] H Q := ⟨_, _, _, _, false, rfl, .ty _, .base (.str z), kit_ty (by decide +kernel), q⟩
theorem w_isi_nt (q : Q (.bl false) H) : rIsi K [.non, .ty "tuple"] H Q := ⟨_, _, _, _, false, rfl, .ty _, .base .non, kit_ty (by decide +kernel), q⟩
theorem w_isi_ll {a : Addr} {xs : List V} (h : H a = some (.lst xs)) (q : Q (.bl true) H) : rIsi K [.ref a, .ty "list"] H Q := ⟨_, _, _, _, true, rfl, .ty _, .base (.lst h), kit_ty (by decide +kernel), q⟩
end
/-! ### values that a display makes: what is told of them stays true while the heap grows -/
def TupW (xs : List V) : V → Hp → Prop := fun v H => ∃ p, v = .ref p ∧ H p = some (.tup xs)
structure MkE (σ : L2.St) (H0 : Hp) (te : TE) (W : V → Hp → Prop) : Prop where
  up : ∀ v H H', Kept H H' → W v H → W v H'
  run : ∀ H Q, Kept H0 H → (∀ v H', Kept H H' → W v H' → Q v H') → te σ H Q
structure MkA (σ : L2.St) (H0 : Hp) (ta : TA) (W : List V → Hp → Prop) : Prop where
  up : ∀ v H H', Kept H H' → W v H → W v H'
  run : ∀ H Q, Kept H0 H → (∀ v H', Kept H H' → W v H' → Q v H') → ta σ H Q
section
variable {σ : L2.St} {H0 : Hp} {te ta tb : TE} {tq : TA} {K : PySem.W.Frag}
theorem mk_c {v : V} : MkE σ H0 (tC v) (fun x _ => x = v) := ⟨fun _ _ _ _ h => h, fun H Q k0 k => k v H (Kept.refl _) rfl⟩
theorem mk_var {i : Nat} {v : V} (h : σ[i]? = some (some v)) : MkE σ H0 (tVar i) (fun x _ => x = v) := ⟨fun _ _ _ _ h => h, fun H Q k0 k => ⟨v, h, k v H (Kept.refl _) rfl⟩⟩
theorem mk_varT {i : Nat} {a : Addr} {xs : List V} (h : σ[i]? = some (some (.ref a))) (ha : H0 a = some (.tup xs)) : MkE σ H0 (tVar i) (TupW xs) := ⟨fun v H H' k q => by
    obtain ⟨p, e, h⟩ := q
    exact ⟨p, e, k.tup h⟩, fun H Q k0 k => ⟨_, h, k _ H (Kept.refl _) ⟨a, rfl, k0.tup ha⟩⟩⟩
theorem mk_neg {n : Int} {te : TE} (h : MkE σ H0 te (fun x _ => x = .int n)) : MkE σ H0 (tUn (rU fun i => V.int (-i)) te) (fun x _ => x = .int (-n)) := ⟨fun _ _ _ _ h => h, fun H Q k0 k => h.run H _ k0 fun v H' k1 e => ⟨n, e, k _ H' k1 rfl⟩⟩
theorem mk_nil : MkA σ H0 tNil (fun vs _ => vs = []) := ⟨fun _ _ _ _ h => h, fun H Q k0 k => k [] H (Kept.refl _) rfl⟩
theorem mk_cons {W : V → Hp → Prop} {Ws : List V → Hp → Prop} (h : MkE σ H0 te W) (hs : MkA σ H0 tq Ws) : MkA σ H0 (tCons te tq) (fun vs H => ∃ v r, vs = v :: r ∧ W v H ∧ Ws r H) :=
  ⟨fun vs H H' k q => by
    obtain ⟨v, r, e, a, b⟩ := q
    exact ⟨v, r, e, h.up v H H' k a, hs.up r H H' k b⟩, fun H Q k0 k => h.run H _ k0 fun v H1 k1 w1 => hs.run H1 _ (k0.trans k1) fun r H2 k2 w2 => k _ H2 (k1.trans k2) ⟨v, r, rfl, h.up v H1 H2 k2 w1, w2⟩⟩
theorem mk_tup {Ws : List V → Hp → Prop} (h : MkA σ H0 tq Ws) (hl : ∀ vs H, Ws vs H → vs.length ≤ 1000) : MkE σ H0 (tTup tq) (fun v H => ∃ p xs, v = .ref p ∧ H p = some (.tup xs) ∧ Ws xs H) :=
  ⟨fun v H H' k q => by
    obtain ⟨p, xs, e, a, b⟩ := q
    exact ⟨p, xs, e, k.tup a, h.up xs H H' k b⟩, fun H Q k0 k => h.run H _ k0 fun vs H1 k1 w => ⟨Nat.le_trans (hl vs H1 w) (by decide), fun p hp => k _ _ (k1.trans (Kept.new hp)) ⟨p, vs, rfl, upd_same, h.up _ _ _ (Kept.new hp) w⟩⟩⟩
theorem MkE.weak {W W' : V → Hp → Prop} (h : MkE σ H0 te W) (hw : ∀ v H, W v H → W' v H) (hu : ∀ v H H', Kept H H' → W' v H → W' v H') : MkE σ H0 te W' := ⟨hu, fun H Q k0 k => h.run H Q k0 fun v H' k1 w => k v H' k1 (hw v H' w)⟩
theorem tupW_up {xs : List V} : ∀ v H H', Kept H H' → TupW xs v H → TupW xs v H' := fun v H H' k h => by
  obtain ⟨p, e, h⟩ := h
  exact ⟨p, e, k.tup h⟩
theorem mk_tupW {xs : List V} {Ws : List V → Hp → Prop} (h : MkA σ H0 tq Ws) (hw : ∀ vs H, Ws vs H → vs = xs) (hl : xs.length ≤ 1000) : MkE σ H0 (tTup tq) (TupW xs) :=
  (mk_tup h fun vs H w => by rw [hw vs H w]; exact hl).weak (fun v H q => by
    obtain ⟨p, ys, e, a, b⟩ := q
    rw [hw ys H b] at a
    exact ⟨p, e, a⟩) tupW_up
/-- a variable that holds a tuple -/
theorem mk_catW {xs ys : List V} (ha : MkE σ H0 ta (TupW xs)) (hb : MkE σ H0 tb (TupW ys)) (hl : xs.length + ys.length ≤ 1000) : MkE σ H0 (tOp (rCatA K) ta tb) (TupW (xs ++ ys)) :=
  ⟨tupW_up, fun H Q k0 k => ha.run H _ k0 fun v H1 k1 w1 => hb.run H1 _ (k0.trans k1) fun u H2 k2 w2 => by
    obtain ⟨a, rfl, h1⟩ := tupW_up v H1 H2 k2 w1
    obtain ⟨b, rfl, h2⟩ := w2
    have hz : 1000 ≤ sizeLine := by decide
    refine ⟨a, b, xs, ys, rfl, rfl, SqT.of h1, SqT.of h2, by omega, fun e => ?_, fun _ e => ?_, fun _ _ p hp => ?_⟩
    · subst e
      exact k _ H2 (k1.trans k2) ⟨b, rfl, h2⟩
    · subst e
      exact k _ H2 (k1.trans k2) ⟨a, rfl, by rw [List.append_nil]; exact h1⟩
    · exact k _ _ ((k1.trans k2).trans (Kept.new hp)) ⟨p, rfl, upd_same⟩⟩
theorem mk_to1 {xs : List V} (ha : MkE σ H0 ta (TupW xs)) : MkE σ H0 (tSl (rSlA K) ta tNoPart (tPart (tC (.int 1)))) (TupW (xs.take 1)) :=
  ⟨tupW_up, fun H Q k0 k => ha.run H _ k0 fun v H1 k1 w1 => by
    obtain ⟨a, rfl, h1⟩ := w1
    refine ⟨1, rfl, a, xs, rfl, SqT.of h1, fun e => ?_, fun e p hp => ?_⟩
    · have e2 := e.2
      rw [show HT.sIx xs.length xs.length (some 1) = min 1 xs.length from HT.sIx_nat _ _ 1] at e2
      refine k _ H1 k1 ⟨a, rfl, ?_⟩
      rw [List.take_of_length_le (by omega)]
      exact h1
    · refine k _ _ (k1.trans (Kept.new hp)) ⟨p, rfl, ?_⟩
      have ec : cutV xs none (some 1) = xs.take 1 := by
        unfold cutV
        rw [HT.sIx_none, show HT.sIx xs.length xs.length (some 1) = min 1 xs.length from HT.sIx_nat _ _ 1, Nat.sub_zero, List.drop_zero]
        by_cases h : 1 ≤ xs.length
        · rw [Nat.min_eq_left h]
        · have e0 : xs = [] := List.length_eq_zero_iff.mp (by omega)
          rw [e0] <;> rfl
      rw [← ec]
      exact upd_same⟩
theorem mk_of1 {xs : List V} (ha : MkE σ H0 ta (TupW xs)) : MkE σ H0 (tSl (rSlA K) ta (tPart (tC (.int 1))) tNoPart) (TupW (xs.drop 1)) :=
  ⟨tupW_up, fun H Q k0 k => ha.run H _ k0 fun v H1 k1 w1 => by
    obtain ⟨a, rfl, h1⟩ := w1
    refine ⟨1, rfl, a, xs, rfl, SqT.of h1, fun e => ?_, fun e p hp => ?_⟩
    · have e2 := e.1
      rw [show HT.sIx xs.length 0 (some 1) = min 1 xs.length from HT.sIx_nat _ _ 1] at e2
      have e0 : xs = [] := List.length_eq_zero_iff.mp (by omega)
      refine k _ H1 k1 ⟨a, rfl, ?_⟩
      rw [e0] at h1 ⊢
      exact h1
    · refine k _ _ (k1.trans (Kept.new hp)) ⟨p, rfl, ?_⟩
      have ec : cutV xs (some 1) none = xs.drop 1 := by
        unfold cutV
        rw [HT.sIx_none, show HT.sIx xs.length 0 (some 1) = min 1 xs.length from HT.sIx_nat _ _ 1]
        by_cases h : 1 ≤ xs.length
        · rw [Nat.min_eq_left h]
          exact List.take_of_length_le (by rw [List.length_drop]; exact Nat.le_refl _)
        · have e0 : xs = [] := List.length_eq_zero_iff.mp (by omega)
          rw [e0] <;> rfl
      rw [← ec]
      exact upd_same⟩
end
end Ky

namespace Ky
open PySem PySem.Spec PyProof.Rows L2
/-! ### sets of keys of one kind, whose table rises: set(xs) of a list, sorted of it -/
/-- a set at its beginning -/
abbrev so0 (w : World) : Obj := { cls := .type "set", dict := none, data := .set #[] 0 (.fresh 0 0 (!w.params.followText "set-order")) }
section
variable {P : Program} {w : World} {T : Type} [DecidableEq T]
/-- rd reads the key of a value -/
def RdKey (kd : PySem.KeyKind P w T) (rd : Value → T) : Prop := ∀ k v, kd.is k v = true → rd v = k
structure RKey (kd : PySem.KeyKind P w T) (rd : Value → T) (xs : List (Int × Value)) (ks : List T) : Prop where
  els : ElemsOf kd xs
  nd : (xs.map fun e => rd e.2).Nodup
  mem : ∀ k, k ∈ ks ↔ k ∈ xs.map fun e => rd e.2
variable {kd : PySem.KeyKind P w T} {rd : Value → T} {xs ys : List (Int × Value)} {ks : List T} {k : T} {x : Value}
theorem RKey.nil : RKey kd rd [] [] := ⟨fun e he => (by cases he), List.nodup_nil, fun k => (by simp)⟩
theorem RKey.perm (R : RKey kd rd xs ks) (p : ys.Perm xs) : RKey kd rd ys ks :=
  ⟨R.els.perm p, (p.map fun e => rd e.2).nodup_iff.mpr R.nd, fun k => (R.mem k).trans (p.map fun e => rd e.2).mem_iff.symm⟩
theorem RKey.iff (hr : RdKey kd rd) (R : RKey kd rd xs ks) (k : T) : k ∈ ks ↔ ∃ e ∈ xs, kd.is k e.2 = true := by
  rw [R.mem k, List.mem_map]
  constructor
  · rintro ⟨e, he, q⟩
    obtain ⟨⟨k2, h1, _⟩, _⟩ := R.els e he
    have z := hr k2 _ h1
    rw [q] at z
    exact ⟨e, he, by rw [z]; exact h1⟩
  · rintro ⟨e, he, q⟩
    exact ⟨e, he, hr k _ q⟩
theorem RKey.same (R : RKey kd rd xs ks) (h : k ∈ ks) : RKey kd rd xs (ks ++ [k]) :=
  ⟨R.els, R.nd, fun j => by
    rw [List.mem_append, List.mem_singleton, ← R.mem j]
    exact ⟨fun z => z.elim id fun e => e ▸ h, .inl⟩⟩
theorem RKey.more (hr : RdKey kd rd) (R : RKey kd rd xs ks) (h : k ∉ ks) (hk : kd.is k x = true) (hs : x.scannable = true) (p : ys.Perm (xs ++ [(kd.hash k, x)])) : RKey kd rd ys (ks ++ [k]) := by
  have pk : (ys.map fun e => rd e.2).Perm ((xs.map fun e => rd e.2) ++ [k]) := by
    have z := p.map fun e : Int × Value => rd e.2
    rw [List.map_append, List.map_cons, List.map_nil, hr k x hk] at z
    exact z
  refine ⟨(R.els.push hk hs).perm p, pk.nodup_iff.mpr ?_, fun j => ?_⟩
  · rw [(List.perm_append_singleton k _).nodup_iff]
    exact List.nodup_cons.mpr ⟨fun z => h ((R.mem k).mpr z), R.nd⟩
  · rw [pk.mem_iff, List.mem_append, List.mem_append, R.mem j]
def SetK (kd : PySem.KeyKind P w T) (rd : Value → T) (h : Heap) (a : Addr) (ks : List T) : Prop :=
  ∃ o es ep t, h.get? a = some o ∧ o.ExactSet ∧ o.data = .set es ep t ∧ RKey kd rd es.toList ks ∧ t.fits es.size = true ∧ es.size ≤ ks.length ∧ Ris t.place.toList ∧ (w.params.followText "set-order" = true ∨ t.led = true)
theorem SetK.at {h h' : Heap} {a : Addr} (S : SetK kd rd h a ks) (q : ∀ o, h.get? a = some o → h'.get? a = some o) : SetK kd rd h' a ks := by
  obtain ⟨o, es, ep, t, ho, r⟩ := S
  exact ⟨o, es, ep, t, q o ho, r⟩
theorem SetK.new {h : Heap} {a : Addr} (ho : h.get? a = some (so0 w)) : SetK kd rd h a [] :=
  ⟨_, #[], 0, _, ho, ⟨rfl, rfl, rfl⟩, rfl, RKey.nil, rfl, Nat.zero_le _, List.Pairwise.nil, by
    show _ ∨ (!w.params.followText "set-order") = true
    cases w.params.followText "set-order"
    · exact .inr rfl
    · exact .inl rfl⟩
theorem SetK.lay {h : Heap} {a : Addr} {o : Obj} {es es' : Array (Int × Value)} {ep : Nat} {t t' : SetTable} (ho : h.get? a = some o) (hex : o.ExactSet) (hd : o.data = .set es ep t) (R : RKey kd rd es'.toList ks) (hf : t'.fits es'.size = true) (hz : es'.size ≤ ks.length) (hr : Ris t'.place.toList) (hl : w.params.followText "set-order" = true ∨ t'.led = true) :
    SetK kd rd (h.update a (Obj.putSet es' t')) a ks := ⟨_, es', ep + 1, t', store_at ho hd, hex, rfl, R, hf, hz, hr, hl⟩
variable {A : Around} {E : Value → Shared → Prop} {s : Shared} {a : Addr}
/-- the end of an add: the table is stored, and laid anew where it is too full -/
theorem setK_end {g : Bool → Sem Unit} (hg : ∀ (b : Bool) (s1 : Shared) (Q' : Unit → Shared → Prop), Q' () s1 → wpAny (model P w) A (g b) Q' E s1) {o : Obj} {es e1 : Array (Int × Value)} {ep : Nat} {t t2 : SetTable} {D : Bool} {R : Option Bool → Shared → Prop}
    (ho : s.heap.get? a = some o) (hex : o.ExactSet) (hd : o.data = .set es ep t) (K1 : RKey kd rd e1.toList ks) (hf : t2.fits e1.size = true) (hz : e1.size ≤ ks.length) (hb : ks.length < scanBound) (hr : Ris t2.place.toList) (hl : w.params.followText "set-order" = true ∨ t2.led = true)
    (q : ∀ h', Heap.SameBut a s.heap h' → SetK kd rd h' a ks → R (some true) { s with heap := h' }) :
    wpAny (model P w) A (storeSet a e1 t2 >>= fun _ => if (!D && t2.tooFull) = true then g (relayAll t2 e1 (SetTable.grown e1.size)).2.2 >>= fun _ => storeSet a (relayAll t2 e1 (SetTable.grown e1.size)).1 (relayAll t2 e1 (SetTable.grown e1.size)).2.1 >>= fun _ => pure (some true) else pure (some true)) R E s := by
  have b1 : e1.size < scanBound := Nat.lt_of_le_of_lt hz hb
  refine wpAny_bind (wpAny_storeSet_of ho hd ?_ (fits_of_scanBound b1))
  have sb := Heap.SameBut.update s.heap a (Obj.putSet e1 t2)
  by_cases c : (!D && t2.tooFull) = true
  · rw [if_pos c]
    obtain ⟨e2, he2⟩ : ∃ z, z = relayAll t2 e1 (SetTable.grown e1.size) := ⟨_, rfl⟩
    have pm : e2.1.toList.Perm e1.toList := by rw [he2]; exact relayAll_perm t2 e1 _
    have hz2 : e2.1.size = e1.size := by
      have z := pm.length_eq
      rwa [Array.length_toList, Array.length_toList] at z
    rw [← he2]
    refine wpAny_bind (hg _ _ _ (wpAny_bind (wpAny_storeSet_of (store_at ho hd) rfl ?_ (fits_of_scanBound (by rw [hz2]; exact b1)))))
    refine wpAny_pure (q _ (sb.trans (Heap.SameBut.update _ a _)) (SetK.lay (store_at ho hd) hex rfl (K1.perm pm) ?_ (by rw [hz2]; exact hz) ?_ ?_))
    · rw [he2]; exact relayAll_fits t2 e1 _
    · rw [he2]; exact relayAll_ris t2 e1 _
    · rw [he2]; exact hl.imp id fun z => (relayAll_led t2 e1 _).trans z
  · rw [if_neg c]
    exact wpAny_pure (q _ sb (SetK.lay ho hex hd K1 hf hz hr hl))
theorem gone_way (b : Bool) {s1 : Shared} {Q' : Unit → Shared → Prop} (q : Q' () s1) : wpAny (model P w) A (match b with | true => rule "set.scan.the-table-gave-way" | false => pure ()) Q' E s1 := by
  cases b
  · exact wpAny_pure q
  · exact wpAny_rule q
theorem SetK.add (hr : RdKey kd rd) {Q : Bool → Shared → Prop} (hk : kd.is k x = true) (hs : x.scannable = true) (S : SetK kd rd s.heap a ks) (room : ks.length + 1 < scanBound)
    (q : ∀ b h', Heap.SameBut a s.heap h' → SetK kd rd h' a (ks ++ [k]) → Q b { s with heap := h' }) : wpAny (model P w) A (setAddHashed a x (kd.hash k)) Q E s := by
  obtain ⟨o, es, ep, t, ho, hex, hd, R, hf, hz, hri, hl⟩ := S
  have hb : es.size < scanBound := by omega
  have hln : (ks ++ [k]).length = ks.length + 1 := List.length_append
  unfold setAddHashed setAddHashedIn
  refine wpAny_holding (wpAny_bind (wpAny_setState_of ho hd hf ?_))
  dsimp only
  rw [show byScan x es = true from byScan_of hs hb R.els]
  simp only [↓reduceIte]
  unfold setAddByScan
  refine wpAny_bind (wpAny_bind (wpAny_rule (wpAny_bind (wpAny_setScan_of hk ho hd hf R.els ?_))))
  cases hi : List.findIdx? (fun e => kd.is k e.2) es.toList with
  | some j =>
    obtain ⟨hj, pj, _⟩ := List.findIdx?_eq_some_iff_getElem.mp hi
    have hm : k ∈ ks := (R.iff hr k).mpr ⟨_, List.getElem_mem hj, pj⟩
    exact wpAny_pure (wpAny_pure (q _ s.heap (Heap.SameBut.refl a _) ⟨o, es, ep, t, ho, hex, hd, R.same hm, hf, by omega, hri, hl⟩))
  | none =>
    have hm : k ∉ ks := fun z => by
      obtain ⟨e, he, c⟩ := (R.iff hr k).mp z
      rw [List.findIdx?_eq_none_iff.mp hi e he] at c
      cases c
    dsimp only
    have pm := layNew_perm t es (kd.hash k) x
    have f1 := layNew_fits t es (kd.hash k) x
    have r1 := layNew_ris t es (kd.hash k) x hri
    have l1 := layNew_led t es (kd.hash k) x
    generalize layNew t es (kd.hash k) x = Z at pm f1 r1 l1 ⊢
    obtain ⟨e1, t1, D, G⟩ := Z
    dsimp only at pm f1 r1 l1 ⊢
    rw [Array.toList_push] at pm
    have K1 := R.more hr hm hk hs pm
    have hz1 : e1.size ≤ (ks ++ [k]).length := by
      have z := pm.length_eq
      rw [Array.length_toList, List.length_append, Array.length_toList] at z
      rw [hln]
      have z : e1.size = es.size + 1 := z
      omega
    have hl1 : w.params.followText "set-order" = true ∨ t1.led = true := hl.imp id fun z => l1.trans z
    have hb1 : (ks ++ [k]).length < scanBound := by omega
    refine wpAny_bind (gone_way _ ?_)
    split
    · refine wpAny_bind ?_
      rw [hashByValue_scannable 8 hs]
      refine wpAny_pure (setK_end (fun b s1 Q' z => gone_way b z) ho hex hd K1 ?_ hz1 hb1 ?_ ?_ fun h' sb z => wpAny_pure (q _ h' sb z))
      · split
        · exact f1
        · exact SetTable.fits_plain_off f1
      · split <;> exact r1
      · split <;> exact hl1
    · refine wpAny_bind (wpAny_pure ?_)
      simp only [↓reduceIte]
      exact setK_end (fun b s1 Q' z => gone_way b z) ho hex hd K1 f1 hz1 hb1 r1 hl1 fun h' sb z => wpAny_pure (q _ h' sb z)
/-- the loop that puts in what comes -/
theorem SetK.fill (hr : RdKey kd rd) {I : Addr} {fp wr : List Addr} {G : Array GenState → Array GenState → Prop} {n : Nat} {Pv : Nat → Value → Prop} {St : Nat → Shared → Prop} {R : Result → Shared → Prop} (W : WalksS P w A.in1 I fp wr G n Pv St) {S : Addr} (hS : S ∉ fp) {ks : List T} (hn : n = ks.length) (hb : ks.length + 1 < scanBound)
    (hv : ∀ i v, Pv i v → ∃ k, ks[i]? = some k ∧ kd.is k v = true ∧ v.scannable = true) : ∀ (m i : Nat) (s : Shared), n - i = m → i ≤ n → St i s → SetK kd rd s.heap S (ks.take i) → (∀ s', Moved (S :: wr) G s s' → SetK kd rd s'.heap S ks → R (.ok (.ret .none)) s') →
      codeAny (model P w) A (.builtin "set.update.loop" ⟨[.ref S, .ref I], []⟩) R s
  | 0, i, s, hm, hi, st, K1, q => by
    have e : i = n := by omega
    rw [show ks.take i = ks from List.take_of_length_le (by omega)] at K1
    refine codeAny_builtin F.entry_set_update_loop (by rw [Around.under_plainId F.plain_set_update_loop _]; show wpAny _ A.in1 (pyNext (.ref I) >>= _) _ _ s; exact wpAny_bind (W.done s _ _ (e ▸ st) fun s' mv => wpAny_pure (q s' (mv.mono fun b z => List.mem_cons_of_mem _ z) (K1.at fun o z => mv.heap S o (fun z => hS (W.sub _ z)) z))))
  | m + 1, i, s, hm, hi, st, K1, q => by
    refine codeAny_builtin F.entry_set_update_loop ?_; rw [Around.under_plainId F.plain_set_update_loop _]; show wpAny _ A.in1 (pyNext (.ref I) >>= _) _ _ s
    refine wpAny_bind (W.item i s _ _ (by omega) st fun v s' pv st' mv => ?_)
    obtain ⟨k, hk, h1, h2⟩ := hv i v pv
    have K2 : SetK kd rd s'.heap S (ks.take i) := K1.at fun o z => mv.heap S o (fun z => hS (W.sub _ z)) z
    refine wpAny_bind (m := holding [v] (setAdd S v)) (wpAny_holding ?_)
    unfold setAdd
    refine wpAny_holding (wpAny_bind (kd.pyHash h1 (SetK.add (s := { s' with toks := s'.toks + 1 }) hr h1 h2 K2 ?_ fun b h' sb K3 => ?_)))
    · rw [List.length_take]; omega
    · have K4 : SetK kd rd h' S (ks.take (i + 1)) := by rw [List.take_add_one, hk]; exact K3
      have old : ∀ b, b ≠ S → ∀ o, s'.heap.get? b = some o → h'.get? b = some o := fun b z o e => by rw [sb.2 b z]; exact e
      refine wpAny_pure ⟨plainId_quiet F.plain_set_update_loop _, SetK.fill hr W hS hn hb hv m (i + 1) _ (by omega) (by omega) (W.frame _ s' _ _ st' (Nat.le_succ _) fun b z o e => old b (fun c => hS (by rw [← c]; exact z)) o e) K4 fun s2 mv2 K5 => q s2 (Moved.trans W.gtrans ((mv.mono fun b z => List.mem_cons_of_mem _ z).then_heap (Nat.le_succ _) fun b o z e => old b (fun c => z (by rw [c]; exact List.mem_cons_self)) o e) mv2) K5⟩
theorem sz1 (h : Heap) (o : Obj) : (h.push o).objs.size = h.objs.size + 1 := Heap.size_push ..
/-- set(l), as the object is filled -/
theorem SetK.init (hr : RdKey kd rd) {l : Addr} {its : Array Value} {ks : List T} {Q : Value → Shared → Prop} (hh : A.handled = none) (hl : s.heap.IsList l its) (hz : its.size = ks.length) (hb : ks.length + 1 < scanBound) (hv : ∀ (i : Nat) (v : Value), its[i]? = some v → ∃ k, ks[i]? = some k ∧ kd.is k v = true ∧ v.scannable = true)
    (q : ∀ h' tk, SetK kd rd h' s.heap.objs.size ks → (∀ b o, s.heap.get? b = some o → h'.get? b = some o) → Q (.ref s.heap.objs.size) { s with heap := h', toks := tk }) : wpAny (model P w) A (call (.type "set") [.ref l]) Q E s := by
  obtain ⟨c, tl, hmro⟩ := F.called_set.mro
  have c1 := F.called_set.made
  have c2 := F.called_set.sub
  have c3 := F.called_set.notType
  have c4 := F.called_set.canCreate
  have c5 := F.typeCall_set_1 (.ref l)
  have c6 := F.called_set.init.lookup
  have c7 := F.called_set.init.bind (.ref s.heap.objs.size)
  have hlt : l < s.heap.objs.size := by obtain ⟨o, ho, _⟩ := hl; exact Heap.lt_size ho
  refine wpAny_call (codeAny_of_tree ?_); show wpAny _ _ (callAny (.type "set") _) _ _ _
  refine wpAny_pure ⟨Code.quiet_builtin _ (by decide +kernel), codeAny_builtin F.entry_type_call ?_⟩; rw [Around.under_plain (weight_type_call_type "set" [.ref l] []) rfl]
  repeat (any_goals (first | assumption | wp_step))
  refine codeAny_mono (code_set_led1 (.ref l) (E := E) (Q₁ := fun ob s1 => ob = .ref s.heap.objs.size ∧ s1 = { s with heap := s.heap.push (so0 w) }) ⟨rfl, rfl⟩) fun r s1 hr1 => ?_
  rcases r with e | fl
  · exact hr1
  cases fl <;> try exact hr1.elim
  obtain ⟨rfl, rfl⟩ := hr1
  have g0 : (s.heap.push (so0 w)).get? s.heap.objs.size = some (so0 w) := Heap.get?_push_size _ rfl
  have ty : Shared.TypeIs { s with heap := s.heap.push (so0 w) } (.ref s.heap.objs.size) "set" := ⟨_, g0, rfl⟩
  repeat (any_goals (first | assumption | wp_step))
  refine codeAny_mono (codeAny_call_builtin (R := wants (fun r s2 => r = .none ∧ ∃ h' tk, s2 = { s with heap := h', toks := tk } ∧ SetK kd rd h' s.heap.objs.size ks ∧ ∀ b o, s.heap.get? b = some o → h'.get? b = some o) E) F.called_set.init.plain F.entry_set_init (check_set_init_1 ty ?_)) fun r s2 hr2 => ?_
  · have hl1 : (s.heap.push (so0 w)).IsList l its := hl.push _
    obtain ⟨⟨oc, od, ob, os⟩, ho, hc, nl, hd⟩ := hl
    simp only at hc hd
    subst hc; subst hd
    have ho1 : (s.heap.push (so0 w)).get? l = some { cls := .type "list", dict := od, data := .seq its nl, slots := os } := Heap.get?_push_of_some _ ho
    have n1 := F.sub_list_set
    have n2 := F.sub_list_frozenset
    have n3 : (Value.type "list" == Value.type "dict") = false := by decide
    unfold Builtin.«set.__init__» noKeywords Builtin.Frozenset.updateFrom; generalize hPI : pyIter = PI
    wp_walk
    subst hPI
    refine wpAny_pyIter_list hl1 (wpAny_bind (wpAny_runValue ?_))
    have hh3 : A.in1.in1.in1.handled = none := by simp [hh]
    have hI : l ≠ (s.heap.push (so0 w)).objs.size := by rw [sz1]; exact Nat.ne_of_lt (Nat.lt_succ_of_lt hlt)
    have hS : s.heap.objs.size ∉ [(s.heap.push (so0 w)).objs.size, l] := by
      rw [sz1, List.mem_cons, List.mem_singleton]
      exact fun z => z.elim (fun z => Nat.ne_of_lt (Nat.lt_succ_self _) z) fun z => Nat.ne_of_gt hlt z
    refine SetK.fill hr ((Walks.list hh3 _ l hI its).toS) hS hz hb hv (its.size - 0) 0 _ rfl (Nat.zero_le _) ⟨⟨_, Heap.get?_push_size _ rfl, rfl, rfl⟩, hl1.push _⟩ (SetK.new (Heap.get?_push_of_some _ g0)) fun s3 mv K3 => ?_
    obtain ⟨h3, g3, d3, t3, o3⟩ := s3
    cases (mv.gens : g3 = s.gens)
    cases (mv.drawn : d3 = s.drawn)
    cases (mv.os : o3 = s.os)
    show wpAny _ _ _ _ _ _
    refine wpAny_pure ?_
    show wpAny _ _ (ret Value.none) _ _ _
    refine wpAny_pure ⟨rfl, h3, t3, rfl, K3, fun b o e => mv.heap b o ?_ (Heap.get?_push_of_some _ (Heap.get?_push_of_some _ e))⟩
    have hb0 := Heap.lt_size e
    rw [sz1, List.mem_cons, List.mem_singleton]
    exact fun z => z.elim (fun z => Nat.ne_of_lt hb0 z) fun z => Nat.ne_of_lt (Nat.lt_succ_of_lt hb0) z
  · rcases r with e | fl
    · exact hr2
    cases fl <;> try exact hr2.elim
    obtain ⟨rfl, h', tk, rfl, K3, kp⟩ := hr2
    repeat (any_goals (first | assumption | wp_step))
    exact q h' tk K3 kp
end
end Ky

namespace Ky
open PySem PySem.Spec PyProof.Rows L2
/-! ### sorted(set(xs)), ints and texts -/
section
variable {P : Program} {w : World} {T : Type} [DecidableEq T] {kd : PySem.KeyKind P w T} {rd : Value → T} {ks : List T}
/-- list.sort sorts values of the kind -/
def Sorts (kd : PySem.KeyKind P w T) (rd : Value → T) (sr : List T → Prop) : Prop := ∀ {A : Around} {E : Value → Shared → Prop} {s : Shared} {a : Addr} {vs : List Value} {R : PySem.Fin → Shared → Prop}, s.heap.get? a = some (seqObj "list" vs.toArray 0) → vs.length ≤ sizeLine → (∀ v ∈ vs, ∃ k, kd.is k v = true) →
  (∀ out : Array Value, (∀ v ∈ out.toList, ∃ k, kd.is k v = true) → (out.toList.map rd).Perm (vs.map rd) → sr (out.toList.map rd) → R (.done (.ret .none)) { s with heap := sortedHeap s.heap a vs out }) → wpAny (model P w) A (Builtin.«list.sort» ⟨[.ref a], []⟩) R E s
variable {A : Around} {E : Value → Shared → Prop} {s : Shared} {a : Addr}
theorem SetK.sorted {sr : List T → Prop} (hso : Sorts kd rd sr) {Q : Value → Shared → Prop} (S : SetK kd rd s.heap a ks) (hb : ks.length < scanBound) (hh : A.handled = none)
    (q : ∀ s' p (out : Array Value) (c : Nat), (∀ b o, s.heap.get? b = some o → s'.heap.get? b = some o) → s'.gens = s.gens → s'.os = s.os → s.heap.objs.size ≤ p → s'.heap.get? p = some (seqObj "list" out c) → (∀ v ∈ out.toList, ∃ k, kd.is k v = true) → sr (out.toList.map rd) → (out.toList.map rd).Nodup → (∀ k, k ∈ out.toList.map rd ↔ k ∈ ks) → Q (.ref p) s') :
    wpAny (model P w) A (call (.builtin "sorted") [.ref a]) Q E s := by
  obtain ⟨o, es, ep, t, ho, hex, hd, R, hf, hz, hr, hl⟩ := S
  have he : es.size < scanBound := by omega
  refine Calls.call_function_entry kind_sorted plain_sorted entry_sorted (args_sorted1 _) ?_; unfold Builtin.«sorted»
  refine wpAny_bind (m := checkCount "sorted" 1 1 _) (wpAny_pure (wpAny_bind (collect_set (A := A.in1) hh ⟨o, ho, hex.1, hd⟩ hf he hr hl fun s1 vs k1 z1 g1 o1 pm => ?_)))
  have hv : ∀ v ∈ vs, ∃ k, kd.is k v = true := fun v hv => by
    obtain ⟨e, h1, h2⟩ := List.mem_map.mp (pm.mem_iff.mp hv)
    obtain ⟨⟨k, h3, _⟩, _⟩ := R.els e h1
    exact ⟨k, by rw [← h2]; exact h3⟩
  have hvl : vs.length ≤ sizeLine := by
    rw [pm.length_eq, List.length_map, Array.length_toList]
    exact fits_of_scanBound he
  have pk : (vs.map rd).Perm (es.toList.map fun e => rd e.2) := by
    have z := pm.map rd
    rw [List.map_map] at z
    exact z
  have g2 : (s1.heap.push (seqObj "list" vs.toArray 0)).get? s1.heap.objs.size = some (seqObj "list" vs.toArray 0) := Heap.get?_push_size _ rfl
  refine wpAny_bind (wpAny_newList (wpAny_bind (wpAny_holding (wpAny_call_entry slot_list_sort ⟨_, g2, rfl⟩ entry_list_sort (hso g2 hvl hv fun out h1 h2 h3 => ⟨_, rfl, ?_⟩) (args_list_sort _)))) hvl)
  obtain ⟨c, hc⟩ := sortedHeap_at (vs := vs) (out := out) g2
  have p2 := h2.trans pk
  refine wpAny_pure ⟨_, rfl, q _ s1.heap.objs.size out c (fun b u e => ?_) g1 o1 z1 hc h1 h3 (p2.nodup_iff.mpr R.nd) fun k => p2.mem_iff.trans (R.mem k).symm⟩
  have e1 := k1 b u e
  have lt := Heap.lt_size e1
  exact (sortedHeap_old (Nat.ne_of_lt lt) (by rw [size_push']; exact Nat.lt_succ_of_lt lt)).trans (Heap.get?_push_of_some _ e1)
end
section
variable {P : Program} {w : World}
theorem rd_int : RdKey (PySem.intKind P w) L2.vInt := fun k v h => by
  obtain ⟨t, rfl⟩ := Value.isInt_shape h
  rfl
theorem rd_str : RdKey (PySem.strKind P w) strOf := fun k v h => by
  obtain ⟨t, rfl⟩ := Value.isStrOf_shape h
  rfl
theorem ints_rd : ∀ {vs : List Value}, (∀ v ∈ vs, ∃ k, (PySem.intKind P w).is k v = true) → IntsAre vs (vs.map L2.vInt)
  | [], _ => .nil
  | v :: vs, h => by
    obtain ⟨k, hk⟩ := h v List.mem_cons_self
    obtain ⟨t, rfl⟩ := Value.isInt_shape hk
    exact .cons k t (ints_rd (vs := vs) fun u hu => h u (List.mem_cons_of_mem _ hu))
theorem ints_back : ∀ {vs : List Value} {ns : List Int}, IntsAre vs ns → vs.map L2.vInt = ns ∧ ∀ v ∈ vs, ∃ k, (PySem.intKind P w).is k v = true
  | _, _, .nil => ⟨rfl, fun v h => by cases h⟩
  | _, _, .cons n t r => by
    obtain ⟨h1, h2⟩ := ints_back r
    refine ⟨congrArg (n :: ·) h1, fun v h => ?_⟩
    rcases List.mem_cons.mp h with e | e
    · exact ⟨n, by rw [e]; exact intKind_is P w n t⟩
    · exact h2 v e
theorem sorts_int : Sorts (PySem.intKind P w) L2.vInt fun ns => ns.Pairwise (· ≤ ·) := fun ho hl hv q => by
  refine list_sort_treeAny ho (ints_rd hv) hl fun out ns h1 h2 h3 => ?_
  obtain ⟨e, h4⟩ := ints_back (P := P) (w := w) h1
  exact q out h4 (by rw [e]; exact h2) (by rw [e]; exact h3)
theorem strs_rd : ∀ {vs : List Value}, (∀ v ∈ vs, ∃ k, (PySem.strKind P w).is k v = true) → StrsAre vs (vs.map strOf)
  | [], _ => .nil
  | v :: vs, h => by
    obtain ⟨k, hk⟩ := h v List.mem_cons_self
    obtain ⟨t, rfl⟩ := Value.isStrOf_shape hk
    exact .cons k t (strs_rd (vs := vs) fun u hu => h u (List.mem_cons_of_mem _ hu))
theorem strs_back : ∀ {vs : List Value} {ns : List Str}, StrsAre vs ns → ∀ v ∈ vs, ∃ k, (PySem.strKind P w).is k v = true
  | _, _, .nil, v, h => by cases h
  | _, _, .cons n t r, v, h => by
    rcases List.mem_cons.mp h with e | e
    · exact ⟨n, by rw [e]; exact strKind_is P w n t⟩
    · exact strs_back r v e
theorem sorts_str : Sorts (PySem.strKind P w) strOf fun ns => sortedS ns = true := fun ho hl hv q => by
  have hS := strs_rd hv
  refine list_sort_treeKAny strKind_oneLt ho hS.keysOf (fun v1 v2 rest e => keyKind_strs (by rw [← e]; exact hS)) hl fun st' hp hs => ?_
  obtain ⟨ss, h1, h2, h3⟩ := sorted_out_str hS hp hs
  have e := h1.strs
  exact q _ (strs_back h1) (by rw [e]; exact h2) (by rw [e]; exact h3)
end
/-- the values of keys -/
structure Vk {P : Program} {w : World} {T : Type} [DecidableEq T] (kd : PySem.KeyKind P w T) (rd : Value → T) (tv : T → V) : Prop where
  rd : RdKey kd rd
  of : ∀ k v, kd.is k v = true → RelV (tv k) v
  to : ∀ k v, RelV (tv k) v → kd.is k v = true ∧ v.scannable = true
theorem vk_int {P : Program} {w : World} : Vk (PySem.intKind P w) L2.vInt V.int := ⟨rd_int, fun k v h => by
    obtain ⟨t, rfl⟩ := Value.isInt_shape h
    exact ⟨t, rfl⟩, fun k v h => by
    obtain ⟨t, rfl⟩ := h
    exact ⟨intKind_is P w k t, rfl⟩⟩
theorem vk_str {P : Program} {w : World} : Vk (PySem.strKind P w) strOf V.str := ⟨rd_str, fun k v h => by
    obtain ⟨t, rfl⟩ := Value.isStrOf_shape h
    exact ⟨t, rfl⟩, fun k v h => by
    obtain ⟨t, rfl⟩ := h
    exact ⟨strKind_is P w k t, rfl⟩⟩
section
variable {P : Program} {w : World} {T : Type} [DecidableEq T] {kd : PySem.KeyKind P w T} {rd : Value → T} {tv : T → V} {ks : List T}
theorem vals_get : ∀ {ks : List T} {us : List Value}, Vals (ks.map tv) us → ∀ (i : Nat) (v : Value), us[i]? = some v → ∃ k, ks[i]? = some k ∧ RelV (tv k) v
  | [], _, .nil, i, v, h => by simp at h
  | k :: ks, _, .cons r t, 0, v, h => by
    rw [List.getElem?_cons_zero] at h
    cases h
    exact ⟨k, rfl, r⟩
  | k :: ks, _, .cons r t, i + 1, v, h => by
    rw [List.getElem?_cons_succ] at h
    exact vals_get t i v h
theorem vals_rd (hk : Vk kd rd tv) : ∀ {us : List Value}, (∀ v ∈ us, ∃ k, kd.is k v = true) → Vals ((us.map rd).map tv) us
  | [], _ => .nil
  | v :: us, h => by
    obtain ⟨k, z⟩ := h v List.mem_cons_self
    refine .cons ?_ (vals_rd hk fun u hu => h u (List.mem_cons_of_mem _ hu))
    rw [hk.rd k v z]
    exact hk.of k v z
def SetKO (kd : PySem.KeyKind P w T) (rd : Value → T) (a : Addr) (ks : List T) : HO := .ext fun h => SetK kd rd h a ks
theorem setKO_new {H : Hp} {h : Heap} {a : Addr} (S : SetK kd rd h a ks) : ObjOk P w H h a (SetKO kd rd a ks) := by
  have ⟨o, es, ep, t, ho, _⟩ := S
  exact ⟨S, ⟨o, ho⟩, fun h1 h2 p k => SetK.at p k⟩
end
section
variable {X : Cx} {T : Type} [DecidableEq T] {kd : PySem.KeyKind X.prog X.w T} {rd : Value → T} {tv : T → V} {sr : List T → Prop}
/-- set(xs) of a list -/
def rSetK (K : PySem.W.Frag) (kd : PySem.KeyKind X.prog X.w T) (rd : Value → T) (tv : T → V) : List V → Hp → VK → Prop := fun xs H Q => ∃ (l : Addr) (ks : List T), xs = [V.ref l] ∧ SqL K H l (ks.map tv) ∧ ks.length ≤ 4000 ∧ ∀ a, H a = none → Q (.ref a) (upd H a (SetKO kd rd a ks))
theorem cr_setK (hk : Vk kd rd tv) (hc : X.calm = true) : CallR X (.type "set") (rSetK X.K kd rd tv) := by
  intro pins s σ H xs us Q I r h
  obtain ⟨l, ks, rfl, hl, hn, q⟩ := h
  rw [Vals.ref1 r]
  obtain ⟨its, rv, pl, hz⟩ := I.list hl
  have hf : H s.heap.objs.size = none := I.hok.fresh (Nat.le_refl _)
  have hsz : its.length = ks.length := by
    have z := rv.length
    rw [List.length_map] at z
    exact z.symm
  refine SetK.init hk.rd (I.ok.hd hc) pl.isList (by rw [List.size_toArray]; exact hsz) (by show ks.length + 1 < 4096; omega) (fun i v hv => ?_) fun h' tk S kp => ?_
  · obtain ⟨k, h1, h2⟩ := vals_get rv i v (by simpa using hv)
    exact ⟨k, h1, hk.to k v h2⟩
  · exact ⟨.ref s.heap.objs.size, upd H s.heap.objs.size (SetKO kd rd s.heap.objs.size ks), I.laid (t' := tk) kp (Nat.le_refl _) (setKO_new S), rfl, q _ hf⟩
/-- sorted of such a set -/
def rSortK (kd : PySem.KeyKind X.prog X.w T) (rd : Value → T) (tv : T → V) (sr : List T → Prop) : List V → Hp → VK → Prop := fun xs H Q => ∃ (a : Addr) (ks : List T), xs = [V.ref a] ∧ H a = some (SetKO kd rd a ks) ∧ ks.length ≤ 4000 ∧ ∀ (ds : List T) (p : Addr), sr ds → ds.Nodup → (∀ k, k ∈ ds ↔ k ∈ ks) → H p = none → Q (.ref p) (upd H p (.lst (ds.map tv)))
theorem nodup_len {ks : List T} : ∀ {ds : List T}, ds.Nodup → (∀ k ∈ ds, k ∈ ks) → ds.length ≤ ks.length := fun h1 h2 => List.Nodup.length_le_of_subset h1 h2
theorem cr_sortK (hk : Vk kd rd tv) (hso : Sorts kd rd sr) (hc : X.calm = true) : CallR X (.builtin "sorted") (rSortK kd rd tv sr) := by
  intro pins s σ H xs us Q I r h
  obtain ⟨a, ks, rfl, ha, hn, q⟩ := h
  have S : SetK kd rd s.heap a ks := (I.hok a _ ha).1
  rw [Vals.ref1 r]
  refine SetK.sorted hso S (by show ks.length < 4096; omega) (I.ok.hd hc) fun s' p out c kp g o hp hg h1 h2 h3 h4 => ?_
  have hl : ((out.toList.map rd).map tv).length ≤ sizeLine := by
    rw [List.length_map, sizeLine_eq]
    have := nodup_len h3 fun k z => (h4 k).mp z
    omega
  have hf : H p = none := I.hok.fresh hp
  have J : Inv X pins σ (upd H p (.lst ((out.toList.map rd).map tv))) { s with heap := s'.heap, gens := s'.gens, drawn := s'.drawn, toks := s'.toks } :=
    I.call (ch := []) (Un.laid kp hp hf) (I.hok.laid kp hp ⟨hl, out.toList, c, vals_rd hk h1, hg⟩) (by rw [g]; exact I.bare) (fun _ z => nomatch z)
  obtain ⟨h9, g9, d9, t9, o9⟩ := s'
  cases o
  exact ⟨.ref p, _, J, rfl, q _ p h2 h3 h4 hf⟩
variable {ta : TE} {a : Expr} {p p2 q pos : Pos}
/-- sorted(set(x)), x a list -/
def SrtSet (K : PySem.W.Frag) (kd : PySem.KeyKind X.prog X.w T) (rd : Value → T) (tv : T → V) (sr : List T → Prop) (x : V) (H : Hp) (Q : VK) : Prop := rSetK K kd rd tv [x] H fun y H2 => rSortK kd rd tv sr [y] H2 Q
def tSortSet (K : PySem.W.Frag) (kd : PySem.KeyKind X.prog X.w T) (rd : Value → T) (tv : T → V) (sr : List T → Prop) (ta : TE) : TE := fun σ H Q => ta σ H fun x H1 => SrtSet K kd rd tv sr x H1 Q
theorem SrtSet.mk {K : PySem.W.Frag} {H : Hp} {Q : VK} {l : Addr} {ks : List T} (hl : SqL K H l (ks.map tv)) (hn : ks.length ≤ 4000)
    (q : ∀ (ds : List T) (p : Addr) (H2 : Hp), sr ds → ds.Nodup → (∀ k, k ∈ ds ↔ k ∈ ks) → H p = none → Kept H H2 → H2 p = some (.lst (ds.map tv)) → Q (.ref p) H2) : SrtSet K kd rd tv sr (.ref l) H Q :=
  ⟨l, ks, rfl, hl, hn, fun a ha => ⟨a, ks, rfl, upd_same, hn, fun ds p h1 h2 h3 h4 => by
    have k1 := Kept.new (o := SetKO kd rd a ks) ha
    have hp : H p = none := by
      by_cases e : p = a
      · rw [e]; exact ha
      · rw [upd_ne e] at h4; exact h4
    exact q ds p _ h1 h2 h3 hp (k1.trans (Kept.new h4)) upd_same⟩⟩
theorem pe_sortSet (hk : Vk kd rd tv) (hso : Sorts kd rd sr) (hc : X.calm = true) (hg : Gl X "sorted") (hm : X.mg "sorted" = none) (hg2 : Gl X "set") (hm2 : X.mg "set" = none) (ha : PE X a ta) (hs : starEach [a] X.env = (false, eval a X.env) :: starEach [] X.env) :
    PE X (.Call (.Name "sorted" p) [.Call (.Name "set" p2) [a] [] q] [] pos) (tSortSet X.K kd rd tv sr ta) :=
  pe_callB (p := p) (pos := pos) (cr_sortK hk hso hc) hg hm boot_sorted (pa_cons (pe_callTy (p := p2) (pos := q) (cr_setK hk hc) hg2 hm2 PyProof.Rows.boot_set (pa_cons ha pa_nil hs) (he := hs)) pa_nil)
/-- of ints -/
theorem pe_setInts {K : PySem.W.Frag} (hK : X.K = K) (hc : X.calm = true) (hg : Gl X "sorted") (hm : X.mg "sorted" = none) (hg2 : Gl X "set") (hm2 : X.mg "set" = none) (ha : PE X a ta) (hs : starEach [a] X.env = (false, eval a X.env) :: starEach [] X.env) :
    PE X (.Call (.Name "sorted" p) [.Call (.Name "set" p2) [a] [] q] [] pos) (tSortSet K (PySem.intKind X.prog X.w) L2.vInt V.int (fun ns => ns.Pairwise (· ≤ ·)) ta) := by
  subst hK
  exact pe_sortSet vk_int sorts_int hc hg hm hg2 hm2 ha hs
/-- of texts -/
theorem pe_setStrs {K : PySem.W.Frag} (hK : X.K = K) (hc : X.calm = true) (hg : Gl X "sorted") (hm : X.mg "sorted" = none) (hg2 : Gl X "set") (hm2 : X.mg "set" = none) (ha : PE X a ta) (hs : starEach [a] X.env = (false, eval a X.env) :: starEach [] X.env) :
    PE X (.Call (.Name "sorted" p) [.Call (.Name "set" p2) [a] [] q] [] pos) (tSortSet K (PySem.strKind X.prog X.w) strOf V.str (fun ns => sortedS ns = true) ta) := by
  subst hK
  exact pe_sortSet vk_str sorts_str hc hg hm hg2 hm2 ha hs
end
/-! ### ascending lists of the same members are the same -/
theorem perm_mem {T : Type} [DecidableEq T] {xs ys : List T} (h1 : xs.Nodup) (h2 : ys.Nodup) (h : ∀ k, k ∈ xs ↔ k ∈ ys) : xs.Perm ys := by
  refine List.perm_iff_count.mpr fun k => ?_
  rw [h1.count, h2.count]
  by_cases e : k ∈ xs
  · rw [if_pos e, if_pos ((h k).mp e)]
  · rw [if_neg e, if_neg fun z => e ((h k).mpr z)]
theorem str_ext {x y : Str} (h : x.cps.toList = y.cps.toList) : x = y := by
  obtain ⟨a⟩ := x
  obtain ⟨b⟩ := y
  have e : a = b := Array.toList_inj.mp h
  rw [e]
theorem rising_all : ∀ (l : List Str) (p : Str), risingS p l = true → (∀ x ∈ l, ¬ x.cps.toList < p.cps.toList) ∧ l.Pairwise fun a b => ¬ b.cps.toList < a.cps.toList
  | [], p, _ => ⟨fun x h => (by cases h), List.Pairwise.nil⟩
  | y :: l, p, h => by
    have h : (!ltCps y.cps.toList p.cps.toList && risingS y l) = true := h
    rw [Bool.and_eq_true, ltCps_eq] at h
    have h1 : ¬ y.cps.toList < p.cps.toList := by simpa using h.1
    obtain ⟨g1, g2⟩ := rising_all l y h.2
    refine ⟨fun x hx => ?_, List.pairwise_cons.mpr ⟨g1, g2⟩⟩
    rcases List.mem_cons.mp hx with e | e
    · rw [e]; exact h1
    · intro z
      have a1 : p.cps.toList ≤ y.cps.toList := List.not_lt.mp h1
      have a2 : y.cps.toList ≤ x.cps.toList := List.not_lt.mp (g1 x e)
      exact List.not_lt.mpr (List.le_trans a1 a2) z
theorem sortedS_pair {l : List Str} (h : sortedS l = true) : l.Pairwise fun a b => ¬ b.cps.toList < a.cps.toList := by
  cases l with
  | nil => exact List.Pairwise.nil
  | cons x l => exact List.pairwise_cons.mpr (rising_all l x h)
theorem strs_srt {xs ds : List Str} (h1 : sortedS xs = true) (h2 : xs.Nodup) (h3 : ds.Nodup) (h : ∀ k, k ∈ xs ↔ k ∈ ds) : xs = srtBy PyData.str ds := by
  refine List.Perm.eq_of_pairwise (le := fun a b : Str => ¬ b.cps.toList < a.cps.toList) (fun a b _ _ u v => str_ext (List.le_antisymm (List.not_lt.mp u) (List.not_lt.mp v))) (sortedS_pair h1) ?_ ((perm_mem h2 h3 h).trans (srtBy_perm _ _).symm)
  refine (srtBy_pair PyData.str ds).imp fun {a b} z => ?_
  have z : (!PySem.W.dataLt (.str b) (.str a)) = true := z
  rw [PySem.W.dataLt_str] at z
  simpa using z
theorem ints_lt {ns : List Int} (h : ns.Pairwise (· ≤ ·)) (h2 : ns.Nodup) : ns.Pairwise (· < ·) := lt_of_le_nodup ns h h2
end Ky

namespace Ky
open PySem PySem.Spec PyProof.Rows L2
def topS (i : Nat) : Stmt := PySem.Challenge.pw_countsworn_k33_nodes_that_are_reached.main.body.getD i (.Pass ⟨0, 0, 0, 0⟩)
abbrev s_children_of : Stmt := topS 1
abbrev n_children_of : List Str := ["rule", "word"]
theorem sc_children_of : FnScope n_children_of ["rule"] (defScope s_children_of) := ⟨rfl, rfl, rfl, by decide +kernel, rfl, by decide +kernel, by decide +kernel⟩
abbrev s_renumbered : Stmt := topS 2
abbrev n_renumbered : List Str := ["rule", "numbers", "word", "child"]
theorem sc_renumbered : FnScope n_renumbered ["rule", "numbers"] (defScope s_renumbered) := ⟨rfl, rfl, rfl, by decide +kernel, rfl, by decide +kernel, by decide +kernel⟩
abbrev s_reached : Stmt := topS 3
abbrev n_reached : List Str := ["sheet", "nodes", "found", "number", "child"]
theorem sc_reached : FnScope n_reached ["sheet"] (defScope s_reached) := ⟨rfl, rfl, rfl, by decide +kernel, rfl, by decide +kernel, by decide +kernel⟩
abbrev s_words_of : Stmt := topS 4
abbrev n_words_of : List Str := ["sheet", "nodes", "number"]
theorem sc_words_of : FnScope n_words_of ["sheet"] (defScope s_words_of) := ⟨rfl, rfl, rfl, by decide +kernel, rfl, by decide +kernel, by decide +kernel⟩
abbrev s_is_open : Stmt := topS 5
abbrev n_is_open : List Str := ["sheet"]
theorem sc_is_open : FnScope n_is_open ["sheet"] (defScope s_is_open) := ⟨rfl, rfl, rfl, by decide +kernel, rfl, by decide +kernel, by decide +kernel⟩
abbrev s_tally : Stmt := topS 6
abbrev n_tally : List Str := ["sheet", "counts", "word"]
theorem sc_tally : FnScope n_tally ["sheet"] (defScope s_tally) := ⟨rfl, rfl, rfl, by decide +kernel, rfl, by decide +kernel, by decide +kernel⟩
abbrev s_trimmed : Stmt := topS 7
abbrev n_trimmed : List Str := ["sheet", "formula", "nodes", "numbers", "number", "kept"]
theorem sc_trimmed : FnScope n_trimmed ["sheet"] (defScope s_trimmed) := ⟨rfl, rfl, rfl, by decide +kernel, rfl, by decide +kernel, by decide +kernel⟩
abbrev s_law : Stmt := topS 13
abbrev n_law : List Str := ["script", "draw", "nodes", "rows", "number", "rule", "children", "formula", "sheet", "found", "child", "words", "answer", "word", "numbers", "k", "due"]
theorem sc_law : FnScope n_law ["script"] (defScope s_law) := ⟨rfl, rfl, rfl, by decide +kernel, rfl, by decide +kernel, by decide +kernel⟩
abbrev s_l_draw : Stmt := topS 9
abbrev n_l_draw : List Str := ["script", "seed", "cell"]
theorem sc_l_draw : FnScope n_l_draw ["script"] (defScope s_l_draw) := ⟨rfl, rfl, rfl, by decide +kernel, rfl, by decide +kernel, by decide +kernel⟩
abbrev s_l_take : Stmt := topS 10
abbrev n_l_take : List Str := ["draw", "many", "found"]
theorem sc_l_take : FnScope n_l_take ["draw", "many"] (defScope s_l_take) := ⟨rfl, rfl, rfl, by decide +kernel, rfl, by decide +kernel, by decide +kernel⟩
abbrev s_l_rule : Stmt := topS 11
abbrev n_l_rule : List Str := ["draw", "below", "k", "a", "b", "row", "j"]
theorem sc_l_rule : FnScope n_l_rule ["draw", "below"] (defScope s_l_rule) := ⟨rfl, rfl, rfl, by decide +kernel, rfl, by decide +kernel, by decide +kernel⟩
abbrev s_l_renamed : Stmt := topS 12
abbrev n_l_renamed : List Str := ["rule", "children", "numbers", "new", "child"]
theorem sc_l_renamed : FnScope n_l_renamed ["rule", "children", "numbers"] (defScope s_l_renamed) := ⟨rfl, rfl, rfl, by decide +kernel, rfl, by decide +kernel, by decide +kernel⟩
end Ky

namespace Ky
open PySem PySem.Spec PyProof.Rows L2
local macro_rules | `(tactic| walk_at "rd") => `(tactic| repeat (first
  | with_reducible refine w_for1 ?_
  | with_reducible refine w_for2 ?_
  | with_reducible refine w_forL ?_
  | with_reducible refine w_forT ?_
  | with_reducible refine w_lc1 ?_
  | with_reducible refine w_lcL ?_
  | with_reducible refine w_lcT ?_
  | with_reducible refine w_seq ?_
  | with_reducible refine w_asg ?_
  | with_reducible refine w_ret ?_
  | with_reducible refine w_drop ?_
  | with_reducible refine w_ifs ?_
  | ((with_reducible refine' w_var ?hh ?_); (case hh => exact rfl))
  | with_reducible refine w_c ?_
  | with_reducible refine w_op ?_
  | with_reducible refine w_un ?_
  | with_reducible refine w_I0 ?_
  | with_reducible refine w_U ?_
  | with_reducible refine w_nil ?_
  | with_reducible refine w_cons ?_
  | with_reducible refine w_call ?_
  | with_reducible refine w_cb ?_
  | with_reducible refine w_test ?_
  | with_reducible refine w_B ?_
  | with_reducible refine w_bl ?_
  | with_reducible refine w_and ?_
  | with_reducible refine w_or ?_
  | with_reducible refine w_not ?_
  | with_reducible refine w_ife ?_
  | with_reducible refine w_gRd ?_
  | with_reducible refine w_andV ?_
  | with_reducible refine w_orV ?_
  | with_reducible refine w_notV ?_
  | with_reducible refine w_chain ?_
  | with_reducible refine w_din ?_
  | with_reducible refine w_isi_ii ?_
  | with_reducible refine w_isi_bi ?_
  | with_reducible refine w_isi_bb ?_
  | with_reducible refine w_isi_bt ?_
  | with_reducible refine w_isi_si ?_
  | with_reducible refine w_isi_nt ?_
  | with_reducible refine w_isi_ib ?_
  | with_reducible refine w_isi_it ?_
  | with_reducible refine w_isi_st ?_
  | ((with_reducible refine w_isi_tt ?h1 ?_); (case h1 => first | assumption | exact upd_same))
  | with_reducible refine if_t rfl ?_
  | with_reducible refine if_f rfl ?_
  | with_reducible refine w_tup ?_
  | with_reducible refine w_lst ?_
  | with_reducible refine w_next ?_
  | with_reducible refine w_bm ?_
  | with_reducible refine w_sl ?_
  | with_reducible refine w_part ?_
  | with_reducible refine w_nop ?_
  | with_reducible refine w_isI ?_
  | with_reducible refine w_yes ?_
  | with_reducible refine w_gn ?_
  | with_reducible refine w_gsub ?_
  | ((with_reducible refine' w_setL ?h1 ?h2 ?_); (case h1 => first | assumption | exact upd_same); (case h2 => exact rfl))
  | with_reducible refine w_asgG ?_
  | with_reducible refine w_m1 ?_
  | with_reducible refine w_isS ?_
  | with_reducible refine w_tyS ?_
  | ((with_reducible refine' w_tyL ?h1 ?_); (case h1 => first | assumption | exact upd_same))
  | ((with_reducible refine' w_ixT ?h1 ?h2 ?_); (case h1 => first | assumption | exact upd_same); (case h2 => exact rfl))
  | ((with_reducible refine' w_ixL ?h1 ?h2 ?_); (case h1 => first | assumption | exact upd_same); (case h2 => exact rfl))
  | ((with_reducible refine w_eq ?h1 ?_); (case h1 => exact rfl))
  | ((with_reducible refine w_ne ?h1 ?_); (case h1 => exact rfl))
  | dsimp only [List.set_cons_zero, List.set_cons_succ, List.append_nil, List.cons_append, List.nil_append, cxOf]))

structure Tx (K : PySem.W.Frag) (mg : Str → Option Value) (uG : Value) : Prop where
  z_isinstance : mg "isinstance" = none
  z_int : mg "int" = none
  z_bool : mg "bool" = none
  z_tuple : mg "tuple" = none
  z_abs : mg "abs" = none
  z_len : mg "len" = none
  z_list : mg "list" = none
  z_range : mg "range" = none
  z_sorted : mg "sorted" = none
  z_max : mg "max" = none
  z_set : mg "set" = none
  z_reversed : mg "reversed" = none
/-! ### rules, as the law draws them -/
inductive Ru where
  | yes
  | no
  | opn
  | refuted
  | som
  | unit (a : Int)
  | choice (a b : Int)
  | parts (row : List Int)
  | more (a : Int)
  | less (a : Int)
deriving DecidableEq
def Ru.w : Ru → Str
  | .yes => Str.ofString "yes"
  | .no => Str.ofString "no"
  | .opn => Str.ofString "open"
  | .refuted => Str.ofString "refuted"
  | .som => Str.ofString "some"
  | .unit _ => Str.ofString "unit"
  | .choice _ _ => Str.ofString "choice"
  | .parts _ => Str.ofString "parts"
  | .more _ => Str.ofString "more"
  | .less _ => Str.ofString "less"
def Ru.ch : Ru → List Int
  | .unit a => [a]
  | .choice a b => [a, b]
  | .parts r => r
  | .more a => [a]
  | .less a => [a]
  | _ => []
def Ru.map (f : Int → Int) : Ru → Ru
  | .unit a => .unit (f a)
  | .choice a b => .choice (f a) (f b)
  | .parts r => .parts (r.map f)
  | .more a => .more (f a)
  | .less a => .less (f a)
  | r => r
def RuAt (H : Hp) (p : Addr) : Ru → Prop
  | .yes => H p = some (.tup [.str (Str.ofString "yes")])
  | .no => H p = some (.tup [.str (Str.ofString "no")])
  | .opn => H p = some (.tup [.str (Str.ofString "open")])
  | .refuted => ∃ r e, H p = some (.tup [.str (Str.ofString "refuted"), .ref r]) ∧ H r = some (.tup [.ref e]) ∧ H e = some (.tup [])
  | .som => ∃ r, H p = some (.tup [.str (Str.ofString "some"), .ref r]) ∧ H r = some (.tup [.int (-3), .int 4])
  | .unit a => H p = some (.tup [.str (Str.ofString "unit"), .int (-7), .int a])
  | .choice a b => H p = some (.tup [.str (Str.ofString "choice"), .int 5, .int a, .int b])
  | .parts row => ∃ r, H p = some (.tup [.str (Str.ofString "parts"), .ref r]) ∧ H r = some (.tup (row.map V.int))
  | .more a => ∃ r, H p = some (.tup [.str (Str.ofString "more"), .ref r, .int a]) ∧ H r = some (.tup [.int 1, .int 2])
  | .less a => H p = some (.tup [.str (Str.ofString "less"), .int a])
theorem RuAt.mono {H H' : Hp} {p : Addr} {r : Ru} (h : RuAt H p r) (k : ∀ b xs, H b = some (.tup xs) → H' b = some (.tup xs)) : RuAt H' p r := by
  cases r with
  | refuted =>
    obtain ⟨a, e, h1, h2, h3⟩ := h
    exact ⟨a, e, k _ _ h1, k _ _ h2, k _ _ h3⟩
  | som =>
    obtain ⟨a, h1, h2⟩ := h
    exact ⟨a, k _ _ h1, k _ _ h2⟩
  | parts row =>
    obtain ⟨a, h1, h2⟩ := h
    exact ⟨a, k _ _ h1, k _ _ h2⟩
  | more a =>
    obtain ⟨r, h1, h2⟩ := h
    exact ⟨r, k _ _ h1, k _ _ h2⟩
  | yes => exact k _ _ h
  | no => exact k _ _ h
  | opn => exact k _ _ h
  | unit a => exact k _ _ h
  | choice a b => exact k _ _ h
  | less a => exact k _ _ h
theorem RuAt.kept {H H' : Hp} {p : Addr} {r : Ru} (h : RuAt H p r) (k : Kept H H') : RuAt H' p r := h.mono fun _ _ h => k.tup h
theorem RuAt.keptC {d c : Addr} {H H' : Hp} {p : Addr} {r : Ru} (h : RuAt H p r) (k : KeptC d c H H') (hd : DrwC d c H) : RuAt H' p r := h.mono fun _ _ h => k.tup hd h
theorem RuAt.head {H : Hp} {p : Addr} {r : Ru} (h : RuAt H p r) : ∃ xs, H p = some (.tup (.str r.w :: xs)) := by
  cases r with
  | refuted =>
    obtain ⟨a, e, h1, h2, h3⟩ := h
    exact ⟨_, h1⟩
  | som =>
    obtain ⟨a, h1, h2⟩ := h
    exact ⟨_, h1⟩
  | parts row =>
    obtain ⟨a, h1, h2⟩ := h
    exact ⟨_, h1⟩
  | more a =>
    obtain ⟨r, h1, h2⟩ := h
    exact ⟨_, h1⟩
  | yes => exact ⟨_, h⟩
  | no => exact ⟨_, h⟩
  | opn => exact ⟨_, h⟩
  | unit a => exact ⟨_, h⟩
  | choice a b => exact ⟨_, h⟩
  | less a => exact ⟨_, h⟩
def spCh : Sp := fun vs H Q _ => ∃ (p : Addr) (r : Ru), vs = [.ref p] ∧ RuAt H p r ∧ ∀ q H', Kept H H' → H' q = some (.tup (r.ch.map V.int)) → Q (.ref q) H'
theorem w_eqs {K : PySem.W.Frag} {a b : Str} {H : Hp} {Q : VK} (c : Bool) (h : decide (a = b) = c) (q : Q (.bl c) H) : rEq (.str a) (.str b) H Q := by
  refine ⟨rfl, ?_⟩
  have e : decide (V.str a = V.str b) = c := by
    rw [← h]
    exact decide_eq_decide.mpr ⟨V.str.inj, congrArg V.str⟩
  rw [e]
  exact q
section
variable {P : Program} {w : World} {K : PySem.W.Frag} {mg : Str → Option Value} {base : Heap} {uG : Value} {f : Addr} {fd : FuncData}
theorem ok_children_of (F : Fun K "children_of" "children_of" s_children_of f fd) (T : Tx K mg uG) : FnOk P w K mg base CX0 1 f fd ["rule"] spCh := by
  refine F.ok sc_children_of (fun vs H Q E h => ?_) (fun cdv A outer s H vs Q E hr h => ?_)
  · obtain ⟨p, r, rfl, _⟩ := h
    rfl
  · obtain ⟨p, r, rfl, hr0, k⟩ := h
    refine ⟨_, (pss_cons (ps_set (i := 1) sc_children_of.nd rfl (.inl rfl) (pe_ix (ix_tupK (K := K) rfl) (pv 0) pe_int (fun _ _ => rfl)))
    (pss_cons (ps_if (PW.pt (pw_or (pt_cmpR op_eq (pv 1) pe_str (nomark _)) (pw_or1 (pt_cmpR op_eq (pv 1) pe_str (nomark _)))))
      (pss_one (ps_ret (pe_tup (pa_cons (pe_ix (ix_tupK (K := K) rfl) (pv 0) pe_int (fun _ _ => rfl)) pa_nil))))
      pss_nil)
    (pss_cons (ps_if (pt_cmpR op_eq (pv 1) pe_str (nomark _))
      (pss_one (ps_ret (pe_tup (pa_cons (pe_ix (ix_tupK (K := K) rfl) (pv 0) pe_int (fun _ _ => rfl)) (pa_cons (pe_ix (ix_tupK (K := K) rfl) (pv 0) pe_int (fun _ _ => rfl)) pa_nil)))))
      pss_nil)
    (pss_cons (ps_if (pt_cmpR op_eq (pv 1) pe_str (nomark _))
      (pss_one (ps_ret (pe_callTy call_tuple_of (by rfl) T.z_tuple (by decide +kernel) (pa_cons (pe_ix (ix_tupK (K := K) rfl) (pv 0) pe_int (fun _ _ => rfl)) pa_nil))))
      pss_nil)
    (pss_cons (ps_if (pt_cmpR op_eq (pv 1) pe_str (nomark _))
      (pss_one (ps_ret (pe_tup (pa_cons (pe_ix (ix_tupK (K := K) rfl) (pv 0) pe_int (fun _ _ => rfl)) pa_nil))))
      pss_nil)
    (pss_one (ps_ret (pe_tup pa_nil)))))))), ?_⟩
    rw [show start n_children_of [(.ref p : V)] = ([some (.ref p), none] : List (Option V)) from rfl]
    cases r with
    | yes =>
      have hp : H p = some (.tup [.str (Str.ofString "yes")]) := hr0
      walk_at "rd"
      exact ⟨Nat.zero_le _, fun q hq => k q _ (Kept.new hq) upd_same⟩
    | no =>
      have hp : H p = some (.tup [.str (Str.ofString "no")]) := hr0
      walk_at "rd"
      exact ⟨Nat.zero_le _, fun q hq => k q _ (Kept.new hq) upd_same⟩
    | opn =>
      have hp : H p = some (.tup [.str (Str.ofString "open")]) := hr0
      walk_at "rd"
      exact ⟨Nat.zero_le _, fun q hq => k q _ (Kept.new hq) upd_same⟩
    | refuted =>
      obtain ⟨a, e, hp, _, _⟩ := hr0
      walk_at "rd"
      exact ⟨Nat.zero_le _, fun q hq => k q _ (Kept.new hq) upd_same⟩
    | som =>
      obtain ⟨a, hp, _⟩ := hr0
      walk_at "rd"
      exact ⟨Nat.zero_le _, fun q hq => k q _ (Kept.new hq) upd_same⟩
    | unit a =>
      have hp : H p = some (.tup [.str (Str.ofString "unit"), .int (-7), .int a]) := hr0
      walk_at "rd"
      exact ⟨by show 1 ≤ sizeLine; decide, fun q hq => k q _ (Kept.new hq) upd_same⟩
    | choice a b =>
      have hp : H p = some (.tup [.str (Str.ofString "choice"), .int 5, .int a, .int b]) := hr0
      walk_at "rd"
      exact ⟨by show 2 ≤ sizeLine; decide, fun q hq => k q _ (Kept.new hq) upd_same⟩
    | parts row =>
      obtain ⟨r, hp, h2⟩ := hr0
      walk_at "rd"
      exact ⟨r, _, rfl, .inr ⟨SqT.of h2, k r H (Kept.refl _) h2⟩⟩
    | more a =>
      obtain ⟨r, hp, h2⟩ := hr0
      walk_at "rd"
      exact ⟨by show 1 ≤ sizeLine; decide, fun q hq => k q _ (Kept.new hq) upd_same⟩
    | less a =>
      have hp : H p = some (.tup [.str (Str.ofString "less"), .int a]) := hr0
      walk_at "rd"
      exact ⟨by show 1 ≤ sizeLine; decide, fun q hq => k q _ (Kept.new hq) upd_same⟩
def spRen : Sp := fun vs H Q _ => ∃ (p d : Addr) (r : Ru) (kvs : List (L2.Key × V)) (f : Int → Int), vs = [.ref p, .ref d] ∧ RuAt H p r ∧ Rd H d (.dK kvs) ∧ (∀ c ∈ r.ch, valV kvs (.inl c) = some (.int (f c))) ∧ r.ch.length ≤ 100 ∧ ∀ q H', Kept H H' → RuAt H' q (r.map f) → Q (.ref q) H'
theorem dget_of {H : Hp} {d : Addr} {kvs : List (L2.Key × V)} {c : Int} {v : V} (h : Rd H d (.dK kvs)) (e : valV kvs (.inl c) = some v) : DGet H d (.int c) (some v) := by
  have q : DGet H d (.int c) (valV kvs (.inl c)) := .inl ⟨kvs, .inl c, h, rfl, rfl⟩
  rw [e] at q
  exact q
theorem Rd.kept {H H' : Hp} {d : Addr} {kvs : List (L2.Key × V)} (h : Rd H d (.dK kvs)) (k : Kept H H') : Rd H' d (.dK kvs) := by
  rcases h with h | ⟨o, h⟩
  · exact .inl (k.keep _ _ (fun _ z => by cases z) h)
  · exact .inr ⟨o, k.keep _ _ (fun _ z => by cases z) h⟩
theorem ok_renumbered (F : Fun K "renumbered" "renumbered" s_renumbered f fd) (T : Tx K mg uG) : FnOk P w K mg base CX0 1 f fd ["rule", "numbers"] spRen := by
  refine F.ok sc_renumbered (fun vs H Q E h => ?_) (fun cdv A outer s H vs Q E hr h => ?_)
  · obtain ⟨p, d, r, kvs, g, rfl, _⟩ := h
    rfl
  · obtain ⟨p, d, r, kvs, g, rfl, hr0, hd, hc, hl, k⟩ := h
    refine ⟨_, (pss_cons (ps_set (i := 2) sc_renumbered.nd rfl (.inl rfl) (pe_ix (ix_tupK (K := K) rfl) (pv 0) pe_int (fun _ _ => rfl)))
    (pss_cons (ps_if (PW.pt (pw_or (pt_cmpR op_eq (pv 2) pe_str (nomark _)) (pw_or1 (pt_cmpR op_eq (pv 2) pe_str (nomark _)))))
      (pss_one (ps_ret (pe_tup (pa_cons (pv 2) (pa_cons (pe_ix (ix_tupK (K := K) rfl) (pv 0) pe_int (fun _ _ => rfl)) (pa_cons (pe_dget hr.u1 (pv 1) (pe_ix (ix_tupK (K := K) rfl) (pv 0) pe_int (fun _ _ => rfl)) (fun _ _ => rfl)) pa_nil))))))
      pss_nil)
    (pss_cons (ps_if (pt_cmpR op_eq (pv 2) pe_str (nomark _))
      (pss_one (ps_ret (pe_tup (pa_cons (pv 2) (pa_cons (pe_ix (ix_tupK (K := K) rfl) (pv 0) pe_int (fun _ _ => rfl)) (pa_cons (pe_dget hr.u1 (pv 1) (pe_ix (ix_tupK (K := K) rfl) (pv 0) pe_int (fun _ _ => rfl)) (fun _ _ => rfl)) (pa_cons (pe_dget hr.u1 (pv 1) (pe_ix (ix_tupK (K := K) rfl) (pv 0) pe_int (fun _ _ => rfl)) (fun _ _ => rfl)) pa_nil)))))))
      pss_nil)
    (pss_cons (ps_if (pt_cmpR op_eq (pv 2) pe_str (nomark _))
      (pss_one (ps_ret (pe_tup (pa_cons (pv 2) (pa_cons (pe_callTy call_tuple_of (by rfl) T.z_tuple (by decide +kernel) (pa_cons (pe_lc (own := [("child", 3)]) (g := gName 3) (by rfl) sc_renumbered.nd (pi_tupK (K := K) rfl (pe_ix (ix_tupK (K := K) rfl) (pv 0) pe_int (fun _ _ => rfl))) (blkOk_by (own := [("child", 3)]) (N := n_renumbered) (sc := defScope s_renumbered) (by decide +kernel)) (fun _ _ _ _ _ => pg_name (i := 3) sc_renumbered.nd rfl (Or.inl rfl)) (fun _ _ _ _ _ => pts_nil) (fun _ _ _ _ _ => (pe_dget hr.u1 (pv 1) (pv 3) (fun _ _ => rfl)))) pa_nil)) pa_nil)))))
      pss_nil)
    (pss_cons (ps_if (pt_cmpR op_eq (pv 2) pe_str (nomark _))
      (pss_one (ps_ret (pe_tup (pa_cons (pv 2) (pa_cons (pe_dget hr.u1 (pv 1) (pe_ix (ix_tupK (K := K) rfl) (pv 0) pe_int (fun _ _ => rfl)) (fun _ _ => rfl)) pa_nil)))))
      pss_nil)
    (pss_one (ps_ret (pv 0)))))))), ?_⟩
    rw [show start n_renumbered [(.ref p : V), (.ref d : V)] = ([some (.ref p), some (.ref d), none, none] : List (Option V)) from rfl]
    have hz : 1001 ≤ sizeLine := by decide
    cases r with
    | yes =>
      have hp : H p = some (.tup [.str (Str.ofString "yes")]) := hr0
      walk_at "rd"
      exact k p H (Kept.refl _) hr0
    | no =>
      have hp : H p = some (.tup [.str (Str.ofString "no")]) := hr0
      walk_at "rd"
      exact k p H (Kept.refl _) hr0
    | opn =>
      have hp : H p = some (.tup [.str (Str.ofString "open")]) := hr0
      walk_at "rd"
      exact k p H (Kept.refl _) hr0
    | refuted =>
      have hr1 := hr0
      obtain ⟨a, e, hp, _, _⟩ := hr1
      walk_at "rd"
      exact k p H (Kept.refl _) hr0
    | som =>
      have hr1 := hr0
      obtain ⟨a, hp, _⟩ := hr1
      walk_at "rd"
      exact k p H (Kept.refl _) hr0
    | unit a =>
      have hp : H p = some (.tup [.str (Str.ofString "unit"), .int (-7), .int a]) := hr0
      have h1 := dget_of hd (hc a List.mem_cons_self)
      walk_at "rd"
      refine ⟨_, rfl, ?_⟩
      walk_at "rd"
      refine ⟨d, _, rfl, h1, ?_⟩
      walk_at "rd"
      exact ⟨by show 3 ≤ sizeLine; omega, fun q hq => k q _ (Kept.new hq) upd_same⟩
    | choice a b =>
      have hp : H p = some (.tup [.str (Str.ofString "choice"), .int 5, .int a, .int b]) := hr0
      have h1 := dget_of hd (hc a List.mem_cons_self)
      have h2 := dget_of hd (hc b (List.mem_cons_of_mem _ List.mem_cons_self))
      walk_at "rd"
      refine ⟨_, rfl, ?_⟩
      walk_at "rd"
      refine ⟨d, _, rfl, h1, ?_⟩
      walk_at "rd"
      refine ⟨_, rfl, ?_⟩
      walk_at "rd"
      refine ⟨d, _, rfl, h2, ?_⟩
      walk_at "rd"
      exact ⟨by show 4 ≤ sizeLine; omega, fun q hq => k q _ (Kept.new hq) upd_same⟩
    | parts row =>
      obtain ⟨r, hp, h2⟩ := hr0
      have hl : row.length ≤ 100 := hl
      walk_at "rd"
      refine LcT.ints (ns := row) (fun _ => true) (fun n => V.int (g n)) (by omega) h2 (fun n H4 kk kk2 hn kp4 h5 h6 => ?_) fun D H4 hD kp4 hDl => ?_
      · have hd4 : Rd H4 d (.dK kvs) := Ky.Rd.kept hd kp4
        refine w_yes (if_t rfl ?_)
        exact ⟨_, rfl, _, rfl, d, _, rfl, dget_of hd4 (hc n hn), h5 H4 (Kept.refl _) rfl⟩
      · rw [List.filter_eq_self.mpr (fun _ _ => rfl)] at hDl
        have hDl2 : H4 D = some (.lst ((row.map g).map V.int)) := by rw [hDl, List.map_map] <;> rfl
        walk_at "rd"
        refine ⟨D, _, rfl, .inl ⟨SqL.of hDl2, fun q hq => ?_⟩⟩
        have kq := Kept.new (o := .tup ((row.map g).map V.int)) hq
        walk_at "rd"
        exact ⟨by show 2 ≤ sizeLine; omega, fun q2 hq2 => k q2 _ (kp4.trans (kq.trans (Kept.new hq2))) ⟨q, upd_same, (Kept.new hq2).tup upd_same⟩⟩
    | more a =>
      obtain ⟨r, hp, h2⟩ := hr0
      have h1 := dget_of hd (hc a List.mem_cons_self)
      walk_at "rd"
      refine ⟨_, rfl, ?_⟩
      walk_at "rd"
      refine ⟨d, _, rfl, h1, ?_⟩
      walk_at "rd"
      exact ⟨by show 3 ≤ sizeLine; omega, fun q hq => k q _ (Kept.new hq) ⟨r, upd_same, (Kept.new hq).tup h2⟩⟩
    | less a =>
      have hp : H p = some (.tup [.str (Str.ofString "less"), .int a]) := hr0
      have h1 := dget_of hd (hc a List.mem_cons_self)
      walk_at "rd"
      refine ⟨_, rfl, ?_⟩
      walk_at "rd"
      refine ⟨d, _, rfl, h1, ?_⟩
      walk_at "rd"
      exact ⟨by show 2 ≤ sizeLine; omega, fun q hq => k q _ (Kept.new hq) upd_same⟩
end
end Ky

namespace Ky
open PySem PySem.Spec PyProof.Rows L2
local macro_rules | `(tactic| walk_at "rd") => `(tactic| repeat (first
  | with_reducible refine w_for1 ?_
  | with_reducible refine w_for2 ?_
  | with_reducible refine w_forL ?_
  | with_reducible refine w_forT ?_
  | with_reducible refine w_lc1 ?_
  | with_reducible refine w_lcL ?_
  | with_reducible refine w_lcT ?_
  | with_reducible refine w_seq ?_
  | with_reducible refine w_asg ?_
  | with_reducible refine w_ret ?_
  | with_reducible refine w_drop ?_
  | with_reducible refine w_ifs ?_
  | ((with_reducible refine' w_var ?hh ?_); (case hh => exact rfl))
  | with_reducible refine w_c ?_
  | with_reducible refine w_op ?_
  | with_reducible refine w_un ?_
  | with_reducible refine w_I0 ?_
  | with_reducible refine w_U ?_
  | with_reducible refine w_nil ?_
  | with_reducible refine w_cons ?_
  | with_reducible refine w_call ?_
  | with_reducible refine w_cb ?_
  | with_reducible refine w_test ?_
  | with_reducible refine w_B ?_
  | with_reducible refine w_bl ?_
  | with_reducible refine w_and ?_
  | with_reducible refine w_or ?_
  | with_reducible refine w_not ?_
  | with_reducible refine w_ife ?_
  | with_reducible refine w_gRd ?_
  | with_reducible refine w_andV ?_
  | with_reducible refine w_orV ?_
  | with_reducible refine w_notV ?_
  | with_reducible refine w_chain ?_
  | with_reducible refine w_din ?_
  | with_reducible refine w_isi_ii ?_
  | with_reducible refine w_isi_bi ?_
  | with_reducible refine w_isi_bb ?_
  | with_reducible refine w_isi_bt ?_
  | with_reducible refine w_isi_si ?_
  | with_reducible refine w_isi_nt ?_
  | with_reducible refine w_isi_ib ?_
  | with_reducible refine w_isi_it ?_
  | with_reducible refine w_isi_st ?_
  | ((with_reducible refine w_isi_tt ?h1 ?_); (case h1 => first | assumption | exact upd_same))
  | with_reducible refine if_t rfl ?_
  | with_reducible refine if_f rfl ?_
  | with_reducible refine w_tup ?_
  | with_reducible refine w_lst ?_
  | with_reducible refine w_next ?_
  | with_reducible refine w_bm ?_
  | with_reducible refine w_sl ?_
  | with_reducible refine w_part ?_
  | with_reducible refine w_nop ?_
  | with_reducible refine w_isI ?_
  | with_reducible refine w_yes ?_
  | with_reducible refine w_gn ?_
  | with_reducible refine w_gsub ?_
  | ((with_reducible refine' w_setL ?h1 ?h2 ?_); (case h1 => first | assumption | exact upd_same); (case h2 => exact rfl))
  | with_reducible refine w_asgG ?_
  | with_reducible refine w_m1 ?_
  | with_reducible refine w_isS ?_
  | with_reducible refine w_tyS ?_
  | ((with_reducible refine' w_tyL ?h1 ?_); (case h1 => first | assumption | exact upd_same))
  | ((with_reducible refine' w_ixT ?h1 ?h2 ?_); (case h1 => first | assumption | exact upd_same); (case h2 => exact rfl))
  | ((with_reducible refine' w_ixL ?h1 ?h2 ?_); (case h1 => first | assumption | exact upd_same); (case h2 => exact rfl))
  | ((with_reducible refine w_eq ?h1 ?_); (case h1 => exact rfl))
  | ((with_reducible refine w_ne ?h1 ?_); (case h1 => exact rfl))
  | dsimp only [List.set_cons_zero, List.set_cons_succ, List.append_nil, List.cons_append, List.nil_append, cxOf]))

/-! ### what is reached -/
def keysT (xs : List Int) : List (L2.Key × V) := xs.map fun c => (.inl c, .bl true)
def ins (xs : List Int) (c : Int) : List Int := if c ∈ xs then xs else xs ++ [c]
def insAll (xs ys : List Int) : List Int := ys.foldl ins xs
theorem keysT_any (xs : List Int) (c : Int) : ((keysT xs).any fun kv => decide (kv.1 = (.inl c : L2.Key))) = decide (c ∈ xs) := by
  rw [Bool.eq_iff_iff, List.any_eq_true, decide_eq_true_eq]
  unfold keysT
  constructor
  · rintro ⟨kv, h1, h2⟩
    obtain ⟨x, hx, rfl⟩ := List.mem_map.mp h1
    rw [decide_eq_true_eq] at h2
    rw [← Sum.inl.inj h2]
    exact hx
  · intro h
    exact ⟨_, List.mem_map.mpr ⟨c, h, rfl⟩, decide_eq_true rfl⟩
theorem valV_keysT (xs : List Int) (c : Int) : (valV (keysT xs) (.inl c)).isSome = decide (c ∈ xs) := by
  rw [← valV_any, keysT_any]
theorem putK_keysT (xs : List Int) (c : Int) : putK (keysT xs) (.inl c) (.bl true) = keysT (ins xs c) := by
  unfold putK ins
  rw [keysT_any]
  by_cases h : c ∈ xs
  · rw [if_pos (decide_eq_true h), if_pos h]
    unfold keysT
    rw [List.map_map]
    refine List.map_congr_left fun x _ => ?_
    show (if (Sum.inl x : L2.Key) = Sum.inl c then _ else _) = _
    split <;> rfl
  · rw [if_neg (by rw [decide_eq_false h]; decide), if_neg h]
    unfold keysT
    rw [List.map_append] <;> rfl
theorem mem_ins {xs : List Int} {c x : Int} : x ∈ ins xs c ↔ x ∈ xs ∨ x = c := by
  unfold ins
  split
  · rename_i h
    exact ⟨.inl, fun q => q.elim id fun e => by rw [e]; exact h⟩
  · rw [List.mem_append, List.mem_singleton]
theorem mem_insAll {x : Int} : ∀ {ys xs : List Int}, x ∈ insAll xs ys ↔ x ∈ xs ∨ x ∈ ys
  | [], xs => by simp [insAll]
  | y :: ys, xs => by
    show x ∈ insAll (ins xs y) ys ↔ _
    rw [mem_insAll (ys := ys), mem_ins, List.mem_cons, or_assoc]
theorem nodup_ins {xs : List Int} {c : Int} (h : xs.Nodup) : (ins xs c).Nodup := by
  unfold ins
  split
  · exact h
  · rename_i hc
    refine List.nodup_append.mpr ⟨h, List.pairwise_singleton _ _, fun a ha b hb e => ?_⟩
    have e2 : b = c := by simpa using hb
    exact hc (by rw [← e2, ← e]; exact ha)
theorem nodup_insAll : ∀ {ys xs : List Int}, xs.Nodup → (insAll xs ys).Nodup
  | [], _, h => h
  | _ :: ys, _, h => nodup_insAll (ys := ys) (nodup_ins h)
theorem len_ins (xs : List Int) (c : Int) : (ins xs c).length ≤ xs.length + 1 := by
  unfold ins
  split
  · omega
  · rw [List.length_append, List.length_singleton]
    omega
theorem len_insAll : ∀ (ys xs : List Int), (insAll xs ys).length ≤ xs.length + ys.length
  | [], xs => Nat.le_refl _
  | y :: ys, xs => by
    have h1 := len_insAll ys (ins xs y)
    have h2 := len_ins xs y
    rw [List.length_cons]
    show (insAll (ins xs y) ys).length ≤ _
    omega
def mark (ch : Nat → List Int) (n : Nat) : Nat → List Int
  | 0 => [((n - 1 : Nat) : Int)]
  | k + 1 => if ((n - 1 - k : Nat) : Int) ∈ mark ch n k then insAll (mark ch n k) (ch (n - 1 - k)) else mark ch n k
theorem nodup_mark (ch : Nat → List Int) (n : Nat) : ∀ k, (mark ch n k).Nodup
  | 0 => List.pairwise_singleton _ _
  | k + 1 => by
    unfold mark
    split
    · exact nodup_insAll (nodup_mark ch n k)
    · exact nodup_mark ch n k
theorem len_mark {ch : Nat → List Int} (h : ∀ i, (ch i).length ≤ 4) (n : Nat) : ∀ k, (mark ch n k).length ≤ 1 + 4 * k
  | 0 => Nat.le_refl _
  | k + 1 => by
    have h1 := len_mark h n k
    have h2 := h (n - 1 - k)
    unfold mark
    split
    · have h3 := len_insAll (ch (n - 1 - k)) (mark ch n k)
      omega
    · omega
theorem mark_in {ch : Nat → List Int} {n : Nat} (hn : 0 < n) (h : ∀ i, i < n → ∀ c ∈ ch i, 0 ≤ c ∧ c < i) : ∀ k, ∀ x ∈ mark ch n k, 0 ≤ x ∧ x < n
  | 0, x, hx => by
    have e : x = ((n - 1 : Nat) : Int) := by simpa [mark] using hx
    omega
  | k + 1, x, hx => by
    unfold mark at hx
    split at hx
    · rcases mem_insAll.mp hx with q | q
      · exact mark_in hn h k x q
      · have := h _ (by omega) x q
        omega
    · exact mark_in hn h k x hx
theorem mark_mono {ch : Nat → List Int} {n : Nat} {x : Int} : ∀ {k j : Nat}, k ≤ j → x ∈ mark ch n k → x ∈ mark ch n j
  | k, 0, h, hx => by
    have e : k = 0 := by omega
    rw [← e]
    exact hx
  | k, j + 1, h, hx => by
    by_cases e : k = j + 1
    · rw [← e]
      exact hx
    · have ih := mark_mono (j := j) (by omega) hx
      unfold mark
      split
      · exact mem_insAll.mpr (.inl ih)
      · exact ih
theorem mark_old {ch : Nat → List Int} {n : Nat} (hn : 0 < n) (h : ∀ i, i < n → ∀ c ∈ ch i, 0 ≤ c ∧ c < i) {m : Nat} (hm : m < n) : ∀ j, (m : Int) ∈ mark ch n j → (m : Int) ∈ mark ch n (n - 1 - m) := fun j => by
  induction j with
  | zero => exact fun hx => mark_mono (Nat.zero_le _) hx
  | succ j ih =>
    intro hx
    by_cases hj : j < n - 1 - m
    · exact mark_mono (by omega) hx
    · refine ih ?_
      unfold mark at hx
      split at hx
      · rcases mem_insAll.mp hx with q | q
        · exact q
        · have := h _ (by omega) _ q
          omega
      · exact hx
theorem mark_closed {ch : Nat → List Int} {n : Nat} (hn : 0 < n) (h : ∀ i, i < n → ∀ c ∈ ch i, 0 ≤ c ∧ c < i) {m : Nat} (hm : m < n) (hx : (m : Int) ∈ mark ch n n) {c : Int} (hc : c ∈ ch m) : c ∈ mark ch n n := by
  have h1 := mark_old hn h hm n hx
  refine mark_mono (k := n - 1 - m + 1) (by omega) ?_
  have e : n - 1 - (n - 1 - m) = m := by omega
  unfold mark
  rw [e, if_pos h1]
  exact mem_insAll.mpr (.inr hc)
/-- a node: its tuple, its residue, its rule -/
structure Nd where
  a : Addr
  res : Addr
  rule : Addr
  r : Ru
def chOf (N : List Nd) (i : Nat) : List Int := match N[i]? with | some x => x.r.ch | none => []
def reachedF (N : List Nd) : List Int := srtBy PyData.int (mark (chOf N) N.length N.length)
def ShAt (H : Hp) (p fa na : Addr) (N : List Nd) : Prop := H p = some (.tup [.ref fa, .ref na]) ∧ H na = some (.tup (N.map fun x => .ref x.a)) ∧ ∀ x ∈ N, H x.a = some (.tup [.ref x.res, .ref x.rule]) ∧ RuAt H x.rule x.r
theorem ShAt.kept {H H' : Hp} {p fa na : Addr} {N : List Nd} (h : ShAt H p fa na N) (k : Kept H H') : ShAt H' p fa na N := ⟨k.tup h.1, k.tup h.2.1, fun x hx => ⟨k.tup (h.2.2 x hx).1, (h.2.2 x hx).2.kept k⟩⟩
def GoodN (N : List Nd) : Prop := 0 < N.length ∧ N.length ≤ 100 ∧ (∀ i, (chOf N i).length ≤ 4) ∧ ∀ i, i < N.length → ∀ c ∈ chOf N i, 0 ≤ c ∧ c < i
theorem dpAll_ints {K : PySem.W.Frag} {H : Hp} : ∀ ls : List Int, DpAll K H (ls.map V.int) (ls.map PyData.int)
  | [] => .nil
  | n :: ls => .cons (.int n) (dpAll_ints ls)
theorem srt_ints {ns : List Int} (h : ns.Nodup) : (srtBy PyData.int ns).Pairwise (· < ·) := by
  have h1 := srtBy_pair PyData.int ns
  have h2 : (srtBy PyData.int ns).Nodup := (srtBy_perm PyData.int ns).nodup_iff.mpr h
  refine List.pairwise_iff_getElem.mpr fun i j hi hj hij => ?_
  have a := List.pairwise_iff_getElem.mp h1 i j hi hj hij
  have b := List.pairwise_iff_getElem.mp h2 i j hi hj hij
  have a : (!PySem.W.dataLt (.int (srtBy PyData.int ns)[j]) (.int (srtBy PyData.int ns)[i])) = true := a
  rw [PySem.W.dataLt_int] at a
  have a : ¬ (srtBy PyData.int ns)[j] < (srtBy PyData.int ns)[i] := by simpa using a
  omega
theorem allAlike_ints (ns : List Int) : PySem.W.AllAlike (ns.map PyData.int) := by
  intro d hd d' hd'
  obtain ⟨a, _, rfl⟩ := List.mem_map.mp hd
  obtain ⟨b, _, rfl⟩ := List.mem_map.mp hd'
  simp [PySem.W.alike]
theorem srt_intsS (ns : List Int) : Srt (ns.map PyData.int) := .inr fun d hd => by
  obtain ⟨a, _, rfl⟩ := List.mem_map.mp hd
  exact ⟨by simp, by simp⟩
theorem depth_intsS (ns : List Int) : ∀ d ∈ ns.map PyData.int, d.depth ≤ 60 := fun d hd => by
  obtain ⟨a, _, rfl⟩ := List.mem_map.mp hd
  simp [PyData.depth]
theorem keysT_keys (xs : List Int) : ((keysT xs).map fun kv => kV kv.1) = xs.map V.int := by
  unfold keysT
  rw [List.map_map] <;> rfl
theorem keysT_len (xs : List Int) : (keysT xs).length = xs.length := List.length_map _
theorem chOf_of {N : List Nd} {i : Nat} {x : Nd} (h : N[i]? = some x) : chOf N i = x.r.ch := by
  unfold chOf
  rw [h]
def Fr3 (g : TG) (tb : TS) (D : Ends) (σ : L2.St) (vs : List V) (H1 : Hp) : Prop := ∃ (i j c : Int) (n : Nat), vs = [.int i, .int j, .int c] ∧ RgC i j c n ∧ FrJ g tb D σ (Itc i c n) H1
theorem w_for3 {σ : L2.St} {H : Hp} {D : Ends} {g : TG} {tb : TS} {ta : TA} (q : ta σ H (Fr3 g tb D σ)) : tFor (iRng3 ta) g tb D σ H := q
theorem w_pairs1 {σ : L2.St} {H : Hp} {tk tv : TE} {Q : List (V × V) → Hp → Prop} (q : tk σ H fun x H1 => tv σ H1 fun y H2 => Q [(x, y)] H2) : tPairs [(tk, tv)] σ H Q := q
/-- n - 1, n - 2, .., 0 -/
theorem Fr3.down {σ : L2.St} {H : Hp} {D : Ends} {g : TG} {tb : TS} {n : Nat} (hn : 0 < n) (hz : (n : Int) < 2 ^ 60) (Pv : Nat → L2.St → Hp → Prop) (h0 : Pv 0 σ H)
    (hs : ∀ i σ H, i < n → Pv i σ H → g (.int ((n - 1 - i : Nat) : Int)) σ H fun σ2 H2 => tb { D with nx := Pv (i + 1), ct := Pv (i + 1), bk := D.nx } σ2 H2) (hd : ∀ σ H, Pv n σ H → D.nx σ H) : Fr3 g tb D σ [.int ((n : Int) - 1), .int (-1), .int (-1)] H := by
  have e0 : ((n : Int) - 1 - -1).toNat = n := by omega
  have hr := RgC.neg (i := (n : Int) - 1) (j := -1) (by omega) (by omega) (by omega) (by omega)
  rw [e0] at hr
  refine ⟨_, _, _, n, rfl, hr, for_rangeC Pv h0 (fun i σ H hi p => ?_) hd⟩
  have e : (n : Int) - 1 + (i : Nat) * (-1) = ((n - 1 - i : Nat) : Int) := by omega
  rw [e]
  exact hs i σ H hi p
def spReached : Sp := fun vs H Q _ => ∃ (p fa na : Addr) (N : List Nd), vs = [.ref p] ∧ ShAt H p fa na N ∧ GoodN N ∧ ∀ q H', Kept H H' → H' q = some (.lst ((reachedF N).map V.int)) → Q (.ref q) H'
section
variable {P : Program} {w : World} {K : PySem.W.Frag} {mg : Str → Option Value} {base : Heap} {uG : Value} {f : Addr} {fd : FuncData}
theorem ok_reached (F : Fun K "reached" "reached" s_reached f fd) (T : Tx K mg uG) (D_children_of : Df P w K mg base 1 "children_of" ["rule"] spCh) : FnOk P w K mg base CX0 2 f fd ["sheet"] spReached := by
  refine F.ok sc_reached (fun vs H Q E h => ?_) (fun cdv A outer s H vs Q E hr h => ?_)
  · obtain ⟨p, fa, na, N, rfl, _⟩ := h
    rfl
  · obtain ⟨p, fa, na, N, rfl, hs, hg, k⟩ := h
    refine ⟨_, (pss_cons (ps_set (i := 1) sc_reached.nd rfl (.inl rfl) (pe_ix (ix_tupK (K := K) rfl) (pv 0) pe_int (fun _ _ => rfl)))
    (pss_cons (ps_set (i := 2) sc_reached.nd rfl (.inl rfl) (pe_disp (pps_cons (pe_op op_sub (pe_callB (call_lenK (K := K) rfl) (by rfl) T.z_len (by decide +kernel) (pa_cons (pv 1) pa_nil)) pe_int) pe_bl pps_nil) rfl rfl (by decide) (by decide)))
    (pss_cons (ps_for PassesOwn.never rfl (pi_range3 (by rfl) T.z_range (pa_cons (pe_op op_sub (pe_callB (call_lenK (K := K) rfl) (by rfl) T.z_len (by decide +kernel) (pa_cons (pv 1) pa_nil)) pe_int) (pa_cons (pe_un un_neg pe_int) (pa_cons (pe_un un_neg pe_int) pa_nil)))) (pg_name (i := 3) sc_reached.nd rfl (.inl rfl))
      (pss_one (ps_if (pt_cmp (pc_din hr.u1 (pv 3) (pv 2)) (by rfl))
      (pss_one (ps_for PassesOwn.never rfl (pi_tupK (K := K) rfl (pe_df D_children_of (hr.mono (by decide)) (by rfl) (pa_cons (pe_ix (ix_tupK (K := K) rfl) (pe_ix (ix_tupK (K := K) rfl) (pv 1) (pv 3) (fun _ _ => rfl)) pe_int (fun _ _ => rfl)) pa_nil))) (pg_name (i := 4) sc_reached.nd rfl (.inl rfl))
      (pss_one (ps_asg pe_bl (pg_sub (pv 2) (pv 4) (set_dict hr.u1))))))
      pss_nil)))
    (pss_one (ps_ret (pe_callB (cr_sortedD hr.units) (by rfl) T.z_sorted (by decide +kernel) (pa_cons (pe_callTy (call_list_dK rfl) (by rfl) T.z_list (by decide +kernel) (pa_cons (pv 2) pa_nil)) pa_nil))))))), ?_⟩
    rw [show start n_reached [(.ref p : V)] = ([some (.ref p), none, none, none, none] : List (Option V)) from rfl]
    have hz : 1001 ≤ sizeLine := by decide
    obtain ⟨hp, hna, hnd⟩ := hs
    obtain ⟨g1, g2, g3, g4⟩ := hg
    walk_at "rd"
    refine fun D hD => w_pairs1 ?_
    walk_at "rd"
    refine ⟨na, _, rfl, .inr (SqT.of ((Kept.new hD).tup hna)), ?_⟩
    walk_at "rd"
    refine ⟨upd_same, [(.inl ((N.length : Int) - 1), .bl true)], by rw [List.length_map] <;> rfl, Nat.le_of_ble_eq_true rfl, ?_⟩
    rw [upd_again]
    have kD : Kept H (upd H D (.dK (keysT (mark (chOf N) N.length 0)))) := Kept.new hD
    have eD : upd H D (.dK (mergeK [] [((.inl ((N.length : Int) - 1) : L2.Key), V.bl true)])) = upd H D (.dK (keysT (mark (chOf N) N.length 0))) := by
      have e : ((N.length - 1 : Nat) : Int) = (N.length : Int) - 1 := by omega
      unfold mark
      rw [e] <;> rfl
    rw [eD]
    refine w_seq (w_for3 ?_)
    walk_at "rd"
    refine ⟨na, _, rfl, .inr (SqT.of (kD.tup hna)), ?_⟩
    walk_at "rd"
    rw [List.length_map]
    refine Fr3.down g1 (by omega) (fun i σ H1 => ∃ x3 x4, σ = [some (.ref p), some (.ref na), some (.ref D), x3, x4] ∧ Kept H H1 ∧ H1 D = some (.dK (keysT (mark (chOf N) N.length i)))) ⟨none, none, rfl, kD, upd_same⟩ (fun i σ H1 hi h => ?_) (fun σ H1 h => ?_)
    · obtain ⟨x3, x4, rfl, kp, hd⟩ := h
      walk_at "rd"
      have q := DGet.k (k := .inl ((N.length - 1 - i : Nat) : Int)) hd
      refine ⟨D, _, rfl, q, ?_⟩
      rw [valV_keysT]
      walk_at "rd"
      by_cases hm : ((N.length - 1 - i : Nat) : Int) ∈ mark (chOf N) N.length i
      · refine if_t (decide_eq_true hm) ?_
        have hx : N[N.length - 1 - i]? = some N[N.length - 1 - i] := List.getElem?_eq_getElem (by omega)
        have hc := chOf_of hx
        obtain ⟨hx1, hx2⟩ := hnd _ (List.getElem_mem (h := by omega) : N[N.length - 1 - i] ∈ N)
        generalize N[N.length - 1 - i] = x at hx hc hx1 hx2
        walk_at "rd"
        refine w_ixT (kp.tup hna) (v := .ref x.a) (atI_nat (by rw [List.getElem?_map, hx] <;> rfl)) ?_
        walk_at "rd"
        have hx1' := kp.tup hx1
        walk_at "rd"
        refine ⟨x.rule, x.r, rfl, hx2.kept kp, fun q2 H2 k2 hq2 => ?_⟩
        refine FrT.mk (xs := x.r.ch.map V.int) (fun j σ H3 => ∃ x4, σ = [some (.ref p), some (.ref na), some (.ref D), some (.int ((N.length - 1 - i : Nat) : Int)), x4] ∧ Kept H H3 ∧ H3 q2 = some (.tup (x.r.ch.map V.int)) ∧ H3 D = some (.dK (keysT (insAll (mark (chOf N) N.length i) (x.r.ch.take j)))))
          ⟨_, rfl, kp.trans k2, hq2, k2.keep _ _ (fun _ z => by cases z) hd⟩ (fun j σ H3 _ h => ?_) (fun j y σ H3 hy h => ?_) fun σ H3 h => ?_
        · obtain ⟨_, _, _, h2, _⟩ := h
          exact SqT.of h2
        · obtain ⟨y4, rfl, h1, h2, h3⟩ := h
          obtain ⟨c, rfl, hcj⟩ := map_int hy
          walk_at "rd"
          have hlen : (keysT (insAll (mark (chOf N) N.length i) (x.r.ch.take j))).length < sizeLine := by
            rw [keysT_len]
            have l1 := len_insAll (x.r.ch.take j) (mark (chOf N) N.length i)
            have l2 := len_mark g3 N.length i
            have l3 := g3 (N.length - 1 - i)
            rw [hc] at l3
            have l4 := List.length_take_le' j x.r.ch
            omega
          refine ⟨D, _, rfl, DPut.k (k := .inl c) h3 hlen, ?_⟩
          rw [putK_keysT]
          refine ⟨_, rfl, h1.mut hD, ?_, ?_⟩
          · rw [upd_ne (fun z => by
              rw [z, h3] at h2
              cases h2)]
            exact h2
          · rw [upd_same, List.take_add_one, hcj]
            unfold insAll
            rw [List.foldl_append] <;> rfl
        · obtain ⟨y4, rfl, h1, h2, h3⟩ := h
          rw [List.length_map, List.take_length] at h3
          refine ⟨_, _, rfl, h1, ?_⟩
          unfold mark
          rw [if_pos hm, hc]
          exact h3
      · refine if_f (decide_eq_false hm) ?_
        walk_at "rd"
        refine ⟨_, _, rfl, kp, ?_⟩
        unfold mark
        rw [if_neg hm]
        exact hd
    · obtain ⟨x3, x4, rfl, kp, hd⟩ := h
      walk_at "rd"
      refine ⟨D, _, rfl, hd, fun q hq => ?_⟩
      rw [keysT_keys]
      walk_at "rd"
      have kq := Kept.new (o := .lst ((mark (chOf N) N.length N.length).map V.int)) hq
      refine ⟨q, _, _, rfl, SqL.of upd_same, dpAll_ints _, allAlike_ints _, srt_intsS _, depth_intsS _, fun q2 hq2 => ?_⟩
      rw [sortD_map]
      exact k q2 _ (kp.trans (kq.trans (Kept.new hq2))) upd_same
end
end Ky

namespace Ky
open PySem PySem.Spec PyProof.Rows L2
local macro_rules | `(tactic| walk_at "rd") => `(tactic| repeat (first
  | with_reducible refine w_for1 ?_
  | with_reducible refine w_for2 ?_
  | with_reducible refine w_forL ?_
  | with_reducible refine w_forT ?_
  | with_reducible refine w_lc1 ?_
  | with_reducible refine w_lcL ?_
  | with_reducible refine w_lcT ?_
  | with_reducible refine w_seq ?_
  | with_reducible refine w_asg ?_
  | with_reducible refine w_ret ?_
  | with_reducible refine w_drop ?_
  | with_reducible refine w_ifs ?_
  | ((with_reducible refine' w_var ?hh ?_); (case hh => exact rfl))
  | with_reducible refine w_c ?_
  | with_reducible refine w_op ?_
  | with_reducible refine w_un ?_
  | with_reducible refine w_I0 ?_
  | with_reducible refine w_U ?_
  | with_reducible refine w_nil ?_
  | with_reducible refine w_cons ?_
  | with_reducible refine w_call ?_
  | with_reducible refine w_cb ?_
  | with_reducible refine w_test ?_
  | with_reducible refine w_B ?_
  | with_reducible refine w_bl ?_
  | with_reducible refine w_and ?_
  | with_reducible refine w_or ?_
  | with_reducible refine w_not ?_
  | with_reducible refine w_ife ?_
  | with_reducible refine w_gRd ?_
  | with_reducible refine w_andV ?_
  | with_reducible refine w_orV ?_
  | with_reducible refine w_notV ?_
  | with_reducible refine w_chain ?_
  | with_reducible refine w_din ?_
  | with_reducible refine w_isi_ii ?_
  | with_reducible refine w_isi_bi ?_
  | with_reducible refine w_isi_bb ?_
  | with_reducible refine w_isi_bt ?_
  | with_reducible refine w_isi_si ?_
  | with_reducible refine w_isi_nt ?_
  | with_reducible refine w_isi_ib ?_
  | with_reducible refine w_isi_it ?_
  | with_reducible refine w_isi_st ?_
  | ((with_reducible refine w_isi_tt ?h1 ?_); (case h1 => first | assumption | exact upd_same))
  | with_reducible refine if_t rfl ?_
  | with_reducible refine if_f rfl ?_
  | with_reducible refine w_tup ?_
  | with_reducible refine w_lst ?_
  | with_reducible refine w_next ?_
  | with_reducible refine w_bm ?_
  | with_reducible refine w_sl ?_
  | with_reducible refine w_part ?_
  | with_reducible refine w_nop ?_
  | with_reducible refine w_isI ?_
  | with_reducible refine w_yes ?_
  | with_reducible refine w_gn ?_
  | with_reducible refine w_gsub ?_
  | ((with_reducible refine' w_setL ?h1 ?h2 ?_); (case h1 => first | assumption | exact upd_same); (case h2 => exact rfl))
  | with_reducible refine w_asgG ?_
  | with_reducible refine w_m1 ?_
  | with_reducible refine w_isS ?_
  | with_reducible refine w_tyS ?_
  | ((with_reducible refine' w_tyL ?h1 ?_); (case h1 => first | assumption | exact upd_same))
  | ((with_reducible refine' w_ixT ?h1 ?h2 ?_); (case h1 => first | assumption | exact upd_same); (case h2 => exact rfl))
  | ((with_reducible refine' w_ixL ?h1 ?h2 ?_); (case h1 => first | assumption | exact upd_same); (case h2 => exact rfl))
  | ((with_reducible refine w_eq ?h1 ?_); (case h1 => exact rfl))
  | ((with_reducible refine w_ne ?h1 ?_); (case h1 => exact rfl))
  | dsimp only [List.set_cons_zero, List.set_cons_succ, List.append_nil, List.cons_append, List.nil_append, cxOf]))

def wOf (N : List Nd) (n : Int) : Str := match N[n.toNat]? with | some x => x.r.w | none => Str.ofString ""
def wordsF (N : List Nd) : List Str := (reachedF N).map (wOf N)
def spWords : Sp := fun vs H Q _ => ∃ (p fa na : Addr) (N : List Nd), vs = [.ref p] ∧ ShAt H p fa na N ∧ GoodN N ∧ ∀ q H', Kept H H' → H' q = some (.lst ((wordsF N).map V.str)) → Q (.ref q) H'
def spOpen : Sp := fun vs H Q _ => ∃ (p fa na : Addr) (N : List Nd), vs = [.ref p] ∧ ShAt H p fa na N ∧ GoodN N ∧ ∀ H', Kept H H' → Q (.bl (decide (Str.ofString "open" ∈ wordsF N))) H'
theorem mem_reachedF {N : List Nd} (h : GoodN N) {n : Int} (hn : n ∈ reachedF N) : 0 ≤ n ∧ n < N.length := mark_in h.1 h.2.2.2 _ n (mem_srtBy.mp hn)
theorem len_reachedF {N : List Nd} (h : GoodN N) : (reachedF N).length ≤ 401 := by
  have h1 := len_mark h.2.2.1 N.length N.length
  have h2 := h.2.1
  unfold reachedF
  rw [(srtBy_perm _ _).length_eq]
  omega
theorem at_reached {N : List Nd} (h : GoodN N) {n : Int} (hn : n ∈ reachedF N) : ∃ x, x ∈ N ∧ N[n.toNat]? = some x ∧ atI (N.map fun x => V.ref x.a) n = some (.ref x.a) := by
  obtain ⟨h1, h2⟩ := mem_reachedF h hn
  obtain ⟨m, rfl⟩ := Int.eq_ofNat_of_zero_le h1
  have h3 : m < N.length := by omega
  have e : N[m]? = some N[m] := List.getElem?_eq_getElem h3
  refine ⟨N[m], List.getElem_mem h3, e, ?_⟩
  refine atI_nat ?_
  rw [List.getElem?_map, e] <;> rfl
theorem inV_strs (n : Str) (ls : List Str) : inV (.str n) (ls.map V.str) = decide (n ∈ ls) := by
  unfold inV
  rw [List.any_map, Bool.eq_iff_iff, List.any_eq_true, decide_eq_true_eq]
  constructor
  · rintro ⟨y, hy, e⟩
    have e : y = n := by simpa [eqV] using e
    rw [← e]
    exact hy
  · intro h
    exact ⟨n, h, by simp [eqV]⟩
theorem flat_strs (ls : List Str) : (ls.map V.str).all flatV = true := by
  rw [List.all_map]
  exact List.all_eq_true.mpr fun x _ => rfl
theorem w_inS {K : PySem.W.Frag} {H : Hp} {Q : VK} {b : Addr} {n : Str} {ls : List Str} (h : H b = some (.lst (ls.map V.str))) (q : Q (.bl (decide (n ∈ ls))) H) : rIn K false (.str n) (.ref b) H Q := ⟨b, _, rfl, .inl (SqL.of h), rfl, flat_strs ls, by rw [inV_strs, if_neg Bool.false_ne_true]; exact q⟩
section
variable {P : Program} {w : World} {K : PySem.W.Frag} {mg : Str → Option Value} {base : Heap} {uG : Value} {f : Addr} {fd : FuncData}
theorem ok_words_of (F : Fun K "words_of" "words_of" s_words_of f fd) (T : Tx K mg uG) (D_reached : Df P w K mg base 2 "reached" ["sheet"] spReached) : FnOk P w K mg base CX0 4 f fd ["sheet"] spWords := by
  refine F.ok sc_words_of (fun vs H Q E h => ?_) (fun cdv A outer s H vs Q E hr h => ?_)
  · obtain ⟨p, fa, na, N, rfl, _⟩ := h
    rfl
  · obtain ⟨p, fa, na, N, rfl, hs, hg, k⟩ := h
    refine ⟨_, (pss_cons (ps_set (i := 1) sc_words_of.nd rfl (.inr rfl) (pe_ix (ix_tupK (K := K) rfl) (pv 0) pe_int (fun _ _ => rfl)))
    (pss_one (ps_ret (pe_lc (own := [("number", 2)]) (g := gName 2) (by rfl) sc_words_of.nd (pi_listK (K := K) rfl (pe_df D_reached (hr.mono (by decide)) (by rfl) (pa_cons (pv 0) pa_nil))) (blkOk_by (own := [("number", 2)]) (N := n_words_of) (sc := defScope s_words_of) (by decide +kernel)) (fun _ _ _ _ _ => pg_name (i := 2) sc_words_of.nd rfl (Or.inl rfl)) (fun _ _ _ _ _ => pts_nil) (fun _ _ _ _ _ => (pe_ix (ix_tupK (K := K) rfl) (pe_ix (ix_tupK (K := K) rfl) (pe_ix (ix_tupK (K := K) rfl) (pv 1) (pv 2) (fun _ _ => rfl)) pe_int (fun _ _ => rfl)) pe_int (fun _ _ => rfl))))))), ?_⟩
    rw [show start n_words_of [(.ref p : V)] = ([some (.ref p), none, none] : List (Option V)) from rfl]
    have hz : 1001 ≤ sizeLine := by decide
    have hl := len_reachedF hg
    obtain ⟨hp, hna, hnd⟩ := id hs
    walk_at "rd"
    refine ⟨p, fa, na, N, rfl, hs, hg, fun q H1 k1 hq => ?_⟩
    refine LcL.ints (ns := reachedF N) (fun _ => true) (fun n => V.str (wOf N n)) (by omega) hq (fun n H4 kk kk2 hn kp4 h5 h6 => ?_) fun D H4 hD kp4 hDl => ?_
    · obtain ⟨x, hx, hxi, ha⟩ := at_reached hg hn
      have kp := k1.trans kp4
      obtain ⟨xs, hr2⟩ := ((hnd x hx).2.kept kp).head
      refine w_yes (if_t rfl ?_)
      walk_at "rd"
      refine w_ixT (kp.tup hna) ha ?_
      walk_at "rd"
      refine w_ixT (kp.tup (hnd x hx).1) (v := .ref x.rule) rfl ?_
      walk_at "rd"
      have e : wOf N n = x.r.w := by
        unfold wOf
        rw [hxi]
      rw [← e] at hr2
      exact w_ixT hr2 (atI_nat (j := 0) rfl) (h5 H4 (Kept.refl _) rfl)
    · rw [List.filter_eq_self.mpr (fun _ _ => rfl)] at hDl
      refine k D H4 (k1.trans kp4) ?_
      unfold wordsF
      rw [hDl, List.map_map] <;> rfl
theorem ok_is_open (F : Fun K "is_open" "is_open" s_is_open f fd) (T : Tx K mg uG) (D_words_of : Df P w K mg base 4 "words_of" ["sheet"] spWords) : FnOk P w K mg base CX0 5 f fd ["sheet"] spOpen := by
  refine F.ok sc_is_open (fun vs H Q E h => ?_) (fun cdv A outer s H vs Q E hr h => ?_)
  · obtain ⟨p, fa, na, N, rfl, _⟩ := h
    rfl
  · obtain ⟨p, fa, na, N, rfl, hs, hg, k⟩ := h
    refine ⟨_, (pss_one (ps_ret (pe_cmpR (opK (K := K) (r := fun K => rIn K false) rfl op_in_seq) pe_str (pe_df D_words_of (hr.mono (by decide)) (by rfl) (pa_cons (pv 0) pa_nil)) (by rfl)))), ?_⟩
    rw [show start n_is_open [(.ref p : V)] = ([some (.ref p)] : List (Option V)) from rfl]
    walk_at "rd"
    refine ⟨p, fa, na, N, rfl, hs, hg, fun q H1 k1 hq => ?_⟩
    exact w_inS hq (k H1 k1)
end
end Ky

namespace Ky
open PySem PySem.Spec PyProof.Rows L2
local macro_rules | `(tactic| walk_at "rd") => `(tactic| repeat (first
  | with_reducible refine w_for1 ?_
  | with_reducible refine w_for2 ?_
  | with_reducible refine w_forL ?_
  | with_reducible refine w_forT ?_
  | with_reducible refine w_lc1 ?_
  | with_reducible refine w_lcL ?_
  | with_reducible refine w_lcT ?_
  | with_reducible refine w_seq ?_
  | with_reducible refine w_asg ?_
  | with_reducible refine w_ret ?_
  | with_reducible refine w_drop ?_
  | with_reducible refine w_ifs ?_
  | ((with_reducible refine' w_var ?hh ?_); (case hh => exact rfl))
  | with_reducible refine w_c ?_
  | with_reducible refine w_op ?_
  | with_reducible refine w_un ?_
  | with_reducible refine w_I0 ?_
  | with_reducible refine w_U ?_
  | with_reducible refine w_nil ?_
  | with_reducible refine w_cons ?_
  | with_reducible refine w_call ?_
  | with_reducible refine w_cb ?_
  | with_reducible refine w_test ?_
  | with_reducible refine w_B ?_
  | with_reducible refine w_bl ?_
  | with_reducible refine w_and ?_
  | with_reducible refine w_or ?_
  | with_reducible refine w_not ?_
  | with_reducible refine w_ife ?_
  | with_reducible refine w_gRd ?_
  | with_reducible refine w_andV ?_
  | with_reducible refine w_orV ?_
  | with_reducible refine w_notV ?_
  | with_reducible refine w_chain ?_
  | with_reducible refine w_din ?_
  | with_reducible refine w_isi_ii ?_
  | with_reducible refine w_isi_bi ?_
  | with_reducible refine w_isi_bb ?_
  | with_reducible refine w_isi_bt ?_
  | with_reducible refine w_isi_si ?_
  | with_reducible refine w_isi_nt ?_
  | with_reducible refine w_isi_ib ?_
  | with_reducible refine w_isi_it ?_
  | with_reducible refine w_isi_st ?_
  | ((with_reducible refine w_isi_tt ?h1 ?_); (case h1 => first | assumption | exact upd_same))
  | with_reducible refine if_t rfl ?_
  | with_reducible refine if_f rfl ?_
  | with_reducible refine w_tup ?_
  | with_reducible refine w_lst ?_
  | with_reducible refine w_next ?_
  | with_reducible refine w_bm ?_
  | with_reducible refine w_sl ?_
  | with_reducible refine w_part ?_
  | with_reducible refine w_nop ?_
  | with_reducible refine w_isI ?_
  | with_reducible refine w_yes ?_
  | with_reducible refine w_gn ?_
  | with_reducible refine w_gsub ?_
  | ((with_reducible refine' w_setL ?h1 ?h2 ?_); (case h1 => first | assumption | exact upd_same); (case h2 => exact rfl))
  | with_reducible refine w_asgG ?_
  | with_reducible refine w_m1 ?_
  | with_reducible refine w_isS ?_
  | with_reducible refine w_tyS ?_
  | ((with_reducible refine' w_tyL ?h1 ?_); (case h1 => first | assumption | exact upd_same))
  | ((with_reducible refine' w_ixT ?h1 ?h2 ?_); (case h1 => first | assumption | exact upd_same); (case h2 => exact rfl))
  | ((with_reducible refine' w_ixL ?h1 ?h2 ?_); (case h1 => first | assumption | exact upd_same); (case h2 => exact rfl))
  | ((with_reducible refine w_eq ?h1 ?_); (case h1 => exact rfl))
  | ((with_reducible refine w_ne ?h1 ?_); (case h1 => exact rfl))
  | dsimp only [List.set_cons_zero, List.set_cons_succ, List.append_nil, List.cons_append, List.nil_append, cxOf]))

/-! ### how often each word stands -/
def kvsOf (ds ws : List Str) : List (L2.Key × V) := ds.map fun w => (.inr w, .int (ws.count w))
theorem kvsOf_any (ds ws : List Str) (z : Str) : ((kvsOf ds ws).any fun kv => decide (kv.1 = (.inr z : L2.Key))) = decide (z ∈ ds) := by
  rw [Bool.eq_iff_iff, List.any_eq_true, decide_eq_true_eq]
  unfold kvsOf
  constructor
  · rintro ⟨kv, h1, h2⟩
    obtain ⟨x, hx, rfl⟩ := List.mem_map.mp h1
    rw [decide_eq_true_eq] at h2
    rw [← Sum.inr.inj h2]
    exact hx
  · intro h
    exact ⟨_, List.mem_map.mpr ⟨z, h, rfl⟩, decide_eq_true rfl⟩
theorem valV_kvsOf (ws : List Str) (z : Str) : ∀ ds : List Str, valV (kvsOf ds ws) (.inr z) = if z ∈ ds then some (.int (ws.count z)) else none
  | [] => rfl
  | d :: ds => by
    have ih := valV_kvsOf ws z ds
    show valV ((.inr d, .int (ws.count d)) :: kvsOf ds ws) (.inr z) = _
    by_cases e : d = z
    · subst e
      rw [if_pos List.mem_cons_self]
      exact valV_pos rfl
    · rw [valV_neg (fun h => e (Sum.inr.inj h)), ih]
      by_cases h : z ∈ ds
      · rw [if_pos h, if_pos (List.mem_cons_of_mem _ h)]
      · rw [if_neg h, if_neg (fun q => (List.mem_cons.mp q).elim (fun r => e r.symm) h)]
theorem count_snoc (ws : List Str) (z w : Str) : (ws ++ [z]).count w = ws.count w + if z = w then 1 else 0 := by
  rw [List.count_append, List.count_cons, List.count_nil]
  by_cases e : z = w
  · subst e
    simp
  · rw [if_neg e, if_neg (by simpa using e)]
def insS (ds : List Str) (z : Str) : List Str := if z ∈ ds then ds else ds ++ [z]
theorem putK_kvsOf {ds ws : List Str} (z : Str) (h : ∀ w, w ∈ ds ↔ w ∈ ws) : putK (kvsOf ds ws) (.inr z) (.int ((ws.count z : Nat) + 1)) = kvsOf (insS ds z) (ws ++ [z]) := by
  unfold putK insS
  rw [kvsOf_any]
  by_cases hz : z ∈ ds
  · rw [if_pos (decide_eq_true hz), if_pos hz]
    unfold kvsOf
    rw [List.map_map]
    refine List.map_congr_left fun x _ => ?_
    show (if (Sum.inr x : L2.Key) = Sum.inr z then ((Sum.inr x : L2.Key), _) else _) = _
    rw [count_snoc]
    by_cases e : x = z
    · subst e
      rw [if_pos rfl, if_pos rfl] <;> rfl
    · rw [if_neg (fun q => e (Sum.inr.inj q)), if_neg (fun q => e q.symm)] <;> rfl
  · rw [if_neg (by rw [decide_eq_false hz]; decide), if_neg hz]
    unfold kvsOf
    rw [List.map_append]
    congr 1
    · refine List.map_congr_left fun x hx => ?_
      rw [count_snoc, if_neg (fun e => hz (by rw [e]; exact hx))] <;> rfl
    · have e := count_snoc ws z z
      rw [if_pos rfl] at e
      show [((Sum.inr z : L2.Key), V.int (((ws.count z : Nat) : Int) + 1))] = [((Sum.inr z : L2.Key), V.int ((((ws ++ [z]).count z : Nat)) : Int))]
      rw [e] <;> rfl
theorem mem_insS {ds : List Str} {z x : Str} : x ∈ insS ds z ↔ x ∈ ds ∨ x = z := by
  unfold insS
  split
  · rename_i h
    exact ⟨.inl, fun q => q.elim id fun e => by rw [e]; exact h⟩
  · rw [List.mem_append, List.mem_singleton]
theorem nodup_insS {xs : List Str} {c : Str} (h : xs.Nodup) : (insS xs c).Nodup := by
  unfold insS
  split
  · exact h
  · rename_i hc
    refine List.nodup_append.mpr ⟨h, List.pairwise_singleton _ _, fun a ha b hb e => ?_⟩
    have e2 : b = c := by simpa using hb
    exact hc (by rw [← e2, ← e]; exact ha)
theorem len_insS (xs : List Str) (c : Str) : (insS xs c).length ≤ xs.length + 1 := by
  unfold insS
  split
  · omega
  · rw [List.length_append, List.length_singleton]
    omega
theorem kvsOf_keys (ds ws : List Str) : ((kvsOf ds ws).map fun kv => kV kv.1) = ds.map V.str := by
  unfold kvsOf
  rw [List.map_map] <;> rfl
theorem dpAll_strs {K : PySem.W.Frag} {H : Hp} : ∀ ls : List Str, DpAll K H (ls.map V.str) (ls.map PyData.str)
  | [] => .nil
  | n :: ls => .cons (.str n) (dpAll_strs ls)
theorem allAlike_strs (ns : List Str) : PySem.W.AllAlike (ns.map PyData.str) := by
  intro d hd d' hd'
  obtain ⟨a, _, rfl⟩ := List.mem_map.mp hd
  obtain ⟨b, _, rfl⟩ := List.mem_map.mp hd'
  simp [PySem.W.alike]
theorem srt_strsS (ns : List Str) : Srt (ns.map PyData.str) := .inr fun d hd => by
  obtain ⟨a, _, rfl⟩ := List.mem_map.mp hd
  exact ⟨by simp, by simp⟩
theorem depth_strsS (ns : List Str) : ∀ d ∈ ns.map PyData.str, d.depth ≤ 60 := fun d hd => by
  obtain ⟨a, _, rfl⟩ := List.mem_map.mp hd
  simp [PyData.depth]
/-- the words once each, in order, with their numbers: at the list q -/
def TallyAt (H : Hp) (q : Addr) (ws : List Str) : Prop := ∃ (ds : List Str) (ts : List Addr), ds.Nodup ∧ (∀ w, w ∈ ds ↔ w ∈ ws) ∧ H q = some (.lst (ts.map V.ref)) ∧ ts.length = ds.length ∧
  ∀ (i : Nat) (t : Addr) (w : Str), ts[i]? = some t → (srtBy PyData.str ds)[i]? = some w → H t = some (.tup [.str w, .int (ws.count w)])
def spTally : Sp := fun vs H Q _ => ∃ (p fa na : Addr) (N : List Nd), vs = [.ref p] ∧ ShAt H p fa na N ∧ GoodN N ∧ ∀ q H', Kept H H' → TallyAt H' q (wordsF N) → Q (.ref q) H'
section
variable {P : Program} {w : World} {K : PySem.W.Frag} {mg : Str → Option Value} {base : Heap} {uG : Value} {f : Addr} {fd : FuncData}
theorem ok_tally (F : Fun K "tally" "tally" s_tally f fd) (T : Tx K mg uG) (D_words_of : Df P w K mg base 4 "words_of" ["sheet"] spWords) : FnOk P w K mg base CX0 5 f fd ["sheet"] spTally := by
  refine F.ok sc_tally (fun vs H Q E h => ?_) (fun cdv A outer s H vs Q E hr h => ?_)
  · obtain ⟨p, fa, na, N, rfl, _⟩ := h
    rfl
  · obtain ⟨p, fa, na, N, rfl, hs, hg, k⟩ := h
    refine ⟨_, (pss_cons (ps_set (i := 1) sc_tally.nd rfl (.inr rfl) pe_dnewK)
    (pss_cons (ps_for PassesOwn.never rfl (pi_listK (K := K) rfl (pe_df D_words_of (hr.mono (by decide)) (by rfl) (pa_cons (pv 0) pa_nil))) (pg_name (i := 2) sc_tally.nd rfl (.inl rfl))
      (pss_one (ps_asg (pe_op op_add (pe_dget2 hr.u1 (pv 1) (pv 2) pe_int ⟨rfl, rfl, rfl, rfl⟩) pe_int) (pg_sub (pv 1) (pv 2) (set_dict hr.u1)))))
    (pss_one (ps_ret (pe_lc (own := [("word", 2)]) (g := gName 2) (by rfl) sc_tally.nd (pi_listK (K := K) rfl (pe_callB (cr_sortedD hr.units) (by rfl) T.z_sorted (by decide +kernel) (pa_cons (pe_callTy (call_list_dK rfl) (by rfl) T.z_list (by decide +kernel) (pa_cons (pv 1) pa_nil)) pa_nil))) (blkOk_by (own := [("word", 2)]) (N := n_tally) (sc := defScope s_tally) (by decide +kernel)) (fun _ _ _ _ _ => pg_name (i := 2) sc_tally.nd rfl (Or.inl rfl)) (fun _ _ _ _ _ => pts_nil) (fun _ _ _ _ _ => (pe_tup (pa_cons (pv 2) (pa_cons (pe_dget hr.u1 (pv 1) (pv 2) (fun _ _ => rfl)) pa_nil))))))))), ?_⟩
    rw [show start n_tally [(.ref p : V)] = ([some (.ref p), none, none] : List (Option V)) from rfl]
    have hz : 1001 ≤ sizeLine := by decide
    have hl : (wordsF N).length ≤ 401 := by
      unfold wordsF
      rw [List.length_map]
      exact len_reachedF hg
    refine w_seq (w_asg fun D hD => ?_)
    have kD := Kept.new (o := .dK []) hD
    refine w_seq ?_
    walk_at "rd"
    refine ⟨p, fa, na, N, rfl, hs.kept kD, hg, fun q H1 k1 hq => ?_⟩
    refine FrL.mk (xs := (wordsF N).map V.str) (fun i σ H1 => ∃ x2 ds, σ = [some (.ref p), some (.ref D), x2] ∧ Kept H H1 ∧ H1 q = some (.lst ((wordsF N).map V.str)) ∧ ds.Nodup ∧ ds.length ≤ i ∧ (∀ w, w ∈ ds ↔ w ∈ (wordsF N).take i) ∧ H1 D = some (.dK (kvsOf ds ((wordsF N).take i))))
      ⟨_, [], rfl, kD.trans k1, hq, List.nodup_nil, Nat.le_refl _, fun w => by simp, k1.keep _ _ (fun _ z => by cases z) upd_same⟩ (fun i σ H1 _ h => ?_) (fun i x σ H1 hx h => ?_) fun σ H1 h => ?_
    · obtain ⟨_, _, _, _, h2, _⟩ := h
      exact SqL.of h2
    · obtain ⟨x2, ds, rfl, kp, h2, h3, h4, h5, h6⟩ := h
      rw [List.getElem?_map] at hx
      obtain ⟨z, hzi, rfl⟩ := Option.map_eq_some_iff.mp hx
      have hi : i < (wordsF N).length := (List.getElem?_eq_some_iff.mp hzi).1
      refine w_gn (w_asgG (w_op ?_))
      refine (show tDGet2 _ _ _ _ _ _ from w_var rfl ⟨D, rfl, .inl ⟨_, .inl h6⟩, w_var rfl (w_c ?_)⟩)
      have q0 : DGet H1 D (.str z) (valV (kvsOf ds ((wordsF N).take i)) (.inr z)) := .inl ⟨_, .inr z, .inl h6, rfl, rfl⟩
      refine ⟨_, q0, ?_⟩
      have ev : (valV (kvsOf ds ((wordsF N).take i)) (.inr z)).getD (V.int 0) = V.int ((((wordsF N).take i).count z : Nat) : Int) := by
        rw [valV_kvsOf]
        by_cases hz2 : z ∈ ds
        · rw [if_pos hz2] <;> rfl
        · rw [if_neg hz2, List.count_eq_zero_of_not_mem (fun e => hz2 ((h5 z).mpr e))] <;> rfl
      rw [ev]
      walk_at "rd"
      have hlen : (kvsOf ds ((wordsF N).take i)).length < sizeLine := by
        unfold kvsOf
        rw [List.length_map]
        omega
      refine ⟨D, _, rfl, DPut.k (k := .inr z) h6 hlen, ?_⟩
      rw [putK_kvsOf z h5]
      have et : (wordsF N).take (i + 1) = (wordsF N).take i ++ [z] := by rw [List.take_add_one, hzi] <;> rfl
      refine ⟨_, insS ds z, rfl, kp.mut hD, ?_, nodup_insS h3, Nat.le_trans (len_insS _ _) (by omega), fun w => ?_, ?_⟩
      · rw [upd_ne (fun z => by
          rw [z, h6] at h2
          cases h2)]
        exact h2
      · rw [mem_insS, et, List.mem_append, List.mem_singleton, h5]
      · rw [et]
        exact upd_same
    · obtain ⟨x2, ds, rfl, kp, h2, h3, h4, h5, h6⟩ := h
      rw [List.length_map] at h4 h5 h6
      rw [List.take_length] at h5 h6
      walk_at "rd"
      refine ⟨D, _, rfl, h6, fun q2 hq2 => ?_⟩
      rw [kvsOf_keys]
      walk_at "rd"
      have kq := Kept.new (o := .lst (ds.map V.str)) hq2
      refine ⟨q2, _, _, rfl, SqL.of upd_same, dpAll_strs _, allAlike_strs _, srt_strsS _, depth_strsS _, fun q3 hq3 => ?_⟩
      rw [sortD_map]
      have kq3 := kp.trans (kq.trans (Kept.new (o := .lst ((srtBy PyData.str ds).map V.str)) hq3))
      have hD3 := (kq.trans (Kept.new (o := .lst ((srtBy PyData.str ds).map V.str)) hq3)).keep _ _ (fun _ z => by cases z) h6
      have hls : (srtBy PyData.str ds).length = ds.length := (srtBy_perm _ _).length_eq
      refine LcL.tups (fun i => [.str ((srtBy PyData.str ds).getD i (Str.ofString "")), .int (((wordsF N).count ((srtBy PyData.str ds).getD i (Str.ofString "")) : Nat) : Int)]) (by rw [List.length_map]; omega) upd_same (fun i x H4 k2 hx kp4 step => ?_) fun D4 H4 ts hD4 kp4 e1 e2 e3 => ?_
      · rw [List.getElem?_map] at hx
        obtain ⟨z, hzi, rfl⟩ := Option.map_eq_some_iff.mp hx
        have hzm : z ∈ ds := mem_srtBy.mp (List.mem_of_getElem? hzi)
        have eg : (srtBy PyData.str ds).getD i (Str.ofString "") = z := by rw [List.getD_eq_getElem?_getD, hzi] <;> rfl
        rw [eg] at step
        have q0 : DGet H4 D (.str z) (valV (kvsOf ds (wordsF N)) (.inr z)) := .inl ⟨_, .inr z, .inl (kp4.keep _ _ (fun _ z => by cases z) hD3), rfl, rfl⟩
        rw [valV_kvsOf, if_pos hzm] at q0
        walk_at "rd"
        refine ⟨_, rfl, ?_⟩
        walk_at "rd"
        refine ⟨D, _, rfl, q0, ?_⟩
        walk_at "rd"
        exact ⟨by show 2 ≤ sizeLine; omega, fun t ht => step _ t (Kept.new ht) upd_same⟩
      · rw [List.length_map, hls] at e2
        refine k D4 H4 (kq3.trans kp4) ⟨ds, ts, h3, h5, e1, e2, fun i t w ht hw => ?_⟩
        have := e3 i t ht
        rw [List.getD_eq_getElem?_getD, hw] at this
        exact this
end
end Ky

namespace Ky
open PySem PySem.Spec PyProof.Rows L2
local macro_rules | `(tactic| walk_at "rd") => `(tactic| repeat (first
  | with_reducible refine w_for1 ?_
  | with_reducible refine w_for2 ?_
  | with_reducible refine w_forL ?_
  | with_reducible refine w_forT ?_
  | with_reducible refine w_lc1 ?_
  | with_reducible refine w_lcL ?_
  | with_reducible refine w_lcT ?_
  | with_reducible refine w_seq ?_
  | with_reducible refine w_asg ?_
  | with_reducible refine w_ret ?_
  | with_reducible refine w_drop ?_
  | with_reducible refine w_ifs ?_
  | ((with_reducible refine' w_var ?hh ?_); (case hh => exact rfl))
  | with_reducible refine w_c ?_
  | with_reducible refine w_op ?_
  | with_reducible refine w_un ?_
  | with_reducible refine w_I0 ?_
  | with_reducible refine w_U ?_
  | with_reducible refine w_nil ?_
  | with_reducible refine w_cons ?_
  | with_reducible refine w_call ?_
  | with_reducible refine w_cb ?_
  | with_reducible refine w_test ?_
  | with_reducible refine w_B ?_
  | with_reducible refine w_bl ?_
  | with_reducible refine w_and ?_
  | with_reducible refine w_or ?_
  | with_reducible refine w_not ?_
  | with_reducible refine w_ife ?_
  | with_reducible refine w_gRd ?_
  | with_reducible refine w_andV ?_
  | with_reducible refine w_orV ?_
  | with_reducible refine w_notV ?_
  | with_reducible refine w_chain ?_
  | with_reducible refine w_din ?_
  | with_reducible refine w_isi_ii ?_
  | with_reducible refine w_isi_bi ?_
  | with_reducible refine w_isi_bb ?_
  | with_reducible refine w_isi_bt ?_
  | with_reducible refine w_isi_si ?_
  | with_reducible refine w_isi_nt ?_
  | with_reducible refine w_isi_ib ?_
  | with_reducible refine w_isi_it ?_
  | with_reducible refine w_isi_st ?_
  | ((with_reducible refine w_isi_tt ?h1 ?_); (case h1 => first | assumption | exact upd_same))
  | with_reducible refine if_t rfl ?_
  | with_reducible refine if_f rfl ?_
  | with_reducible refine w_tup ?_
  | with_reducible refine w_lst ?_
  | with_reducible refine w_next ?_
  | with_reducible refine w_bm ?_
  | with_reducible refine w_sl ?_
  | with_reducible refine w_part ?_
  | with_reducible refine w_nop ?_
  | with_reducible refine w_isI ?_
  | with_reducible refine w_yes ?_
  | with_reducible refine w_gn ?_
  | with_reducible refine w_gsub ?_
  | ((with_reducible refine' w_setL ?h1 ?h2 ?_); (case h1 => first | assumption | exact upd_same); (case h2 => exact rfl))
  | with_reducible refine w_asgG ?_
  | with_reducible refine w_m1 ?_
  | with_reducible refine w_isS ?_
  | with_reducible refine w_tyS ?_
  | ((with_reducible refine' w_tyL ?h1 ?_); (case h1 => first | assumption | exact upd_same))
  | ((with_reducible refine' w_ixT ?h1 ?h2 ?_); (case h1 => first | assumption | exact upd_same); (case h2 => exact rfl))
  | ((with_reducible refine' w_ixL ?h1 ?h2 ?_); (case h1 => first | assumption | exact upd_same); (case h2 => exact rfl))
  | ((with_reducible refine w_eq ?h1 ?_); (case h1 => exact rfl))
  | ((with_reducible refine w_ne ?h1 ?_); (case h1 => exact rfl))
  | dsimp only [List.set_cons_zero, List.set_cons_succ, List.append_nil, List.cons_append, List.nil_append, cxOf]))

section
variable {K : PySem.W.Frag} {σ : L2.St} {te : TE} {J : It}
theorem tupUpd2 {H : Hp} {D : Addr} {o u : HO} (hD : H D = some o) (ho : ∀ xs, o ≠ .tup xs) : ∀ b xs, H b = some (.tup xs) → upd H D u b = some (.tup xs) := fun b xs h => by
  rw [upd_ne (fun z => by
    rw [z, hD] at h
    exact ho xs (Option.some.inj h))]
  exact h
theorem LcJ.refs {n : Nat} {xv : Nat → V} {j : Nat} {H0 : Hp} {Q : VK} (Pn : Nat → Addr → Hp → Prop) (hP : ∀ i q H H', Pn i q H → (∀ b xs, H b = some (.tup xs) → H' b = some (.tup xs)) → Pn i q H') (hn : n ≤ sizeLine) (hgo : ∀ i H, i < n → Kept H0 H → J.go i H) (hy : ∀ i H x H', i < n → Kept H0 H → J.yld i H x H' → H' = H ∧ x = xv i) (hstop : ∀ H, Kept H0 H → J.stop n H)
    (step : ∀ i H (k2 : VK), i < n → Kept H0 H → (∀ H4 q, Kept H H4 → Pn i q H4 → k2 (.ref q) H4) → te ((wipe σ [j]).set j (some (xv i))) H k2)
    (fin : ∀ D H (qs : List Addr), H0 D = none → Kept H0 H → H D = some (.lst (qs.map V.ref)) → qs.length = n → (∀ i q, qs[i]? = some q → Pn i q H) → Q (.ref D) H) : LcJ (gName j) tYes te [j] σ Q J H0 := by
  intro D hD
  refine c_walk (xv := xv) (fun i H => Kept H0 H ∧ ∃ qs : List Addr, H D = some (.lst (qs.map V.ref)) ∧ qs.length = i ∧ ∀ i q, qs[i]? = some q → Pn i q H) ⟨Kept.new hD, [], upd_same, rfl, fun i q h => by simp at h⟩ (fun i H h s => hgo i H h s.1) (fun i H x H' h s => hy i H x H' h s.1) (fun H s => hstop H s.1) (fun i H hi s => ?_) fun H s => ?_
  · obtain ⟨kp, qs, h1, h2, h3⟩ := s
    refine ⟨wipe_one, w_yes (if_t rfl ?_)⟩
    refine step i H _ hi kp fun H4 q k4 hq => ⟨_, k4.lst h1, ?_, Kept.mut (kp.trans k4) hD, qs ++ [q], ?_, ?_, fun m r hr => ?_⟩
    · rw [List.length_map, h2]
      omega
    · rw [List.map_append]
      exact upd_same
    · rw [List.length_append, h2] <;> rfl
    · by_cases hm : m < qs.length
      · rw [List.getElem?_append_left hm] at hr
        exact hP _ _ _ _ (hP _ _ _ _ (h3 m r hr) fun b xs h => k4.tup h) fun b xs h => tupUpd (k4.lst h1) h
      · rw [List.getElem?_append_right (by omega)] at hr
        cases z : m - qs.length with
        | zero =>
          rw [z] at hr
          cases hr
          have e : m = i := by omega
          rw [e]
          exact hP _ _ _ _ hq fun b xs h => tupUpd (k4.lst h1) h
        | succ m =>
          rw [z] at hr
          simp at hr
  · obtain ⟨kp, qs, h1, h2, h3⟩ := s
    exact fin D H qs hD kp h1 h2 h3
end
theorem w_lcK {σ : L2.St} {H : Hp} {Q : VK} {g : TG} {tt : TT} {te td : TE} {vs : List Nat} (q : td σ H fun x H1 => ∃ d o, x = .ref d ∧ ((∃ kvs, H1 d = some (.frz o (.dK kvs)) ∧ LcJ g tt te vs σ Q (Itk d o kvs) H1) ∨ ∃ kvs, H1 d = some (.frz o (.dT kvs)) ∧ LcJ g tt te vs σ Q (Itkt d o kvs) H1)) : tLc (iKeys td) g tt te vs σ H Q := q
theorem w_gTup2 {K : PySem.W.Frag} {H : Hp} {b : Addr} {x y : V} {i j : Nat} {σ : L2.St} {R : L2.St → Hp → Prop} (h : H b = some (.tup [x, y])) (q : R ((σ.set i (some x)).set j (some y)) H) : gTup K 2 (gCons (gName i) (gCons (gName j) gNil)) (.ref b) σ H R :=
  ⟨b, _, rfl, SqT.of h, rfl, _, _, rfl, _, _, rfl, rfl, q⟩
/-! ### new numbers -/
def numT (R : List Int) (i : Nat) : List (L2.Key × V) := (List.range i).map fun j => ((.inl (R.getD j 0) : L2.Key), V.int (j : Int))
theorem numT_succ {R : List Int} {i : Nat} {c : Int} (h : R[i]? = some c) : numT R (i + 1) = numT R i ++ [((.inl c : L2.Key), V.int (i : Int))] := by
  unfold numT
  rw [List.range_succ, List.map_append]
  congr 1
  show [((.inl (R.getD i 0) : L2.Key), V.int (i : Int))] = _
  rw [List.getD_eq_getElem?_getD, h] <;> rfl
theorem numT_len (R : List Int) (i : Nat) : (numT R i).length = i := by
  unfold numT
  rw [List.length_map, List.length_range]
theorem not_before {R : List Int} (hn : R.Nodup) {i : Nat} {c : Int} (h : R[i]? = some c) : c ∉ R.take i := fun hc => by
  obtain ⟨j, hj, e⟩ := List.mem_iff_getElem.mp hc
  rw [List.length_take] at hj
  obtain ⟨hi, e2⟩ := List.getElem?_eq_some_iff.mp h
  have a := List.pairwise_iff_getElem.mp hn j i (by omega) hi (by omega)
  rw [List.getElem_take] at e
  exact a (by rw [e, e2])
theorem valV_numT {R : List Int} (hn : R.Nodup) (c : Int) : ∀ i, i ≤ R.length → (c ∉ R.take i → valV (numT R i) (.inl c) = none) ∧ (c ∈ R.take i → ∃ j : Int, valV (numT R i) (.inl c) = some (.int j))
  | 0, _ => ⟨fun _ => rfl, fun h => by simp at h⟩
  | i + 1, h => by
    have hi : R[i]? = some R[i] := List.getElem?_eq_getElem (by omega)
    have nb := not_before hn hi
    obtain ⟨a1, a2⟩ := valV_numT hn c i (by omega)
    obtain ⟨b1, _⟩ := valV_numT hn R[i] i (by omega)
    have et : R.take (i + 1) = R.take i ++ [R[i]] := by rw [List.take_add_one, hi] <;> rfl
    have ev : valV (numT R (i + 1)) (.inl c) = if (.inl c : L2.Key) = .inl R[i] then some (V.int (i : Int)) else valV (numT R i) (.inl c) := by
      rw [numT_succ hi]
      exact valV_snoc _ _ _ _ (b1 nb)
    rw [et, ev]
    constructor
    · intro hc
      rw [List.mem_append, List.mem_singleton] at hc
      rw [if_neg (fun e => hc (.inr (Sum.inl.inj e)))]
      exact a1 fun q => hc (.inl q)
    · intro hc
      by_cases e : c = R[i]
      · rw [if_pos (by rw [e])]
        exact ⟨_, rfl⟩
      · rw [if_neg (fun q => e (Sum.inl.inj q))]
        rw [List.mem_append, List.mem_singleton] at hc
        exact a2 (hc.resolve_right e)
theorem putK_numT {R : List Int} (hn : R.Nodup) {i : Nat} {c : Int} (h : R[i]? = some c) : putK (numT R i) (.inl c) (.int (i : Int)) = numT R (i + 1) := by
  have hi := (List.getElem?_eq_some_iff.mp h).1
  rw [numT_succ h]
  exact putK_new _ ((valV_numT hn c i (by omega)).1 (not_before hn h))
def posOf (R : List Int) (c : Int) : Int := match valV (numT R R.length) (.inl c) with | some (.int j) => j | _ => 0
theorem valV_pos2 {R : List Int} (hn : R.Nodup) {c : Int} (h : c ∈ R) : valV (numT R R.length) (.inl c) = some (.int (posOf R c)) := by
  obtain ⟨j, e⟩ := (valV_numT hn c R.length (Nat.le_refl _)).2 (by rw [List.take_length]; exact h)
  unfold posOf
  rw [e]
theorem nodup_reachedF (N : List Nd) : (reachedF N).Nodup := (srtBy_perm _ _).nodup_iff.mpr (nodup_mark _ _ _)
theorem reached_closed {N : List Nd} (h : GoodN N) {n c : Int} (hn : n ∈ reachedF N) {x : Nd} (hx : N[n.toNat]? = some x) (hc : c ∈ x.r.ch) : c ∈ reachedF N := by
  obtain ⟨h1, h2⟩ := mem_reachedF h hn
  obtain ⟨m, rfl⟩ := Int.eq_ofNat_of_zero_le h1
  rw [Int.toNat_natCast] at hx
  refine mem_srtBy.mpr (mark_closed h.1 h.2.2.2 (m := m) (by omega) (mem_srtBy.mp hn) ?_)
  rw [chOf_of hx]
  exact hc
/-- the i-th node of the trimmed sheet, at q -/
def TrNd (N : List Nd) (i : Nat) (q : Addr) (H : Hp) : Prop := ∀ n x, (reachedF N)[i]? = some n → N[n.toNat]? = some x → ∃ rl, H q = some (.tup [.ref x.res, .ref rl]) ∧ RuAt H rl (x.r.map (posOf (reachedF N)))
theorem TrNd.stay {N : List Nd} {i : Nat} {q : Addr} {H H' : Hp} (h : TrNd N i q H) (k : ∀ b xs, H b = some (.tup xs) → H' b = some (.tup xs)) : TrNd N i q H' := fun n x hn hx => by
  obtain ⟨rl, h1, h2⟩ := h n x hn hx
  exact ⟨rl, k _ _ h1, h2.mono k⟩
def TrAt (H : Hp) (q fa : Addr) (N : List Nd) : Prop := ∃ (na : Addr) (ts : List Addr), H q = some (.tup [.ref fa, .ref na]) ∧ H na = some (.tup (ts.map V.ref)) ∧ ts.length = (reachedF N).length ∧ ∀ (i : Nat) (t : Addr), ts[i]? = some t → TrNd N i t H
def spTrim : Sp := fun vs H Q _ => ∃ (p fa na : Addr) (N : List Nd), vs = [.ref p] ∧ ShAt H p fa na N ∧ GoodN N ∧ ∀ q H', Kept H H' → TrAt H' q fa N → Q (.ref q) H'
section
variable {P : Program} {w : World} {K : PySem.W.Frag} {mg : Str → Option Value} {base : Heap} {uG : Value} {f : Addr} {fd : FuncData}
theorem ok_trimmed (F : Fun K "trimmed" "trimmed" s_trimmed f fd) (T : Tx K mg uG) (D_reached : Df P w K mg base 2 "reached" ["sheet"] spReached) (D_renumbered : Df P w K mg base 1 "renumbered" ["rule", "numbers"] spRen) : FnOk P w K mg base CX0 4 f fd ["sheet"] spTrim := by
  refine F.ok sc_trimmed (fun vs H Q E h => ?_) (fun cdv A outer s H vs Q E hr h => ?_)
  · obtain ⟨p, fa, na, N, rfl, _⟩ := h
    rfl
  · obtain ⟨p, fa, na, N, rfl, hs, hg, k⟩ := h
    refine ⟨_, (pss_cons (ps_asg (pv 0) (pg_tupK (K := K) rfl (by rfl) (pgs_cons (pg_name (i := 1) sc_trimmed.nd rfl (.inl rfl)) (pgs_cons (pg_name (i := 2) sc_trimmed.nd rfl (.inr rfl)) pgs_nil))))
    (pss_cons (ps_set (i := 3) sc_trimmed.nd rfl (.inr rfl) pe_dnewK)
    (pss_cons (ps_for PassesOwn.never rfl (pi_listK (K := K) rfl (pe_df D_reached (hr.mono (by decide)) (by rfl) (pa_cons (pv 0) pa_nil))) (pg_name (i := 4) sc_trimmed.nd rfl (.inl rfl))
      (pss_one (ps_asg (pe_callB call_lenD (by rfl) T.z_len (by decide +kernel) (pa_cons (pv 3) pa_nil)) (pg_sub (pv 3) (pv 4) (set_dict hr.u1)))))
    (pss_cons (ps_lock (ps_setLc (i := 5) (own := [("number", 4)]) (g := gName 4) (by rfl) sc_trimmed.nd rfl rfl (sw_true rfl rfl rfl (by decide +kernel)) (pi_keys (pv 3)) (blkOk_by (own := [("number", 4)]) (N := n_trimmed) (sc := defScope s_trimmed) (by decide +kernel)) (fun _ _ _ _ _ => pg_name (i := 4) sc_trimmed.nd rfl (Or.inl rfl)) (fun _ _ _ _ _ => pts_nil) (fun _ _ _ _ _ => (pe_tup (pa_cons (pe_ix (ix_tupK (K := K) rfl) (pe_ix (ix_tupK (K := K) rfl) (pv 2) (pv 4) (fun _ _ => rfl)) pe_int (fun _ _ => rfl)) (pa_cons (pe_df D_renumbered (hr.mono (by decide)) (by rfl) (pa_cons (pe_ix (ix_tupK (K := K) rfl) (pe_ix (ix_tupK (K := K) rfl) (pv 2) (pv 4) (fun _ _ => rfl)) pe_int (fun _ _ => rfl)) (pa_cons (pv 3) pa_nil))) pa_nil))))))
    (pss_one (ps_ret (pe_tup (pa_cons (pv 1) (pa_cons (pe_callTy call_tuple_of (by rfl) T.z_tuple (by decide +kernel) (pa_cons (pv 5) pa_nil)) pa_nil))))))))), ?_⟩
    rw [show start n_trimmed [(.ref p : V)] = ([some (.ref p), none, none, none, none, none] : List (Option V)) from rfl]
    have hz : 1001 ≤ sizeLine := by decide
    have hl := len_reachedF hg
    have hnd := nodup_reachedF N
    refine w_seq (w_asgG (w_var rfl (w_gTup2 hs.1 ?_)))
    walk_at "rd"
    refine fun D hD => ?_
    have kD := Kept.new (o := .dK []) hD
    walk_at "rd"
    refine ⟨p, fa, na, N, rfl, hs.kept kD, hg, fun q H1 k1 hq => ?_⟩
    refine FrL.mk (xs := (reachedF N).map V.int) (fun i σ H1 => ∃ x4, σ = [some (.ref p), some (.ref fa), some (.ref na), some (.ref D), x4, none] ∧ Kept H H1 ∧ H1 q = some (.lst ((reachedF N).map V.int)) ∧ H1 D = some (.dK (numT (reachedF N) i)))
      ⟨_, rfl, kD.trans k1, hq, k1.keep _ _ (fun _ z => by cases z) upd_same⟩ (fun i σ H1 _ h => ?_) (fun i x σ H1 hx h => ?_) fun σ H1 h => ?_
    · obtain ⟨_, _, _, h2, _⟩ := h
      exact SqL.of h2
    · obtain ⟨x4, rfl, kp, h2, h6⟩ := h
      obtain ⟨c, rfl, hci⟩ := map_int hx
      have hi : i < (reachedF N).length := (List.getElem?_eq_some_iff.mp hci).1
      walk_at "rd"
      refine ⟨D, _, rfl, h6, ?_⟩
      rw [numT_len]
      walk_at "rd"
      refine ⟨D, _, rfl, DPut.k (k := .inl c) h6 (by rw [numT_len]; omega), ?_⟩
      rw [putK_numT hnd hci]
      refine ⟨_, rfl, kp.mut hD, ?_, upd_same⟩
      rw [upd_ne (fun z => by
        rw [z, h6] at h2
        cases h2)]
      exact h2
    · obtain ⟨x4, rfl, kp, h2, h6⟩ := h
      rw [List.length_map] at h6
      walk_at "rd"
      refine ⟨D, _, h6, trivial, fun od => ?_⟩
      have kL := kp.mut (o := .frz od (.dK (numT (reachedF N) (reachedF N).length))) hD
      refine w_asg (w_lcK (w_var rfl ⟨D, od, rfl, .inl ⟨_, upd_same, ?_⟩⟩))
      refine LcJ.refs (n := (reachedF N).length) (xv := fun i => V.int ((reachedF N).getD i 0)) (TrNd N) (fun i q H H' h k => h.stay k) (by omega) (fun i H2 hi k2 => ⟨k2.keep _ _ (fun _ z => by cases z) upd_same, by rw [numT_len]; exact hi⟩) (fun i H2 x H3 hi k2 hy => ?_) (fun H2 k2 => ⟨k2.keep _ _ (fun _ z => by cases z) upd_same, by rw [numT_len]; exact Nat.le_refl _⟩) (fun i H2 kk hi k2 step => ?_) fun D2 H2 ts hD2 k2 e1 e2 e3 => ?_
      · obtain ⟨e, kx, v, hkv, rfl⟩ := hy
        refine ⟨e, ?_⟩
        unfold numT at hkv
        rw [List.getElem?_map, List.getElem?_range hi] at hkv
        cases hkv
        rfl
      · have hri : (reachedF N)[i]? = some (reachedF N)[i] := List.getElem?_eq_getElem hi
        have er : (reachedF N).getD i 0 = (reachedF N)[i] := by rw [List.getD_eq_getElem?_getD, hri] <;> rfl
        have hrm : (reachedF N)[i] ∈ reachedF N := List.getElem_mem hi
        rw [er]
        generalize (reachedF N)[i] = n at hri hrm
        obtain ⟨x, hx, hxi, ha⟩ := at_reached hg hrm
        have kz := kL.trans k2
        have h0 := kz.tup hs.2.1
        obtain ⟨g1, g2⟩ := (hs.kept kz).2.2 x hx
        walk_at "rd"
        refine w_ixT h0 ha ?_
        walk_at "rd"
        refine w_ixT h0 ha ?_
        walk_at "rd"
        refine ⟨x.rule, D, x.r, numT (reachedF N) (reachedF N).length, posOf (reachedF N), rfl, g2, .inr ⟨od, k2.keep _ _ (fun _ z => by cases z) upd_same⟩, fun c hc => valV_pos2 hnd (reached_closed hg hrm hxi hc), ?_, fun q2 H3 k3 hq2 => ?_⟩
        · have := hg.2.2.1 n.toNat
          rw [chOf_of hxi] at this
          omega
        · walk_at "rd"
          refine ⟨by show 2 ≤ sizeLine; omega, fun t ht => step _ t (k3.trans (Kept.new ht)) fun n' x' hn' hx' => ?_⟩
          rw [hri] at hn'
          cases hn'
          rw [hxi] at hx'
          cases hx'
          exact ⟨q2, upd_same, hq2.kept (Kept.new ht)⟩
      · refine ⟨k2.keep _ _ (fun _ z => by cases z) upd_same, ?_⟩
        have kz := (kL.trans k2).mut (o := .dK (numT (reachedF N) (reachedF N).length)) hD
        have hfz := k2.keep D _ (fun _ z => by cases z) upd_same
        have e1' : upd H2 D (.dK (numT (reachedF N) (reachedF N).length)) D2 = some (.lst (ts.map V.ref)) := by
          rw [upd_ne (fun z => by
            rw [← z, e1] at hfz
            cases hfz)]
          exact e1
        have st := tupUpd2 (u := .dK (numT (reachedF N) (reachedF N).length)) hfz (fun _ z => by cases z)
        generalize upd H2 D (.dK (numT (reachedF N) (reachedF N).length)) = H3 at kz e1' st
        walk_at "rd"
        refine ⟨D2, _, rfl, .inl ⟨SqL.of e1', fun q3 hq3 => ?_⟩⟩
        have k3 := Kept.new (o := .tup (ts.map V.ref)) hq3
        walk_at "rd"
        refine ⟨by show 2 ≤ sizeLine; omega, fun q4 hq4 => ?_⟩
        have k4 := Kept.new (o := .tup [.ref fa, .ref q3]) hq4
        exact k q4 _ (kz.trans (k3.trans k4)) ⟨q3, ts, upd_same, k4.tup upd_same, e2, fun i t ht => (e3 i t ht).stay fun b xs h => k4.tup (k3.tup (st b xs h))⟩
end
end Ky

namespace Ky
open PySem PySem.Spec PyProof.Rows L2
local macro_rules | `(tactic| walk_at "rd") => `(tactic| repeat (first
  | with_reducible refine w_seq ?_
  | with_reducible refine w_asg ?_
  | with_reducible refine w_ret ?_
  | with_reducible refine w_drop ?_
  | with_reducible refine w_ifs ?_
  | ((with_reducible refine' w_var ?hh ?_); (case hh => exact rfl))
  | with_reducible refine w_c ?_
  | with_reducible refine w_op ?_
  | with_reducible refine w_un ?_
  | with_reducible refine w_I0 ?_
  | with_reducible refine w_U ?_
  | with_reducible refine w_nil ?_
  | with_reducible refine w_cons ?_
  | with_reducible refine w_call ?_
  | with_reducible refine w_cb ?_
  | with_reducible refine w_test ?_
  | with_reducible refine w_B ?_
  | with_reducible refine w_bl ?_
  | with_reducible refine w_and ?_
  | with_reducible refine w_or ?_
  | with_reducible refine w_not ?_
  | with_reducible refine w_ife ?_
  | with_reducible refine w_gRd ?_
  | with_reducible refine w_andV ?_
  | with_reducible refine w_orV ?_
  | with_reducible refine w_notV ?_
  | with_reducible refine w_chain ?_
  | with_reducible refine w_din ?_
  | with_reducible refine w_isi_ii ?_
  | with_reducible refine w_isi_ib ?_
  | with_reducible refine w_isi_it ?_
  | with_reducible refine w_isi_st ?_
  | ((with_reducible refine w_isi_tt ?h1 ?_); (case h1 => first | assumption | exact upd_same))
  | with_reducible refine if_t rfl ?_
  | with_reducible refine if_f rfl ?_
  | with_reducible refine w_tup ?_
  | with_reducible refine w_lst ?_
  | with_reducible refine w_next ?_
  | with_reducible refine w_bm ?_
  | with_reducible refine w_sl ?_
  | with_reducible refine w_part ?_
  | with_reducible refine w_nop ?_
  | with_reducible refine w_isI ?_
  | with_reducible refine w_yes ?_
  | with_reducible refine w_gn ?_
  | with_reducible refine w_gsub ?_
  | ((with_reducible refine' w_setL ?h1 ?h2 ?_); (case h1 => first | assumption | exact upd_same); (case h2 => exact rfl))
  | with_reducible refine w_asgG ?_
  | with_reducible refine w_m1 ?_
  | with_reducible refine w_isS ?_
  | with_reducible refine w_tyS ?_
  | ((with_reducible refine' w_tyL ?h1 ?_); (case h1 => first | assumption | exact upd_same))
  | ((with_reducible refine' w_ixT ?h1 ?h2 ?_); (case h1 => first | assumption | exact upd_same); (case h2 => exact rfl))
  | ((with_reducible refine' w_ixL ?h1 ?h2 ?_); (case h1 => first | assumption | exact upd_same); (case h2 => exact rfl))
  | ((with_reducible refine w_eq ?h1 ?_); (case h1 => exact rfl))
  | ((with_reducible refine w_ne ?h1 ?_); (case h1 => exact rfl))
  | dsimp only [List.set_cons_zero, List.set_cons_succ, List.append_nil, List.cons_append, List.nil_append, cxOf]))

section
variable {P : Program} {w : World} {K : PySem.W.Frag} {mg : Str → Option Value} {base : Heap} {uG : Value} {f : Addr} {fd : FuncData}
theorem ok_l_draw (F : Fun K "_law_draw" "_law_draw" s_l_draw f fd) (T : Tx K mg uG) : FnOk P w K mg base CX0 1 f fd ["script"] (spDrawC K) := by
  refine F.ok sc_l_draw (fun vs H Q E h => ?_) (fun cdv A outer s H vs Q E hr h => ?_)
  · obtain ⟨a, ns, rfl, _⟩ := h
    rfl
  · obtain ⟨a, ns, rfl, hS, hlen, k⟩ := h
    refine ⟨_, (pss_cons (ps_set (i := 1) sc_l_draw.nd rfl (.inl rfl) pe_int)
    (pss_cons (ps_for PassesOwn.never rfl (pi_listK (K := K) rfl (pv 0)) (pg_name (i := 2) sc_l_draw.nd rfl (.inl rfl))
      (pss_one (ps_set (i := 1) sc_l_draw.nd rfl (.inl rfl) (pe_op op_mod (pe_callTy call_int1 (by rfl) T.z_int (by decide +kernel) (pa_cons (pe_op op_add (pe_op op_add (pe_op op_mul (pv 1) pe_int) (pe_op op_mod (pe_callB call_abs (by rfl) T.z_abs (by decide +kernel) (pa_cons (pe_callTy call_int1 (by rfl) T.z_int (by decide +kernel) (pa_cons (pv 2) pa_nil)) pa_nil)) pe_int)) pe_int) pa_nil)) pe_int))))
    (pss_one (ps_ret (pe_lst (pa_cons (pe_lc (own := [("cell", 2)]) (g := gName 2) (by rfl) sc_l_draw.nd (pi_listK (K := K) rfl (pv 0)) (blkOk_by (own := [("cell", 2)]) (N := n_l_draw) (sc := defScope s_l_draw) (by decide +kernel)) (fun _ _ _ _ _ => pg_name (i := 2) sc_l_draw.nd rfl (Or.inl rfl)) (fun _ _ _ _ _ => pts_nil) (fun _ _ _ _ _ => (pe_callB call_abs (by rfl) T.z_abs (by decide +kernel) (pa_cons (pe_callTy call_int1 (by rfl) T.z_int (by decide +kernel) (pa_cons (pv 2) pa_nil)) pa_nil)))) (pa_cons (pe_un un_neg pe_int) (pa_cons pe_int (pa_cons (pv 1) pa_nil))))))))), ?_⟩
    rw [show start n_l_draw [(.ref a : V)] = ([some (.ref a), none, none] : List (Option V)) from rfl]
    walk_at "rd"
    refine ⟨_, rfl, a, rfl, ⟨_, hS⟩, for_list (K := K) (a := a) (xs := ns.map V.int) (fun i σ' H' => ∃ z v, σ' = [some (.ref a), some (.int z), v] ∧ H' = H) ⟨7, none, rfl, rfl⟩ (fun i σ' H' _ h => by
      obtain ⟨_, _, _, rfl⟩ := h
      exact hS) ?_ ?_⟩
    · rintro i y σ' H' hi ⟨z, v, rfl, rfl⟩
      obtain ⟨u, rfl, _⟩ := map_int hi
      walk_at "rd"
      refine w_I (.inr ⟨by decide, by decide⟩) ?_
      walk_at "rd"
      refine .inl ⟨_, rfl, ?_⟩
      walk_at "rd"
      refine ⟨_, rfl, ?_⟩
      walk_at "rd"
      refine w_I (by show (0 : Int) < 65521; decide) ?_
      walk_at "rd"
      refine .inl ⟨_, rfl, ?_⟩
      walk_at "rd"
      refine w_I (by show (0 : Int) < 2147483647; decide) ?_
      exact ⟨_, _, rfl, rfl⟩
    · rintro σ' H' ⟨z, v, rfl, rfl⟩
      walk_at "rd"
      refine ⟨_, rfl, a, rfl, ⟨_, hS⟩, fun D hD => lc_list (K := K) (xs := ns.map V.int) (fun i H1 => ∃ acc : List Int, H1 D = some (.lst (acc.map V.int)) ∧ acc.length = i ∧ Kept H' H1) ⟨[], upd_same, rfl, Kept.new hD⟩ (fun i H1 _ h => by
        obtain ⟨_, _, _, k1⟩ := h
        exact k1.sq hS) ?_ ?_⟩
      · rintro i y H1 hi ⟨acc, h1, h2, k1⟩
        obtain ⟨u, rfl, hu⟩ := map_int hi
        have hi2 : i < ns.length := (List.getElem?_eq_some_iff.mp hu).1
        refine ⟨rfl, w_yes (if_t rfl ?_)⟩
        walk_at "rd"
        refine .inl ⟨_, rfl, ?_⟩
        walk_at "rd"
        refine ⟨_, rfl, ?_⟩
        refine ⟨acc.map V.int, h1, ?_, acc ++ [if u < 0 then -u else u], ?_, ?_, Kept.mut k1 hD⟩
        · rw [List.length_map]
          exact small1000 (by omega)
        · rw [List.map_append]
          exact upd_same
        · rw [List.length_append, h2]
          rfl
      · rintro H1 ⟨acc, h1, h2, k1⟩
        walk_at "rd"
        refine ⟨by show 4 ≤ sizeLine; decide, fun d hd => ?_⟩
        refine k d D _ (k1.free _ hd) (k1.trans (Kept.new hd)) ⟨acc, -1, 0, z, ne_of_none h1 hd, upd_same, ?_, by decide⟩
        rw [upd_ne (ne_of_none h1 hd)]
        exact h1
theorem ok_l_take (F : Fun K "_law_take" "_law_take" s_l_take f fd) (T : Tx K mg uG) : FnOk P w K mg base CX0 1 f fd ["draw", "many"] spTakeC := by
  refine F.ok sc_l_take (fun vs H Q E h => ?_) (fun cdv A outer s H vs Q E hr h => ?_)
  · obtain ⟨d, c, m, rfl, _⟩ := h
    rfl
  · obtain ⟨d, c, m, rfl, m0, m1, hD, k⟩ := h
    have hD0 := hD
    obtain ⟨ns, a, u, z, ne, hd, hc, ha⟩ := hD
    have st0 : TakeSt H c d H := ⟨fun _ _ => rfl, a, u, z, hd, ha⟩
    refine ⟨_, (Evl.pss_cut (ps_if (pt_cmpR op_eq (pe_ix (ix_listK (K := K) rfl) (pv 0) pe_int (fun _ _ => rfl)) pe_int (nomark _))
      (pss_cons (ps_asg (pe_op op_add (pe_ix (ix_listK (K := K) rfl) (pv 0) pe_int (fun _ _ => rfl)) pe_int) (pg_sub (pv 0) pe_int set_list))
    (Evl.pss_cut (ps_if (pt_cmpR op_lt (pe_ix (ix_listK (K := K) rfl) (pv 0) pe_int (fun _ _ => rfl)) (pe_callB call_len_seq (by rfl) T.z_len (by decide +kernel) (pa_cons (pe_ix (ix_listK (K := K) rfl) (pv 0) pe_int (fun _ _ => rfl)) pa_nil)) (nomark _))
      (pss_one (ps_asg (pe_ix (ix_listK (K := K) rfl) (pe_ix (ix_listK (K := K) rfl) (pv 0) pe_int (fun _ _ => rfl)) (pe_ix (ix_listK (K := K) rfl) (pv 0) pe_int (fun _ _ => rfl)) (fun _ _ => rfl)) (pg_sub (pv 0) pe_int set_list)))
      pss_nil)
    (pss_one (ps_if (pt_cmpR op_eq (pe_ix (ix_listK (K := K) rfl) (pv 0) pe_int (fun _ _ => rfl)) pe_int (nomark _))
      (pss_cons (ps_asg (pe_op op_mod (pe_callTy call_int1 (by rfl) T.z_int (by decide +kernel) (pa_cons (pe_op op_add (pe_op op_mul (pe_ix (ix_listK (K := K) rfl) (pv 0) pe_int (fun _ _ => rfl)) pe_int) pe_int) pa_nil)) pe_int) (pg_sub (pv 0) pe_int set_list))
    (pss_one (ps_asg (pe_ix (ix_listK (K := K) rfl) (pv 0) pe_int (fun _ _ => rfl)) (pg_sub (pv 0) pe_int set_list))))
      pss_nil))))
      pss_nil)
    (pss_cons (ps_set (i := 2) sc_l_take.nd rfl (.inl rfl) (pe_op op_mod (pe_callTy call_int1 (by rfl) T.z_int (by decide +kernel) (pa_cons (pe_ix (ix_listK (K := K) rfl) (pv 0) pe_int (fun _ _ => rfl)) pa_nil)) (pv 1)))
    (pss_cons (ps_asg (pe_op op_fdivW (pe_ix (ix_listK (K := K) rfl) (pv 0) pe_int (fun _ _ => rfl)) (pv 1)) (pg_sub (pv 0) pe_int set_list))
    (pss_one (ps_ret (pv 2)))))), ?_⟩
    rw [show start n_l_take [(.ref d : V), (.int m : V)] = ([some (.ref d), some (.int m), none] : List (Option V)) from rfl]
    refine ⟨fun σ' H' => σ' = [some (.ref d), some (.int m), none] ∧ TakeSt H c d H', ?_, ?_⟩
    · walk_at "rd"
      refine ite2 (fun _ => ?_) (fun _ => ?_)
      · walk_at "rd"
        refine ⟨fun σ' H' => σ' = [some (.ref d), some (.int m), none] ∧ TakeSt H c d H', ?_, ?_⟩
        · have st1 : TakeSt H c d (upd H d (.lst [.ref c, .int (a + 1), .int u, .int z])) := st0.upd (by omega)
          have hc1 : (upd H d (.lst [.ref c, .int (a + 1), .int u, .int z])) c = some (.lst (ns.map V.int)) := by rw [st1.1 c ne]; exact hc
          walk_at "rd"
          refine ⟨c, ns.map V.int, rfl, .inl (SqL.of hc1), ?_⟩
          walk_at "rd"
          refine ite2 (fun e => ?_) (fun _ => ⟨rfl, st1⟩)
          have e' : a + 1 < (ns.length : Int) := by
            have := of_decide_eq_true e
            rw [List.length_map] at this
            exact this
          obtain ⟨v, _, hv⟩ := pick_int (ns := ns) (r := a + 1) (by omega) e'
          walk_at "rd"
          refine w_ixL hc1 hv ?_
          walk_at "rd"
          exact ⟨rfl, st1.upd (by omega)⟩
        · rintro σ' H' ⟨rfl, st1⟩
          have st2 := st1
          obtain ⟨_, a1, u1, z1, hd1, ha1⟩ := st2
          walk_at "rd"
          refine ite2 (fun _ => ?_) (fun _ => ⟨rfl, st1⟩)
          walk_at "rd"
          refine w_I (.inr ⟨by decide, by decide⟩) ?_
          walk_at "rd"
          refine .inl ⟨_, rfl, ?_⟩
          walk_at "rd"
          refine w_I (by show (0 : Int) < 2147483647; decide) ?_
          walk_at "rd"
          exact ⟨rfl, (st1.upd ha1).upd ha1⟩
      · exact ⟨rfl, st0⟩
    · rintro σ' H' ⟨rfl, st1⟩
      have st2 := st1
      obtain ⟨_, a1, u1, z1, hd1, ha1⟩ := st2
      walk_at "rd"
      refine .inl ⟨_, rfl, ?_⟩
      walk_at "rd"
      refine w_I m0 ?_
      walk_at "rd"
      refine w_I (wide_div (b := 62) m0 (by omega) (by decide) (by decide)) ?_
      walk_at "rd"
      exact k _ _ (Int.emod_nonneg _ (by omega)) (Int.emod_lt_of_pos _ m0) ((st1.upd ha1).keptC hd hc ne)
end
end Ky

namespace Ky
open PySem PySem.Spec PyProof.Rows L2
local macro_rules | `(tactic| walk_at "rd") => `(tactic| repeat (first
  | with_reducible refine w_for1 ?_
  | with_reducible refine w_for2 ?_
  | with_reducible refine w_forL ?_
  | with_reducible refine w_forT ?_
  | with_reducible refine w_lc1 ?_
  | with_reducible refine w_lcL ?_
  | with_reducible refine w_lcT ?_
  | with_reducible refine w_seq ?_
  | with_reducible refine w_asg ?_
  | with_reducible refine w_ret ?_
  | with_reducible refine w_drop ?_
  | with_reducible refine w_ifs ?_
  | ((with_reducible refine' w_var ?hh ?_); (case hh => exact rfl))
  | with_reducible refine w_c ?_
  | with_reducible refine w_op ?_
  | with_reducible refine w_un ?_
  | with_reducible refine w_I0 ?_
  | with_reducible refine w_U ?_
  | with_reducible refine w_nil ?_
  | with_reducible refine w_cons ?_
  | with_reducible refine w_call ?_
  | with_reducible refine w_cb ?_
  | with_reducible refine w_test ?_
  | with_reducible refine w_B ?_
  | with_reducible refine w_bl ?_
  | with_reducible refine w_and ?_
  | with_reducible refine w_or ?_
  | with_reducible refine w_not ?_
  | with_reducible refine w_ife ?_
  | with_reducible refine w_gRd ?_
  | with_reducible refine w_andV ?_
  | with_reducible refine w_orV ?_
  | with_reducible refine w_notV ?_
  | with_reducible refine w_chain ?_
  | with_reducible refine w_din ?_
  | with_reducible refine w_isi_ii ?_
  | with_reducible refine w_isi_bi ?_
  | with_reducible refine w_isi_bb ?_
  | with_reducible refine w_isi_bt ?_
  | with_reducible refine w_isi_si ?_
  | with_reducible refine w_isi_nt ?_
  | with_reducible refine w_isi_ib ?_
  | with_reducible refine w_isi_it ?_
  | with_reducible refine w_isi_st ?_
  | ((with_reducible refine w_isi_tt ?h1 ?_); (case h1 => first | assumption | exact upd_same))
  | with_reducible refine if_t rfl ?_
  | with_reducible refine if_f rfl ?_
  | with_reducible refine w_tup ?_
  | with_reducible refine w_lst ?_
  | with_reducible refine w_next ?_
  | with_reducible refine w_bm ?_
  | with_reducible refine w_sl ?_
  | with_reducible refine w_part ?_
  | with_reducible refine w_nop ?_
  | with_reducible refine w_isI ?_
  | with_reducible refine w_yes ?_
  | with_reducible refine w_gn ?_
  | with_reducible refine w_gsub ?_
  | ((with_reducible refine' w_setL ?h1 ?h2 ?_); (case h1 => first | assumption | exact upd_same); (case h2 => exact rfl))
  | with_reducible refine w_asgG ?_
  | with_reducible refine w_m1 ?_
  | with_reducible refine w_isS ?_
  | with_reducible refine w_tyS ?_
  | ((with_reducible refine' w_tyL ?h1 ?_); (case h1 => first | assumption | exact upd_same))
  | ((with_reducible refine' w_ixT ?h1 ?h2 ?_); (case h1 => first | assumption | exact upd_same); (case h2 => exact rfl))
  | ((with_reducible refine' w_ixL ?h1 ?h2 ?_); (case h1 => first | assumption | exact upd_same); (case h2 => exact rfl))
  | ((with_reducible refine w_eq ?h1 ?_); (case h1 => exact rfl))
  | ((with_reducible refine w_ne ?h1 ?_); (case h1 => exact rfl))
  | dsimp only [List.set_cons_zero, List.set_cons_succ, List.append_nil, List.cons_append, List.nil_append, cxOf]))

/-! ### the law's rules -/
section
variable {K : PySem.W.Frag} {σ : L2.St} {te : TE}
theorem LcJ.draws {d c : Addr} {m : Int} {n : Nat} {j : Nat} {H0 : Hp} {Q : VK} (hd : DrwC d c H0) (hn : n ≤ sizeLine)
    (step : ∀ i H (k2 : VK), i < n → KeptC d c H0 H → (∀ r H4, KeptC d c H H4 → 0 ≤ r → r < m → k2 (.int r) H4) → te ((wipe σ [j]).set j (some (.int (i : Int)))) H k2)
    (fin : ∀ D H (ns : List Int), H0 D = none → KeptC d c H0 H → H D = some (.lst (ns.map V.int)) → ns.length = n → (∀ x ∈ ns, 0 ≤ x ∧ x < m) → Q (.ref D) H) : LcJ (gName j) tYes te [j] σ Q (Itr 0 n) H0 := by
  intro D hD
  have nd := (hd.old hD).1
  refine c_walk (xv := fun i => .int (i : Int)) (n := n) (fun i H => KeptC d c H0 H ∧ ∃ ns : List Int, H D = some (.lst (ns.map V.int)) ∧ ns.length = i ∧ ∀ x ∈ ns, 0 ≤ x ∧ x < m) ⟨(Kept.new hD).toC, [], upd_same, rfl, fun x h => by simp at h⟩ (fun i H h s => h) (fun i H x H' h s q => ?_) (fun H s => Nat.le_refl n) (fun i H hi s => ?_) fun H s => ?_
  · obtain ⟨h1, h2⟩ := q
    rw [Int.zero_add] at h2
    exact ⟨h1, h2⟩
  · obtain ⟨kp, ns, h1, h2, h3⟩ := s
    refine ⟨wipe_one, w_yes (if_t rfl ?_)⟩
    refine step i H _ hi kp fun r H4 k4 r0 r1 => ⟨_, k4.lst nd h1, ?_, (kp.trans k4).mut hD, ns ++ [r], ?_, ?_, fun x hx => ?_⟩
    · rw [List.length_map, h2]
      omega
    · rw [List.map_append]
      exact upd_same
    · rw [List.length_append, h2] <;> rfl
    · rcases List.mem_append.mp hx with q | q
      · exact h3 x q
      · rw [List.mem_singleton.mp q]
        exact ⟨r0, r1⟩
  · obtain ⟨kp, ns, h1, h2, h3⟩ := s
    exact fin D H ns hD kp h1 h2 h3
end
def RuW (r : Ru) : V → Hp → Prop := fun v H => ∃ p, v = .ref p ∧ RuAt H p r
def RcAt (r : Ru) : V → Hp → Prop := fun v H => ∃ p rl ch, v = .ref p ∧ H p = some (.tup [.ref rl, .ref ch]) ∧ RuAt H rl r ∧ H ch = some (.tup (r.ch.map V.int))
theorem ruW_up {r : Ru} : ∀ v H H', Kept H H' → RuW r v H → RuW r v H' := fun v H H' k h => by
  obtain ⟨p, e, h⟩ := h
  exact ⟨p, e, h.kept k⟩
theorem rcAt_up {r : Ru} : ∀ v H H', Kept H H' → RcAt r v H → RcAt r v H' := fun v H H' k h => by
  obtain ⟨p, rl, ch, e, h1, h2, h3⟩ := h
  exact ⟨p, rl, ch, e, k.tup h1, h2.kept k, k.tup h3⟩
section
variable {σ : L2.St} {H0 : Hp} {te : TE} {tq : TA}
theorem mk_t0 : MkE σ H0 (tTup tNil) (TupW ([] : List V)) := mk_tupW mk_nil (fun vs H e => e) (by decide)
theorem mk_t1 {a : V} {ta : TE} (h : MkE σ H0 ta (fun v _ => v = a)) : MkE σ H0 (tTup (tCons ta tNil)) (TupW [a]) := mk_tupW (mk_cons h mk_nil) (fun vs H q => by
  obtain ⟨v, r, e, e1, e2⟩ := q
  rw [e, e1, e2]) (by show 1 ≤ 1000; decide)
theorem mk_t2 {a b : V} {ta tb : TE} (h : MkE σ H0 ta (fun v _ => v = a)) (h2 : MkE σ H0 tb (fun v _ => v = b)) : MkE σ H0 (tTup (tCons ta (tCons tb tNil))) (TupW [a, b]) := mk_tupW (mk_cons h (mk_cons h2 mk_nil)) (fun vs H q => by
  obtain ⟨v, r, e, e1, v2, r2, e3, e4, e5⟩ := q
  rw [e, e1, e3, e4, e5]) (by show 2 ≤ 1000; decide)
theorem mk_t3 {a b c : V} {ta tb tc : TE} (h : MkE σ H0 ta (fun v _ => v = a)) (h2 : MkE σ H0 tb (fun v _ => v = b)) (h3 : MkE σ H0 tc (fun v _ => v = c)) : MkE σ H0 (tTup (tCons ta (tCons tb (tCons tc tNil)))) (TupW [a, b, c]) := mk_tupW (mk_cons h (mk_cons h2 (mk_cons h3 mk_nil))) (fun vs H q => by
  obtain ⟨v, r, e, e1, v2, r2, e3, e4, v3, r3, e5, e6, e7⟩ := q
  rw [e, e1, e3, e4, e5, e6, e7]) (by show 3 ≤ 1000; decide)
theorem mk_t4 {a b c e : V} {ta tb tc td : TE} (h : MkE σ H0 ta (fun v _ => v = a)) (h2 : MkE σ H0 tb (fun v _ => v = b)) (h3 : MkE σ H0 tc (fun v _ => v = c)) (h4 : MkE σ H0 td (fun v _ => v = e)) : MkE σ H0 (tTup (tCons ta (tCons tb (tCons tc (tCons td tNil))))) (TupW [a, b, c, e]) := mk_tupW (mk_cons h (mk_cons h2 (mk_cons h3 (mk_cons h4 mk_nil)))) (fun vs H q => by
  obtain ⟨v, r, e, e1, v2, r2, e3, e4, v3, r3, e5, e6, v4, r4, e7, e8, e9⟩ := q
  rw [e, e1, e3, e4, e5, e6, e7, e8, e9]) (by show 4 ≤ 1000; decide)
theorem mk_ruT {xs : List V} {r : Ru} (h : MkE σ H0 te (TupW xs)) (hr : ∀ H p, H p = some (.tup xs) → RuAt H p r) : MkE σ H0 te (RuW r) := h.weak (fun v H q => by
  obtain ⟨p, e, q⟩ := q
  exact ⟨p, e, hr H p q⟩) ruW_up
theorem mk_ru2 {s : Str} {W : V → Hp → Prop} {r : Ru} (h : MkE σ H0 te W) (hr : ∀ H p v, H p = some (.tup [.str s, v]) → W v H → RuAt H p r) : MkE σ H0 (tTup (tCons (tC (.str s)) (tCons te tNil))) (RuW r) :=
  (mk_tup (mk_cons mk_c (mk_cons h mk_nil)) fun vs H w => by
    obtain ⟨v, r, e, _, v2, r2, e2, _, e3⟩ := w
    rw [e, e2, e3]
    exact (by decide : 2 ≤ 1000)).weak (fun v H q => by
    obtain ⟨p, xs, e, a, u, r, e1, e2, u2, r2, e3, w, e4⟩ := q
    rw [e1, e2, e3, e4] at a
    exact ⟨p, e, hr H p u2 a w⟩) ruW_up
theorem mk_ru3 {s : Str} {W : V → Hp → Prop} {r : Ru} {x : V} {tx : TE} (h : MkE σ H0 te W) (hx : MkE σ H0 tx (fun v _ => v = x)) (hr : ∀ H p v, H p = some (.tup [.str s, v, x]) → W v H → RuAt H p r) : MkE σ H0 (tTup (tCons (tC (.str s)) (tCons te (tCons tx tNil)))) (RuW r) :=
  (mk_tup (mk_cons mk_c (mk_cons h (mk_cons hx mk_nil))) fun vs H w => by
    obtain ⟨v, r, e, _, v2, r2, e2, _, v3, r3, e3, _, e4⟩ := w
    rw [e, e2, e3, e4]
    exact (by decide : 3 ≤ 1000)).weak (fun v H q => by
    obtain ⟨p, xs, e, a, u, r, e1, e2, u2, r2, e3, w, u3, r3, e5, e6, e7⟩ := q
    rw [e1, e2, e3, e5, e6, e7] at a
    exact ⟨p, e, hr H p u2 a w⟩) ruW_up
theorem mk_rc {r : Ru} {t2 : TE} (h : MkE σ H0 te (RuW r)) (h2 : MkE σ H0 t2 (TupW (r.ch.map V.int))) : MkE σ H0 (tTup (tCons te (tCons t2 tNil))) (RcAt r) :=
  (mk_tup (mk_cons h (mk_cons h2 mk_nil)) fun vs H w => by
    obtain ⟨v, r, e, _, v2, r2, e2, _, e3⟩ := w
    rw [e, e2, e3]
    exact (by decide : 2 ≤ 1000)).weak (fun v H q => by
    obtain ⟨p, xs, e, a, u, r, e1, ⟨rl, e2, h1⟩, u2, r2, e3, ⟨ch, e4, h2⟩, e5⟩ := q
    rw [e1, e2, e3, e4, e5] at a
    exact ⟨p, rl, ch, e, a, h1, h2⟩) rcAt_up
theorem mk_yes : MkE σ H0 (tTup (tCons (tTup (tCons (tC (.str (Str.ofString "yes"))) tNil)) (tCons (tTup tNil) tNil))) (RcAt .yes) := mk_rc (mk_ruT (mk_t1 mk_c) fun H p h => h) mk_t0
theorem mk_no : MkE σ H0 (tTup (tCons (tTup (tCons (tC (.str (Str.ofString "no"))) tNil)) (tCons (tTup tNil) tNil))) (RcAt .no) := mk_rc (mk_ruT (mk_t1 mk_c) fun H p h => h) mk_t0
theorem mk_opn : MkE σ H0 (tTup (tCons (tTup (tCons (tC (.str (Str.ofString "open"))) tNil)) (tCons (tTup tNil) tNil))) (RcAt .opn) := mk_rc (mk_ruT (mk_t1 mk_c) fun H p h => h) mk_t0
theorem mk_refuted : MkE σ H0 (tTup (tCons (tTup (tCons (tC (.str (Str.ofString "refuted"))) (tCons (tTup (tCons (tTup tNil) tNil)) tNil))) (tCons (tTup tNil) tNil))) (RcAt .refuted) :=
  mk_rc (mk_ru2 (mk_tup (mk_cons mk_t0 mk_nil) fun vs H w => by
    obtain ⟨v, r, e, _, e2⟩ := w
    rw [e, e2]
    exact (by decide : 1 ≤ 1000)) fun H p v h w => by
    obtain ⟨q, xs, rfl, h1, u, r, e1, ⟨b, rfl, h2⟩, e2⟩ := w
    rw [e1, e2] at h1
    exact ⟨q, b, h, h1, h2⟩) mk_t0
theorem mk_som : MkE σ H0 (tTup (tCons (tTup (tCons (tC (.str (Str.ofString "some"))) (tCons (tTup (tCons (tUn (rU fun i => V.int (-i)) (tC (.int 3))) (tCons (tC (.int 4)) tNil))) tNil))) (tCons (tTup tNil) tNil))) (RcAt .som) :=
  mk_rc (mk_ru2 (mk_t2 (mk_neg mk_c) mk_c) fun H p v h w => by
    obtain ⟨q, rfl, h1⟩ := w
    exact ⟨q, h, h1⟩) mk_t0
end
theorem rd_five {K : PySem.W.Frag} {σ : L2.St} {H0 : Hp} {Q : VK} {ti : TE} {j : Int} (h0 : 0 ≤ j) (h1 : j < 5) (hi : ∀ H (R : VK), Kept H0 H → R (.int j) H → ti σ H R) (k : ∀ v H' r, Kept H0 H' → RcAt r v H' → r.ch = [] → Q v H') :
    tOp (rIxL K) (tLst (tCons (tTup (tCons (tTup (tCons (tC (.str (Str.ofString "yes"))) tNil)) (tCons (tTup tNil) tNil))) (tCons (tTup (tCons (tTup (tCons (tC (.str (Str.ofString "no"))) tNil)) (tCons (tTup tNil) tNil))) (tCons (tTup (tCons (tTup (tCons (tC (.str (Str.ofString "open"))) tNil)) (tCons (tTup tNil) tNil)))
      (tCons (tTup (tCons (tTup (tCons (tC (.str (Str.ofString "refuted"))) (tCons (tTup (tCons (tTup tNil) tNil)) tNil))) (tCons (tTup tNil) tNil)))
      (tCons (tTup (tCons (tTup (tCons (tC (.str (Str.ofString "some"))) (tCons (tTup (tCons (tUn (rU fun i => V.int (-i)) (tC (.int 3))) (tCons (tC (.int 4)) tNil))) tNil))) (tCons (tTup tNil) tNil))) tNil)))))) ti σ H0 Q := by
  refine w_op (w_lst ?_)
  have mA := mk_cons (σ := σ) (H0 := H0) mk_yes (mk_cons mk_no (mk_cons mk_opn (mk_cons mk_refuted (mk_cons mk_som mk_nil))))
  refine mA.run H0 _ (Kept.refl _) fun xs H1 k1 w => ?_
  obtain ⟨v1, q1, rfl, w1, v2, q2, rfl, w2, v3, q3, rfl, w3, v4, q4, rfl, w4, v5, q5, rfl, w5, rfl⟩ := w
  refine ⟨by show 5 ≤ sizeLine; decide, fun p hp => hi _ _ (k1.trans (Kept.new hp)) ?_⟩
  have kp := Kept.new (o := .lst [v1, v2, v3, v4, v5]) hp
  have hj : j = 0 ∨ j = 1 ∨ j = 2 ∨ j = 3 ∨ j = 4 := by omega
  rcases hj with rfl | rfl | rfl | rfl | rfl
  · exact w_ixL upd_same (v := v1) rfl (k _ _ _ (k1.trans kp) (rcAt_up _ _ _ kp w1) rfl)
  · exact w_ixL upd_same (v := v2) rfl (k _ _ _ (k1.trans kp) (rcAt_up _ _ _ kp w2) rfl)
  · exact w_ixL upd_same (v := v3) rfl (k _ _ _ (k1.trans kp) (rcAt_up _ _ _ kp w3) rfl)
  · exact w_ixL upd_same (v := v4) rfl (k _ _ _ (k1.trans kp) (rcAt_up _ _ _ kp w4) rfl)
  · exact w_ixL upd_same (v := v5) rfl (k _ _ _ (k1.trans kp) (rcAt_up _ _ _ kp w5) rfl)
def spRule : Sp := fun vs H Q _ => ∃ (d c : Addr) (n : Int), vs = [.ref d, .int n] ∧ 0 ≤ n ∧ n ≤ 100 ∧ DrwC d c H ∧ ∀ v H' r, KeptC d c H H' → RcAt r v H' → (∀ x ∈ r.ch, 0 ≤ x ∧ x < n) → r.ch.length ≤ 4 → Q v H'
section
variable {P : Program} {w : World} {K : PySem.W.Frag} {mg : Str → Option Value} {base : Heap} {uG : Value} {f : Addr} {fd : FuncData}
theorem ok_l_rule (F : Fun K "_law_rule" "_law_rule" s_l_rule f fd) (T : Tx K mg uG) (D_l_take : Df P w K mg base 1 "_law_take" ["draw", "many"] spTakeC) : FnOk P w K mg base CX0 2 f fd ["draw", "below"] spRule := by
  refine F.ok sc_l_rule (fun vs H Q E h => ?_) (fun cdv A outer s H vs Q E hr h => ?_)
  · obtain ⟨d, c, n, rfl, _⟩ := h
    rfl
  · obtain ⟨d, c, n, rfl, n0, n1, hD, k⟩ := h
    refine ⟨_, (pss_cons (ps_set (i := 2) sc_l_rule.nd rfl (.inl rfl) (pe_df D_l_take (hr.mono (by decide)) (by rfl) (pa_cons (pv 0) (pa_cons pe_int pa_nil))))
    (pss_cons (ps_set (i := 3) sc_l_rule.nd rfl (.inl rfl) (pe_df D_l_take (hr.mono (by decide)) (by rfl) (pa_cons (pv 0) (pa_cons (pe_callB (call_max2 rfl) (by rfl) T.z_max (by decide +kernel) (pa_cons (pv 1) (pa_cons pe_int pa_nil))) pa_nil))))
    (pss_cons (ps_set (i := 4) sc_l_rule.nd rfl (.inl rfl) (pe_df D_l_take (hr.mono (by decide)) (by rfl) (pa_cons (pv 0) (pa_cons (pe_callB (call_max2 rfl) (by rfl) T.z_max (by decide +kernel) (pa_cons (pv 1) (pa_cons pe_int pa_nil))) pa_nil))))
    (pss_cons (ps_if (PW.pt (pw_or (pt_cmpR op_eq (pv 1) pe_int (nomark _)) (pw_or1 (pt_cmpR op_lt (pv 2) pe_int (nomark _)))))
      (pss_one (ps_ret (pe_ix (ix_listK (K := K) rfl) (pe_lst (pa_cons (pe_tup (pa_cons (pe_tup (pa_cons pe_str pa_nil)) (pa_cons (pe_tup pa_nil) pa_nil))) (pa_cons (pe_tup (pa_cons (pe_tup (pa_cons pe_str pa_nil)) (pa_cons (pe_tup pa_nil) pa_nil))) (pa_cons (pe_tup (pa_cons (pe_tup (pa_cons pe_str pa_nil)) (pa_cons (pe_tup pa_nil) pa_nil))) (pa_cons (pe_tup (pa_cons (pe_tup (pa_cons pe_str (pa_cons (pe_tup (pa_cons (pe_tup pa_nil) pa_nil)) pa_nil))) (pa_cons (pe_tup pa_nil) pa_nil))) (pa_cons (pe_tup (pa_cons (pe_tup (pa_cons pe_str (pa_cons (pe_tup (pa_cons (pe_un un_neg pe_int) (pa_cons pe_int pa_nil))) pa_nil))) (pa_cons (pe_tup pa_nil) pa_nil))) pa_nil)))))) (pe_op op_mod (pe_callTy call_int1 (by rfl) T.z_int (by decide +kernel) (pa_cons (pv 2) pa_nil)) pe_int) (fun _ _ => rfl))))
      pss_nil)
    (pss_cons (ps_if (pt_cmpR op_eq (pv 2) pe_int (nomark _))
      (pss_one (ps_ret (pe_tup (pa_cons (pe_tup (pa_cons pe_str (pa_cons (pe_un un_neg pe_int) (pa_cons (pv 3) pa_nil)))) (pa_cons (pe_tup (pa_cons (pv 3) pa_nil)) pa_nil)))))
      pss_nil)
    (pss_cons (ps_if (pt_cmpR op_eq (pv 2) pe_int (nomark _))
      (pss_one (ps_ret (pe_tup (pa_cons (pe_tup (pa_cons pe_str (pa_cons pe_int (pa_cons (pv 3) (pa_cons (pv 4) pa_nil))))) (pa_cons (pe_tup (pa_cons (pv 3) (pa_cons (pv 4) pa_nil))) pa_nil)))))
      pss_nil)
    (pss_cons (ps_if (pt_cmpR op_lt (pv 2) pe_int (nomark _))
      (pss_cons (ps_set (i := 5) sc_l_rule.nd rfl (.inl rfl) (pe_callTy call_tuple_of (by rfl) T.z_tuple (by decide +kernel) (pa_cons (pe_lc (own := [("j", 6)]) (g := gName 6) (by rfl) sc_l_rule.nd (pi_range1 (by rfl) T.z_range (pa_cons (pe_df D_l_take (hr.mono (by decide)) (by rfl) (pa_cons (pv 0) (pa_cons pe_int pa_nil))) pa_nil)) (blkOk_by (own := [("j", 6)]) (N := n_l_rule) (sc := defScope s_l_rule) (by decide +kernel)) (fun _ _ _ _ _ => pg_name (i := 6) sc_l_rule.nd rfl (Or.inl rfl)) (fun _ _ _ _ _ => pts_nil) (fun _ _ _ _ _ => (pe_df D_l_take (hr.mono (by decide)) (by rfl) (pa_cons (pv 0) (pa_cons (pv 1) pa_nil))))) pa_nil)))
    (pss_one (ps_ret (pe_tup (pa_cons (pe_tup (pa_cons pe_str (pa_cons (pv 5) pa_nil))) (pa_cons (pv 5) pa_nil))))))
      pss_nil)
    (pss_cons (ps_if (pt_cmpR op_eq (pv 2) pe_int (nomark _))
      (pss_one (ps_ret (pe_tup (pa_cons (pe_tup (pa_cons pe_str (pa_cons (pe_tup (pa_cons pe_int (pa_cons pe_int pa_nil))) (pa_cons (pv 3) pa_nil)))) (pa_cons (pe_tup (pa_cons (pv 3) pa_nil)) pa_nil)))))
      pss_nil)
    (pss_one (ps_ret (pe_tup (pa_cons (pe_tup (pa_cons pe_str (pa_cons (pv 3) pa_nil))) (pa_cons (pe_tup (pa_cons (pv 3) pa_nil)) pa_nil))))))))))))), ?_⟩
    rw [show start n_l_rule [(.ref d : V), (.int n : V)] = ([some (.ref d), some (.int n), none, none, none, none, none] : List (Option V)) from rfl]
    have hz : 1001 ≤ sizeLine := by decide
    walk_at "rd"
    refine ⟨d, c, 10, rfl, by decide, by decide, hD, fun r1 H1 l1 g1 k1 => ?_⟩
    have hD1 := k1.drw hD
    walk_at "rd"
    refine ⟨n, 1, rfl, ?_⟩
    obtain ⟨M, hM⟩ : ∃ M : Int, M = if 1 > n then 1 else n := ⟨_, rfl⟩
    rw [← hM]
    have M0 : 0 < M ∧ M ≤ 101 := by
      rw [hM]
      split <;> omega
    walk_at "rd"
    refine ⟨d, c, M, rfl, M0.1, by omega, hD1, fun a H2 l2 g2 k2 => ?_⟩
    have hD2 := k2.drw hD1
    walk_at "rd"
    refine ⟨n, 1, rfl, ?_⟩
    rw [← hM]
    walk_at "rd"
    refine ⟨d, c, M, rfl, M0.1, by omega, hD2, fun b H3 l3 g3 k3 => ?_⟩
    have hD3 := k3.drw hD2
    have kA := (k1.trans k2).trans k3
    have hk5 : 0 ≤ r1 % 5 ∧ r1 % 5 < 5 := ⟨Int.emod_nonneg _ (by decide), Int.emod_lt_of_pos _ (by decide)⟩
    have fin5 : ∀ v H' r, Kept H3 H' → RcAt r v H' → r.ch = [] → Q v H' := fun v H' r kk hrc he => k v H' r (kA.trans kk.toC) hrc (by rw [he]; exact fun x hx => by simp at hx) (by rw [he]; exact Nat.zero_le _)
    walk_at "rd"
    by_cases hn0 : n = 0
    · refine if_t (decide_eq_true (by rw [hn0])) (if_t rfl (w_ret (rd_five hk5.1 hk5.2 (fun H R kk q => ?_) fin5)))
      walk_at "rd"
      refine .inl ⟨_, rfl, ?_⟩
      walk_at "rd"
      exact w_I (by show (0 : Int) < 5; decide) q
    refine if_f (decide_eq_false fun e => hn0 (V.int.inj e)) ?_
    have eM : M = n := by
      rw [hM, if_neg (by omega)]
    rw [eM] at g2 g3
    walk_at "rd"
    by_cases h4 : r1 < 4
    · refine if_t (decide_eq_true h4) (w_ret (rd_five hk5.1 hk5.2 (fun H R kk q => ?_) fin5))
      walk_at "rd"
      refine .inl ⟨_, rfl, ?_⟩
      walk_at "rd"
      exact w_I (by show (0 : Int) < 5; decide) q
    refine if_f (decide_eq_false h4) ?_
    walk_at "rd"
    have in1 : ∀ x ∈ [a], 0 ≤ x ∧ x < n := fun x hx => by
      rw [List.mem_singleton.mp hx]
      exact ⟨l2, g2⟩
    refine ite2 (fun _ => w_ret ((mk_rc (r := .unit a) (mk_ruT (mk_t3 mk_c (mk_neg mk_c) (mk_var rfl)) fun H p h => h) (mk_t1 (mk_var rfl))).run H3 _ (Kept.refl _) fun v H4 kk w => k v H4 _ (kA.trans kk.toC) w in1 (by show 1 ≤ 4; decide))) (fun _ => ?_)
    walk_at "rd"
    refine ite2 (fun _ => w_ret ((mk_rc (r := .choice a b) (mk_ruT (mk_t4 mk_c mk_c (mk_var rfl) (mk_var rfl)) fun H p h => h) (mk_t2 (mk_var rfl) (mk_var rfl))).run H3 _ (Kept.refl _) fun v H4 kk w => k v H4 _ (kA.trans kk.toC) w (fun x hx => ?_) (by show 2 ≤ 4; decide))) (fun _ => ?_)
    · rcases List.mem_cons.mp hx with rfl | hx
      · exact ⟨l2, g2⟩
      · rw [List.mem_singleton.mp hx]
        exact ⟨l3, g3⟩
    walk_at "rd"
    refine ite2 (fun _ => ?_) (fun _ => ?_)
    · walk_at "rd"
      refine ⟨d, c, 4, rfl, by decide, by decide, hD3, fun m H4 l4 g4 k4 => ?_⟩
      have hD4 := k4.drw hD3
      refine ⟨m, rfl, by omega, by omega, LcJ.draws (m := n) hD4 (by omega) (fun i H5 kk hi k5 hk => ?_) fun D H5 ns hD5 k5 e1 e2 e3 => ?_⟩
      · walk_at "rd"
        exact ⟨d, c, n, rfl, by omega, by omega, k5.drw hD4, fun r H6 l6 g6 k6 => hk r H6 k6 l6 g6⟩
      · refine ⟨D, _, rfl, .inl ⟨SqL.of e1, fun q hq => ?_⟩⟩
        have kq := Kept.new (o := .tup (ns.map V.int)) hq
        have kB := (kA.trans (k4.trans k5)).trans kq.toC
        have hq1 : (upd H5 q (.tup (ns.map V.int))) q = some (.tup (ns.map V.int)) := upd_same
        generalize upd H5 q (.tup (ns.map V.int)) = H6 at kB hq1
        refine (w_ret ((mk_rc (r := .parts ns) (mk_ru2 (mk_varT rfl hq1) fun H p v h w => ?_) (mk_varT rfl hq1)).run H6 _ (Kept.refl _) fun v H7 kk w => k v H7 _ (kB.trans kk.toC) w e3 (by show ns.length ≤ 4; omega)))
        obtain ⟨q2, rfl, h2⟩ := w
        exact ⟨q2, h, h2⟩
    walk_at "rd"
    refine ite2 (fun _ => w_ret ((mk_rc (r := .more a) (mk_ru3 (mk_t2 mk_c mk_c) (mk_var rfl) fun H p v h w => ?_) (mk_t1 (mk_var rfl))).run H3 _ (Kept.refl _) fun v H4 kk w => k v H4 _ (kA.trans kk.toC) w in1 (by show 1 ≤ 4; decide))) (fun _ => ?_)
    · obtain ⟨q2, rfl, h2⟩ := w
      exact ⟨q2, h, h2⟩
    refine w_next (w_ret ((mk_rc (r := .less a) (mk_ruT (mk_t2 mk_c (mk_var rfl)) fun H p h => h) (mk_t1 (mk_var rfl))).run H3 _ (Kept.refl _) fun v H4 kk w => k v H4 _ (kA.trans kk.toC) w in1 (by show 1 ≤ 4; decide)))
end
end Ky

namespace Ky
open PySem PySem.Spec PyProof.Rows L2
local macro_rules | `(tactic| walk_at "rd") => `(tactic| repeat (first
  | with_reducible refine w_for1 ?_
  | with_reducible refine w_for2 ?_
  | with_reducible refine w_forL ?_
  | with_reducible refine w_forT ?_
  | with_reducible refine w_lc1 ?_
  | with_reducible refine w_lcL ?_
  | with_reducible refine w_lcT ?_
  | with_reducible refine w_seq ?_
  | with_reducible refine w_asg ?_
  | with_reducible refine w_ret ?_
  | with_reducible refine w_drop ?_
  | with_reducible refine w_ifs ?_
  | ((with_reducible refine' w_var ?hh ?_); (case hh => exact rfl))
  | with_reducible refine w_c ?_
  | with_reducible refine w_op ?_
  | with_reducible refine w_un ?_
  | with_reducible refine w_I0 ?_
  | with_reducible refine w_U ?_
  | with_reducible refine w_nil ?_
  | with_reducible refine w_cons ?_
  | with_reducible refine w_call ?_
  | with_reducible refine w_cb ?_
  | with_reducible refine w_test ?_
  | with_reducible refine w_B ?_
  | with_reducible refine w_bl ?_
  | with_reducible refine w_and ?_
  | with_reducible refine w_or ?_
  | with_reducible refine w_not ?_
  | with_reducible refine w_ife ?_
  | with_reducible refine w_gRd ?_
  | with_reducible refine w_andV ?_
  | with_reducible refine w_orV ?_
  | with_reducible refine w_notV ?_
  | with_reducible refine w_chain ?_
  | with_reducible refine w_din ?_
  | with_reducible refine w_isi_ii ?_
  | with_reducible refine w_isi_bi ?_
  | with_reducible refine w_isi_bb ?_
  | with_reducible refine w_isi_bt ?_
  | with_reducible refine w_isi_si ?_
  | with_reducible refine w_isi_nt ?_
  | with_reducible refine w_isi_ib ?_
  | with_reducible refine w_isi_it ?_
  | with_reducible refine w_isi_st ?_
  | ((with_reducible refine w_isi_tt ?h1 ?_); (case h1 => first | assumption | exact upd_same))
  | with_reducible refine if_t rfl ?_
  | with_reducible refine if_f rfl ?_
  | with_reducible refine w_tup ?_
  | with_reducible refine w_lst ?_
  | with_reducible refine w_next ?_
  | with_reducible refine w_bm ?_
  | with_reducible refine w_sl ?_
  | with_reducible refine w_part ?_
  | with_reducible refine w_nop ?_
  | with_reducible refine w_isI ?_
  | with_reducible refine w_yes ?_
  | with_reducible refine w_gn ?_
  | with_reducible refine w_gsub ?_
  | ((with_reducible refine' w_setL ?h1 ?h2 ?_); (case h1 => first | assumption | exact upd_same); (case h2 => exact rfl))
  | with_reducible refine w_asgG ?_
  | with_reducible refine w_m1 ?_
  | with_reducible refine w_isS ?_
  | with_reducible refine w_tyS ?_
  | ((with_reducible refine' w_tyL ?h1 ?_); (case h1 => first | assumption | exact upd_same))
  | ((with_reducible refine' w_ixT ?h1 ?h2 ?_); (case h1 => first | assumption | exact upd_same); (case h2 => exact rfl))
  | ((with_reducible refine' w_ixL ?h1 ?h2 ?_); (case h1 => first | assumption | exact upd_same); (case h2 => exact rfl))
  | ((with_reducible refine w_eq ?h1 ?_); (case h1 => exact rfl))
  | ((with_reducible refine w_ne ?h1 ?_); (case h1 => exact rfl))
  | dsimp only [List.set_cons_zero, List.set_cons_succ, List.append_nil, List.cons_append, List.nil_append, cxOf]))

theorem canLay_ints : ∀ ls : List Int, PyData.canLayAll0 (ls.map PyData.int) = true
  | [] => by simp [PyData.canLayAll0]
  | x :: xs => by
    rw [List.map_cons, PyData.canLayAll0, canLay_ints xs]
    simp [PyData.canLay0]
theorem shT_ints (ls : List Int) : SeqAt.shaped (.tuple (ls.map PyData.int)) = true := by
  unfold SeqAt.shaped
  simp only [PyData.canLay0, canLay_ints, Bool.true_and, PyData.depth, PySem.W.depth_ints]
  rfl
theorem eqvAll_ints : ∀ xs ys : List Int, PyData.eqvAll (xs.map PyData.int) (ys.map PyData.int) = decide (xs = ys)
  | [], [] => by simp [PyData.eqvAll]
  | [], y :: ys => by simp [PyData.eqvAll]
  | x :: xs, [] => by simp [PyData.eqvAll]
  | x :: xs, y :: ys => by
    rw [List.map_cons, List.map_cons, PyData.eqvAll, eqvAll_ints xs ys]
    simp only [PyData.eqv]
    by_cases h : x = y <;> by_cases h2 : xs = ys <;> simp [h, h2]
theorem eqv_ints (xs ys : List Int) : PyData.eqv (.tuple (xs.map PyData.int)) (.tuple (ys.map PyData.int)) = decide (xs = ys) := by
  simp only [PyData.eqv]
  exact eqvAll_ints xs ys
theorem dp_ints {K : PySem.W.Frag} {H : Hp} {b : Addr} {ls : List Int} (h : H b = some (.tup (ls.map V.int))) : Dp K H (.ref b) (.tuple (ls.map PyData.int)) := .tup (SqT.of h) (dpAll_ints ls)
theorem w_slT {K : PySem.W.Frag} {H : Hp} {p : Addr} {xs : List V} {u : Int} {Q : VK} (h : H p = some (.tup xs)) (hne : HT.sIx xs.length xs.length (some u) ≠ xs.length) (q : ∀ p2, H p2 = none → Q (.ref p2) (upd H p2 (.tup (cutV xs none (some u))))) : rSlA K (.ref p) none (some u) H Q :=
  ⟨p, xs, rfl, SqT.of h, fun e => absurd e.2 hne, fun _ => q⟩
theorem w_catT {K : PySem.W.Frag} {H : Hp} {a b : Addr} {x y : V} {xs ys : List V} {Q : VK} (h1 : H a = some (.tup (x :: xs))) (h2 : H b = some (.tup (y :: ys))) (hl : (x :: xs).length + (y :: ys).length ≤ 1000) (q : ∀ p, H p = none → Q (.ref p) (upd H p (.tup (x :: xs ++ y :: ys)))) : rCatA K (.ref a) (.ref b) H Q := by
  refine ⟨a, b, _, _, rfl, rfl, SqT.of h1, SqT.of h2, Nat.le_trans hl (by decide), fun e => ?_, fun _ e => ?_, fun _ _ => q⟩
  · cases e
  · cases e
theorem w_eqNil {K : PySem.W.Frag} {H : Hp} {ch p : Addr} {xs : List Int} {Q : VK} (h1 : H ch = some (.tup (xs.map V.int))) (h2 : H p = some (.tup [])) (q : Q (.bl (decide (xs = []))) H) : rEqD K (.ref ch) (.ref p) H Q := by
  refine ⟨_, _, dp_ints h1, dp_ints (ls := []) h2, shT_ints xs, shT_ints [], ?_⟩
  rw [eqv_ints]
  exact q
def spLRen : Sp := fun vs H Q _ => ∃ (p ch d : Addr) (r : Ru) (kvs : List (L2.Key × V)) (f : Int → Int), vs = [.ref p, .ref ch, .ref d] ∧ RuAt H p r ∧ H ch = some (.tup (r.ch.map V.int)) ∧ Rd H d (.dK kvs) ∧ (∀ c ∈ r.ch, valV kvs (.inl c) = some (.int (f c))) ∧ r.ch.length ≤ 100 ∧ ∀ q H', Kept H H' → RuAt H' q (r.map f) → Q (.ref q) H'
section
variable {P : Program} {w : World} {K : PySem.W.Frag} {mg : Str → Option Value} {base : Heap} {uG : Value} {f : Addr} {fd : FuncData}
theorem ok_l_renamed (F : Fun K "_law_renamed" "_law_renamed" s_l_renamed f fd) (T : Tx K mg uG) : FnOk P w K mg base CX0 1 f fd ["rule", "children", "numbers"] spLRen := by
  refine F.ok sc_l_renamed (fun vs H Q E h => ?_) (fun cdv A outer s H vs Q E hr h => ?_)
  · obtain ⟨p, ch, d, r, kvs, g, rfl, _⟩ := h
    rfl
  · obtain ⟨p, ch, d, r, kvs, g, rfl, hr0, hch, hd, hc, hl, k⟩ := h
    refine ⟨_, (pss_cons (ps_set (i := 3) sc_l_renamed.nd rfl (.inl rfl) (pe_callTy call_tuple_of (by rfl) T.z_tuple (by decide +kernel) (pa_cons (pe_lc (own := [("child", 4)]) (g := gName 4) (by rfl) sc_l_renamed.nd (pi_tupK (K := K) rfl (pv 1)) (blkOk_by (own := [("child", 4)]) (N := n_l_renamed) (sc := defScope s_l_renamed) (by decide +kernel)) (fun _ _ _ _ _ => pg_name (i := 4) sc_l_renamed.nd rfl (Or.inl rfl)) (fun _ _ _ _ _ => pts_nil) (fun _ _ _ _ _ => (pe_dget hr.u1 (pv 2) (pv 4) (fun _ _ => rfl)))) pa_nil)))
    (pss_cons (ps_if (pt_cmpR op_eq (pe_ix (ix_tupK (K := K) rfl) (pv 0) pe_int (fun _ _ => rfl)) pe_str (nomark _))
      (pss_one (ps_ret (pe_tup (pa_cons pe_str (pa_cons (pv 3) pa_nil)))))
      pss_nil)
    (pss_cons (ps_if (pt_cmpR (opK (K := K) (r := rEqD) rfl (op_eqD hr.units)) (pv 1) (pe_tup pa_nil) (nomark _))
      (pss_one (ps_ret (pv 0)))
      pss_nil)
    (pss_one (ps_ret (pe_op op_catA (pe_slice (sl_tupAK (K := K) rfl) (pv 0) po_none (po_some (pe_op op_sub (pe_callB (call_lenK (K := K) rfl) (by rfl) T.z_len (by decide +kernel) (pa_cons (pv 0) pa_nil)) (pe_callB (call_lenK (K := K) rfl) (by rfl) T.z_len (by decide +kernel) (pa_cons (pv 1) pa_nil))))) (pv 3))))))), ?_⟩
    rw [show start n_l_renamed [(.ref p : V), (.ref ch : V), (.ref d : V)] = ([some (.ref p), some (.ref ch), some (.ref d), none, none] : List (Option V)) from rfl]
    have hz : 1001 ≤ sizeLine := by decide
    walk_at "rd"
    refine LcT.ints (ns := r.ch) (fun _ => true) (fun n => V.int (g n)) (by omega) hch (fun n H4 kk kk2 hn kp4 h5 h6 => ?_) fun D H4 hD kp4 hDl => ?_
    · refine w_yes (if_t rfl ?_)
      exact ⟨_, rfl, _, rfl, d, _, rfl, dget_of (Ky.Rd.kept hd kp4) (hc n hn), h5 H4 (Kept.refl _) rfl⟩
    · rw [List.filter_eq_self.mpr (fun _ _ => rfl)] at hDl
      have hDl2 : H4 D = some (.lst ((r.ch.map g).map V.int)) := by rw [hDl, List.map_map] <;> rfl
      refine ⟨D, _, rfl, .inl ⟨SqL.of hDl2, fun q hq => ?_⟩⟩
      have kq := kp4.trans (Kept.new (o := .tup ((r.ch.map g).map V.int)) hq)
      have hq1 : (upd H4 q (.tup ((r.ch.map g).map V.int))) q = some (.tup ((r.ch.map g).map V.int)) := upd_same
      generalize upd H4 q (.tup ((r.ch.map g).map V.int)) = H5 at kq hq1
      have hr5 := hr0.kept kq
      have hch5 := kq.tup hch
      cases r with
      | parts row =>
        obtain ⟨r2, hp, h2⟩ := hr5
        walk_at "rd"
        exact ⟨by show 2 ≤ sizeLine; omega, fun q2 hq2 => k q2 _ (kq.trans (Kept.new hq2)) ⟨q, upd_same, (Kept.new hq2).tup hq1⟩⟩
      | yes =>
        have hp : H5 p = some (.tup [.str (Str.ofString "yes")]) := hr5
        walk_at "rd"
        refine ⟨Nat.zero_le _, fun p1 hp1 => ?_⟩
        have k6 := Kept.new (o := .tup []) hp1
        refine w_eqNil (xs := []) (k6.tup hch5) upd_same ?_
        walk_at "rd"
        exact k p _ (kq.trans k6) (hr5.kept k6)
      | no =>
        have hp : H5 p = some (.tup [.str (Str.ofString "no")]) := hr5
        walk_at "rd"
        refine ⟨Nat.zero_le _, fun p1 hp1 => ?_⟩
        have k6 := Kept.new (o := .tup []) hp1
        refine w_eqNil (xs := []) (k6.tup hch5) upd_same ?_
        walk_at "rd"
        exact k p _ (kq.trans k6) (hr5.kept k6)
      | opn =>
        have hp : H5 p = some (.tup [.str (Str.ofString "open")]) := hr5
        walk_at "rd"
        refine ⟨Nat.zero_le _, fun p1 hp1 => ?_⟩
        have k6 := Kept.new (o := .tup []) hp1
        refine w_eqNil (xs := []) (k6.tup hch5) upd_same ?_
        walk_at "rd"
        exact k p _ (kq.trans k6) (hr5.kept k6)
      | refuted =>
        obtain ⟨x1, x2, hp, _, _⟩ := id hr5
        walk_at "rd"
        refine ⟨Nat.zero_le _, fun p1 hp1 => ?_⟩
        have k6 := Kept.new (o := .tup []) hp1
        refine w_eqNil (xs := []) (k6.tup hch5) upd_same ?_
        walk_at "rd"
        exact k p _ (kq.trans k6) (hr5.kept k6)
      | som =>
        obtain ⟨x1, hp, _⟩ := id hr5
        walk_at "rd"
        refine ⟨Nat.zero_le _, fun p1 hp1 => ?_⟩
        have k6 := Kept.new (o := .tup []) hp1
        refine w_eqNil (xs := []) (k6.tup hch5) upd_same ?_
        walk_at "rd"
        exact k p _ (kq.trans k6) (hr5.kept k6)
      | unit a =>
        have hp : H5 p = some (.tup [.str (Str.ofString "unit"), .int (-7), .int a]) := hr5
        walk_at "rd"
        refine ⟨Nat.zero_le _, fun p1 hp1 => ?_⟩
        have k6 := Kept.new (o := .tup []) hp1
        have hp6 := k6.tup hp
        have hch6 := k6.tup hch5
        have hq6 := k6.tup hq1
        refine w_eqNil (xs := [a]) hch6 upd_same ?_
        generalize upd H5 p1 (.tup []) = H6 at k6 hp6 hch6 hq6
        walk_at "rd"
        refine ⟨p, _, rfl, .inr (SqT.of hp6), ?_⟩
        walk_at "rd"
        refine ⟨ch, _, rfl, .inr (SqT.of hch6), ?_⟩
        walk_at "rd"
        refine w_slT hp6 (by show HT.sIx 3 3 (some 2) ≠ 3; decide) fun p2 hp2 => ?_
        have k7 := Kept.new (o := .tup [.str (Str.ofString "unit"), .int (-7)]) hp2
        refine w_var rfl (w_catT (show _ = some (.tup [.str (Str.ofString "unit"), .int (-7)]) from upd_same) (k7.tup hq6) (by show 3 ≤ 1000; decide) fun p3 hp3 => ?_)
        exact k p3 _ (kq.trans (k6.trans (k7.trans (Kept.new hp3)))) upd_same
      | choice a b =>
        have hp : H5 p = some (.tup [.str (Str.ofString "choice"), .int 5, .int a, .int b]) := hr5
        walk_at "rd"
        refine ⟨Nat.zero_le _, fun p1 hp1 => ?_⟩
        have k6 := Kept.new (o := .tup []) hp1
        have hp6 := k6.tup hp
        have hch6 := k6.tup hch5
        have hq6 := k6.tup hq1
        refine w_eqNil (xs := [a, b]) hch6 upd_same ?_
        generalize upd H5 p1 (.tup []) = H6 at k6 hp6 hch6 hq6
        walk_at "rd"
        refine ⟨p, _, rfl, .inr (SqT.of hp6), ?_⟩
        walk_at "rd"
        refine ⟨ch, _, rfl, .inr (SqT.of hch6), ?_⟩
        walk_at "rd"
        refine w_slT hp6 (by show HT.sIx 4 4 (some 2) ≠ 4; decide) fun p2 hp2 => ?_
        have k7 := Kept.new (o := .tup [.str (Str.ofString "choice"), .int 5]) hp2
        refine w_var rfl (w_catT (show _ = some (.tup [.str (Str.ofString "choice"), .int 5]) from upd_same) (k7.tup hq6) (by show 4 ≤ 1000; decide) fun p3 hp3 => ?_)
        exact k p3 _ (kq.trans (k6.trans (k7.trans (Kept.new hp3)))) upd_same
      | more a =>
        obtain ⟨r2, hp, h2⟩ := hr5
        walk_at "rd"
        refine ⟨Nat.zero_le _, fun p1 hp1 => ?_⟩
        have k6 := Kept.new (o := .tup []) hp1
        have hp6 := k6.tup hp
        have hch6 := k6.tup hch5
        have hq6 := k6.tup hq1
        refine w_eqNil (xs := [a]) hch6 upd_same ?_
        generalize upd H5 p1 (.tup []) = H6 at k6 hp6 hch6 hq6
        walk_at "rd"
        refine ⟨p, _, rfl, .inr (SqT.of hp6), ?_⟩
        walk_at "rd"
        refine ⟨ch, _, rfl, .inr (SqT.of hch6), ?_⟩
        walk_at "rd"
        refine w_slT hp6 (by show HT.sIx 3 3 (some 2) ≠ 3; decide) fun p2 hp2 => ?_
        have k7 := Kept.new (o := .tup [.str (Str.ofString "more"), .ref r2]) hp2
        refine w_var rfl (w_catT (show _ = some (.tup [.str (Str.ofString "more"), .ref r2]) from upd_same) (k7.tup hq6) (by show 3 ≤ 1000; decide) fun p3 hp3 => ?_)
        exact k p3 _ (kq.trans (k6.trans (k7.trans (Kept.new hp3)))) ⟨r2, upd_same, (Kept.new hp3).tup (k7.tup (k6.tup h2))⟩
      | less a =>
        have hp : H5 p = some (.tup [.str (Str.ofString "less"), .int a]) := hr5
        walk_at "rd"
        refine ⟨Nat.zero_le _, fun p1 hp1 => ?_⟩
        have k6 := Kept.new (o := .tup []) hp1
        have hp6 := k6.tup hp
        have hch6 := k6.tup hch5
        have hq6 := k6.tup hq1
        refine w_eqNil (xs := [a]) hch6 upd_same ?_
        generalize upd H5 p1 (.tup []) = H6 at k6 hp6 hch6 hq6
        walk_at "rd"
        refine ⟨p, _, rfl, .inr (SqT.of hp6), ?_⟩
        walk_at "rd"
        refine ⟨ch, _, rfl, .inr (SqT.of hch6), ?_⟩
        walk_at "rd"
        refine w_slT hp6 (by show HT.sIx 2 2 (some 1) ≠ 2; decide) fun p2 hp2 => ?_
        have k7 := Kept.new (o := .tup [.str (Str.ofString "less")]) hp2
        refine w_var rfl (w_catT (show _ = some (.tup [.str (Str.ofString "less")]) from upd_same) (k7.tup hq6) (by show 2 ≤ 1000; decide) fun p3 hp3 => ?_)
        exact k p3 _ (kq.trans (k6.trans (k7.trans (Kept.new hp3)))) upd_same
end
end Ky

namespace Ky
open PySem PySem.Spec PyProof.Rows L2
local macro_rules | `(tactic| walk_at "rd") => `(tactic| repeat (first
  | with_reducible refine w_for1 ?_
  | with_reducible refine w_for2 ?_
  | with_reducible refine w_forL ?_
  | with_reducible refine w_forT ?_
  | with_reducible refine w_lc1 ?_
  | with_reducible refine w_lcL ?_
  | with_reducible refine w_lcT ?_
  | with_reducible refine w_seq ?_
  | with_reducible refine w_asg ?_
  | with_reducible refine w_ret ?_
  | with_reducible refine w_drop ?_
  | with_reducible refine w_ifs ?_
  | ((with_reducible refine' w_var ?hh ?_); (case hh => exact rfl))
  | with_reducible refine w_c ?_
  | with_reducible refine w_op ?_
  | with_reducible refine w_un ?_
  | with_reducible refine w_I0 ?_
  | with_reducible refine w_U ?_
  | with_reducible refine w_nil ?_
  | with_reducible refine w_cons ?_
  | with_reducible refine w_call ?_
  | with_reducible refine w_cb ?_
  | with_reducible refine w_test ?_
  | with_reducible refine w_B ?_
  | with_reducible refine w_bl ?_
  | with_reducible refine w_and ?_
  | with_reducible refine w_or ?_
  | with_reducible refine w_not ?_
  | with_reducible refine w_ife ?_
  | with_reducible refine w_gRd ?_
  | with_reducible refine w_andV ?_
  | with_reducible refine w_orV ?_
  | with_reducible refine w_notV ?_
  | with_reducible refine w_chain ?_
  | with_reducible refine w_din ?_
  | with_reducible refine w_isi_ii ?_
  | with_reducible refine w_isi_bi ?_
  | with_reducible refine w_isi_bb ?_
  | with_reducible refine w_isi_bt ?_
  | with_reducible refine w_isi_si ?_
  | with_reducible refine w_isi_nt ?_
  | with_reducible refine w_isi_ib ?_
  | with_reducible refine w_isi_it ?_
  | with_reducible refine w_isi_st ?_
  | ((with_reducible refine w_isi_tt ?h1 ?_); (case h1 => first | assumption | exact upd_same))
  | with_reducible refine if_t rfl ?_
  | with_reducible refine if_f rfl ?_
  | with_reducible refine w_tup ?_
  | with_reducible refine w_lst ?_
  | with_reducible refine w_next ?_
  | with_reducible refine w_bm ?_
  | with_reducible refine w_sl ?_
  | with_reducible refine w_part ?_
  | with_reducible refine w_nop ?_
  | with_reducible refine w_isI ?_
  | with_reducible refine w_yes ?_
  | with_reducible refine w_gn ?_
  | with_reducible refine w_gsub ?_
  | ((with_reducible refine' w_setL ?h1 ?h2 ?_); (case h1 => first | assumption | exact upd_same); (case h2 => exact rfl))
  | with_reducible refine w_asgG ?_
  | with_reducible refine w_m1 ?_
  | with_reducible refine w_isS ?_
  | with_reducible refine w_tyS ?_
  | ((with_reducible refine' w_tyL ?h1 ?_); (case h1 => first | assumption | exact upd_same))
  | ((with_reducible refine' w_ixT ?h1 ?h2 ?_); (case h1 => first | assumption | exact upd_same); (case h2 => exact rfl))
  | ((with_reducible refine' w_ixL ?h1 ?h2 ?_); (case h1 => first | assumption | exact upd_same); (case h2 => exact rfl))
  | ((with_reducible refine w_eq ?h1 ?_); (case h1 => exact rfl))
  | ((with_reducible refine w_ne ?h1 ?_); (case h1 => exact rfl))
  | dsimp only [List.set_cons_zero, List.set_cons_succ, List.append_nil, List.cons_append, List.nil_append, cxOf]))

/-! ### how often a text stands in a list -/
def rCntS (K : PySem.W.Frag) : V → List V → Hp → VK → Prop := fun x xs H Q => ∃ (p : Addr) (ws : List Str) (z : Str), x = .ref p ∧ xs = [.str z] ∧ SqL K H p (ws.map V.str) ∧ Q (.int (ws.count z : Nat)) H
theorem plain_strs : ∀ ws : List Str, PyData.plainAll (ws.map PyData.str) = true
  | [] => by simp [PyData.plainAll]
  | w :: ws => by
    rw [List.map_cons, PyData.plainAll, plain_strs ws]
    simp [PyData.plain]
theorem count_strs (z : Str) (ws : List Str) : (ws.map PyData.str).countP (fun y => PyData.eqv y (.str z)) = ws.count z := by
  rw [List.countP_map, List.count_eq_countP]
  refine List.countP_congr fun w _ => ?_
  simp [PyData.eqv]
theorem mt_lcountS {X : Cx} (hu : X.A.units + 64 < cLine) : MtR X "list.count" (rCntS X.K) := by
  intro pins s σ H x xs v us Q I rx rxs h
  obtain ⟨p, ws, z, rfl, rfl, hs, q⟩ := h
  cases rx
  obtain ⟨u, rfl, ru⟩ := rxs.one
  obtain ⟨t, rfl⟩ := ru
  obtain ⟨its, rv, pl, hz⟩ := I.list hs
  obtain ⟨as, ra⟩ := Dp.readsAll I _ _ _ (dpAll_strs ws) rv
  obtain ⟨bs, rb⟩ := Dp.reads I (.str z) (.str z) (.str z t) (.str z) ⟨t, rfl⟩
  refine PySem.SeqAt.count_list_data pl.isList (by simpa using ra) rb (plain_strs ws) rfl ?_ ⟨.int (ws.count z : Nat), H, I.tok _, ⟨s.toks, ?_⟩, q⟩
  · have e : min (PyData.depthAll (ws.map PyData.str)) (PyData.str z).depth ≤ 1 := Nat.le_trans (Nat.min_le_right _ _) (by simp [PyData.depth])
    omega
  · rw [count_strs]
theorem mt_lcountSK {X : Cx} {K : PySem.W.Frag} (hK : X.K = K) (hu : X.A.units + 64 < cLine) : MtR X "list.count" (rCntS K) := by
  subst hK
  exact mt_lcountS hu
theorem pe_lcount {X : Cx} {K : PySem.W.Frag} {o e : Expr} {to : TE} {t : TA} {apos cpos : Pos} (hK : X.K = K) (hu : X.A.units + 64 < cLine) (ho : PE X o to) (ha : PA X [e] t) (hbase : attributeBase o "count" X.env (eval o X.env) = eval o X.env)
    (hfew : ((backTo cpos (starEach [e] X.env)).all (fun x => !x.1) && (backToKw cpos (keywordEach [] X.env)).all (fun x => x.1.isSome) && decide (([e] : List Expr).length + ([] : List Keyword).length + (if ([] : List Keyword).isEmpty then 0 else 1) < 30)) = true)
    (hline : (apos.endLine == cpos.line) = true) (hs : starEach [e] X.env = (false, eval e X.env) :: starEach [] X.env) (hplain : (backTo cpos (starEach [] X.env)).any (·.1) = false) :
    PE X (.Call (.Attribute o "count" apos) [e] [] cpos) (tBM K "list" (rCntS K) to t) := by
  subst hK
  exact pe_bm PySem.F.plainAttrs_list PySem.F.slot_list_count PySem.F.type_list_count (mt_lcountS hu) ho ha hbase hfew hline hs hplain
end Ky

namespace Ky
open PySem PySem.Spec PyProof.Rows L2
local macro_rules | `(tactic| walk_at "rd") => `(tactic| repeat (first
  | with_reducible refine w_for1 ?_
  | with_reducible refine w_for2 ?_
  | with_reducible refine w_forL ?_
  | with_reducible refine w_forT ?_
  | with_reducible refine w_lc1 ?_
  | with_reducible refine w_lcL ?_
  | with_reducible refine w_lcT ?_
  | with_reducible refine w_seq ?_
  | with_reducible refine w_asg ?_
  | with_reducible refine w_ret ?_
  | with_reducible refine w_drop ?_
  | with_reducible refine w_ifs ?_
  | ((with_reducible refine' w_var ?hh ?_); (case hh => exact rfl))
  | with_reducible refine w_c ?_
  | with_reducible refine w_op ?_
  | with_reducible refine w_un ?_
  | with_reducible refine w_I0 ?_
  | with_reducible refine w_U ?_
  | with_reducible refine w_nil ?_
  | with_reducible refine w_cons ?_
  | with_reducible refine w_call ?_
  | with_reducible refine w_cb ?_
  | with_reducible refine w_test ?_
  | with_reducible refine w_B ?_
  | with_reducible refine w_bl ?_
  | with_reducible refine w_and ?_
  | with_reducible refine w_or ?_
  | with_reducible refine w_not ?_
  | with_reducible refine w_ife ?_
  | with_reducible refine w_gRd ?_
  | with_reducible refine w_andV ?_
  | with_reducible refine w_orV ?_
  | with_reducible refine w_notV ?_
  | with_reducible refine w_chain ?_
  | with_reducible refine w_din ?_
  | with_reducible refine w_isi_ii ?_
  | with_reducible refine w_isi_bi ?_
  | with_reducible refine w_isi_bb ?_
  | with_reducible refine w_isi_bt ?_
  | with_reducible refine w_isi_si ?_
  | with_reducible refine w_isi_nt ?_
  | with_reducible refine w_isi_ib ?_
  | with_reducible refine w_isi_it ?_
  | with_reducible refine w_isi_st ?_
  | ((with_reducible refine w_isi_tt ?h1 ?_); (case h1 => first | assumption | exact upd_same))
  | with_reducible refine if_t rfl ?_
  | with_reducible refine if_f rfl ?_
  | with_reducible refine w_tup ?_
  | with_reducible refine w_lst ?_
  | with_reducible refine w_next ?_
  | with_reducible refine w_bm ?_
  | with_reducible refine w_sl ?_
  | with_reducible refine w_part ?_
  | with_reducible refine w_nop ?_
  | with_reducible refine w_isI ?_
  | with_reducible refine w_yes ?_
  | with_reducible refine w_gn ?_
  | with_reducible refine w_gsub ?_
  | ((with_reducible refine' w_setL ?h1 ?h2 ?_); (case h1 => first | assumption | exact upd_same); (case h2 => exact rfl))
  | with_reducible refine w_asgG ?_
  | with_reducible refine w_m1 ?_
  | with_reducible refine w_isS ?_
  | with_reducible refine w_tyS ?_
  | ((with_reducible refine' w_tyL ?h1 ?_); (case h1 => first | assumption | exact upd_same))
  | ((with_reducible refine' w_ixT ?h1 ?h2 ?_); (case h1 => first | assumption | exact upd_same); (case h2 => exact rfl))
  | ((with_reducible refine' w_ixL ?h1 ?h2 ?_); (case h1 => first | assumption | exact upd_same); (case h2 => exact rfl))
  | ((with_reducible refine w_eq ?h1 ?_); (case h1 => exact rfl))
  | ((with_reducible refine w_ne ?h1 ?_); (case h1 => exact rfl))
  | dsimp only [List.set_cons_zero, List.set_cons_succ, List.append_nil, List.cons_append, List.nil_append, cxOf]))

/-! ### what the law finds, against what the program finds -/
def fnd (ch : Nat → List Int) (n : Nat) : Nat → List Int
  | 0 => [((n - 1 : Nat) : Int)]
  | k + 1 => if ((n - 1 - k : Nat) : Int) ∈ fnd ch n k then fnd ch n k ++ (ch (n - 1 - k)).filter (fun c => decide (c ∉ fnd ch n k)) else fnd ch n k
theorem mem_fnd (ch : Nat → List Int) (n : Nat) (x : Int) : ∀ k, x ∈ fnd ch n k ↔ x ∈ mark ch n k
  | 0 => Iff.rfl
  | k + 1 => by
    have ih := fun y => mem_fnd ch n y k
    unfold fnd mark
    by_cases h : ((n - 1 - k : Nat) : Int) ∈ mark ch n k
    · rw [if_pos h, if_pos ((ih _).mpr h), List.mem_append, mem_insAll, List.mem_filter, decide_eq_true_eq, ih x]
      constructor
      · rintro (q | ⟨q, _⟩)
        · exact .inl q
        · exact .inr q
      · rintro (q | q)
        · exact .inl q
        · by_cases hx : x ∈ mark ch n k
          · exact .inl hx
          · exact .inr ⟨q, hx⟩
    · rw [if_neg h, if_neg (fun q => h ((ih _).mp q))]
      exact ih x
theorem len_fnd {ch : Nat → List Int} (h : ∀ i, (ch i).length ≤ 4) (n : Nat) : ∀ k, (fnd ch n k).length ≤ 1 + 4 * k
  | 0 => Nat.le_refl _
  | k + 1 => by
    have h1 := len_fnd h n k
    have h2 := h (n - 1 - k)
    unfold fnd
    split
    · rw [List.length_append]
      have h3 := List.length_filter_le (fun c => decide (c ∉ fnd ch n k)) (ch (n - 1 - k))
      omega
    · omega
theorem asc_eq : ∀ {xs ys : List Int}, xs.Pairwise (· < ·) → ys.Pairwise (· < ·) → (∀ x, x ∈ xs ↔ x ∈ ys) → xs = ys
  | [], [], _, _, _ => rfl
  | [], y :: ys, _, _, h => absurd ((h y).mpr List.mem_cons_self) (by simp)
  | x :: xs, [], _, _, h => absurd ((h x).mp List.mem_cons_self) (by simp)
  | x :: xs, y :: ys, hx, hy, h => by
    obtain ⟨hx1, hx2⟩ := List.pairwise_cons.mp hx
    obtain ⟨hy1, hy2⟩ := List.pairwise_cons.mp hy
    have e : x = y := by
      rcases List.mem_cons.mp ((h x).mp List.mem_cons_self) with e | q
      · exact e
      · rcases List.mem_cons.mp ((h y).mpr List.mem_cons_self) with e | r
        · exact e.symm
        · have := hx1 y r
          have := hy1 x q
          omega
    subst e
    rw [asc_eq hx2 hy2 fun z => ?_]
    constructor
    · intro hz
      rcases List.mem_cons.mp ((h z).mp (List.mem_cons_of_mem _ hz)) with e | q
      · have := hx1 z hz
        omega
      · exact q
    · intro hz
      rcases List.mem_cons.mp ((h z).mpr (List.mem_cons_of_mem _ hz)) with e | q
      · have := hy1 z hz
        omega
      · exact q
/-- an ascending list of what the law found is what the program answers -/
theorem found_eq {N : List Nd} {ns : List Int} (h1 : ns.Pairwise (· < ·)) (h2 : ∀ x, x ∈ ns ↔ x ∈ fnd (chOf N) N.length N.length) : ns = reachedF N :=
  asc_eq h1 (srt_ints (nodup_mark _ _ _)) fun x => by
    rw [h2 x, mem_fnd]
    exact mem_srtBy.symm
end Ky

namespace Ky
open PySem PySem.Spec PyProof.Rows L2
local macro_rules | `(tactic| walk_at "rd") => `(tactic| repeat (first
  | with_reducible refine w_for1 ?_
  | with_reducible refine w_for2 ?_
  | with_reducible refine w_forL ?_
  | with_reducible refine w_forT ?_
  | with_reducible refine w_lc1 ?_
  | with_reducible refine w_lcL ?_
  | with_reducible refine w_lcT ?_
  | with_reducible refine w_seq ?_
  | with_reducible refine w_asg ?_
  | with_reducible refine w_ret ?_
  | with_reducible refine w_drop ?_
  | with_reducible refine w_ifs ?_
  | ((with_reducible refine' w_var ?hh ?_); (case hh => exact rfl))
  | with_reducible refine w_c ?_
  | with_reducible refine w_op ?_
  | with_reducible refine w_un ?_
  | with_reducible refine w_I0 ?_
  | with_reducible refine w_U ?_
  | with_reducible refine w_nil ?_
  | with_reducible refine w_cons ?_
  | with_reducible refine w_call ?_
  | with_reducible refine w_cb ?_
  | with_reducible refine w_test ?_
  | with_reducible refine w_B ?_
  | with_reducible refine w_bl ?_
  | with_reducible refine w_and ?_
  | with_reducible refine w_or ?_
  | with_reducible refine w_not ?_
  | with_reducible refine w_ife ?_
  | with_reducible refine w_gRd ?_
  | with_reducible refine w_andV ?_
  | with_reducible refine w_orV ?_
  | with_reducible refine w_notV ?_
  | with_reducible refine w_chain ?_
  | with_reducible refine w_din ?_
  | with_reducible refine w_isi_ii ?_
  | with_reducible refine w_isi_bi ?_
  | with_reducible refine w_isi_bb ?_
  | with_reducible refine w_isi_bt ?_
  | with_reducible refine w_isi_si ?_
  | with_reducible refine w_isi_nt ?_
  | with_reducible refine w_isi_ib ?_
  | with_reducible refine w_isi_it ?_
  | with_reducible refine w_isi_st ?_
  | ((with_reducible refine w_isi_tt ?h1 ?_); (case h1 => first | assumption | exact upd_same))
  | with_reducible refine if_t rfl ?_
  | with_reducible refine if_f rfl ?_
  | with_reducible refine w_tup ?_
  | with_reducible refine w_lst ?_
  | with_reducible refine w_next ?_
  | with_reducible refine w_bm ?_
  | with_reducible refine w_sl ?_
  | with_reducible refine w_part ?_
  | with_reducible refine w_nop ?_
  | with_reducible refine w_isI ?_
  | with_reducible refine w_yes ?_
  | with_reducible refine w_gn ?_
  | with_reducible refine w_gsub ?_
  | ((with_reducible refine' w_setL ?h1 ?h2 ?_); (case h1 => first | assumption | exact upd_same); (case h2 => exact rfl))
  | with_reducible refine w_asgG ?_
  | with_reducible refine w_m1 ?_
  | with_reducible refine w_isS ?_
  | with_reducible refine w_tyS ?_
  | ((with_reducible refine' w_tyL ?h1 ?_); (case h1 => first | assumption | exact upd_same))
  | ((with_reducible refine' w_ixT ?h1 ?h2 ?_); (case h1 => first | assumption | exact upd_same); (case h2 => exact rfl))
  | ((with_reducible refine' w_ixL ?h1 ?h2 ?_); (case h1 => first | assumption | exact upd_same); (case h2 => exact rfl))
  | ((with_reducible refine w_eq ?h1 ?_); (case h1 => exact rfl))
  | ((with_reducible refine w_ne ?h1 ?_); (case h1 => exact rfl))
  | dsimp only [List.set_cons_zero, List.set_cons_succ, List.append_nil, List.cons_append, List.nil_append, cxOf]))

def NdAt (H : Hp) (j : Nat) (x : Nd) (ch : Addr) : Prop := H x.a = some (.tup [.ref x.res, .ref x.rule]) ∧ RuAt H x.rule x.r ∧ (∃ cl, H x.res = some (.tup [.ref cl]) ∧ H cl = some (.tup [.int ((j : Int) + 1)])) ∧ H ch = some (.tup (x.r.ch.map V.int))
theorem NdAt.stay {H H' : Hp} {j : Nat} {x : Nd} {ch : Addr} (h : NdAt H j x ch) (k : ∀ b xs, H b = some (.tup xs) → H' b = some (.tup xs)) : NdAt H' j x ch := by
  obtain ⟨h1, h2, ⟨cl, h3, h4⟩, h5⟩ := h
  exact ⟨k _ _ h1, h2.mono k, ⟨cl, k _ _ h3, k _ _ h4⟩, k _ _ h5⟩
def NdsAt (H : Hp) (L1 L2 : Addr) (N : List Nd) (chs : List Addr) : Prop := H L1 = some (.lst (N.map fun x => .ref x.a)) ∧ H L2 = some (.lst (chs.map V.ref)) ∧ chs.length = N.length ∧ ∀ (j : Nat) (x : Nd) (ch : Addr), N[j]? = some x → chs[j]? = some ch → NdAt H j x ch
def OkN (N : List Nd) : Prop := ∀ (j : Nat) (x : Nd), N[j]? = some x → x.r.ch.length ≤ 4 ∧ ∀ c ∈ x.r.ch, 0 ≤ c ∧ c < j
def FrR (g : TG) (tb : TS) (D : Ends) (σ : L2.St) (x : V) (H1 : Hp) : Prop := ∃ n : Int, x = .int n ∧ (-(2 ^ 62) ≤ (0 : Int) ∧ (0 : Int) < 2 ^ 62 ∧ -(2 ^ 62) ≤ n ∧ n < 2 ^ 62 ∧ FrJ g tb D σ (Itc (0 + (((n - 0).toNat : Nat) : Int) - 1) (-1) (n - 0).toNat) H1)
theorem w_forR {σ : L2.St} {H : Hp} {D : Ends} {g : TG} {tb : TS} {te : TE} (q : te σ H (FrR g tb D σ)) : tFor (iRevR (tRg1 te)) g tb D σ H := q
theorem FrR.mk {σ : L2.St} {H : Hp} {D : Ends} {g : TG} {tb : TS} {n : Nat} (hz : (n : Int) < 2 ^ 60) (Pv : Nat → L2.St → Hp → Prop) (h0 : Pv 0 σ H)
    (hs : ∀ i σ H, i < n → Pv i σ H → g (.int ((n - 1 - i : Nat) : Int)) σ H fun σ2 H2 => tb { D with nx := Pv (i + 1), ct := Pv (i + 1), bk := D.nx } σ2 H2) (hd : ∀ σ H, Pv n σ H → D.nx σ H) : FrR g tb D σ (.int (n : Int)) H := by
  have e0 : ((n : Int) - 0).toNat = n := by omega
  refine ⟨_, rfl, by decide, by decide, by omega, by omega, ?_⟩
  rw [e0]
  refine for_rangeC Pv h0 (fun i σ H hi p => ?_) hd
  have e : (0 : Int) + ((n : Nat) : Int) - 1 + (i : Nat) * (-1) = ((n - 1 - i : Nat) : Int) := by omega
  rw [e]
  exact hs i σ H hi p
theorem inV_ints (n : Int) (ls : List Int) : inV (.int n) (ls.map V.int) = decide (n ∈ ls) := by
  unfold inV
  rw [List.any_map, Bool.eq_iff_iff, List.any_eq_true, decide_eq_true_eq]
  constructor
  · rintro ⟨y, hy, e⟩
    have e : y = n := by simpa [eqV] using e
    rw [← e]
    exact hy
  · intro h
    exact ⟨n, h, by simp [eqV]⟩
theorem flat_ints (ls : List Int) : (ls.map V.int).all flatV = true := by
  rw [List.all_map]
  exact List.all_eq_true.mpr fun x _ => rfl
section
variable {K : PySem.W.Frag} {H : Hp} {Q : VK} {b : Addr} {n : Int} {ls : List Int}
theorem w_inL (h : H b = some (.lst (ls.map V.int))) (q : Q (.bl (decide (n ∈ ls))) H) : rIn K false (.int n) (.ref b) H Q := ⟨b, _, rfl, .inl (SqL.of h), rfl, flat_ints ls, by rw [inV_ints, if_neg Bool.false_ne_true]; exact q⟩
theorem w_ninL (h : H b = some (.lst (ls.map V.int))) (q : Q (.bl (decide (n ∉ ls))) H) : rIn K true (.int n) (.ref b) H Q := ⟨b, _, rfl, .inl (SqL.of h), rfl, flat_ints ls, by rw [inV_ints, if_pos rfl]; rw [decide_not] at q; exact q⟩
end
theorem eqv_same {d : PyData} (hs : SeqAt.shaped d = true) : PyData.eqv d d = true := SeqAt.eqv_refl d (SeqAt.canLay_of_shaped hs)
theorem w_neSame {K : PySem.W.Frag} {H : Hp} {x y : V} {d : PyData} {Q : VK} (h1 : Dp K H x d) (h2 : Dp K H y d) (hs : SeqAt.shaped d = true) (q : Q (.bl false) H) : rNeD K x y H Q := ⟨d, d, h1, h2, hs, hs, by rw [eqv_same hs]; exact q⟩
theorem w_eqSame {K : PySem.W.Frag} {H : Hp} {x y : V} {d : PyData} {Q : VK} (h1 : Dp K H x d) (h2 : Dp K H y d) (hs : SeqAt.shaped d = true) (q : Q (.bl true) H) : rEqD K x y H Q := ⟨d, d, h1, h2, hs, hs, by rw [eqv_same hs]; exact q⟩
theorem shL_ints (ls : List Int) : SeqAt.shaped (.list (ls.map PyData.int)) = true := by
  unfold SeqAt.shaped
  simp only [PyData.canLay0, canLay_ints, Bool.true_and, PyData.depth, PySem.W.depth_ints]
  rfl
theorem dpL_ints {K : PySem.W.Frag} {H : Hp} {b : Addr} {ls : List Int} (h : H b = some (.lst (ls.map V.int))) : Dp K H (.ref b) (.list (ls.map PyData.int)) := .lst (SqL.of h) (dpAll_ints ls)
def tlD (ws : List Str) (z : Str) : PyData := .tuple [.str z, .int (ws.count z)]
theorem dpAll_of {K : PySem.W.Frag} {H : Hp} : ∀ {xs : List V} {ds : List PyData}, xs.length = ds.length → (∀ (i : Nat) (x : V) (d : PyData), xs[i]? = some x → ds[i]? = some d → Dp K H x d) → DpAll K H xs ds
  | [], [], _, _ => .nil
  | x :: xs, d :: ds, hl, h => .cons (h 0 x d rfl rfl) (dpAll_of (Nat.succ.inj hl) fun i y e h1 h2 => h (i + 1) y e h1 h2)
  | [], _ :: _, hl, _ => by cases hl
  | _ :: _, [], hl, _ => by cases hl
theorem strOk_w (r : Ru) : PyData.strOk r.w = true := by
  cases r <;> (simp only [Ru.w]; decide +kernel)
theorem strOk_words {N : List Nd} {z : Str} (h : z ∈ wordsF N) : PyData.strOk z = true := by
  unfold wordsF at h
  obtain ⟨n, _, rfl⟩ := List.mem_map.mp h
  unfold wOf
  split
  · exact strOk_w _
  · decide +kernel
theorem canLay_tl (ws : List Str) : ∀ L : List Str, (∀ z ∈ L, PyData.strOk z = true) → PyData.canLayAll0 (L.map (tlD ws)) = true
  | [], _ => by simp [PyData.canLayAll0]
  | z :: L, h => by
    have hz := h z List.mem_cons_self
    rw [List.map_cons, PyData.canLayAll0, canLay_tl ws L fun y hy => h y (List.mem_cons_of_mem _ hy)]
    simp [tlD, PyData.canLay0, PyData.canLayAll0, hz]
theorem depth_tl (ws : List Str) : ∀ L : List Str, PyData.depthAll (L.map (tlD ws)) ≤ 2
  | [] => by simp [PyData.depthAll]
  | z :: L => by
    have := depth_tl ws L
    rw [List.map_cons, PyData.depthAll]
    simp only [tlD, PyData.depth, PyData.depthAll]
    omega
theorem shL_tl (ws L : List Str) (hs : ∀ z ∈ L, PyData.strOk z = true) : SeqAt.shaped (.list (L.map (tlD ws))) = true := by
  have h := depth_tl ws L
  unfold SeqAt.shaped
  simp only [PyData.canLay0, canLay_tl ws L hs, Bool.true_and, PyData.depth]
  exact decide_eq_true (by omega)
theorem dp_tl {K : PySem.W.Frag} {H : Hp} {q : Addr} {ts : List Addr} {ws L : List Str} (h : H q = some (.lst (ts.map V.ref))) (hl : ts.length = L.length) (ht : ∀ (i : Nat) (t : Addr) (w : Str), ts[i]? = some t → L[i]? = some w → H t = some (.tup [.str w, .int (ws.count w)])) : Dp K H (.ref q) (.list (L.map (tlD ws))) := by
  refine .lst (SqL.of h) (dpAll_of (by rw [List.length_map, List.length_map, hl]) fun i x d hx hd => ?_)
  rw [List.getElem?_map] at hx hd
  obtain ⟨t, ht2, rfl⟩ := Option.map_eq_some_iff.mp hx
  obtain ⟨z, hz, rfl⟩ := Option.map_eq_some_iff.mp hd
  exact .tup (SqT.of (ht i t z ht2 hz)) (.cons (.str z) (.cons (.int _) .nil))
def ruD : Ru → PyData
  | .yes => .tuple [.str (Str.ofString "yes")]
  | .no => .tuple [.str (Str.ofString "no")]
  | .opn => .tuple [.str (Str.ofString "open")]
  | .refuted => .tuple [.str (Str.ofString "refuted"), .tuple [.tuple []]]
  | .som => .tuple [.str (Str.ofString "some"), .tuple [.int (-3), .int 4]]
  | .unit a => .tuple [.str (Str.ofString "unit"), .int (-7), .int a]
  | .choice a b => .tuple [.str (Str.ofString "choice"), .int 5, .int a, .int b]
  | .parts row => .tuple [.str (Str.ofString "parts"), .tuple (row.map PyData.int)]
  | .more a => .tuple [.str (Str.ofString "more"), .tuple [.int 1, .int 2], .int a]
  | .less a => .tuple [.str (Str.ofString "less"), .int a]
theorem dp_ru {K : PySem.W.Frag} {H : Hp} {p : Addr} {r : Ru} (h : RuAt H p r) : Dp K H (.ref p) (ruD r) := by
  cases r with
  | yes => exact .tup (SqT.of h) (.cons (.str _) .nil)
  | no => exact .tup (SqT.of h) (.cons (.str _) .nil)
  | opn => exact .tup (SqT.of h) (.cons (.str _) .nil)
  | refuted =>
    obtain ⟨a, e, h1, h2, h3⟩ := h
    exact .tup (SqT.of h1) (.cons (.str _) (.cons (.tup (SqT.of h2) (.cons (.tup (SqT.of h3) .nil) .nil)) .nil))
  | som =>
    obtain ⟨a, h1, h2⟩ := h
    exact .tup (SqT.of h1) (.cons (.str _) (.cons (.tup (SqT.of h2) (.cons (.int _) (.cons (.int _) .nil))) .nil))
  | unit a => exact .tup (SqT.of h) (.cons (.str _) (.cons (.int _) (.cons (.int _) .nil)))
  | choice a b => exact .tup (SqT.of h) (.cons (.str _) (.cons (.int _) (.cons (.int _) (.cons (.int _) .nil))))
  | parts row =>
    obtain ⟨a, h1, h2⟩ := h
    exact .tup (SqT.of h1) (.cons (.str _) (.cons (dp_ints h2) .nil))
  | more a =>
    obtain ⟨b, h1, h2⟩ := h
    exact .tup (SqT.of h1) (.cons (.str _) (.cons (.tup (SqT.of h2) (.cons (.int _) (.cons (.int _) .nil))) (.cons (.int _) .nil)))
  | less a => exact .tup (SqT.of h) (.cons (.str _) (.cons (.int _) .nil))
theorem lay_ru (r : Ru) : (ruD r).canLay0 = true := by
  cases r <;> (simp only [ruD, PyData.canLay0, PyData.canLayAll0, canLay_ints, Bool.and_true, Bool.true_and]; try decide +kernel)
theorem depth_ru (r : Ru) : (ruD r).depth ≤ 4 := by
  cases r <;> (simp only [ruD, PyData.depth, PyData.depthAll, PySem.W.depth_ints]; try omega)
def ndDat (N : List Nd) (n : Int) : PyData := match N[n.toNat]? with
  | some x => .tuple [.tuple [.tuple [.int ((n.toNat : Int) + 1)]], ruD (x.r.map (posOf (reachedF N)))]
  | none => .tuple []
theorem lay_nd (N : List Nd) (n : Int) : (ndDat N n).canLay0 = true := by
  unfold ndDat
  split
  · simp only [PyData.canLay0, PyData.canLayAll0, lay_ru, Bool.and_true]
  · simp only [PyData.canLay0, PyData.canLayAll0]
theorem depth_nd (N : List Nd) (n : Int) : (ndDat N n).depth ≤ 6 := by
  unfold ndDat
  split
  · rename_i x _
    have := depth_ru (x.r.map (posOf (reachedF N)))
    simp only [PyData.depth, PyData.depthAll]
    omega
  · simp only [PyData.depth, PyData.depthAll]
    omega
theorem lay_nds (N : List Nd) : ∀ L : List Int, PyData.canLayAll0 (L.map (ndDat N)) = true
  | [] => by simp [PyData.canLayAll0]
  | n :: L => by rw [List.map_cons, PyData.canLayAll0, lay_nds N L, lay_nd] <;> rfl
theorem depth_nds (N : List Nd) : ∀ L : List Int, PyData.depthAll (L.map (ndDat N)) ≤ 6
  | [] => by simp [PyData.depthAll]
  | n :: L => by
    have h1 := depth_nds N L
    have h2 := depth_nd N n
    rw [List.map_cons, PyData.depthAll]
    omega
theorem dp_nds {K : PySem.W.Frag} {H : Hp} {q : Addr} {ts : List Addr} {N : List Nd} (h : H q = some (.tup (ts.map V.ref))) (hl : ts.length = (reachedF N).length) (hg : GoodN N) (ht : ∀ (i : Nat) (t : Addr), ts[i]? = some t → TrNd N i t H)
    (hr : ∀ (j : Nat) (x : Nd), N[j]? = some x → ∃ cl, H x.res = some (.tup [.ref cl]) ∧ H cl = some (.tup [.int ((j : Int) + 1)])) : Dp K H (.ref q) (.tuple ((reachedF N).map (ndDat N))) := by
  refine .tup (SqT.of h) (dpAll_of (by rw [List.length_map, List.length_map, hl]) fun i x d hx hd => ?_)
  rw [List.getElem?_map] at hx hd
  obtain ⟨t, ht2, rfl⟩ := Option.map_eq_some_iff.mp hx
  obtain ⟨n, hn, rfl⟩ := Option.map_eq_some_iff.mp hd
  obtain ⟨x, _, hxi, _⟩ := at_reached hg (List.mem_of_getElem? hn)
  obtain ⟨rl, h1, h2⟩ := ht i t ht2 n x hn hxi
  obtain ⟨cl, h3, h4⟩ := hr _ x hxi
  unfold ndDat
  rw [hxi]
  exact .tup (SqT.of h1) (.cons (.tup (SqT.of h3) (.cons (.tup (SqT.of h4) (.cons (.int _) .nil)) .nil)) (.cons (dp_ru h2) .nil))
theorem goodN_of {N : List Nd} (h : OkN N) (h0 : 0 < N.length) (h1 : N.length ≤ 100) : GoodN N := by
  refine ⟨h0, h1, fun i => ?_, fun i hi c hc => ?_⟩
  · unfold chOf
    split
    · rename_i x hx
      exact (h i x hx).1
    · exact Nat.zero_le _
  · have hx : N[i]? = some N[i] := List.getElem?_eq_getElem hi
    rw [chOf_of hx] at hc
    exact (h i _ hx).2 c hc
def spLaw (K : PySem.W.Frag) : Sp := fun vs H Q _ => ∃ (sa : Addr) (ns : List Int), vs = [.ref sa] ∧ SqL K H sa (ns.map V.int) ∧ ns.length ≤ 63 ∧ ∀ H', Q (.bl true) H'
section
variable {P : Program} {w : World} {K : PySem.W.Frag} {mg : Str → Option Value} {base : Heap} {uG : Value} {f : Addr} {fd : FuncData}
theorem ok_law (F : Fun K "law" "law" s_law f fd) (T : Tx K mg uG) (D_l_draw : Df P w K mg base 1 "_law_draw" ["script"] (spDrawC K)) (D_l_take : Df P w K mg base 1 "_law_take" ["draw", "many"] spTakeC) (D_l_rule : Df P w K mg base 2 "_law_rule" ["draw", "below"] spRule) (D_l_renamed : Df P w K mg base 1 "_law_renamed" ["rule", "children", "numbers"] spLRen)
  (D_children_of : Df P w K mg base 1 "children_of" ["rule"] spCh) (D_reached : Df P w K mg base 2 "reached" ["sheet"] spReached) (D_is_open : Df P w K mg base 5 "is_open" ["sheet"] spOpen) (D_tally : Df P w K mg base 5 "tally" ["sheet"] spTally) (D_trimmed : Df P w K mg base 4 "trimmed" ["sheet"] spTrim) : FnOk P w K mg base CX0 6 f fd ["script"] (spLaw K) := by
  refine F.ok sc_law (fun vs H Q E h => ?_) (fun cdv A outer s H vs Q E hr h => ?_)
  · obtain ⟨a, ns, rfl, _⟩ := h
    rfl
  · obtain ⟨sa, ns, rfl, hS, hlen, k⟩ := h
    have hsl : 1001 ≤ sizeLine := by decide
    refine ⟨_, (pss_cons (ps_set (i := 1) sc_law.nd rfl (.inl rfl) (pe_df D_l_draw (hr.mono (by decide)) (by rfl) (pa_cons (pv 0) pa_nil)))
    (pss_cons (ps_set (i := 2) sc_law.nd rfl (.inr rfl) (pe_lst pa_nil))
    (pss_cons (ps_set (i := 3) sc_law.nd rfl (.inr rfl) (pe_lst pa_nil))
    (pss_cons (ps_for PassesOwn.never rfl (pi_range1 (by rfl) T.z_range (pa_cons (pe_op op_add pe_int (pe_df D_l_take (hr.mono (by decide)) (by rfl) (pa_cons (pv 1) (pa_cons pe_int pa_nil)))) pa_nil)) (pg_name (i := 4) sc_law.nd rfl (.inl rfl))
      (pss_cons (ps_asg (pe_df D_l_rule (hr.mono (by decide)) (by rfl) (pa_cons (pv 1) (pa_cons (pv 4) pa_nil))) (pg_tupK (K := K) rfl (by rfl) (pgs_cons (pg_name (i := 5) sc_law.nd rfl (.inl rfl)) (pgs_cons (pg_name (i := 6) sc_law.nd rfl (.inl rfl)) pgs_nil))))
    (pss_cons (ps_expr (pe_bm PySem.F.plainAttrs_list PySem.F.slot_list_append PySem.F.type_list_append mt_append (pv 2) (pa_cons (pe_tup (pa_cons (pe_tup (pa_cons (pe_tup (pa_cons (pe_op op_add (pv 4) pe_int) pa_nil)) pa_nil)) (pa_cons (pv 5) pa_nil))) pa_nil)))
    (pss_cons (ps_expr (pe_bm PySem.F.plainAttrs_list PySem.F.slot_list_append PySem.F.type_list_append mt_append (pv 3) (pa_cons (pv 6) pa_nil)))
    (pss_one (ps_if (pt_cmpR (opK (K := K) (r := rNeD) rfl (op_neD hr.units)) (pe_df D_children_of (hr.mono (by decide)) (by rfl) (pa_cons (pv 5) pa_nil)) (pv 6) (nomark _))
      (pss_one (ps_ret pe_bl))
      pss_nil))))))
    (pss_cons (ps_set (i := 7) sc_law.nd rfl (.inl rfl) (pe_tup (pa_cons (pe_tupRg rfl (by rfl) T.z_tuple (prg_2 (by rfl) T.z_range pe_int pe_int)) (pa_cons (pe_tup pa_nil) (pa_cons (pe_ix (ix_tupK (K := K) rfl) (pe_ix (ix_listK (K := K) rfl) (pv 2) (pe_op op_sub (pe_callB (call_lenK (K := K) rfl) (by rfl) T.z_len (by decide +kernel) (pa_cons (pv 2) pa_nil)) pe_int) (fun _ _ => rfl)) pe_int (fun _ _ => rfl)) pa_nil)))))
    (pss_cons (ps_set (i := 8) sc_law.nd rfl (.inl rfl) (pe_tup (pa_cons (pv 7) (pa_cons (pe_callTy call_tuple_of (by rfl) T.z_tuple (by decide +kernel) (pa_cons (pv 2) pa_nil)) pa_nil))))
    (pss_cons (ps_set (i := 9) sc_law.nd rfl (.inr rfl) (pe_lst (pa_cons (pe_op op_sub (pe_callB (call_lenK (K := K) rfl) (by rfl) T.z_len (by decide +kernel) (pa_cons (pv 2) pa_nil)) pe_int) pa_nil)))
    (pss_cons (ps_for PassesOwn.never rfl (pi_revR (by rfl) T.z_reversed (prg_1 (by rfl) T.z_range (pe_callB (call_lenK (K := K) rfl) (by rfl) T.z_len (by decide +kernel) (pa_cons (pv 2) pa_nil)))) (pg_name (i := 4) sc_law.nd rfl (.inl rfl))
      (pss_one (ps_if (pt_cmpR (opK (K := K) (r := fun K => rIn K false) rfl op_in_seq) (pv 4) (pv 9) (by rfl))
      (pss_one (ps_set (i := 9) sc_law.nd rfl (.inr rfl) (pe_op op_cat (pv 9) (pe_lc (own := [("child", 10)]) (g := gName 10) (by rfl) sc_law.nd (pi_tupK (K := K) rfl (pe_ix (ix_listK (K := K) rfl) (pv 3) (pv 4) (fun _ _ => rfl))) (blkOk_by (own := [("child", 10)]) (N := n_law) (sc := defScope s_law) (by decide +kernel)) (fun _ _ _ _ _ => pg_name (i := 10) sc_law.nd rfl (Or.inl rfl)) (fun _ _ _ _ _ => pts_one (pt_cmpR (opK (K := K) (r := fun K => rIn K true) rfl op_notIn_seq) (pv 10) (pv 9) (by rfl))) (fun _ _ _ _ _ => (pv 10))))))
      pss_nil)))
    (pss_cons (ps_set (i := 9) sc_law.nd rfl (.inr rfl) (pe_setInts (K := K) rfl rfl (by rfl) T.z_sorted (by rfl) T.z_set (pv 9) (by rfl)))
    (pss_cons (ps_if (pt_cmpR (opK (K := K) (r := rNeD) rfl (op_neD hr.units)) (pe_df D_reached (hr.mono (by decide)) (by rfl) (pa_cons (pv 8) pa_nil)) (pv 9) (nomark _))
      (pss_one (ps_ret pe_bl))
      pss_nil)
    (pss_cons (ps_set (i := 11) sc_law.nd rfl (.inr rfl) (pe_lc (own := [("number", 4)]) (g := gName 4) (by rfl) sc_law.nd (pi_listK (K := K) rfl (pv 9)) (blkOk_by (own := [("number", 4)]) (N := n_law) (sc := defScope s_law) (by decide +kernel)) (fun _ _ _ _ _ => pg_name (i := 4) sc_law.nd rfl (Or.inl rfl)) (fun _ _ _ _ _ => pts_nil) (fun _ _ _ _ _ => (pe_ix (ix_tupK (K := K) rfl) (pe_ix (ix_tupK (K := K) rfl) (pe_ix (ix_listK (K := K) rfl) (pv 2) (pv 4) (fun _ _ => rfl)) pe_int (fun _ _ => rfl)) pe_int (fun _ _ => rfl)))))
    (pss_cons (ps_set (i := 12) sc_law.nd rfl (.inl rfl) (pe_df D_is_open (hr.mono (by decide)) (by rfl) (pa_cons (pv 8) pa_nil)))
    (pss_cons (ps_if (PW.pt (pw_or (pt_not (pt_val (pe_callB (call_isiK (K := K) rfl) (by rfl) T.z_isinstance (by decide +kernel) (pa_cons (pv 12) (pa_cons (pe_bltn (by rfl) T.z_bool (by decide +kernel) (show RelV (.ty "bool") _ from rfl)) pa_nil))))) (pw_or1 (pt_cmpR op_ne (pv 12) (pe_cmpR (opK (K := K) (r := fun K => rIn K false) rfl op_in_seq) pe_str (pv 11) (by rfl)) (nomark _)))))
      (pss_one (ps_ret pe_bl))
      pss_nil)
    (pss_cons (ps_if (pt_cmpR (opK (K := K) (r := rNeD) rfl (op_neD hr.units)) (pe_df D_tally (hr.mono (by decide)) (by rfl) (pa_cons (pv 8) pa_nil)) (pe_lc (own := [("word", 13)]) (g := gName 13) (by rfl) sc_law.nd (pi_listK (K := K) rfl (pe_setStrs (K := K) rfl rfl (by rfl) T.z_sorted (by rfl) T.z_set (pv 11) (by rfl))) (blkOk_by (own := [("word", 13)]) (N := n_law) (sc := defScope s_law) (by decide +kernel)) (fun _ _ _ _ _ => pg_name (i := 13) sc_law.nd rfl (Or.inl rfl)) (fun _ _ _ _ _ => pts_nil) (fun _ _ _ _ _ => (pe_tup (pa_cons (pv 13) (pa_cons (pe_lcount (K := K) rfl hr.units (pv 11) (pa_cons (pv 13) pa_nil) rfl rfl rfl rfl rfl) pa_nil))))) (nomark _))
      (pss_one (ps_ret pe_bl))
      pss_nil)
    (pss_cons (ps_set (i := 14) sc_law.nd rfl (.inr rfl) pe_dnewK)
    (pss_cons (ps_for PassesOwn.never rfl (pi_range1 (by rfl) T.z_range (pa_cons (pe_callB (call_lenK (K := K) rfl) (by rfl) T.z_len (by decide +kernel) (pa_cons (pv 9) pa_nil)) pa_nil)) (pg_name (i := 15) sc_law.nd rfl (.inl rfl))
      (pss_one (ps_asg (pv 15) (pg_sub (pv 14) (pe_ix (ix_listK (K := K) rfl) (pv 9) (pv 15) (fun _ _ => rfl)) (set_dict hr.u1)))))
    (pss_cons (ps_setLc (i := 16) (own := [("number", 4)]) (g := gName 4) (by rfl) sc_law.nd rfl rfl (sw_true rfl rfl rfl (by decide +kernel)) (pi_listK (K := K) rfl (pv 9)) (blkOk_by (own := [("number", 4)]) (N := n_law) (sc := defScope s_law) (by decide +kernel)) (fun _ _ _ _ _ => pg_name (i := 4) sc_law.nd rfl (Or.inl rfl)) (fun _ _ _ _ _ => pts_nil) (fun _ _ _ _ _ => (pe_tup (pa_cons (pe_ix (ix_tupK (K := K) rfl) (pe_ix (ix_listK (K := K) rfl) (pv 2) (pv 4) (fun _ _ => rfl)) pe_int (fun _ _ => rfl)) (pa_cons (pe_df D_l_renamed (hr.mono (by decide)) (by rfl) (pa_cons (pe_ix (ix_tupK (K := K) rfl) (pe_ix (ix_listK (K := K) rfl) (pv 2) (pv 4) (fun _ _ => rfl)) pe_int (fun _ _ => rfl)) (pa_cons (pe_ix (ix_listK (K := K) rfl) (pv 3) (pv 4) (fun _ _ => rfl)) (pa_cons (pv 14) pa_nil)))) pa_nil)))))
    (pss_one (ps_ret (pe_cmpR (opK (K := K) (r := rEqD) rfl (op_eqD hr.units)) (pe_df D_trimmed (hr.mono (by decide)) (by rfl) (pa_cons (pv 8) pa_nil)) (pe_tup (pa_cons (pv 7) (pa_cons (pe_callTy call_tuple_of (by rfl) T.z_tuple (by decide +kernel) (pa_cons (pv 16) pa_nil)) pa_nil))) (nomark _))))))))))))))))))))), ?_⟩
    rw [show start n_law [(.ref sa : V)] = ([some (.ref sa), none, none, none, none, none, none, none, none, none, none, none, none, none, none, none, none] : List (Option V)) from rfl]
    walk_at "rd"
    refine ⟨sa, ns, rfl, hS, hlen, fun d c H1 hd k1 hD => ?_⟩
    walk_at "rd"
    refine ⟨Nat.zero_le _, fun L1 hL1 => ?_⟩
    have kA : Kept H1 (upd H1 L1 (.lst [])) := Kept.new hL1
    have e1 : (upd H1 L1 (.lst [])) L1 = some (.lst []) := upd_same
    generalize upd H1 L1 (.lst []) = H2 at kA e1
    walk_at "rd"
    refine ⟨Nat.zero_le _, fun L2 hL2 => ?_⟩
    have kB : Kept H2 (upd H2 L2 (.lst [])) := Kept.new hL2
    have e2 : (upd H2 L2 (.lst [])) L2 = some (.lst []) := upd_same
    have n12 : L1 ≠ L2 := ne_of_none e1 hL2
    have e1' := kB.lst e1
    have hL2' := kA.free _ hL2
    generalize upd H2 L2 (.lst []) = H3 at kB e2 e1'
    have hD3 := (kA.trans kB).toC.drw hD
    have nd1 := (hD.old hL1).1
    have nd2 := (hD.old hL2').1
    walk_at "rd"
    refine ⟨d, c, 14, rfl, by decide, by decide, hD3, fun r1 H4 l1 g1 k4 => ?_⟩
    have kC := (kA.trans kB).toC.trans k4
    obtain ⟨m, rfl⟩ : ∃ m : Nat, r1 = (m : Int) := ⟨r1.toNat, by omega⟩
    walk_at "rd"
    rw [show (1 : Int) + (m : Int) = ((m + 1 : Nat) : Int) by omega]
    refine Fr1.mk (by omega) (fun i σ H => ∃ x4 x5 x6 N chs, σ = [some (.ref sa), some (.ref d), some (.ref L1), some (.ref L2), x4, x5, x6, none, none, none, none, none, none, none, none, none, none] ∧ KeptC d c H1 H ∧ N.length = i ∧ NdsAt H L1 L2 N chs ∧ OkN N)
      ⟨none, none, none, [], [], rfl, kC, rfl, ⟨k4.lst nd1 e1', k4.lst nd2 e2, rfl, fun j x ch h => by simp at h⟩, fun j x h => by simp at h⟩ (fun i σ H hi h => ?_) (fun σ H h => ?_)
    · obtain ⟨x4, x5, x6, N, chs, rfl, kp, hNl, ⟨n1, n2, n3, n4⟩, hok⟩ := h
      have hDi := kp.drw hD
      walk_at "rd"
      refine ⟨d, c, (i : Int), rfl, by omega, by omega, hDi, fun v H5 r k5 hrc hlt hle => ?_⟩
      obtain ⟨pq, rl, ch, rfl, q1, q2, q3⟩ := hrc
      have kp5 := kp.trans k5
      have m1 := k5.lst nd1 n1
      have m2 := k5.lst nd2 n2
      refine w_gTup2 q1 ?_
      walk_at "rd"
      refine ⟨by show 1 ≤ sizeLine; omega, fun p1 hp1 => ?_⟩
      have k6 := Kept.new (o := .tup [V.int ((i : Int) + 1)]) hp1
      have f1 : (upd H5 p1 (.tup [V.int ((i : Int) + 1)])) p1 = some (.tup [V.int ((i : Int) + 1)]) := upd_same
      generalize upd H5 p1 (.tup [V.int ((i : Int) + 1)]) = H6 at k6 f1
      walk_at "rd"
      refine ⟨by show 1 ≤ sizeLine; omega, fun p2 hp2 => ?_⟩
      have k7 := Kept.new (o := .tup [V.ref p1]) hp2
      have f2 : (upd H6 p2 (.tup [V.ref p1])) p2 = some (.tup [V.ref p1]) := upd_same
      have f1' := k7.tup f1
      generalize upd H6 p2 (.tup [V.ref p1]) = H7 at k7 f1' f2
      walk_at "rd"
      refine ⟨by show 2 ≤ sizeLine; omega, fun p3 hp3 => ?_⟩
      have k8 := Kept.new (o := .tup [V.ref p2, V.ref rl]) hp3
      have f3 : (upd H7 p3 (.tup [V.ref p2, V.ref rl])) p3 = some (.tup [V.ref p2, V.ref rl]) := upd_same
      have f2' := k8.tup f2
      have f1'' := k8.tup f1'
      generalize upd H7 p3 (.tup [V.ref p2, V.ref rl]) = H8 at k8 f1'' f2' f3
      have k58 := k6.trans (k7.trans k8)
      have m1' := k58.lst m1
      have m2' := k58.lst m2
      have q3' := k58.tup q3
      have q2' := q2.kept k58
      refine w_nil (w_app m1' (by rw [List.length_map]; omega) ?_)
      have st9 := tupUpd2 (u := .lst ((N.map fun x => V.ref x.a) ++ [V.ref p3])) m1' (fun _ z => by cases z)
      have g1 : (upd H8 L1 (.lst ((N.map fun x => V.ref x.a) ++ [V.ref p3]))) L1 = some (.lst ((N.map fun x => V.ref x.a) ++ [V.ref p3])) := upd_same
      have g2 : (upd H8 L1 (.lst ((N.map fun x => V.ref x.a) ++ [V.ref p3]))) L2 = some (.lst (chs.map V.ref)) := by
        rw [upd_ne (Ne.symm n12)]
        exact m2'
      have kp9 : KeptC d c H1 (upd H8 L1 (.lst ((N.map fun x => V.ref x.a) ++ [V.ref p3]))) := (kp5.trans k58.toC).mut hL1
      generalize upd H8 L1 (.lst ((N.map fun x => V.ref x.a) ++ [V.ref p3])) = H9 at st9 g1 g2 kp9
      walk_at "rd"
      refine w_app g2 (by rw [List.length_map]; omega) ?_
      have st10 := tupUpd2 (u := .lst (chs.map V.ref ++ [V.ref ch])) g2 (fun _ z => by cases z)
      have g3 : (upd H9 L2 (.lst (chs.map V.ref ++ [V.ref ch]))) L2 = some (.lst (chs.map V.ref ++ [V.ref ch])) := upd_same
      have g4 : (upd H9 L2 (.lst (chs.map V.ref ++ [V.ref ch]))) L1 = some (.lst ((N.map fun x => V.ref x.a) ++ [V.ref p3])) := by
        rw [upd_ne n12]
        exact g1
      have kp10 : KeptC d c H1 (upd H9 L2 (.lst (chs.map V.ref ++ [V.ref ch]))) := kp9.mut (kA.free _ hL2)
      generalize upd H9 L2 (.lst (chs.map V.ref ++ [V.ref ch])) = H10 at st10 g3 g4 kp10
      have stA : ∀ b xs, H8 b = some (.tup xs) → H10 b = some (.tup xs) := fun b xs h => st10 b xs (st9 b xs h)
      walk_at "rd"
      refine ⟨rl, r, rfl, q2'.mono stA, fun q H11 k11 hq => ?_⟩
      walk_at "rd"
      refine ⟨_, _, dp_ints hq, dp_ints (k11.tup (stA _ _ q3')), shT_ints _, shT_ints _, ?_⟩
      rw [eqv_ints, decide_eq_true rfl]
      walk_at "rd"
      have kp11 : KeptC d c H1 H11 := kp10.trans k11.toC
      refine ⟨_, _, _, N ++ [⟨p3, p2, rl, r⟩], chs ++ [ch], rfl, kp11, by rw [List.length_append, hNl] <;> rfl, ⟨?_, ?_, by rw [List.length_append, List.length_append, n3] <;> rfl, fun j x ch' hx hch => ?_⟩, fun j x hx => ?_⟩
      · rw [List.map_append]
        exact k11.lst g4
      · rw [List.map_append]
        exact k11.lst g3
      · have stB : ∀ b xs, H8 b = some (.tup xs) → H11 b = some (.tup xs) := fun b xs h => k11.tup (stA b xs h)
        by_cases hj : j < N.length
        · rw [List.getElem?_append_left hj] at hx
          rw [List.getElem?_append_left (by omega)] at hch
          exact (n4 j x ch' hx hch).stay fun b xs h => stB b xs (k58.tup (k5.tup hDi h))
        · have ej : j = N.length := by
            have := (List.getElem?_eq_some_iff.mp hx).1
            rw [List.length_append, List.length_singleton] at this
            omega
          subst ej
          rw [List.getElem?_append_right (Nat.le_refl _), Nat.sub_self] at hx
          rw [List.getElem?_append_right (by omega), n3, Nat.sub_self] at hch
          cases hx
          cases hch
          exact ⟨stB _ _ f3, q2'.mono stB, ⟨p1, stB _ _ f2', by rw [hNl]; exact stB _ _ f1''⟩, stB _ _ q3'⟩
      · by_cases hj : j < N.length
        · rw [List.getElem?_append_left hj] at hx
          exact hok j x hx
        · have ej : j = N.length := by
            have := (List.getElem?_eq_some_iff.mp hx).1
            rw [List.length_append, List.length_singleton] at this
            omega
          subst ej
          rw [List.getElem?_append_right (Nat.le_refl _), Nat.sub_self] at hx
          cases hx
          exact ⟨hle, fun c hc => by
            have := hlt c hc
            omega⟩
    · obtain ⟨x4, x5, x6, N, chs, rfl, kp, hNl, hns, hok⟩ := h
      have hg : GoodN N := goodN_of hok (by omega) (by omega)
      have n1 := hns.1
      have n2 := hns.2.1
      walk_at "rd"
      refine ⟨1, 17, rfl, rfl, RgOk.of_le (by decide) (by decide) (by decide) (by decide), fun a1 ha1 => ?_⟩
      have z1 := Kept.new (o := .tup (rgV 1 17)) ha1
      have b1 : (upd H a1 (.tup (rgV 1 17))) a1 = some (.tup (rgV 1 17)) := upd_same
      generalize upd H a1 (.tup (rgV 1 17)) = H5 at z1 b1
      walk_at "rd"
      refine ⟨Nat.zero_le _, fun a2 ha2 => ?_⟩
      have z2 := z1.trans (Kept.new (o := .tup []) ha2)
      have b1' := (Kept.new (o := .tup []) ha2).tup b1
      have b2 : (upd H5 a2 (.tup [])) a2 = some (.tup []) := upd_same
      generalize upd H5 a2 (.tup []) = H6 at z2 b1' b2
      have n1' := z2.lst n1
      walk_at "rd"
      refine ⟨L1, _, rfl, .inl (SqL.of n1'), ?_⟩
      walk_at "rd"
      rw [List.length_map]
      have hlast : N[m]? = some N[m] := List.getElem?_eq_getElem (by omega)
      have hcm : m < chs.length := by
        rw [hns.2.2.1]
        omega
      have hlc : chs[m]? = some chs[m] := List.getElem?_eq_getElem hcm
      have hX := hns.2.2.2 m _ _ hlast hlc
      have ei : ((N.length : Nat) : Int) - 1 = (m : Int) := by omega
      rw [ei]
      refine w_ixL n1' (v := .ref N[m].a) (atI_nat (by rw [List.getElem?_map, hlast] <;> rfl)) ?_
      obtain ⟨x1, _, ⟨cl, x3, x4'⟩, _⟩ := hX
      generalize N[m] = X at hlast x1 x3 x4'
      have x1' := z2.tup x1
      walk_at "rd"
      refine ⟨by show 3 ≤ sizeLine; omega, fun a3 ha3 => ?_⟩
      have z3 := z2.trans (Kept.new (o := .tup [V.ref a1, V.ref a2, V.ref X.res]) ha3)
      have b3 : (upd H6 a3 (.tup [V.ref a1, V.ref a2, V.ref X.res])) a3 = some (.tup [V.ref a1, V.ref a2, V.ref X.res]) := upd_same
      have b1'' := (Kept.new (o := .tup [V.ref a1, V.ref a2, V.ref X.res]) ha3).tup b1'
      have b2' := (Kept.new (o := .tup [V.ref a1, V.ref a2, V.ref X.res]) ha3).tup b2
      generalize upd H6 a3 (.tup [V.ref a1, V.ref a2, V.ref X.res]) = H7 at z3 b1'' b2' b3
      walk_at "rd"
      refine ⟨L1, _, rfl, .inl ⟨SqL.of (z3.lst n1), fun a4 ha4 => ?_⟩⟩
      have y4 := Kept.new (o := .tup (N.map fun x => V.ref x.a)) ha4
      have b4 : (upd H7 a4 (.tup (N.map fun x => V.ref x.a))) a4 = some (.tup (N.map fun x => V.ref x.a)) := upd_same
      have z4 := z3.trans y4
      have b3' := y4.tup b3
      have c1 := y4.tup b1''
      have c2 := y4.tup b2'
      generalize upd H7 a4 (.tup (N.map fun x => V.ref x.a)) = H8 at z4 b4 b3' c1 c2
      walk_at "rd"
      refine ⟨by show 2 ≤ sizeLine; omega, fun a5 ha5 => ?_⟩
      have y5 := Kept.new (o := .tup [V.ref a3, V.ref a4]) ha5
      have b5 : (upd H8 a5 (.tup [V.ref a3, V.ref a4])) a5 = some (.tup [V.ref a3, V.ref a4]) := upd_same
      have z5 := z4.trans y5
      have c3 := y5.tup b3'
      have c4 := y5.tup b4
      have d1 := y5.tup c1
      have d2 := y5.tup c2
      generalize upd H8 a5 (.tup [V.ref a3, V.ref a4]) = H9 at z5 b5 c3 c4 d1 d2
      have hsh : ShAt H9 a5 a3 a4 N := ⟨b5, c4, fun x hx => ?_⟩
      rotate_left
      · obtain ⟨j, hj, rfl⟩ := List.mem_iff_getElem.mp hx
        have q := hns.2.2.2 j _ _ (List.getElem?_eq_getElem hj) (List.getElem?_eq_getElem (i := j) (show j < chs.length by rw [hns.2.2.1]; exact hj))
        exact ⟨z5.tup q.1, q.2.1.kept z5⟩
      walk_at "rd"
      refine ⟨L1, _, rfl, .inl (SqL.of (z5.lst n1)), ?_⟩
      walk_at "rd"
      rw [List.length_map, ei]
      refine ⟨by show 1 ≤ sizeLine; omega, fun a6 ha6 => ?_⟩
      have y6 := Kept.new (o := .lst [V.int (m : Int)]) ha6
      have b6 : (upd H9 a6 (.lst [V.int (m : Int)])) a6 = some (.lst [V.int (m : Int)]) := upd_same
      generalize upd H9 a6 (.lst [V.int (m : Int)]) = H10 at y6 b6
      refine w_seq (w_forR ?_)
      walk_at "rd"
      refine ⟨L1, _, rfl, .inl (SqL.of (y6.lst (z5.lst n1))), ?_⟩
      rw [List.length_map]
      have z6 := z5.trans y6
      have s6 := y6
      refine FrR.mk (by omega) (fun i σ H => ∃ x4 x10 a9, σ = [some (.ref sa), some (.ref d), some (.ref L1), some (.ref L2), x4, x5, x6, some (.ref a3), some (.ref a5), some (.ref a9), x10, none, none, none, none, none, none] ∧ Kept H10 H ∧ H a9 = some (.lst ((fnd (chOf N) N.length i).map V.int)))
        ⟨_, _, _, rfl, Kept.refl _, by rw [b6]; unfold fnd; rw [show ((N.length - 1 : Nat) : Int) = (m : Int) by omega] <;> rfl⟩ (fun i σ H11 hi h => ?_) (fun σ H11 h => ?_)
      · obtain ⟨x4, x10, a9, rfl, kk, h9⟩ := h
        walk_at "rd"
        refine w_inL h9 ?_
        walk_at "rd"
        by_cases hm : ((N.length - 1 - i : Nat) : Int) ∈ fnd (chOf N) N.length i
        · refine if_t (decide_eq_true hm) ?_
          have hj : N.length - 1 - i < N.length := by omega
          have hjc : N.length - 1 - i < chs.length := by
            rw [hns.2.2.1]
            exact hj
          have hx : N[N.length - 1 - i]? = some N[N.length - 1 - i] := List.getElem?_eq_getElem hj
          have hxc : chs[N.length - 1 - i]? = some chs[N.length - 1 - i] := List.getElem?_eq_getElem hjc
          have hch := (hns.2.2.2 _ _ _ hx hxc).2.2.2
          have ec := chOf_of hx
          have l4 := hg.2.2.1 (N.length - 1 - i)
          rw [ec] at l4
          have l5 := len_fnd hg.2.2.1 N.length i
          generalize chs[N.length - 1 - i] = cx at hxc hch
          generalize N[N.length - 1 - i] = X2 at hx hch ec l4
          walk_at "rd"
          refine w_ixL (kk.lst (z6.lst n2)) (v := .ref cx) (atI_nat (by rw [List.getElem?_map, hxc] <;> rfl)) ?_
          have hch' := kk.tup (z6.tup hch)
          refine LcT.ints (ns := X2.r.ch) (fun c => decide (c ∉ fnd (chOf N) N.length i)) V.int (by omega) hch' (fun c H4 kq kq2 hn kp4 h5 h6 => ?_) fun D H4 hD kp4 hDl => ?_
          · refine w_test ?_
            walk_at "rd"
            refine w_ninL (kp4.lst h9) (w_bl ?_)
            by_cases hcm : c ∉ fnd (chOf N) N.length i
            · refine if_t (decide_eq_true hcm) (w_var rfl (h5 H4 (Kept.refl _) (decide_eq_true hcm)))
            · refine if_f (decide_eq_false hcm) (h6 H4 (Kept.refl _) (decide_eq_false hcm))
          · have lf := List.length_filter_le (fun c => decide (c ∉ fnd (chOf N) N.length i)) X2.r.ch
            refine ⟨a9, D, _, _, rfl, rfl, kp4.lst h9, hDl, by rw [List.length_map, List.length_map]; omega, fun p hp => ?_⟩
            refine ⟨_, _, p, rfl, kk.trans (kp4.trans (Kept.new hp)), ?_⟩
            rw [upd_same, ← List.map_append]
            show _ = some (HO.lst (List.map V.int (if ((N.length - 1 - i : Nat) : Int) ∈ fnd (chOf N) N.length i then _ else _)))
            rw [if_pos hm, ec]
        · refine if_f (decide_eq_false hm) ?_
          walk_at "rd"
          refine ⟨_, _, _, rfl, kk, ?_⟩
          show _ = some (HO.lst (List.map V.int (if ((N.length - 1 - i : Nat) : Int) ∈ fnd (chOf N) N.length i then _ else _)))
          rw [if_neg hm]
          exact h9
      · obtain ⟨x4, x10, a9, rfl, kk, h9⟩ := h
        have z7 := z6.trans kk
        have s7 := s6.trans kk
        walk_at "rd"
        have lF := len_fnd hg.2.2.1 N.length N.length
        refine ⟨_, rfl, SrtSet.mk (ks := fnd (chOf N) N.length N.length) (SqL.of h9) (by omega) fun ds q9 H12 hle hnd hmem hq9 k12 h10 => ?_⟩
        have hasc := ints_lt hle hnd
        have er := found_eq hasc hmem
        subst er
        have z8 := z7.trans k12
        have s8 := s7.trans k12
        have kr := kk.trans k12
        have hsh12 := (hsh.kept y6).kept kr
        walk_at "rd"
        refine ⟨a5, a3, a4, N, rfl, hsh12, hg, fun q H13 k13 hq => ?_⟩
        walk_at "rd"
        refine w_neSame (dpL_ints hq) (dpL_ints (k13.lst h10)) (shL_ints _) ?_
        have z9 := z8.trans k13
        have s9 := s8.trans k13
        have h10' := k13.lst h10
        have hsh13 := hsh12.kept k13
        walk_at "rd"
        have lR := len_reachedF hg
        refine LcL.ints (ns := reachedF N) (fun _ => true) (fun n => V.str (wOf N n)) (by omega) h10' (fun n H4 kk kk2 hn kp4 h5 h6 => ?_) fun D H14 hD kp4 hDl => ?_
        · obtain ⟨x, hx, hxi, ha⟩ := at_reached hg hn
          have kq := z9.trans kp4
          obtain ⟨g1, g2⟩ := (hsh13.kept kp4).2.2 x hx
          obtain ⟨xs, hr2⟩ := g2.head
          refine w_yes (if_t rfl ?_)
          walk_at "rd"
          refine w_ixL (kq.lst n1) ha ?_
          walk_at "rd"
          have e : wOf N n = x.r.w := by
            unfold wOf
            rw [hxi]
          rw [← e] at hr2
          exact w_ixT hr2 (atI_nat (j := 0) rfl) (h5 H4 (Kept.refl _) rfl)
        rw [List.filter_eq_self.mpr (fun _ _ => rfl)] at hDl
        have hW : H14 D = some (.lst ((wordsF N).map V.str)) := by
          unfold wordsF
          rw [hDl, List.map_map] <;> rfl
        have z10 := z9.trans kp4
        have s10 := s9.trans kp4
        have h11 := kp4.lst h10'
        have hsh14 := hsh13.kept kp4
        walk_at "rd"
        refine ⟨a5, a3, a4, N, rfl, hsh14, hg, fun H15 k15 => ?_⟩
        have z11 := z10.trans k15
        have s11 := s10.trans k15
        have hW' := k15.lst hW
        have h12 := k15.lst h11
        have hsh15 := hsh14.kept k15
        walk_at "rd"
        refine w_inS hW' ?_
        refine w_ne rfl ?_
        rw [decide_eq_true rfl]
        walk_at "rd"
        refine ⟨a5, a3, a4, N, rfl, hsh15, hg, fun qt H16 k16 hT => ?_⟩
        obtain ⟨ds, ts, t1, t2, t3, t4, t5⟩ := hT
        have z12 := z11.trans k16
        have s12 := s11.trans k16
        have hW2 := k16.lst hW'
        have h13 := k16.lst h12
        have hsh16 := hsh15.kept k16
        have lW : (wordsF N).length ≤ 401 := by
          unfold wordsF
          rw [List.length_map]
          exact lR
        have lds : ds.length ≤ 401 := by
          have := List.Nodup.length_le_of_subset t1 (fun x hx => (t2 x).mp hx)
          omega
        walk_at "rd"
        refine ⟨_, rfl, SrtSet.mk (ks := wordsF N) (SqL.of hW2) (by omega) fun ds' q10 H17 hso hnd' hmem' hq10 k17 e10 => ?_⟩
        have eds := strs_srt hso hnd' t1 fun k => (hmem' k).trans (t2 k).symm
        rw [eds] at e10
        have hW3 := k17.lst hW2
        have hls : (srtBy PyData.str ds).length = ds.length := (srtBy_perm _ _).length_eq
        refine LcL.tups (fun i => [.str ((srtBy PyData.str ds).getD i (Str.ofString "")), .int (((wordsF N).count ((srtBy PyData.str ds).getD i (Str.ofString "")) : Nat) : Int)]) (by rw [List.length_map]; omega) e10 (fun i x H4 k2 hx kp4 step => ?_) fun D4 H18 ts2 hD4 kp4 u1 u2 u3 => ?_
        · rw [List.getElem?_map] at hx
          obtain ⟨z, hzi, rfl⟩ := Option.map_eq_some_iff.mp hx
          have eg : (srtBy PyData.str ds).getD i (Str.ofString "") = z := by rw [List.getD_eq_getElem?_getD, hzi] <;> rfl
          rw [eg] at step
          have hW4 := kp4.lst hW3
          walk_at "rd"
          refine ⟨D, _, z, rfl, rfl, SqL.of hW4, ?_⟩
          walk_at "rd"
          exact ⟨by show 2 ≤ sizeLine; omega, fun t ht => step _ t (Kept.new ht) upd_same⟩
        · rw [List.length_map, hls] at u2
          have kq := k17.trans kp4
          refine w_neSame (d := .list ((srtBy PyData.str ds).map (tlD (wordsF N)))) (dp_tl (kq.lst t3) (by omega) fun i t w ht hw => kq.tup (t5 i t w ht hw)) (dp_tl u1 (by omega) fun i t w ht hw => ?_) (shL_tl _ _ fun z hz => strOk_words ((t2 z).mp (mem_srtBy.mp hz))) ?_
          · have := u3 i t ht
            rw [List.getD_eq_getElem?_getD, hw] at this
            exact this
          have z13 := z12.trans kq
          have s13 := s12.trans kq
          have hsh18 := hsh16.kept kq
          have h14 := kq.lst h13
          walk_at "rd"
          refine fun D5 hD5 => ?_
          have k19 := Kept.new (o := .dK []) hD5
          have e5 : (upd H18 D5 (.dK [])) D5 = some (.dK (numT (reachedF N) 0)) := upd_same
          have h15 := k19.lst h14
          generalize upd H18 D5 (.dK []) = H19 at k19 e5 h15
          walk_at "rd"
          refine ⟨q9, _, rfl, .inl (SqL.of h15), ?_⟩
          walk_at "rd"
          rw [List.length_map]
          have hnR := nodup_reachedF N
          refine Fr1.mk (by omega) (fun i σ H => ∃ x15, σ = [some (.ref sa), some (.ref d), some (.ref L1), some (.ref L2), x4, x5, x6, some (.ref a3), some (.ref a5), some (.ref q9), x10, some (.ref D), some (.bl (decide (Str.ofString "open" ∈ wordsF N))), none, some (.ref D5), x15, none] ∧ Kept H18 H ∧ H D5 = some (.dK (numT (reachedF N) i)))
            ⟨_, rfl, k19, e5⟩ (fun i σ H hi h => ?_) (fun σ H20 h => ?_)
          · obtain ⟨x15, rfl, ki, hi5⟩ := h
            have hri : (reachedF N)[i]? = some (reachedF N)[i] := List.getElem?_eq_getElem hi
            walk_at "rd"
            refine w_ixL (ki.lst h14) (v := .int (reachedF N)[i]) (atI_nat (by rw [List.getElem?_map, hri] <;> rfl)) ?_
            refine ⟨D5, _, rfl, DPut.k (k := .inl (reachedF N)[i]) hi5 (by rw [numT_len]; omega), ?_⟩
            rw [putK_numT hnR hri]
            exact ⟨_, rfl, ki.mut hD5, upd_same⟩
          · obtain ⟨x15, rfl, ki, h5⟩ := h
            have z14 := z13.trans ki
            have s14 := s13.trans ki
            have h16 := ki.lst h14
            have hsh20 := hsh18.kept ki
            walk_at "rd"
            refine ⟨q9, rfl, ⟨_, SqL.of h16⟩, LcJ.refs (n := (reachedF N).length) (xv := fun i => V.int ((reachedF N).getD i 0)) (TrNd N) (fun i q H H' h k => h.stay k) (by omega) (fun i H hi kp => ⟨_, V.int (reachedF N)[i], SqL.of (kp.lst h16), by rw [List.getElem?_map, List.getElem?_eq_getElem hi] <;> rfl⟩) (fun i H x H' hi kp q => ?_) (fun H kp => ⟨_, SqL.of (kp.lst h16), by rw [List.length_map]; exact Nat.le_refl _⟩) (fun i H2 kk hi k2 step => ?_) fun D6 H21 ts3 hD6 k21 v1 v2 v3 => ?_⟩
            · obtain ⟨e, q⟩ := q
              subst e
              have q2 := q _ (SqL.of (kp.lst h16))
              rw [List.getElem?_map, List.getElem?_eq_getElem hi] at q2
              refine ⟨rfl, ?_⟩
              rw [List.getD_eq_getElem?_getD, List.getElem?_eq_getElem hi]
              exact (Option.some.inj q2).symm
            · have hri : (reachedF N)[i]? = some (reachedF N)[i] := List.getElem?_eq_getElem hi
              have er : (reachedF N).getD i 0 = (reachedF N)[i] := by rw [List.getD_eq_getElem?_getD, hri] <;> rfl
              have hrm : (reachedF N)[i] ∈ reachedF N := List.getElem_mem hi
              rw [er]
              generalize (reachedF N)[i] = n at hri hrm
              obtain ⟨x, hx, hxi, ha⟩ := at_reached hg hrm
              obtain ⟨g1, g2⟩ := (hsh20.kept k2).2.2 x hx
              have zz := z14.trans k2
              obtain ⟨mm, rfl⟩ := Int.eq_ofNat_of_zero_le (mem_reachedF hg hrm).1
              rw [Int.toNat_natCast] at hxi
              have hmc : mm < chs.length := by
                rw [hns.2.2.1]
                exact (List.getElem?_eq_some_iff.mp hxi).1
              have hxc : chs[mm]? = some chs[mm] := List.getElem?_eq_getElem hmc
              have hch := zz.tup (hns.2.2.2 mm _ _ hxi hxc).2.2.2
              generalize chs[mm] = cx at hxc hch
              walk_at "rd"
              refine w_ixL (zz.lst n1) ha ?_
              walk_at "rd"
              refine w_ixL (zz.lst n1) ha ?_
              walk_at "rd"
              refine w_ixL (zz.lst n2) (v := .ref cx) (atI_nat (by rw [List.getElem?_map, hxc] <;> rfl)) ?_
              walk_at "rd"
              refine ⟨x.rule, cx, D5, x.r, numT (reachedF N) (reachedF N).length, posOf (reachedF N), rfl, g2, hch, .inl (k2.keep _ _ (fun _ z => by cases z) h5), fun c hc => valV_pos2 hnR (reached_closed hg hrm (by rw [Int.toNat_natCast]; exact hxi) hc), by have := (hok mm x hxi).1; omega, fun qq H3 k3 hqq => ?_⟩
              walk_at "rd"
              refine ⟨by show 2 ≤ sizeLine; omega, fun t ht => step _ t (k3.trans (Kept.new ht)) fun n' x' hn' hx' => ?_⟩
              rw [hri] at hn'
              cases hn'
              rw [Int.toNat_natCast, hxi] at hx'
              cases hx'
              exact ⟨qq, upd_same, hqq.kept (Kept.new ht)⟩
            · walk_at "rd"
              have hsh21 := hsh20.kept k21
              refine ⟨a5, a3, a4, N, rfl, hsh21, hg, fun qT H22 k22 hTr => ?_⟩
              have z15 := (z14.trans k21).trans k22
              have s15 := (s14.trans k21).trans k22
              walk_at "rd"
              refine ⟨D6, _, rfl, .inl ⟨SqL.of (k22.lst v1), fun q7 hq7 => ?_⟩⟩
              have k23 := Kept.new (o := .tup (ts3.map V.ref)) hq7
              have w7 : (upd H22 q7 (.tup (ts3.map V.ref))) q7 = some (.tup (ts3.map V.ref)) := upd_same
              generalize upd H22 q7 (.tup (ts3.map V.ref)) = H23 at k23 w7
              walk_at "rd"
              refine ⟨by show 2 ≤ sizeLine; omega, fun q8 hq8 => ?_⟩
              have k24 := Kept.new (o := .tup [V.ref a3, V.ref q7]) hq8
              have w8 : (upd H23 q8 (.tup [V.ref a3, V.ref q7])) q8 = some (.tup [V.ref a3, V.ref q7]) := upd_same
              have w7' := k24.tup w7
              have k223 := k23.trans k24
              generalize upd H23 q8 (.tup [V.ref a3, V.ref q7]) = H24 at k24 w8 w7' k223
              obtain ⟨nT, tsT, h1T, h2T, h3T, h4T⟩ := hTr
              have zE := z15.trans k223
              have sE := s15.trans k223
              have rg : rgV 1 17 = ([1, 2, 3, 4, 5, 6, 7, 8, 9, 10, 11, 12, 13, 14, 15, 16] : List Int).map V.int := by decide +kernel
              rw [rg] at d1
              have hres : ∀ (j : Nat) (x : Nd), N[j]? = some x → ∃ cl, H24 x.res = some (.tup [.ref cl]) ∧ H24 cl = some (.tup [.int ((j : Int) + 1)]) := fun j x hx => by
                have hjc : j < chs.length := by
                  rw [hns.2.2.1]
                  exact (List.getElem?_eq_some_iff.mp hx).1
                obtain ⟨cl, r1, r2⟩ := (hns.2.2.2 j x _ hx (List.getElem?_eq_getElem hjc)).2.2.1
                exact ⟨cl, zE.tup r1, zE.tup r2⟩
              have wF : H24 a3 = some (.tup [V.ref a1, V.ref a2, V.ref X.res]) := sE.tup c3
              refine w_eqSame (d := .tuple [.tuple [.tuple (([1, 2, 3, 4, 5, 6, 7, 8, 9, 10, 11, 12, 13, 14, 15, 16] : List Int).map PyData.int), .tuple [], .tuple [.tuple [.int ((m : Int) + 1)]]], .tuple ((reachedF N).map (ndDat N))]) ?_ ?_ ?_ (k _)
              · exact .tup (SqT.of (k223.tup h1T)) (.cons (.tup (SqT.of wF) (.cons (dp_ints (sE.tup d1)) (.cons (.tup (SqT.of (sE.tup d2)) .nil) (.cons (.tup (SqT.of (zE.tup x3)) (.cons (.tup (SqT.of (zE.tup x4')) (.cons (.int _) .nil)) .nil)) .nil)))) (.cons (dp_nds (k223.tup h2T) h3T hg (fun i t ht => (h4T i t ht).stay fun b xs h => k223.tup h) hres) .nil))
              · exact .tup (SqT.of w8) (.cons (.tup (SqT.of wF) (.cons (dp_ints (sE.tup d1)) (.cons (.tup (SqT.of (sE.tup d2)) .nil) (.cons (.tup (SqT.of (zE.tup x3)) (.cons (.tup (SqT.of (zE.tup x4')) (.cons (.int _) .nil)) .nil)) .nil)))) (.cons (dp_nds w7' v2 hg (fun i t ht => (v3 i t ht).stay fun b xs h => k223.tup (k22.tup h)) hres) .nil))
              · have h1 := depth_nds N (reachedF N)
                have h2 := PySem.W.depth_ints [1, 2, 3, 4, 5, 6, 7, 8, 9, 10, 11, 12, 13, 14, 15, 16]
                unfold SeqAt.shaped
                simp only [PyData.canLay0, PyData.canLayAll0, canLay_ints, lay_nds, Bool.true_and, Bool.and_true, PyData.depth, PyData.depthAll]
                exact decide_eq_true (by omega)
end
end Ky

namespace Ky
open PySem PySem.Spec PyProof.Rows L2
/-- the end of a row by what the top has left: the law's promise may lean on the tables of code objects -/
theorem walk_own {l : PySem.W.OpenLaw} {n k : Nat} {q : Program} {loose : List Str} {XP : (Str → Option Value) → Heap → Prop} {YP : World → Heap → Prop} {d : DefRec} {K : Params → PySem.W.Frag} {x : Str}
    (hn : l.most = some n) (hn2 : n ≤ sizeLine) (hdf : d.params.defaults = []) (hr : Room k callerA) (hK : ∀ (w : World) (h : Heap), YP w h → (K w.params).In h)
    (F : ∀ (w : World) (s0 : Shared) (mg mb : Str → Option Value) (fa : Addr) (h : Heap), PySem.W.Ground q loose [] XP w s0 mg mb h → YP w h →
      mg d.name = some (.ref fa) → (K w.params).In h → LamX.LawAtS l w (K w.params) CX0 k n x mg fa h) :
    PySem.W.WalkO q loose XP YP l.row.toRowW d [] (fun f vs => PySem.call f vs) :=
  Att.attach_callB hn hdf fun w s0 s1 mg mb fa _ _ _ _ a _ ns G Y _ _ _ hm ho hi hl hz hg => by
    have X := hK w s1.heap Y
    obtain ⟨fd, cs, sp, t1, t2, t3, t4, t5, t6⟩ := F w s0 mg mb fa s1.heap G Y hm X
    have T := G.T
    exact LamX.law_callTs X T.g T.b T.builtins T.nolimit hg t1 t2 t3 T.bmain ho hi (Nat.le_trans hl hn2) hr t6 t4 (fun H a1 a2 => t5 H a ns hl hz a1 a2) fun _ _ _ z => z
theorem df_of {P : Program} {w : World} {K : PySem.W.Frag} {mg : Str → Option Value} {base : Heap} {k : Nat} {x : Str} {ps : List Str} {sp : Sp} {f : Addr} {fd : FuncData} (F : FnOk P w K mg base CX0 k f fd ps sp) (m : mg x = some (.ref f)) (kp : PySem.W.keepIn K (.ref f) = true) (b : Binds K fd ps []) : Df P w K mg base k x ps sp := ⟨f, fd, F, m, kp, b⟩
theorem func_mk {K : PySem.W.Frag} {x : Str} {st : Stmt} {f c : Addr} {oc : Value} {od an : Option Addr} {osl : Array (Option Value)} {kV doc pm ct : Value} (l : K.lookup f = some ⟨oc, od, .func (PySem.W.fnOf x x (defArgs st) (defBody st) (defScope st) .none kV doc pm an (.ref c) ct), osl⟩) (b : PySem.W.codeIn K (.ref c) x = true) : FunC K x st f (PySem.W.fnOf x x (defArgs st) (defBody st) (defScope st) .none kV doc pm an (.ref c) ct) c := ⟨⟨oc, od, kV, doc, pm, an, ct, osl, rfl, l, b⟩⟩
theorem tab_in {K : PySem.W.Frag} {x : Str} {f c t : Addr} {oc e : Value} {od dd : Option Addr} {fd : FuncData} {sl sv : Array (Option Value)} {vs : Array Value} (a : PySem.W.nsIn K mainGlobals x = some (some (.ref f))) (l : K.lookup f = some ⟨oc, od, .func fd, sl⟩) (hc : fd.code = .ref c)
    (lc : K.lookup c = some ⟨e, dd, .fields vs, sv⟩) (lv : vs[11]? = some (.ref t)) : PySem.W.tabIn K x = some (c, t) := by
  unfold PySem.W.tabIn
  simp only [a, l, hc, lc, lv]
theorem all_mk {l : PySem.W.OpenLaw} {w : World} {K : PySem.W.Frag} {q : Program} {lo : List Str} {lv : List (Str × PySem.W.WData)} {s0 : Shared} {h : Heap} {mg mb : Str → Option Value} {fa : Addr}  (X : K.In h)
    (G : PySem.W.Ground q lo [] (PySem.W.XL q lv) w s0 mg mb h) (hfa : mg "law" = some (.ref fa)) 
    {f_children_of : Addr} {od_children_of an_children_of : Option Addr} {sl_children_of : Array (Option Value)} {oc_children_of kV_children_of dc_children_of pm_children_of cd_children_of ct_children_of : Value}
    (a_children_of : PySem.W.nsIn K mainGlobals "children_of" = some (some (.ref f_children_of))) (l_children_of : K.lookup f_children_of = some ⟨oc_children_of, od_children_of, .func (PySem.W.fnOf "children_of" "children_of" (defArgs s_children_of) (defBody s_children_of) (defScope s_children_of) .none kV_children_of dc_children_of pm_children_of an_children_of (cd_children_of) ct_children_of), sl_children_of⟩)
    (b_children_of : PySem.W.codeIn K (cd_children_of) "children_of" = true) (k_children_of : PySem.W.keepIn K (.ref f_children_of) = true)
    {f_renumbered : Addr} {od_renumbered an_renumbered : Option Addr} {sl_renumbered : Array (Option Value)} {oc_renumbered kV_renumbered dc_renumbered pm_renumbered cd_renumbered ct_renumbered : Value}
    (a_renumbered : PySem.W.nsIn K mainGlobals "renumbered" = some (some (.ref f_renumbered))) (l_renumbered : K.lookup f_renumbered = some ⟨oc_renumbered, od_renumbered, .func (PySem.W.fnOf "renumbered" "renumbered" (defArgs s_renumbered) (defBody s_renumbered) (defScope s_renumbered) .none kV_renumbered dc_renumbered pm_renumbered an_renumbered (cd_renumbered) ct_renumbered), sl_renumbered⟩)
    (b_renumbered : PySem.W.codeIn K (cd_renumbered) "renumbered" = true) (k_renumbered : PySem.W.keepIn K (.ref f_renumbered) = true)
    {f_reached : Addr} {od_reached an_reached : Option Addr} {sl_reached : Array (Option Value)} {oc_reached kV_reached dc_reached pm_reached cd_reached ct_reached : Value}
    (a_reached : PySem.W.nsIn K mainGlobals "reached" = some (some (.ref f_reached))) (l_reached : K.lookup f_reached = some ⟨oc_reached, od_reached, .func (PySem.W.fnOf "reached" "reached" (defArgs s_reached) (defBody s_reached) (defScope s_reached) .none kV_reached dc_reached pm_reached an_reached (cd_reached) ct_reached), sl_reached⟩)
    (b_reached : PySem.W.codeIn K (cd_reached) "reached" = true) (k_reached : PySem.W.keepIn K (.ref f_reached) = true)
    {f_words_of : Addr} {od_words_of an_words_of : Option Addr} {sl_words_of : Array (Option Value)} {oc_words_of kV_words_of dc_words_of pm_words_of cd_words_of ct_words_of : Value}
    (a_words_of : PySem.W.nsIn K mainGlobals "words_of" = some (some (.ref f_words_of))) (l_words_of : K.lookup f_words_of = some ⟨oc_words_of, od_words_of, .func (PySem.W.fnOf "words_of" "words_of" (defArgs s_words_of) (defBody s_words_of) (defScope s_words_of) .none kV_words_of dc_words_of pm_words_of an_words_of (cd_words_of) ct_words_of), sl_words_of⟩)
    (b_words_of : PySem.W.codeIn K (cd_words_of) "words_of" = true) (k_words_of : PySem.W.keepIn K (.ref f_words_of) = true)
    {f_is_open : Addr} {od_is_open an_is_open : Option Addr} {sl_is_open : Array (Option Value)} {oc_is_open kV_is_open dc_is_open pm_is_open cd_is_open ct_is_open : Value}
    (a_is_open : PySem.W.nsIn K mainGlobals "is_open" = some (some (.ref f_is_open))) (l_is_open : K.lookup f_is_open = some ⟨oc_is_open, od_is_open, .func (PySem.W.fnOf "is_open" "is_open" (defArgs s_is_open) (defBody s_is_open) (defScope s_is_open) .none kV_is_open dc_is_open pm_is_open an_is_open (cd_is_open) ct_is_open), sl_is_open⟩)
    (b_is_open : PySem.W.codeIn K (cd_is_open) "is_open" = true) (k_is_open : PySem.W.keepIn K (.ref f_is_open) = true)
    {f_tally : Addr} {od_tally an_tally : Option Addr} {sl_tally : Array (Option Value)} {oc_tally kV_tally dc_tally pm_tally cd_tally ct_tally : Value}
    (a_tally : PySem.W.nsIn K mainGlobals "tally" = some (some (.ref f_tally))) (l_tally : K.lookup f_tally = some ⟨oc_tally, od_tally, .func (PySem.W.fnOf "tally" "tally" (defArgs s_tally) (defBody s_tally) (defScope s_tally) .none kV_tally dc_tally pm_tally an_tally (cd_tally) ct_tally), sl_tally⟩)
    (b_tally : PySem.W.codeIn K (cd_tally) "tally" = true) (k_tally : PySem.W.keepIn K (.ref f_tally) = true)
    {f_trimmed : Addr} {od_trimmed an_trimmed : Option Addr} {sl_trimmed : Array (Option Value)} {oc_trimmed kV_trimmed dc_trimmed pm_trimmed cd_trimmed ct_trimmed : Value}
    (a_trimmed : PySem.W.nsIn K mainGlobals "trimmed" = some (some (.ref f_trimmed))) (l_trimmed : K.lookup f_trimmed = some ⟨oc_trimmed, od_trimmed, .func (PySem.W.fnOf "trimmed" "trimmed" (defArgs s_trimmed) (defBody s_trimmed) (defScope s_trimmed) .none kV_trimmed dc_trimmed pm_trimmed an_trimmed (cd_trimmed) ct_trimmed), sl_trimmed⟩)
    (b_trimmed : PySem.W.codeIn K (cd_trimmed) "trimmed" = true) (k_trimmed : PySem.W.keepIn K (.ref f_trimmed) = true)
    {f_l_draw : Addr} {od_l_draw an_l_draw : Option Addr} {sl_l_draw : Array (Option Value)} {oc_l_draw kV_l_draw dc_l_draw pm_l_draw cd_l_draw ct_l_draw : Value}
    (a_l_draw : PySem.W.nsIn K mainGlobals "_law_draw" = some (some (.ref f_l_draw))) (l_l_draw : K.lookup f_l_draw = some ⟨oc_l_draw, od_l_draw, .func (PySem.W.fnOf "_law_draw" "_law_draw" (defArgs s_l_draw) (defBody s_l_draw) (defScope s_l_draw) .none kV_l_draw dc_l_draw pm_l_draw an_l_draw (cd_l_draw) ct_l_draw), sl_l_draw⟩)
    (b_l_draw : PySem.W.codeIn K (cd_l_draw) "_law_draw" = true) (k_l_draw : PySem.W.keepIn K (.ref f_l_draw) = true)
    {f_l_take : Addr} {od_l_take an_l_take : Option Addr} {sl_l_take : Array (Option Value)} {oc_l_take kV_l_take dc_l_take pm_l_take cd_l_take ct_l_take : Value}
    (a_l_take : PySem.W.nsIn K mainGlobals "_law_take" = some (some (.ref f_l_take))) (l_l_take : K.lookup f_l_take = some ⟨oc_l_take, od_l_take, .func (PySem.W.fnOf "_law_take" "_law_take" (defArgs s_l_take) (defBody s_l_take) (defScope s_l_take) .none kV_l_take dc_l_take pm_l_take an_l_take (cd_l_take) ct_l_take), sl_l_take⟩)
    (b_l_take : PySem.W.codeIn K (cd_l_take) "_law_take" = true) (k_l_take : PySem.W.keepIn K (.ref f_l_take) = true)
    {f_l_rule : Addr} {od_l_rule an_l_rule : Option Addr} {sl_l_rule : Array (Option Value)} {oc_l_rule kV_l_rule dc_l_rule pm_l_rule cd_l_rule ct_l_rule : Value}
    (a_l_rule : PySem.W.nsIn K mainGlobals "_law_rule" = some (some (.ref f_l_rule))) (l_l_rule : K.lookup f_l_rule = some ⟨oc_l_rule, od_l_rule, .func (PySem.W.fnOf "_law_rule" "_law_rule" (defArgs s_l_rule) (defBody s_l_rule) (defScope s_l_rule) .none kV_l_rule dc_l_rule pm_l_rule an_l_rule (cd_l_rule) ct_l_rule), sl_l_rule⟩)
    (b_l_rule : PySem.W.codeIn K (cd_l_rule) "_law_rule" = true) (k_l_rule : PySem.W.keepIn K (.ref f_l_rule) = true)
    {f_l_renamed : Addr} {od_l_renamed an_l_renamed : Option Addr} {sl_l_renamed : Array (Option Value)} {oc_l_renamed kV_l_renamed dc_l_renamed pm_l_renamed cd_l_renamed ct_l_renamed : Value}
    (a_l_renamed : PySem.W.nsIn K mainGlobals "_law_renamed" = some (some (.ref f_l_renamed))) (l_l_renamed : K.lookup f_l_renamed = some ⟨oc_l_renamed, od_l_renamed, .func (PySem.W.fnOf "_law_renamed" "_law_renamed" (defArgs s_l_renamed) (defBody s_l_renamed) (defScope s_l_renamed) .none kV_l_renamed dc_l_renamed pm_l_renamed an_l_renamed (cd_l_renamed) ct_l_renamed), sl_l_renamed⟩)
    (b_l_renamed : PySem.W.codeIn K (cd_l_renamed) "_law_renamed" = true) (k_l_renamed : PySem.W.keepIn K (.ref f_l_renamed) = true)
    {f_law : Addr} {od_law an_law : Option Addr} {sl_law : Array (Option Value)} {oc_law kV_law dc_law pm_law cd_law ct_law : Value}
    (a_law : PySem.W.nsIn K mainGlobals "law" = some (some (.ref f_law))) (l_law : K.lookup f_law = some ⟨oc_law, od_law, .func (PySem.W.fnOf "law" "law" (defArgs s_law) (defBody s_law) (defScope s_law) .none kV_law dc_law pm_law an_law (cd_law) ct_law), sl_law⟩)
    (b_law : PySem.W.codeIn K (cd_law) "law" = true) (k_law : PySem.W.keepIn K (.ref f_law) = true)
    (z_isinstance : PySem.W.nsIn K mainGlobals "isinstance" = some none)
    (z_int : PySem.W.nsIn K mainGlobals "int" = some none)
    (z_bool : PySem.W.nsIn K mainGlobals "bool" = some none)
    (z_tuple : PySem.W.nsIn K mainGlobals "tuple" = some none)
    (z_abs : PySem.W.nsIn K mainGlobals "abs" = some none)
    (z_len : PySem.W.nsIn K mainGlobals "len" = some none)
    (z_list : PySem.W.nsIn K mainGlobals "list" = some none)
    (z_range : PySem.W.nsIn K mainGlobals "range" = some none)
    (z_sorted : PySem.W.nsIn K mainGlobals "sorted" = some none)
    (z_max : PySem.W.nsIn K mainGlobals "max" = some none)
    (z_set : PySem.W.nsIn K mainGlobals "set" = some none)
    (z_reversed : PySem.W.nsIn K mainGlobals "reversed" = some none) : LamX.LawAtS l w K CX0 6 63 "script" mg fa h := by
  have Gg := G.T.g
  have e := hfa.symm.trans (PySem.W.mg_of X Gg a_law)
  cases e
  have T : Tx K mg .none := ⟨PySem.W.mg_none_of X Gg z_isinstance, PySem.W.mg_none_of X Gg z_int, PySem.W.mg_none_of X Gg z_bool, PySem.W.mg_none_of X Gg z_tuple, PySem.W.mg_none_of X Gg z_abs, PySem.W.mg_none_of X Gg z_len, PySem.W.mg_none_of X Gg z_list, PySem.W.mg_none_of X Gg z_range, PySem.W.mg_none_of X Gg z_sorted, PySem.W.mg_none_of X Gg z_max, PySem.W.mg_none_of X Gg z_set, PySem.W.mg_none_of X Gg z_reversed⟩
  have F_children_of := fun_mk (st := s_children_of) l_children_of b_children_of k_children_of
  have F_renumbered := fun_mk (st := s_renumbered) l_renumbered b_renumbered k_renumbered
  have F_reached := fun_mk (st := s_reached) l_reached b_reached k_reached
  have F_words_of := fun_mk (st := s_words_of) l_words_of b_words_of k_words_of
  have F_is_open := fun_mk (st := s_is_open) l_is_open b_is_open k_is_open
  have F_tally := fun_mk (st := s_tally) l_tally b_tally k_tally
  have F_trimmed := fun_mk (st := s_trimmed) l_trimmed b_trimmed k_trimmed
  have F_l_draw := fun_mk (st := s_l_draw) l_l_draw b_l_draw k_l_draw
  have F_l_take := fun_mk (st := s_l_take) l_l_take b_l_take k_l_take
  have F_l_rule := fun_mk (st := s_l_rule) l_l_rule b_l_rule k_l_rule
  have F_l_renamed := fun_mk (st := s_l_renamed) l_l_renamed b_l_renamed k_l_renamed
  have F_law := fun_mk (st := s_law) l_law b_law k_law
  refine ⟨PySem.W.fnOf "law" "law" (defArgs s_law) (defBody s_law) (defScope s_law) .none kV_law dc_law pm_law an_law cd_law ct_law, [], spLaw K, ?_, ?_, ?_, fun s v => .of_eq rfl, ?_, fun base KB MB hTB => ?_⟩
  · intro p hp
    cases hp
  · intro p hp
    cases hp
  · intro p hp
    cases hp
  · intro H a ns hl _ ht hS
    exact ⟨a, ns, rfl, hS, hl, fun _ => rfl⟩
  have D_children_of : Df l.prog w K mg base 1 "children_of" ["rule"] spCh := df_of (ok_children_of F_children_of T) (PySem.W.mg_of X Gg a_children_of) k_children_of (Binds.all fun us hl => match us, hl with | [_], _ => rfl)
  have D_renumbered : Df l.prog w K mg base 1 "renumbered" ["rule", "numbers"] spRen := df_of (ok_renumbered F_renumbered T) (PySem.W.mg_of X Gg a_renumbered) k_renumbered (Binds.all fun us hl => match us, hl with | [_, _], _ => rfl)
  have D_reached : Df l.prog w K mg base 2 "reached" ["sheet"] spReached := df_of (ok_reached F_reached T D_children_of) (PySem.W.mg_of X Gg a_reached) k_reached (Binds.all fun us hl => match us, hl with | [_], _ => rfl)
  have D_words_of : Df l.prog w K mg base 4 "words_of" ["sheet"] spWords := df_of (ok_words_of F_words_of T D_reached) (PySem.W.mg_of X Gg a_words_of) k_words_of (Binds.all fun us hl => match us, hl with | [_], _ => rfl)
  have D_is_open : Df l.prog w K mg base 5 "is_open" ["sheet"] spOpen := df_of (ok_is_open F_is_open T D_words_of) (PySem.W.mg_of X Gg a_is_open) k_is_open (Binds.all fun us hl => match us, hl with | [_], _ => rfl)
  have D_tally : Df l.prog w K mg base 5 "tally" ["sheet"] spTally := df_of (ok_tally F_tally T D_words_of) (PySem.W.mg_of X Gg a_tally) k_tally (Binds.all fun us hl => match us, hl with | [_], _ => rfl)
  have D_trimmed : Df l.prog w K mg base 4 "trimmed" ["sheet"] spTrim := df_of (ok_trimmed F_trimmed T D_reached D_renumbered) (PySem.W.mg_of X Gg a_trimmed) k_trimmed (Binds.all fun us hl => match us, hl with | [_], _ => rfl)
  have D_l_draw : Df l.prog w K mg base 1 "_law_draw" ["script"] (spDrawC K) := df_of (ok_l_draw F_l_draw T) (PySem.W.mg_of X Gg a_l_draw) k_l_draw (Binds.all fun us hl => match us, hl with | [_], _ => rfl)
  have D_l_take : Df l.prog w K mg base 1 "_law_take" ["draw", "many"] spTakeC := df_of (ok_l_take F_l_take T) (PySem.W.mg_of X Gg a_l_take) k_l_take (Binds.all fun us hl => match us, hl with | [_, _], _ => rfl)
  have D_l_rule : Df l.prog w K mg base 2 "_law_rule" ["draw", "below"] spRule := df_of (ok_l_rule F_l_rule T D_l_take) (PySem.W.mg_of X Gg a_l_rule) k_l_rule (Binds.all fun us hl => match us, hl with | [_, _], _ => rfl)
  have D_l_renamed : Df l.prog w K mg base 1 "_law_renamed" ["rule", "children", "numbers"] spLRen := df_of (ok_l_renamed F_l_renamed T) (PySem.W.mg_of X Gg a_l_renamed) k_l_renamed (Binds.all fun us hl => match us, hl with | [_, _, _], _ => rfl)
  exact ok_law F_law T D_l_draw D_l_take D_l_rule D_l_renamed D_children_of D_reached D_is_open D_tally D_trimmed
end Ky
open PySem PySem.W PyProof.Rows in
set_option maxRecDepth 100000 in
set_option maxHeartbeats 0 in
theorem PySem.Challenge.cw_countsworn_k33_nodes_that_are_reached_holds : PySem.Challenge.rw_countsworn_k33_nodes_that_are_reached.Holds := by
  w_on; o_law; k_head; (case hw => w_witness2)
  k_fill
  refine Ky.walk_own (l := PySem.Challenge.rw_countsworn_k33_nodes_that_are_reached) (n := 63) (k := 6) (x := "script") rfl (by decide) rfl ⟨rfl, by decide, by decide⟩ (fun w h Y => PySem.W.kIn_of Y) ?F
  case F =>
    intro w s0 mg mb fa h G Y hmg KX
    refine' Ky.all_mk KX G hmg  ?a_children_of ?l_children_of ?b_children_of ?k_children_of ?a_renumbered ?l_renumbered ?b_renumbered ?k_renumbered ?a_reached ?l_reached ?b_reached ?k_reached ?a_words_of ?l_words_of ?b_words_of ?k_words_of ?a_is_open ?l_is_open ?b_is_open ?k_is_open ?a_tally ?l_tally ?b_tally ?k_tally ?a_trimmed ?l_trimmed ?b_trimmed ?k_trimmed ?a_l_draw ?l_l_draw ?b_l_draw ?k_l_draw ?a_l_take ?l_l_take ?b_l_take ?k_l_take ?a_l_rule ?l_l_rule ?b_l_rule ?k_l_rule ?a_l_renamed ?l_l_renamed ?b_l_renamed ?k_l_renamed ?a_law ?l_law ?b_law ?k_law ?z_isinstance ?z_int ?z_bool ?z_tuple ?z_abs ?z_len ?z_list ?z_range ?z_sorted ?z_max ?z_set ?z_reversed
    (case a_children_of => k_is)
    (case l_children_of => k_is)
    (case b_children_of => k_is)
    (case k_children_of => k_is)
    (case a_renumbered => k_is)
    (case l_renumbered => k_is)
    (case b_renumbered => k_is)
    (case k_renumbered => k_is)
    (case a_reached => k_is)
    (case l_reached => k_is)
    (case b_reached => k_is)
    (case k_reached => k_is)
    (case a_words_of => k_is)
    (case l_words_of => k_is)
    (case b_words_of => k_is)
    (case k_words_of => k_is)
    (case a_is_open => k_is)
    (case l_is_open => k_is)
    (case b_is_open => k_is)
    (case k_is_open => k_is)
    (case a_tally => k_is)
    (case l_tally => k_is)
    (case b_tally => k_is)
    (case k_tally => k_is)
    (case a_trimmed => k_is)
    (case l_trimmed => k_is)
    (case b_trimmed => k_is)
    (case k_trimmed => k_is)
    (case a_l_draw => k_is)
    (case l_l_draw => k_is)
    (case b_l_draw => k_is)
    (case k_l_draw => k_is)
    (case a_l_take => k_is)
    (case l_l_take => k_is)
    (case b_l_take => k_is)
    (case k_l_take => k_is)
    (case a_l_rule => k_is)
    (case l_l_rule => k_is)
    (case b_l_rule => k_is)
    (case k_l_rule => k_is)
    (case a_l_renamed => k_is)
    (case l_l_renamed => k_is)
    (case b_l_renamed => k_is)
    (case k_l_renamed => k_is)
    (case a_law => k_is)
    (case l_law => k_is)
    (case b_law => k_is)
    (case k_law => k_is)
    (case z_isinstance => k_is)
    (case z_int => k_is)
    (case z_bool => k_is)
    (case z_tuple => k_is)
    (case z_abs => k_is)
    (case z_len => k_is)
    (case z_list => k_is)
    (case z_range => k_is)
    (case z_sorted => k_is)
    (case z_max => k_is)
    (case z_set => k_is)
    (case z_reversed => k_is)

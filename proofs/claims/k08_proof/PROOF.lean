import PyProof.Rows.All
import Wide.All
import OpenK.AllK
import Wide.FinOn
import HandS.ForMost
import HandS.AnyAll
import HandS.EndTab
import HandS.Style
import HandS.Gcd
import HandS.Wide
import HandS.StrMore
import HandS.Evl
import KE.KNest
import HandS.GenList
import PyProof.GenArm
import KE.SortKeyHeap
import KE.SortData
import KE.DataCmp
import HandS.SortKw
import HandS.DictComp
import HandS.Conv
import HandS.SetBool
import HandS.Strs
import HandS.IsInst
import HandS.More
import HandS.TupLe
import HandS.TupAny
import HandS.Deep
import KE.LtData
import HandS.SetFor
import PyProof.Rows.SortShellAny
import PyProof.Rows.SortStr
import PyProof.CollectIter
import PyProof.TupleIter
import HandS.ExcValue
import PyProof.SumAnyB
import KE.KDictList
import HandS.DictTup
import HandS.ExcOwn
import HandS.WordsExc
import HandS.TryOnly
import HandS.Small
import PyProof.P3In
import HandS.ExcField
import KE.KExcSuper
import PyProof.FString
import PyProof.FString4
import PyProof.Rows.RegStrFacts
import PyProof.FitsInt
import HandS.FStr
import PyProof.StrOps2
import PyProof.FitsStr
import KE.KUnpack
import PyProof.ReprRoads
import HandS.Iter
import HandS.Replace
import KE.KRevSl
import PyProof.StrLawsRepr
import KE.RegKSuper
import PySem.Challenge.RW_countsworn_k08_plain_values_as_bytes
set_option Elab.async false
set_option linter.all false
set_option maxRecDepth 100000
set_option maxHeartbeats 4000000
namespace Ky
open PySem PySem.Spec PyProof.Rows L2
/-! ### what stays -/
def NoTab (o : HO) : Prop := ∀ ps, o ≠ HO.tbl ps
theorem noTab_tup {xs : List V} : NoTab (.tup xs) := fun ps e => by cases e
theorem noTab_lst {xs : List V} : NoTab (.lst xs) := fun ps e => by cases e
/-- the cells to draw from, at d -/
def Drw (K : PySem.W.Frag) (H : Hp) (d : Addr) : Prop := ∃ (c : Addr) (ns : List Int) (a u z : Int),
  H d = some (.lst [.ref c, .int a, .int u, .int z]) ∧ H c = some (.lst (ns.map V.int)) ∧ -1 ≤ a
theorem Drw.ne {K : PySem.W.Frag} {H : Hp} {d : Addr} (h : Drw K H d) : ∃ xs, H d = some (.lst xs) := by
  obtain ⟨c, ns, a, u, z, h1, _⟩ := h
  exact ⟨_, h1⟩
structure Kept (H H' : Hp) : Prop where
  keep : ∀ b o, NoTab o → H b = some o → H' b = some o
  tab : ∀ P, GxR.TabG H P → GxR.TabG H' P
  free : ∀ b, H' b = none → H b = none
structure KeptD (K : PySem.W.Frag) (d : Addr) (H H' : Hp) : Prop where
  keep : ∀ b o, b ≠ d → NoTab o → H b = some o → H' b = some o
  drw : Drw K H d → Drw K H' d
  tab : ∀ P, GxR.TabG H P → GxR.TabG H' P
  free : ∀ b, H' b = none → H b = none
theorem Kept.refl (H : Hp) : Kept H H := ⟨fun _ _ _ h => h, fun _ h => h, fun _ h => h⟩
theorem Kept.trans {H H1 H2 : Hp} (a : Kept H H1) (b : Kept H1 H2) : Kept H H2 := ⟨fun c o n h => b.keep c o n (a.keep c o n h), fun P h => b.tab P (a.tab P h), fun c h => a.free c (b.free c h)⟩
theorem KeptD.refl {K : PySem.W.Frag} {d : Addr} (H : Hp) : KeptD K d H H := ⟨fun _ _ _ _ h => h, fun h => h, fun _ h => h, fun _ h => h⟩
theorem KeptD.trans {K : PySem.W.Frag} {d : Addr} {H H1 H2 : Hp} (a : KeptD K d H H1) (b : KeptD K d H1 H2) : KeptD K d H H2 :=
  ⟨fun c o n m h => b.keep c o n m (a.keep c o n m h), fun h => b.drw (a.drw h), fun P h => b.tab P (a.tab P h), fun c h => a.free c (b.free c h)⟩
theorem Kept.toD {K : PySem.W.Frag} {d : Addr} {H H' : Hp} (a : Kept H H') : KeptD K d H H' := ⟨fun b o _ n h => a.keep b o n h, fun h => by
  obtain ⟨c, ns, i, u, z, h1, h2, h3⟩ := h
  exact ⟨c, ns, i, u, z, a.keep _ _ noTab_lst h1, a.keep _ _ noTab_lst h2, h3⟩, a.tab, a.free⟩
theorem upd_free {H : Hp} {p b : Addr} {o : HO} (h : upd H p o b = none) : H b = none ∧ b ≠ p := by
  by_cases z : b = p
  · rw [z, upd_same] at h
    cases h
  · rw [upd_ne z] at h
    exact ⟨h, z⟩
theorem Kept.new {H : Hp} {p : Addr} {o : HO} (h : H p = none) : Kept H (upd H p o) := ⟨fun a u _ e => by
  rw [upd_ne (ne_of_none e h)]
  exact e, fun P hP => by
  obtain ⟨ps, h1, h2⟩ := hP
  exact ⟨ps, by rw [upd_ne (ne_of_none h1 h)]; exact h1, h2⟩, fun b hb => (upd_free hb).1⟩
theorem Kept.mut {H H' : Hp} {p : Addr} {o : HO} (e : Kept H H') (h : H p = none) : Kept H (upd H' p o) := ⟨fun a u n ha => by
  rw [upd_ne (ne_of_none ha h)]
  exact e.keep a u n ha, fun P hP => by
  obtain ⟨ps, h1, h2⟩ := hP
  have nP := ne_of_none h1 h
  obtain ⟨qs, g1, g2⟩ := e.tab P ⟨ps, h1, h2⟩
  exact ⟨qs, by rw [upd_ne nP]; exact g1, g2⟩, fun b hb => e.free b (upd_free hb).1⟩
theorem Kept.tabbed {H H' : Hp} {P : Addr} (hP : GxR.TabG H P) (e : GxR.Tabbed P H H') : Kept H H' := ⟨fun b o n h => by
  have nP : b ≠ P := fun z => by
    obtain ⟨ps, h1, _⟩ := hP
    rw [z, h1] at h
    exact n ps (Option.some.inj h).symm
  rw [e.2 b nP]
  exact h, fun P' h' => by
  by_cases z : P' = P
  · rw [z]
    exact e.1
  · obtain ⟨ps, h1, h2⟩ := h'
    exact ⟨ps, by rw [e.2 P' z]; exact h1, h2⟩, fun b h => by
  by_cases z : b = P
  · obtain ⟨ps, h1, _⟩ := e.1
    rw [z, h1] at h
    cases h
  · rw [e.2 b z] at h
    exact h⟩
theorem Kept.sq {K : PySem.W.Frag} {H H' : Hp} {a : Addr} {xs : List V} (e : Kept H H') (h : SqL K H a xs) : SqL K H' a xs := by
  rcases h with (h | ⟨o, h⟩) | h
  · exact .inl (.inl (e.keep _ _ noTab_lst h))
  · exact .inl (.inr ⟨o, e.keep _ _ (fun ps z => by cases z) h⟩)
  · exact .inr h
theorem Kept.tup {H H' : Hp} {p : Addr} {xs : List V} (e : Kept H H') (h : H p = some (.tup xs)) : H' p = some (.tup xs) := e.keep _ _ noTab_tup h
theorem Kept.lst {H H' : Hp} {p : Addr} {xs : List V} (e : Kept H H') (h : H p = some (.lst xs)) : H' p = some (.lst xs) := e.keep _ _ noTab_lst h
theorem KeptD.tup {K : PySem.W.Frag} {d : Addr} {H H' : Hp} {p : Addr} {xs : List V} (e : KeptD K d H H') (hd : Drw K H d) (h : H p = some (.tup xs)) : H' p = some (.tup xs) := e.keep _ _ (fun z => by
  obtain ⟨ys, h'⟩ := hd.ne
  rw [z, h'] at h
  cases h) noTab_tup h
theorem KeptD.lst {K : PySem.W.Frag} {d : Addr} {H H' : Hp} {p : Addr} {xs : List V} (e : KeptD K d H H') (hd : p ≠ d) (h : H p = some (.lst xs)) : H' p = some (.lst xs) := e.keep _ _ hd noTab_lst h
/-! ### a def of the module, to be called -/
structure Df (P : Program) (w : World) (K : PySem.W.Frag) (mg : Str → Option Value) (base : Heap) (k : Nat) (x : Str) (ps : List Str) (sp : Sp) : Prop where
  ex : ∃ f fd, FnOk P w K mg base CX0 k f fd ps sp ∧ mg x = some (.ref f) ∧ PySem.W.keepIn K (.ref f) = true ∧ Binds K fd ps []
section
variable {X : Cx} {k : Nat} {ps : List Str} {sp : Sp} {x : Str} {p pos : Pos} {e : Expr} {es : List Expr} {t : TA}
theorem pe_df (D : Df X.prog X.w X.K X.mg X.base k x ps sp) (hr : Room k X.A) (hg : Gl X x) (ha : PA X (e :: es) t) (hdb : (x == ("__debug__" : Str)) = false := by decide)
    (he : starEach (e :: es) X.env = (false, eval e X.env) :: starEach es X.env := by rfl) (hpl : (backTo pos (starEach es X.env)).any (·.1) = false := by rfl) :
    PE X (.Call (.Name x p) (e :: es) [] pos) (tCall sp [] E0 t) := by
  obtain ⟨f, fd, F, hm, hk, hb⟩ := D.ex
  exact pe_call F hr hg hm hk hb .nil pass0 ha hdb he hpl
end
/-! ### a def whose code object is told -/
structure FunC (K : PySem.W.Frag) (x : Str) (st : Stmt) (f : Addr) (fd : FuncData) (c : Addr) : Prop where
  ex : ∃ (oc : Value) (od : Option Addr) (kV doc pm : Value) (an : Option Addr) (ct : Value) (osl : Array (Option Value)),
    fd = PySem.W.fnOf x x (defArgs st) (defBody st) (defScope st) .none kV doc pm an (.ref c) ct ∧ K.lookup f = some ⟨oc, od, .func fd, osl⟩ ∧ PySem.W.codeIn K (.ref c) x = true
theorem FunC.ok {P : Program} {w : World} {K : PySem.W.Frag} {mg : Str → Option Value} {base : Heap} {x : Str} {st : Stmt} {f c : Addr} {fd : FuncData} {N ps : List Str} {k : Nat} {sp : Sp} (F : FunC K x st f fd c) (S : FnScope N ps (defScope st)) (len : ∀ vs H Q E, sp vs H Q E → vs.length = ps.length)
    (body : ∀ (A : Around) (outer : List Env) (s : Shared) (H : Hp) (vs : List V) (Q : VK) (E : XK), Room k (A.deeper (envOfC x (defScope st) s.heap.objs.size f (.ref c))) → sp vs H Q E →
      ∃ t, PSs (cxOf CX0 P w K mg base N x (defScope st) f (.ref c) A outer s H E).nox (defBody st) t ∧ t { nx := fun _ H' => Q .non H', rt := Q } (start N vs) H) : FnOk P w K mg base CX0 (k + 1) f fd ps sp := by
  obtain ⟨oc, od, kV, doc, pm, an, ct, osl, e, lk, hcd⟩ := F.ex
  subst e
  refine fn_of lk hcd S len fun A outer s H vs Q E hr hsp => ?_
  obtain ⟨t, h, q⟩ := body A outer s H vs Q E hr hsp
  exact ⟨t, h.nox, q⟩
/-- one sign among those of a written text, as the test of a generator expression -/
theorem elt_in {prog : Program} {w : World} {scope : Scope} {x k : Str} {j : Nat} {p1 p2 p3 : Pos} (hk : scope.kind = .function) (hl : scope.names.lookup x = some .local) (hd : (x == ("__debug__" : Str)) = false := by decide) :
    GxR.EltP prog w scope x (.Compare (.Name x p1) [.In] [.Constant (.str k) j p2] p3) (fun c => decide (c ∈ k.cps.toList)) := by
  intro cenv A' E' c t s2 m2 hs hn hm
  refine wpAny_Compare1 ?_
  refine wpAny_Name (wpAny_loadName_local (by rw [hs]; exact hk) (show cenv.scope.names.lookup x = some .local by rw [hs]; exact hl) hn hm ?_) hd
  refine Calls.Constant_str ?_
  exact PyProof.Rows.in_str ⟨congrArg Value.bool (PySem.StrLaws.found_one k c), GxR.keeps_tok _ _⟩
/-! ### // by any divisor but 0 -/
section
variable {X : Cx}
def CDivA (_ j : Int) : Prop := j ≠ 0 ∧ j.natAbs.log2 < 9000
theorem op_fdivA : OpR X (binaryOp .FloorDiv) (rI CDivA fun i j => .int (i.fdiv j)) := opI fun i j _ _ _ _ _ hc q =>
  floordiv_int hc.1 q (.inl (PyProof.noPylong_of_log2 hc.2))
theorem divA {i j : Int} {b : Nat} (h : j ≠ 0) (hb : j.natAbs < 2 ^ b) (h0 : 0 < b) (h9 : b ≤ 9000) : CDivA i j := ⟨h, Nat.lt_of_lt_of_le (PySem.Flt.log2_lt_of h0 hb) h9⟩
end
/-! ### one step of a reading -/
section
variable {σ σ' : L2.St} {H : Hp} {Q : VK} {D : Ends} {ta tb te : TE} {t u c : TT} {tq : TA} {s1 s2 : TS} {K : PySem.W.Frag} {v x y : V} {i : Nat} {G : TG}
theorem w_seq (q : s1 { nx := s2 D, rt := D.rt, bk := D.bk, ct := D.ct } σ H) : tSeq s1 s2 D σ H := q
theorem w_next (q : D.nx σ H) : tNext D σ H := q
theorem w_asg (q : te σ H fun v H1 => D.nx (σ.set i (some v)) H1) : tAsg te (gName i) D σ H := q
theorem w_asgG (q : te σ H fun v H1 => G v σ H1 D.nx) : tAsg te G D σ H := q
theorem w_drop (q : te σ H fun _ H1 => D.nx σ H1) : tDrop te D σ H := q
theorem w_ret (q : te σ H D.rt) : tRet te D σ H := q
theorem w_ifs (q : c σ H fun b H1 => if b = true then s1 D σ H1 else s2 D σ H1) : tIfS c s1 s2 D σ H := q
theorem w_var (h : σ[i]? = some (some v)) (q : Q v H) : tVar i σ H Q := ⟨v, h, q⟩
theorem w_c (q : Q v H) : tC v σ H Q := q
theorem w_op {r : R2} (q : ta σ H fun x H1 => tb σ H1 fun y H2 => r x y H2 Q) : tOp r ta tb σ H Q := q
theorem w_un {r : V → Hp → VK → Prop} (q : ta σ H fun x H1 => r x H1 Q) : tUn r ta σ H Q := q
theorem w_I0 {g : Int → Int → V} {i j : Int} (q : Q (g i j) H) : rI0 g (.int i) (.int j) H Q := ⟨i, j, rfl, rfl, q⟩
theorem w_I {C : Int → Int → Prop} {g : Int → Int → V} {i j : Int} (h : C i j) (q : Q (g i j) H) : rI C g (.int i) (.int j) H Q := ⟨i, j, rfl, rfl, h, q⟩
theorem w_U {g : Int → V} {i : Int} (q : Q (g i) H) : rU g (.int i) H Q := ⟨i, rfl, q⟩
theorem w_nil {R : List V → Hp → Prop} (q : R [] H) : tNil σ H R := q
theorem w_cons {R : List V → Hp → Prop} (q : te σ H fun x H1 => tq σ H1 fun xs H2 => R (x :: xs) H2) : tCons te tq σ H R := q
theorem w_call {sp : Sp} {dvs : List V} {E : XK} (q : tq σ H fun vs H1 => sp (vs ++ dvs) H1 Q E) : tCall sp dvs E tq σ H Q := q
theorem w_cb {r : List V → Hp → VK → Prop} (q : tq σ H fun vs H1 => r vs H1 Q) : tCB r tq σ H Q := q
theorem w_test {R : Bool → Hp → Prop} (q : te σ H fun x H' => ∃ k, x = .bl k ∧ R k H') : tTest te σ H R := q
theorem w_B {R : Bool → Hp → Prop} (q : te σ H fun x H' => ∃ k, x = .bl k ∧ R k H') : tB te σ H R := q
theorem w_bl {R : Bool → Prop} {b : Bool} (q : R b) : ∃ k, V.bl b = .bl k ∧ R k := ⟨b, rfl, q⟩
theorem w_and {R : Bool → Hp → Prop} (q : t σ H fun b H1 => if b = true then u σ H1 R else R false H1) : tAnd t u σ H R := q
theorem w_or {R : Bool → Hp → Prop} (q : t σ H fun b H1 => if b = true then R true H1 else u σ H1 R) : tOr t u σ H R := q
theorem w_not {R : Bool → Hp → Prop} (q : t σ H fun b H1 => R (!b) H1) : tNot t σ H R := q
theorem w_ife (q : t σ H fun b H1 => if b = true then ta σ H1 Q else tb σ H1 Q) : tIf t ta tb σ H Q := q
theorem w_ixT {p : Addr} {xs : List V} {i : Int} (h : H p = some (.tup xs)) (ha : atI xs i = some v) (q : Q v H) : rIxT K (.ref p) (.int i) H Q := ⟨p, xs, i, v, rfl, rfl, SqT.of h, ha, q⟩
theorem w_ixL {p : Addr} {xs : List V} {i : Int} (h : H p = some (.lst xs)) (ha : atI xs i = some v) (q : Q v H) : rIxL K (.ref p) (.int i) H Q := ⟨p, xs, i, v, rfl, rfl, SqL.of h, ha, q⟩
theorem w_eq (h : scal x y = true) (q : Q (.bl (decide (x = y))) H) : rEq x y H Q := ⟨h, q⟩
theorem w_ne (h : scal x y = true) (q : Q (.bl (!decide (x = y))) H) : rNe x y H Q := ⟨h, q⟩
theorem w_tup (q : tq σ H fun xs H1 => xs.length ≤ sizeLine ∧ ∀ p, H1 p = none → Q (.ref p) (upd H1 p (.tup xs))) : tTup tq σ H Q := q
theorem w_lst (q : tq σ H fun xs H1 => xs.length ≤ sizeLine ∧ ∀ p, H1 p = none → Q (.ref p) (upd H1 p (.lst xs))) : tLst tq σ H Q := q
theorem w_bm {T : String} {r : V → List V → Hp → VK → Prop} (q : te σ H fun x H1 => tyV K T x H1 ∧ tq σ H1 fun xs H2 => r x xs H2 Q) : tBM K T r te tq σ H Q := q
theorem w_m1 {r : V → List V → Hp → VK → Prop} (q : ta σ H fun x H1 => (∃ a, x = .str a) ∧ tb σ H1 fun y H2 => r x [y] H2 Q) : tM1 r ta tb σ H Q := q
theorem w_tyL {A : Prop} {l : Addr} {xs : List V} (h : H l = some (.lst xs)) (q : A) : tyV K "list" (.ref l) H ∧ A := ⟨.inl ⟨rfl, _, SqL.of h⟩, q⟩
theorem w_tyS {A : Prop} {z : Str} (q : A) : tyV K "str" (.str z) H ∧ A := ⟨rfl, q⟩
theorem w_isS {A : Prop} {z : Str} (q : A) : (∃ a, V.str z = .str a) ∧ A := ⟨⟨_, rfl⟩, q⟩
theorem w_app {l : Addr} {xs : List V} (h : H l = some (.lst xs)) (hl : xs.length < sizeLine) (q : Q .non (upd H l (.lst (xs ++ [y])))) : rAppend (.ref l) [y] H Q := ⟨l, xs, y, rfl, rfl, h, hl, q⟩
theorem w_gn {R : L2.St → Hp → Prop} (q : R (σ.set i (some v)) H) : gName i v σ H R := q
theorem w_gsub {ts : TSet} {R : L2.St → Hp → Prop} (q : ta σ H fun o H1 => tb σ H1 fun i H2 => ts o i v H2 fun H3 => R σ H3) : gSub ta tb ts v σ H R := q
theorem w_setL {p : Addr} {xs : List V} {k : Int} {j : Nat} {R : Hp → Prop} (h : H p = some (.lst xs)) (hj : ixN xs.length k = some j) (q : R (upd H p (.lst (xs.set j v)))) : rSetL (.ref p) (.int k) v H R := ⟨p, xs, k, j, rfl, rfl, h, hj, q⟩
theorem w_yes {R : Bool → Hp → Prop} (q : R true H) : tYes σ H R := q
theorem w_sl {r : V → Option Int → Option Int → Hp → VK → Prop} {tl th : TO} (q : te σ H fun x H1 => tl σ H1 fun l H2 => th σ H2 fun u H3 => r x l u H3 Q) : tSl r te tl th σ H Q := q
theorem w_part {R : Option Int → Hp → Prop} (q : te σ H fun x H1 => ∃ i, x = .int i ∧ R (some i) H1) : tPart te σ H R := q
theorem w_nop {R : Option Int → Hp → Prop} (q : R none H) : tNoPart σ H R := q
theorem w_isI {R : Int → Prop} {n : Int} (q : R n) : ∃ i, V.int n = .int i ∧ R i := ⟨n, rfl, q⟩
theorem if_t {A B : Prop} {b : Bool} (h : b = true) (q : A) : if b = true then A else B := by rw [if_pos h]; exact q
theorem if_f {A B : Prop} {b : Bool} (h : b = false) (q : B) : if b = true then A else B := by rw [h]; exact iteF q
end
local macro_rules | `(tactic| walk_at "rd") => `(tactic| repeat (first
  | with_reducible refine w_seq ?_
  | with_reducible refine w_asg ?_
  | with_reducible refine w_ret ?_
  | with_reducible refine w_drop ?_
  | with_reducible refine w_ifs ?_
  | ((with_reducible refine' w_var ?hh ?_); (case hh => exact rfl))
  | with_reducible refine w_c ?_
  | with_reducible refine w_op ?_
  | with_reducible refine w_un ?_
  | with_reducible refine w_I0 ?_
  | with_reducible refine w_U ?_
  | with_reducible refine w_nil ?_
  | with_reducible refine w_cons ?_
  | with_reducible refine w_call ?_
  | with_reducible refine w_cb ?_
  | with_reducible refine w_test ?_
  | with_reducible refine w_B ?_
  | with_reducible refine w_bl ?_
  | with_reducible refine w_and ?_
  | with_reducible refine w_or ?_
  | with_reducible refine w_not ?_
  | with_reducible refine w_ife ?_
  | with_reducible refine w_tup ?_
  | with_reducible refine w_lst ?_
  | with_reducible refine w_next ?_
  | with_reducible refine w_bm ?_
  | with_reducible refine w_sl ?_
  | with_reducible refine w_part ?_
  | with_reducible refine w_nop ?_
  | with_reducible refine w_isI ?_
  | with_reducible refine w_yes ?_
  | with_reducible refine w_gn ?_
  | with_reducible refine w_gsub ?_
  | ((with_reducible refine' w_setL ?h1 ?h2 ?_); (case h1 => first | assumption | exact upd_same); (case h2 => exact rfl))
  | with_reducible refine w_asgG ?_
  | with_reducible refine w_m1 ?_
  | with_reducible refine w_isS ?_
  | with_reducible refine w_tyS ?_
  | ((with_reducible refine' w_tyL ?h1 ?_); (case h1 => first | assumption | exact upd_same))
  | ((with_reducible refine' w_ixT ?h1 ?h2 ?_); (case h1 => first | assumption | exact upd_same); (case h2 => exact rfl))
  | ((with_reducible refine' w_ixL ?h1 ?h2 ?_); (case h1 => first | assumption | exact upd_same); (case h2 => exact rfl))
  | ((with_reducible refine w_eq ?h1 ?_); (case h1 => exact rfl))
  | ((with_reducible refine w_ne ?h1 ?_); (case h1 => exact rfl))
  | dsimp only [List.set_cons_zero, List.set_cons_succ, List.append_nil, List.cons_append, List.nil_append, cxOf]))
/-! ### the law's own draws -/
/-- only the list at d has changed, and it is still cells, a place, a rest, a mixed row -/
def TakeSt (H : Hp) (c d : Addr) (H' : Hp) : Prop := (∀ b, b ≠ d → H' b = H b) ∧ ∃ a u z : Int, H' d = some (.lst [.ref c, .int a, .int u, .int z]) ∧ -1 ≤ a
theorem TakeSt.upd {H H' : Hp} {c d : Addr} {a u z : Int} (h : TakeSt H c d H') (ha : -1 ≤ a) : TakeSt H c d (L2.upd H' d (.lst [.ref c, .int a, .int u, .int z])) :=
  ⟨fun b hb => by rw [upd_ne hb]; exact h.1 b hb, a, u, z, upd_same, ha⟩
theorem TakeSt.kept {K : PySem.W.Frag} {H H' : Hp} {c d : Addr} {ns : List Int} {xs : List V} (h : TakeSt H c d H') (hd : H d = some (.lst xs)) (hc : H c = some (.lst (ns.map V.int))) (ne : c ≠ d) : KeptD K d H H' := by
  obtain ⟨h1, a, u, z, h2, h3⟩ := h
  refine ⟨fun b o hb _ q => by rw [h1 b hb]; exact q, fun _ => ⟨c, ns, a, u, z, h2, by rw [h1 c ne]; exact hc, h3⟩, fun P hP => ?_, fun b q => ?_⟩
  · obtain ⟨ps, p1, p2⟩ := hP
    have : P ≠ d := fun e => by
      rw [e, hd] at p1
      cases p1
    exact ⟨ps, by rw [h1 P this]; exact p1, p2⟩
  · by_cases e : b = d
    · rw [e, h2] at q
      cases q
    · rw [h1 b e] at q
      exact q
def spTake (K : PySem.W.Frag) : Sp := fun vs H Q _ => ∃ (d : Addr) (m : Int), vs = [.ref d, .int m] ∧ 0 < m ∧ m < 2 ^ 62 ∧ Drw K H d ∧ ∀ (r : Int) H', 0 ≤ r → r < m → KeptD K d H H' → Q (.int r) H'
def spDraw (K : PySem.W.Frag) : Sp := fun vs H Q _ => ∃ (a : Addr) (ns : List Int), vs = [.ref a] ∧ SqL K H a (ns.map V.int) ∧ ns.length ≤ 63 ∧ ∀ d H', H d = none → Kept H H' → Drw K H' d → Q (.ref d) H'
theorem pick_int {ns : List Int} {r : Int} (h0 : 0 ≤ r) (h1 : r < (ns.length : Int)) : ∃ v ∈ ns, atI (ns.map V.int) r = some (V.int v) := by
  obtain ⟨j, rfl⟩ : ∃ j : Nat, r = (j : Int) := ⟨r.toNat, by omega⟩
  have hj : j < ns.length := by omega
  refine ⟨ns[j], List.getElem_mem hj, atI_nat ?_⟩
  rw [List.getElem?_map, List.getElem?_eq_getElem hj]
  rfl
theorem map_int {ns : List Int} {i : Nat} {y : V} (h : (ns.map V.int)[i]? = some y) : ∃ u, y = V.int u ∧ ns[i]? = some u := by
  rw [List.getElem?_map] at h
  cases e : ns[i]? with
  | none =>
    rw [e] at h
    cases h
  | some u =>
    rw [e] at h
    exact ⟨u, (Option.some.inj h).symm, rfl⟩
/-! ### fractions -/
def frc (n d : Int) : Int × Int := (n.fdiv (if d < 0 then -((Nat.gcd n.natAbs d.natAbs : Nat) : Int) else ((Nat.gcd n.natAbs d.natAbs : Nat) : Int)),
  d.fdiv (if d < 0 then -((Nat.gcd n.natAbs d.natAbs : Nat) : Int) else ((Nat.gcd n.natAbs d.natAbs : Nat) : Int)))
def FrAt (H : Hp) (p : Addr) (a : Int × Int) : Prop := H p = some (.tup [.int a.1, .int a.2])
def Small (n : Nat) (a : Int × Int) : Prop := a.1.natAbs < 2 ^ n ∧ a.2.natAbs < 2 ^ n
def spFrac : Sp := fun vs H Q _ => ∃ n d : Int, vs = [.int n, .int d] ∧ d ≠ 0 ∧ n.natAbs < 2 ^ 1000 ∧ d.natAbs < 2 ^ 1000 ∧
  ∀ p H', H p = none → Kept H H' → FrAt H' p (frc n d) → Q (.ref p) H'
end Ky

namespace Ky
open PySem PySem.Spec PyProof.Rows L2
/-! ### a generator expression's frame -/
abbrev gxEnv (X : Cx) (s : Shared) (scope : Scope) (code : Value) : Env := genEnv scope (cloFrom X.env.cells scope.names []) s.heap.objs.size code builtinsNs X.env
abbrev gx (X : Cx) (A' : Around) (s : Shared) (H : Hp) (scope : Scope) (code : Value) (fp : List Addr) : Cx :=
  { X with A := A', s_0 := s, H_0 := H, env := gxEnv X s scope code, outer := X.stack, stack := gxEnv X s scope code :: X.stack, ex := fp, fn := fun _ => false, pn := [], xe := fun _ _ => False }
theorem over_gen {A : Around} {elt : Expr} {cs : List Comprehension} {sc : Scope} {pos : Pos} {it acc : Value} {env : Env} : A.over (.compLoop (.GeneratorExp elt cs sc pos) 0 it acc env) [] = A.deeper env := by
  first
    | rfl
    | (obtain ⟨hd, d, fr, gs, u⟩ := A; simp [Around.over, Around.deeper, marksOver, frameCount, unitsOf, envsOf, guardsOf, pushEnvs, pushGuards, Code.envs, Code.env?, Code.isFrame, Code.guards, Code.isGuard, Code.weight, Code.frames, Code.isCreation, Code.isCaller, Code.cUnits])
theorem over_gen0 {A : Around} {elt : Expr} {cs : List Comprehension} {sc : Scope} {pos : Pos} {it acc : Value} {env : Env} : A.over (.compStart (.GeneratorExp elt cs sc pos) 0 it acc env) [] = A.deeper env := by
  first
    | rfl
    | (obtain ⟨hd, d, fr, gs, u⟩ := A; simp [Around.over, Around.deeper, marksOver, frameCount, unitsOf, envsOf, guardsOf, pushEnvs, pushGuards, Code.envs, Code.env?, Code.isFrame, Code.guards, Code.isGuard, Code.weight, Code.frames, Code.isCreation, Code.isCaller, Code.cUnits])
section
variable {X : Cx} {pins : List (Addr × Obj)} {σ : L2.St} {H : Hp} {s : Shared}
theorem gx_start {A' : Around} {scope : Scope} {code : Value} {own : List (Str × Nat)} {fp : List Addr} {h' : Heap} {m : Str → Option Value} {g' : Array GenState} {t' : Nat} (I : Inv X pins σ H s) (ok : BlkOk X.N X.env.scope scope own) (hcell : ∀ y ∈ scope.names, y.2 ≠ .cell) (hN : X.N.Nodup)
    (hfp : ∀ b ∈ fp, FpOk X pins H b ∧ b < s.heap.objs.size) (hh : A'.handled = none) (hfr : A'.frames = some (gxEnv X s scope code :: X.stack)) (hn : h'.Ns s.heap.objs.size m) (kp : ∀ b o, s.heap.get? b = some o → h'.get? b = some o) (hg : AllBare g') :
    Inv (gx X A' s H scope code fp) [] (wipe σ (own.map (·.2))) H { s with heap := h', gens := g', toks := t' } := by
  have hfree : ∀ y ∈ scope.names, y.2 = .free → ∃ c, X.env.cells.lookup y.1 = some c := fun y hy e => by
    rcases ok.free y hy e with k | k
    · exact I.ok.has _ (.inl k)
    · exact I.ok.has _ (.inr k)
  have cm : ∀ {y c}, (cloFrom X.env.cells scope.names []).lookup y = some c → X.env.cells.lookup y = some c ∧ c < s.heap.objs.size := fun {y c} e => by
    rcases cloFrom_mem (PySem.mem_of_lookup e) with hm | ⟨h1, rfl⟩
    · cases hm
    · obtain ⟨c, hc⟩ := hfree _ h1 rfl
      rw [hc]
      obtain ⟨w, z⟩ := I.cell _ _ hc
      exact ⟨rfl, z.lt⟩
  have look : ∀ {y}, scope.names.lookup y = some .free → ∃ c, (cloFrom X.env.cells scope.names []).lookup y = some c ∧ X.env.cells.lookup y = some c := fun {y} hl => by
    have hy : (y, NameKind.free) ∈ scope.names := PySem.mem_of_lookup hl
    obtain ⟨c', e'⟩ := mem_lookup (cloFrom_has (cells := X.env.cells) (acc := []) hy)
    exact ⟨c', e', (cm e').1⟩
  have okB : (gx X A' s H scope code fp).Ok := by
    refine ⟨I.ok.mod, ok.kind, I.ok.glob, rfl, Nat.le_refl _, fun y z c e1 e2 => I.ok.inj y z c (cm e1).1 (cm e2).1, fun y hy => ?_, fun y c z e => absurd z Bool.false_ne_true, fun _ => hh, hfr, .inr ⟨rfl, rfl⟩, fun b hb => ⟨Nat.ne_of_lt (hfp b hb).2, fun y c e => (hfp b hb).1.2.2.2.2.1 y c (cm e).1⟩,
      I.bs, Nat.le_trans I.ok.bsz I.sz, fun b o e hb => ?_, fun b hb z => ?_, I.stack, I.stkFree⟩
    · rcases hy with hy | hy
      · exact absurd rfl (hcell _ (PySem.mem_of_lookup (show scope.names.lookup y = some .cell from hy)))
      · obtain ⟨c, h1, _⟩ := look (show scope.names.lookup y = some .free from hy)
        exact ⟨c, h1⟩
    · rcases (hfp b hb).1.2.2.2.1 with z | z
      · exact I.ok.noex b o e z
      · exact absurd (Nat.lt_of_lt_of_le (Heap.lt_size e) (Nat.le_trans I.ok.bsz z)) (Nat.lt_irrefl _)
    · rcases List.mem_cons.mp (I.stkSub b z) with z | z
      · exact (hfp b hb).1.2.1 z
      · exact (hfp b hb).1.2.2.1 z
  refine ⟨okB, rfl, hg, Un.kept kp, ⟨m, hn, fun i y av e1 e2 e3 => ?_⟩, fun y c e => ?_, I.hok.fresh (Nat.le_refl _), fun y c e => I.freeC y c (cm e).1, fun p hp => absurd (show p ∈ ([] : List (Addr × Obj)) ++ [] from hp) (by simp), I.hok.kept kp, by rw [wipe_length]; exact I.len⟩
  · obtain ⟨e2, hne⟩ := wipe_some e2
    have hfr : scope.names.lookup y = some .free := by
      have no : ∀ k', scope.names.lookup y = some k' → ¬ (k' = .local ∨ k' = .cell) := fun k' e hh => by
        rcases ok.own _ (PySem.mem_of_lookup e) hh with e' | e'
        · obtain ⟨p, hp, hpy⟩ := List.mem_map.mp e'
          have e3 := ok.ix p hp
          have : p.1 = y := hpy
          rw [this] at e3
          exact hne (List.mem_map.mpr ⟨p, hp, nodup_ix hN e3 e1⟩)
        · exact e' (List.mem_of_getElem? e1)
      have e3 : Vis scope y := e3
      rcases e3 with e3 | e3 | e3
      · exact absurd (.inl rfl) (no _ e3)
      · exact absurd (.inr rfl) (no _ e3)
      · exact e3
    obtain ⟨m, hn, hl⟩ := I.loc
    have hvis : Vis X.env.scope y := (ok.free _ (PySem.mem_of_lookup hfr) rfl).elim (fun k => .inr (.inl k)) (fun k => .inr (.inr k))
    obtain ⟨w, r, q⟩ := hl i y av e1 e2 hvis
    refine ⟨w, r, .inr ⟨.inr hfr, ?_⟩⟩
    obtain ⟨c, h1, h2⟩ := look hfr
    rcases q with ⟨k, _⟩ | ⟨_, c', e', z⟩
    · have k : X.env.scope.names.lookup y = some .local := k
      rcases ok.free _ (PySem.mem_of_lookup hfr) rfl with k' | k' <;> rw [show X.env.scope.names.lookup y = _ from k'] at k <;> cases k
    · rw [h2] at e'; cases e'
      exact ⟨c, h1, z.keeps kp⟩
  · obtain ⟨w, z⟩ := I.cell y c (cm e).1
    exact ⟨w, z.keeps kp⟩
end
end Ky
namespace Ky
open PySem PySem.Spec PyProof.Rows L2
theorem not_of_ne {b c : Bool} (h : ¬ b = c) : b = !c := by
  cases b <;> cases c <;> first | rfl | exact absurd rfl h
/-- what a generator expression of tests still does: cont: the answer that goes on (all: true, any: false) -/
def Live (X : Cx) (pins : List (Addr × Obj)) (σ : L2.St) (Q : VK) (cont : Bool) (a : Addr) : Nat → Shared → Prop
  | 0, s => ∀ (QQ : Option Value → Shared → Prop) (E : Value → Shared → Prop), (∀ s' H, Inv X pins σ H s' → Q (.bl (!cont)) H → QQ (some (.bool (!cont))) s') → (∀ s' H, Inv X pins σ H s' → Q (.bl cont) H → QQ none s') → wpAny (model X.prog X.w) X.A.in1 (pyNext (.ref a)) QQ E s
  | n + 1, s => ∀ (QQ : Option Value → Shared → Prop) (E : Value → Shared → Prop), (∀ s', Live X pins σ Q cont a n s' → QQ (some (.bool cont)) s') → (∀ s' H, Inv X pins σ H s' → Q (.bl (!cont)) H → QQ (some (.bool (!cont))) s') → (∀ s' H, Inv X pins σ H s' → Q (.bl cont) H → QQ none s') →
      wpAny (model X.prog X.w) X.A.in1 (pyNext (.ref a)) QQ E s
section
variable {X : Cx} {pins : List (Addr × Obj)} {σ : L2.St} {Q : VK} {a : Addr}
theorem live_all {R : Result → Shared → Prop} : ∀ (n : Nat) (s : Shared), Live X pins σ Q true a n s → (∀ s' H b, Inv X pins σ H s' → Q (.bl b) H → R (.ok (.ret (.bool b))) s') → codeAny (model X.prog X.w) X.A (.builtin "all.loop" ⟨[.ref a], []⟩) R s := by
  intro n
  induction n with
  | zero =>
    intro s h hR
    refine codeAny_builtin F.entry_all_loop ?_
    rw [Around.under_plainId F.plain_all_loop _]
    show wpAny _ X.A.in1 (pyNext (.ref a) >>= _) _ _ s
    refine wpAny_bind (h _ _ (fun s' H I q => ?_) fun s' H I q => ?_)
    · refine wpAny_bind (wpAny_holding (wpAny_truthy_bool ?_))
      refine wpAny_bind (wpAny_letGo ?_)
      simp only [Bool.not_true, Bool.false_eq_true, if_false]
      exact wpAny_bind (wpAny_rule (wpAny_pure (hR s' H _ I q)))
    · exact wpAny_bind (wpAny_rule (wpAny_pure (hR s' H _ I q)))
  | succ n ih =>
    intro s h hR
    refine codeAny_builtin F.entry_all_loop ?_
    rw [Around.under_plainId F.plain_all_loop _]
    show wpAny _ X.A.in1 (pyNext (.ref a) >>= _) _ _ s
    refine wpAny_bind (h _ _ (fun s' hl => ?_) (fun s' H I q => ?_) fun s' H I q => ?_)
    · refine wpAny_bind (wpAny_holding (wpAny_truthy_bool ?_))
      refine wpAny_bind (wpAny_letGo ?_)
      simp only [if_true]
      exact wpAny_pure ⟨plainId_quiet F.plain_all_loop _, ih s' hl hR⟩
    · refine wpAny_bind (wpAny_holding (wpAny_truthy_bool ?_))
      refine wpAny_bind (wpAny_letGo ?_)
      simp only [Bool.not_true, Bool.false_eq_true, if_false]
      exact wpAny_bind (wpAny_rule (wpAny_pure (hR s' H _ I q)))
    · exact wpAny_bind (wpAny_rule (wpAny_pure (hR s' H _ I q)))
theorem live_any {R : Result → Shared → Prop} : ∀ (n : Nat) (s : Shared), Live X pins σ Q false a n s → (∀ s' H b, Inv X pins σ H s' → Q (.bl b) H → R (.ok (.ret (.bool b))) s') → codeAny (model X.prog X.w) X.A (.builtin "any.loop" ⟨[.ref a], []⟩) R s := by
  intro n
  induction n with
  | zero =>
    intro s h hR
    refine codeAny_builtin F.entry_any_loop ?_
    rw [Around.under_plainId F.plain_any_loop _]
    show wpAny _ X.A.in1 (pyNext (.ref a) >>= _) _ _ s
    refine wpAny_bind (h _ _ (fun s' H I q => ?_) fun s' H I q => ?_)
    · refine wpAny_bind (wpAny_holding (wpAny_truthy_bool ?_))
      refine wpAny_bind (wpAny_letGo ?_)
      simp only [Bool.not_false, if_true]
      exact wpAny_bind (wpAny_rule (wpAny_pure (hR s' H _ I q)))
    · exact wpAny_bind (wpAny_rule (wpAny_pure (hR s' H _ I q)))
  | succ n ih =>
    intro s h hR
    refine codeAny_builtin F.entry_any_loop ?_
    rw [Around.under_plainId F.plain_any_loop _]
    show wpAny _ X.A.in1 (pyNext (.ref a) >>= _) _ _ s
    refine wpAny_bind (h _ _ (fun s' hl => ?_) (fun s' H I q => ?_) fun s' H I q => ?_)
    · refine wpAny_bind (wpAny_holding (wpAny_truthy_bool ?_))
      refine wpAny_bind (wpAny_letGo ?_)
      simp only [Bool.false_eq_true, if_false]
      exact wpAny_pure ⟨plainId_quiet F.plain_any_loop _, ih s' hl hR⟩
    · refine wpAny_bind (wpAny_holding (wpAny_truthy_bool ?_))
      refine wpAny_bind (wpAny_letGo ?_)
      simp only [Bool.not_false, if_true]
      exact wpAny_bind (wpAny_rule (wpAny_pure (hR s' H _ I q)))
    · exact wpAny_bind (wpAny_rule (wpAny_pure (hR s' H _ I q)))
end
/-! ### one turn after another -/
/-- the state between turns -/
abbrev GAt (G : Cx) (pa : List (Addr × Obj)) (σw : L2.St) (fp : List Addr) (tn : Nat → Heap → Prop) (i : Nat) (H : Hp) (s : Shared) : Prop := Inv G pa σw H s ∧ tn i s.heap ∧ ∀ b ∈ fp, H b = none
/-- it has come to its end -/
def GEnd (G : Cx) (pa : List (Addr × Obj)) (σw : L2.St) (Q : VK) (cont : Bool) : Nat → Shared → Shared → Prop := fun _ _ s1 => ∃ H, Inv G pa σw H s1 ∧ Q (.bl cont) H
/-- a test's answer is handed out -/
def GYld (G : Cx) (pa : List (Addr × Obj)) (σw : L2.St) (fp : List Addr) (tn : Nat → Heap → Prop) (W : Nat → Nat → Hp → Prop) (Q : VK) (cont : Bool) : Protocol := fun n _ v s1 kap =>
  ∃ (b : Bool) (H : Hp), v = .bool b ∧ Inv G pa σw H s1 ∧ ((b = cont ∧ 0 < n ∧ ∀ g', AllBare g' → kap (.send .none) { s1 with gens := g' }) ∨ (b = (!cont) ∧ Q (.bl (!cont)) H))
/-- the turns: what an answer leads to -/
def GTurn (J : It) (g : TG) (te : TE) (σw : L2.St) (vs : List Nat) (Q : VK) (cont : Bool) (W : Nat → Nat → Hp → Prop) : Prop := ∀ i m H, W i m H →
  (J.stop i H ∧ Q (.bl cont) H) ∨ (J.go i H ∧ ∀ x H', J.yld i H x H' → g x σw H' fun σ2 H2 => wipe σ2 vs = σw ∧ te σ2 H2 fun y H3 => ∃ b, y = .bl b ∧ if b = cont then ∃ m', m' < m ∧ W (i + 1) m' H3 else Q (.bl (!cont)) H3)
section
variable {G : Cx} {pa : List (Addr × Obj)} {σ : L2.St} {vs : List Nat} {fp : List Addr} {it : Addr} {tn : Nat → Heap → Prop} {J : It} {tg elt iter : Expr} {g : TG} {te : TE} {scope : Scope} {gpos : Pos} {Q : VK} {cont : Bool} {W : Nat → Nat → Hp → Prop} {A : Around}
theorem seg_turns (hA : G.A = A.deeper G.env) (hc : G.calm = true) (hco : G.env.scope.isCoroutine = false) (hxe : G.xe = fun _ _ => False) (T : Turn G.prog G.w G.K tg J fp it tn) (pg : PG G tg g) (pe : PE G elt te) (hpn : G.pn = []) (hex : G.ex = fp)
    (hpa : ∀ p ∈ pa, ∀ b ∈ fp, p.1 ≠ b) (turn : GTurn J g te (wipe σ vs) vs Q cont W) :
    ∀ (n i m : Nat) (s₀ s : Shared) (H : Hp), m < n → GAt G pa (wipe σ vs) fp tn i H s → W i m H →
      Seg (model G.prog G.w) A (fun n s₀ r s₁ => r = .ok .next ∧ GEnd G pa (wipe σ vs) Q cont n s₀ s₁) (GYld G pa (wipe σ vs) fp tn W Q cont) n s₀
        (.compLoop (.GeneratorExp elt [⟨tg, iter, [], 0⟩] scope gpos) 0 (.ref it) .none G.env)
        ((model G.prog G.w).den (.compLoop (.GeneratorExp elt [⟨tg, iter, [], 0⟩] scope gpos) 0 (.ref it) .none G.env)) [] s := by
  have hov : A.over (.compLoop (.GeneratorExp elt [⟨tg, iter, [], 0⟩] scope gpos) 0 (.ref it) .none G.env) [] = G.A := by rw [over_gen, hA]
  have stat : ∀ {σ' : L2.St} {H' : Hp} {s' : Shared}, Inv G pa σ' H' s' → (∀ b ∈ fp, H' b = none) → ∀ b ∈ fp, FpOk G pa H' b := fun {σ' H' s'} I' hn b hb =>
    ⟨hn b hb, (I'.ok.exf b (by rw [hex]; exact hb)).1, I'.ok.exfs b (by rw [hex]; exact hb), .inl (by rw [hex]; exact hb), fun x c e => (I'.ok.exf b (by rw [hex]; exact hb)).2 x c e, fun p hp => by
      rw [hpn] at hp
      exact hpa p (by simpa using hp) b hb⟩
  intro n
  induction n with
  | zero => intro i m s₀ s H hm; exact absurd hm (Nat.not_lt_zero _)
  | succ n ih =>
    intro i m s₀ s H hm ⟨I, st, fr⟩ w
    show Seg _ A _ _ _ s₀ _ ((compTurn (.GeneratorExp elt [⟨tg, iter, [], 0⟩] scope gpos) 0 (.ref it) .none G.env).onRaise (leaving G.env)) [] s
    rw [compTurn_gen, Sem.onRaise_eq_wrap]
    refine seg_bind_wrap (wpAny_standAt ?_)
    refine seg_bind_wrap ?_
    rw [hov]
    rcases turn i m H w with ⟨stop, q⟩ | ⟨go, step⟩
    · refine thnF (T.done G rfl rfl rfl hc i pa s _ H (fun _ _ => False) I (stat I fr) st stop) fun r s1 ⟨hr, I1⟩ => ?_
      subst hr
      exact seg_end (.ok .next) ⟨rfl, H, I1, q⟩
    · refine thnF (T.item G rfl rfl rfl hc i pa s _ H (fun _ _ => False) I (stat I fr) st go) fun r s1 ⟨u, hr, h1⟩ => ?_
      subst hr
      refine seg_bind_wrap ?_
      rw [hov]
      refine thnF h1 fun _ s2 ⟨x, H2, I2, r2, y2, st2, n2⟩ => ?_
      have I2' := I2.pinned (stat I2 n2) (T.obj _ _ st2)
      refine seg_bind_wrap ?_
      rw [hov]
      have hpr := pg.run _ s2 _ H2 x u _ I2' r2 (step x H2 y2)
      rw [hxe] at hpr
      refine thnF hpr fun _ s3 ⟨σ3, H3, I3, hw3, q3⟩ => ?_
      refine seg_bind_wrap ?_
      simp only [List.forIn_nil]
      refine wpAny_pure ?_
      simp only [if_true]
      have hy : ∀ v, yieldOut G.env v = yieldValue v := fun v => by simp only [yieldOut, hco, Bool.false_eq_true, if_false]
      simp only [hy]
      rw [Sem.bind_eq_wrap', Sem.bind_eq_wrap', Sem.wrap_wrap, Sem.wrap_wrap]
      refine seg_wrap ?_
      rw [hov]
      have her := pe.run _ s3 σ3 H3 _ I3 q3
      rw [hxe] at her
      refine thnF her fun v s4 ⟨y, H4, I4, r4, b, hb, q4⟩ => ?_
      subst hb
      obtain rfl : v = Value.bool b := r4
      have pin' : ∀ c ∈ fp, ∀ o, s2.heap.get? c = some o → s4.heap.get? c = some o ∧ H4 c = none := fun c hc' o e =>
        let z := I4.pin (c, o) (List.mem_append_right _ (List.mem_append_right _ (mem_pinsAt hc' e)))
        ⟨z.1, z.2.1⟩
      have I5 : Inv G pa (wipe σ vs) H4 s4 := I4.unpinned.weak (by rw [← hw3, wipe_length]) fun j v e => by
        rw [← hw3] at e
        exact (wipe_some e).1
      have st4 : tn (i + 1) s4.heap := T.keep _ _ _ st2 fun c hc' o e => (pin' c hc' o e).1
      have fr4 : ∀ c ∈ fp, H4 c = none := fun c hc' => by
        obtain ⟨o, e, _⟩ := T.obj _ _ st2 c hc'
        exact (pin' c hc' o e).2
      refine seg_at (seg_yield rfl rfl rfl ⟨b, H4, rfl, I5, ?_⟩)
      by_cases hbc : b = cont
      · rw [if_pos hbc] at q4
        obtain ⟨m', hm', w'⟩ := q4
        refine .inl ⟨hbc, by omega, fun g' hg' => ?_⟩
        refine seg_again rfl (ih (i + 1) m' _ _ H4 (by omega) ⟨?_, st4, fr4⟩ w')
        exact ⟨I5.ok, I5.os, hg', I5.base, I5.loc, I5.cell, I5.free, I5.freeC, I5.pin, I5.hok, I5.len⟩
      · rw [if_neg hbc] at q4
        exact .inr ⟨not_of_ne hbc, q4⟩
end
end Ky
namespace Ky
open PySem PySem.Spec PyProof.Rows L2
section
variable {G : Cx} {pa : List (Addr × Obj)} {σ : L2.St} {vs : List Nat} {fp : List Addr} {it : Addr} {tn : Nat → Heap → Prop} {J : It} {tg elt iter : Expr} {g : TG} {te : TE} {scope : Scope} {gpos : Pos} {Q : VK} {cont : Bool} {W : Nat → Nat → Hp → Prop} {A : Around}
theorem seg_begin (hA : G.A = A.deeper G.env) (hc : G.calm = true) (hco : G.env.scope.isCoroutine = false) (hxe : G.xe = fun _ _ => False) (T : Turn G.prog G.w G.K tg J fp it tn) (pg : PG G tg g) (pe : PE G elt te) (hpn : G.pn = []) (hex : G.ex = fp)
    (hpa : ∀ p ∈ pa, ∀ b ∈ fp, p.1 ≠ b) (turn : GTurn J g te (wipe σ vs) vs Q cont W) (n i m : Nat) (s₀ s : Shared) (H : Hp) (hm : m < n) (hat : GAt G pa (wipe σ vs) fp tn i H s) (w : W i m H) :
    Seg (model G.prog G.w) A (fun n s₀ r s₁ => r = .ok .next ∧ GEnd G pa (wipe σ vs) Q cont n s₀ s₁) (GYld G pa (wipe σ vs) fp tn W Q cont) n s₀
      (.compStart (.GeneratorExp elt [⟨tg, iter, [], 0⟩] scope gpos) 0 (.ref it) .none G.env)
      ((model G.prog G.w).den (.compStart (.GeneratorExp elt [⟨tg, iter, [], 0⟩] scope gpos) 0 (.ref it) .none G.env)) [] s := by
  have loop := seg_turns (iter := iter) (scope := scope) (gpos := gpos) hA hc hco hxe T pg pe hpn hex hpa turn n i m s₀ s H hm hat w
  show Seg _ A _ _ _ s₀ _ ((compStart (.GeneratorExp elt [⟨tg, iter, [], 0⟩] scope gpos) 0 (.ref it) .none G.env).onRaise (leaving G.env)) [] s
  unfold compStart
  rw [Sem.onRaise_eq_wrap]
  show Seg _ A _ _ _ s₀ _ ((ask >>= _).wrap _ _ _ _) [] s
  refine seg_bind_wrap (wpAny_askSetting ?_)
  split
  · exact seg_again rfl loop
  · first
      | exact seg_bind_wrap (wpAny_rule (seg_bind_wrap (wpAny_standAt (seg_bind_wrap (T.self _ i s _ _ hat.2.1 (seg_again rfl loop))))))
      | (refine seg_bind_wrap (wpAny_rule ?_); show Seg _ A _ _ _ s₀ _ ((standAt iter.pos >>= _).wrap _ _ _ _) [] s; exact seg_bind_wrap (wpAny_standAt (seg_bind_wrap (T.self _ i s _ _ hat.2.1 (seg_again rfl loop)))))
end
theorem allBare_upd {s : Shared} {g : Nat} {x : GenState} (h : AllBare s.gens) (hx : x.bare = true) : AllBare (s.setGen g x).gens := allBare_setGen h hx
section
variable {X G : Cx} {pins pa : List (Addr × Obj)} {σ σw : L2.St} {fp : List Addr} {tn : Nat → Heap → Prop} {Q : VK} {cont : Bool} {W : Nat → Nat → Hp → Prop} {a : Addr} {gi : Nat}
theorem live_of (hh : X.A.handled = none) (hd : X.A.depth < recursionLimit) (isg : ∀ H s, Inv G pa σw H s → s.heap.IsGen a gi)
    (back : ∀ H s h' g', Inv G pa σw H s → AllBare g' → (∀ b o, s.heap.get? b = some o → h'.get? b = some o) → Inv X pins σ H { s with heap := h', gens := g' }) :
    ∀ (n : Nat) (s : Shared), s.heap.IsGen a gi → s.heap.NoLimit →
      (∃ gs, s.gens[gi]? = some gs ∧ gs.Goes (model X.prog X.w) X.A.in1.in1 (fun n s₀ r s₁ => r = .ok .next ∧ GEnd G pa σw Q cont n s₀ s₁) (GYld G pa σw fp tn W Q cont) n (.send .none) (s.setGen gi .running)) →
      Live X pins σ Q cont a n s := by
  intro n
  induction n with
  | zero =>
    intro s hg hl ⟨gs, hgs, hgo⟩ QQ E h1 h2
    refine wpAny_pyNext_genexpQ (A := X.A.in1) (P := GEnd G pa σw Q cont) hh hl hd hg hgs hgo (fun v s₁ gs' hb hv => ?_) (fun s₁ hp h' hk => ?_)
    · obtain ⟨b, H, rfl, I, ⟨_, h0, _⟩ | ⟨hb2, q⟩⟩ := hv
      · exact absurd h0 (Nat.lt_irrefl _)
      · subst hb2
        exact h1 _ H (back H s₁ s₁.heap _ I (allBare_upd I.bare hb) fun _ _ e => e) q
    · obtain ⟨H, I, q⟩ := hp
      exact h2 _ H (back H s₁ h' _ I (allBare_upd I.bare rfl) hk) q
  | succ n ih =>
    intro s hg hl ⟨gs, hgs, hgo⟩ QQ E h0 h1 h2
    have hgl : gi < s.gens.size := (Array.getElem?_eq_some_iff.mp hgs).1
    refine GenW.wpAny_gsz (n := gi + 1) hgl ?_
    refine wpAny_pyNext_genexpQ (A := X.A.in1) (P := GEnd G pa σw Q cont) hh hl hd hg hgs hgo (fun v s₁ gs' hb hv => ?_) (fun s₁ hp h' hk => ?_)
    · intro hsz
      obtain ⟨b, H, rfl, I, ⟨hbc, _, kap⟩ | ⟨hb2, q⟩⟩ := hv
      · subst hbc
        have hsz1 : gi < s₁.gens.size := by
          have q : (s₁.setGen gi gs').gens.size = s₁.gens.size := GenW.setGen_size _ _ _
          have hsz' : gi + 1 ≤ (s₁.setGen gi gs').gens.size := hsz
          omega
        refine h0 _ (ih _ (isg H s₁ I) I.nolimit ⟨gs', setGen_at hsz1, ?_⟩)
        exact kap _ (allBare_upd (s := s₁.setGen gi gs') (allBare_upd I.bare hb) rfl)
      · subst hb2
        exact h1 _ H (back H s₁ s₁.heap _ I (allBare_upd I.bare hb) fun _ _ e => e) q
    · intro _
      obtain ⟨H, I, q⟩ := hp
      exact h2 _ H (back H s₁ h' _ I (allBare_upd I.bare rfl) hk) q
end
/-! ### its making -/
/-- the generator expression's scope: no cells of its own -/
structure GxS (N : List Str) (sc scope : Scope) (own : List (Str × Nat)) : Prop where
  blk : BlkOk N sc scope own
  co : scope.isCoroutine = false
  cell : ∀ y ∈ scope.names, y.2 ≠ .cell
  dot : scope.names.lookup (".0" : Str) = some NameKind.local
/-- what its reader wants: the table may have grown by its code -/
def gRd (P : Addr) (wi : TI) (g : TG) (te : TE) (vs : List Nat) (cont : Bool) : TE := fun σ H Q => wi σ H fun J H1 => GxR.TabG H1 P ∧ ∀ H2, GxR.Tabbed P H1 H2 → ∃ W : Nat → Nat → Hp → Prop, (∃ m, W 0 m H2) ∧ GTurn J g te (wipe σ vs) vs Q cont W
section
variable {X : Cx} {pins : List (Addr × Obj)} {σ : L2.St} {H : Hp} {s : Shared} {Q : VK} {cont : Bool} {k : Nat} {c P : Addr} {tg elt iter : Expr} {scope : Scope} {own : List (Str × Nat)} {gpos : Pos} {wi : TI} {g : TG} {te : TE} {Q' : Value → Shared → Prop}
theorem gx_make (hc : X.calm = true) (hN : X.N.Nodup) (hr : Room (k + 2) X.A) (TB : GxR.TabB X.base X.mg c P) (hcode : X.env.code = .ref c) (S : GxS X.N X.env.scope scope own) (hi : PI X tg iter wi)
    (hg : ∀ A' s H code fp, PG (gx X A' s H scope code fp) tg g) (he : ∀ A' s H code fp, Room k A' → PE (gx X A' s H scope code fp) elt te) (hs : ∀ v, genFold iter X.env v = pure v)
    (I : Inv X pins σ H s) (h : gRd P wi g te (own.map (·.2)) cont σ H Q) (hQ : ∀ a gi n s', s'.heap.IsGen a gi → Live X pins σ Q cont a n s' → Q' (.ref a) s') :
    wpAny (model X.prog X.w) X.A (eval (.GeneratorExp elt [⟨tg, iter, [], 0⟩] scope gpos) X.env) Q' X.xe s := by
  have hfree : ∀ y ∈ scope.names, y.2 = .free → ∃ c, X.env.cells.lookup y.1 = some c := fun y hy e => by
    rcases S.blk.free y hy e with k | k
    · exact I.ok.has _ (.inl k)
    · exact I.ok.has _ (.inr k)
  refine wpAny_GeneratorExp_make S.co (closure_ok hfree) S.cell S.dot S.blk.kind (by have := hr.dp; omega) ?_ hs
  refine thn (hi.run pins s σ H _ I h) fun xv s1 hx => thn hx fun itv s2 h2 => ?_
  obtain ⟨it, fp, tn, J, H2, e, I2, T, st2, f2, ⟨ps, hP, ht⟩, q⟩ := h2
  subst e
  have hPs : s2.heap.get? P = some { cls := .none, data := .fields ps } := I2.hok P _ hP
  have cd : PySem.W.CodeHd s2.heap c P := TB.code.keeps I2.bk
  refine ⟨I2.nolimit, ?_⟩
  have szf : ∀ b ∈ fp, b < s2.heap.objs.size := fun b hb => by
    obtain ⟨o, e, _⟩ := T.obj _ _ st2 b hb
    exact Heap.lt_size e
  have cont' : ∀ (code : Value) (h3 : Heap) (tk : Nat) (ps' : Array Value), Heap.ExtBut P s2.heap h3 → s2.heap.objs.size ≤ h3.objs.size → h3.get? P = some { cls := .none, data := .fields ps' } → (∃ more, ps' = ps ++ more) → TriplesOk ps'.toList →
      wpAny (model X.prog X.w) X.A (builtinsFor X.env.globals X.env.builtins) (fun bi s₄ => ∀ h', h'.Ns s₄.heap.objs.size (fun y => if y = ".0" then some (.ref it) else none) → Heap.SameBut s₄.heap.objs.size (s₄.heap.push { cls := .type "frame", data := .dict #[] }) h' →
          Q' (.ref h'.objs.size) { s₄ with
            gens := s₄.gens.push (.fresh (.compStart (.GeneratorExp elt [⟨tg, iter, [], 0⟩] scope gpos) 0 (.ref it) .none (genEnv scope (cloFrom X.env.cells scope.names []) s₄.heap.objs.size code bi X.env))),
            toks := s₄.toks + 1 + 1 + 1,
            heap := h'.push { cls := .type "generator", data := .fields #[.int s₄.gens.size 0, .str "<genexpr>" (s₄.toks + 1), .str (X.env.qual ++ "<genexpr>") (s₄.toks + 1 + 1)] } }) X.xe { s2 with heap := h3, toks := tk } := by
    intro code h3 tk ps' hx hsz hP3 hmore ht3
    obtain ⟨bm, ob, e1, e2, e3, e4, e5, e6, e7, e8⟩ := TB.bm
    obtain ⟨more, em⟩ := hmore
    have keep3 : ∀ b u, b ≠ P → s2.heap.get? b = some u → h3.get? b = some u := fun b u hb e => hx b u hb e
    refine wpAny_builtinsFor (m := X.mg) (by rw [I2.ok.glob]; exact (I2.mod.glob.keeps I2.bk).extBut hx TB.gP) e1 e2 (keep3 _ _ e4 (I2.bk _ _ e5)) e6 e7 e8 ?_
    have I3 : Inv X pins σ (upd H2 P (.tbl (ps ++ more))) { s2 with heap := h3, gens := s2.gens, drawn := s2.drawn, toks := tk } := GxR.inv_tab (more := more) I2 hP keep3 (by rw [← em]; exact hP3) I2.bare
    have hTb : GxR.Tabbed P H2 (upd H2 P (.tbl (ps ++ more))) := ⟨⟨ps ++ more, upd_same, by rw [← em]; exact ht3⟩, fun b hb => upd_ne hb⟩
    obtain ⟨W, ⟨m0, w0⟩, turn⟩ := q _ hTb
    generalize hH3 : upd H2 P (.tbl (ps ++ more)) = H3 at I3 hTb w0
    generalize hs4 : ({ s2 with heap := h3, gens := s2.gens, drawn := s2.drawn, toks := tk } : Shared) = s4 at I3 ⊢
    have h4 : s4.heap = h3 := by rw [← hs4]
    have nfP : ∀ b ∈ fp, b ≠ P := fun b hb z => by
      have := (f2 b hb).1
      rw [z, hP] at this
      cases this
    have f4 : ∀ b ∈ fp, FpOk X pins H3 b ∧ b < s4.heap.objs.size := fun b hb => by
      refine ⟨⟨?_, (f2 b hb).2⟩, by rw [h4]; exact Nat.lt_of_lt_of_le (szf b hb) hsz⟩
      rw [← hH3, upd_ne (nfP b hb)]
      exact (f2 b hb).1
    have st4 : tn 0 s4.heap := T.keep _ _ _ st2 fun b hb o e => by rw [h4]; exact keep3 b o (nfP b hb) e
    intro h' hn' hs'
    have hszC : h'.objs.size = s4.heap.objs.size + 1 := by rw [hs'.1, Heap.size_push]
    have keep' : ∀ b o, s4.heap.get? b = some o → h'.get? b = some o := fun b o e => hs'.extBut b o (Nat.ne_of_lt (Heap.lt_size e)) (Heap.get?_push_of_some _ e)
    generalize hoa : ({ cls := .type "generator", data := .fields #[.int s4.gens.size 0, .str "<genexpr>" (s4.toks + 1), .str (X.env.qual ++ "<genexpr>") (s4.toks + 1 + 1)] } : Obj) = oa
    have keep5 : ∀ b o, s4.heap.get? b = some o → (h'.push oa).get? b = some o := fun b o e => Heap.get?_push_of_some _ (keep' b o e)
    have hoa5 : (h'.push oa).get? h'.objs.size = some oa := Heap.get?_push_size _ (by rw [← hoa]; rfl)
    have isG : ∀ {hh : Heap}, hh.get? h'.objs.size = some oa → hh.IsGen h'.objs.size s4.gens.size := fun {hh} e => by
      exact ⟨oa, .str "<genexpr>" (s4.toks + 1), .str (X.env.qual ++ "<genexpr>") (s4.toks + 1 + 1), e, by rw [← hoa], by rw [← hoa], by rw [← hoa]⟩
    have hh2 : (X.A.in1.in1.deeper (gxEnv X s4 scope code)).handled = none := hr.hd
    have hfr : (X.A.in1.in1.deeper (gxEnv X s4 scope code)).frames = some (gxEnv X s4 scope code :: X.stack) := Around.frames_deeper (A := X.A.in1.in1) I3.ok.frames
    have hroom : Room k (X.A.in1.in1.deeper (gxEnv X s4 scope code)) := Room.deeper (A := X.A.in1.in1) (k := k) ⟨hr.hd, by have := hr.dp; show X.A.depth + 3 * (k + 1) + 5 < _; omega, by have := hr.un; show X.A.units + 1 + 1 + 16 * (k + 1) + 200 < _; omega⟩ _
    have inv5 : ∀ g' t', AllBare g' → Inv (gx X (X.A.in1.in1.deeper (gxEnv X s4 scope code)) s4 H3 scope code fp) [(h'.objs.size, oa)] (wipe σ (own.map (·.2))) H3 { s4 with heap := h'.push oa, gens := g', toks := t' } := fun g' t' hg' => by
      have I5 := gx_start (t' := t') (code := code) I3 S.blk S.cell hN f4 hh2 hfr (hn'.push oa) keep5 hg'
      refine I5.pins_of fun p hp => ?_
      have e : p = (h'.objs.size, oa) := by simpa using hp
      subst e
      have hge : s4.heap.objs.size ≤ h'.objs.size := by omega
      refine ⟨hoa5, I3.hok.fresh hge, ?_, fun z => ?_, fun v e => ?_⟩
      · show h'.objs.size ≠ s4.heap.objs.size
        omega
      · rcases List.mem_cons.mp (I3.stkSub _ z) with z | z
        · have := I3.lt
          rw [← z] at this
          exact absurd (Nat.lt_of_lt_of_le this hge) (Nat.lt_irrefl _)
        · exact I3.nofs hge z
      · rw [← hoa] at e
        cases e
    have isg : ∀ H s, Inv (gx X (X.A.in1.in1.deeper (gxEnv X s4 scope code)) s4 H3 scope code fp) [(h'.objs.size, oa)] (wipe σ (own.map (·.2))) H s → s.heap.IsGen h'.objs.size s4.gens.size := fun H s I => isG (I.pin (h'.objs.size, oa) (by simp)).1
    have back : ∀ H s h9 g', Inv (gx X (X.A.in1.in1.deeper (gxEnv X s4 scope code)) s4 H3 scope code fp) [(h'.objs.size, oa)] (wipe σ (own.map (·.2))) H s → AllBare g' → (∀ b o, s.heap.get? b = some o → h9.get? b = some o) → Inv X pins σ H { s with heap := h9, gens := g' } := fun H s h9 g' I hg' kp =>
      I3.call' (ch := fp) I.os (I.base.trans (Un.kept kp)) (I.hok.kept kp) hg' fun b hb => ⟨(f4 b hb).1.2.2.2.1, (f4 b hb).1.2.1, (f4 b hb).1.2.2.2.2.1, (f4 b hb).1.2.2.2.2.2⟩
    refine hQ h'.objs.size s4.gens.size (m0 + 1) _ (isG hoa5) (live_of (G := gx X (X.A.in1.in1.deeper (gxEnv X s4 scope code)) s4 H3 scope code fp) (pa := [(h'.objs.size, oa)]) (σw := wipe σ (own.map (·.2))) (fp := fp) (tn := tn) (W := W) hr.hd (by have := hr.dp; omega) isg back (m0 + 1) _ (isG hoa5) (I3.nolimit.keeps keep5) ⟨_, Array.getElem?_push_size .., rfl, ?_⟩)
    have fr3 : ∀ b ∈ fp, H3 b = none := fun b hb => (f4 b hb).1.1
    have st5 : tn 0 (h'.push oa) := T.keep _ _ _ st4 fun b _ o e => keep5 b o e
    exact seg_begin (G := gx X (X.A.in1.in1.deeper (gxEnv X s4 scope code)) s4 H3 scope code fp) (A := X.A.in1.in1) rfl hc S.co rfl T (hg _ _ _ _ _) (he _ _ _ _ _ hroom) rfl rfl (fun p hp b hb => by
      have e : p = (h'.objs.size, oa) := by simpa using hp
      subst e
      have h9 : b < s4.heap.objs.size := (f4 b hb).2
      have hge : s4.heap.objs.size ≤ h'.objs.size := by omega
      exact Nat.ne_of_gt (Nat.lt_of_lt_of_le h9 hge)) turn (m0 + 1) 0 m0 _ _ H3 (Nat.lt_succ_self _) ⟨inv5 _ _ (allBare_upd (I3.bare.push rfl) rfl), st5, fr3⟩ w0
  cases hf : codeAmong gpos ps.toList with
  | none =>
    refine wpAny_genexprCodeX hcode (cd.code hPs ht) (cd.tab hPs) hf fun c' h' tk hx hge hlt hco' _ htab' _ => ?_
    obtain ⟨o1, vs, f1, tf, fl, tg, inF, tx, tt, op, _, _, _, _, _, _, _, _, _, htr, _⟩ := hco'
    exact cont' _ h' tk _ hx (Nat.le_trans hge (Nat.le_of_lt hlt)) htab'.2 ⟨_, rfl⟩ htr
  | some cv =>
    refine wpAny_genexprCode_hit hcode (cd.code hPs ht) hf ?_
    exact cont' cv s2.heap s2.toks ps (Heap.ExtBut.refl _ _) (Nat.le_refl _) hPs ⟨#[], by simp⟩ ht
end
end Ky
namespace Ky
open PySem PySem.Spec PyProof.Rows L2
section
variable {X : Cx} {k : Nat} {c P : Addr} {tg elt iter : Expr} {scope : Scope} {own : List (Str × Nat)} {gpos p pos : Pos} {wi : TI} {g : TG} {te : TE}
theorem pe_allG (hr : Room (k + 2) X.A) (hgl : Gl X "all") (hm : X.mg "all" = none) (hb : bootBuiltins "all" = some (.builtin "all")) (hc : X.calm = true) (hN : X.N.Nodup) (TB : GxR.TabB X.base X.mg c P) (hcode : X.env.code = .ref c) (S : GxS X.N X.env.scope scope own) (hi : PI X tg iter wi)
    (hg : ∀ A' s H code fp, PG (gx X A' s H scope code fp) tg g) (hel : ∀ A' s H code fp, Room k A' → PE (gx X A' s H scope code fp) elt te) (hs : ∀ v, genFold iter X.env v = pure v := by intro _; rfl)
    (he : starEach [.GeneratorExp elt [⟨tg, iter, [], 0⟩] scope gpos] X.env = (false, eval (.GeneratorExp elt [⟨tg, iter, [], 0⟩] scope gpos) X.env) :: starEach [] X.env := by rfl) :
    PE X (.Call (.Name "all" p) [.GeneratorExp elt [⟨tg, iter, [], 0⟩] scope gpos] [] pos) (gRd P wi g te (own.map (·.2)) true) := by
  refine ⟨fun pins s σ H Q I h => ?_⟩
  refine wpAny_Call_Name_kw (ld_blt I hgl hm hb ?_)
  refine PyProof.Rows.callWith_builtin1 ?_ he (by rfl)
  rw [he]
  show wpAny _ _ (spliced ((false, eval (.GeneratorExp elt [⟨tg, iter, [], 0⟩] scope gpos) X.env) :: backTo pos (starEach [] X.env))) _ _ s
  refine Calls.spliced_cons (gx_make hc hN hr TB hcode S hi hg hel hs I h fun a gi n s' hG hL => ?_)
  refine Calls.spliced_nil ?_
  refine call_function_tree F.kind_all F.plain_all F.entry_all (F.args_all1 _) ?_
  unfold Builtin.«all»
  refine wpAny_bind (m := oneArg "all" _) (wpAny_pure ?_)
  refine wpAny_bind (wpAny_pyIter_gen hG ?_)
  exact wpAny_pure ⟨plainId_quiet F.plain_all_loop _, live_all n s' hL fun s'' H' b I' q => ⟨.bl b, H', I', rfl, q⟩⟩
theorem pe_anyG (hr : Room (k + 2) X.A) (hgl : Gl X "any") (hm : X.mg "any" = none) (hb : bootBuiltins "any" = some (.builtin "any")) (hc : X.calm = true) (hN : X.N.Nodup) (TB : GxR.TabB X.base X.mg c P) (hcode : X.env.code = .ref c) (S : GxS X.N X.env.scope scope own) (hi : PI X tg iter wi)
    (hg : ∀ A' s H code fp, PG (gx X A' s H scope code fp) tg g) (hel : ∀ A' s H code fp, Room k A' → PE (gx X A' s H scope code fp) elt te) (hs : ∀ v, genFold iter X.env v = pure v := by intro _; rfl)
    (he : starEach [.GeneratorExp elt [⟨tg, iter, [], 0⟩] scope gpos] X.env = (false, eval (.GeneratorExp elt [⟨tg, iter, [], 0⟩] scope gpos) X.env) :: starEach [] X.env := by rfl) :
    PE X (.Call (.Name "any" p) [.GeneratorExp elt [⟨tg, iter, [], 0⟩] scope gpos] [] pos) (gRd P wi g te (own.map (·.2)) false) := by
  refine ⟨fun pins s σ H Q I h => ?_⟩
  refine wpAny_Call_Name_kw (ld_blt I hgl hm hb ?_)
  refine PyProof.Rows.callWith_builtin1 ?_ he (by rfl)
  rw [he]
  show wpAny _ _ (spliced ((false, eval (.GeneratorExp elt [⟨tg, iter, [], 0⟩] scope gpos) X.env) :: backTo pos (starEach [] X.env))) _ _ s
  refine Calls.spliced_cons (gx_make hc hN hr TB hcode S hi hg hel hs I h fun a gi n s' hG hL => ?_)
  refine Calls.spliced_nil ?_
  refine call_function_tree F.kind_any F.plain_any F.entry_any (F.args_any1 _) ?_
  unfold Builtin.«any»
  refine wpAny_bind (m := oneArg "any" _) (wpAny_pure ?_)
  refine wpAny_bind (wpAny_pyIter_gen hG ?_)
  exact wpAny_pure ⟨plainId_quiet F.plain_any_loop _, live_any n s' hL fun s'' H' b I' q => ⟨.bl b, H', I', rfl, q⟩⟩
end
end Ky

namespace Kz
open PySem PySem.SeqAt PySem.W PyProof.Rows
/-! ### sorting of tuples, the empty one among them -/
section
variable {prog : Program} {w : World} {A : Around} {E : Value → Shared → Prop} {s : Shared}
theorem call_tuple_lt {Q : Value → Shared → Prop} {l b : Addr} {items items2 : Array Value} {e r : Nat → Bool} (hl : s.heap.IsTuple l items) (hb : s.heap.IsTuple b items2)
    (he : ∀ j (h1 : j < items.size) (h2 : j < items2.size), EqAt A.in1 s items[j] items2[j] (e j)) (hr : ∀ j (h1 : j < items.size) (h2 : j < items2.size), e j = false → RcLt A.in1 s items[j] items2[j] (r j))
    (h : Q (.bool (firstLt e r (decide (items.size < items2.size)) (List.range (min items.size items2.size)))) s) : wpAny (model prog w) A (call (.builtin "tuple.__lt__") [.ref l, .ref b]) Q E s := by
  obtain ⟨⟨cls, dd, data, sl⟩, ho, hc, n, hd⟩ := id hl
  obtain ⟨⟨cls2, dd2, data2, sl2⟩, ho2, hc2, n2, hd2⟩ := id hb
  simp only at hc hd hc2 hd2
  subst hc hd hc2 hd2
  exact call_meets F.slot_tuple_lt ⟨_, ho, rfl⟩ F.entry_tuple_lt (F.args_tuple_lt_2 _ _) (tuple_ltAt l b items items2 n n2 dd dd2 sl sl2 e r) ⟨ho, ho2, he, hr, h⟩
theorem oneLt_any {f : Bool} {da db : PyData} {a b : Value} {as bs : List Addr} {Q : Bool → Shared → Prop} (ra : Reads s.heap a da as) (rb : Reads s.heap b db bs) (h : alike da db = true) (hn : da ≠ .none)
    (hu : A.units + min da.depth db.depth < cLine) (hq : Q (dataLt da db) s) : wpAny (model prog w) A (oneLt' f a b) Q E s := by
  by_cases ht : f = true ∧ ∃ xs, da = .tuple xs
  · obtain ⟨rfl, xs, rfl⟩ := ht
    cases db with
    | tuple ys =>
      have hal : alikeAll xs ys = true := by simpa [alike] using h
      cases ra with
      | @tuple l o vs n _ as₁ h1 h2 h3 h4 =>
        cases rb with
        | @tuple l' o' vs' n' _ bs₁ k1 k2 k3 k4 =>
          have n1 : vs.size = xs.length := by simpa using ReadsAll.length _ _ _ h4
          have n2 : vs'.size = ys.length := by simpa using ReadsAll.length _ _ _ k4
          rw [dataLt_tuple, ← firstLt_toks xs ys hal, ← n1, ← n2] at hq
          rw [oneLt'_eq]
          simp only [if_true]
          refine wpAny_bind (wpAny_cRoomFor (room_here hu) ?_)
          refine wpAny_bind (wpAny_callSpecialIfBound?_slot (T := "tuple") ⟨_, h1, h2⟩ F.slot_tuple_lt (call_tuple_lt (e := pairEq xs ys) (r := fun j => dataLt (xs.getD j .none) (ys.getD j .none)) ⟨_, h1, h2, _, h3⟩ ⟨_, k1, k2, _, k3⟩ (fun j j1 j2 => ?_) (fun j j1 j2 hj => ?_) ?_))
          · have := eqAt_alikeAll xs ys A.in1 s vs.toList vs'.toList _ _ h4 k4 hal (room_in hu) j (by simpa using j1) (by simpa using j2)
            simpa using this
          · have := rcLt_alikeAll xs ys A.in1 s vs.toList vs'.toList _ _ h4 k4 hal (room_in hu) j (by simpa using j1) (by simpa using j2) hj
            simpa using this
          · exact wpAny_truthy_bool hq
    | _ => exact absurd h (by simp [alike])
  · exact oneLt_alike (fun hf xs hx => ht ⟨hf, xs, hx⟩) ra rb h hn hu hq
def hasItem : PyData → Bool
  | .tuple [] => false
  | _ => true
theorem keyLt_general (x y : Value) : keyLt' general' x y = oneLt' false x y := rfl
theorem firsts_any {M : Model} : ∀ {vs : List Value} {ds : List PyData}, EachIs (fun v d => ∃ as, Reads s.heap v d as) vs ds → (∀ d ∈ ds, ∃ r, d = .tuple r) →
    ∃ fs : List (Option Value), (∀ (Q : List (Option Value) → Shared → Prop), Q fs s → wpAny M A (vs.mapM firstOfTuple') Q E s) ∧ fs.map (·.isSome) = ds.map hasItem
  | _, _, .nil, _ => ⟨[], fun Q h => by rw [List.mapM_nil]; exact wpAny_pure h, rfl⟩
  | _, _, .cons (b := d) ⟨as, r⟩ t, ht => by
    obtain ⟨fs, h1, h2⟩ := firsts_any (M := M) t fun d hd => ht d (List.mem_cons_of_mem _ hd)
    obtain ⟨ds, rfl⟩ := ht d (List.mem_cons_self ..)
    cases r with
    | @tuple a o xs n _ _ ho hc hd hr =>
      refine ⟨xs[0]? :: fs, fun Q h => ?_, ?_⟩
      · rw [List.mapM_cons]
        refine wpAny_bind ?_
        rw [kas_first_eq]
        refine wpAny_bind (Looks.here (show Looks M s.heap (typeOf (.ref a)) o.cls from (Looks.ld ho).andThen .now) ?_)
        rw [hc, if_neg (by first | decide | simp)]
        refine wpAny_bind (listItems_at ho hd (wpAny_pure ?_))
        exact wpAny_bind (h1 (fun bs s' => wpAny M A (pure (xs[0]? :: bs)) Q E s') (wpAny_pure h))
      · rw [List.map_cons, List.map_cons, h2]
        congr 1
        cases q : xs.toList with
        | nil =>
          rw [q] at hr
          cases hr
          have e0 : xs = #[] := by
            apply Array.toList_inj.mp
            rw [q]
          subst e0
          rfl
        | cons f fr =>
          rw [q] at hr
          cases hr with
          | cons r1 r2 =>
            have hf : xs[0]? = some f := by rw [← Array.getElem?_toList, q]; rfl
            rw [hf]
            rfl
/-- values that read as alike tuples can be sorted -/
theorem sorts_tups {vs : List Value} {ds : List PyData} (e : EachIs (fun v d => ∃ as, Reads s.heap v d as) vs ds) (hal : AllAlike ds) (hk : ∀ d ∈ ds, ∃ r, d = .tuple r) (hu : ∀ d, d ∈ ds → A.units + d.depth < cLine) : SortsAt prog w A s (dataKind s.heap ds) vs := by
  by_cases hne : ∀ d, d ∈ ds → ∃ x r, d = PyData.tuple (x :: r)
  · exact SortsAt.data e hal (.inl hne) hu
  · have hemp : PyData.tuple [] ∈ ds := by
      apply Classical.byContradiction
      intro hno
      refine hne fun d hd => ?_
      obtain ⟨r, rfl⟩ := hk d hd
      cases r with
      | nil => exact absurd hd hno
      | cons x r => exact ⟨x, r, rfl⟩
    have room : ∀ {d d' : PyData}, d ∈ ds → A.units + min d.depth d'.depth < cLine := fun {d d'} hd => Nat.lt_of_le_of_lt (Nat.add_le_add_left (Nat.min_le_left _ _) _) (hu d hd)
    have ask : ∀ f : Bool, ∀ (E : Value → Shared → Prop) (x y : Value) (a b : (dataKind s.heap ds).α) {Q : Bool → Shared → Prop}, (dataKind s.heap ds).keyOf x = some a → (dataKind s.heap ds).keyOf y = some b → Q ((dataKind s.heap ds).blt a b) s → wpAny (model prog w) A (oneLt' f x y) Q E s := by
      intro f E x y a b Q ha hb hq
      obtain ⟨d, as, hd, ra, rfl⟩ := dataKind_inv ha
      obtain ⟨d', as', hd', rb, rfl⟩ := dataKind_inv hb
      refine oneLt_any ra rb (hal d hd d' hd') (fun z => ?_) (room hd) hq
      obtain ⟨r, rfl⟩ := hk d hd
      cases z
    refine ⟨fun v hv => ?_, ?_⟩
    · obtain ⟨d, hd, as, r⟩ := e.left v hv
      exact ⟨_, dataKind_some hal hd r⟩
    · cases ds with
      | nil => exact absurd hemp (by simp)
      | cons d₀ ds₀ =>
        have nall : ∀ fs : List (Option Value), fs.map (·.isSome) = (d₀ :: ds₀).map hasItem → ¬ (fs.toArray.all (·.isSome)) = true := fun fs hfs hall => by
          simp only [List.all_toArray] at hall
          have hm : false ∈ fs.map (·.isSome) := by
            rw [hfs]
            exact List.mem_map.mpr ⟨_, hemp, rfl⟩
          obtain ⟨f, hf, hb⟩ := List.mem_map.mp hm
          have := List.all_eq_true.mp hall f hf
          rw [hb] at this
          cases this
        by_cases h0 : d₀ = PyData.tuple []
        · refine ⟨oneType', fun E x y a b Q ha hb hq => by rw [keyLt'_oneType]; exact ask true E x y a b ha hb hq, fun h2 E Q hq => ?_⟩
          obtain ⟨fs, h1, hfs⟩ := firsts_any (M := model prog w) (A := A) (E := E) e hk
          rw [keyKind'_eq, List.mapM_toArray, map_eq_pure_bind]
          refine wpAny_bind (wpAny_bind (h1 _ (wpAny_pure ?_)))
          rw [if_neg (nall fs hfs)]
          have hf0 : ¬ ((fs.toArray[0]?.bind id).isSome = true) := by
            cases fs with
            | nil => simp
            | cons f fr =>
              rw [List.map_cons, List.map_cons] at hfs
              have := (List.cons.inj hfs).1
              rw [h0] at this
              have this : f.isSome = false := this
              simpa using this
          rw [if_neg hf0, oneTypeOnly'_eq, List.mapM_toArray, map_eq_pure_bind]
          refine wpAny_bind (wpAny_bind (wpAny_bind (kas_mapM (r := Value.type "tuple") _ (fun v hv Q' hq => ?_) (wpAny_pure ?_))))
          · obtain ⟨d, hd, as, r⟩ := e.left v hv
            obtain ⟨r', rfl⟩ := hk d hd
            exact Looks.here (looks_reads (M := model prog w) r) hq
          · have hall : ((List.map (fun _ => Value.type "tuple") vs).toArray.all fun x => x == Value.type "tuple") = true := by
              simp only [List.all_toArray, List.all_map, List.all_eq_true]
              intro _ _
              exact beq_self_eq_true _
            have h0' : (List.map (fun _ => Value.type "tuple") vs).toArray[0]? = some (Value.type "tuple") := by
              cases vs with
              | nil => exact absurd h2 (by simp)
              | cons v vr => simp
            rw [h0']
            simp only [hall, if_true]
            exact wpAny_pure (wpAny_pure hq)
        · refine ⟨general', fun E x y a b Q ha hb hq => by rw [keyLt_general]; exact ask false E x y a b ha hb hq, fun h2 E Q hq => ?_⟩
          obtain ⟨fs, h1, hfs⟩ := firsts_any (M := model prog w) (A := A) (E := E) e hk
          rw [keyKind'_eq, List.mapM_toArray, map_eq_pure_bind]
          refine wpAny_bind (wpAny_bind (h1 _ (wpAny_pure ?_)))
          rw [if_neg (nall fs hfs)]
          have hf0 : (fs.toArray[0]?.bind id).isSome = true := by
            cases fs with
            | nil =>
              rw [List.map_cons] at hfs
              cases hfs
            | cons f fr =>
              rw [List.map_cons, List.map_cons] at hfs
              have := (List.cons.inj hfs).1
              obtain ⟨r, hr⟩ := hk d₀ (List.mem_cons_self ..)
              have this : f.isSome = true := by
                rw [this, hr]
                cases r with
                | nil => exact absurd hr h0
                | cons _ _ => rfl
              simpa using this
          rw [if_pos hf0]
          exact wpAny_pure hq
end
end Kz

namespace Ky
open PySem PySem.Spec PyProof.Rows L2
/-! ### data in order -/
/-- keys that sorted takes: tuples (also the empty one), or no tuples and no None -/
def Srt (ds : List PyData) : Prop := (∀ d, d ∈ ds → ∃ r, d = PyData.tuple r) ∨ (∀ d, d ∈ ds → d ≠ .none ∧ ∀ xs, d ≠ .tuple xs)
theorem srt_sorts {prog : Program} {w : World} {A : Around} {s : Shared} {vs : List Value} {ds : List PyData} (e : PySem.W.EachIs (fun v d => ∃ as, Reads s.heap v d as) vs ds) (hal : PySem.W.AllAlike ds) (hk : Srt ds) (hu : ∀ d, d ∈ ds → A.units + d.depth < cLine) : PySem.W.SortsAt prog w A s (PySem.W.dataKind s.heap ds) vs := by
  rcases hk with hk | hk
  · exact Kz.sorts_tups e hal hk hu
  · exact PySem.W.SortsAt.data e hal (.inr hk) hu
section
variable {X : Cx} {pins : List (Addr × Obj)} {σ : L2.St} {H : Hp} {s : Shared}
theorem each_dp (I : Inv X pins σ H s) : ∀ {xs : List V} {us : List Value} {ds : List PyData}, Vals xs us → DpAll X.K H xs ds → PySem.W.EachIs (fun u (b : V × PyData) => RelV b.1 u ∧ ∃ as, Reads s.heap u b.2 as) us (xs.zip ds)
  | _, _, _, .nil, .nil => .nil
  | _, _, _, .cons r1 r2, .cons d1 d2 => .cons ⟨r1, Dp.reads I _ _ _ d1 r1⟩ (each_dp I r2 d2)
theorem dpAll_len {K : PySem.W.Frag} : ∀ {xs : List V} {ds : List PyData}, DpAll K H xs ds → xs.length = ds.length
  | _, _, .nil => rfl
  | _, _, .cons _ d => by rw [List.length_cons, List.length_cons, dpAll_len d]
theorem zip_snd {xs : List V} {ds : List PyData} (h : xs.length = ds.length) : (xs.zip ds).map (·.2) = ds := List.map_snd_zip (by omega)
theorem vals_each : ∀ {us : List Value} {bs : List (V × PyData)}, PySem.W.EachIs (fun u (b : V × PyData) => RelV b.1 u) us bs → Vals (bs.map (·.1)) us
  | _, _, .nil => .nil
  | _, _, .cons r t => .cons r (vals_each t)
/-- the items in the order of their data -/
def sortD (xs : List V) (ds : List PyData) : List V := ((xs.zip ds).mergeSort (PySem.W.dataLe false (·.2))).map (·.1)
theorem sortD_len {xs : List V} {ds : List PyData} (h : xs.length = ds.length) : (sortD xs ds).length = xs.length := by
  unfold sortD
  rw [List.length_map, List.length_mergeSort, List.length_zip, ← h, Nat.min_self]
def rSortedD (K : PySem.W.Frag) : List V → Hp → VK → Prop := fun vs H Q => ∃ (a : Addr) (xs : List V) (ds : List PyData), vs = [.ref a] ∧ SqL K H a xs ∧ DpAll K H xs ds ∧ PySem.W.AllAlike ds ∧ Srt ds ∧ (∀ d ∈ ds, d.depth ≤ 60) ∧ ∀ p, H p = none → Q (.ref p) (upd H p (.lst (sortD xs ds)))
theorem cr_sortedD (hu : X.A.units + 64 < cLine) : CallR X (.builtin "sorted") (rSortedD X.K) := by
  intro pins s σ H vs us Q I r h
  obtain ⟨a, xs, ds, rfl, hs, hd, hal, hk, hdep, q⟩ := h
  obtain rfl := Vals.ref1 r
  obtain ⟨its, rv, hl, hz⟩ := I.list hs
  have hlen := dpAll_len hd
  have e := each_dp I rv hd
  have hm := zip_snd hlen
  have er' : PySem.W.EachIs (fun v (b : V × PyData) => ∃ as, Reads (PySem.W.sortingHeap (PySem.W.copyHeap s.heap its) (s.heap.objs.size + 1) its) v b.2 as) its (xs.zip ds) := e.mono fun _ _ ⟨_, as, r⟩ => ⟨as, PyProof.Rows.Reads.keeps (fun _ _ => PySem.W.sorting_copy_old) r⟩
  have em := PySem.W.each_map (R := fun v d => ∃ as, Reads (PySem.W.sortingHeap (PySem.W.copyHeap s.heap its) (s.heap.objs.size + 1) its) v d as) (fun b : V × PyData => b.2) er'
  rw [hm] at em
  refine PySem.W.sorted_vals hl.isList (srt_sorts (s := { s with heap := PySem.W.sortingHeap (PySem.W.copyHeap s.heap its) (s.heap.objs.size + 1) its }) em hal hk fun d hm' => ?_) (by rw [← rv.length]; exact hz) ?_
  · have := hdep d hm'
    show X.A.units + 1 + 1 + d.depth < cLine
    omega
  · have out := PySem.W.sortVals_data (enc := fun b : V × PyData => b.2) (R := fun u (b : V × PyData) => RelV b.1 u) false (e.mono fun _ _ z => z.1) er' (by rw [hm]; exact hal)
    rw [hm] at out
    generalize PySem.W.sortVals (PySem.W.dataKind (PySem.W.sortingHeap (PySem.W.copyHeap s.heap its) (s.heap.objs.size + 1) its) ds) false its its = res at out ⊢
    obtain ⟨ep, he'⟩ := PyProof.Rows.sortedAll_at s.heap its res.toArray
    exact ⟨.ref _, upd H (s.heap.objs.size + 1) (.lst (sortD xs ds)), I.laid (t' := s.toks) (fun _ _ => PyProof.Rows.sortedAll_old) (Nat.le_succ _) ⟨by rw [sortD_len hlen]; exact hz, _, ep, vals_each out, he'⟩, rfl, q _ (I.hok.fresh (Nat.le_succ _))⟩
/-! ### < of data -/
def rLtD (K : PySem.W.Frag) : R2 := fun x y H Q => ∃ d e, Dp K H x d ∧ Dp K H y e ∧ PySem.W.alike d e = true ∧ d ≠ .none ∧ d.depth ≤ 60 ∧ Q (.bl (PySem.W.dataLt d e)) H
theorem op_ltD (hu : X.A.units + 64 < cLine) : OpR X (compareOp .Lt) (rLtD X.K) := by
  intro pins s σ H x y v u Q I rx ry h
  obtain ⟨d, e, hd, he, ha, hn, hz, q⟩ := h
  obtain ⟨as, r1⟩ := Dp.reads I d x v hd rx
  obtain ⟨bs, r2⟩ := Dp.reads I e y u he ry
  exact PySem.W.lt_data r1 r2 ha hn (by have := Nat.min_le_left d.depth e.depth; omega) ⟨.bl _, H, I, rfl, q⟩
end
end Ky

namespace Ky
open PySem PySem.Spec PyProof.Rows L2
/-! ### sorted(l, key=f), f a def of the program -/
theorem freed_none (h : Heap) (a : Addr) : (h.update a fun _ => ⟨.none, none, .freed, #[]⟩).get? a = none := by
  cases e : (h.update a fun _ => ⟨.none, none, .freed, #[]⟩).get? a with
  | none => rfl
  | some o =>
    obtain ⟨h1, h2⟩ := Heap.get?_some_iff.mp e
    exfalso
    obtain ⟨objs⟩ := h
    simp only [Heap.update, Array.getElem?_modify, if_pos] at h1
    cases q : objs[a]? with
    | none =>
      rw [q] at h1
      cases h1
    | some x =>
      rw [q] at h1
      cases h1
      cases h2
/-- a context at another place of the same calls, where nothing is raised -/
abbrev atA (X : Cx) (A' : Around) : Cx := { X with A := A', xe := fun _ _ => False }
section
variable {X : Cx} {pins : List (Addr × Obj)} {σ : L2.St} {H : Hp} {s : Shared}
theorem inAt {A' : Around} (I : Inv X pins σ H s) (hh : X.calm = true → A'.handled = none) (hf : A'.frames = X.A.frames) : Inv (atA X A') pins σ H s :=
  ⟨⟨I.ok.mod, I.ok.kind, I.ok.glob, I.ok.blt, I.ok.above, I.ok.inj, I.ok.has, I.ok.cab, hh, hf.trans I.ok.frames, I.ok.stk, I.ok.exf, I.ok.bs, I.ok.bsz, I.ok.noex, I.ok.exfs, I.ok.funs, I.ok.frf⟩, I.os, I.bare, I.base, I.loc, I.cell, I.free, I.freeC, I.pin, I.hok, I.len⟩
theorem outAt {A' : Around} (I : Inv (atA X A') pins σ H s) (ok : X.Ok) : Inv X pins σ H s := ⟨ok, I.os, I.bare, I.base, I.loc, I.cell, I.free, I.freeC, I.pin, I.hok, I.len⟩
/-- records of ours have turned, one of them is tracked from now on -/
theorem take_in {h' : Heap} {t' : Nat} {ch : List Addr} {it : Addr} {o : HO} (I : Inv X pins σ H s) (k : ∀ b ob, b ∉ ch → s.heap.get? b = some ob → h'.get? b = some ob) (f : ∀ b ∈ ch, FpOk X pins H b) (hit : it ∈ ch)
    (new : ObjOk X.prog X.w (upd H it o) h' it o) : Inv X pins σ (upd H it o) { s with heap := h', toks := t' } := by
  have nch : ∀ b u, H b = some u → b ∉ ch := fun b u e z => by
    have := (f b z).1
    rw [e] at this
    cases this
  have up : ∀ b u, H b = some u → upd H it o b = some u := fun b u e => by rw [upd_ne (fun z => nch b u e (by rw [z]; exact hit))]; exact e
  refine I.step (g' := s.gens) (d' := s.drawn) (ch := ch) (fun b hb => ?_) (fun b ob _ _ hc e _ => k b ob hc e) (fun b ob _ _ hc e _ => ⟨ob.slots, k b ob hc e⟩)
    (fun b ob hc _ n => by rw [upd_ne (fun z => hc (by rw [z]; exact hit))]; exact n) (fun b ob hc e => ⟨ob, k b ob hc e⟩) (fun b _ e => up b _ e) (fun b _ _ e => up b _ e) (fun b ps e => ⟨#[], by rw [up b _ e]; simp⟩) (fun m hm => ?_) (fun b u e => ?_) I.bare
  · obtain ⟨_, h1, _, h2, h3, h4⟩ := f b hb
    exact ⟨h2, h1, h3, h4⟩
  · obtain ⟨ob, es, ep, ho, r⟩ := hm
    exact ⟨ob, es, ep, k _ ob (fun z => (f _ z).2.1 rfl) ho, r⟩
  · by_cases hb : b = it
    · rw [hb, upd_same] at e
      cases e
      rw [hb]
      exact new
    · rw [upd_ne hb] at e
      refine (I.hok b u e).stay (fun c v hc q => k c v ?_ q) (fun c q => up c _ q) fun c _ q => up c _ q
      rcases hc with z | z
      · rw [z]; exact nch b u e
      · exact nch c _ z
theorem dpAll_snoc {K : PySem.W.Frag} : ∀ {xs : List V} {ds : List PyData} {x : V} {d : PyData}, DpAll K H xs ds → Dp K H x d → DpAll K H (xs ++ [x]) (ds ++ [d])
  | _, _, _, _, .nil, h => .cons h .nil
  | _, _, _, _, .cons h1 h2, h => .cons h1 (dpAll_snoc h2 h)
mutual
theorem Kept.dp {K : PySem.W.Frag} {H H' : Hp} (e : Kept H H') : ∀ (d : PyData) (v : V), Dp K H v d → Dp K H' v d
  | .none, _, h => by cases h; exact .non
  | .bool b, _, h => by cases h; exact .bl b
  | .int i, _, h => by cases h; exact .int i
  | .str x, _, h => by cases h; exact .str x
  | .list ds, _, h => by
    cases h with
    | lst hs ha => exact .lst (e.sq hs) (Kept.dpAll e ds _ ha)
  | .tuple ds, _, h => by
    cases h with
    | tup hs ha =>
      refine .tup ?_ (Kept.dpAll e ds _ ha)
      rcases hs with (hs | ⟨o, hs⟩) | hs
      · exact .inl (.inl (e.tup hs))
      · exact .inl (.inr ⟨o, e.keep _ _ (fun ps z => by cases z) hs⟩)
      · exact .inr hs
  | .dict _, _, h => by cases h
theorem Kept.dpAll {K : PySem.W.Frag} {H H' : Hp} (e : Kept H H') : ∀ (ds : List PyData) (vs : List V), DpAll K H vs ds → DpAll K H' vs ds
  | [], _, h => by cases h; exact .nil
  | d :: ds, _, h => by
    cases h with
    | cons h1 h2 => exact .cons (Kept.dp e d _ h1) (Kept.dpAll e ds _ h2)
end
def rSortedF (K : PySem.W.Frag) (f : Addr) (sp : Sp) : List V → List V → Hp → VK → Prop := fun vs zs H Q => ∃ (a : Addr) (xs : List V) (ds : List PyData), vs = [.ref a] ∧ zs = [.ref f] ∧ SqL K H a xs ∧ xs.length = ds.length ∧ PySem.W.AllAlike ds ∧ Srt ds ∧ (∀ d ∈ ds, d.depth ≤ 60) ∧
  (∀ (i : Nat) (x : V) (d : PyData) (H1 : Hp), xs[i]? = some x → ds[i]? = some d → Kept H H1 → sp [x] H1 (fun y H2 => Kept H1 H2 ∧ Dp K H2 y d) E0) ∧ ∀ H2, Kept H H2 → ∀ p, H2 p = none → Q (.ref p) (upd H2 p (.lst (sortD xs ds)))
theorem vals_len {xs : List V} {us : List Value} (r : Vals xs us) : xs.length = us.length := r.length
theorem cr_sortedF {k : Nat} {f : Addr} {fd : FuncData} {ps : List Str} {sp : Sp} (hr : Room (k + 1) X.A) (F : FnOk X.prog X.w X.K X.mg X.base CX0 k f fd ps sp) (hb : Binds X.K fd ps []) : CallRK X (.builtin "sorted") [Str.ofString "key"] (rSortedF X.K f sp) := by
  intro pins s σ H vs zs us ws Q I r rz h
  obtain ⟨a, xs, ds, rfl, rfl, hs, hlen, hal, hk, hdep, call, q⟩ := h
  obtain rfl := Vals.ref1 r
  obtain ⟨w1, rfl, e1⟩ := vals1 rz
  obtain rfl : w1 = Value.ref f := e1
  obtain ⟨its, rv, hl, hz⟩ := I.list hs
  have hil : xs.length = its.length := rv.length
  have hZ : its.length ≤ sizeLine := by omega
  refine PySem.W.sorted_of_sort hl.isList hZ (PyProof.Rows.ksk_s1 _ _) (fun _ => PyProof.Rows.ksk_l1 _ _) fun E' => ?_
  show wpAny _ _ (Builtin.«list.sort» ⟨[.ref (s.heap.objs.size + 1)], [(Str.ofString "key", .ref f)]⟩) _ _ _
  rw [PyProof.Rows.ksk_t1]
  have hoL := PySem.W.copyHeap_at s.heap its
  have szc : (PySem.W.copyHeap s.heap its).objs.size = s.heap.objs.size + 2 := by
    unfold PySem.W.copyHeap
    rw [Heap.size_push, Heap.size_after_update, Heap.size_push]
  have k0 : ∀ b o, s.heap.get? b = some o → (PySem.W.sortingHeap (PySem.W.copyHeap s.heap its) (s.heap.objs.size + 1) its).get? b = some o := fun _ _ => PySem.W.sorting_copy_old
  generalize hL : s.heap.objs.size + 1 = L at hoL k0 ⊢
  obtain ⟨ep, ho1⟩ : ∃ ep, ((PySem.W.copyHeap s.heap its).update L (Obj.mapSeq fun _ => (#[] : Array Value))).get? L = some (PyProof.Rows.seqObj "list" #[] ep) := ⟨_, PyProof.Rows.get?_update_seq hoL fun _ => #[]⟩
  unfold PyProof.Rows.ksk_tree
  refine wpAny_bind (PyProof.Rows.listItems_at hoL rfl ?_)
  refine wpAny_bind (PyProof.Rows.listUpdate_at hoL rfl ?_ (by rw [List.size_toArray]; exact hZ) (Nat.zero_le _))
  refine wpAny_bind (PyProof.Rows.seqEpoch_at ho1 rfl ?_)
  refine wpAny_bind (wpAny_newTuple ?_ (by show its.length ≤ _; exact hZ))
  refine wpAny_bind (wpAny_newList ?_ (Nat.zero_le _))
  refine wpAny_holding ?_
  have hLS : (((PySem.W.copyHeap s.heap its).update L (Obj.mapSeq fun _ => (#[] : Array Value))).push (PyProof.Rows.seqObj "tuple" its.toArray 0)).objs.size = s.heap.objs.size + 3 := by rw [Heap.size_push, Heap.size_after_update, szc]
  have nk0 : (PySem.W.sortingHeap (PySem.W.copyHeap s.heap its) L its).get? (((PySem.W.copyHeap s.heap its).update L (Obj.mapSeq fun _ => (#[] : Array Value))).push (PyProof.Rows.seqObj "tuple" its.toArray 0)).objs.size = some (PyProof.Rows.seqObj "list" #[] 0) := Heap.get?_push_size _ rfl
  have nL0 : (PySem.W.sortingHeap (PySem.W.copyHeap s.heap its) L its).get? L = some (PyProof.Rows.seqObj "list" #[] ep) := Heap.get?_push_of_some _ (Heap.get?_push_of_some _ ho1)
  show wpAny (model X.prog X.w) X.A.in1.in1 (PyProof.Rows.ksk_rest L (.ref f) false its.toArray ep (.ref (((PySem.W.copyHeap s.heap its).update L (Obj.mapSeq fun _ => (#[] : Array Value))).push (PyProof.Rows.seqObj "tuple" its.toArray 0)).objs.size)) _ _ { s with heap := PySem.W.sortingHeap (PySem.W.copyHeap s.heap its) L its }
  generalize hkS : (((PySem.W.copyHeap s.heap its).update L (Obj.mapSeq fun _ => (#[] : Array Value))).push (PyProof.Rows.seqObj "tuple" its.toArray 0)).objs.size = kS at hLS nk0 ⊢
  generalize PySem.W.sortingHeap (PySem.W.copyHeap s.heap its) L its = h0 at k0 nk0 nL0 ⊢
  have hLs : s.heap.objs.size ≤ L := by omega
  have hkSs : s.heap.objs.size ≤ kS := by omega
  have hka : kS ≠ L := by omega
  have I0 : Inv (atA X X.A.in1.in1) pins σ H { s with heap := h0, toks := s.toks } := (inAt (A' := X.A.in1.in1) I (fun _ => hr.hd) rfl).kept (t' := s.toks) k0
  have fp : ∀ (b : Addr) (H' : Hp), s.heap.objs.size ≤ b → H' b = none → FpOk (atA X X.A.in1.in1) pins H' b := fun b H' hb' hn => (inAt (A' := X.A.in1.in1) I (fun _ => hr.hd) rfl).fpOk hb' hn
  have pk : ∀ {H' : Hp} {s' : Shared} {kA : Array Value} {e : Nat}, Inv (atA X X.A.in1.in1) pins σ H' s' → H' kS = none → H' L = none → s'.heap.get? kS = some (PyProof.Rows.seqObj "list" kA e) → s'.heap.get? L = some (PyProof.Rows.seqObj "list" #[] ep) →
      Inv (atA X X.A.in1.in1) (pins ++ [(L, PyProof.Rows.seqObj "list" #[] ep), (kS, PyProof.Rows.seqObj "list" kA e)]) σ H' s' := fun {H' s' kA e} I' n1 n2 g1 g2 => I'.pins_of fun p hp => by
    rcases List.mem_append.mp hp with hp | hp
    · exact I'.pin p (List.mem_append_right _ hp)
    · rcases List.mem_cons.mp hp with e2 | hp
      · subst e2
        exact ⟨g2, n2, (fp L H' hLs n2).2.1, (fp L H' hLs n2).2.2.1, fun v z => by cases z⟩
      · have e2 := List.mem_singleton.mp hp
        subst e2
        exact ⟨g1, n1, (fp kS H' hkSs n1).2.1, (fp kS H' hkSs n1).2.2.1, fun v z => by cases z⟩
  have upk : ∀ {H' : Hp} {s' : Shared} {kA : Array Value} {e : Nat}, Inv (atA X X.A.in1.in1) (pins ++ [(L, PyProof.Rows.seqObj "list" #[] ep), (kS, PyProof.Rows.seqObj "list" kA e)]) σ H' s' →
      Inv (atA X X.A.in1.in1) pins σ H' s' ∧ H' kS = none ∧ H' L = none ∧ s'.heap.get? kS = some (PyProof.Rows.seqObj "list" kA e) ∧ s'.heap.get? L = some (PyProof.Rows.seqObj "list" #[] ep) := fun {H' s' kA e} I' => by
    have a1 := I'.pin (kS, PyProof.Rows.seqObj "list" kA e) (by simp)
    have a2 := I'.pin (L, PyProof.Rows.seqObj "list" #[] ep) (by simp)
    exact ⟨I'.unpinned, a1.2.1, a2.2.1, a1.1, a2.1⟩
  unfold PyProof.Rows.ksk_rest
  refine wpAny_bind (wpAny_rule ?_)
  first
    | rw [List.forIn_toArray]
    | (rw [← Array.forIn_toList]; simp only [List.toList_toArray])
    | rw [← Array.forIn_toList]
  refine wpAny_bind (PyProof.Rows.ksk_fold (fun i s' => ∃ (H' : Hp) (kA : Array Value) (e : Nat) (ys : List V), Inv (atA X X.A.in1.in1) (pins ++ [(L, PyProof.Rows.seqObj "list" #[] ep), (kS, PyProof.Rows.seqObj "list" kA e)]) σ H' s' ∧ Kept H H' ∧ Vals ys kA.toList ∧ DpAll X.K H' ys (ds.take i)) its 0 _
    ⟨H, #[], 0, [], pk I0 (I.hok.fresh hkSs) (I.hok.fresh hLs) nk0 nL0, Kept.refl H, .nil, by rw [List.take_zero]; exact .nil⟩ ?step ?done)
  case step =>
    rintro j x s' hx ⟨H', kA, e, ys, I', kp, rv', dp'⟩
    simp only [Nat.zero_add] at dp' ⊢
    have hj : j < its.length := (List.getElem?_eq_some_iff.mp hx).1
    have hxj : xs[j]? = some (xs[j]'(by omega)) := List.getElem?_eq_getElem _
    have hdj : ds[j]? = some (ds[j]'(by omega)) := List.getElem?_eq_getElem _
    obtain ⟨u, hu', ru⟩ := rv.get hxj
    rw [hx] at hu'
    cases hu'
    have hrun := run_fn (X := atA X X.A.in1.in1) (k := k) F ⟨hr.hd, by have := hr.dp; show X.A.depth + 3 * k + 5 < _; omega, by have := hr.un; show X.A.units + 1 + 1 + 16 * k + 200 < _; omega⟩ hb .nil pass0 I' (.cons ru .nil) (call j _ _ H' hxj hdj kp)
    refine wpAny_bind (wpAny_attempt (thnF hrun fun v s'' ⟨y, H2, I2, ry, kp2, dy⟩ => ?_))
    try dsimp only
    obtain ⟨I3, n1, n2, g1, g2⟩ := upk I2
    have hsz : kA.size = j := by
      have h1 : ys.length = kA.size := by
        have z := rv'.length
        simpa using z
      have h2 := dpAll_len dp'
      rw [List.length_take] at h2
      have h3 : j ≤ ds.length := by omega
      rw [Nat.min_eq_left h3] at h2
      exact h1.symm.trans h2
    obtain ⟨c2, hc2⟩ : ∃ c2, (s''.heap.update kS (Obj.mapSeq (·.push v))).get? kS = some (PyProof.Rows.seqObj "list" (kA.push v) c2) := ⟨_, PyProof.Rows.get?_update_seq g1 (·.push v)⟩
    refine wpAny_bind (PyProof.Rows.listUpdate_at g1 rfl ?_ (by omega) (by rw [Array.size_push]; omega))
    obtain ⟨f0, f1, f2, f3, f4, f5⟩ := fp kS H2 hkSs n1
    have I4 : Inv (atA X X.A.in1.in1) pins σ H2 { s'' with heap := s''.heap.update kS (Obj.mapSeq (·.push v)), toks := s''.toks } := I3.turned (it := kS) (fun b o hbS e => (Heap.get?_update_other _ _ (Ne.symm hbS)).trans e) f0 f1 f3 f4 f5
    have ek : ds.take (j + 1) = ds.take j ++ [ds[j]'(by omega)] := by rw [List.take_add_one, hdj]; simp
    refine wpAny_pure ⟨rfl, H2, kA.push v, c2, ys ++ [y], pk I4 n1 n2 hc2 ((Heap.get?_update_other _ _ hka).trans g2), kp.trans kp2, ?_, ?_⟩
    · rw [Array.toList_push]
      exact rv'.append (.cons ry .nil)
    · rw [ek]
      exact dpAll_snoc (Kept.dpAll kp2 _ _ dp') dy
  case done =>
    rintro s' ⟨H', kA, e, ys, I', kp, rv', dp'⟩
    have e3 : ds.take (0 + its.length) = ds := List.take_of_length_le (by omega)
    rw [e3] at dp'
    obtain ⟨I3, n1, n2, g1, g2⟩ := upk I'
    try dsimp only
    refine wpAny_bind (PyProof.Rows.listItems_at g1 rfl ?_)
    have hly := dpAll_len dp'
    have hsz : kA.size = its.length := by
      have h1 : ys.length = kA.size := by
        have z := rv'.length
        simpa using z
      exact h1.symm.trans (hly.trans (hlen.symm.trans hil))
    have er := PySem.W.each_map (R := fun v d => ∃ as, Reads s'.heap v d as) (fun b : V × PyData => b.2) ((each_dp I3 rv' dp').mono fun _ _ z => z.2)
    rw [zip_snd hly] at er
    refine PySem.W.keyH_end (κ := PySem.W.dataKind s'.heap ds) (h₁ := s'.heap.update kS fun _ => ⟨.none, none, .freed, #[]⟩) (vs := its) (fun b o hbL eb => ?_) (freed_none _ _) g1 g2 hka (srt_sorts er hal hk fun d hm => ?_) hsz hZ fun h' tk c k3 n3 => ?_
    · by_cases hbS : b = kS
      · rw [hbS, freed_none] at eb
        cases eb
      · rw [Heap.get?_update_other _ _ (Ne.symm hbS)] at eb
        exact eb
    · have h1 := hdep d hm
      have h2 := hr.un
      show X.A.units + 1 + 1 + d.depth < cLine
      omega
    · have ko : PySem.W.KeyedOut false ((xs.zip ds).map fun b : V × PyData => b.2) its (PySem.W.sortVals (PySem.W.dataKind s'.heap ds) false kA.toList its) := by
        rw [zip_snd hlen]
        exact ⟨s'.heap, kA.toList, hal, rfl, er⟩
      have eR : PySem.W.EachIs (fun u (b : V × PyData) => RelV b.1 u) its (xs.zip ds) := by
        have aux : ∀ {xs : List V} {us : List Value} {ds : List PyData}, Vals xs us → xs.length = ds.length → PySem.W.EachIs (fun u (b : V × PyData) => RelV b.1 u) us (xs.zip ds) := by
          intro xs us ds r
          induction r generalizing ds with
          | nil => intro _; exact .nil
          | cons r1 r2 ih =>
            intro hl
            cases ds with
            | nil => cases hl
            | cons d ds => exact .cons r1 (ih (Nat.succ.inj hl))
        exact aux rv hlen
      have out := vals_each (PySem.W.keyedOut_each (R := fun u (b : V × PyData) => RelV b.1 u) (fun b : V × PyData => b.2) ko eR)
      refine ⟨rfl, .ref L, upd H' L (.lst (sortD xs ds)), outAt (take_in (t' := tk) (ch := [kS, L]) I3 (fun b ob hb' eb => ?_) (fun b hb' => ?_) (by simp) ⟨by rw [sortD_len hlen]; exact hz, _, c, out, n3⟩) I.ok, rfl, q H' kp L n2⟩
      · have hb1 : b ≠ kS := fun z => hb' (by simp [z])
        have hb2 : b ≠ L := fun z => hb' (by simp [z])
        exact k3 b ob hb2 ((Heap.get?_update_other _ _ (Ne.symm hb1)).trans eb)
      · rcases List.mem_cons.mp hb' with z | z
        · rw [z]; exact fp kS H' hkSs n1
        · rw [List.mem_singleton.mp z]; exact fp L H' hLs n2
end
end Ky

namespace Ky
open PySem PySem.Spec PyProof.Rows L2
/-! ### {k: v for ..} whose keys are tuples of numbers and texts -/
theorem dictSet_T {X : Cx} {pins : List (Addr × Obj)} {σ : L2.St} {H : Hp} {s : Shared} {E : Value → Shared → Prop} {D b : Addr} {kvs : List (List L2.Key × V)} {k : List L2.Key} {v : V} {r : Value} {Q : Unit → Shared → Prop} (hu : X.A.units + 1 < cLine) (I : Inv X pins σ H s) (hD : H D = some (.dT kvs)) (hb : H b = some (.tup (k.map kV)))
    (hz : kvs.length < sizeLine) (rv : RelV v r) (h : ∀ s', Inv X pins σ (upd H D (.dT (putK kvs k v))) s' → Q () s') : wpAny (model X.prog X.w) X.A (dictSet D (.ref b) r) Q E s := by
  obtain ⟨z, hd, xs, rel, dd⟩ := dt_of I.hok hD
  have hzx : xs.length ≤ sizeLine := by rw [← Paired.length rel]; exact z
  have hl : (putK kvs k v).length ≤ sizeLine := by have := length_putK kvs k v; omega
  refine wpAny_dictSet_heap (hsz := hzx) (show X.A.units < cLine by omega) (key_of I.hok hb) dd fun h' dd' hs => h _ ?_
  obtain ⟨q, es, ep, hq, h2, h3, h4, _, h5⟩ := dd'
  refine d_write I (by rw [hD]; exact True.intro) hs ⟨q, hq⟩ ⟨hl, hd, _, (rel.put k hb rv).keeps fun c ys ec => ?_, q, es, ep, hq, h2, h3, h4, h5⟩
  rw [upd_ne (ne_of ec hD (fun z => nomatch z))]
  exact ec
def tDcT (wi : TI) (g : TG) (tt : TT) (tk tv : TE) (vs : List Nat) : TE := fun σ H Q => wi σ H fun J H1 => ∀ D, H1 D = none → ∃ W : Nat → Nat → Hp → Prop, (∃ m, W 0 m (upd H1 D (.dT []))) ∧ ∀ i m H, W i m H →
  (J.stop i H ∧ Q (.ref D) H) ∨ (J.go i H ∧ ∃ Nx : Hp → Prop, (∀ H', Nx H' → ∃ m', m' < m ∧ W (i + 1) m' H') ∧ ∀ x H', J.yld i H x H' → g x (wipe σ vs) H' fun σ2 H2 => wipe σ2 vs = wipe σ vs ∧ tt σ2 H2 fun b H3 =>
    if b = true then tk σ2 H3 fun y H4 => tv σ2 H4 fun z H5 => ∃ kvs k p, y = .ref p ∧ H5 p = some (.tup (k.map kV)) ∧ H5 D = some (.dT kvs) ∧ kvs.length < sizeLine ∧ Nx (upd H5 D (.dT (putK kvs k z))) else Nx H3)
theorem dcT_core {X : Cx} {pins : List (Addr × Obj)} {s : Shared} {σ : L2.St} {H : Hp} {Q : VK} {kx vx tg iter : Expr} {ifs : List Expr} {scope : Scope} {own : List (Str × Nat)} {pos pos' : Pos} {wi : TI} {g : TG} {tt : TT} {tk tv : TE} {use : Option (Value → Sem Unit)} {Qf : Value → Shared → Prop} (hu : X.A.units + 1 < cLine) (hc : X.calm = true) (hN : X.N.Nodup) (hi : PI X tg iter wi) (ok : BlkOk X.N X.env.scope scope own)
    (hg : ∀ (s : Shared) (H : Hp) (C : Addr) (cl : List (Str × Addr)) (fp : List Addr), PG (X.blk s H scope (compEnvC scope cl C X.env) fp) tg g) (ht : ∀ (s : Shared) (H : Hp) (C : Addr) (cl : List (Str × Addr)) (fp : List Addr), PTs (X.blk s H scope (compEnvC scope cl C X.env) fp) ifs tt)
    (hk : ∀ (s : Shared) (H : Hp) (C : Addr) (cl : List (Str × Addr)) (fp : List Addr), PE (X.blk s H scope (compEnvC scope cl C X.env) fp) kx tk)
    (he : ∀ (s : Shared) (H : Hp) (C : Addr) (cl : List (Str × Addr)) (fp : List Addr), PE (X.blk s H scope (compEnvC scope cl C X.env) fp) vx tv) (hs : ∀ x, foldedSetIterable iter X.env x = pure x) (I : Inv X pins σ H s) (h : tDcT wi g tt tk tv (own.map (·.2)) σ H Q)
    (hRR : ∀ D C s' m H', Inv X pins σ H' s' → Q (.ref D) H' → s'.heap.Ns C m → FpOk X pins H' C → compPost (model X.prog X.w) X.A X.xe use Qf (.ref D) C (.ok .next) s') :
    wpAny (model X.prog X.w) X.A (comprehension (.DictComp kx vx [⟨tg, iter, ifs, 0⟩] scope pos) scope X.env pos' newDict false (eval iter X.env) use) Qf X.xe s := by
  have hfree : ∀ y ∈ scope.names, y.2 = .free → ∃ c, X.env.cells.lookup y.1 = some c := fun y hy e => (ok.free y hy e).elim (fun k => I.ok.has _ (.inl k)) fun k => I.ok.has _ (.inr k)
  refine wpAny_comprehension_free (use := use) rfl hs (closure_ok hfree) ok.kind (fun y hy e => by rw [ok.uniq y hy, e]) (thn (hi.run pins s σ H _ I h) fun xv s1 hx => thn hx fun itv s2 h2 => ?_)
  obtain ⟨it, fp, tn, J, H2, rfl, I2, T, st2, f2, q⟩ := h2
  refine wpAny_newObj_type (newEnv_comp ?_)
  have hDn : H2 s2.heap.objs.size = none := I2.hok.fresh (Nat.le_refl _)
  obtain ⟨W, ⟨m0, w0⟩, turn⟩ := q _ hDn
  have I3 : Inv X pins σ (upd H2 s2.heap.objs.size (.dT [])) { s2 with heap := s2.heap.push { cls := .type "dict", data := .dict #[] }, toks := s2.toks } := I2.laid (fun b o e => Heap.get?_push_of_some _ e) (Nat.le_refl _) (dt_empty s2.heap I2.big)
  have sz : ∀ b ∈ fp, b < s2.heap.objs.size := fun b hb => let ⟨_, e, _⟩ := T.obj _ _ st2 b hb; Heap.lt_size e
  have st3 : tn 0 (s2.heap.push { cls := .type "dict", data := .dict #[] }) := T.keep _ _ _ st2 fun b _ o e => Heap.get?_push_of_some _ e
  have f3 : ∀ b ∈ fp, FpOk X pins (upd H2 s2.heap.objs.size (.dT [])) b ∧ b < (s2.heap.push ({ cls := .type "dict", data := .dict #[] } : Obj)).objs.size := fun b hb => by
    refine ⟨⟨?_, (f2 b hb).2⟩, by rw [Heap.size_push]; exact Nat.lt_succ_of_lt (sz b hb)⟩
    rw [upd_ne (Nat.ne_of_lt (sz b hb))]
    exact (f2 b hb).1
  generalize s2.heap.objs.size = D at hDn turn w0 I3 f3 ⊢
  generalize hH3 : upd H2 D (.dT []) = H3 at I3 w0 f3
  generalize hs3 : ({ s2 with heap := s2.heap.push { cls := .type "dict", data := .dict #[] }, toks := s2.toks } : Shared) = s3 at I3 ⊢
  have h3 : s3.heap = s2.heap.push { cls := .type "dict", data := .dict #[] } := by rw [← hs3]
  rw [← h3] at st3
  have f3 : ∀ b ∈ fp, FpOk X pins H3 b ∧ b < s3.heap.objs.size := fun b hb => by rw [h3]; exact f3 b hb
  have I4 := block_start I3 ok hN f3
  have pg := hg s3 H3 s3.heap.objs.size (cellsFrom (s3.heap.objs.size + 1) scope.names (cloFrom X.env.cells scope.names [])) fp
  have pt := ht s3 H3 s3.heap.objs.size (cellsFrom (s3.heap.objs.size + 1) scope.names (cloFrom X.env.cells scope.names [])) fp
  have pk := hk s3 H3 s3.heap.objs.size (cellsFrom (s3.heap.objs.size + 1) scope.names (cloFrom X.env.cells scope.names [])) fp
  have pe := he s3 H3 s3.heap.objs.size (cellsFrom (s3.heap.objs.size + 1) scope.names (cloFrom X.env.cells scope.names [])) fp
  have nfp : ∀ b ∈ fp, H3 b = none := fun b hb => (f3 b hb).1.1
  show codeAny _ _ (.compStart (.DictComp kx vx [⟨tg, iter, ifs, 0⟩] scope pos) 0 (.ref it) (.ref D) (compEnvC scope (cellsFrom (s3.heap.objs.size + 1) scope.names (cloFrom X.env.cells scope.names [])) s3.heap.objs.size X.env)) _ { s3 with heap := pushCells (s3.heap.push { cls := .type "dict", data := .dict #[] }) scope.names }
  have cL : (compEnvC scope (cellsFrom (s3.heap.objs.size + 1) scope.names (cloFrom X.env.cells scope.names [])) s3.heap.objs.size X.env).locals = s3.heap.objs.size := rfl
  generalize compEnvC scope (cellsFrom (s3.heap.objs.size + 1) scope.names (cloFrom X.env.cells scope.names [])) s3.heap.objs.size X.env = ce at I4 pg pt pk pe cL ⊢
  have st4 : tn 0 (pushCells (s3.heap.push { cls := .type "dict", data := .dict #[] }) scope.names) := T.keep _ _ _ st3 fun b _ o e => pushCells_keeps _ _ _ _ (Heap.get?_push_of_some _ e)
  generalize hs4 : ({ s3 with heap := pushCells (s3.heap.push { cls := .type "dict", data := .dict #[] }) scope.names } : Shared) = s4 at I4 ⊢
  have st4 : tn 0 s4.heap := by rw [← hs4]; exact st4
  have stat : ∀ {σ' : L2.St} {H' : Hp} {s' : Shared}, Inv (X.blk s3 H3 scope ce fp) [] σ' H' s' → (∀ b ∈ fp, H' b = none) → ∀ b ∈ fp, FpOk (X.blk s3 H3 scope ce fp) [] H' b := fun {σ' H' s'} I' hn b hb =>
    ⟨hn b hb, (I'.ok.exf b hb).1, I'.ok.exfs b hb, .inl hb, fun x c e => (I'.ok.exf b hb).2 x c e, fun p hp => absurd (show p ∈ ([] : List (Addr × Obj)) ++ [] from hp) (by simp)⟩
  refine codeAny_compStart_dict ?loop (T.self X.A 0 _ _ _ st4 ?loop)
  refine compLoop_anyD (fun n s' => ∃ i H', Inv (X.blk s3 H3 scope ce fp) [] (wipe σ (own.map (·.2))) H' s' ∧ tn i s'.heap ∧ (∀ b ∈ fp, H' b = none) ∧ W i n H') ?_ m0 ⟨0, H3, I4, st4, nfp, w0⟩
  rintro n s5 ⟨i, H5, I5, st5, n5, w5⟩
  rcases turn i n H5 w5 with ⟨stop, qq⟩ | ⟨go, Nx, hNx, step⟩
  · refine thnF (T.done (X.blk s3 H3 scope ce fp) rfl rfl rfl hc i [] s5 _ H5 (fun _ _ => False) I5 (stat I5 n5) st5 stop) fun r s6 ⟨hr, I6⟩ => ?_
    subst hr
    have I7 : Inv X pins σ H5 s6 := I3.call' (ch := fp) I6.os I6.base I6.hok I6.bare fun b hb => ⟨(f3 b hb).1.2.2.2.1, (f3 b hb).1.2.1, (f3 b hb).1.2.2.2.2.1, (f3 b hb).1.2.2.2.2.2⟩
    have nC : H5 ce.locals = none := I6.free
    obtain ⟨m, hn, _⟩ := I6.loc
    have hn : s6.heap.Ns ce.locals m := hn
    rw [cL] at nC hn
    exact hRR D _ s6 m H5 I7 qq hn (I3.fpOk (Nat.le_refl _) nC)
  · refine thnF (T.item (X.blk s3 H3 scope ce fp) rfl rfl rfl hc i [] s5 _ H5 (fun _ _ => False) I5 (stat I5 n5) st5 go) fun r s6 ⟨u, hr, h6⟩ => ?_
    subst hr
    refine thnF h6 fun _ s7 ⟨x, H7, I7, r7, y7, st7, n7⟩ => ?_
    refine thnF (pg.run _ s7 _ H7 x u _ (I7.pinned (stat I7 n7) (T.obj _ _ st7)) r7 (step x H7 y7)) fun _ s8 ⟨σ8, H8, I8, hw8, q8⟩ => ?_
    refine thnF (pt.run _ s8 σ8 H8 _ I8 q8) fun b s9 ⟨H9, I9, q9⟩ => ?_
    have fin : ∀ {s' : Shared} {H' : Hp}, Inv (X.blk s3 H3 scope ce fp) ([] ++ pinsAt fp s7.heap) σ8 H' s' → Nx H' → ∃ m, m < n ∧ ∃ i H', Inv (X.blk s3 H3 scope ce fp) [] (wipe σ (own.map (·.2))) H' s' ∧ tn i s'.heap ∧ (∀ b ∈ fp, H' b = none) ∧ W i m H' := fun {s' H'} I' nx => by
      obtain ⟨m', hm, w'⟩ := hNx H' nx
      have pin' : ∀ b ∈ fp, ∀ o, s7.heap.get? b = some o → s'.heap.get? b = some o ∧ H' b = none := fun b hb o e =>
        let z := I'.pin (b, o) (List.mem_append_right _ (List.mem_append_right _ (mem_pinsAt hb e)))
        ⟨z.1, z.2.1⟩
      refine ⟨m', hm, i + 1, H', (I'.unpinned (pins := [])).weak (by rw [← hw8, wipe_length]) (fun j v e => ?_), T.keep _ _ _ st7 fun b hb o e => (pin' b hb o e).1, fun b hb => ?_, w'⟩
      · rw [← hw8] at e
        exact (wipe_some e).1
      · obtain ⟨o, e, _⟩ := T.obj _ _ st7 b hb
        exact (pin' b hb o e).2
    cases b with
    | false =>
      simp only [Bool.false_eq_true, if_false] at q9 ⊢
      exact fin I9 q9
    | true =>
      simp only [if_true] at q9 ⊢
      refine thnF (pk.run _ s9 σ8 H9 _ I9 q9) fun z s10 ⟨yk, H10, I10, r10, q10⟩ => ?_
      refine thnF (pe.run _ s10 σ8 H10 _ I10 q10) fun z2 s11 ⟨yv, H11, I11, r11, kvs, k, p, ek, hp, hD11, hz11, nx⟩ => ?_
      subst ek
      obtain rfl : z = Value.ref p := r10
      exact dictSet_T (X := X.blk s3 H3 scope ce fp) hu I11 hD11 hp hz11 r11 fun s12 I12 => fin I12 nx
theorem pe_dcT {X : Cx} {kx vx tg iter : Expr} {ifs : List Expr} {scope : Scope} {own : List (Str × Nat)} {pos : Pos} {wi : TI} {g : TG} {tt : TT} {tk tv : TE} (hu : X.A.units + 1 < cLine) (hc : X.calm = true) (hN : X.N.Nodup) (hi : PI X tg iter wi) (ok : BlkOk X.N X.env.scope scope own)
    (hg : ∀ (s : Shared) (H : Hp) (C : Addr) (cl : List (Str × Addr)) (fp : List Addr), PG (X.blk s H scope (compEnvC scope cl C X.env) fp) tg g) (ht : ∀ (s : Shared) (H : Hp) (C : Addr) (cl : List (Str × Addr)) (fp : List Addr), PTs (X.blk s H scope (compEnvC scope cl C X.env) fp) ifs tt)
    (hk : ∀ (s : Shared) (H : Hp) (C : Addr) (cl : List (Str × Addr)) (fp : List Addr), PE (X.blk s H scope (compEnvC scope cl C X.env) fp) kx tk)
    (he : ∀ (s : Shared) (H : Hp) (C : Addr) (cl : List (Str × Addr)) (fp : List Addr), PE (X.blk s H scope (compEnvC scope cl C X.env) fp) vx tv) (hs : ∀ x, foldedSetIterable iter X.env x = pure x := by intro _; rfl) :
    PE X (.DictComp kx vx [⟨tg, iter, ifs, 0⟩] scope pos) (tDcT wi g tt tk tv (own.map (·.2))) := by
  refine ⟨fun pins s σ H Q I h => ?_⟩
  rw [arm_eval_DictComp]
  refine dcT_core hu hc hN hi ok hg ht hk he hs I h fun D C s' m H' I' q hn f => ⟨m, hn, fun h'' sb => ?_⟩
  obtain ⟨f0, f1, f2, f3, f4, f5⟩ := f
  exact ⟨.ref D, H', I'.turned (t' := s'.toks) (fun b o hb e => (sb.2 b hb).trans e) f0 f1 f3 f4 f5, rfl, q⟩
/-- name = {..} on one line, the name a local -/
theorem ps_setDcT {X : Cx} {i : Nat} {y : Str} {py : Pos} {kx vx tg iter : Expr} {ifs : List Expr} {scope : Scope} {own : List (Str × Nat)} {pos spos : Pos} {wi : TI} {g : TG} {tt : TT} {tk tv : TE} (hy : X.N[i]? = some y) (hyl : X.env.scope.names.lookup y = some .local)
    (hsw : swapsWith (.DictComp kx vx [⟨tg, iter, ifs, 0⟩] scope pos) (some (.Name y py)) spos.line X.env = pure true) (hu : X.A.units + 1 < cLine) (hc : X.calm = true) (hN : X.N.Nodup) (hi : PI X tg iter wi) (ok : BlkOk X.N X.env.scope scope own)
    (hg : ∀ (s : Shared) (H : Hp) (C : Addr) (cl : List (Str × Addr)) (fp : List Addr), PG (X.blk s H scope (compEnvC scope cl C X.env) fp) tg g) (ht : ∀ (s : Shared) (H : Hp) (C : Addr) (cl : List (Str × Addr)) (fp : List Addr), PTs (X.blk s H scope (compEnvC scope cl C X.env) fp) ifs tt)
    (hk : ∀ (s : Shared) (H : Hp) (C : Addr) (cl : List (Str × Addr)) (fp : List Addr), PE (X.blk s H scope (compEnvC scope cl C X.env) fp) kx tk)
    (he : ∀ (s : Shared) (H : Hp) (C : Addr) (cl : List (Str × Addr)) (fp : List Addr), PE (X.blk s H scope (compEnvC scope cl C X.env) fp) vx tv) (hs : ∀ x, foldedSetIterable iter X.env x = pure x := by intro _; rfl) :
    PS X (.Assign [.Name y py] (.DictComp kx vx [⟨tg, iter, ifs, 0⟩] scope pos) spos) (tAsg (tDcT wi g tt tk tv (own.map (·.2))) (gName i)) := by
  refine ⟨fun pins s σ H D I h => ?_⟩
  rw [exec_Assign_Name_used _ _ _ _ hsw]
  refine wpAny_bind (wpAny_standAt (wpAny_bind ?_))
  show wpAny _ X.A (do let _ ← comprehension (.DictComp kx vx [⟨tg, iter, ifs, 0⟩] scope pos) scope X.env (firstIterPos [⟨tg, iter, ifs, 0⟩] pos) newDict false (eval iter X.env) (some (assign (.Name y py) X.env))) _ _ s
  have h : tDcT wi g tt tk tv (own.map (·.2)) σ H (fun x H1 => gName i x σ H1 D.nx) := h
  refine wpAny_bind (thn (dcT_core (Qf := fun _ s' => SP X pins D .next s') hu hc hN hi ok hg ht hk he hs I h fun L C s' m H' I' q hn f => ?_) fun _ s' hq => wpAny_pure (wpAny_pure hq))
  show wpAny _ _ (assign (.Name y py) X.env (.ref L)) _ _ _
  refine wpAny_assign_Name (store_ok2 (v := V.ref L) I' hN hy (.inl hyl) rfl (fun s2 I2 ⟨a, sb, ha⟩ => ?_) (.inr hyl))
  obtain ⟨f0, f1, f2, f3, f4, f5⟩ := f
  have haC : C ≠ a := by
    rcases ha with z | z
    · rw [z]; exact f1
    · exact fun e => f4 y a z e.symm
  refine ⟨m, hn.sameBut sb haC, fun h3 sb3 => ?_⟩
  exact ⟨_, H', I2.turned (t' := s2.toks) (fun b o hb e => (sb3.2 b hb).trans e) f0 f1 f3 f4 f5, q⟩
theorem sw_trueD {kx vx : Expr} {gs : List Comprehension} {scope : Scope} {pos py : Pos} {y : Str} {l : Nat} {env : Env} (hk : env.scope.kind = .function) (hy : env.scope.names.lookup y = some .local) (hl : (py.line == pos.line) = true)
    (ha : (scope.names.any fun (n, k) => n == y && (k == .local || k == .cell)) = false) : swapsWith (.DictComp kx vx gs scope pos) (some (.Name y py)) l env = pure true := by
  have ky : env.kindOf y = some .local := hy
  have hb : env.blockKind = .function := by unfold Env.blockKind; rw [hk]; rfl
  unfold swapsWith
  simp only [hb, ky, ha, Expr.pos, hl]
  rfl
end Ky

namespace Ky
open PySem PySem.Spec PyProof.Rows L2
/-! ### {k for row in rows for x in row}, k a number -/
abbrev sc2 (elt t0 i0 t1 i1 : Expr) (scope : Scope) (pos : Pos) : Expr := .SetComp elt [⟨t0, i0, [], 0⟩, ⟨t1, i1, [], 0⟩] scope pos
theorem turn_out (elt t0 i0 t1 i1 : Expr) (scope : Scope) (pos : Pos) (it acc : Value) (env : Env) : compTurn (sc2 elt t0 i0 t1 i1 scope pos) 0 it acc env = (do
      standAt i0.pos
      match ← pyNext it with
      | none => pure (.done .next)
      | some v =>
        letOwnedTupleGo t0 it v
        assign t0 env v
        let mut ok := true
        for c in ([] : List Expr) do
          if ok then ok ← isTrue c env (eval c env)
        if ok then
          let x ← eval i1 env
          standAt i1.pos
          let x ← foldedSetIterable i1 env x
          let _ ← runOwn (.compStart (sc2 elt t0 i0 t1 i1 scope pos) 1 (← holding [x] (pyIter x)) acc env) env
        again (.compLoop (sc2 elt t0 i0 t1 i1 scope pos) 0 it acc env)) := by rfl
theorem turn_in (elt t0 i0 t1 i1 : Expr) (scope : Scope) (pos : Pos) (it acc : Value) (env : Env) : compTurn (sc2 elt t0 i0 t1 i1 scope pos) 1 it acc env = (do
      standAt i1.pos
      match ← pyNext it with
      | none => pure (.done .next)
      | some v =>
        letOwnedTupleGo t1 it v
        assign t1 env v
        let mut ok := true
        for c in ([] : List Expr) do
          if ok then ok ← isTrue c env (eval c env)
        if ok then
          (do let v ← eval elt env; standAt elt.pos; let _ ← call (.builtin "set.add") [acc, v])
        again (.compLoop (sc2 elt t0 i0 t1 i1 scope pos) 1 it acc env)) := by rfl
section
variable {prog : Program} {w : World} {A : Around} {R : Result → Shared → Prop} {s : Shared} {elt t0 i0 t1 i1 : Expr} {scope : Scope} {pos : Pos} {it acc : Value} {env : Env}
theorem loop_out (hs : ∀ x, foldedSetIterable i1 env x = pure x) (I : Nat → Shared → Prop)
    (turn : ∀ n s, I n s → wpAny (model prog w) A (pyNext it) (fun r s1 => match r with
      | none => R (.ok .next) s1
      | some v => wpAny (model prog w) A (letOwnedTupleGo t0 it v) (fun _ s2 => wpAny (model prog w) A (assign t0 env v) (fun _ s3 => wpAny (model prog w) A (eval i1 env) (fun x s4 => wpAny (model prog w) A (pyIter x) (fun it1 s5 =>
          codeAny (model prog w) A (.compStart (sc2 elt t0 i0 t1 i1 scope pos) 1 it1 acc env) (fun r s' => match r with
            | .ok _ => ∃ m, m < n ∧ I m s'
            | .error _ => False) s5) (fun _ _ => False) s4) (fun _ _ => False) s3) (fun _ _ => False) s2) (fun _ _ => False) s1) (fun _ _ => False) s) (n : Nat) (h : I n s) :
    codeAny (model prog w) A (.compLoop (sc2 elt t0 i0 t1 i1 scope pos) 0 it acc env) R s := by
  refine codeAny_loop rfl I (fun n s hI => ?_) n h
  show wpAny _ A ((compTurn (sc2 elt t0 i0 t1 i1 scope pos) 0 it acc env).onRaise (fun x => do noteFrame x env; theTreesLotGoes x)) _ _ s
  refine wpAny_noted ?_
  rw [turn_out]
  refine wpAny_bind (wpAny_standAt (wpAny_bind (thnF (turn n s hI) fun r s1 h1 => ?_)))
  cases r with
  | none => exact wpAny_pure h1
  | some v =>
    refine wpAny_bind (thnF h1 fun _ s2 h2 => ?_)
    refine wpAny_bind (thnF h2 fun _ s3 h3 => ?_)
    simp only [List.forIn_nil]
    refine wpAny_bind (wpAny_pure ?_)
    simp only [if_true]
    refine wpAny_bind (thnF h3 fun x s4 h4 => ?_)
    refine wpAny_bind (wpAny_standAt (wpAny_bind (wpAny_of_eq (hs x) (wpAny_bind (wpAny_holding (thnF h4 fun it1 s5 h5 => ?_))))))
    refine wpAny_bind (wpAny_runOwn ?_)
    rw [Around.mark_none]
    refine codeAny_mono h5 fun r s' hr => ?_
    cases r with
    | ok f =>
      first
        | exact wpAny_pure ⟨rfl, hr⟩
        | exact wpAny_bind (wpAny_pure (wpAny_pure ⟨rfl, hr⟩))
    | error e => exact hr.elim
theorem loop_in (I : Nat → Shared → Prop)
    (turn : ∀ n s, I n s → wpAny (model prog w) A (pyNext it) (fun r s1 => match r with
      | none => R (.ok .next) s1
      | some v => wpAny (model prog w) A (letOwnedTupleGo t1 it v) (fun _ s2 => wpAny (model prog w) A (assign t1 env v) (fun _ s3 => wpAny (model prog w) A (eval elt env) (fun x s4 =>
          wpAny (model prog w) A (call (.builtin "set.add") [acc, x]) (fun _ s5 => ∃ m, m < n ∧ I m s5) (fun _ _ => False) s4) (fun _ _ => False) s3) (fun _ _ => False) s2) (fun _ _ => False) s1) (fun _ _ => False) s) (n : Nat) (h : I n s) :
    codeAny (model prog w) A (.compLoop (sc2 elt t0 i0 t1 i1 scope pos) 1 it acc env) R s := by
  refine codeAny_loop rfl I (fun n s hI => ?_) n h
  show wpAny _ A ((compTurn (sc2 elt t0 i0 t1 i1 scope pos) 1 it acc env).onRaise (fun x => do noteFrame x env; theTreesLotGoes x)) _ _ s
  refine wpAny_noted ?_
  rw [turn_in]
  refine wpAny_bind (wpAny_standAt (wpAny_bind (thnF (turn n s hI) fun r s1 h1 => ?_)))
  cases r with
  | none => exact wpAny_pure h1
  | some v =>
    refine wpAny_bind (thnF h1 fun _ s2 h2 => ?_)
    refine wpAny_bind (thnF h2 fun _ s3 h3 => ?_)
    simp only [List.forIn_nil]
    refine wpAny_bind (wpAny_pure ?_)
    simp only [if_true]
    exact wpAny_bind (wpAny_bind (thnF h3 fun x s4 h4 => wpAny_bind (wpAny_standAt (wpAny_bind (thnF h4 fun _ s5 h5 => wpAny_pure (wpAny_pure ⟨rfl, h5⟩))))))
theorem start_in (h0 : codeAny (model prog w) A (.compLoop (sc2 elt t0 i0 t1 i1 scope pos) 1 it acc env) R s)
    (h : ∀ (Q : Value → Shared → Prop) (E : Value → Shared → Prop), Q it s → wpAny (model prog w) A (pyIter it) Q E s) : codeAny (model prog w) A (.compStart (sc2 elt t0 i0 t1 i1 scope pos) 1 it acc env) R s := by
  refine codeAny_of_tree ?_
  show wpAny _ _ ((compStart (sc2 elt t0 i0 t1 i1 scope pos) 1 it acc env).onRaise (fun x => do noteFrame x env; standAt theWindowsPlace)) _ _ s
  refine wpAny_notedAt ?_
  unfold compStart
  show wpAny _ _ (ask >>= _) _ _ s
  refine wpAny_bind (wpAny_askSetting (wpAny_ite ?_))
  split
  · first
      | exact wpAny_bind (wpAny_pure (wpAny_pure (And.intro rfl h0)))
      | exact wpAny_pure (And.intro rfl h0)
  · refine wpAny_bind (wpAny_rule ?_)
    show wpAny _ _ (standAt i1.pos >>= _) _ _ s
    exact wpAny_bind (wpAny_standAt (wpAny_bind (h _ _ (wpAny_pure (And.intro rfl h0)))))
end
section
variable {X : Cx} {pins : List (Addr × Obj)} {σ : L2.St} {H : Hp} {s : Shared}
theorem sadd_ok {E : Value → Shared → Prop} {a : Addr} {k : Int} {u : Value} {S : Int → Bool} {n : Nat} {Q : Value → Shared → Prop} (I : Inv X pins σ H s) (ha : H a = some (SetO X.w a S n)) (room : n + 1 < scanBound) (r : RelV (.int k) u)
    (h : ∀ s', Inv X pins σ (upd H a (SetO X.w a (fun j => S j || decide (j = k)) (if S k = true then n else n + 1))) s' → Q .none s') : wpAny (model X.prog X.w) X.A (call (.builtin "set.add") [.ref a, u]) Q E s := by
  obtain ⟨tk, rfl⟩ := r
  refine setR_add (setO_get I ha) room fun h' sb new => ?_
  have he : ∃ u, h'.get? a = some u := by
    have ⟨o, _, _, _, ho, _⟩ := new
    exact ⟨o, ho⟩
  exact h _ (I.write (e := a) (t' := s.toks + 1) (by rw [ha]; trivial) (.inl rfl) (fun b u hb hu => (sb.2 b hb).trans hu) he (setO_new new))
/-- its reading: for each item of the outer walk the inner walk -/
def tSc2 (w : World) (wi : TI) (g : TG) (wi1 : TI) (g1 : TG) (te : TE) (vs vs1 : List Nat) : TE := fun σ H Q => wi σ H fun J H1 => ∀ D, H1 D = none → ∃ W : Nat → Nat → Hp → Prop, (∃ m, W 0 m (upd H1 D (SetO w D (fun _ => false) 0))) ∧ ∀ i m H, W i m H →
  (J.stop i H ∧ Q (.ref D) H) ∨ (J.go i H ∧ ∃ Nx : Hp → Prop, (∀ H', Nx H' → ∃ m', m' < m ∧ W (i + 1) m' H') ∧ ∀ x H', J.yld i H x H' → g x (wipe σ vs) H' fun σ2 H2 => wipe σ2 vs = wipe σ vs ∧
    wi1 σ2 H2 fun J1 H4 => ∃ W1 : Nat → Nat → Hp → Prop, (∃ m, W1 0 m H4) ∧ ∀ j k H, W1 j k H →
      (J1.stop j H ∧ Nx H) ∨ (J1.go j H ∧ ∃ Nx1 : Hp → Prop, (∀ H', Nx1 H' → ∃ k', k' < k ∧ W1 (j + 1) k' H') ∧ ∀ x H', J1.yld j H x H' → g1 x (wipe σ2 vs1) H' fun σ3 H5 => wipe σ3 vs1 = wipe σ2 vs1 ∧
        te σ3 H5 fun y H7 => ∃ (c : Int) (S : Int → Bool) (n : Nat), y = .int c ∧ H7 D = some (SetO w D S n) ∧ n + 1 < scanBound ∧ Nx1 (upd H7 D (SetO w D (fun j => S j || decide (j = c)) (if S c = true then n else n + 1)))))
theorem pe_sc2 {elt tg iter tg1 iter1 : Expr} {scope : Scope} {own : List (Str × Nat)} {vs1 : List Nat} {pos : Pos} {wi wi1 : TI} {g g1 : TG} {te : TE} (hc : X.calm = true) (hN : X.N.Nodup) (hi : PI X tg iter wi) (ok : BlkOk X.N X.env.scope scope own) (hv : ∀ i ∈ vs1, i ∈ own.map (·.2))
    (hg : ∀ (s : Shared) (H : Hp) (C : Addr) (cl : List (Str × Addr)) (fp : List Addr), PG (X.blk s H scope (compEnvC scope cl C X.env) fp) tg g)
    (hi1 : ∀ (s : Shared) (H : Hp) (C : Addr) (cl : List (Str × Addr)) (fp : List Addr), PI (X.blk s H scope (compEnvC scope cl C X.env) fp) tg1 iter1 wi1)
    (hg1 : ∀ (s : Shared) (H : Hp) (C : Addr) (cl : List (Str × Addr)) (fp : List Addr), PG (X.blk s H scope (compEnvC scope cl C X.env) fp) tg1 g1)
    (he : ∀ (s : Shared) (H : Hp) (C : Addr) (cl : List (Str × Addr)) (fp : List Addr), PE (X.blk s H scope (compEnvC scope cl C X.env) fp) elt te) (hs : ∀ x, foldedSetIterable iter X.env x = pure x := by intro _; rfl) (hs1 : ∀ env x, foldedSetIterable iter1 env x = pure x := by intro _ _; rfl) :
    PE X (sc2 elt tg iter tg1 iter1 scope pos) (tSc2 X.w wi g wi1 g1 te (own.map (·.2)) vs1) := by
  refine ⟨fun pins s σ H Q I h => ?_⟩
  rw [PpSet.eval_SetComp]
  have hfree : ∀ y ∈ scope.names, y.2 = .free → ∃ c, X.env.cells.lookup y.1 = some c := fun y hy e => (ok.free y hy e).elim (fun k => I.ok.has _ (.inl k)) fun k => I.ok.has _ (.inr k)
  refine wpAny_comprehension_free rfl hs (closure_ok hfree) ok.kind (fun y hy e => by rw [ok.uniq y hy, e]) (thn (hi.run pins s σ H _ I h) fun xv s1 hx => thn hx fun itv s2 h2 => ?_)
  obtain ⟨it, fp, tn, J, H2, rfl, I2, T, st2, f2, q⟩ := h2
  refine PpSet.newSet_ok (newEnv_comp ?_)
  have hDn : H2 s2.heap.objs.size = none := I2.hok.fresh (Nat.le_refl _)
  obtain ⟨W, ⟨m0, w0⟩, turn⟩ := q _ hDn
  generalize hob : ({ cls := .type "set", dict := none, data := .set #[] 0 (.fresh 0 0 (!X.w.params.followText "set-order")) } : Obj) = ob
  have I3 : Inv X pins σ (upd H2 s2.heap.objs.size (SetO X.w s2.heap.objs.size (fun _ => false) 0)) { s2 with heap := s2.heap.push ob, toks := s2.toks } := I2.laid (fun b o e => Heap.get?_push_of_some _ e) (Nat.le_refl _) (setO_new (by rw [← hob]; exact setR_fresh X.w))
  have sz : ∀ b ∈ fp, b < s2.heap.objs.size := fun b hb => let ⟨_, e, _⟩ := T.obj _ _ st2 b hb; Heap.lt_size e
  have st3 : tn 0 (s2.heap.push ob) := T.keep _ _ _ st2 fun b _ o e => Heap.get?_push_of_some _ e
  have f3 : ∀ b ∈ fp, FpOk X pins (upd H2 s2.heap.objs.size (SetO X.w s2.heap.objs.size (fun _ => false) 0)) b ∧ b < (s2.heap.push ob).objs.size := fun b hb => by
    refine ⟨⟨?_, (f2 b hb).2⟩, by rw [Heap.size_push]; exact Nat.lt_succ_of_lt (sz b hb)⟩
    rw [upd_ne (Nat.ne_of_lt (sz b hb))]
    exact (f2 b hb).1
  generalize s2.heap.objs.size = D at hDn turn w0 I3 f3 ⊢
  generalize hH3 : upd H2 D (SetO X.w D (fun _ => false) 0) = H3 at I3 w0 f3
  generalize hs3 : ({ s2 with heap := s2.heap.push ob, toks := s2.toks } : Shared) = s3 at I3 ⊢
  have h3 : s3.heap = s2.heap.push ob := by rw [← hs3]
  rw [← h3] at st3
  have f3 : ∀ b ∈ fp, FpOk X pins H3 b ∧ b < s3.heap.objs.size := fun b hb => by rw [h3]; exact f3 b hb
  have I4 := block_start I3 ok hN f3
  have pg := hg s3 H3 s3.heap.objs.size (cellsFrom (s3.heap.objs.size + 1) scope.names (cloFrom X.env.cells scope.names [])) fp
  have pi1 := hi1 s3 H3 s3.heap.objs.size (cellsFrom (s3.heap.objs.size + 1) scope.names (cloFrom X.env.cells scope.names [])) fp
  have pg1 := hg1 s3 H3 s3.heap.objs.size (cellsFrom (s3.heap.objs.size + 1) scope.names (cloFrom X.env.cells scope.names [])) fp
  have pe := he s3 H3 s3.heap.objs.size (cellsFrom (s3.heap.objs.size + 1) scope.names (cloFrom X.env.cells scope.names [])) fp
  have nfp : ∀ b ∈ fp, H3 b = none := fun b hb => (f3 b hb).1.1
  show codeAny _ _ (.compStart (sc2 elt tg iter tg1 iter1 scope pos) 0 (.ref it) (.ref D) (compEnvC scope (cellsFrom (s3.heap.objs.size + 1) scope.names (cloFrom X.env.cells scope.names [])) s3.heap.objs.size X.env)) _ { s3 with heap := pushCells (s3.heap.push { cls := .type "dict", data := .dict #[] }) scope.names }
  have cL : (compEnvC scope (cellsFrom (s3.heap.objs.size + 1) scope.names (cloFrom X.env.cells scope.names [])) s3.heap.objs.size X.env).locals = s3.heap.objs.size := rfl
  generalize compEnvC scope (cellsFrom (s3.heap.objs.size + 1) scope.names (cloFrom X.env.cells scope.names [])) s3.heap.objs.size X.env = ce at I4 pg pi1 pg1 pe cL ⊢
  have st4 : tn 0 (pushCells (s3.heap.push { cls := .type "dict", data := .dict #[] }) scope.names) := T.keep _ _ _ st3 fun b _ o e => pushCells_keeps _ _ _ _ (Heap.get?_push_of_some _ e)
  generalize hs4 : ({ s3 with heap := pushCells (s3.heap.push { cls := .type "dict", data := .dict #[] }) scope.names } : Shared) = s4 at I4 ⊢
  have st4 : tn 0 s4.heap := by rw [← hs4]; exact st4
  have stat : ∀ {σ' : L2.St} {H' : Hp} {s' : Shared}, Inv (X.blk s3 H3 scope ce fp) [] σ' H' s' → (∀ b ∈ fp, H' b = none) → ∀ b ∈ fp, FpOk (X.blk s3 H3 scope ce fp) [] H' b := fun {σ' H' s'} I' hn b hb =>
    ⟨hn b hb, (I'.ok.exf b hb).1, I'.ok.exfs b hb, .inl hb, fun x c e => (I'.ok.exf b hb).2 x c e, fun p hp => absurd (show p ∈ ([] : List (Addr × Obj)) ++ [] from hp) (by simp)⟩
  refine PpSet.codeAny_compStart_set ?loop (T.self X.A 0 _ _ _ st4 ?loop)
  refine loop_out (hs1 ce) (fun n s' => ∃ i H', Inv (X.blk s3 H3 scope ce fp) [] (wipe σ (own.map (·.2))) H' s' ∧ tn i s'.heap ∧ (∀ b ∈ fp, H' b = none) ∧ W i n H') ?_ m0 ⟨0, H3, I4, st4, nfp, w0⟩
  rintro n s5 ⟨i, H5, I5, st5, n5, w5⟩
  rcases turn i n H5 w5 with ⟨stop, qq⟩ | ⟨go, Nx, hNx, step⟩
  · refine thnF (T.done (X.blk s3 H3 scope ce fp) rfl rfl rfl hc i [] s5 _ H5 (fun _ _ => False) I5 (stat I5 n5) st5 stop) fun r s6 ⟨hr, I6⟩ => ?_
    subst hr
    have I7 : Inv X pins σ H5 s6 := I3.call' (ch := fp) I6.os I6.base I6.hok I6.bare fun b hb => ⟨(f3 b hb).1.2.2.2.1, (f3 b hb).1.2.1, (f3 b hb).1.2.2.2.2.1, (f3 b hb).1.2.2.2.2.2⟩
    have nC : H5 ce.locals = none := I6.free
    obtain ⟨m, hn, _⟩ := I6.loc
    have hn : s6.heap.Ns ce.locals m := hn
    rw [cL] at nC hn
    obtain ⟨f0, f1, f2, f3, f4, f5⟩ := I3.fpOk (Nat.le_refl _) nC
    exact ⟨m, hn, fun h'' sb => ⟨.ref D, H5, I7.turned (t' := s6.toks) (fun b o hb e => (sb.2 b hb).trans e) f0 f1 f3 f4 f5, rfl, qq⟩⟩
  · refine thnF (T.item (X.blk s3 H3 scope ce fp) rfl rfl rfl hc i [] s5 _ H5 (fun _ _ => False) I5 (stat I5 n5) st5 go) fun r s6 ⟨u, hr, h6⟩ => ?_
    subst hr
    refine thnF h6 fun _ s7 ⟨x, H7, I7, r7, y7, st7, n7⟩ => ?_
    refine thnF (pg.run _ s7 _ H7 x u _ (I7.pinned (stat I7 n7) (T.obj _ _ st7)) r7 (step x H7 y7)) fun _ s8 ⟨σ8, H8, I8, hw8, q8⟩ => ?_
    refine thnF (pi1.run _ s8 σ8 H8 _ I8 q8) fun xv s10 hx => thnF hx fun itv s11 h11 => ?_
    obtain ⟨it1, fp1, tn1, J1, H11, rfl, I11, T1, st11, f11, W1, ⟨m1, w1⟩, turn1⟩ := h11
    have fin : ∀ {σ9 : L2.St} {s' : Shared} {H' : Hp}, Inv (X.blk s3 H3 scope ce fp) ([] ++ pinsAt fp s7.heap) σ9 H' s' → (wipe σ (own.map (·.2))).length = σ9.length → (∀ (j : Nat) v, (wipe σ (own.map (·.2)))[j]? = some (some v) → σ9[j]? = some (some v)) → Nx H' →
        ∃ m, m < n ∧ ∃ i H', Inv (X.blk s3 H3 scope ce fp) [] (wipe σ (own.map (·.2))) H' s' ∧ tn i s'.heap ∧ (∀ b ∈ fp, H' b = none) ∧ W i m H' := fun {σ9 s' H'} I' hl hk nx => by
      obtain ⟨m', hm, w'⟩ := hNx H' nx
      have pin' : ∀ b ∈ fp, ∀ o, s7.heap.get? b = some o → s'.heap.get? b = some o ∧ H' b = none := fun b hb o e =>
        let z := I'.pin (b, o) (List.mem_append_right _ (List.mem_append_right _ (mem_pinsAt hb e)))
        ⟨z.1, z.2.1⟩
      refine ⟨m', hm, i + 1, H', (I'.unpinned (pins := [])).weak hl hk, T.keep _ _ _ st7 fun b hb o e => (pin' b hb o e).1, fun b hb => ?_, w'⟩
      obtain ⟨o, e, _⟩ := T.obj _ _ st7 b hb
      exact (pin' b hb o e).2
    have hl8 : (wipe σ (own.map (·.2))).length = σ8.length := by rw [← hw8, wipe_length]
    have hk9 : ∀ (j : Nat) v, (wipe σ (own.map (·.2)))[j]? = some (some v) → (wipe σ8 vs1)[j]? = some (some v) := fun j v e => by
      rw [← hw8] at e
      obtain ⟨e1, e2⟩ := wipe_some e
      rw [wipe_out fun z => e2 (hv j z)]
      exact e1
    have stat1 : ∀ {H' : Hp}, (∀ b ∈ fp1, H' b = none) → ∀ b ∈ fp1, FpOk (X.blk s3 H3 scope ce fp) ([] ++ pinsAt fp s7.heap) H' b := fun hn b hb => ⟨hn b hb, (f11 b hb).2⟩
    refine start_in ?inner fun Q' E' hq => T1.self X.A 0 _ _ _ st11 hq
    refine loop_in (fun k s' => ∃ j H', Inv (X.blk s3 H3 scope ce fp) ([] ++ pinsAt fp s7.heap) (wipe σ8 vs1) H' s' ∧ tn1 j s'.heap ∧ (∀ b ∈ fp1, H' b = none) ∧ W1 j k H') ?_ m1 ⟨0, H11, I11.weak (wipe_length _ _) (fun j v e => (wipe_some e).1), st11, fun b hb => (f11 b hb).1, w1⟩
    rintro k s12 ⟨j, H12, I12, st12, n12, w12⟩
    rcases turn1 j k H12 w12 with ⟨stop1, nx1⟩ | ⟨go1, Nx1, hNx1, step1⟩
    · refine thnF (T1.done (X.blk s3 H3 scope ce fp) rfl rfl rfl hc j _ s12 (wipe σ8 vs1) H12 (fun _ _ => False) I12 (stat1 n12) st12 stop1) fun r s13 ⟨hr, I13⟩ => ?_
      subst hr
      exact fin I13 (hl8.trans (wipe_length σ8 vs1).symm) hk9 nx1
    · refine thnF (T1.item (X.blk s3 H3 scope ce fp) rfl rfl rfl hc j _ s12 (wipe σ8 vs1) H12 (fun _ _ => False) I12 (stat1 n12) st12 go1) fun r s13 ⟨u1, hr, h13⟩ => ?_
      subst hr
      refine thnF h13 fun _ s14 ⟨x1, H14, I14, r14, y14, st14, n14⟩ => ?_
      refine thnF (pg1.run _ s14 (wipe σ8 vs1) H14 x1 u1 _ (I14.pinned (stat1 n14) (T1.obj _ _ st14)) r14 (step1 x1 H14 y14)) fun _ s15 ⟨σ15, H15, I15, hw15, q15⟩ => ?_
      refine thnF (pe.run _ s15 σ15 H15 _ I15 q15) fun z s17 ⟨yv, H17, I17, r17, c, S, nn, ey, hD17, hz17, nx⟩ => ?_
      subst ey
      refine sadd_ok (X := X.blk s3 H3 scope ce fp) I17 hD17 hz17 r17 fun s18 I18 => ?_
      obtain ⟨m', hm, w'⟩ := hNx1 _ nx
      have pin' : ∀ b ∈ fp1, ∀ o, s14.heap.get? b = some o → s18.heap.get? b = some o ∧ _ := fun b hb o e =>
        let z := I18.pin (b, o) (List.mem_append_right _ (List.mem_append_right _ (mem_pinsAt hb e)))
        ⟨z.1, z.2.1⟩
      refine ⟨m', hm, j + 1, _, I18.unpinned.weak (by rw [← hw15, wipe_length]) (fun i v e => by rw [← hw15] at e; exact (wipe_some e).1), T1.keep _ _ _ st14 fun b hb o e => (pin' b hb o e).1, fun b hb => ?_, w'⟩
      obtain ⟨o, e, _⟩ := T1.obj _ _ st14 b hb
      exact (pin' b hb o e).2
end
end Ky

namespace Ky
open PySem PySem.Spec PyProof.Rows L2
def topS (i : Nat) : Stmt := PySem.Challenge.pw_countsworn_k08_plain_values_as_bytes.main.body.getD i (.Pass ⟨0, 0, 0, 0⟩)
abbrev s_is_whole : Stmt := topS 1
abbrev n_is_whole : List Str := ["value"]
theorem sc_is_whole : FnScope n_is_whole ["value"] (defScope s_is_whole) := ⟨rfl, rfl, rfl, by decide +kernel, rfl, by decide +kernel, by decide +kernel⟩
abbrev s_size_bytes : Stmt := topS 16
abbrev n_size_bytes : List Str := ["n", "found"]
theorem sc_size_bytes : FnScope n_size_bytes ["n"] (defScope s_size_bytes) := ⟨rfl, rfl, rfl, by decide +kernel, rfl, by decide +kernel, by decide +kernel⟩
abbrev s_is_text : Stmt := topS 17
abbrev n_is_text : List Str := ["value", "sign"]
theorem sc_is_text : FnScope n_is_text ["value"] (defScope s_is_text) := ⟨rfl, rfl, rfl, by decide +kernel, rfl, by decide +kernel, by decide +kernel⟩
abbrev s_leaf_bytes : Stmt := topS 18
abbrev n_leaf_bytes : List Str := ["value", "sign"]
theorem sc_leaf_bytes : FnScope n_leaf_bytes ["value"] (defScope s_leaf_bytes) := ⟨rfl, rfl, rfl, by decide +kernel, rfl, by decide +kernel, by decide +kernel⟩
abbrev s_pack : Stmt := topS 19
abbrev n_pack : List Str := ["value", "found", "waiting", "item", "depth", "part"]
theorem sc_pack : FnScope n_pack ["value"] (defScope s_pack) := ⟨rfl, rfl, rfl, by decide +kernel, rfl, by decide +kernel, by decide +kernel⟩
abbrev s_un_init : Stmt := inClass (topS 20) 0
abbrev n_un_init : List Str := ["self", "data"]
theorem sc_un_init : FnScope n_un_init ["self", "data"] (defScope s_un_init) := ⟨rfl, rfl, rfl, by decide +kernel, rfl, by decide +kernel, by decide +kernel⟩
abbrev s_un_step : Stmt := inClass (topS 20) 1
abbrev n_un_step : List Str := ["self", "least", "greatest", "byte"]
theorem sc_un_step : FnScope n_un_step ["self", "least", "greatest"] (defScope s_un_step) := ⟨rfl, rfl, rfl, by decide +kernel, rfl, by decide +kernel, by decide +kernel⟩
abbrev s_un_size : Stmt := inClass (topS 20) 2
abbrev n_un_size : List Str := ["self", "digits", "byte", "found", "digit"]
theorem sc_un_size : FnScope n_un_size ["self"] (defScope s_un_size) := ⟨rfl, rfl, rfl, by decide +kernel, rfl, by decide +kernel, by decide +kernel⟩
abbrev s_un_letters : Stmt := inClass (topS 20) 3
abbrev n_un_letters : List Str := ["self", "many", "signs"]
theorem sc_un_letters : FnScope n_un_letters ["self"] (defScope s_un_letters) := ⟨rfl, rfl, rfl, by decide +kernel, rfl, by decide +kernel, by decide +kernel⟩
abbrev s_un_leaf : Stmt := inClass (topS 20) 4
abbrev n_un_leaf : List Str := ["self", "kind"]
theorem sc_un_leaf : FnScope n_un_leaf ["self", "kind"] (defScope s_un_leaf) := ⟨rfl, rfl, rfl, by decide +kernel, rfl, by decide +kernel, by decide +kernel⟩
abbrev s_op_init : Stmt := inClass (topS 21) 0
abbrev n_op_init : List Str := ["self", "many"]
theorem sc_op_init : FnScope n_op_init ["self", "many"] (defScope s_op_init) := ⟨rfl, rfl, rfl, by decide +kernel, rfl, by decide +kernel, by decide +kernel⟩
abbrev s_read_item : Stmt := topS 22
abbrev n_read_item : List Str := ["reading", "opened", "deepest", "kind"]
theorem sc_read_item : FnScope n_read_item ["reading", "opened"] (defScope s_read_item) := ⟨rfl, rfl, rfl, by decide +kernel, rfl, by decide +kernel, by decide +kernel⟩
abbrev s_unpack : Stmt := topS 23
abbrev n_unpack : List Str := ["data", "reading", "outer", "opened", "last"]
theorem sc_unpack : FnScope n_unpack ["data"] (defScope s_unpack) := ⟨rfl, rfl, rfl, by decide +kernel, rfl, by decide +kernel, by decide +kernel⟩
abbrev s_l_draw : Stmt := topS 25
abbrev n_l_draw : List Str := ["script", "seed", "cell"]
theorem sc_l_draw : FnScope n_l_draw ["script"] (defScope s_l_draw) := ⟨rfl, rfl, rfl, by decide +kernel, rfl, by decide +kernel, by decide +kernel⟩
abbrev s_l_take : Stmt := topS 26
abbrev n_l_take : List Str := ["draw", "many", "found"]
theorem sc_l_take : FnScope n_l_take ["draw", "many"] (defScope s_l_take) := ⟨rfl, rfl, rfl, by decide +kernel, rfl, by decide +kernel, by decide +kernel⟩
abbrev s_l_value : Stmt := topS 40
abbrev n_l_value : List Str := ["draw", "depth", "k", "j"]
theorem sc_l_value : FnScope n_l_value ["draw", "depth"] (defScope s_l_value) := ⟨rfl, rfl, rfl, by decide +kernel, rfl, by decide +kernel, by decide +kernel⟩
abbrev s_l_size : Stmt := topS 41
abbrev n_l_size : List Str := ["n", "found"]
theorem sc_l_size : FnScope n_l_size ["n"] (defScope s_l_size) := ⟨rfl, rfl, rfl, by decide +kernel, rfl, by decide +kernel, by decide +kernel⟩
abbrev s_l_packed : Stmt := topS 42
abbrev n_l_packed : List Str := ["value", "codes", "sign", "found", "part"]
theorem sc_l_packed : FnScope n_l_packed ["value"] (defScope s_l_packed) := ⟨rfl, rfl, rfl, by decide +kernel, rfl, by decide +kernel, by decide +kernel⟩
abbrev s_l_told : Stmt := topS 43
abbrev n_l_told : List Str := ["data", "error"]
theorem sc_l_told : FnScope n_l_told ["data"] (defScope s_l_told) := ⟨rfl, rfl, rfl, by decide +kernel, rfl, by decide +kernel, by decide +kernel⟩
abbrev s_law : Stmt := topS 44
abbrev n_law : List Str := ["script", "draw", "value", "data", "j", "at", "k", "bent", "good", "told", "bad", "error"]
theorem sc_law : FnScope n_law ["script"] (defScope s_law) := ⟨rfl, rfl, rfl, by decide +kernel, rfl, by decide +kernel, by decide +kernel⟩
end Ky

namespace Ky
open PySem PySem.Spec PyProof.Rows L2
theorem _root_.L2.Room.u1 {k : Nat} {A : Around} (r : Room k A) : A.units + 1 < cLine := by have := r.un; omega
theorem _root_.L2.Room.u65 {k : Nat} {A : Around} (r : Room k A) : A.units + 65 < cLine := by have := r.un; omega
theorem wipe_one {σ : L2.St} {j : Nat} {x : Option V} : wipe ((wipe σ [j]).set j x) [j] = wipe σ [j] := by
  simp [wipe, List.set_set]
/-- all or any, walked -/
theorem g_walk {J : It} {n : Nat} {xv : Nat → V} {te : TE} {σ : L2.St} {j : Nat} {H0 : Hp} {cont : Bool} {Q : VK} (bf : Nat → Bool) (Hs : Hp → Prop) (h0 : Hs H0) (hgo : ∀ i H, i < n → Hs H → J.go i H) (hy : ∀ i H x H', i < n → Hs H → J.yld i H x H' → H' = H ∧ x = xv i)
    (hstop : ∀ H, Hs H → J.stop n H) (step : ∀ i H (k : VK), i < n → Hs H → (∀ H', Hs H' → k (.bl (bf i)) H') → te ((wipe σ [j]).set j (some (xv i))) H k)
    (fin : ∀ H, Hs H → Q (.bl (if cont = true then (List.range n).all bf else (List.range n).any bf)) H) : ∃ W : Nat → Nat → Hp → Prop, (∃ m, W 0 m H0) ∧ GTurn J (gName j) te (wipe σ [j]) [j] Q cont W := by
  refine ⟨fun i m H => m = n - i ∧ i ≤ n ∧ Hs H ∧ ∀ k, k < i → bf k = cont, ⟨n, by simp, Nat.zero_le _, h0, fun k hk => absurd hk (Nat.not_lt_zero _)⟩, ?_⟩
  rintro i m H ⟨rfl, hi, hs, hb⟩
  by_cases hlt : i < n
  · refine .inr ⟨hgo i H hlt hs, fun x H' y => ?_⟩
    obtain ⟨rfl, rfl⟩ := hy i H x H' hlt hs y
    refine ⟨wipe_one, step i H' _ hlt hs fun H2 hs2 => ⟨bf i, rfl, ?_⟩⟩
    by_cases hc : bf i = cont
    · rw [if_pos hc]
      refine ⟨n - (i + 1), by omega, rfl, hlt, hs2, fun k hk => ?_⟩
      by_cases e : k = i
      · rw [e]; exact hc
      · exact hb k (by omega)
    · rw [if_neg hc]
      have q := fin H2 hs2
      have hn := not_of_ne hc
      have e : (if cont = true then (List.range n).all bf else (List.range n).any bf) = !cont := by
        cases cont with
        | true =>
          rw [if_pos rfl]
          refine Bool.eq_false_iff.mpr fun z => ?_
          rw [List.all_eq_true.mp z i (List.mem_range.mpr hlt)] at hn
          cases hn
        | false =>
          rw [if_neg Bool.false_ne_true]
          exact List.any_eq_true.mpr ⟨i, List.mem_range.mpr hlt, hn⟩
      rw [e] at q
      exact q
  · have ei : i = n := by omega
    subst ei
    refine .inl ⟨hstop H hs, ?_⟩
    have q := fin H hs
    have e : (if cont = true then (List.range i).all bf else (List.range i).any bf) = cont := by
      cases cont with
      | true =>
        rw [if_pos rfl]
        exact List.all_eq_true.mpr fun k hk => hb k (List.mem_range.mp hk)
      | false =>
        rw [if_neg Bool.false_ne_true]
        refine Bool.eq_false_iff.mpr fun z => ?_
        obtain ⟨k, hk, hk2⟩ := List.any_eq_true.mp z
        rw [hb k (List.mem_range.mp hk)] at hk2
        cases hk2
    rw [e] at q
    exact q
theorem g_range {lo : Int} {n : Nat} {te : TE} {σ : L2.St} {j : Nat} {H0 : Hp} {cont : Bool} {Q : VK} (bf : Nat → Bool) (Hs : Hp → Prop) (h0 : Hs H0)
    (step : ∀ i H (k : VK), i < n → Hs H → (∀ H', Hs H' → k (.bl (bf i)) H') → te ((wipe σ [j]).set j (some (.int (lo + i)))) H k)
    (fin : ∀ H, Hs H → Q (.bl (if cont = true then (List.range n).all bf else (List.range n).any bf)) H) : ∃ W : Nat → Nat → Hp → Prop, (∃ m, W 0 m H0) ∧ GTurn (Itr lo n) (gName j) te (wipe σ [j]) [j] Q cont W :=
  g_walk (xv := fun i => .int (lo + i)) bf Hs h0 (fun i H h _ => h) (fun i H x H' _ _ h => h) (fun H _ => Nat.le_refl n) step fin
theorem g_list {K : PySem.W.Frag} {a : Addr} {xs : List V} {te : TE} {σ : L2.St} {j : Nat} {H0 : Hp} {cont : Bool} {Q : VK} (bf : Nat → Bool) (Hs : Hp → Prop) (h0 : Hs H0) (hl : ∀ H, Hs H → SqL K H a xs)
    (step : ∀ i x H (k : VK), xs[i]? = some x → Hs H → (∀ H', Hs H' → k (.bl (bf i)) H') → te ((wipe σ [j]).set j (some x)) H k)
    (fin : ∀ H, Hs H → Q (.bl (if cont = true then (List.range xs.length).all bf else (List.range xs.length).any bf)) H) : ∃ W : Nat → Nat → Hp → Prop, (∃ m, W 0 m H0) ∧ GTurn (Itl K a) (gName j) te (wipe σ [j]) [j] Q cont W :=
  g_walk (xv := fun i => xs.getD i .non) bf Hs h0 (fun i H h hs => ⟨xs, xs[i], hl H hs, List.getElem?_eq_getElem h⟩) (fun i H x H' h hs q => by
    obtain ⟨e, q⟩ := q
    subst e
    refine ⟨rfl, ?_⟩
    rw [List.getD_eq_getElem?_getD, q xs (hl _ hs)] <;> rfl) (fun H hs => ⟨xs, hl H hs, Nat.le_refl _⟩) (fun i H k h hs hk => step i _ H k (by rw [List.getD_eq_getElem?_getD, List.getElem?_eq_getElem h] <;> rfl) hs hk) fin
theorem g_tup {K : PySem.W.Frag} {a : Addr} {xs : List V} {te : TE} {σ : L2.St} {j : Nat} {H0 : Hp} {cont : Bool} {Q : VK} (bf : Nat → Bool) (Hs : Hp → Prop) (h0 : Hs H0) (hl : ∀ H, Hs H → SqT K H a xs)
    (step : ∀ i x H (k : VK), xs[i]? = some x → Hs H → (∀ H', Hs H' → k (.bl (bf i)) H') → te ((wipe σ [j]).set j (some x)) H k)
    (fin : ∀ H, Hs H → Q (.bl (if cont = true then (List.range xs.length).all bf else (List.range xs.length).any bf)) H) : ∃ W : Nat → Nat → Hp → Prop, (∃ m, W 0 m H0) ∧ GTurn (Itt K a) (gName j) te (wipe σ [j]) [j] Q cont W :=
  g_walk (xv := fun i => xs.getD i .non) bf Hs h0 (fun i H h hs => ⟨xs, xs[i], hl H hs, List.getElem?_eq_getElem h⟩) (fun i H x H' h hs q => by
    obtain ⟨e, q⟩ := q
    subst e
    refine ⟨rfl, ?_⟩
    rw [List.getD_eq_getElem?_getD, q xs (hl _ hs)] <;> rfl) (fun H hs => ⟨xs, hl H hs, Nat.le_refl _⟩) (fun i H k h hs hk => step i _ H k (by rw [List.getD_eq_getElem?_getD, List.getElem?_eq_getElem h] <;> rfl) hs hk) fin
/-! ### more steps of a reading -/
section
variable {σ : L2.St} {H : Hp} {Q : VK} {ta tb tc td : TE} {K : PySem.W.Frag} {x y : V}
theorem w_chain {r r' : R2} (q : ta σ H fun x H1 => tb σ H1 fun y H2 => r x y H2 fun z H3 => ∃ k, z = .bl k ∧ (if k = true then tc σ H3 fun w' H4 => r' y w' H4 Q else Q (.bl false) H3)) : tChain r r' ta tb tc σ H Q := q
theorem w_isi_ii {n : Int} (q : Q (.bl true) H) : rIsi K [.int n, .ty "int"] H Q := ⟨_, _, _, _, true, rfl, .ty _, .base (.int n), kit_ty (by decide +kernel), q⟩
theorem w_isi_ib {n : Int} (q : Q (.bl false) H) : rIsi K [.int n, .ty "bool"] H Q := ⟨_, _, _, _, false, rfl, .ty _, .base (.int n), kit_ty (by decide +kernel), q⟩
theorem w_isi_it {n : Int} (q : Q (.bl false) H) : rIsi K [.int n, .ty "tuple"] H Q := ⟨_, _, _, _, false, rfl, .ty _, .base (.int n), kit_ty (by decide +kernel), q⟩
theorem w_isi_st {z : Str} (q : Q (.bl false) H) : rIsi K [.str z, .ty "tuple"] H Q := ⟨_, _, _, _, false, rfl, .ty _, .base (.str z), kit_ty (by decide +kernel), q⟩
theorem w_isi_tt {a : Addr} {xs : List V} (h : H a = some (.tup xs)) (q : Q (.bl true) H) : rIsi K [.ref a, .ty "tuple"] H Q := ⟨_, _, _, _, true, rfl, .ty _, .base (.tup h), kit_ty (by decide +kernel), q⟩
theorem w_gRd {P0 : Addr} {wi : TI} {g : TG} {vs : List Nat} {cont : Bool} (q : wi σ H fun J H1 => GxR.TabG H1 P0 ∧ ∀ H2, GxR.Tabbed P0 H1 H2 → ∃ W : Nat → Nat → Hp → Prop, (∃ m, W 0 m H2) ∧ GTurn J g ta (wipe σ vs) vs Q cont W) : gRd P0 wi g ta vs cont σ H Q := q
theorem w_andV (q : ta σ H fun x H1 => ∃ c, x = .bl c ∧ if c = true then tb σ H1 Q else Q (.bl false) H1) : tAndV ta tb σ H Q := q
theorem w_orV (q : ta σ H fun x H1 => ∃ c, x = .bl c ∧ if c = true then Q (.bl true) H1 else tb σ H1 Q) : tOrV ta tb σ H Q := q
theorem w_notV (q : ta σ H fun x H1 => ∃ c, x = .bl c ∧ Q (.bl (!c)) H1) : tNotV ta σ H Q := q
theorem w_din {ty : TE} (q : ty σ H fun y H1 => td σ H1 fun x H2 => ∃ a o, x = .ref a ∧ DGet H2 a y o ∧ Q (.bl o.isSome) H2) : tDIn ty td σ H Q := q
end
/-! ### the rules with the fragment told: inside a block or a generator's frame the context's own letter may not be left -/
section
variable {X : Cx} {K : PySem.W.Frag}
theorem opK {op : Value → Value → Sem Value} {r : PySem.W.Frag → R2} (hK : X.K = K) (h : OpR X op (r X.K)) : OpR X op (r K) := by subst hK; exact h
theorem ix_listK (hK : X.K = K) : IxR X (rIxL K) := by subst hK; exact ix_list
theorem ix_tupK (hK : X.K = K) : IxR X (rIxT K) := by subst hK; exact ix_tup
theorem sl_listK (hK : X.K = K) : SlR X (rSlL K) := by subst hK; exact sl_list
theorem sl_tupK (hK : X.K = K) : SlR X (rSlT K) := by subst hK; exact sl_tup
theorem pi_listK {tg l : Expr} {tl : TE} (hK : X.K = K) (hl : PE X l tl) : PI X tg l (iList K tl) := by subst hK; exact pi_list hl
theorem pi_tupK {tg l : Expr} {tl : TE} (hK : X.K = K) (hl : PE X l tl) : PI X tg l (iTup K tl) := by subst hK; exact pi_tup hl
end
end Ky

namespace Ky
open PySem PySem.Spec PyProof.Rows L2
/-! ### distinct items, in their first order -/
section
variable {κ : Type} [DecidableEq κ]
def dstep (acc : List κ) (k : κ) : List κ := if k ∈ acc then acc else acc ++ [k]
def dd (ls : List κ) : List κ := ls.foldl dstep []
def setDict (ks : List κ) : List (κ × V) := ks.map fun k => (k, V.bl true)
theorem dd_snoc (ls : List κ) (k : κ) : dd (ls ++ [k]) = dstep (dd ls) k := by unfold dd; rw [List.foldl_append]; rfl
theorem setDict_len (ks : List κ) : (setDict ks).length = ks.length := List.length_map ..
theorem putK_set (ks : List κ) (k : κ) : putK (setDict ks) k (V.bl true) = setDict (dstep ks k) := by
  unfold putK dstep
  by_cases h : k ∈ ks
  · rw [if_pos h, if_pos (by
      unfold setDict
      rw [List.any_map]
      exact List.any_eq_true.mpr ⟨k, h, by simp⟩)]
    unfold setDict
    rw [List.map_map]
    refine List.map_congr_left fun x _ => ?_
    show (if x = k then (x, V.bl true) else (x, V.bl true)) = _
    by_cases e : x = k
    · rw [if_pos e]
    · rw [if_neg e]
  · rw [if_neg h, if_neg (by
      unfold setDict
      rw [List.any_map]
      intro z
      obtain ⟨x, hx, e⟩ := List.any_eq_true.mp z
      have e : x = k := by simpa using e
      rw [e] at hx
      exact h hx)]
    unfold setDict
    rw [List.map_append] <;> rfl
theorem valV_set (ks : List κ) (k : κ) : (valV (setDict ks) k).isSome = decide (k ∈ ks) := by
  induction ks with
  | nil => rfl
  | cons x ks ih =>
    unfold setDict at ih ⊢
    rw [List.map_cons]
    by_cases e : x = k
    · rw [valV_pos (p := (x, V.bl true)) e]
      rw [e]
      simp
    · rw [valV_neg (p := (x, V.bl true)) e, ih]
      exact decide_eq_decide.mpr ⟨fun h => List.mem_cons_of_mem _ h, fun h => (List.mem_cons.mp h).resolve_left fun z => e z.symm⟩
theorem mem_dstep {acc : List κ} {k x : κ} : x ∈ dstep acc k ↔ x ∈ acc ∨ x = k := by
  unfold dstep
  by_cases h : k ∈ acc
  · rw [if_pos h]
    exact ⟨.inl, fun z => z.elim id fun e => e ▸ h⟩
  · rw [if_neg h, List.mem_append, List.mem_singleton]
theorem mem_foldl {x : κ} : ∀ {ls acc : List κ}, x ∈ ls.foldl dstep acc ↔ x ∈ acc ∨ x ∈ ls
  | [], acc => by simp
  | k :: ls, acc => by
    rw [List.foldl_cons, mem_foldl, mem_dstep, List.mem_cons, or_assoc]
theorem mem_dd {ls : List κ} {x : κ} : x ∈ dd ls ↔ x ∈ ls := by unfold dd; rw [mem_foldl]; simp
theorem nodup_dstep {acc : List κ} {k : κ} (h : acc.Nodup) : (dstep acc k).Nodup := by
  unfold dstep
  by_cases e : k ∈ acc
  · rw [if_pos e]; exact h
  · rw [if_neg e]
    exact List.nodup_append.mpr ⟨h, List.nodup_cons.mpr ⟨by simp, List.nodup_nil⟩, fun a ha b hb z => by
      rw [List.mem_singleton.mp hb] at z
      exact e (z ▸ ha)⟩
theorem nodup_foldl : ∀ {ls acc : List κ}, acc.Nodup → (ls.foldl dstep acc).Nodup
  | [], _, h => h
  | k :: ls, acc, h => by
    rw [List.foldl_cons]
    exact nodup_foldl (nodup_dstep h)
theorem nodup_dd (ls : List κ) : (dd ls).Nodup := nodup_foldl List.nodup_nil
theorem len_dstep (acc : List κ) (k : κ) : (dstep acc k).length ≤ acc.length + 1 := by
  unfold dstep
  by_cases h : k ∈ acc
  · rw [if_pos h]; omega
  · rw [if_neg h, List.length_append]; exact Nat.le_refl _
theorem len_foldl : ∀ (ls acc : List κ), (ls.foldl dstep acc).length ≤ acc.length + ls.length
  | [], _ => Nat.le_refl _
  | k :: ls, acc => by
    have h := len_foldl ls (dstep acc k)
    have h2 := len_dstep acc k
    rw [List.foldl_cons, List.length_cons]
    omega
theorem len_dd (ls : List κ) : (dd ls).length ≤ ls.length := by have := len_foldl ls ([] : List κ); simpa [dd] using this
theorem dd_map {μ : Type} [DecidableEq μ] {f : κ → μ} (hf : ∀ a b, f a = f b → a = b) (ls : List κ) : dd (ls.map f) = (dd ls).map f := by
  have aux : ∀ (ls acc : List κ), (ls.map f).foldl dstep (acc.map f) = (ls.foldl dstep acc).map f := by
    intro ls
    induction ls with
    | nil => intro acc; rfl
    | cons k ls ih =>
      intro acc
      rw [List.map_cons, List.foldl_cons, List.foldl_cons, ← ih]
      congr 1
      unfold dstep
      by_cases h : k ∈ acc
      · rw [if_pos h, if_pos (List.mem_map.mpr ⟨k, h, rfl⟩)]
      · rw [if_neg h, if_neg (fun z => by
          obtain ⟨x, hx, e⟩ := List.mem_map.mp z
          exact h (hf _ _ e ▸ hx)), List.map_append] <;> rfl
  exact aux ls []
end
/-! ### sorting by data -/
section
variable {β γ : Type}
def srtBy (g : β → PyData) (bs : List β) : List β := bs.mergeSort (PySem.W.dataLe false g)
theorem sortD_map (f : β → V) (g : β → PyData) (bs : List β) : sortD (bs.map f) (bs.map g) = (srtBy g bs).map f := by
  unfold sortD srtBy
  have e : (bs.map f).zip (bs.map g) = bs.map fun b => (f b, g b) := by
    induction bs with
    | nil => rfl
    | cons b bs ih => rw [List.map_cons, List.map_cons, List.zip_cons_cons, ih] <;> rfl
  rw [e, ← PySem.W.sort_maps (fun b => (f b, g b)) (r := PySem.W.dataLe false g) (s := PySem.W.dataLe false fun p : V × PyData => p.2) (fun _ _ _ _ => rfl), List.map_map]
  rfl
theorem srtBy_map (h : β → γ) (g : γ → PyData) (bs : List β) : (srtBy (fun b => g (h b)) bs).map h = srtBy g (bs.map h) :=
  PySem.W.sort_maps h (r := PySem.W.dataLe false fun b => g (h b)) (s := PySem.W.dataLe false g) fun _ _ _ _ => rfl
theorem srtBy_perm (g : β → PyData) (bs : List β) : (srtBy g bs).Perm bs := List.mergeSort_perm _ _
theorem mem_srtBy {g : β → PyData} {bs : List β} {x : β} : x ∈ srtBy g bs ↔ x ∈ bs := (srtBy_perm g bs).mem_iff
theorem srtBy_pair (g : β → PyData) (bs : List β) : (srtBy g bs).Pairwise fun a b => PySem.W.dataLe false g a b = true :=
  PySem.W.sort_pairwise (PySem.W.sortLe_total _ _ _) bs
theorem srtBy_congr {g g' : β → PyData} {bs : List β} (h : ∀ a ∈ bs, ∀ b ∈ bs, PySem.W.dataLt (g a) (g b) = PySem.W.dataLt (g' a) (g' b)) : srtBy g bs = srtBy g' bs :=
  PySem.W.sort_congr fun a ha b hb => by
    show (!PySem.W.dataLt (g b) (g a)) = (!PySem.W.dataLt (g' b) (g' a))
    rw [h b hb a ha]
end
end Ky

namespace Ky
open PySem PySem.Spec PyProof.Rows L2
/-- any comprehension's walk -/
theorem c_walk {J : It} {n : Nat} {xv : Nat → V} {Body : V → Hp → (Hp → Prop) → Prop} {Qd : Hp → Prop} {H0 : Hp} (Pv : Nat → Hp → Prop) (h0 : Pv 0 H0) (hgo : ∀ i H, i < n → Pv i H → J.go i H) (hy : ∀ i H x H', i < n → Pv i H → J.yld i H x H' → H' = H ∧ x = xv i)
    (hstop : ∀ H, Pv n H → J.stop n H) (step : ∀ i H, i < n → Pv i H → Body (xv i) H (Pv (i + 1))) (fin : ∀ H, Pv n H → Qd H) :
    ∃ W : Nat → Nat → Hp → Prop, (∃ m, W 0 m H0) ∧ ∀ i m H, W i m H → (J.stop i H ∧ Qd H) ∨ (J.go i H ∧ ∃ Nx : Hp → Prop, (∀ H', Nx H' → ∃ m', m' < m ∧ W (i + 1) m' H') ∧ ∀ x H', J.yld i H x H' → Body x H' Nx) := by
  refine ⟨fun i m H => m = n - i ∧ i ≤ n ∧ Pv i H, ⟨n, by simp, Nat.zero_le _, h0⟩, ?_⟩
  rintro i m H ⟨rfl, hi, p⟩
  by_cases hlt : i < n
  · refine .inr ⟨hgo i H hlt p, Pv (i + 1), fun H' p' => ⟨n - (i + 1), by omega, rfl, hlt, p'⟩, fun x H' y => ?_⟩
    obtain ⟨rfl, rfl⟩ := hy i H x H' hlt p y
    exact step i H' hlt p
  · have e : i = n := by omega
    subst e
    exact .inl ⟨hstop H p, fin H p⟩
theorem c_list {K : PySem.W.Frag} {a : Addr} {xs : List V} {Body : V → Hp → (Hp → Prop) → Prop} {Qd : Hp → Prop} {H0 : Hp} (Pv : Nat → Hp → Prop) (h0 : Pv 0 H0) (hl : ∀ i H, i ≤ xs.length → Pv i H → SqL K H a xs)
    (step : ∀ i x H, xs[i]? = some x → Pv i H → Body x H (Pv (i + 1))) (fin : ∀ H, Pv xs.length H → Qd H) :
    ∃ W : Nat → Nat → Hp → Prop, (∃ m, W 0 m H0) ∧ ∀ i m H, W i m H → ((Itl K a).stop i H ∧ Qd H) ∨ ((Itl K a).go i H ∧ ∃ Nx : Hp → Prop, (∀ H', Nx H' → ∃ m', m' < m ∧ W (i + 1) m' H') ∧ ∀ x H', (Itl K a).yld i H x H' → Body x H' Nx) :=
  c_walk (xv := fun i => xs.getD i .non) Pv h0 (fun i H h hs => ⟨xs, xs[i], hl i H (Nat.le_of_lt h) hs, List.getElem?_eq_getElem h⟩) (fun i H x H' h hs q => by
    obtain ⟨e, q⟩ := q
    subst e
    refine ⟨rfl, ?_⟩
    rw [List.getD_eq_getElem?_getD, q xs (hl i _ (Nat.le_of_lt h) hs)] <;> rfl) (fun H hs => ⟨xs, hl _ H (Nat.le_refl _) hs, Nat.le_refl _⟩) (fun i H h hs => step i _ H (by rw [List.getD_eq_getElem?_getD, List.getElem?_eq_getElem h] <;> rfl) hs) fin
theorem c_tup {K : PySem.W.Frag} {a : Addr} {xs : List V} {Body : V → Hp → (Hp → Prop) → Prop} {Qd : Hp → Prop} {H0 : Hp} (Pv : Nat → Hp → Prop) (h0 : Pv 0 H0) (hl : ∀ i H, i ≤ xs.length → Pv i H → SqT K H a xs)
    (step : ∀ i x H, xs[i]? = some x → Pv i H → Body x H (Pv (i + 1))) (fin : ∀ H, Pv xs.length H → Qd H) :
    ∃ W : Nat → Nat → Hp → Prop, (∃ m, W 0 m H0) ∧ ∀ i m H, W i m H → ((Itt K a).stop i H ∧ Qd H) ∨ ((Itt K a).go i H ∧ ∃ Nx : Hp → Prop, (∀ H', Nx H' → ∃ m', m' < m ∧ W (i + 1) m' H') ∧ ∀ x H', (Itt K a).yld i H x H' → Body x H' Nx) :=
  c_walk (xv := fun i => xs.getD i .non) Pv h0 (fun i H h hs => ⟨xs, xs[i], hl i H (Nat.le_of_lt h) hs, List.getElem?_eq_getElem h⟩) (fun i H x H' h hs q => by
    obtain ⟨e, q⟩ := q
    subst e
    refine ⟨rfl, ?_⟩
    rw [List.getD_eq_getElem?_getD, q xs (hl i _ (Nat.le_of_lt h) hs)] <;> rfl) (fun H hs => ⟨xs, hl _ H (Nat.le_refl _) hs, Nat.le_refl _⟩) (fun i H h hs => step i _ H (by rw [List.getD_eq_getElem?_getD, List.getElem?_eq_getElem h] <;> rfl) hs) fin
theorem upd_again {H : Hp} {D : Addr} {a b : HO} : upd (upd H D a) D b = upd H D b := by
  funext x
  by_cases e : x = D
  · rw [e, upd_same, upd_same]
  · rw [upd_ne e, upd_ne e, upd_ne e]
def keysI (ns : List Int) : List L2.Key := ns.map Sum.inl
theorem inl_inj (a b : Int) (h : (Sum.inl a : L2.Key) = Sum.inl b) : a = b := Sum.inl.inj h
theorem keysI_inj : ∀ (a b : List Int), keysI a = keysI b → a = b
  | [], [], _ => rfl
  | x :: a, y :: b, h => by
    unfold keysI at h
    rw [List.map_cons, List.map_cons] at h
    obtain ⟨h1, h2⟩ := List.cons.inj h
    rw [Sum.inl.inj h1, keysI_inj a b h2]
  | [], _ :: _, h => by cases h
  | _ :: _, [], h => by cases h
theorem keysI_kV (ns : List Int) : (keysI ns).map kV = ns.map V.int := by unfold keysI; rw [List.map_map] <;> rfl
section
variable {K : PySem.W.Frag} {a : Addr} {σ : L2.St} {H : Hp} {Q : VK} {i0 j : Nat}
theorem var_set {x : V} (hj : j < σ.length) : ((wipe σ [j]).set j (some x))[j]? = some (some x) := by
  rw [List.getElem?_set_self (by rw [wipe_length]; exact hj)]
/-- {x: True for x in e}, e a list (a tuple) of numbers -/
theorem rd_dcI {ns : List Int} (hσ : σ[i0]? = some (some (.ref a))) (hj : j < σ.length) (ha : H a = some (.lst (ns.map V.int))) (hz : ns.length ≤ sizeLine) (k : ∀ D, H D = none → Q (.ref D) (upd H D (.dK (setDict (keysI (dd ns)))))) :
    tDc (iList K (tVar i0)) (gName j) tYes (tVar j) (tC (.bl true)) [j] σ H Q := by
  refine ⟨_, hσ, a, rfl, ⟨_, SqL.of ha⟩, fun D hD => ?_⟩
  refine c_list (xs := ns.map V.int) (fun i H1 => H1 = upd H D (.dK (setDict (keysI (dd (ns.take i)))))) (by rw [List.take_zero]; rfl) (fun i H1 _ h => by rw [h]; exact (Kept.new hD).sq (SqL.of ha)) (fun i x H1 hx h => ?_) fun H1 h => ?_
  · obtain ⟨n, rfl, hn⟩ := map_int hx
    refine ⟨wipe_one, w_yes (if_t rfl ⟨_, var_set hj, setDict (keysI (dd (ns.take i))), Sum.inl n, rfl, by rw [h]; exact upd_same, ?_, ?_⟩)⟩
    · rw [setDict_len]
      unfold keysI
      rw [List.length_map]
      have h1 := len_dd (ns.take i)
      have h2 : i < ns.length := (List.getElem?_eq_some_iff.mp hn).1
      rw [List.length_take] at h1
      omega
    · rw [h, upd_again, putK_set]
      have e : ns.take (i + 1) = ns.take i ++ [n] := by rw [List.take_add_one, hn]; rfl
      rw [e, dd_snoc]
      congr 3
      show dstep (keysI (dd (ns.take i))) (Sum.inl n) = keysI (dstep (dd (ns.take i)) n)
      unfold dstep keysI
      by_cases hm : n ∈ dd (ns.take i)
      · rw [if_pos hm, if_pos (List.mem_map.mpr ⟨n, hm, rfl⟩)]
      · rw [if_neg hm, if_neg (fun z => by
          obtain ⟨y, hy, e⟩ := List.mem_map.mp z
          exact hm (Sum.inl.inj e ▸ hy)), List.map_append] <;> rfl
  · rw [List.length_map, List.take_length] at h
    rw [h]
    exact k D hD
theorem rd_dcIt {ns : List Int} (hσ : σ[i0]? = some (some (.ref a))) (hj : j < σ.length) (ha : H a = some (.tup (ns.map V.int))) (hz : ns.length ≤ sizeLine) (k : ∀ D, H D = none → Q (.ref D) (upd H D (.dK (setDict (keysI (dd ns)))))) :
    tDc (iTup K (tVar i0)) (gName j) tYes (tVar j) (tC (.bl true)) [j] σ H Q := by
  refine ⟨_, hσ, a, rfl, ⟨_, SqT.of ha⟩, fun D hD => ?_⟩
  refine c_tup (xs := ns.map V.int) (fun i H1 => H1 = upd H D (.dK (setDict (keysI (dd (ns.take i)))))) (by rw [List.take_zero]; rfl) (fun i H1 _ h => by rw [h]; exact SqT.of ((Kept.new hD).tup ha)) (fun i x H1 hx h => ?_) fun H1 h => ?_
  · obtain ⟨n, rfl, hn⟩ := map_int hx
    refine ⟨wipe_one, w_yes (if_t rfl ⟨_, var_set hj, setDict (keysI (dd (ns.take i))), Sum.inl n, rfl, by rw [h]; exact upd_same, ?_, ?_⟩)⟩
    · rw [setDict_len]
      unfold keysI
      rw [List.length_map]
      have h1 := len_dd (ns.take i)
      have h2 : i < ns.length := (List.getElem?_eq_some_iff.mp hn).1
      rw [List.length_take] at h1
      omega
    · rw [h, upd_again, putK_set]
      have e : ns.take (i + 1) = ns.take i ++ [n] := by rw [List.take_add_one, hn]; rfl
      rw [e, dd_snoc]
      congr 3
      show dstep (keysI (dd (ns.take i))) (Sum.inl n) = keysI (dstep (dd (ns.take i)) n)
      unfold dstep keysI
      by_cases hm : n ∈ dd (ns.take i)
      · rw [if_pos hm, if_pos (List.mem_map.mpr ⟨n, hm, rfl⟩)]
      · rw [if_neg hm, if_neg (fun z => by
          obtain ⟨y, hy, e⟩ := List.mem_map.mp z
          exact hm (Sum.inl.inj e ▸ hy)), List.map_append] <;> rfl
  · rw [List.length_map, List.take_length] at h
    rw [h]
    exact k D hD
/-- {c: True for c in e}, e a list of tuples of numbers -/
theorem rd_dcT {bs : List Addr} {cs : List (List Int)} (hσ : σ[i0]? = some (some (.ref a))) (hj : j < σ.length) (ha : H a = some (.lst (bs.map V.ref))) (hl : bs.length = cs.length) (hb : ∀ (i : Nat) (b : Addr) (c : List Int), bs[i]? = some b → cs[i]? = some c → H b = some (.tup (c.map V.int))) (hz : cs.length ≤ sizeLine)
    (k : ∀ D, H D = none → Q (.ref D) (upd H D (.dT (setDict ((dd cs).map keysI))))) : tDcT (iList K (tVar i0)) (gName j) tYes (tVar j) (tC (.bl true)) [j] σ H Q := by
  refine ⟨_, hσ, a, rfl, ⟨_, SqL.of ha⟩, fun D hD => ?_⟩
  refine c_list (xs := bs.map V.ref) (fun i H1 => H1 = upd H D (.dT (setDict ((dd (cs.take i)).map keysI)))) (by rw [List.take_zero]; rfl) (fun i H1 _ h => by rw [h]; exact (Kept.new hD).sq (SqL.of ha)) (fun i x H1 hx h => ?_) fun H1 h => ?_
  · rw [List.getElem?_map] at hx
    obtain ⟨b, hb1, rfl⟩ := Option.map_eq_some_iff.mp hx
    have hi : i < cs.length := by rw [← hl]; exact (List.getElem?_eq_some_iff.mp hb1).1
    have hc : cs[i]? = some cs[i] := List.getElem?_eq_getElem hi
    have e1 := hb i b _ hb1 hc
    refine ⟨wipe_one, w_yes (if_t rfl ⟨_, var_set hj, setDict ((dd (cs.take i)).map keysI), keysI cs[i], b, rfl, ?_, by rw [h]; exact upd_same, ?_, ?_⟩)⟩
    · rw [keysI_kV, h, upd_ne (ne_of_none e1 hD)]
      exact e1
    · rw [setDict_len, List.length_map]
      have h1 := len_dd (cs.take i)
      rw [List.length_take] at h1
      omega
    · rw [h, upd_again, putK_set]
      have e : cs.take (i + 1) = cs.take i ++ [cs[i]] := by rw [List.take_add_one, hc]; rfl
      rw [e, dd_snoc]
      congr 3
      unfold dstep
      by_cases hm : cs[i] ∈ dd (cs.take i)
      · rw [if_pos hm, if_pos (List.mem_map.mpr ⟨_, hm, rfl⟩)]
      · rw [if_neg hm, if_neg (fun z => by
          obtain ⟨y, hy, e⟩ := List.mem_map.mp z
          exact hm (keysI_inj _ _ e ▸ hy)), List.map_append] <;> rfl
  · rw [List.length_map, hl, List.take_length] at h
    rw [h]
    exact k D hD
end
theorem w_ckw {σ : L2.St} {H : Hp} {Q : VK} {r : List V → List V → Hp → VK → Prop} {t tk : TA} (q : t σ H fun vs H1 => tk σ H1 fun zs H2 => r vs zs H2 Q) : tCKw r t tk σ H Q := q
theorem set_keys (ns : List Int) : (setDict (keysI ns)).map (fun kv : L2.Key × V => kV kv.1) = ns.map V.int := by
  unfold setDict keysI
  rw [List.map_map, List.map_map]
  rfl
/-! ### sets -/
theorem set_step (vs : List Int) (c : Int) : (fun j => decide (j ∈ vs) || decide (j = c)) = fun j => decide (j ∈ vs ++ [c]) := by
  funext j
  by_cases h1 : j ∈ vs <;> by_cases h2 : j = c <;> simp [h1, h2]
theorem set_len (vs : List Int) (c : Int) : (if decide (c ∈ vs) = true then (dd vs).length else (dd vs).length + 1) = (dd (vs ++ [c])).length := by
  rw [dd_snoc]
  unfold dstep
  by_cases h : c ∈ vs
  · rw [decide_eq_true h, if_pos rfl, if_pos (mem_dd.mpr h)]
  · rw [decide_eq_false h, if_neg Bool.false_ne_true, if_neg (fun z => h (mem_dd.mp z)), List.length_append] <;> rfl
end Ky

namespace Ky
open PySem PySem.Spec PyProof.Rows L2
/-! ### the law's draws, the cells' own place told (so that a fresh list may change between draws) -/
def DrwC (d c : Addr) (H : Hp) : Prop := ∃ (ns : List Int) (a u z : Int), c ≠ d ∧ H d = some (.lst [.ref c, .int a, .int u, .int z]) ∧ H c = some (.lst (ns.map V.int)) ∧ -1 ≤ a
structure KeptC (d c : Addr) (H H' : Hp) : Prop where
  keep : ∀ b o, b ≠ d → NoTab o → H b = some o → H' b = some o
  drw : DrwC d c H → DrwC d c H'
  tab : ∀ P, GxR.TabG H P → GxR.TabG H' P
  free : ∀ b, H' b = none → H b = none
theorem DrwC.old {d c : Addr} {H : Hp} (h : DrwC d c H) {p : Addr} (hp : H p = none) : p ≠ d ∧ p ≠ c := by
  obtain ⟨ns, a, u, z, n, h1, h2, _⟩ := h
  refine ⟨fun e => ?_, fun e => ?_⟩
  · rw [e, h1] at hp
    cases hp
  · rw [e, h2] at hp
    cases hp
theorem KeptC.refl {d c : Addr} (H : Hp) : KeptC d c H H := ⟨fun _ _ _ _ h => h, fun h => h, fun _ h => h, fun _ h => h⟩
theorem KeptC.trans {d c : Addr} {H H1 H2 : Hp} (a : KeptC d c H H1) (b : KeptC d c H1 H2) : KeptC d c H H2 :=
  ⟨fun x o n m h => b.keep x o n m (a.keep x o n m h), fun h => b.drw (a.drw h), fun P h => b.tab P (a.tab P h), fun x h => a.free x (b.free x h)⟩
theorem Kept.toC {d c : Addr} {H H' : Hp} (a : Kept H H') : KeptC d c H H' := ⟨fun b o _ n h => a.keep b o n h, fun h => by
  obtain ⟨ns, i, u, z, n, h1, h2, h3⟩ := h
  exact ⟨ns, i, u, z, n, a.keep _ _ noTab_lst h1, a.keep _ _ noTab_lst h2, h3⟩, a.tab, a.free⟩
theorem KeptC.mut {d c : Addr} {H H' : Hp} {p : Addr} {o : HO} (e : KeptC d c H H') (h : H p = none) : KeptC d c H (upd H' p o) := ⟨fun a u m n ha => by
  rw [upd_ne (ne_of_none ha h)]
  exact e.keep a u m n ha, fun hd => by
  obtain ⟨n1, n2⟩ := hd.old h
  obtain ⟨ns, i, u, z, n, h1, h2, h3⟩ := e.drw hd
  exact ⟨ns, i, u, z, n, by rw [upd_ne (Ne.symm n1)]; exact h1, by rw [upd_ne (Ne.symm n2)]; exact h2, h3⟩, fun P hP => by
  obtain ⟨ps, h1, h2⟩ := hP
  have nP := ne_of_none h1 h
  obtain ⟨qs, g1, g2⟩ := e.tab P ⟨ps, h1, h2⟩
  exact ⟨qs, by rw [upd_ne nP]; exact g1, g2⟩, fun b hb => e.free b (upd_free hb).1⟩
theorem KeptC.tup {d c : Addr} {H H' : Hp} {p : Addr} {xs : List V} (e : KeptC d c H H') (hd : DrwC d c H) (h : H p = some (.tup xs)) : H' p = some (.tup xs) := e.keep _ _ (fun z => by
  obtain ⟨ns, a, u, z', n, h', _⟩ := hd
  rw [z, h'] at h
  cases h) noTab_tup h
theorem KeptC.lst {d c : Addr} {H H' : Hp} {p : Addr} {xs : List V} (e : KeptC d c H H') (hd : p ≠ d) (h : H p = some (.lst xs)) : H' p = some (.lst xs) := e.keep _ _ hd noTab_lst h
theorem TakeSt.keptC {H H' : Hp} {c d : Addr} {ns : List Int} {xs : List V} (h : TakeSt H c d H') (hd : H d = some (.lst xs)) (hc : H c = some (.lst (ns.map V.int))) (ne : c ≠ d) : KeptC d c H H' := by
  obtain ⟨h1, a, u, z, h2, h3⟩ := h
  refine ⟨fun b o hb _ q => by rw [h1 b hb]; exact q, fun _ => ⟨ns, a, u, z, ne, h2, by rw [h1 c ne]; exact hc, h3⟩, fun P hP => ?_, fun b q => ?_⟩
  · obtain ⟨ps, p1, p2⟩ := hP
    have : P ≠ d := fun e => by
      rw [e, hd] at p1
      cases p1
    exact ⟨ps, by rw [h1 P this]; exact p1, p2⟩
  · by_cases e : b = d
    · rw [e, h2] at q
      cases q
    · rw [h1 b e] at q
      exact q
def spTakeC : Sp := fun vs H Q _ => ∃ (d c : Addr) (m : Int), vs = [.ref d, .int m] ∧ 0 < m ∧ m < 2 ^ 62 ∧ DrwC d c H ∧ ∀ (r : Int) H', 0 ≤ r → r < m → KeptC d c H H' → Q (.int r) H'
def spDrawC (K : PySem.W.Frag) : Sp := fun vs H Q _ => ∃ (a : Addr) (ns : List Int), vs = [.ref a] ∧ SqL K H a (ns.map V.int) ∧ ns.length ≤ 63 ∧ ∀ d c H', H d = none → Kept H H' → DrwC d c H' → Q (.ref d) H'
/-! ### is not, of two truths -/
def rNB : R2 := fun x y H Q => ∃ a b : Bool, x = .bl a ∧ y = .bl b ∧ Q (.bl (!decide (a = b))) H
section
variable {X : Cx}
def rLenK (K : PySem.W.Frag) : List V → Hp → VK → Prop := fun xs H Q => ∃ p ys, xs = [.ref p] ∧ (SqL K H p ys ∨ SqT K H p ys) ∧ Q (.int ys.length) H
theorem call_lenK {K : PySem.W.Frag} (e : X.K = K) : CallR X (.builtin "len") (rLenK K) := by
  subst e
  exact call_len_seq
theorem op_notB : OpR X (compareOp .IsNot) rNB := by
  intro pins s σ H x y v u Q I rx ry h
  obtain ⟨a, b, rfl, rfl, q⟩ := h
  cases (show v = Value.bool a from rx)
  cases (show u = Value.bool b from ry)
  exact wpAny_isNot_plain rfl (fin_bl I q (by cases a <;> cases b <;> rfl))
end
end Ky

namespace Ky
open PySem PySem.Spec PyProof.Rows L2
/-! ### loops and comprehensions, one step each; what is told of the walk stands in one word -/
def FrJ (g : TG) (tb : TS) (D : Ends) (σ : L2.St) (J : It) (H1 : Hp) : Prop := ∃ W : Nat → Nat → L2.St → Hp → Prop, (∃ m, W 0 m σ H1) ∧ ∀ i m σ H, W i m σ H →
  (J.stop i H ∧ D.nx σ H) ∨ (J.go i H ∧ ∃ N : L2.St → Hp → Prop, (∀ σ' H', N σ' H' → ∃ m', m' < m ∧ W (i + 1) m' σ' H') ∧ ∀ x H', J.yld i H x H' → g x σ H' fun σ2 H2 => tb { D with nx := N, ct := N, bk := D.nx } σ2 H2)
def Fr1 (g : TG) (tb : TS) (D : Ends) (σ : L2.St) (vs : List V) (H1 : Hp) : Prop := ∃ j : Int, vs = [.int j] ∧ -(2 ^ 62) ≤ j ∧ j < 2 ^ 62 ∧ FrJ g tb D σ (Itr 0 j.toNat) H1
def Fr2 (g : TG) (tb : TS) (D : Ends) (σ : L2.St) (vs : List V) (H1 : Hp) : Prop := ∃ i j : Int, vs = [.int i, .int j] ∧ (-(2 ^ 62) ≤ i ∧ i < 2 ^ 62 ∧ -(2 ^ 62) ≤ j ∧ j < 2 ^ 62) ∧ FrJ g tb D σ (Itr i (j - i).toNat) H1
def FrL (K : PySem.W.Frag) (g : TG) (tb : TS) (D : Ends) (σ : L2.St) (x : V) (H1 : Hp) : Prop := ∃ a, x = .ref a ∧ (∃ xs, SqL K H1 a xs) ∧ FrJ g tb D σ (Itl K a) H1
def FrT (K : PySem.W.Frag) (g : TG) (tb : TS) (D : Ends) (σ : L2.St) (x : V) (H1 : Hp) : Prop := ∃ a, x = .ref a ∧ (∃ xs, SqT K H1 a xs) ∧ FrJ g tb D σ (Itt K a) H1
def LcJ (g : TG) (tt : TT) (te : TE) (vs : List Nat) (σ : L2.St) (Q : VK) (J : It) (H1 : Hp) : Prop := ∀ D, H1 D = none → ∃ W : Nat → Nat → Hp → Prop, (∃ m, W 0 m (upd H1 D (.lst []))) ∧ ∀ i m H, W i m H →
  (J.stop i H ∧ Q (.ref D) H) ∨ (J.go i H ∧ ∃ Nx : Hp → Prop, (∀ H', Nx H' → ∃ m', m' < m ∧ W (i + 1) m' H') ∧ ∀ x H', J.yld i H x H' → g x (wipe σ vs) H' fun σ2 H2 => wipe σ2 vs = wipe σ vs ∧ tt σ2 H2 fun b H3 =>
    if b = true then te σ2 H3 fun y H4 => ∃ acc, H4 D = some (.lst acc) ∧ acc.length < sizeLine ∧ Nx (upd H4 D (.lst (acc ++ [y]))) else Nx H3)
def Lc1 (g : TG) (tt : TT) (te : TE) (vs : List Nat) (σ : L2.St) (Q : VK) (ws : List V) (H1 : Hp) : Prop := ∃ j : Int, ws = [.int j] ∧ -(2 ^ 62) ≤ j ∧ j < 2 ^ 62 ∧ LcJ g tt te vs σ Q (Itr 0 j.toNat) H1
def LcL (K : PySem.W.Frag) (g : TG) (tt : TT) (te : TE) (vs : List Nat) (σ : L2.St) (Q : VK) (x : V) (H1 : Hp) : Prop := ∃ a, x = .ref a ∧ (∃ xs, SqL K H1 a xs) ∧ LcJ g tt te vs σ Q (Itl K a) H1
def LcT (K : PySem.W.Frag) (g : TG) (tt : TT) (te : TE) (vs : List Nat) (σ : L2.St) (Q : VK) (x : V) (H1 : Hp) : Prop := ∃ a, x = .ref a ∧ (∃ xs, SqT K H1 a xs) ∧ LcJ g tt te vs σ Q (Itt K a) H1
section
variable {K : PySem.W.Frag} {σ : L2.St} {H H1 : Hp} {Q : VK} {D : Ends} {g : TG} {tb : TS} {ta : TA} {te te2 : TE} {tt : TT} {vs : List Nat} {J : It}
theorem w_for1 (q : ta σ H (Fr1 g tb D σ)) : tFor (iRng1 ta) g tb D σ H := q
theorem w_for2 (q : ta σ H (Fr2 g tb D σ)) : tFor (iRng2 ta) g tb D σ H := q
theorem w_forL (q : te σ H (FrL K g tb D σ)) : tFor (iList K te) g tb D σ H := q
theorem w_forT (q : te σ H (FrT K g tb D σ)) : tFor (iTup K te) g tb D σ H := q
theorem w_lc1 (q : ta σ H (Lc1 g tt te vs σ Q)) : tLc (iRng1 ta) g tt te vs σ H Q := q
theorem w_lcL (q : te2 σ H (LcL K g tt te vs σ Q)) : tLc (iList K te2) g tt te vs σ H Q := q
theorem w_lcT (q : te2 σ H (LcT K g tt te vs σ Q)) : tLc (iTup K te2) g tt te vs σ H Q := q
theorem FrJ.range {lo : Int} {n : Nat} (Pv : Nat → L2.St → Hp → Prop) (h0 : Pv 0 σ H) (hs : ∀ i σ H, i < n → Pv i σ H → g (.int (lo + i)) σ H fun σ2 H2 => tb { D with nx := Pv (i + 1), ct := Pv (i + 1), bk := D.nx } σ2 H2) (hd : ∀ σ H, Pv n σ H → D.nx σ H) : FrJ g tb D σ (Itr lo n) H := for_range Pv h0 hs hd
theorem Fr1.mk {m : Nat} (hm : (m : Int) < 2 ^ 62) (Pv : Nat → L2.St → Hp → Prop) (h0 : Pv 0 σ H) (hs : ∀ i σ H, i < m → Pv i σ H → g (.int (i : Int)) σ H fun σ2 H2 => tb { D with nx := Pv (i + 1), ct := Pv (i + 1), bk := D.nx } σ2 H2) (hd : ∀ σ H, Pv m σ H → D.nx σ H) : Fr1 g tb D σ [.int (m : Int)] H := by
  refine ⟨_, rfl, by omega, hm, ?_⟩
  rw [Int.toNat_natCast]
  refine for_range Pv h0 (fun i σ H hi p => ?_) hd
  rw [Int.zero_add]
  exact hs i σ H hi p
theorem FrL.mk {a : Addr} {xs : List V} (Pv : Nat → L2.St → Hp → Prop) (h0 : Pv 0 σ H) (hl : ∀ i σ H, i ≤ xs.length → Pv i σ H → SqL K H a xs) (hs : ∀ i x σ H, xs[i]? = some x → Pv i σ H → g x σ H fun σ2 H2 => tb { D with nx := Pv (i + 1), ct := Pv (i + 1), bk := D.nx } σ2 H2) (hd : ∀ σ H, Pv xs.length σ H → D.nx σ H) : FrL K g tb D σ (.ref a) H :=
  ⟨a, rfl, ⟨xs, hl 0 σ H (Nat.zero_le _) h0⟩, for_list Pv h0 hl hs hd⟩
theorem FrT.mk {a : Addr} {xs : List V} (Pv : Nat → L2.St → Hp → Prop) (h0 : Pv 0 σ H) (hl : ∀ i σ H, i ≤ xs.length → Pv i σ H → SqT K H a xs) (hs : ∀ i x σ H, xs[i]? = some x → Pv i σ H → g x σ H fun σ2 H2 => tb { D with nx := Pv (i + 1), ct := Pv (i + 1), bk := D.nx } σ2 H2) (hd : ∀ σ H, Pv xs.length σ H → D.nx σ H) : FrT K g tb D σ (.ref a) H :=
  ⟨a, rfl, ⟨xs, hl 0 σ H (Nat.zero_le _) h0⟩, for_tup Pv h0 hl hs hd⟩
/-- a comprehension's walk: what it appends is told, and the heap only grows -/
theorem LcJ.run {n : Nat} {xv : Nat → V} {j : Nat} {H0 : Hp} {Q : VK} (p : Nat → Bool) (f : Nat → V) (hn : n ≤ sizeLine) (hgo : ∀ i H, i < n → Kept H0 H → J.go i H) (hy : ∀ i H x H', i < n → Kept H0 H → J.yld i H x H' → H' = H ∧ x = xv i) (hstop : ∀ H, Kept H0 H → J.stop n H)
    (step : ∀ i H (k : Hp → Prop) (k2 : VK), i < n → Kept H0 H → (∀ H4, Kept H H4 → p i = true → k2 (f i) H4) → (∀ H4, Kept H H4 → p i = false → k H4) → tt ((wipe σ [j]).set j (some (xv i))) H fun b H3 => if b = true then te ((wipe σ [j]).set j (some (xv i))) H3 k2 else k H3)
    (fin : ∀ D H, H0 D = none → Kept H0 H → H D = some (.lst (((List.range n).filter p).map f)) → Q (.ref D) H) : LcJ (gName j) tt te [j] σ Q J H0 := by
  intro D hD
  refine c_walk (xv := xv) (fun i H => Kept H0 H ∧ H D = some (.lst (((List.range i).filter p).map f))) ⟨Kept.new hD, upd_same⟩ (fun i H h s => hgo i H h s.1) (fun i H x H' h s => hy i H x H' h s.1) (fun H s => hstop H s.1) (fun i H hi s => ?_) fun H s => fin D H hD s.1 s.2
  refine ⟨wipe_one, ?_⟩
  refine step i H _ _ hi s.1 (fun H4 k4 hp => ?_) fun H4 k4 hp => ?_
  · refine ⟨_, k4.lst s.2, ?_, Kept.mut (s.1.trans k4) hD, ?_⟩
    · rw [List.length_map]
      have h1 := List.length_filter_le p (List.range i)
      rw [List.length_range] at h1
      omega
    · rw [List.range_succ, List.filter_append, List.map_append, List.filter_cons_of_pos hp]
      exact upd_same
  · refine ⟨s.1.trans k4, ?_⟩
    rw [List.range_succ, List.filter_append, List.filter_cons_of_neg (by rw [hp]; exact Bool.false_ne_true), List.filter_nil, List.append_nil]
    exact k4.lst s.2
theorem Lc1.run {n : Nat} {j : Nat} {H0 : Hp} {Q : VK} (p : Nat → Bool) (f : Nat → V) (hn : n ≤ sizeLine)
    (step : ∀ i H (k : Hp → Prop) (k2 : VK), i < n → Kept H0 H → (∀ H4, Kept H H4 → p i = true → k2 (f i) H4) → (∀ H4, Kept H H4 → p i = false → k H4) → tt ((wipe σ [j]).set j (some (.int (i : Int)))) H fun b H3 => if b = true then te ((wipe σ [j]).set j (some (.int (i : Int)))) H3 k2 else k H3)
    (fin : ∀ D H, H0 D = none → Kept H0 H → H D = some (.lst (((List.range n).filter p).map f)) → Q (.ref D) H) : Lc1 (gName j) tt te [j] σ Q [.int (n : Int)] H0 := by
  have hz : sizeLine < 2 ^ 62 := by decide
  refine ⟨_, rfl, by omega, by omega, ?_⟩
  rw [Int.toNat_natCast]
  exact LcJ.run (xv := fun i => .int (i : Int)) p f hn (fun i H h _ => h) (fun i H x H' _ _ h => by
    obtain ⟨h1, h2⟩ := h
    rw [Int.zero_add] at h2
    exact ⟨h1, h2⟩) (fun H _ => Nat.le_refl n) step fin
theorem LcL.run {a : Addr} {xs : List V} {j : Nat} {H0 : Hp} {Q : VK} (p : Nat → Bool) (f : Nat → V) (hn : xs.length ≤ sizeLine) (ha : H0 a = some (.lst xs))
    (step : ∀ i x H (k : Hp → Prop) (k2 : VK), xs[i]? = some x → Kept H0 H → (∀ H4, Kept H H4 → p i = true → k2 (f i) H4) → (∀ H4, Kept H H4 → p i = false → k H4) → tt ((wipe σ [j]).set j (some x)) H fun b H3 => if b = true then te ((wipe σ [j]).set j (some x)) H3 k2 else k H3)
    (fin : ∀ D H, H0 D = none → Kept H0 H → H D = some (.lst (((List.range xs.length).filter p).map f)) → Q (.ref D) H) : LcL K (gName j) tt te [j] σ Q (.ref a) H0 := by
  refine ⟨a, rfl, ⟨_, SqL.of ha⟩, LcJ.run (xv := fun i => xs.getD i .non) p f hn (fun i H h kp => ⟨xs, xs[i], SqL.of (kp.lst ha), List.getElem?_eq_getElem h⟩) (fun i H x H' h kp q => ?_) (fun H kp => ⟨xs, SqL.of (kp.lst ha), Nat.le_refl _⟩) (fun i H k k2 h kp => step i _ H k k2 (by rw [List.getD_eq_getElem?_getD, List.getElem?_eq_getElem h] <;> rfl) kp) fin⟩
  obtain ⟨e, q⟩ := q
  subst e
  refine ⟨rfl, ?_⟩
  rw [List.getD_eq_getElem?_getD, q xs (SqL.of (kp.lst ha))] <;> rfl
theorem LcT.run {a : Addr} {xs : List V} {j : Nat} {H0 : Hp} {Q : VK} (p : Nat → Bool) (f : Nat → V) (hn : xs.length ≤ sizeLine) (ha : H0 a = some (.tup xs))
    (step : ∀ i x H (k : Hp → Prop) (k2 : VK), xs[i]? = some x → Kept H0 H → (∀ H4, Kept H H4 → p i = true → k2 (f i) H4) → (∀ H4, Kept H H4 → p i = false → k H4) → tt ((wipe σ [j]).set j (some x)) H fun b H3 => if b = true then te ((wipe σ [j]).set j (some x)) H3 k2 else k H3)
    (fin : ∀ D H, H0 D = none → Kept H0 H → H D = some (.lst (((List.range xs.length).filter p).map f)) → Q (.ref D) H) : LcT K (gName j) tt te [j] σ Q (.ref a) H0 := by
  refine ⟨a, rfl, ⟨_, SqT.of ha⟩, LcJ.run (xv := fun i => xs.getD i .non) p f hn (fun i H h kp => ⟨xs, xs[i], SqT.of (kp.tup ha), List.getElem?_eq_getElem h⟩) (fun i H x H' h kp q => ?_) (fun H kp => ⟨xs, SqT.of (kp.tup ha), Nat.le_refl _⟩) (fun i H k k2 h kp => step i _ H k k2 (by rw [List.getD_eq_getElem?_getD, List.getElem?_eq_getElem h] <;> rfl) kp) fin⟩
  obtain ⟨e, q⟩ := q
  subst e
  refine ⟨rfl, ?_⟩
  rw [List.getD_eq_getElem?_getD, q xs (SqT.of (kp.tup ha))] <;> rfl
end
/-! ### what the walks leave, as lists -/
theorem range_filter {α β : Type} (d : α) (p : α → Bool) (f : α → β) : ∀ xs : List α, ((List.range xs.length).filter fun i => p (xs.getD i d)).map (fun i => f (xs.getD i d)) = (xs.filter p).map f := by
  intro xs
  have h : ∀ m, m ≤ xs.length → ((List.range m).filter fun i => p (xs.getD i d)).map (fun i => f (xs.getD i d)) = ((xs.take m).filter p).map f := by
    intro m
    induction m with
    | zero => intro _; rfl
    | succ m ih =>
      intro hm
      have hx : xs[m]? = some xs[m] := List.getElem?_eq_getElem hm
      rw [List.range_succ, List.filter_append, List.map_append, ih (by omega), List.take_add_one, hx, List.filter_append, List.map_append]
      congr 1
      have e : xs.getD m d = xs[m] := by rw [List.getD_eq_getElem?_getD, hx] <;> rfl
      show (List.filter _ [m]).map _ = (List.filter p [xs[m]]).map f
      cases hp : p xs[m] with
      | true => rw [List.filter_cons_of_pos (by rw [e]; exact hp), List.filter_cons_of_pos hp, List.filter_nil, List.filter_nil, List.map_cons, List.map_cons, e] <;> rfl
      | false => rw [List.filter_cons_of_neg (by rw [e, hp]; exact Bool.false_ne_true), List.filter_cons_of_neg (by rw [hp]; exact Bool.false_ne_true)] <;> rfl
  rw [h _ (Nat.le_refl _), List.take_length]
theorem range_map {α β : Type} (d : α) (f : α → β) (xs : List α) : (List.range xs.length).map (fun i => f (xs.getD i d)) = xs.map f := by
  have h := range_filter d (fun _ => true) f xs
  rw [List.filter_eq_self.mpr (fun _ _ => rfl), List.filter_eq_self.mpr (fun _ _ => rfl)] at h
  exact h
section
variable {K : PySem.W.Frag} {σ : L2.St} {Q : VK} {te : TE} {tt : TT} {a : Addr} {ns : List Int} {j : Nat} {H0 : Hp}
/-- a comprehension over numbers -/
theorem LcL.ints (p : Int → Bool) (f : Int → V) (hn : ns.length ≤ sizeLine) (ha : H0 a = some (.lst (ns.map V.int)))
    (step : ∀ n H (k : Hp → Prop) (k2 : VK), n ∈ ns → Kept H0 H → (∀ H4, Kept H H4 → p n = true → k2 (f n) H4) → (∀ H4, Kept H H4 → p n = false → k H4) → tt ((wipe σ [j]).set j (some (.int n))) H fun b H3 => if b = true then te ((wipe σ [j]).set j (some (.int n))) H3 k2 else k H3)
    (fin : ∀ D H, H0 D = none → Kept H0 H → H D = some (.lst ((ns.filter p).map f)) → Q (.ref D) H) : LcL K (gName j) tt te [j] σ Q (.ref a) H0 := by
  refine LcL.run (fun i => p (ns.getD i 0)) (fun i => f (ns.getD i 0)) (by rw [List.length_map]; exact hn) ha (fun i x H k k2 hx kp h1 h2 => ?_) fun D H hD kp h => fin D H hD kp ?_
  · obtain ⟨n, rfl, hn⟩ := map_int hx
    have e : ns.getD i 0 = n := by rw [List.getD_eq_getElem?_getD, hn] <;> rfl
    refine step n H k k2 (List.mem_of_getElem? hn) kp (fun H4 k4 hp => ?_) fun H4 k4 hp => ?_
    · have q := h1 H4 k4 (by rw [e]; exact hp)
      rw [e] at q
      exact q
    · exact h2 H4 k4 (by rw [e]; exact hp)
  · rw [h, List.length_map]
    exact congrArg (fun z => some (HO.lst z)) (range_filter 0 p f ns)
theorem LcT.ints (p : Int → Bool) (f : Int → V) (hn : ns.length ≤ sizeLine) (ha : H0 a = some (.tup (ns.map V.int)))
    (step : ∀ n H (k : Hp → Prop) (k2 : VK), n ∈ ns → Kept H0 H → (∀ H4, Kept H H4 → p n = true → k2 (f n) H4) → (∀ H4, Kept H H4 → p n = false → k H4) → tt ((wipe σ [j]).set j (some (.int n))) H fun b H3 => if b = true then te ((wipe σ [j]).set j (some (.int n))) H3 k2 else k H3)
    (fin : ∀ D H, H0 D = none → Kept H0 H → H D = some (.lst ((ns.filter p).map f)) → Q (.ref D) H) : LcT K (gName j) tt te [j] σ Q (.ref a) H0 := by
  refine LcT.run (fun i => p (ns.getD i 0)) (fun i => f (ns.getD i 0)) (by rw [List.length_map]; exact hn) ha (fun i x H k k2 hx kp h1 h2 => ?_) fun D H hD kp h => fin D H hD kp ?_
  · obtain ⟨n, rfl, hn⟩ := map_int hx
    have e : ns.getD i 0 = n := by rw [List.getD_eq_getElem?_getD, hn] <;> rfl
    refine step n H k k2 (List.mem_of_getElem? hn) kp (fun H4 k4 hp => ?_) fun H4 k4 hp => ?_
    · have q := h1 H4 k4 (by rw [e]; exact hp)
      rw [e] at q
      exact q
    · exact h2 H4 k4 (by rw [e]; exact hp)
  · rw [h, List.length_map]
    exact congrArg (fun z => some (HO.lst z)) (range_filter 0 p f ns)
end
section
variable {K : PySem.W.Frag} {σ : L2.St} {te : TE} {J : It}
theorem tupUpd {H : Hp} {D q : Addr} {xs ys : List V} {o : HO} (hD : H D = some (.lst xs)) (h : H q = some (.tup ys)) : upd H D o q = some (.tup ys) := by
  rw [upd_ne (fun z => by
    rw [z, hD] at h
    cases h)]
  exact h
/-- a comprehension whose elements are tuples of told contents -/
theorem LcJ.tups {n : Nat} {xv : Nat → V} {j : Nat} {H0 : Hp} {Q : VK} (T : Nat → List V) (hn : n ≤ sizeLine) (hgo : ∀ i H, i < n → Kept H0 H → J.go i H) (hy : ∀ i H x H', i < n → Kept H0 H → J.yld i H x H' → H' = H ∧ x = xv i) (hstop : ∀ H, Kept H0 H → J.stop n H)
    (step : ∀ i H (k2 : VK), i < n → Kept H0 H → (∀ H4 q, Kept H H4 → H4 q = some (.tup (T i)) → k2 (.ref q) H4) → te ((wipe σ [j]).set j (some (xv i))) H k2)
    (fin : ∀ D H (qs : List Addr), H0 D = none → Kept H0 H → H D = some (.lst (qs.map V.ref)) → qs.length = n → (∀ i q, qs[i]? = some q → H q = some (.tup (T i))) → Q (.ref D) H) : LcJ (gName j) tYes te [j] σ Q J H0 := by
  intro D hD
  refine c_walk (xv := xv) (fun i H => Kept H0 H ∧ ∃ qs : List Addr, H D = some (.lst (qs.map V.ref)) ∧ qs.length = i ∧ ∀ i q, qs[i]? = some q → H q = some (.tup (T i))) ⟨Kept.new hD, [], upd_same, rfl, fun i q h => by simp at h⟩ (fun i H h s => hgo i H h s.1) (fun i H x H' h s => hy i H x H' h s.1) (fun H s => hstop H s.1) (fun i H hi s => ?_) fun H s => ?_
  · obtain ⟨kp, qs, h1, h2, h3⟩ := s
    refine ⟨wipe_one, w_yes (if_t rfl ?_)⟩
    refine step i H _ hi kp fun H4 q k4 hq => ⟨_, k4.lst h1, ?_, Kept.mut (kp.trans k4) hD, qs ++ [q], ?_, ?_, fun m r hr => ?_⟩
    · rw [List.length_map, h2]
      omega
    · rw [List.map_append]
      exact upd_same
    · rw [List.length_append, h2] <;> rfl
    · by_cases hm : m < qs.length
      · rw [List.getElem?_append_left hm] at hr
        exact tupUpd (k4.lst h1) (k4.tup (h3 m r hr))
      · rw [List.getElem?_append_right (by omega)] at hr
        cases z : m - qs.length with
        | zero =>
          rw [z] at hr
          cases hr
          have e : m = i := by omega
          rw [e]
          exact tupUpd (k4.lst h1) hq
        | succ m =>
          rw [z] at hr
          simp at hr
  · obtain ⟨kp, qs, h1, h2, h3⟩ := s
    exact fin D H qs hD kp h1 h2 h3
theorem LcL.tups {a : Addr} {xs : List V} {j : Nat} {H0 : Hp} {Q : VK} (T : Nat → List V) (hn : xs.length ≤ sizeLine) (ha : H0 a = some (.lst xs))
    (step : ∀ i x H (k2 : VK), xs[i]? = some x → Kept H0 H → (∀ H4 q, Kept H H4 → H4 q = some (.tup (T i)) → k2 (.ref q) H4) → te ((wipe σ [j]).set j (some x)) H k2)
    (fin : ∀ D H (qs : List Addr), H0 D = none → Kept H0 H → H D = some (.lst (qs.map V.ref)) → qs.length = xs.length → (∀ i q, qs[i]? = some q → H q = some (.tup (T i))) → Q (.ref D) H) : LcL K (gName j) tYes te [j] σ Q (.ref a) H0 := by
  refine ⟨a, rfl, ⟨_, SqL.of ha⟩, LcJ.tups (xv := fun i => xs.getD i .non) T hn (fun i H h kp => ⟨xs, xs[i], SqL.of (kp.lst ha), List.getElem?_eq_getElem h⟩) (fun i H x H' h kp q => ?_) (fun H kp => ⟨xs, SqL.of (kp.lst ha), Nat.le_refl _⟩) (fun i H k2 h kp => step i _ H k2 (by rw [List.getD_eq_getElem?_getD, List.getElem?_eq_getElem h] <;> rfl) kp) fin⟩
  obtain ⟨e, q⟩ := q
  subst e
  refine ⟨rfl, ?_⟩
  rw [List.getD_eq_getElem?_getD, q xs (SqL.of (kp.lst ha))] <;> rfl
theorem LcT.tups {a : Addr} {xs : List V} {j : Nat} {H0 : Hp} {Q : VK} (T : Nat → List V) (hn : xs.length ≤ sizeLine) (ha : H0 a = some (.tup xs))
    (step : ∀ i x H (k2 : VK), xs[i]? = some x → Kept H0 H → (∀ H4 q, Kept H H4 → H4 q = some (.tup (T i)) → k2 (.ref q) H4) → te ((wipe σ [j]).set j (some x)) H k2)
    (fin : ∀ D H (qs : List Addr), H0 D = none → Kept H0 H → H D = some (.lst (qs.map V.ref)) → qs.length = xs.length → (∀ i q, qs[i]? = some q → H q = some (.tup (T i))) → Q (.ref D) H) : LcT K (gName j) tYes te [j] σ Q (.ref a) H0 := by
  refine ⟨a, rfl, ⟨_, SqT.of ha⟩, LcJ.tups (xv := fun i => xs.getD i .non) T hn (fun i H h kp => ⟨xs, xs[i], SqT.of (kp.tup ha), List.getElem?_eq_getElem h⟩) (fun i H x H' h kp q => ?_) (fun H kp => ⟨xs, SqT.of (kp.tup ha), Nat.le_refl _⟩) (fun i H k2 h kp => step i _ H k2 (by rw [List.getD_eq_getElem?_getD, List.getElem?_eq_getElem h] <;> rfl) kp) fin⟩
  obtain ⟨e, q⟩ := q
  subst e
  refine ⟨rfl, ?_⟩
  rw [List.getD_eq_getElem?_getD, q xs (SqT.of (kp.tup ha))] <;> rfl
end
theorem pg_tupK {X : Cx} {K : PySem.W.Frag} {pos : Pos} (hK : X.K = K) {es : List Expr} {k : Nat} {t : TGs} {n : Nat} (hc : X.calm = true) (h : PGs X es t)
    (hn : (assignEach es X.env).length = n := by rfl) (hst : (assignEach es X.env).findIdx? (·.1) = none := by rfl) : PG X (.Tuple es k pos) (gTup K n t) := by
  subst hK
  exact pg_tup hc h hn hst
end Ky

namespace Ky
open PySem PySem.Spec PyProof.Rows L2
/-! ### an index of a list or a tuple; >= of data; the whole of a tuple's slice; isinstance, the frame told -/
def rIxE (K : PySem.W.Frag) : R2 := fun x y H Q => rIxL K x y H Q ∨ rIxT K x y H Q
def rGeD (K : PySem.W.Frag) : R2 := fun x y H Q => ∃ d e, Dp K H x d ∧ Dp K H y e ∧ PySem.W.alike d e = true ∧ d ≠ .none ∧ d.depth ≤ 60 ∧ Q (.bl (!PySem.W.dataLt d e)) H
section
variable {X : Cx} {K : PySem.W.Frag}
theorem ix_either : IxR X (rIxE X.K) := by
  intro value slice pins s σ H x y v u Q I rx ry h hs
  rcases h with h | h
  · exact ix_list value slice pins s σ H x y v u Q I rx ry h hs
  · exact ix_tup value slice pins s σ H x y v u Q I rx ry h hs
theorem ix_eitherK (hK : X.K = K) : IxR X (rIxE K) := by subst hK; exact ix_either
theorem op_geD (hu : X.A.units + 64 < cLine) : OpR X (compareOp .GtE) (rGeD X.K) := by
  intro pins s σ H x y v u Q I rx ry h
  obtain ⟨d, e, hd, he, ha, hn, hz, q⟩ := h
  obtain ⟨as, r1⟩ := Dp.reads I d x v hd rx
  obtain ⟨bs, r2⟩ := Dp.reads I e y u he ry
  exact PySem.W.ge_data r1 r2 ha hn (by have := Nat.min_le_left d.depth e.depth; omega) ⟨.bl _, H, I, rfl, q⟩
theorem sl_tupAK (hK : X.K = K) : SlR X (rSlA K) := by subst hK; exact sl_tupA
theorem call_isiK (hK : X.K = K) : CallR X (.builtin "isinstance") (rIsi K) := by subst hK; exact call_isi
end
section
variable {σ : L2.St} {H : Hp} {Q : VK} {K : PySem.W.Frag} {x y : V}
theorem w_isi_bi {b : Bool} (q : Q (.bl true) H) : rIsi K [.bl b, .ty "int"] H Q := ⟨_, _, _, _, true, rfl, .ty _, .base (.bl b), kit_ty (by decide +kernel), q⟩
theorem w_isi_bb {b : Bool} (q : Q (.bl true) H) : rIsi K [.bl b, .ty "bool"] H Q := ⟨_, _, _, _, true, rfl, .ty _, .base (.bl b), kit_ty (by decide +kernel), q⟩
theorem w_isi_bt {b : Bool} (q : Q (.bl false) H) : rIsi K [.bl b, .ty "tuple"] H Q := ⟨_, _, _, _, false, rfl, .ty _, .base (.bl b), kit_ty (by decide +kernel), q⟩
theorem w_isi_si {z : Str} (q : Q (.bl false) H) : rIsi K [.str z, .ty "int"] H Q := ⟨_, _, _, _, false, rfl, .ty _, .base (.str z), kit_ty (by decide +kernel), q⟩
theorem w_isi_nt (q : Q (.bl false) H) : rIsi K [.non, .ty "tuple"] H Q := ⟨_, _, _, _, false, rfl, .ty _, .base .non, kit_ty (by decide +kernel), q⟩
theorem w_isi_ll {a : Addr} {xs : List V} (h : H a = some (.lst xs)) (q : Q (.bl true) H) : rIsi K [.ref a, .ty "list"] H Q := ⟨_, _, _, _, true, rfl, .ty _, .base (.lst h), kit_ty (by decide +kernel), q⟩
end
/-! ### values that a display makes: what is told of them stays true while the heap grows -/
def TupW (xs : List V) : V → Hp → Prop := fun v H => ∃ p, v = .ref p ∧ H p = some (.tup xs)
structure MkE (σ : L2.St) (H0 : Hp) (te : TE) (W : V → Hp → Prop) : Prop where
  up : ∀ v H H', Kept H H' → W v H → W v H'
  run : ∀ H Q, Kept H0 H → (∀ v H', Kept H H' → W v H' → Q v H') → te σ H Q
structure MkA (σ : L2.St) (H0 : Hp) (ta : TA) (W : List V → Hp → Prop) : Prop where
  up : ∀ v H H', Kept H H' → W v H → W v H'
  run : ∀ H Q, Kept H0 H → (∀ v H', Kept H H' → W v H' → Q v H') → ta σ H Q
section
variable {σ : L2.St} {H0 : Hp} {te ta tb : TE} {tq : TA} {K : PySem.W.Frag}
theorem mk_c {v : V} : MkE σ H0 (tC v) (fun x _ => x = v) := ⟨fun _ _ _ _ h => h, fun H Q k0 k => k v H (Kept.refl _) rfl⟩
theorem mk_var {i : Nat} {v : V} (h : σ[i]? = some (some v)) : MkE σ H0 (tVar i) (fun x _ => x = v) := ⟨fun _ _ _ _ h => h, fun H Q k0 k => ⟨v, h, k v H (Kept.refl _) rfl⟩⟩
theorem mk_varT {i : Nat} {a : Addr} {xs : List V} (h : σ[i]? = some (some (.ref a))) (ha : H0 a = some (.tup xs)) : MkE σ H0 (tVar i) (TupW xs) := ⟨fun v H H' k q => by
    obtain ⟨p, e, h⟩ := q
    exact ⟨p, e, k.tup h⟩, fun H Q k0 k => ⟨_, h, k _ H (Kept.refl _) ⟨a, rfl, k0.tup ha⟩⟩⟩
theorem mk_neg {n : Int} {te : TE} (h : MkE σ H0 te (fun x _ => x = .int n)) : MkE σ H0 (tUn (rU fun i => V.int (-i)) te) (fun x _ => x = .int (-n)) := ⟨fun _ _ _ _ h => h, fun H Q k0 k => h.run H _ k0 fun v H' k1 e => ⟨n, e, k _ H' k1 rfl⟩⟩
theorem mk_nil : MkA σ H0 tNil (fun vs _ => vs = []) := ⟨fun _ _ _ _ h => h, fun H Q k0 k => k [] H (Kept.refl _) rfl⟩
theorem mk_cons {W : V → Hp → Prop} {Ws : List V → Hp → Prop} (h : MkE σ H0 te W) (hs : MkA σ H0 tq Ws) : MkA σ H0 (tCons te tq) (fun vs H => ∃ v r, vs = v :: r ∧ W v H ∧ Ws r H) :=
  ⟨fun vs H H' k q => by
    obtain ⟨v, r, e, a, b⟩ := q
    exact ⟨v, r, e, h.up v H H' k a, hs.up r H H' k b⟩, fun H Q k0 k => h.run H _ k0 fun v H1 k1 w1 => hs.run H1 _ (k0.trans k1) fun r H2 k2 w2 => k _ H2 (k1.trans k2) ⟨v, r, rfl, h.up v H1 H2 k2 w1, w2⟩⟩
theorem mk_tup {Ws : List V → Hp → Prop} (h : MkA σ H0 tq Ws) (hl : ∀ vs H, Ws vs H → vs.length ≤ 1000) : MkE σ H0 (tTup tq) (fun v H => ∃ p xs, v = .ref p ∧ H p = some (.tup xs) ∧ Ws xs H) :=
  ⟨fun v H H' k q => by
    obtain ⟨p, xs, e, a, b⟩ := q
    exact ⟨p, xs, e, k.tup a, h.up xs H H' k b⟩, fun H Q k0 k => h.run H _ k0 fun vs H1 k1 w => ⟨Nat.le_trans (hl vs H1 w) (by decide), fun p hp => k _ _ (k1.trans (Kept.new hp)) ⟨p, vs, rfl, upd_same, h.up _ _ _ (Kept.new hp) w⟩⟩⟩
theorem MkE.weak {W W' : V → Hp → Prop} (h : MkE σ H0 te W) (hw : ∀ v H, W v H → W' v H) (hu : ∀ v H H', Kept H H' → W' v H → W' v H') : MkE σ H0 te W' := ⟨hu, fun H Q k0 k => h.run H Q k0 fun v H' k1 w => k v H' k1 (hw v H' w)⟩
theorem tupW_up {xs : List V} : ∀ v H H', Kept H H' → TupW xs v H → TupW xs v H' := fun v H H' k h => by
  obtain ⟨p, e, h⟩ := h
  exact ⟨p, e, k.tup h⟩
theorem mk_tupW {xs : List V} {Ws : List V → Hp → Prop} (h : MkA σ H0 tq Ws) (hw : ∀ vs H, Ws vs H → vs = xs) (hl : xs.length ≤ 1000) : MkE σ H0 (tTup tq) (TupW xs) :=
  (mk_tup h fun vs H w => by rw [hw vs H w]; exact hl).weak (fun v H q => by
    obtain ⟨p, ys, e, a, b⟩ := q
    rw [hw ys H b] at a
    exact ⟨p, e, a⟩) tupW_up
/-- a variable that holds a tuple -/
theorem mk_catW {xs ys : List V} (ha : MkE σ H0 ta (TupW xs)) (hb : MkE σ H0 tb (TupW ys)) (hl : xs.length + ys.length ≤ 1000) : MkE σ H0 (tOp (rCatA K) ta tb) (TupW (xs ++ ys)) :=
  ⟨tupW_up, fun H Q k0 k => ha.run H _ k0 fun v H1 k1 w1 => hb.run H1 _ (k0.trans k1) fun u H2 k2 w2 => by
    obtain ⟨a, rfl, h1⟩ := tupW_up v H1 H2 k2 w1
    obtain ⟨b, rfl, h2⟩ := w2
    have hz : 1000 ≤ sizeLine := by decide
    refine ⟨a, b, xs, ys, rfl, rfl, SqT.of h1, SqT.of h2, by omega, fun e => ?_, fun _ e => ?_, fun _ _ p hp => ?_⟩
    · subst e
      exact k _ H2 (k1.trans k2) ⟨b, rfl, h2⟩
    · subst e
      exact k _ H2 (k1.trans k2) ⟨a, rfl, by rw [List.append_nil]; exact h1⟩
    · exact k _ _ ((k1.trans k2).trans (Kept.new hp)) ⟨p, rfl, upd_same⟩⟩
theorem mk_to1 {xs : List V} (ha : MkE σ H0 ta (TupW xs)) : MkE σ H0 (tSl (rSlA K) ta tNoPart (tPart (tC (.int 1)))) (TupW (xs.take 1)) :=
  ⟨tupW_up, fun H Q k0 k => ha.run H _ k0 fun v H1 k1 w1 => by
    obtain ⟨a, rfl, h1⟩ := w1
    refine ⟨1, rfl, a, xs, rfl, SqT.of h1, fun e => ?_, fun e p hp => ?_⟩
    · have e2 := e.2
      rw [show HT.sIx xs.length xs.length (some 1) = min 1 xs.length from HT.sIx_nat _ _ 1] at e2
      refine k _ H1 k1 ⟨a, rfl, ?_⟩
      rw [List.take_of_length_le (by omega)]
      exact h1
    · refine k _ _ (k1.trans (Kept.new hp)) ⟨p, rfl, ?_⟩
      have ec : cutV xs none (some 1) = xs.take 1 := by
        unfold cutV
        rw [HT.sIx_none, show HT.sIx xs.length xs.length (some 1) = min 1 xs.length from HT.sIx_nat _ _ 1, Nat.sub_zero, List.drop_zero]
        by_cases h : 1 ≤ xs.length
        · rw [Nat.min_eq_left h]
        · have e0 : xs = [] := List.length_eq_zero_iff.mp (by omega)
          rw [e0] <;> rfl
      rw [← ec]
      exact upd_same⟩
theorem mk_of1 {xs : List V} (ha : MkE σ H0 ta (TupW xs)) : MkE σ H0 (tSl (rSlA K) ta (tPart (tC (.int 1))) tNoPart) (TupW (xs.drop 1)) :=
  ⟨tupW_up, fun H Q k0 k => ha.run H _ k0 fun v H1 k1 w1 => by
    obtain ⟨a, rfl, h1⟩ := w1
    refine ⟨1, rfl, a, xs, rfl, SqT.of h1, fun e => ?_, fun e p hp => ?_⟩
    · have e2 := e.1
      rw [show HT.sIx xs.length 0 (some 1) = min 1 xs.length from HT.sIx_nat _ _ 1] at e2
      have e0 : xs = [] := List.length_eq_zero_iff.mp (by omega)
      refine k _ H1 k1 ⟨a, rfl, ?_⟩
      rw [e0] at h1 ⊢
      exact h1
    · refine k _ _ (k1.trans (Kept.new hp)) ⟨p, rfl, ?_⟩
      have ec : cutV xs (some 1) none = xs.drop 1 := by
        unfold cutV
        rw [HT.sIx_none, show HT.sIx xs.length 0 (some 1) = min 1 xs.length from HT.sIx_nat _ _ 1]
        by_cases h : 1 ≤ xs.length
        · rw [Nat.min_eq_left h]
          exact List.take_of_length_le (by rw [List.length_drop]; exact Nat.le_refl _)
        · have e0 : xs = [] := List.length_eq_zero_iff.mp (by omega)
          rw [e0] <;> rfl
      rw [← ec]
      exact upd_same⟩
end
end Ky


namespace Ky
open PySem PySem.Spec PyProof.Rows L2
local macro_rules | `(tactic| walk_at "rd") => `(tactic| repeat (first
  | with_reducible refine w_seq ?_
  | with_reducible refine w_asg ?_
  | with_reducible refine w_ret ?_
  | with_reducible refine w_drop ?_
  | with_reducible refine w_ifs ?_
  | ((with_reducible refine' w_var ?hh ?_); (case hh => exact rfl))
  | with_reducible refine w_c ?_
  | with_reducible refine w_op ?_
  | with_reducible refine w_un ?_
  | with_reducible refine w_I0 ?_
  | with_reducible refine w_U ?_
  | with_reducible refine w_nil ?_
  | with_reducible refine w_cons ?_
  | with_reducible refine w_call ?_
  | with_reducible refine w_cb ?_
  | with_reducible refine w_test ?_
  | with_reducible refine w_B ?_
  | with_reducible refine w_bl ?_
  | with_reducible refine w_and ?_
  | with_reducible refine w_or ?_
  | with_reducible refine w_not ?_
  | with_reducible refine w_ife ?_
  | with_reducible refine w_gRd ?_
  | with_reducible refine w_andV ?_
  | with_reducible refine w_orV ?_
  | with_reducible refine w_notV ?_
  | with_reducible refine w_chain ?_
  | with_reducible refine w_din ?_
  | with_reducible refine w_isi_ii ?_
  | with_reducible refine w_isi_ib ?_
  | with_reducible refine w_isi_it ?_
  | with_reducible refine w_isi_st ?_
  | ((with_reducible refine w_isi_tt ?h1 ?_); (case h1 => first | assumption | exact upd_same))
  | with_reducible refine if_t rfl ?_
  | with_reducible refine if_f rfl ?_
  | with_reducible refine w_tup ?_
  | with_reducible refine w_lst ?_
  | with_reducible refine w_next ?_
  | with_reducible refine w_bm ?_
  | with_reducible refine w_sl ?_
  | with_reducible refine w_part ?_
  | with_reducible refine w_nop ?_
  | with_reducible refine w_isI ?_
  | with_reducible refine w_yes ?_
  | with_reducible refine w_gn ?_
  | with_reducible refine w_gsub ?_
  | ((with_reducible refine' w_setL ?h1 ?h2 ?_); (case h1 => first | assumption | exact upd_same); (case h2 => exact rfl))
  | with_reducible refine w_asgG ?_
  | with_reducible refine w_m1 ?_
  | with_reducible refine w_isS ?_
  | with_reducible refine w_tyS ?_
  | ((with_reducible refine' w_tyL ?h1 ?_); (case h1 => first | assumption | exact upd_same))
  | ((with_reducible refine' w_ixT ?h1 ?h2 ?_); (case h1 => first | assumption | exact upd_same); (case h2 => exact rfl))
  | ((with_reducible refine' w_ixL ?h1 ?h2 ?_); (case h1 => first | assumption | exact upd_same); (case h2 => exact rfl))
  | ((with_reducible refine w_eq ?h1 ?_); (case h1 => exact rfl))
  | ((with_reducible refine w_ne ?h1 ?_); (case h1 => exact rfl))
  | dsimp only [List.set_cons_zero, List.set_cons_succ, List.append_nil, List.cons_append, List.nil_append, cxOf]))

def absI (n : Int) : Int := if n < 0 then -n else n
def sgI (n : Int) : Int := if n > 0 then 1 else 0
def isVar (n : Int) : Bool := decide (1 ≤ n) && decide (n ≤ 999)
def isLit (n : Int) : Bool := isVar (absI n)
def keyV (n : Int) : List V := [.int (absI n), .int (sgI n)]
def spKey : Sp := fun vs H Q _ => ∃ n, vs = [.int n] ∧ ∀ p, H p = none → Q (.ref p) (upd H p (.tup (keyV n)))
section
variable {P : Program} {w : World} {K : PySem.W.Frag} {mg : Str → Option Value} {base : Heap} {uG : Value} {f : Addr} {fd : FuncData}
end
/-! ### keys as data -/
def keyD (n : Int) : PyData := .tuple [.int (absI n), .int (sgI n)]
def ckD (ls : List Int) : PyData := .tuple (ls.map keyD)
/-- a new tuple whose data are the keys of a clause -/
def spCKey : Sp := fun vs H Q _ => ∃ (a : Addr) (ls : List Int), vs = [.ref a] ∧ H a = some (.tup (ls.map V.int)) ∧ ls.length ≤ sizeLine ∧ ∀ (ps : List Addr) (p : Addr) (H' : Hp), Kept H H' → H p = none → H' p = some (.tup (ps.map V.ref)) → ps.length = ls.length → (∀ (i : Nat) (q : Addr) (n : Int), ps[i]? = some q → ls[i]? = some n → H' q = some (.tup (keyV n))) → Q (.ref p) H'
theorem dp_key {K : PySem.W.Frag} {H : Hp} {q : Addr} {n : Int} (h : H q = some (.tup (keyV n))) : Dp K H (.ref q) (keyD n) := .tup (SqT.of h) (.cons (.int _) (.cons (.int _) .nil))
theorem dpAll_of {K : PySem.W.Frag} {H : Hp} : ∀ {xs : List V} {ds : List PyData}, xs.length = ds.length → (∀ (i : Nat) (x : V) (d : PyData), xs[i]? = some x → ds[i]? = some d → Dp K H x d) → DpAll K H xs ds
  | [], [], _, _ => .nil
  | x :: xs, d :: ds, hl, h => .cons (h 0 x d rfl rfl) (dpAll_of (Nat.succ.inj hl) fun i y e h1 h2 => h (i + 1) y e h1 h2)
  | [], _ :: _, hl, _ => by cases hl
  | _ :: _, [], hl, _ => by cases hl
theorem dp_ckey {K : PySem.W.Frag} {H : Hp} {p : Addr} {ps : List Addr} {ls : List Int} (hp : H p = some (.tup (ps.map V.ref))) (hl : ps.length = ls.length) (h : ∀ (i : Nat) (q : Addr) (n : Int), ps[i]? = some q → ls[i]? = some n → H q = some (.tup (keyV n))) : Dp K H (.ref p) (ckD ls) :=
  .tup (SqT.of hp) (dpAll_of (by rw [List.length_map, List.length_map, hl]) fun i x d hx hd => by
    rw [List.getElem?_map] at hx hd
    obtain ⟨q, hq, rfl⟩ := Option.map_eq_some_iff.mp hx
    obtain ⟨n, hn, rfl⟩ := Option.map_eq_some_iff.mp hd
    exact dp_key (h i q n hq hn))
section
variable {P : Program} {w : World} {K : PySem.W.Frag} {mg : Str → Option Value} {base : Heap} {uG : Value} {f : Addr} {fd : FuncData}
theorem atI_eq {α : Type} {xs : List α} {i : Int} {j : Nat} {v : α} (e : i = (j : Int)) (h : xs[j]? = some v) : atI xs i = some v := by
  rw [e]
  exact atI_nat h
/-- each item is below the next -/
def ascD (ds : List PyData) : Bool := (List.range (ds.length - 1)).all fun j => PySem.W.dataLt (ds.getD j .none) (ds.getD (j + 1) .none)
theorem dpAll_at {K : PySem.W.Frag} {H : Hp} : ∀ {xs : List V} {ds : List PyData} {i : Nat} {x : V}, DpAll K H xs ds → xs[i]? = some x → ∃ d, ds[i]? = some d ∧ Dp K H x d
  | _, _, 0, _, .cons h _, e => by
    cases e
    exact ⟨_, rfl, h⟩
  | _, _, i + 1, _, .cons _ t, e => dpAll_at (i := i) t (by simpa using e)
end
end Ky

namespace Ky
open PySem PySem.Spec PyProof.Rows L2
local macro_rules | `(tactic| walk_at "rd") => `(tactic| repeat (first
  | with_reducible refine w_seq ?_
  | with_reducible refine w_asg ?_
  | with_reducible refine w_ret ?_
  | with_reducible refine w_drop ?_
  | with_reducible refine w_ifs ?_
  | ((with_reducible refine' w_var ?hh ?_); (case hh => exact rfl))
  | with_reducible refine w_c ?_
  | with_reducible refine w_op ?_
  | with_reducible refine w_un ?_
  | with_reducible refine w_I0 ?_
  | with_reducible refine w_U ?_
  | with_reducible refine w_nil ?_
  | with_reducible refine w_cons ?_
  | with_reducible refine w_call ?_
  | with_reducible refine w_cb ?_
  | with_reducible refine w_test ?_
  | with_reducible refine w_B ?_
  | with_reducible refine w_bl ?_
  | with_reducible refine w_and ?_
  | with_reducible refine w_or ?_
  | with_reducible refine w_not ?_
  | with_reducible refine w_ife ?_
  | with_reducible refine w_gRd ?_
  | with_reducible refine w_andV ?_
  | with_reducible refine w_orV ?_
  | with_reducible refine w_notV ?_
  | with_reducible refine w_chain ?_
  | with_reducible refine w_din ?_
  | with_reducible refine w_isi_ii ?_
  | with_reducible refine w_isi_ib ?_
  | with_reducible refine w_isi_it ?_
  | with_reducible refine w_isi_st ?_
  | ((with_reducible refine w_isi_tt ?h1 ?_); (case h1 => first | assumption | exact upd_same))
  | with_reducible refine if_t rfl ?_
  | with_reducible refine if_f rfl ?_
  | with_reducible refine w_tup ?_
  | with_reducible refine w_lst ?_
  | with_reducible refine w_next ?_
  | with_reducible refine w_bm ?_
  | with_reducible refine w_sl ?_
  | with_reducible refine w_part ?_
  | with_reducible refine w_nop ?_
  | with_reducible refine w_isI ?_
  | with_reducible refine w_yes ?_
  | with_reducible refine w_gn ?_
  | with_reducible refine w_gsub ?_
  | ((with_reducible refine' w_setL ?h1 ?h2 ?_); (case h1 => first | assumption | exact upd_same); (case h2 => exact rfl))
  | with_reducible refine w_asgG ?_
  | with_reducible refine w_m1 ?_
  | with_reducible refine w_isS ?_
  | with_reducible refine w_tyS ?_
  | ((with_reducible refine' w_tyL ?h1 ?_); (case h1 => first | assumption | exact upd_same))
  | ((with_reducible refine' w_ixT ?h1 ?h2 ?_); (case h1 => first | assumption | exact upd_same); (case h2 => exact rfl))
  | ((with_reducible refine' w_ixL ?h1 ?h2 ?_); (case h1 => first | assumption | exact upd_same); (case h2 => exact rfl))
  | ((with_reducible refine w_eq ?h1 ?_); (case h1 => exact rfl))
  | ((with_reducible refine w_ne ?h1 ?_); (case h1 => exact rfl))
  | dsimp only [List.set_cons_zero, List.set_cons_succ, List.append_nil, List.cons_append, List.nil_append, cxOf]))

theorem keyD_alike (a b : Int) : PySem.W.alike (keyD a) (keyD b) = true := by simp [keyD, PySem.W.alike, PySem.W.alikeAll]
theorem keyD_depth (a : Int) : (keyD a).depth ≤ 60 := by simp [keyD, PyData.depth, PyData.depthAll]
def bothS (ls : List Int) : Bool := (List.range (ls.map V.int).length).any fun i => decide (-(ls.getD i 0) ∈ ls)
def clauseF (ls : List Int) : List Int := srtBy keyD (dd ls)
def spClauseOf (P0 : Addr) : Sp := fun vs H Q _ => ∃ (a : Addr) (ls : List Int), vs = [.ref a] ∧ H a = some (.lst (ls.map V.int)) ∧ ls.length ≤ 1000 ∧ GxR.TabG H P0 ∧ (bothS ls = true → ∀ H', Kept H H' → Q .non H') ∧
  (bothS ls = false → ∀ p H', Kept H H' → H p = none → H' p = some (.tup ((clauseF ls).map V.int)) → Q (.ref p) H')
section
variable {P : Program} {w : World} {K : PySem.W.Frag} {mg : Str → Option Value} {base : Heap} {uG : Value} {f : Addr} {fd : FuncData}
end
end Ky

namespace Ky
open PySem PySem.Spec PyProof.Rows L2
local macro_rules | `(tactic| walk_at "rd") => `(tactic| repeat (first
  | with_reducible refine w_seq ?_
  | with_reducible refine w_asg ?_
  | with_reducible refine w_ret ?_
  | with_reducible refine w_drop ?_
  | with_reducible refine w_ifs ?_
  | ((with_reducible refine' w_var ?hh ?_); (case hh => exact rfl))
  | with_reducible refine w_c ?_
  | with_reducible refine w_op ?_
  | with_reducible refine w_un ?_
  | with_reducible refine w_I0 ?_
  | with_reducible refine w_U ?_
  | with_reducible refine w_nil ?_
  | with_reducible refine w_cons ?_
  | with_reducible refine w_call ?_
  | with_reducible refine w_cb ?_
  | with_reducible refine w_test ?_
  | with_reducible refine w_B ?_
  | with_reducible refine w_bl ?_
  | with_reducible refine w_and ?_
  | with_reducible refine w_or ?_
  | with_reducible refine w_not ?_
  | with_reducible refine w_ife ?_
  | with_reducible refine w_gRd ?_
  | with_reducible refine w_andV ?_
  | with_reducible refine w_orV ?_
  | with_reducible refine w_notV ?_
  | with_reducible refine w_chain ?_
  | with_reducible refine w_din ?_
  | with_reducible refine w_isi_ii ?_
  | with_reducible refine w_isi_ib ?_
  | with_reducible refine w_isi_it ?_
  | with_reducible refine w_isi_st ?_
  | ((with_reducible refine w_isi_tt ?h1 ?_); (case h1 => first | assumption | exact upd_same))
  | with_reducible refine if_t rfl ?_
  | with_reducible refine if_f rfl ?_
  | with_reducible refine w_tup ?_
  | with_reducible refine w_lst ?_
  | with_reducible refine w_next ?_
  | with_reducible refine w_bm ?_
  | with_reducible refine w_sl ?_
  | with_reducible refine w_part ?_
  | with_reducible refine w_nop ?_
  | with_reducible refine w_isI ?_
  | with_reducible refine w_yes ?_
  | with_reducible refine w_gn ?_
  | with_reducible refine w_gsub ?_
  | ((with_reducible refine' w_setL ?h1 ?h2 ?_); (case h1 => first | assumption | exact upd_same); (case h2 => exact rfl))
  | with_reducible refine w_asgG ?_
  | with_reducible refine w_m1 ?_
  | with_reducible refine w_isS ?_
  | with_reducible refine w_tyS ?_
  | ((with_reducible refine' w_tyL ?h1 ?_); (case h1 => first | assumption | exact upd_same))
  | ((with_reducible refine' w_ixT ?h1 ?h2 ?_); (case h1 => first | assumption | exact upd_same); (case h2 => exact rfl))
  | ((with_reducible refine' w_ixL ?h1 ?h2 ?_); (case h1 => first | assumption | exact upd_same); (case h2 => exact rfl))
  | ((with_reducible refine w_eq ?h1 ?_); (case h1 => exact rfl))
  | ((with_reducible refine w_ne ?h1 ?_); (case h1 => exact rfl))
  | dsimp only [List.set_cons_zero, List.set_cons_succ, List.append_nil, List.cons_append, List.nil_append, cxOf]))

theorem ckD_alike : ∀ (a b : List Int), PySem.W.alike (ckD a) (ckD b) = true := by
  have aux : ∀ (a b : List Int), PySem.W.alikeAll (a.map keyD) (b.map keyD) = true := by
    intro a
    induction a with
    | nil => intro b; simp [PySem.W.alikeAll]
    | cons x a ih =>
      intro b
      cases b with
      | nil => simp [PySem.W.alikeAll]
      | cons y b =>
        rw [List.map_cons, List.map_cons, PySem.W.alikeAll, keyD_alike, ih]
        rfl
  intro a b
  unfold ckD
  simp only [PySem.W.alike]
  exact aux a b
theorem ckD_depth (a : List Int) : (ckD a).depth ≤ 60 := by
  have aux : ∀ a : List Int, PyData.depthAll (a.map keyD) ≤ 2 := by
    intro a
    induction a with
    | nil => simp [PyData.depthAll]
    | cons x a ih =>
      rw [List.map_cons, PyData.depthAll]
      have h1 : (keyD x).depth ≤ 2 := by simp [keyD, PyData.depth, PyData.depthAll]
      omega
  unfold ckD
  simp only [PyData.depth]
  have := aux a
  omega
/-- rows of clauses at these places -/
def ClsAt (H : Hp) (bs : List Addr) (cs : List (List Int)) : Prop := bs.length = cs.length ∧ ∀ (i : Nat) (b : Addr) (c : List Int), bs[i]? = some b → cs[i]? = some c → H b = some (.tup (c.map V.int))
theorem ClsAt.kept {H H' : Hp} {bs : List Addr} {cs : List (List Int)} (h : ClsAt H bs cs) (k : Kept H H') : ClsAt H' bs cs := ⟨h.1, fun i b c h1 h2 => k.tup (h.2 i b c h1 h2)⟩
def residueF (cs : List (List Int)) : List (List Int) := srtBy ckD (dd cs)
theorem clsAt_zip {H : Hp} {bs : List Addr} {cs : List (List Int)} (h : ClsAt H bs cs) : ∀ p ∈ bs.zip cs, H p.1 = some (.tup (p.2.map V.int)) := fun p hp => by
  obtain ⟨i, hi⟩ := List.mem_iff_getElem?.mp hp
  rw [List.getElem?_zip_eq_some] at hi
  exact h.2 i _ _ hi.1 hi.2
theorem clsAt_of {H : Hp} {zs : List (Addr × List Int)} (h : ∀ p ∈ zs, H p.1 = some (.tup (p.2.map V.int))) : ClsAt H (zs.map (·.1)) (zs.map (·.2)) := by
  refine ⟨by rw [List.length_map, List.length_map], fun i b c h1 h2 => ?_⟩
  rw [List.getElem?_map] at h1 h2
  obtain ⟨p, hp, rfl⟩ := Option.map_eq_some_iff.mp h1
  rw [hp] at h2
  cases h2
  exact h p (List.mem_of_getElem? hp)
theorem sort_cls {H : Hp} {bs : List Addr} {cs : List (List Int)} (h : ClsAt H bs cs) : ∃ bs', sortD (bs.map V.ref) (cs.map ckD) = bs'.map V.ref ∧ ClsAt H bs' (srtBy ckD cs) := by
  have e1 : bs = (bs.zip cs).map (·.1) := (List.map_fst_zip (by rw [h.1]; exact Nat.le_refl _)).symm
  have e2 : cs = (bs.zip cs).map (·.2) := (List.map_snd_zip (by rw [h.1]; exact Nat.le_refl _)).symm
  refine ⟨(srtBy (fun p : Addr × List Int => ckD p.2) (bs.zip cs)).map (·.1), ?_, ?_⟩
  · have q := sortD_map (fun p : Addr × List Int => V.ref p.1) (fun p : Addr × List Int => ckD p.2) (bs.zip cs)
    have a1 : (bs.zip cs).map (fun p : Addr × List Int => V.ref p.1) = bs.map V.ref := by
      conv => rhs; rw [e1]
      rw [List.map_map] <;> rfl
    have a2 : (bs.zip cs).map (fun p : Addr × List Int => ckD p.2) = cs.map ckD := by
      conv => rhs; rw [e2]
      rw [List.map_map] <;> rfl
    rw [a1, a2] at q
    rw [q, List.map_map] <;> rfl
  · have q := srtBy_map (fun p : Addr × List Int => p.2) ckD (bs.zip cs)
    rw [← e2] at q
    rw [← q]
    exact clsAt_of fun p hp => clsAt_zip h p (mem_srtBy.mp hp)
theorem isKeys_cls {H : Hp} {cs : List (List Int)} {bs : List Addr} (h : IsKeys H (setDict (cs.map keysI)) bs) : ClsAt H bs cs := by
  induction cs generalizing bs with
  | nil =>
    cases h
    exact ⟨rfl, fun i b c h1 _ => by simp at h1⟩
  | cons c cs ih =>
    cases h with
    | cons h1 h2 =>
      obtain ⟨l1, l2⟩ := ih h2
      refine ⟨by rw [List.length_cons, List.length_cons, l1], fun i b d e1 e2 => ?_⟩
      cases i with
      | zero =>
        cases e1
        cases e2
        have z := h1
        rw [keysI_kV] at z
        exact z
      | succ i => exact l2 i b d (by simpa using e1) (by simpa using e2)
def spResidueOf : Sp := fun vs H Q _ => ∃ (a : Addr) (bs : List Addr) (cs : List (List Int)), vs = [.ref a] ∧ H a = some (.lst (bs.map V.ref)) ∧ ClsAt H bs cs ∧ cs.length ≤ 1000 ∧ (∀ c ∈ cs, c.length ≤ 1000) ∧
  ∀ p H' bs', Kept H H' → H p = none → H' p = some (.tup (bs'.map V.ref)) → ClsAt H' bs' (residueF cs) → Q (.ref p) H'
section
variable {P : Program} {w : World} {K : PySem.W.Frag} {mg : Str → Option Value} {base : Heap} {uG : Value} {f : Addr} {fd : FuncData}
end
end Ky

namespace Ky
open PySem PySem.Spec PyProof.Rows L2
local macro_rules | `(tactic| walk_at "rd") => `(tactic| repeat (first
  | with_reducible refine w_seq ?_
  | with_reducible refine w_asg ?_
  | with_reducible refine w_ret ?_
  | with_reducible refine w_drop ?_
  | with_reducible refine w_ifs ?_
  | ((with_reducible refine' w_var ?hh ?_); (case hh => exact rfl))
  | with_reducible refine w_c ?_
  | with_reducible refine w_op ?_
  | with_reducible refine w_un ?_
  | with_reducible refine w_I0 ?_
  | with_reducible refine w_U ?_
  | with_reducible refine w_nil ?_
  | with_reducible refine w_cons ?_
  | with_reducible refine w_call ?_
  | with_reducible refine w_cb ?_
  | with_reducible refine w_test ?_
  | with_reducible refine w_B ?_
  | with_reducible refine w_bl ?_
  | with_reducible refine w_and ?_
  | with_reducible refine w_or ?_
  | with_reducible refine w_not ?_
  | with_reducible refine w_ife ?_
  | with_reducible refine w_gRd ?_
  | with_reducible refine w_andV ?_
  | with_reducible refine w_orV ?_
  | with_reducible refine w_notV ?_
  | with_reducible refine w_chain ?_
  | with_reducible refine w_din ?_
  | with_reducible refine w_isi_ii ?_
  | with_reducible refine w_isi_ib ?_
  | with_reducible refine w_isi_it ?_
  | with_reducible refine w_isi_st ?_
  | ((with_reducible refine w_isi_tt ?h1 ?_); (case h1 => first | assumption | exact upd_same))
  | with_reducible refine if_t rfl ?_
  | with_reducible refine if_f rfl ?_
  | with_reducible refine w_tup ?_
  | with_reducible refine w_lst ?_
  | with_reducible refine w_next ?_
  | with_reducible refine w_bm ?_
  | with_reducible refine w_sl ?_
  | with_reducible refine w_part ?_
  | with_reducible refine w_nop ?_
  | with_reducible refine w_isI ?_
  | with_reducible refine w_yes ?_
  | with_reducible refine w_gn ?_
  | with_reducible refine w_gsub ?_
  | ((with_reducible refine' w_setL ?h1 ?h2 ?_); (case h1 => first | assumption | exact upd_same); (case h2 => exact rfl))
  | with_reducible refine w_asgG ?_
  | with_reducible refine w_m1 ?_
  | with_reducible refine w_isS ?_
  | with_reducible refine w_tyS ?_
  | ((with_reducible refine' w_tyL ?h1 ?_); (case h1 => first | assumption | exact upd_same))
  | ((with_reducible refine' w_ixT ?h1 ?h2 ?_); (case h1 => first | assumption | exact upd_same); (case h2 => exact rfl))
  | ((with_reducible refine' w_ixL ?h1 ?h2 ?_); (case h1 => first | assumption | exact upd_same); (case h2 => exact rfl))
  | ((with_reducible refine w_eq ?h1 ?_); (case h1 => exact rfl))
  | ((with_reducible refine w_ne ?h1 ?_); (case h1 => exact rfl))
  | dsimp only [List.set_cons_zero, List.set_cons_succ, List.append_nil, List.cons_append, List.nil_append, cxOf]))

theorem dpAll_ints {K : PySem.W.Frag} {H : Hp} : ∀ ls : List Int, DpAll K H (ls.map V.int) (ls.map PyData.int)
  | [] => .nil
  | n :: ls => .cons (.int n) (dpAll_ints ls)
def absAll (cs : List (List Int)) : List Int := cs.flatten.map absI
def isClauseF (ls : List Int) : Bool := (List.range (ls.map V.int).length).all (fun i => isLit (ls.getD i 0)) && ascD (ls.map fun n => .int (absI n))
section
variable {P : Program} {w : World} {K : PySem.W.Frag} {mg : Str → Option Value} {base : Heap} {uG : Value} {f : Addr} {fd : FuncData}
/-- the keys of the clause d stand at p -/
def CkAt (H : Hp) (p : Addr) (d : List Int) : Prop := ∃ qs : List Addr, H p = some (.tup (qs.map V.ref)) ∧ qs.length = d.length ∧ ∀ (i : Nat) (q : Addr) (n : Int), qs[i]? = some q → d[i]? = some n → H q = some (.tup (keyV n))
theorem CkAt.kept {H H' : Hp} {p : Addr} {d : List Int} (h : CkAt H p d) (k : Kept H H') : CkAt H' p d := by
  obtain ⟨qs, h1, h2, h3⟩ := h
  exact ⟨qs, k.tup h1, h2, fun i q n a b => k.tup (h3 i q n a b)⟩
theorem tup_upd {H : Hp} {D q : Addr} {xs ys : List V} {o : HO} (hD : H D = some (.lst xs)) (h : H q = some (.tup ys)) : upd H D o q = some (.tup ys) := by
  rw [upd_ne (fun z => by
    rw [z, hD] at h
    cases h)]
  exact h
theorem CkAt.updL {H : Hp} {p D : Addr} {d : List Int} {xs : List V} {o : HO} (h : CkAt H p d) (hD : H D = some (.lst xs)) : CkAt (upd H D o) p d := by
  obtain ⟨qs, h1, h2, h3⟩ := h
  exact ⟨qs, tup_upd hD h1, h2, fun i q n a b => tup_upd hD (h3 i q n a b)⟩
theorem CkAt.dp {K : PySem.W.Frag} {H : Hp} {p : Addr} {d : List Int} (h : CkAt H p d) : Dp K H (.ref p) (ckD d) := by
  obtain ⟨qs, h1, h2, h3⟩ := h
  exact dp_ckey h1 h2 h3
def isResidueF (cs : List (List Int)) : Bool := (List.range cs.length).all (fun i => isClauseF (cs.getD i [])) && ascD (cs.map ckD)
end
end Ky

namespace Ky
open PySem PySem.Spec PyProof.Rows L2
local macro_rules | `(tactic| walk_at "rd") => `(tactic| repeat (first
  | with_reducible refine w_seq ?_
  | with_reducible refine w_asg ?_
  | with_reducible refine w_ret ?_
  | with_reducible refine w_drop ?_
  | with_reducible refine w_ifs ?_
  | ((with_reducible refine' w_var ?hh ?_); (case hh => exact rfl))
  | with_reducible refine w_c ?_
  | with_reducible refine w_op ?_
  | with_reducible refine w_un ?_
  | with_reducible refine w_I0 ?_
  | with_reducible refine w_U ?_
  | with_reducible refine w_nil ?_
  | with_reducible refine w_cons ?_
  | with_reducible refine w_call ?_
  | with_reducible refine w_cb ?_
  | with_reducible refine w_test ?_
  | with_reducible refine w_B ?_
  | with_reducible refine w_bl ?_
  | with_reducible refine w_and ?_
  | with_reducible refine w_or ?_
  | with_reducible refine w_not ?_
  | with_reducible refine w_ife ?_
  | with_reducible refine w_gRd ?_
  | with_reducible refine w_andV ?_
  | with_reducible refine w_orV ?_
  | with_reducible refine w_notV ?_
  | with_reducible refine w_chain ?_
  | with_reducible refine w_din ?_
  | with_reducible refine w_isi_ii ?_
  | with_reducible refine w_isi_ib ?_
  | with_reducible refine w_isi_it ?_
  | with_reducible refine w_isi_st ?_
  | ((with_reducible refine w_isi_tt ?h1 ?_); (case h1 => first | assumption | exact upd_same))
  | with_reducible refine if_t rfl ?_
  | with_reducible refine if_f rfl ?_
  | with_reducible refine w_tup ?_
  | with_reducible refine w_lst ?_
  | with_reducible refine w_next ?_
  | with_reducible refine w_bm ?_
  | with_reducible refine w_sl ?_
  | with_reducible refine w_part ?_
  | with_reducible refine w_nop ?_
  | with_reducible refine w_isI ?_
  | with_reducible refine w_yes ?_
  | with_reducible refine w_gn ?_
  | with_reducible refine w_gsub ?_
  | ((with_reducible refine' w_setL ?h1 ?h2 ?_); (case h1 => first | assumption | exact upd_same); (case h2 => exact rfl))
  | with_reducible refine w_asgG ?_
  | with_reducible refine w_m1 ?_
  | with_reducible refine w_isS ?_
  | with_reducible refine w_tyS ?_
  | ((with_reducible refine' w_tyL ?h1 ?_); (case h1 => first | assumption | exact upd_same))
  | ((with_reducible refine' w_ixT ?h1 ?h2 ?_); (case h1 => first | assumption | exact upd_same); (case h2 => exact rfl))
  | ((with_reducible refine' w_ixL ?h1 ?h2 ?_); (case h1 => first | assumption | exact upd_same); (case h2 => exact rfl))
  | ((with_reducible refine w_eq ?h1 ?_); (case h1 => exact rfl))
  | ((with_reducible refine w_ne ?h1 ?_); (case h1 => exact rfl))
  | dsimp only [List.set_cons_zero, List.set_cons_succ, List.append_nil, List.cons_append, List.nil_append, cxOf]))

def keep1 (fs c : List Int) : Bool := (List.range (c.map V.int).length).any fun i => decide (c.getD i 0 ∈ fs)
def keepsF (cs : List (List Int)) (fs : List Int) : Bool := (List.range cs.length).all fun i => keep1 fs (cs.getD i [])
def spKeeps (P0 : Addr) : Sp := fun vs H Q _ => ∃ (a b : Addr) (bs : List Addr) (cs : List (List Int)) (fs : List Int), vs = [.ref a, .ref b] ∧ H a = some (.tup (bs.map V.ref)) ∧ ClsAt H bs cs ∧ H b = some (.tup (fs.map V.int)) ∧ fs.length ≤ 1000 ∧ GxR.TabG H P0 ∧ ∀ H', Kept H H' → Q (.bl (keepsF cs fs)) H'
section
variable {P : Program} {w : World} {K : PySem.W.Frag} {mg : Str → Option Value} {base : Heap} {uG : Value} {f : Addr} {fd : FuncData}
theorem dataLt_asym {x y : PyData} (h : PySem.W.dataLt x y = true) : PySem.W.dataLt y x = false := by
  have t := (PySem.W.sortLe_total (PyProof.Rows.listOrd PyProof.Rows.itemOrd) false fun d : PyData => PySem.W.keyToks d).total x y
  have e1 : PySem.W.sortLe (PyProof.Rows.listOrd PyProof.Rows.itemOrd) false (fun d : PyData => PySem.W.keyToks d) x y = !PySem.W.dataLt y x := rfl
  have e2 : PySem.W.sortLe (PyProof.Rows.listOrd PyProof.Rows.itemOrd) false (fun d : PyData => PySem.W.keyToks d) y x = !PySem.W.dataLt x y := rfl
  rw [e1, e2, h] at t
  cases z : PySem.W.dataLt y x with
  | false => rfl
  | true =>
    rw [z] at t
    rcases t with t | t <;> cases t
theorem dataLe_trans {x y z : PyData} (h1 : PySem.W.dataLt y x = false) (h2 : PySem.W.dataLt z y = false) : PySem.W.dataLt z x = false := by
  have t := (PySem.W.sortLe_total (PyProof.Rows.listOrd PyProof.Rows.itemOrd) false fun d : PyData => PySem.W.keyToks d).trans x y z
  have e1 : PySem.W.sortLe (PyProof.Rows.listOrd PyProof.Rows.itemOrd) false (fun d : PyData => PySem.W.keyToks d) x y = !PySem.W.dataLt y x := rfl
  have e2 : PySem.W.sortLe (PyProof.Rows.listOrd PyProof.Rows.itemOrd) false (fun d : PyData => PySem.W.keyToks d) y z = !PySem.W.dataLt z y := rfl
  have e3 : PySem.W.sortLe (PyProof.Rows.listOrd PyProof.Rows.itemOrd) false (fun d : PyData => PySem.W.keyToks d) x z = !PySem.W.dataLt z x := rfl
  rw [e1, e2, e3, h1, h2] at t
  have q := t rfl rfl
  cases w : PySem.W.dataLt z x with
  | false => rfl
  | true =>
    rw [w] at q
    cases q
theorem dataLt_trans {x y z : PyData} (h1 : PySem.W.dataLt x y = true) (h2 : PySem.W.dataLt y z = true) : PySem.W.dataLt x z = true := by
  cases w : PySem.W.dataLt x z with
  | true => rfl
  | false =>
    have q := dataLe_trans (dataLt_asym h2) w
    rw [h1] at q
    cases q
/-- the place where a clause would stand -/
def isPlace (c : List Int) (cs : List (List Int)) (n : Nat) : Prop := n ≤ cs.length ∧ (∀ i, i < n → PySem.W.dataLt (ckD (cs.getD i [])) (ckD c) = true) ∧ (∀ i, n ≤ i → i < cs.length → PySem.W.dataLt (ckD (cs.getD i [])) (ckD c) = false)
/-- the list ascends -/
def ascC (cs : List (List Int)) : Prop := cs.Pairwise fun x y => PySem.W.dataLt (ckD x) (ckD y) = true
def spPlace : Sp := fun vs H Q _ => ∃ (a b : Addr) (bs : List Addr) (cs : List (List Int)) (c : List Int), vs = [.ref a, .ref b] ∧ H a = some (.tup (c.map V.int)) ∧ c.length ≤ 1000 ∧ H b = some (.lst (bs.map V.ref)) ∧ ClsAt H bs cs ∧ ascC cs ∧ cs.length ≤ 1000 ∧ (∀ d ∈ cs, d.length ≤ 1000) ∧
  ∀ n H', Kept H H' → isPlace c cs n → Q (.int (n : Nat)) H'
end
end Ky

namespace Ky
open PySem PySem.Spec PyProof.Rows L2
theorem key_inj {n m : Int} (h1 : absI n = absI m) (h2 : sgI n = sgI m) : n = m := by
  unfold absI at h1
  unfold sgI at h2
  by_cases a : n < 0 <;> by_cases b : m < 0 <;> by_cases c : n > 0 <;> by_cases d : m > 0 <;> simp [a, b, c, d] at h1 h2 <;> omega
theorem ck_inj : ∀ a b : List Int, PySem.W.keyToksAll (a.map keyD) = PySem.W.keyToksAll (b.map keyD) → a = b
  | [], [], _ => rfl
  | [], y :: b, h => by
    simp [PySem.W.keyToksAll] at h
  | x :: a, [], h => by
    simp [PySem.W.keyToksAll] at h
  | x :: a, y :: b, h => by
    rw [List.map_cons, List.map_cons, PySem.W.keyToksAll, PySem.W.keyToksAll] at h
    simp only [keyD, PySem.W.keyToks, PySem.W.keyToksAll, List.cons_append, List.nil_append, List.append_assoc] at h
    simp only [List.cons.injEq, Sum.inl.injEq, true_and] at h
    obtain ⟨h1, h2, h3⟩ := h
    rw [key_inj h1 h2, ck_inj a b h3]
theorem ck_total {a b : List Int} (h1 : PySem.W.dataLt (ckD a) (ckD b) = false) (h2 : PySem.W.dataLt (ckD b) (ckD a) = false) : a = b := by
  have e := (PyProof.Rows.listOrd PyProof.Rows.itemOrd).total (PySem.W.keyToks (ckD a)) (PySem.W.keyToks (ckD b)) h1 h2
  unfold ckD at e
  simp only [PySem.W.keyToks] at e
  exact ck_inj a b e
theorem lt_irr (x : PyData) : PySem.W.dataLt x x = false := (PyProof.Rows.listOrd PyProof.Rows.itemOrd).irrefl _
theorem lt_or {a b : List Int} (h : a ≠ b) (h2 : PySem.W.dataLt (ckD a) (ckD b) = false) : PySem.W.dataLt (ckD b) (ckD a) = true := by
  cases w : PySem.W.dataLt (ckD b) (ckD a) with
  | true => rfl
  | false => exact absurd (ck_total h2 w) h
theorem asc_unique : ∀ {xs ys : List (List Int)}, ascC xs → ascC ys → (∀ d, d ∈ xs ↔ d ∈ ys) → xs = ys
  | [], [], _, _, _ => rfl
  | [], y :: ys, _, _, h => absurd ((h y).mpr List.mem_cons_self) (by simp)
  | x :: xs, [], _, _, h => absurd ((h x).mp List.mem_cons_self) (by simp)
  | x :: xs, y :: ys, hx, hy, h => by
    obtain ⟨x1, x2⟩ := List.pairwise_cons.mp hx
    obtain ⟨y1, y2⟩ := List.pairwise_cons.mp hy
    have e : x = y := by
      rcases List.mem_cons.mp ((h x).mp List.mem_cons_self) with e | e
      · exact e
      · rcases List.mem_cons.mp ((h y).mpr List.mem_cons_self) with e2 | e2
        · exact e2.symm
        · have a := dataLt_asym (y1 x e)
          rw [x1 y e2] at a
          cases a
    subst e
    have nx : x ∉ xs := fun z => by
      have := x1 x z
      rw [lt_irr] at this
      cases this
    have ny : x ∉ ys := fun z => by
      have := y1 x z
      rw [lt_irr] at this
      cases this
    rw [asc_unique x2 y2 fun d => ⟨fun z => ((List.mem_cons.mp ((h d).mp (List.mem_cons_of_mem _ z))).resolve_left fun e => nx (e ▸ z)), fun z => ((List.mem_cons.mp ((h d).mpr (List.mem_cons_of_mem _ z))).resolve_left fun e => ny (e ▸ z))⟩]
theorem getD_mem {ds : List (List Int)} {i : Nat} (h : i < ds.length) : ds.getD i [] = ds[i] := by rw [List.getD_eq_getElem?_getD, List.getElem?_eq_getElem h] <;> rfl
theorem place_has {s : List Int} {ds : List (List Int)} {n : Nat} (hp : isPlace s ds n) (ha : ascC ds) (hn : n < ds.length → ds[n]? ≠ some s) : s ∉ ds := fun hm => by
  obtain ⟨j, hj, e⟩ := List.getElem_of_mem hm
  obtain ⟨p1, p2, p3⟩ := hp
  by_cases h : j < n
  · have q := p2 j h
    rw [getD_mem hj, e, lt_irr] at q
    cases q
  · by_cases h2 : j = n
    · subst h2
      exact hn hj (by rw [List.getElem?_eq_getElem hj, e])
    · have hnl : n < ds.length := by omega
      have q := List.pairwise_iff_getElem.mp ha n j hnl hj (by omega)
      rw [e] at q
      have y := p3 n (Nat.le_refl _) hnl
      rw [getD_mem hnl, q] at y
      cases y
theorem place_ins {s : List Int} {ds : List (List Int)} {n : Nat} (hp : isPlace s ds n) (ha : ascC ds) (hs : s ∉ ds) : ascC (ds.take n ++ [s] ++ ds.drop n) ∧ ∀ d, d ∈ ds.take n ++ [s] ++ ds.drop n ↔ d ∈ ds ∨ d = s := by
  obtain ⟨p1, p2, p3⟩ := hp
  have t1 : ∀ d ∈ ds.take n, PySem.W.dataLt (ckD d) (ckD s) = true := fun d hd => by
    obtain ⟨i, hi, e⟩ := List.getElem_of_mem hd
    have hi2 : i < n := by rw [List.length_take] at hi; omega
    have hi3 : i < ds.length := by omega
    have q := p2 i hi2
    rw [getD_mem hi3] at q
    rw [← e, List.getElem_take]
    exact q
  have t2 : ∀ d ∈ ds.drop n, PySem.W.dataLt (ckD s) (ckD d) = true := fun d hd => by
    obtain ⟨i, hi, e⟩ := List.getElem_of_mem hd
    rw [List.length_drop] at hi
    have hi3 : n + i < ds.length := by omega
    have q := p3 (n + i) (by omega) hi3
    rw [getD_mem hi3] at q
    rw [← e, List.getElem_drop]
    exact lt_or (fun z => hs (z ▸ List.getElem_mem hi3)) q
  have hsplit : ds.take n ++ ds.drop n = ds := List.take_append_drop n ds
  refine ⟨?_, fun d => ?_⟩
  · have ha2 : ascC (ds.take n ++ ds.drop n) := by rw [hsplit]; exact ha
    obtain ⟨a1, a2, a3⟩ := List.pairwise_append.mp ha2
    refine List.pairwise_append.mpr ⟨List.pairwise_append.mpr ⟨a1, List.pairwise_singleton _ _, fun x hx y hy => ?_⟩, a2, fun x hx y hy => ?_⟩
    · rw [List.mem_singleton.mp hy]; exact t1 x hx
    · rcases List.mem_append.mp hx with hx | hx
      · exact a3 x hx y hy
      · rw [List.mem_singleton.mp hx]; exact t2 y hy
  · rw [List.mem_append, List.mem_append, List.mem_singleton]
    constructor
    · rintro ((h | h) | h)
      · exact .inl (List.mem_of_mem_take h)
      · exact .inr h
      · exact .inl (List.mem_of_mem_drop h)
    · rintro (h | h)
      · rw [← hsplit] at h
        rcases List.mem_append.mp h with h | h
        · exact .inl (.inl h)
        · exact .inr h
      · exact .inl (.inr h)
/-- sorted, without repeats: it ascends -/
theorem asc_srt (cs : List (List Int)) : ascC (residueF cs) := by
  unfold residueF
  have h1 := srtBy_pair ckD (dd cs)
  have h2 : (srtBy ckD (dd cs)).Nodup := (srtBy_perm ckD (dd cs)).nodup_iff.mpr (nodup_dd cs)
  refine List.pairwise_iff_getElem.mpr fun i j hi hj hij => ?_
  have a := List.pairwise_iff_getElem.mp h1 i j hi hj hij
  have b := List.pairwise_iff_getElem.mp h2 i j hi hj hij
  have a' : PySem.W.dataLt (ckD (srtBy ckD (dd cs))[j]) (ckD (srtBy ckD (dd cs))[i]) = false := by
    have z : (!PySem.W.dataLt (ckD (srtBy ckD (dd cs))[j]) (ckD (srtBy ckD (dd cs))[i])) = true := a
    cases w : PySem.W.dataLt (ckD (srtBy ckD (dd cs))[j]) (ckD (srtBy ckD (dd cs))[i]) with
    | false => rfl
    | true => rw [w] at z; cases z
  exact lt_or (Ne.symm b) a'
theorem mem_residueF {cs : List (List Int)} {d : List Int} : d ∈ residueF cs ↔ d ∈ cs := by unfold residueF; rw [mem_srtBy, mem_dd]
theorem asc_is {cs ds : List (List Int)} (h : ascC ds) (hm : ∀ d, d ∈ ds ↔ d ∈ cs) : ds = residueF cs := asc_unique h (asc_srt cs) fun d => by rw [hm, mem_residueF]
end Ky

namespace Ky
open PySem PySem.Spec PyProof.Rows L2
local macro_rules | `(tactic| walk_at "rd") => `(tactic| repeat (first
  | with_reducible refine w_seq ?_
  | with_reducible refine w_asg ?_
  | with_reducible refine w_ret ?_
  | with_reducible refine w_drop ?_
  | with_reducible refine w_ifs ?_
  | ((with_reducible refine' w_var ?hh ?_); (case hh => exact rfl))
  | with_reducible refine w_c ?_
  | with_reducible refine w_op ?_
  | with_reducible refine w_un ?_
  | with_reducible refine w_I0 ?_
  | with_reducible refine w_U ?_
  | with_reducible refine w_nil ?_
  | with_reducible refine w_cons ?_
  | with_reducible refine w_call ?_
  | with_reducible refine w_cb ?_
  | with_reducible refine w_test ?_
  | with_reducible refine w_B ?_
  | with_reducible refine w_bl ?_
  | with_reducible refine w_and ?_
  | with_reducible refine w_or ?_
  | with_reducible refine w_not ?_
  | with_reducible refine w_ife ?_
  | with_reducible refine w_gRd ?_
  | with_reducible refine w_andV ?_
  | with_reducible refine w_orV ?_
  | with_reducible refine w_notV ?_
  | with_reducible refine w_chain ?_
  | with_reducible refine w_din ?_
  | with_reducible refine w_isi_ii ?_
  | with_reducible refine w_isi_ib ?_
  | with_reducible refine w_isi_it ?_
  | with_reducible refine w_isi_st ?_
  | ((with_reducible refine w_isi_tt ?h1 ?_); (case h1 => first | assumption | exact upd_same))
  | with_reducible refine if_t rfl ?_
  | with_reducible refine if_f rfl ?_
  | with_reducible refine w_tup ?_
  | with_reducible refine w_lst ?_
  | with_reducible refine w_next ?_
  | with_reducible refine w_bm ?_
  | with_reducible refine w_sl ?_
  | with_reducible refine w_part ?_
  | with_reducible refine w_nop ?_
  | with_reducible refine w_isI ?_
  | with_reducible refine w_yes ?_
  | with_reducible refine w_gn ?_
  | with_reducible refine w_gsub ?_
  | ((with_reducible refine' w_setL ?h1 ?h2 ?_); (case h1 => first | assumption | exact upd_same); (case h2 => exact rfl))
  | with_reducible refine w_asgG ?_
  | with_reducible refine w_m1 ?_
  | with_reducible refine w_isS ?_
  | with_reducible refine w_tyS ?_
  | ((with_reducible refine' w_tyL ?h1 ?_); (case h1 => first | assumption | exact upd_same))
  | ((with_reducible refine' w_ixT ?h1 ?h2 ?_); (case h1 => first | assumption | exact upd_same); (case h2 => exact rfl))
  | ((with_reducible refine' w_ixL ?h1 ?h2 ?_); (case h1 => first | assumption | exact upd_same); (case h2 => exact rfl))
  | ((with_reducible refine w_eq ?h1 ?_); (case h1 => exact rfl))
  | ((with_reducible refine w_ne ?h1 ?_); (case h1 => exact rfl))
  | dsimp only [List.set_cons_zero, List.set_cons_succ, List.append_nil, List.cons_append, List.nil_append, cxOf]))

theorem inV_ints (n : Int) (ls : List Int) : inV (.int n) (ls.map V.int) = decide (n ∈ ls) := by
  unfold inV
  rw [List.any_map, Bool.eq_iff_iff, List.any_eq_true, decide_eq_true_eq]
  constructor
  · rintro ⟨y, hy, e⟩
    have e : y = n := by simpa [eqV] using e
    rw [← e]
    exact hy
  · intro h
    exact ⟨n, h, by simp [eqV]⟩
theorem flat_ints (ls : List Int) : (ls.map V.int).all flatV = true := by
  rw [List.all_map]
  exact List.all_eq_true.mpr fun x _ => rfl
section
variable {K : PySem.W.Frag} {H : Hp} {Q : VK} {b : Addr} {n : Int} {ls : List Int}
theorem w_inT (h : H b = some (.tup (ls.map V.int))) (q : Q (.bl (decide (n ∈ ls))) H) : rIn K false (.int n) (.ref b) H Q := ⟨b, _, rfl, .inr (SqT.of h), rfl, flat_ints ls, by rw [inV_ints, if_neg Bool.false_ne_true]; exact q⟩
theorem w_ninT (h : H b = some (.tup (ls.map V.int))) (q : Q (.bl (decide (n ∉ ls))) H) : rIn K true (.int n) (.ref b) H Q := ⟨b, _, rfl, .inr (SqT.of h), rfl, flat_ints ls, by rw [inV_ints, if_pos rfl]; rw [decide_not] at q; exact q⟩
end
theorem canLay_ints : ∀ ls : List Int, PyData.canLayAll0 (ls.map PyData.int) = true
  | [] => by simp [PyData.canLayAll0]
  | x :: xs => by
    rw [List.map_cons, PyData.canLayAll0, canLay_ints xs]
    simp [PyData.canLay0]
theorem shT_ints (ls : List Int) : SeqAt.shaped (.tuple (ls.map PyData.int)) = true := by
  unfold SeqAt.shaped
  simp only [PyData.canLay0, canLay_ints, Bool.true_and, PyData.depth, PySem.W.depth_ints]
  rfl
theorem eqvAll_ints : ∀ xs ys : List Int, PyData.eqvAll (xs.map PyData.int) (ys.map PyData.int) = decide (xs = ys)
  | [], [] => by simp [PyData.eqvAll]
  | [], y :: ys => by simp [PyData.eqvAll]
  | x :: xs, [] => by simp [PyData.eqvAll]
  | x :: xs, y :: ys => by
    rw [List.map_cons, List.map_cons, PyData.eqvAll, eqvAll_ints xs ys]
    simp only [PyData.eqv]
    by_cases h : x = y <;> by_cases h2 : xs = ys <;> simp [h, h2]
theorem eqv_ints (xs ys : List Int) : PyData.eqv (.tuple (xs.map PyData.int)) (.tuple (ys.map PyData.int)) = decide (xs = ys) := by
  simp only [PyData.eqv]
  exact eqvAll_ints xs ys
theorem dp_ints {K : PySem.W.Frag} {H : Hp} {b : Addr} {ls : List Int} (h : H b = some (.tup (ls.map V.int))) : Dp K H (.ref b) (.tuple (ls.map PyData.int)) := .tup (SqT.of h) (dpAll_ints ls)
theorem clsAt_upd {H : Hp} {D : Addr} {xs : List V} {o : HO} {ps : List Addr} {ds : List (List Int)} (h : ClsAt H ps ds) (hD : H D = some (.lst xs)) : ClsAt (upd H D o) ps ds := ⟨h.1, fun i b c h1 h2 => tup_upd hD (h.2 i b c h1 h2)⟩
theorem clsAt_ins {H : Hp} {ps : List Addr} {ds : List (List Int)} {s : Addr} {sh : List Int} (h : ClsAt H ps ds) (hs : H s = some (.tup (sh.map V.int))) (n : Nat) : ClsAt H (ps.take n ++ [s] ++ ps.drop n) (ds.take n ++ [sh] ++ ds.drop n) := by
  have e1 : ps = (ps.zip ds).map (·.1) := (List.map_fst_zip (by rw [h.1]; exact Nat.le_refl _)).symm
  have e2 : ds = (ps.zip ds).map (·.2) := (List.map_snd_zip (by rw [h.1]; exact Nat.le_refl _)).symm
  have q := clsAt_of (H := H) (zs := (ps.zip ds).take n ++ [(s, sh)] ++ (ps.zip ds).drop n) fun p hp => by
    rcases List.mem_append.mp hp with hp | hp
    · rcases List.mem_append.mp hp with hp | hp
      · exact clsAt_zip h p (List.mem_of_mem_take hp)
      · rw [List.mem_singleton.mp hp]; exact hs
    · exact clsAt_zip h p (List.mem_of_mem_drop hp)
  rw [List.map_append, List.map_append, List.map_append, List.map_append, List.map_take, List.map_drop, List.map_take, List.map_drop, ← e1, ← e2] at q
  exact q
/-- the clauses of a residue under a literal -/
def inUnder (cs : List (List Int)) (l : Int) (d : List Int) : Prop := ∃ c ∈ cs, l ∉ c ∧ c.filter (fun x => decide (x ≠ -l)) = d
def noBoth (c : List Int) : Prop := ∀ l, l ∈ c → -l ∉ c
def spUnder : Sp := fun vs H Q _ => ∃ (a : Addr) (bs : List Addr) (cs : List (List Int)) (l : Int), vs = [.ref a, .int l] ∧ H a = some (.tup (bs.map V.ref)) ∧ ClsAt H bs cs ∧ ascC cs ∧ cs.length ≤ 400 ∧ (∀ c ∈ cs, c.length ≤ 400 ∧ noBoth c) ∧
  ∀ p H' (bs' : List Addr) (ds : List (List Int)), ascC ds → (∀ d, d ∈ ds ↔ inUnder cs l d) → Kept H H' → H p = none → H' p = some (.tup (bs'.map V.ref)) → ClsAt H' bs' ds → Q (.ref p) H'
section
variable {P : Program} {w : World} {K : PySem.W.Frag} {mg : Str → Option Value} {base : Heap} {uG : Value} {f : Addr} {fd : FuncData}
end
end Ky

namespace Ky
open PySem PySem.Spec PyProof.Rows L2
local macro_rules | `(tactic| walk_at "rd") => `(tactic| repeat (first
  | with_reducible refine w_seq ?_
  | with_reducible refine w_asg ?_
  | with_reducible refine w_ret ?_
  | with_reducible refine w_drop ?_
  | with_reducible refine w_ifs ?_
  | ((with_reducible refine' w_var ?hh ?_); (case hh => exact rfl))
  | with_reducible refine w_c ?_
  | with_reducible refine w_op ?_
  | with_reducible refine w_un ?_
  | with_reducible refine w_I0 ?_
  | with_reducible refine w_U ?_
  | with_reducible refine w_nil ?_
  | with_reducible refine w_cons ?_
  | with_reducible refine w_call ?_
  | with_reducible refine w_cb ?_
  | with_reducible refine w_test ?_
  | with_reducible refine w_B ?_
  | with_reducible refine w_bl ?_
  | with_reducible refine w_and ?_
  | with_reducible refine w_or ?_
  | with_reducible refine w_not ?_
  | with_reducible refine w_ife ?_
  | with_reducible refine w_gRd ?_
  | with_reducible refine w_andV ?_
  | with_reducible refine w_orV ?_
  | with_reducible refine w_notV ?_
  | with_reducible refine w_chain ?_
  | with_reducible refine w_din ?_
  | with_reducible refine w_isi_ii ?_
  | with_reducible refine w_isi_ib ?_
  | with_reducible refine w_isi_it ?_
  | with_reducible refine w_isi_st ?_
  | ((with_reducible refine w_isi_tt ?h1 ?_); (case h1 => first | assumption | exact upd_same))
  | with_reducible refine if_t rfl ?_
  | with_reducible refine if_f rfl ?_
  | with_reducible refine w_tup ?_
  | with_reducible refine w_lst ?_
  | with_reducible refine w_next ?_
  | with_reducible refine w_bm ?_
  | with_reducible refine w_sl ?_
  | with_reducible refine w_part ?_
  | with_reducible refine w_nop ?_
  | with_reducible refine w_isI ?_
  | with_reducible refine w_yes ?_
  | with_reducible refine w_gn ?_
  | with_reducible refine w_gsub ?_
  | ((with_reducible refine' w_setL ?h1 ?h2 ?_); (case h1 => first | assumption | exact upd_same); (case h2 => exact rfl))
  | with_reducible refine w_asgG ?_
  | with_reducible refine w_m1 ?_
  | with_reducible refine w_isS ?_
  | with_reducible refine w_tyS ?_
  | ((with_reducible refine' w_tyL ?h1 ?_); (case h1 => first | assumption | exact upd_same))
  | ((with_reducible refine' w_ixT ?h1 ?h2 ?_); (case h1 => first | assumption | exact upd_same); (case h2 => exact rfl))
  | ((with_reducible refine' w_ixL ?h1 ?h2 ?_); (case h1 => first | assumption | exact upd_same); (case h2 => exact rfl))
  | ((with_reducible refine w_eq ?h1 ?_); (case h1 => exact rfl))
  | ((with_reducible refine w_ne ?h1 ?_); (case h1 => exact rfl))
  | dsimp only [List.set_cons_zero, List.set_cons_succ, List.append_nil, List.cons_append, List.nil_append, cxOf]))

def underF (cs : List (List Int)) (l : Int) : List (List Int) := residueF ((cs.filter fun c => decide (l ∉ c)).map fun c => c.filter fun x => decide (x ≠ -l))
theorem mem_underF {cs : List (List Int)} {l : Int} {d : List Int} : d ∈ underF cs l ↔ inUnder cs l d := by
  unfold underF inUnder
  rw [mem_residueF, List.mem_map]
  constructor
  · rintro ⟨c, h1, h2⟩
    obtain ⟨h1, h3⟩ := List.mem_filter.mp h1
    exact ⟨c, h1, of_decide_eq_true h3, h2⟩
  · rintro ⟨c, h1, h2, h3⟩
    exact ⟨c, List.mem_filter.mpr ⟨h1, decide_eq_true h2⟩, h3⟩
theorem underF_asc (cs : List (List Int)) (l : Int) : ascC (underF cs l) := asc_srt _
/-- a residue of small clauses -/
structure Small3 (cs : List (List Int)) : Prop where
  asc : ascC cs
  len : cs.length ≤ 400
  cl : ∀ c ∈ cs, c.length ≤ 400 ∧ noBoth c
theorem Small3.under {cs : List (List Int)} (h : Small3 cs) (l : Int) : Small3 (underF cs l) := by
  refine ⟨underF_asc cs l, ?_, fun d hd => ?_⟩
  · have h1 : (underF cs l).length ≤ cs.length := by
      unfold underF residueF
      rw [(srtBy_perm _ _).length_eq]
      refine Nat.le_trans (len_dd _) ?_
      rw [List.length_map]
      exact List.length_filter_le _ _
    exact Nat.le_trans h1 h.len
  · obtain ⟨c, h1, _, h3⟩ := mem_underF.mp hd
    obtain ⟨h4, h5⟩ := h.cl c h1
    rw [← h3]
    exact ⟨Nat.le_trans (List.length_filter_le _ _) h4, fun k hk hk2 => h5 k (List.mem_filter.mp hk).1 (List.mem_filter.mp hk2).1⟩
def spUnderAll : Sp := fun vs H Q _ => ∃ (a b : Addr) (bs : List Addr) (cs : List (List Int)) (ls : List Int), vs = [.ref a, .ref b] ∧ H a = some (.tup (bs.map V.ref)) ∧ ClsAt H bs cs ∧ Small3 cs ∧ H b = some (.lst (ls.map V.int)) ∧
  ∀ p H' (bs' : List Addr), Kept H H' → H' p = some (.tup (bs'.map V.ref)) → ClsAt H' bs' (ls.foldl underF cs) → Q (.ref p) H'
section
variable {P : Program} {w : World} {K : PySem.W.Frag} {mg : Str → Option Value} {base : Heap} {uG : Value} {f : Addr} {fd : FuncData}
/-! ### the law's own -/
/-- rows in the order of their data, each still what it was -/
theorem sort_at {γ : Type} (g : γ → PyData) (R : Addr → γ → Prop) {bs : List Addr} {cs : List γ} (hl : bs.length = cs.length) (h : ∀ (i : Nat) (b : Addr) (c : γ), bs[i]? = some b → cs[i]? = some c → R b c) :
    ∃ bs' : List Addr, sortD (bs.map V.ref) (cs.map g) = bs'.map V.ref ∧ bs'.length = (srtBy g cs).length ∧ ∀ (i : Nat) (b : Addr) (c : γ), bs'[i]? = some b → (srtBy g cs)[i]? = some c → R b c := by
  have e1 : bs = (bs.zip cs).map (·.1) := (List.map_fst_zip (by omega)).symm
  have e2 : cs = (bs.zip cs).map (·.2) := (List.map_snd_zip (by omega)).symm
  have hz : ∀ p ∈ bs.zip cs, R p.1 p.2 := fun p hp => by
    obtain ⟨i, hi⟩ := List.mem_iff_getElem?.mp hp
    rw [List.getElem?_zip_eq_some] at hi
    exact h i _ _ hi.1 hi.2
  have q2 := srtBy_map (fun p : Addr × γ => p.2) g (bs.zip cs)
  rw [← e2] at q2
  refine ⟨(srtBy (fun p : Addr × γ => g p.2) (bs.zip cs)).map (·.1), ?_, by rw [← q2, List.length_map, List.length_map], fun i b c h1 h2 => ?_⟩
  · have q := sortD_map (fun p : Addr × γ => V.ref p.1) (fun p : Addr × γ => g p.2) (bs.zip cs)
    have a1 : (bs.zip cs).map (fun p : Addr × γ => V.ref p.1) = bs.map V.ref := by
      conv => rhs; rw [e1]
      rw [List.map_map] <;> rfl
    have a2 : (bs.zip cs).map (fun p : Addr × γ => g p.2) = cs.map g := by
      conv => rhs; rw [e2]
      rw [List.map_map] <;> rfl
    rw [a1, a2] at q
    rw [q, List.map_map] <;> rfl
  · rw [← q2] at h2
    rw [List.getElem?_map] at h1 h2
    obtain ⟨p, hp, rfl⟩ := Option.map_eq_some_iff.mp h1
    rw [hp] at h2
    cases h2
    exact hz p (mem_srtBy.mp (List.mem_of_getElem? hp))
theorem mulW {i j : Int} (hi : i.natAbs < 2 ^ 64) (hj : j.natAbs < 2 ^ 64) : CMulW i j := by
  have h1 := PySem.Flt.log2_lt_of (by decide) hi
  have h2 := PySem.Flt.log2_lt_of (by decide) hj
  unfold CMulW
  omega
def spLClause : Sp := fun vs H Q _ => ∃ (a : Addr) (ls : List Int), vs = [.ref a] ∧ H a = some (.lst (ls.map V.int)) ∧ ls.length ≤ 1000 ∧ (∀ n ∈ ls, n.natAbs < 2 ^ 60) ∧ ∀ p H', Kept H H' → H p = none → H' p = some (.tup ((srtBy keyD ls).map V.int)) → Q (.ref p) H'
theorem sgn_back (n : Int) : absI n * (2 * sgI n - 1) = n := by
  unfold absI sgI
  by_cases h : n < 0
  · rw [if_pos h, if_neg (by omega)]
    omega
  · rw [if_neg h]
    by_cases h2 : n > 0
    · rw [if_pos h2]; omega
    · rw [if_neg h2]
      have : n = 0 := by omega
      subst this
      rfl
end
def pairD (c : List Int) : PyData := .tuple [.list (c.map keyD), .tuple (c.map .int)]
theorem ck_listL (a b : List Int) : PySem.W.dataLt (.list (a.map keyD)) (.list (b.map keyD)) = PySem.W.dataLt (ckD a) (ckD b) := by
  unfold ckD
  rw [PySem.W.dataLt_list, PySem.W.dataLt_tuple]
theorem key_eqv : ∀ a b : List Int, PyData.eqvAll (a.map keyD) (b.map keyD) = decide (a = b)
  | [], [] => by simp [PyData.eqvAll]
  | [], y :: ys => by simp [PyData.eqvAll]
  | x :: xs, [] => by simp [PyData.eqvAll]
  | x :: xs, y :: ys => by
    rw [List.map_cons, List.map_cons, PyData.eqvAll, key_eqv xs ys]
    have e : PyData.eqv (keyD x) (keyD y) = decide (x = y) := by
      by_cases h : x = y
      · subst h
        simp [keyD, PyData.eqv, PyData.eqvAll]
      · rw [decide_eq_false h]
        simp only [keyD, PyData.eqv, PyData.eqvAll, Bool.and_true]
        refine Bool.eq_false_iff.mpr fun z => h ?_
        rw [Bool.and_eq_true] at z
        exact key_inj (by simpa using z.1) (by simpa using z.2)
    rw [e]
    by_cases h : x = y <;> by_cases h2 : xs = ys <;> simp [h, h2]
theorem ints_alike : ∀ a b : List Int, PySem.W.alike (.tuple (a.map PyData.int)) (.tuple (b.map PyData.int)) = true := fun a b => by
  simp only [PySem.W.alike]
  exact PySem.W.alike_ints a b
theorem keysL_alike (a b : List Int) : PySem.W.alike (.list (a.map keyD)) (.list (b.map keyD)) = true := by
  have q := ckD_alike a b
  unfold ckD at q
  simp only [PySem.W.alike] at q ⊢
  exact q
theorem pair_lt (a b : List Int) : PySem.W.dataLt (pairD a) (pairD b) = PySem.W.dataLt (ckD a) (ckD b) := by
  unfold pairD
  rw [PySem.W.dataLt_pair (keysL_alike a b) (ints_alike a b), ck_listL]
  have e : PyData.eqv (.list (a.map keyD)) (.list (b.map keyD)) = decide (a = b) := by
    simp only [PyData.eqv]
    exact key_eqv a b
  rw [e, eqv_ints]
  by_cases h : a = b
  · subst h
    simp [lt_irr]
  · simp [h]
theorem pair_alike (a b : List Int) : PySem.W.alike (pairD a) (pairD b) = true := by
  unfold pairD
  simp only [PySem.W.alike, PySem.W.alikeAll]
  have q1 := keysL_alike a b
  have q2 := ints_alike a b
  simp only [PySem.W.alike] at q1 q2
  rw [q1, q2]
  rfl
theorem pair_depth (a : List Int) : (pairD a).depth ≤ 60 := by
  have h1 : (ckD a).depth ≤ 4 := by
    have aux : ∀ a : List Int, PyData.depthAll (a.map keyD) ≤ 2 := by
      intro a
      induction a with
      | nil => simp [PyData.depthAll]
      | cons x a ih =>
        rw [List.map_cons, PyData.depthAll]
        have h1 : (keyD x).depth ≤ 2 := by simp [keyD, PyData.depth, PyData.depthAll]
        omega
    unfold ckD
    simp only [PyData.depth]
    have := aux a
    omega
  unfold ckD at h1
  unfold pairD
  simp only [PyData.depth, PyData.depthAll, PySem.W.depth_ints] at h1 ⊢
  omega
theorem srt_pair (cs : List (List Int)) : srtBy pairD cs = srtBy ckD cs := srtBy_congr fun a _ b _ => pair_lt a b
end Ky

namespace Ky
open PySem PySem.Spec PyProof.Rows L2
local macro_rules | `(tactic| walk_at "rd") => `(tactic| repeat (first
  | with_reducible refine w_seq ?_
  | with_reducible refine w_asg ?_
  | with_reducible refine w_ret ?_
  | with_reducible refine w_drop ?_
  | with_reducible refine w_ifs ?_
  | ((with_reducible refine' w_var ?hh ?_); (case hh => exact rfl))
  | with_reducible refine w_c ?_
  | with_reducible refine w_op ?_
  | with_reducible refine w_un ?_
  | with_reducible refine w_I0 ?_
  | with_reducible refine w_U ?_
  | with_reducible refine w_nil ?_
  | with_reducible refine w_cons ?_
  | with_reducible refine w_call ?_
  | with_reducible refine w_cb ?_
  | with_reducible refine w_test ?_
  | with_reducible refine w_B ?_
  | with_reducible refine w_bl ?_
  | with_reducible refine w_and ?_
  | with_reducible refine w_or ?_
  | with_reducible refine w_not ?_
  | with_reducible refine w_ife ?_
  | with_reducible refine w_gRd ?_
  | with_reducible refine w_andV ?_
  | with_reducible refine w_orV ?_
  | with_reducible refine w_notV ?_
  | with_reducible refine w_chain ?_
  | with_reducible refine w_din ?_
  | with_reducible refine w_isi_ii ?_
  | with_reducible refine w_isi_ib ?_
  | with_reducible refine w_isi_it ?_
  | with_reducible refine w_isi_st ?_
  | ((with_reducible refine w_isi_tt ?h1 ?_); (case h1 => first | assumption | exact upd_same))
  | with_reducible refine if_t rfl ?_
  | with_reducible refine if_f rfl ?_
  | with_reducible refine w_tup ?_
  | with_reducible refine w_lst ?_
  | with_reducible refine w_next ?_
  | with_reducible refine w_bm ?_
  | with_reducible refine w_sl ?_
  | with_reducible refine w_part ?_
  | with_reducible refine w_nop ?_
  | with_reducible refine w_isI ?_
  | with_reducible refine w_yes ?_
  | with_reducible refine w_gn ?_
  | with_reducible refine w_gsub ?_
  | ((with_reducible refine' w_setL ?h1 ?h2 ?_); (case h1 => first | assumption | exact upd_same); (case h2 => exact rfl))
  | with_reducible refine w_asgG ?_
  | with_reducible refine w_m1 ?_
  | with_reducible refine w_isS ?_
  | with_reducible refine w_tyS ?_
  | ((with_reducible refine' w_tyL ?h1 ?_); (case h1 => first | assumption | exact upd_same))
  | ((with_reducible refine' w_ixT ?h1 ?h2 ?_); (case h1 => first | assumption | exact upd_same); (case h2 => exact rfl))
  | ((with_reducible refine' w_ixL ?h1 ?h2 ?_); (case h1 => first | assumption | exact upd_same); (case h2 => exact rfl))
  | ((with_reducible refine w_eq ?h1 ?_); (case h1 => exact rfl))
  | ((with_reducible refine w_ne ?h1 ?_); (case h1 => exact rfl))
  | dsimp only [List.set_cons_zero, List.set_cons_succ, List.append_nil, List.cons_append, List.nil_append, cxOf]))

section
variable {K : PySem.W.Frag} {a : Addr} {σ : L2.St} {H : Hp} {Q : VK} {i0 j : Nat}
/-- [key(x) for x in e], e a tuple of numbers -/
theorem rd_keys {ls : List Int} (hσ : σ[i0]? = some (some (.ref a))) (hj : j < σ.length) (ha : H a = some (.tup (ls.map V.int))) (hz : ls.length < sizeLine)
    (k : ∀ D (qs : List Addr) H', Kept H H' → H D = none → H' D = some (.lst (qs.map V.ref)) → qs.length = ls.length → (∀ (i : Nat) (q : Addr) (n : Int), qs[i]? = some q → ls[i]? = some n → H' q = some (.tup (keyV n))) → Q (.ref D) H') :
    tLc (iTup K (tVar i0)) (gName j) tYes (tCall spKey [] E0 (tCons (tVar j) tNil)) [j] σ H Q := by
  refine ⟨_, hσ, a, rfl, ⟨_, SqT.of ha⟩, fun D hD => ?_⟩
  refine c_tup (xs := ls.map V.int) (fun i H1 => ∃ qs : List Addr, H1 D = some (.lst (qs.map V.ref)) ∧ Kept H H1 ∧ qs.length = i ∧ ∀ (j : Nat) (q : Addr) (n : Int), qs[j]? = some q → ls[j]? = some n → H1 q = some (.tup (keyV n))) ⟨[], upd_same, Kept.new hD, rfl, fun j q n h => by simp at h⟩ (fun i H1 _ h => by
    obtain ⟨_, _, k1, _⟩ := h
    exact SqT.of (k1.tup ha)) (fun i x H1 hx h => ?_) fun H1 h => ?_
  · obtain ⟨qs, h1, h2, h3, h4⟩ := h
    obtain ⟨n, rfl, hn⟩ := map_int hx
    have hi : i < ls.length := (List.getElem?_eq_some_iff.mp hn).1
    refine ⟨wipe_one, w_yes (if_t rfl (w_call (w_cons ⟨_, var_set hj, w_nil ?_⟩)))⟩
    refine ⟨n, rfl, fun p hp => ?_⟩
    have kN := Kept.new (o := .tup (keyV n)) hp
    have hD4 := kN.lst h1
    refine ⟨qs.map V.ref, hD4, by rw [List.length_map, h3]; omega, qs ++ [p], by rw [List.map_append]; exact upd_same, Kept.mut (h2.trans kN) hD, by rw [List.length_append, h3] <;> rfl, fun j q m hq hm => ?_⟩
    by_cases hj : j < qs.length
    · rw [List.getElem?_append_left hj] at hq
      exact tup_upd hD4 (kN.tup (h4 j q m hq hm))
    · have hj2 : j < (qs ++ [p]).length := (List.getElem?_eq_some_iff.mp hq).1
      rw [List.length_append] at hj2
      have ej : j = qs.length := by
        have : j < qs.length + 1 := hj2
        omega
      subst ej
      have eq : q = p := by simpa using hq.symm
      subst eq
      rw [h3, hn] at hm
      cases hm
      exact tup_upd hD4 upd_same
  · obtain ⟨qs, h1, h2, h3, h4⟩ := h
    rw [List.length_map] at h3
    exact k D qs H1 h2 hD h1 h3 h4
end
/-- a pair (list of keys, clause) at t -/
def PairAt (H : Hp) (D b t : Addr) (c : List Int) : Prop := ∃ (q : Addr) (qs : List Addr), q ≠ D ∧ H t = some (.tup [.ref q, .ref b]) ∧ H q = some (.lst (qs.map V.ref)) ∧ qs.length = c.length ∧ (∀ (i : Nat) (r : Addr) (n : Int), qs[i]? = some r → c[i]? = some n → H r = some (.tup (keyV n))) ∧ H b = some (.tup (c.map V.int))
theorem PairAt.kept {H H' : Hp} {D b t : Addr} {c : List Int} (h : PairAt H D b t c) (k : Kept H H') : PairAt H' D b t c := by
  obtain ⟨q, qs, n, h1, h2, h3, h4, h5⟩ := h
  exact ⟨q, qs, n, k.tup h1, k.lst h2, h3, fun i r m a b => k.tup (h4 i r m a b), k.tup h5⟩
theorem PairAt.updL {H : Hp} {D b t : Addr} {c : List Int} {xs : List V} {o : HO} (h : PairAt H D b t c) (hD : H D = some (.lst xs)) : PairAt (upd H D o) D b t c := by
  obtain ⟨q, qs, n, h1, h2, h3, h4, h5⟩ := h
  exact ⟨q, qs, n, tup_upd hD h1, by rw [upd_ne n]; exact h2, h3, fun i r m a b => tup_upd hD (h4 i r m a b), tup_upd hD h5⟩
theorem PairAt.dp {K : PySem.W.Frag} {H : Hp} {D b t : Addr} {c : List Int} (h : PairAt H D b t c) : Dp K H (.ref t) (pairD c) := by
  obtain ⟨q, qs, n, h1, h2, h3, h4, h5⟩ := h
  refine .tup (SqT.of h1) (.cons (.lst (SqL.of h2) (dpAll_of (by rw [List.length_map, List.length_map, h3]) fun i x d hx hd => ?_)) (.cons (dp_ints h5) .nil))
  rw [List.getElem?_map] at hx hd
  obtain ⟨r, hr, rfl⟩ := Option.map_eq_some_iff.mp hx
  obtain ⟨m, hm, rfl⟩ := Option.map_eq_some_iff.mp hd
  exact dp_key (h4 i r m hr hm)
def spLSorted : Sp := fun vs H Q _ => ∃ (a : Addr) (bs : List Addr) (cs : List (List Int)), vs = [.ref a] ∧ H a = some (.lst (bs.map V.ref)) ∧ ClsAt H bs cs ∧ cs.length ≤ 1000 ∧ (∀ c ∈ cs, c.length ≤ 1000) ∧
  ∀ p H' bs', Kept H H' → H p = none → H' p = some (.lst (bs'.map V.ref)) → ClsAt H' bs' (srtBy ckD cs) → Q (.ref p) H'
section
variable {P : Program} {w : World} {K : PySem.W.Frag} {mg : Str → Option Value} {base : Heap} {uG : Value} {f : Addr} {fd : FuncData}
theorem asc_srtN {ds : List (List Int)} (h0 : ds.Nodup) : ascC (srtBy ckD ds) := by
  have h1 := srtBy_pair ckD ds
  have h2 : (srtBy ckD ds).Nodup := (srtBy_perm ckD ds).nodup_iff.mpr h0
  refine List.pairwise_iff_getElem.mpr fun i j hi hj hij => ?_
  have a := List.pairwise_iff_getElem.mp h1 i j hi hj hij
  have b := List.pairwise_iff_getElem.mp h2 i j hi hj hij
  have a' : PySem.W.dataLt (ckD (srtBy ckD ds)[j]) (ckD (srtBy ckD ds)[i]) = false := by
    have z : (!PySem.W.dataLt (ckD (srtBy ckD ds)[j]) (ckD (srtBy ckD ds)[i])) = true := a
    cases w : PySem.W.dataLt (ckD (srtBy ckD ds)[j]) (ckD (srtBy ckD ds)[i]) with
    | false => rfl
    | true => rw [w] at z; cases z
  exact lt_or (Ne.symm b) a'
def rowD (c : List Int) : PyData := .tuple (c.map .int)
theorem canLay_rows : ∀ ds : List (List Int), PyData.canLayAll0 (ds.map rowD) = true
  | [] => by simp [PyData.canLayAll0]
  | x :: xs => by
    rw [List.map_cons, PyData.canLayAll0, canLay_rows xs]
    simp only [rowD, PyData.canLay0, canLay_ints, Bool.and_self]
theorem depth_rows : ∀ ds : List (List Int), PyData.depthAll (ds.map rowD) ≤ 2
  | [] => by simp [PyData.depthAll]
  | x :: xs => by
    rw [List.map_cons, PyData.depthAll]
    have h1 := depth_rows xs
    have h2 : (rowD x).depth ≤ 2 := by
      simp only [rowD, PyData.depth, PySem.W.depth_ints]
      omega
    omega
theorem shL_rows (ds : List (List Int)) : SeqAt.shaped (.list (ds.map rowD)) = true := by
  have h1 := depth_rows ds
  have h2 : PyData.depth (.list (ds.map rowD)) ≤ 64 := by
    simp only [PyData.depth]
    omega
  show (PyData.canLay0 (.list (ds.map rowD)) && decide (PyData.depth (.list (ds.map rowD)) ≤ 64)) = true
  rw [Bool.and_eq_true]
  exact ⟨by simp only [PyData.canLay0]; exact canLay_rows ds, decide_eq_true h2⟩
theorem any_rows (s : List Int) (ds : List (List Int)) : ((ds.map rowD).any fun z => PyData.eqv z (.tuple (s.map PyData.int))) = decide (s ∈ ds) := by
  rw [List.any_map, Bool.eq_iff_iff, List.any_eq_true, decide_eq_true_eq]
  constructor
  · rintro ⟨y, hy, e⟩
    have e : PyData.eqv (.tuple (y.map PyData.int)) (.tuple (s.map PyData.int)) = true := e
    rw [eqv_ints, decide_eq_true_eq] at e
    rw [← e]
    exact hy
  · intro h
    refine ⟨s, h, ?_⟩
    show PyData.eqv (.tuple (s.map PyData.int)) (.tuple (s.map PyData.int)) = true
    rw [eqv_ints]
    exact decide_eq_true rfl
theorem w_ninL {K : PySem.W.Frag} {H : Hp} {Q : VK} {D s : Addr} {ps : List Addr} {ds : List (List Int)} {sh : List Int} (hD : H D = some (.lst (ps.map V.ref))) (hp : ClsAt H ps ds) (hs : H s = some (.tup (sh.map V.int))) (q : Q (.bl (decide (sh ∉ ds))) H) : rNotInD K (.ref s) (.ref D) H Q := by
  refine ⟨_, ds.map rowD, dp_ints hs, .lst (SqL.of hD) (dpAll_of (by rw [List.length_map, List.length_map, hp.1]) fun i x d hx hd => ?_), shT_ints sh, shL_rows ds, by rw [any_rows]; rw [decide_not] at q; exact q⟩
  rw [List.getElem?_map] at hx hd
  obtain ⟨b, hb, rfl⟩ := Option.map_eq_some_iff.mp hx
  obtain ⟨c, hc, rfl⟩ := Option.map_eq_some_iff.mp hd
  exact dp_ints (hp.2 i b c hb hc)
def spLGiven : Sp := fun vs H Q _ => ∃ (a : Addr) (bs : List Addr) (cs : List (List Int)) (l : Int), vs = [.ref a, .int l] ∧ H a = some (.tup (bs.map V.ref)) ∧ ClsAt H bs cs ∧ cs.length ≤ 400 ∧ (∀ c ∈ cs, c.length ≤ 400) ∧
  ∀ p H' bs', Kept H H' → H p = none → H' p = some (.tup (bs'.map V.ref)) → ClsAt H' bs' (underF cs l) → Q (.ref p) H'
end
end Ky

namespace Ky
open PySem PySem.Spec PyProof.Rows L2
local macro_rules | `(tactic| walk_at "rd") => `(tactic| repeat (first
  | with_reducible refine w_seq ?_
  | with_reducible refine w_asg ?_
  | with_reducible refine w_ret ?_
  | with_reducible refine w_drop ?_
  | with_reducible refine w_ifs ?_
  | ((with_reducible refine' w_var ?hh ?_); (case hh => exact rfl))
  | with_reducible refine w_c ?_
  | with_reducible refine w_op ?_
  | with_reducible refine w_un ?_
  | with_reducible refine w_I0 ?_
  | with_reducible refine w_U ?_
  | with_reducible refine w_nil ?_
  | with_reducible refine w_cons ?_
  | with_reducible refine w_call ?_
  | with_reducible refine w_cb ?_
  | with_reducible refine w_test ?_
  | with_reducible refine w_B ?_
  | with_reducible refine w_bl ?_
  | with_reducible refine w_and ?_
  | with_reducible refine w_or ?_
  | with_reducible refine w_not ?_
  | with_reducible refine w_ife ?_
  | with_reducible refine w_gRd ?_
  | with_reducible refine w_andV ?_
  | with_reducible refine w_orV ?_
  | with_reducible refine w_notV ?_
  | with_reducible refine w_chain ?_
  | with_reducible refine w_din ?_
  | with_reducible refine w_isi_ii ?_
  | with_reducible refine w_isi_ib ?_
  | with_reducible refine w_isi_it ?_
  | with_reducible refine w_isi_st ?_
  | ((with_reducible refine w_isi_tt ?h1 ?_); (case h1 => first | assumption | exact upd_same))
  | with_reducible refine if_t rfl ?_
  | with_reducible refine if_f rfl ?_
  | with_reducible refine w_tup ?_
  | with_reducible refine w_lst ?_
  | with_reducible refine w_next ?_
  | with_reducible refine w_bm ?_
  | with_reducible refine w_sl ?_
  | with_reducible refine w_part ?_
  | with_reducible refine w_nop ?_
  | with_reducible refine w_isI ?_
  | with_reducible refine w_yes ?_
  | with_reducible refine w_gn ?_
  | with_reducible refine w_gsub ?_
  | ((with_reducible refine' w_setL ?h1 ?h2 ?_); (case h1 => first | assumption | exact upd_same); (case h2 => exact rfl))
  | with_reducible refine w_asgG ?_
  | with_reducible refine w_m1 ?_
  | with_reducible refine w_isS ?_
  | with_reducible refine w_tyS ?_
  | ((with_reducible refine' w_tyL ?h1 ?_); (case h1 => first | assumption | exact upd_same))
  | ((with_reducible refine' w_ixT ?h1 ?h2 ?_); (case h1 => first | assumption | exact upd_same); (case h2 => exact rfl))
  | ((with_reducible refine' w_ixL ?h1 ?h2 ?_); (case h1 => first | assumption | exact upd_same); (case h2 => exact rfl))
  | ((with_reducible refine w_eq ?h1 ?_); (case h1 => exact rfl))
  | ((with_reducible refine w_ne ?h1 ?_); (case h1 => exact rfl))
  | dsimp only [List.set_cons_zero, List.set_cons_succ, List.append_nil, List.cons_append, List.nil_append, cxOf]))

section
variable {P : Program} {w : World} {K : PySem.W.Frag} {mg : Str → Option Value} {base : Heap} {uG : Value} {f : Addr} {fd : FuncData}
theorem shLi (ls : List Int) : SeqAt.shaped (.list (ls.map PyData.int)) = true := by
  unfold SeqAt.shaped
  simp only [PyData.canLay0, canLay_ints, Bool.true_and, PyData.depth, PySem.W.depth_ints]
  rfl
def spLKeeps : Sp := fun vs H Q _ => ∃ (a b : Addr) (bs : List Addr) (cs : List (List Int)) (fs : List Int), vs = [.ref a, .ref b] ∧ H a = some (.tup (bs.map V.ref)) ∧ ClsAt H bs cs ∧ (∀ c ∈ cs, c.length ≤ 1000) ∧ H b = some (.tup (fs.map V.int)) ∧ ∀ H', Kept H H' → Q (.bl (cs.all fun c => c.any fun x => decide (x ∈ fs))) H'
def spLLits : Sp := fun vs H Q _ => ∃ (d c : Addr), vs = [.ref d] ∧ DrwC d c H ∧ ∀ (p : Addr) H' (ls : List Int), H p = none → KeptC d c H H' → H' p = some (.lst (ls.map V.int)) → ls.length ≤ 4 → (∀ n ∈ ls, isLit n = true) → Q (.ref p) H'
end
end Ky

namespace Ky
open PySem PySem.Spec PyProof.Rows L2
/-! ### mathematics for the law -/
theorem range_all {α : Type} (d : α) (p : α → Bool) (xs : List α) : ((List.range xs.length).all fun i => p (xs.getD i d)) = xs.all p := by
  rw [Bool.eq_iff_iff, List.all_eq_true, List.all_eq_true]
  constructor
  · intro h x hx
    obtain ⟨i, hi, e⟩ := List.getElem_of_mem hx
    have q := h i (List.mem_range.mpr hi)
    rw [List.getD_eq_getElem?_getD, List.getElem?_eq_getElem hi, e] at q
    exact q
  · intro h i hi
    have hi := List.mem_range.mp hi
    rw [List.getD_eq_getElem?_getD, List.getElem?_eq_getElem hi]
    exact h _ (List.getElem_mem hi)
theorem range_any {α : Type} (d : α) (p : α → Bool) (xs : List α) : ((List.range xs.length).any fun i => p (xs.getD i d)) = xs.any p := by
  have h := range_all d (fun x => !p x) xs
  rw [← Bool.not_inj_iff, List.not_any_eq_all_not, List.not_any_eq_all_not]
  exact h
theorem keep1_any (fs c : List Int) : keep1 fs c = c.any fun x => decide (x ∈ fs) := by
  unfold keep1
  rw [List.length_map]
  exact range_any 0 (fun x => decide (x ∈ fs)) c
theorem keepsF_all (cs : List (List Int)) (fs : List Int) : keepsF cs fs = cs.all fun c => c.any fun x => decide (x ∈ fs) := by
  unfold keepsF
  rw [range_all [] (keep1 fs) cs]
  congr 1
  funext c
  exact keep1_any fs c
theorem ascD_pair {ds : List PyData} (h : ds.Pairwise fun a b => PySem.W.dataLt a b = true) : ascD ds = true := by
  unfold ascD
  refine List.all_eq_true.mpr fun j hj => ?_
  have hj := List.mem_range.mp hj
  have h1 : j < ds.length := by omega
  have h2 : j + 1 < ds.length := by omega
  rw [List.getD_eq_getElem?_getD, List.getElem?_eq_getElem h1, List.getD_eq_getElem?_getD, List.getElem?_eq_getElem h2]
  exact List.pairwise_iff_getElem.mp h j (j + 1) h1 h2 (by omega)
theorem ascD_not {ds : List PyData} {j : Nat} (h2 : j + 1 < ds.length) (h : PySem.W.dataLt (ds.getD j .none) (ds.getD (j + 1) .none) = false) : ascD ds = false := by
  unfold ascD
  exact List.all_eq_false.mpr ⟨j, List.mem_range.mpr (by omega), by rw [h]; exact Bool.false_ne_true⟩
theorem isClauseF_all (ls : List Int) : isClauseF ls = (ls.all isLit && ascD (ls.map fun n => .int (absI n))) := by
  unfold isClauseF
  rw [List.length_map, range_all 0 isLit ls]
theorem isResidueF_all (cs : List (List Int)) : isResidueF cs = (cs.all isClauseF && ascD (cs.map ckD)) := by
  unfold isResidueF
  rw [range_all [] isClauseF cs]
/-- a residue that ascends, of clauses, is one -/
theorem isResidueF_asc {cs : List (List Int)} (h : ascC cs) (hc : ∀ c ∈ cs, isClauseF c = true) : isResidueF cs = true := by
  rw [isResidueF_all, List.all_eq_true.mpr hc, Bool.true_and]
  exact ascD_pair (List.pairwise_map.mpr h)
/-- + 1000 is no clause -/
theorem isClauseF_big (ls : List Int) : isClauseF (ls ++ [1000]) = false := by
  rw [isClauseF_all, List.all_append]
  have e : List.all [(1000 : Int)] isLit = false := by decide
  rw [e, Bool.and_false, Bool.false_and]
theorem bothS_no {ls : List Int} (h : bothS ls = false) : noBoth ls := by
  unfold bothS at h
  rw [List.length_map, range_any 0 (fun x => decide (-x ∈ ls)) ls, List.any_eq_false] at h
  intro l hl hl2
  exact h l hl (decide_eq_true hl2)
theorem keyD_lt (a b : Int) : PySem.W.dataLt (keyD a) (keyD b) = if absI a = absI b then decide (sgI a < sgI b) else decide (absI a < absI b) := by
  unfold keyD
  rw [PySem.W.dataLt_pair (by simp [PySem.W.alike]) (by simp [PySem.W.alike]), PySem.W.dataLt_int, PySem.W.dataLt_int]
  simp only [PyData.eqv, beq_iff_eq]
  by_cases h : absI a = absI b
  · rw [if_pos h, if_pos h]
    by_cases h2 : sgI a = sgI b
    · rw [if_pos h2, h2]
      simp
    · rw [if_neg h2]
  · rw [if_neg h, if_neg h]
theorem absI_eq {a b : Int} (h : absI a = absI b) : a = b ∨ a = -b := by
  unfold absI at h
  split at h <;> split at h <;> omega
/-- sorted by key, without repeats and without both signs: it ascends in size -/
theorem clause_asc {ls : List Int} (hn : ls.Nodup) (hb : noBoth ls) : (srtBy keyD ls).Pairwise fun a b => absI a < absI b := by
  have h1 := srtBy_pair keyD ls
  have h2 : (srtBy keyD ls).Nodup := (srtBy_perm keyD ls).nodup_iff.mpr hn
  refine List.pairwise_iff_getElem.mpr fun i j hi hj hij => ?_
  have a := List.pairwise_iff_getElem.mp h1 i j hi hj hij
  have b := List.pairwise_iff_getElem.mp h2 i j hi hj hij
  have m1 : (srtBy keyD ls)[i] ∈ ls := mem_srtBy.mp (List.getElem_mem hi)
  have m2 : (srtBy keyD ls)[j] ∈ ls := mem_srtBy.mp (List.getElem_mem hj)
  generalize (srtBy keyD ls)[i] = x at a b m1 ⊢
  generalize (srtBy keyD ls)[j] = y at a b m2 ⊢
  have a : (!PySem.W.dataLt (keyD y) (keyD x)) = true := a
  rw [keyD_lt] at a
  have ne : absI y ≠ absI x := fun e => by
    rcases absI_eq e with e | e
    · exact b e.symm
    · exact hb x m1 (e ▸ m2)
  rw [if_neg ne] at a
  have a' : ¬ absI y < absI x := by simpa using a
  omega
theorem abs_asc {ls : List Int} (h : ls.Pairwise fun a b => absI a < absI b) : ascD (ls.map fun n => .int (absI n)) = true :=
  ascD_pair (List.pairwise_map.mpr (h.imp fun {a b} q => by rw [PySem.W.dataLt_int, decide_eq_true q]))
/-- what the law makes of literals is a clause -/
theorem isClauseF_srt {ls : List Int} (hn : ls.Nodup) (hb : noBoth ls) (hl : ∀ n ∈ ls, isLit n = true) : isClauseF (srtBy keyD ls) = true := by
  rw [isClauseF_all, abs_asc (clause_asc hn hb), Bool.and_true]
  exact List.all_eq_true.mpr fun n hn => hl n (mem_srtBy.mp hn)
/-- and backward it is none, if it has two -/
theorem isClauseF_rev {ls : List Int} (h : ls.Pairwise fun a b => absI a < absI b) (h2 : 2 ≤ ls.length) : isClauseF ls.reverse = false := by
  rw [isClauseF_all]
  have q : ascD (ls.reverse.map fun n => .int (absI n)) = false := by
    refine ascD_not (j := 0) (by rw [List.length_map, List.length_reverse]; omega) ?_
    have l1 : 0 < (ls.reverse.map fun n => PyData.int (absI n)).length := by rw [List.length_map, List.length_reverse]; omega
    have l2 : 0 + 1 < (ls.reverse.map fun n => PyData.int (absI n)).length := by rw [List.length_map, List.length_reverse]; omega
    rw [List.getD_eq_getElem?_getD, List.getElem?_eq_getElem l1, List.getD_eq_getElem?_getD, List.getElem?_eq_getElem l2]
    simp only [Option.getD_some, List.getElem_map, List.getElem_reverse, PySem.W.dataLt_int]
    have q := List.pairwise_iff_getElem.mp h (ls.length - 1 - 1) (ls.length - 1 - 0) (by omega) (by omega) (by omega)
    refine decide_eq_false ?_
    have e : ls.length - 1 - (0 + 1) = ls.length - 1 - 1 := by omega
    simp only [e]
    omega
  rw [q, Bool.and_false]
theorem isResidueF_end {ys : List (List Int)} {u v : List Int} (h : PySem.W.dataLt (ckD u) (ckD v) = false) : isResidueF (ys ++ [u, v]) = false := by
  rw [isResidueF_all]
  have q : ascD ((ys ++ [u, v]).map ckD) = false := by
    have e : (ys ++ [u, v]).map ckD = ys.map ckD ++ [ckD u, ckD v] := by rw [List.map_append] <;> rfl
    rw [e]
    refine ascD_not (j := (ys.map ckD).length) (by rw [List.length_append]; simp) ?_
    rw [List.getD_eq_getElem?_getD, List.getD_eq_getElem?_getD, List.getElem?_append_right (Nat.le_refl _), List.getElem?_append_right (Nat.le_succ _), Nat.sub_self, Nat.succ_sub (Nat.le_refl _), Nat.sub_self]
    exact h
  rw [q, Bool.and_false]
theorem last_of {α : Type} : ∀ {xs : List α}, 0 < xs.length → ∃ ys u, xs = ys ++ [u]
  | [], h => by simp at h
  | x :: xs, _ => by
    cases xs with
    | nil => exact ⟨[], x, rfl⟩
    | cons y t =>
      obtain ⟨ys, u, e⟩ := last_of (xs := y :: t) (by simp)
      exact ⟨x :: ys, u, by rw [e] <;> rfl⟩
/-- the last doubled -/
theorem isResidueF_dbl {cs : List (List Int)} (h : 0 < cs.length) : isResidueF (cs ++ cs.drop (cs.length - 1)) = false := by
  obtain ⟨ys, u, rfl⟩ := last_of h
  have e : (ys ++ [u]).drop ((ys ++ [u]).length - 1) = [u] := by
    rw [List.length_append]
    show List.drop (ys.length + 1 - 1) _ = _
    rw [Nat.add_sub_cancel, List.drop_left]
  rw [e, List.append_assoc]
  exact isResidueF_end (lt_irr _)
/-- the first at the end -/
theorem isResidueF_rot {cs : List (List Int)} (ha : ascC cs) (h : 1 < cs.length) : isResidueF (cs.drop 1 ++ cs.take 1) = false := by
  cases cs with
  | nil => simp at h
  | cons a t =>
    obtain ⟨ys, u, rfl⟩ := last_of (xs := t) (by simpa using h)
    obtain ⟨p1, _⟩ := List.pairwise_cons.mp ha
    have q := p1 u (List.mem_append_right _ List.mem_cons_self)
    show isResidueF ((ys ++ [u]) ++ [a]) = false
    rw [List.append_assoc]
    exact isResidueF_end (dataLt_asym q)
/-- two lists that ascend with the same members are one -/
theorem intAsc_unique : ∀ {xs ys : List Int}, xs.Pairwise (· < ·) → ys.Pairwise (· < ·) → (∀ d, d ∈ xs ↔ d ∈ ys) → xs = ys
  | [], [], _, _, _ => rfl
  | [], y :: ys, _, _, h => absurd ((h y).mpr List.mem_cons_self) (by simp)
  | x :: xs, [], _, _, h => absurd ((h x).mp List.mem_cons_self) (by simp)
  | x :: xs, y :: ys, hx, hy, h => by
    obtain ⟨x1, x2⟩ := List.pairwise_cons.mp hx
    obtain ⟨y1, y2⟩ := List.pairwise_cons.mp hy
    have e : x = y := by
      rcases List.mem_cons.mp ((h x).mp List.mem_cons_self) with e | e
      · exact e
      · rcases List.mem_cons.mp ((h y).mpr List.mem_cons_self) with e2 | e2
        · exact e2.symm
        · have a := y1 x e
          have b := x1 y e2
          omega
    subst e
    have nx : x ∉ xs := fun z => by
      have := x1 x z
      omega
    have ny : x ∉ ys := fun z => by
      have := y1 x z
      omega
    rw [intAsc_unique x2 y2 fun d => ⟨fun z => ((List.mem_cons.mp ((h d).mp (List.mem_cons_of_mem _ z))).resolve_left fun e => nx (e ▸ z)), fun z => ((List.mem_cons.mp ((h d).mpr (List.mem_cons_of_mem _ z))).resolve_left fun e => ny (e ▸ z))⟩]
theorem noBoth_srt {ls : List Int} (h : noBoth ls) : noBoth (srtBy keyD ls) := fun l h1 h2 => h l (mem_srtBy.mp h1) (mem_srtBy.mp h2)
theorem small3_res {cs : List (List Int)} (hl : cs.length ≤ 400) (hc : ∀ c ∈ cs, c.length ≤ 400 ∧ noBoth c) : Small3 (residueF cs) := by
  refine ⟨asc_srt cs, ?_, fun c h => hc c (mem_residueF.mp h)⟩
  unfold residueF
  rw [(srtBy_perm _ _).length_eq]
  exact Nat.le_trans (len_dd _) hl
theorem isResidueF_res {cs : List (List Int)} (h : ∀ c ∈ cs, isClauseF c = true) : isResidueF (residueF cs) = true := isResidueF_asc (asc_srt cs) fun c hc => h c (mem_residueF.mp hc)
/-- a list's own without repeats, in any order, sorted: the residue -/
theorem srt_once {cs ds : List (List Int)} (hn : ds.Nodup) (hm : ∀ d, d ∈ ds ↔ d ∈ cs) : srtBy ckD ds = residueF cs := asc_is (asc_srtN hn) fun d => by rw [mem_srtBy, hm]
/-- one more of `[xs[j] for j .. if xs[j] not in xs[:j]]` -/
theorem once_step {α : Type} [DecidableEq α] {xs ds : List α} {j : Nat} {x : α} (hx : xs[j]? = some x) (hn : ds.Nodup) (hm : ∀ d, d ∈ ds ↔ d ∈ xs.take j) :
    (x ∉ xs.take j → (ds ++ [x]).Nodup ∧ ∀ d, d ∈ ds ++ [x] ↔ d ∈ xs.take (j + 1)) ∧ (x ∈ xs.take j → ∀ d, d ∈ ds ↔ d ∈ xs.take (j + 1)) := by
  have et : xs.take (j + 1) = xs.take j ++ [x] := by rw [List.take_add_one, hx]; rfl
  refine ⟨fun h => ⟨?_, fun d => ?_⟩, fun h d => ?_⟩
  · exact List.nodup_append.mpr ⟨hn, by simp, fun y hy z hz => by rw [List.mem_singleton.mp hz]; exact fun e => h ((hm x).mp (e ▸ hy))⟩
  · rw [et, List.mem_append, List.mem_append, hm]
  · rw [et, List.mem_append, hm, List.mem_singleton]
    exact ⟨.inl, fun h2 => h2.elim id fun e => e ▸ h⟩
/-- two lists that ascend by size with the same members are one -/
theorem absAsc_unique {m : Int → Int} : ∀ {xs ys : List Int}, (xs.Pairwise fun a b => m a < m b) → (ys.Pairwise fun a b => m a < m b) → (∀ d, d ∈ xs ↔ d ∈ ys) → xs = ys
  | [], [], _, _, _ => rfl
  | [], y :: ys, _, _, h => absurd ((h y).mpr List.mem_cons_self) (by simp)
  | x :: xs, [], _, _, h => absurd ((h x).mp List.mem_cons_self) (by simp)
  | x :: xs, y :: ys, hx, hy, h => by
    obtain ⟨x1, x2⟩ := List.pairwise_cons.mp hx
    obtain ⟨y1, y2⟩ := List.pairwise_cons.mp hy
    have e : x = y := by
      rcases List.mem_cons.mp ((h x).mp List.mem_cons_self) with e | e
      · exact e
      · rcases List.mem_cons.mp ((h y).mpr List.mem_cons_self) with e2 | e2
        · exact e2.symm
        · have a := y1 x e
          have b := x1 y e2
          omega
    subst e
    have nx : x ∉ xs := fun z => by
      have := x1 x z
      omega
    have ny : x ∉ ys := fun z => by
      have := y1 x z
      omega
    rw [absAsc_unique x2 y2 fun d => ⟨fun z => ((List.mem_cons.mp ((h d).mp (List.mem_cons_of_mem _ z))).resolve_left fun e => nx (e ▸ z)), fun z => ((List.mem_cons.mp ((h d).mpr (List.mem_cons_of_mem _ z))).resolve_left fun e => ny (e ▸ z))⟩]
/-- the clause of literals, from any list of them without repeats -/
theorem clauseF_once {ls ds : List Int} (hb : noBoth ls) (hn : ds.Nodup) (hm : ∀ d, d ∈ ds ↔ d ∈ ls) : srtBy keyD ds = clauseF ls := by
  unfold clauseF
  have hb1 : noBoth ds := fun l h1 h2 => hb l ((hm l).mp h1) ((hm _).mp h2)
  have hb2 : noBoth (dd ls) := fun l h1 h2 => hb l (mem_dd.mp h1) (mem_dd.mp h2)
  exact absAsc_unique (m := absI) (clause_asc hn hb1) (clause_asc (nodup_dd ls) hb2) fun d => by rw [mem_srtBy, mem_srtBy, mem_dd, hm]
end Ky

namespace Ky
open PySem PySem.Spec PyProof.Rows L2
/-! ### steps for the law's walk -/
theorem c_rangeU {lo : Int} {n : Nat} {Body : V → Hp → (Hp → Prop) → Prop} {Qd : Hp → Prop} {H0 : Hp} (Pv : Nat → Hp → Prop) (h0 : Pv 0 H0) (step : ∀ i H, i < n → Pv i H → Body (.int (lo + i)) H (Pv (i + 1))) (fin : ∀ H, Pv n H → Qd H) :
    ∃ W : Nat → Nat → Hp → Prop, (∃ m, W 0 m H0) ∧ ∀ i m H, W i m H → ((Itr lo n).stop i H ∧ Qd H) ∨ ((Itr lo n).go i H ∧ ∃ Nx : Hp → Prop, (∀ H', Nx H' → ∃ m', m' < m ∧ W (i + 1) m' H') ∧ ∀ x H', (Itr lo n).yld i H x H' → Body x H' Nx) :=
  c_walk (xv := fun i => .int (lo + i)) Pv h0 (fun i H h _ => h) (fun i H x H' _ _ h => h) (fun H _ => Nat.le_refl n) step fin
theorem cut_to (xs : List V) (j : Nat) (h : j ≤ xs.length) : cutV xs none (some (j : Int)) = xs.take j := by
  unfold cutV
  rw [HT.sIx_none, HT.sIx_nat, Nat.min_eq_left h, Nat.sub_zero]
  rfl
theorem cut_of (xs : List V) (j : Nat) (h : j ≤ xs.length) : cutV xs (some (j : Int)) none = xs.drop j := by
  unfold cutV
  rw [HT.sIx_none, HT.sIx_nat, Nat.min_eq_left h]
  exact List.take_of_length_le (by rw [List.length_drop]; exact Nat.le_refl _)
theorem any_ints (n : Int) (ls : List Int) : ((ls.map PyData.int).any fun z => PyData.eqv z (.int n)) = decide (n ∈ ls) := by
  rw [List.any_map, Bool.eq_iff_iff, List.any_eq_true, decide_eq_true_eq]
  constructor
  · rintro ⟨y, hy, e⟩
    have e : PyData.eqv (.int y) (.int n) = true := e
    have e : y = n := by simpa [PyData.eqv] using e
    rw [← e]
    exact hy
  · intro h
    refine ⟨n, h, ?_⟩
    show PyData.eqv (.int n) (.int n) = true
    simp [PyData.eqv]
section
variable {K : PySem.W.Frag} {H : Hp} {Q : VK} {D s a b : Addr} {n : Int} {xs ys : List Int}
theorem dl_ints (h : H b = some (.lst (xs.map V.int))) : Dp K H (.ref b) (.list (xs.map PyData.int)) := .lst (SqL.of h) (dpAll_ints xs)
theorem sh_int (n : Int) : SeqAt.shaped (.int n) = true := by
  unfold SeqAt.shaped
  simp only [PyData.canLay0, PyData.depth, Bool.true_and]
  rfl
theorem sh_none : SeqAt.shaped .none = true := by
  unfold SeqAt.shaped
  simp only [PyData.canLay0, PyData.depth, Bool.true_and]
  rfl
theorem w_ninLI (hD : H D = some (.lst (xs.map V.int))) (q : Q (.bl (decide (n ∉ xs))) H) : rNotInD K (.int n) (.ref D) H Q :=
  ⟨_, _, .int n, dl_ints hD, sh_int n, shLi xs, by rw [any_ints]; rw [decide_not] at q; exact q⟩
theorem w_neLL (ha : H a = some (.lst (xs.map V.int))) (hb : H b = some (.lst (ys.map V.int))) (q : Q (.bl (!decide (xs = ys))) H) : rNeD K (.ref a) (.ref b) H Q := by
  refine ⟨_, _, dl_ints ha, dl_ints hb, shLi xs, shLi ys, ?_⟩
  have e : PyData.eqv (.list (xs.map PyData.int)) (.list (ys.map PyData.int)) = decide (xs = ys) := by
    simp only [PyData.eqv]
    exact eqvAll_ints xs ys
  rw [e]
  exact q
theorem w_neTT (ha : H a = some (.tup (xs.map V.int))) (hb : H b = some (.tup (ys.map V.int))) (q : Q (.bl (!decide (xs = ys))) H) : rNeD K (.ref a) (.ref b) H Q :=
  ⟨_, _, dp_ints ha, dp_ints hb, shT_ints xs, shT_ints ys, by rw [eqv_ints]; exact q⟩
theorem w_neNN (q : Q (.bl false) H) : rNeD K .non .non H Q := ⟨_, _, .non, .non, sh_none, sh_none, by rw [show PyData.eqv .none .none = true by simp [PyData.eqv]]; exact q⟩
/-- keys, in a tuple of pairs -/
def KeysAt (H : Hp) (ps : List Addr) (ls : List Int) : Prop := ps.length = ls.length ∧ ∀ (i : Nat) (q : Addr) (n : Int), ps[i]? = some q → ls[i]? = some n → H q = some (.tup (keyV n))
theorem dp_keys {ps : List Addr} (hp : KeysAt H ps xs) (h : H a = some (.tup (ps.map V.ref))) : Dp K H (.ref a) (ckD xs) := by
  refine .tup (SqT.of h) (dpAll_of (by rw [List.length_map, List.length_map, hp.1]) fun i x d hx hd => ?_)
  rw [List.getElem?_map] at hx hd
  obtain ⟨q, hq, rfl⟩ := Option.map_eq_some_iff.mp hx
  obtain ⟨n, hn, rfl⟩ := Option.map_eq_some_iff.mp hd
  exact dp_key (hp.2 i q n hq hn)
end
theorem canLay_keys : ∀ ls : List Int, PyData.canLayAll0 (ls.map keyD) = true
  | [] => by simp [PyData.canLayAll0]
  | x :: xs => by
    rw [List.map_cons, PyData.canLayAll0, canLay_keys xs]
    simp [keyD, PyData.canLay0, PyData.canLayAll0]
theorem depth_keys : ∀ ls : List Int, PyData.depthAll (ls.map keyD) ≤ 2
  | [] => by simp [PyData.depthAll]
  | x :: xs => by
    rw [List.map_cons, PyData.depthAll]
    have h1 := depth_keys xs
    have h2 : (keyD x).depth ≤ 2 := by
      simp [keyD, PyData.depth, PyData.depthAll]
    omega
theorem sh_keys (ls : List Int) : SeqAt.shaped (ckD ls) = true := by
  have h1 := depth_keys ls
  have h2 : PyData.depth (ckD ls) ≤ 64 := by
    simp only [ckD, PyData.depth]
    omega
  show (PyData.canLay0 (ckD ls) && decide (PyData.depth (ckD ls) ≤ 64)) = true
  rw [Bool.and_eq_true]
  exact ⟨by simp only [ckD, PyData.canLay0]; exact canLay_keys ls, decide_eq_true h2⟩
theorem shT_rows (ds : List (List Int)) : SeqAt.shaped (.tuple (ds.map rowD)) = true := by
  have h1 := depth_rows ds
  have h2 : PyData.depth (.tuple (ds.map rowD)) ≤ 64 := by
    simp only [PyData.depth]
    omega
  show (PyData.canLay0 (.tuple (ds.map rowD)) && decide (PyData.depth (.tuple (ds.map rowD)) ≤ 64)) = true
  rw [Bool.and_eq_true]
  exact ⟨by simp only [PyData.canLay0]; exact canLay_rows ds, decide_eq_true h2⟩
theorem eqvAll_rows : ∀ xs ys : List (List Int), PyData.eqvAll (xs.map rowD) (ys.map rowD) = decide (xs = ys)
  | [], [] => by simp [PyData.eqvAll]
  | [], y :: ys => by simp [PyData.eqvAll]
  | x :: xs, [] => by simp [PyData.eqvAll]
  | x :: xs, y :: ys => by
    rw [List.map_cons, List.map_cons, PyData.eqvAll, eqvAll_rows xs ys]
    have e : PyData.eqv (rowD x) (rowD y) = decide (x = y) := eqv_ints x y
    rw [e]
    by_cases h : x = y <;> by_cases h2 : xs = ys <;> simp [h, h2]
section
variable {K : PySem.W.Frag} {H : Hp} {Q : VK} {a b : Addr} {n : Int} {xs ys : List Int} {cs ds : List (List Int)} {ps qs : List Addr}
theorem w_neKK {xs ys : List Int} (h1 : KeysAt H ps xs) (ha : H a = some (.tup (ps.map V.ref))) (h2 : KeysAt H qs ys) (hb : H b = some (.tup (qs.map V.ref))) (q : Q (.bl (!decide (xs = ys))) H) : rNeD K (.ref a) (.ref b) H Q := by
  refine ⟨_, _, dp_keys h1 ha, dp_keys h2 hb, sh_keys xs, sh_keys ys, ?_⟩
  have e : PyData.eqv (ckD xs) (ckD ys) = decide (xs = ys) := by
    simp only [ckD, PyData.eqv]
    exact key_eqv xs ys
  rw [e]
  exact q
theorem w_neK {n m : Int} (ha : H a = some (.tup (keyV n))) (hb : H b = some (.tup (keyV m))) (q : Q (.bl (!decide (n = m))) H) : rNeD K (.ref a) (.ref b) H Q := by
  refine ⟨_, _, dp_key ha, dp_key hb, ?_, ?_, ?_⟩
  · exact shT_ints [absI n, sgI n]
  · exact shT_ints [absI m, sgI m]
  · have e := key_eqv [n] [m]
    simp only [List.map_cons, List.map_nil, PyData.eqvAll, Bool.and_true, List.cons.injEq, and_true] at e
    rw [e]
    exact q
theorem dp_rows (h1 : ClsAt H ps cs) (ha : H a = some (.tup (ps.map V.ref))) : Dp K H (.ref a) (.tuple (cs.map rowD)) := by
  refine .tup (SqT.of ha) (dpAll_of (by rw [List.length_map, List.length_map, h1.1]) fun i x d hx hd => ?_)
  rw [List.getElem?_map] at hx hd
  obtain ⟨b, hb, rfl⟩ := Option.map_eq_some_iff.mp hx
  obtain ⟨c, hc, rfl⟩ := Option.map_eq_some_iff.mp hd
  exact dp_ints (h1.2 i b c hb hc)
theorem w_neCC (h1 : ClsAt H ps cs) (ha : H a = some (.tup (ps.map V.ref))) (h2 : ClsAt H qs ds) (hb : H b = some (.tup (qs.map V.ref))) (q : Q (.bl (!decide (cs = ds))) H) : rNeD K (.ref a) (.ref b) H Q := by
  refine ⟨_, _, dp_rows h1 ha, dp_rows h2 hb, shT_rows cs, shT_rows ds, ?_⟩
  have e : PyData.eqv (.tuple (cs.map rowD)) (.tuple (ds.map rowD)) = decide (cs = ds) := by
    simp only [PyData.eqv]
    exact eqvAll_rows cs ds
  rw [e]
  exact q
end
theorem filt_one {α : Type} (p : α → Bool) (xs : List α) (j : Nat) (x : α) (hx : xs[j]? = some x) : (xs.take (j + 1)).filter p = (xs.take j).filter p ++ if p x = true then [x] else [] := by
  rw [List.take_add_one, hx, List.filter_append]
  by_cases h : p x = true
  · rw [if_pos h]
    show _ ++ List.filter p [x] = _
    rw [List.filter_cons_of_pos h] <;> rfl
  · rw [if_neg h]
    show _ ++ List.filter p [x] = _
    rw [List.filter_cons_of_neg h] <;> rfl
theorem bothS_filter (ls : List Int) : (!decide (ls.filter (fun x => decide (-x ∈ ls)) = [])) = bothS ls := by
  unfold bothS
  rw [List.length_map, range_any 0 (fun x => decide (-x ∈ ls)) ls]
  cases e : ls.any fun x => decide (-x ∈ ls) with
  | true =>
    obtain ⟨x, h1, h2⟩ := List.any_eq_true.mp e
    have hne : ls.filter (fun x => decide (-x ∈ ls)) ≠ [] := List.ne_nil_of_mem (List.mem_filter.mpr ⟨h1, h2⟩)
    rw [decide_eq_false hne] <;> rfl
  | false =>
    have hn : ls.filter (fun x => decide (-x ∈ ls)) = [] := List.filter_eq_nil_iff.mpr fun x hx hy => by
      rw [List.any_eq_false] at e
      exact e x hx hy
    rw [decide_eq_true hn] <;> rfl
theorem dd_len_le (ls : List Int) : (dd ls).length ≤ ls.length := len_dd ls
section
variable {K : PySem.W.Frag} {H : Hp} {Q : VK} {D s a b : Addr} {n : Int} {xs ys : List Int} {cs ds : List (List Int)} {ps qs : List Addr}
theorem w_inL (h : H b = some (.lst (xs.map V.int))) (q : Q (.bl (decide (n ∈ xs))) H) : rIn K false (.int n) (.ref b) H Q := ⟨b, _, rfl, .inl (SqL.of h), rfl, flat_ints xs, by rw [inV_ints, if_neg Bool.false_ne_true]; exact q⟩
theorem w_ninLn (h : H b = some (.lst (xs.map V.int))) (q : Q (.bl (decide (n ∉ xs))) H) : rIn K true (.int n) (.ref b) H Q := ⟨b, _, rfl, .inl (SqL.of h), rfl, flat_ints xs, by rw [inV_ints, if_pos rfl]; rw [decide_not] at q; exact q⟩
theorem w_sLL (ha : H a = some (.lst (xs.map V.int))) (hb : H b = some (.lst (xs.map V.int))) (q : Q (.bl false) H) : rNeD K (.ref a) (.ref b) H Q := w_neLL ha hb (by rw [decide_eq_true rfl]; exact q)
theorem w_sTT (ha : H a = some (.tup (xs.map V.int))) (hb : H b = some (.tup (xs.map V.int))) (q : Q (.bl false) H) : rNeD K (.ref a) (.ref b) H Q := w_neTT ha hb (by rw [decide_eq_true rfl]; exact q)
theorem w_sKK (h1 : KeysAt H ps xs) (ha : H a = some (.tup (ps.map V.ref))) (h2 : KeysAt H qs xs) (hb : H b = some (.tup (qs.map V.ref))) (q : Q (.bl false) H) : rNeD K (.ref a) (.ref b) H Q := w_neKK h1 ha h2 hb (by rw [decide_eq_true rfl]; exact q)
theorem w_sK (ha : H a = some (.tup (keyV n))) (hb : H b = some (.tup (keyV n))) (q : Q (.bl false) H) : rNeD K (.ref a) (.ref b) H Q := w_neK ha hb (by rw [decide_eq_true rfl]; exact q)
theorem w_sCC (h1 : ClsAt H ps cs) (ha : H a = some (.tup (ps.map V.ref))) (h2 : ClsAt H qs cs) (hb : H b = some (.tup (qs.map V.ref))) (q : Q (.bl false) H) : rNeD K (.ref a) (.ref b) H Q := w_neCC h1 ha h2 hb (by rw [decide_eq_true rfl]; exact q)
end
theorem ClsAt.keptC {d c : Addr} {H H' : Hp} {bs : List Addr} {cs : List (List Int)} (h : ClsAt H bs cs) (k : KeptC d c H H') (hd : DrwC d c H) : ClsAt H' bs cs := ⟨h.1, fun i b x h1 h2 => k.tup hd (h.2 i b x h1 h2)⟩
theorem clsAt_snoc {H : Hp} {bs : List Addr} {cs : List (List Int)} {b : Addr} {x : List Int} (h : ClsAt H bs cs) (hb : H b = some (.tup (x.map V.int))) : ClsAt H (bs ++ [b]) (cs ++ [x]) := by
  refine ⟨by rw [List.length_append, List.length_append, h.1] <;> rfl, fun j q d hq hd => ?_⟩
  by_cases hj : j < bs.length
  · rw [List.getElem?_append_left hj] at hq
    rw [List.getElem?_append_left (by rw [← h.1]; exact hj)] at hd
    exact h.2 j q d hq hd
  · rw [List.getElem?_append_right (by omega)] at hq
    rw [List.getElem?_append_right (by rw [← h.1]; omega)] at hd
    rw [← h.1] at hd
    cases z : j - bs.length with
    | zero =>
      rw [z] at hq hd
      cases hq
      cases hd
      exact hb
    | succ m =>
      rw [z] at hq
      simp at hq
theorem clsAt_pick {H : Hp} {bs : List Addr} {cs : List (List Int)} (h : ClsAt H bs cs) {L : List Nat} (hL : ∀ i ∈ L, i < cs.length) : ClsAt H (L.map fun i => bs.getD i 0) (L.map fun i => cs.getD i []) := by
  refine ⟨by rw [List.length_map, List.length_map], fun j q d hq hd => ?_⟩
  rw [List.getElem?_map] at hq hd
  obtain ⟨i, hi, rfl⟩ := Option.map_eq_some_iff.mp hq
  rw [hi] at hd
  cases hd
  have hlt := hL i (List.mem_of_getElem? hi)
  refine h.2 i _ _ (?_ : bs[i]? = some (bs.getD i 0)) (?_ : cs[i]? = some (cs.getD i []))
  · rw [List.getD_eq_getElem?_getD, List.getElem?_eq_getElem (by rw [h.1]; exact hlt)] <;> rfl
  · rw [List.getD_eq_getElem?_getD, List.getElem?_eq_getElem hlt] <;> rfl
/-- the places that are first -/
def onceIx {α : Type} [DecidableEq α] (d : α) (xs : List α) : List Nat := (List.range xs.length).filter fun i => decide (xs.getD i d ∉ xs.take i)
theorem once_all {α : Type} [DecidableEq α] (d : α) (xs : List α) : ((onceIx d xs).map fun i => xs.getD i d).Nodup ∧ ∀ x, x ∈ ((onceIx d xs).map fun i => xs.getD i d) ↔ x ∈ xs := by
  have h : ∀ m, m ≤ xs.length → ((((List.range m).filter fun i => decide (xs.getD i d ∉ xs.take i))).map fun i => xs.getD i d).Nodup ∧ ∀ x, x ∈ ((((List.range m).filter fun i => decide (xs.getD i d ∉ xs.take i))).map fun i => xs.getD i d) ↔ x ∈ xs.take m := by
    intro m
    induction m with
    | zero => intro _; exact ⟨List.nodup_nil, fun x => by simp⟩
    | succ m ih =>
      intro hm
      obtain ⟨i1, i2⟩ := ih (by omega)
      have hx : xs[m]? = some xs[m] := List.getElem?_eq_getElem hm
      have e : xs.getD m d = xs[m] := by rw [List.getD_eq_getElem?_getD, hx] <;> rfl
      obtain ⟨s1, s2⟩ := once_step hx i1 i2
      rw [List.range_succ, List.filter_append, List.map_append]
      by_cases hp : xs[m] ∉ xs.take m
      · rw [List.filter_cons_of_pos (by rw [e]; exact decide_eq_true hp), List.filter_nil, List.map_cons, List.map_nil, e]
        exact s1 hp
      · rw [List.filter_cons_of_neg (by rw [e, decide_eq_false hp]; exact Bool.false_ne_true), List.filter_nil, List.map_nil, List.append_nil]
        exact ⟨i1, s2 (Classical.not_not.mp hp)⟩
  obtain ⟨h1, h2⟩ := h _ (Nat.le_refl _)
  rw [List.take_length] at h2
  exact ⟨h1, h2⟩
theorem onceIx_len {α : Type} [DecidableEq α] (d : α) (xs : List α) : (onceIx d xs).length ≤ xs.length := by
  have h := List.length_filter_le (fun i => decide (xs.getD i d ∉ xs.take i)) (List.range xs.length)
  rw [List.length_range] at h
  exact h
theorem onceIx_lt {α : Type} [DecidableEq α] (d : α) (xs : List α) : ∀ i ∈ onceIx d xs, i < xs.length := fun i hi => List.mem_range.mp (List.mem_filter.mp hi).1
/-- a clause that the law makes -/
def GoodC (x : List Int) : Prop := ∃ ls : List Int, ls.Nodup ∧ noBoth ls ∧ (∀ n ∈ ls, isLit n = true) ∧ ls.length ≤ 4 ∧ x = srtBy keyD ls
theorem GoodC.clause {x : List Int} (h : GoodC x) : isClauseF x = true := by
  obtain ⟨ls, h1, h2, h3, _, rfl⟩ := h
  exact isClauseF_srt h1 h2 h3
theorem GoodC.len {x : List Int} (h : GoodC x) : x.length ≤ 4 := by
  obtain ⟨ls, _, _, _, h4, rfl⟩ := h
  rw [(srtBy_perm keyD ls).length_eq]
  exact h4
theorem GoodC.nob {x : List Int} (h : GoodC x) : noBoth x := by
  obtain ⟨ls, _, h2, _, _, rfl⟩ := h
  exact noBoth_srt h2
theorem GoodC.asc {x : List Int} (h : GoodC x) : x.Pairwise fun a b => absI a < absI b := by
  obtain ⟨ls, h1, h2, _, _, rfl⟩ := h
  exact clause_asc h1 h2
theorem GoodC.lit {x : List Int} (h : GoodC x) : ∀ n ∈ x, isLit n = true := by
  obtain ⟨ls, _, _, h3, _, rfl⟩ := h
  exact fun n hn => h3 n (mem_srtBy.mp hn)
theorem GoodC.back {x : List Int} (h : GoodC x) : isClauseF x.reverse = decide (x.length < 2) := by
  by_cases hl : x.length < 2
  · rw [decide_eq_true hl]
    have e : x.reverse = x := by
      match x, hl with
      | [], _ => rfl
      | [a], _ => rfl
      | a :: b :: t, hl => exact absurd hl (by simp only [List.length_cons]; omega)
    rw [e]
    exact h.clause
  · rw [decide_eq_false hl]
    exact isClauseF_rev h.asc (by omega)
theorem back_range (x : List Int) : (List.range x.length).map (fun i => x.getD (x.length - 1 - i) 0) = x.reverse := by
  refine List.ext_getElem (by simp) fun i h1 h2 => ?_
  rw [List.getElem_map, List.getElem_range, List.getElem_reverse]
  have h3 : i < x.length := by simpa using h2
  rw [List.getD_eq_getElem?_getD, List.getElem?_eq_getElem (by omega)] <;> rfl
theorem lit_small {n : Int} (h : isLit n = true) : n.natAbs < 2 ^ 60 := by
  unfold isLit isVar absI at h
  rw [Bool.and_eq_true, decide_eq_true_eq, decide_eq_true_eq] at h
  split at h <;> omega
theorem srt_ints {ns : List Int} (h : ns.Nodup) : (srtBy PyData.int ns).Pairwise (· < ·) := by
  have h1 := srtBy_pair PyData.int ns
  have h2 : (srtBy PyData.int ns).Nodup := (srtBy_perm PyData.int ns).nodup_iff.mpr h
  refine List.pairwise_iff_getElem.mpr fun i j hi hj hij => ?_
  have a := List.pairwise_iff_getElem.mp h1 i j hi hj hij
  have b := List.pairwise_iff_getElem.mp h2 i j hi hj hij
  have a : (!PySem.W.dataLt (.int (srtBy PyData.int ns)[j]) (.int (srtBy PyData.int ns)[i])) = true := a
  rw [PySem.W.dataLt_int] at a
  have a : ¬ (srtBy PyData.int ns)[j] < (srtBy PyData.int ns)[i] := by simpa using a
  omega
theorem clsAt_zipOf {H : Hp} {bs : List Addr} {cs : List (List Int)} (zs : List (Addr × List Int)) (hb : zs.map (·.1) = bs) (hc : zs.map (·.2) = cs) (h : ∀ p ∈ zs, H p.1 = some (.tup (p.2.map V.int))) : ClsAt H bs cs := by
  subst hb hc
  exact clsAt_of h
theorem ClsAt.fst {H : Hp} {bs : List Addr} {cs : List (List Int)} (h : ClsAt H bs cs) : (bs.zip cs).map (·.1) = bs := List.map_fst_zip (by rw [h.1]; exact Nat.le_refl _)
theorem ClsAt.snd {H : Hp} {bs : List Addr} {cs : List (List Int)} (h : ClsAt H bs cs) : (bs.zip cs).map (·.2) = cs := List.map_snd_zip (by rw [h.1]; exact Nat.le_refl _)
theorem ClsAt.take {H : Hp} {bs : List Addr} {cs : List (List Int)} (h : ClsAt H bs cs) (n : Nat) : ClsAt H (bs.take n) (cs.take n) :=
  clsAt_zipOf ((bs.zip cs).take n) (by rw [List.map_take, h.fst]) (by rw [List.map_take, h.snd]) fun p hp => clsAt_zip h p (List.mem_of_mem_take hp)
theorem ClsAt.drop {H : Hp} {bs : List Addr} {cs : List (List Int)} (h : ClsAt H bs cs) (n : Nat) : ClsAt H (bs.drop n) (cs.drop n) :=
  clsAt_zipOf ((bs.zip cs).drop n) (by rw [List.map_drop, h.fst]) (by rw [List.map_drop, h.snd]) fun p hp => clsAt_zip h p (List.mem_of_mem_drop hp)
theorem ClsAt.app {H : Hp} {bs bs2 : List Addr} {cs cs2 : List (List Int)} (h : ClsAt H bs cs) (h2 : ClsAt H bs2 cs2) : ClsAt H (bs ++ bs2) (cs ++ cs2) :=
  clsAt_zipOf (bs.zip cs ++ bs2.zip cs2) (by rw [List.map_append, h.fst, h2.fst]) (by rw [List.map_append, h.snd, h2.snd]) fun p hp => (List.mem_append.mp hp).elim (clsAt_zip h p) (clsAt_zip h2 p)
theorem flat_len : ∀ {cs : List (List Int)} {n : Nat}, (∀ c ∈ cs, c.length ≤ n) → cs.flatten.length ≤ n * cs.length
  | [], n, _ => by simp
  | c :: cs, n, h => by
    rw [List.flatten_cons, List.length_append, List.length_cons, Nat.mul_succ]
    have h1 := h c List.mem_cons_self
    have h2 := flat_len (cs := cs) fun d hd => h d (List.mem_cons_of_mem _ hd)
    omega
theorem absAll_app (cs ds : List (List Int)) : absAll (cs ++ ds) = absAll cs ++ absAll ds := by
  unfold absAll
  rw [List.flatten_append, List.map_append]
theorem absAll_one (c : List Int) : absAll [c] = c.map absI := by
  unfold absAll
  simp
theorem onceC_eq (cs : List (List Int)) : (List.range cs.length).filter (fun j => decide (cs.getD j [] ∉ cs.take j)) = onceIx [] cs := by
  unfold onceIx
  congr 1
  funext j
  exact decide_eq_decide.mpr Iff.rfl
theorem allAlike_ints (ns : List Int) : PySem.W.AllAlike (ns.map PyData.int) := by
  intro d hd d' hd'
  obtain ⟨a, _, rfl⟩ := List.mem_map.mp hd
  obtain ⟨b, _, rfl⟩ := List.mem_map.mp hd'
  simp [PySem.W.alike]
theorem srt_intsS (ns : List Int) : Srt (ns.map PyData.int) := .inr fun d hd => by
  obtain ⟨a, _, rfl⟩ := List.mem_map.mp hd
  exact ⟨by simp, by simp⟩
theorem depth_intsS (ns : List Int) : ∀ d ∈ ns.map PyData.int, d.depth ≤ 60 := fun d hd => by
  obtain ⟨a, _, rfl⟩ := List.mem_map.mp hd
  simp [PyData.depth]
theorem absAll_small {cs : List (List Int)} (h : ∀ c ∈ cs, ∀ n ∈ c, isLit n = true) : ∀ k ∈ absAll cs, k.natAbs < 2 ^ 60 := fun k hk => by
  unfold absAll at hk
  obtain ⟨n, hn, rfl⟩ := List.mem_map.mp hk
  obtain ⟨c, hc, hn⟩ := List.mem_flatten.mp hn
  have := lit_small (h c hc n hn)
  unfold absI
  split <;> omega
end Ky

namespace Ky
open PySem PySem.Spec PyProof.Rows L2 TL PySem.Builtin.Str
/-! ### numbers as texts -/
def numS (i : Int) : Str := toString i
def numI (i : Int) : List Nat := if i < 0 then 45 :: numL i.natAbs else numL i.natAbs
theorem tl_numS (i : Int) : tl (numS i) = numI i := by
  cases i with
  | ofNat n =>
    unfold numI
    rw [if_neg (show ¬ (Int.ofNat n < 0) from by have := Int.natCast_nonneg n; exact Int.not_lt.mpr this)]
    exact tl_num n
  | negSucc n =>
    unfold numI
    rw [if_pos (Int.negSucc_lt_zero n)]
    show tl (Str.ofString (toString (Int.negSucc n))) = 45 :: numL (n + 1)
    rw [tl_ofString]
    have e : (toString (Int.negSucc n)).toList = '-' :: (toString ((n + 1 : Nat) : Int)).toList := by
      show ("-" ++ toString (n + 1)).toList = _
      rw [String.toList_append]
      rfl
    rw [e, List.map_cons]
    have h := tl_num (n + 1)
    rw [tl_ofString] at h
    rw [h]
    rfl
theorem tl_nat (n : Nat) : tl (numS (n : Int)) = numL n := tl_num n
theorem numL_head {n : Nat} (h : 0 < n) : ∃ c r, numL n = c :: r ∧ 49 ≤ c ∧ c ≤ 57 := by
  induction n using Nat.strongRecOn with
  | _ n ih =>
    by_cases hn : n < 10
    · exact ⟨48 + n, [], numL_lt hn, by omega, by omega⟩
    · obtain ⟨c, r, e, h1, h2⟩ := ih (n / 10) (by omega) (by omega)
      exact ⟨c, r ++ [48 + n % 10], by rw [numL_step (by omega), e]; rfl, h1, h2⟩
theorem numL_zero : numL 0 = [48] := numL_lt (by decide)
theorem numI_ne (i : Int) : numI i ≠ [] := by
  unfold numI
  split
  · intro h
    cases h
  · exact numL_ne _
theorem numI_free {i : Int} {s : Nat} (h : s < 48 ∨ 57 < s) (h2 : s ≠ 45) : s ∉ numI i := by
  unfold numI
  split
  · intro hm
    rcases List.mem_cons.mp hm with z | z
    · exact h2 z
    · exact numL_free h z
  · exact numL_free h
/-! ### methods of texts, on their signs -/
theorem tl_one {s : String} {c : Nat} (h : s.toList.map Char.toNat = [c]) : tl (Str.ofString s) = [c] := by
  rw [tl_ofString, h]
theorem subAt0 (x y : Str) : subAt x y 0 = ((tl x).take (tl y).length == tl y) := by
  rw [StrLaws.subAt_eq]
  rfl
theorem startswith_one {x y : Str} {c : Nat} (hy : tl y = [c]) : Txt.startswith x y = decide ((tl x).head? = some c) := by
  unfold Txt.startswith
  rw [subAt0, hy, len_tl x, len_tl y, hy]
  cases tl x with
  | nil => rfl
  | cons a r =>
    show (decide (0 + 1 ≤ (a :: r).length) && ([a] == [c])) = decide (some a = some c)
    rw [List.length_cons, decide_eq_true (by omega), Bool.true_and]
    by_cases h : a = c
    · subst h; simp
    · simp [h]
theorem removeprefix_one {x y : Str} {c : Nat} (hy : tl y = [c]) : tl (Txt.removeprefix x y) = (match tl x with | a :: r => if a = c then r else a :: r | [] => []) := by
  unfold Txt.removeprefix
  rw [subAt0, hy]
  cases h : tl x with
  | nil =>
    show tl (Txt.affix x none) = []
    exact h
  | cons a r =>
    by_cases e : a = c
    · subst e
      have e1 : ((a :: r).take ([a] : List Nat).length == [a]) = true := by simp
      rw [if_pos e1]
      show _ = (if a = a then r else a :: r)
      rw [if_pos rfl]
      unfold Txt.affix
      have hx : x.length = r.length + 1 := by rw [len_tl, h]; rfl
      have hy1 : y.length = 1 := by rw [len_tl, hy]; rfl
      show tl (if (x.length - y.length == x.length) = true then x else strSub x y.length x.length) = r
      rw [if_neg (by rw [hx, hy1, beq_iff_eq]; omega), hy1, tl_strSub_end, h]
      rfl
    · have e1 : ((a :: r).take ([c] : List Nat).length == [c]) = false := by simp [e]
      rw [if_neg (by rw [e1]; decide)]
      show _ = (if a = c then r else a :: r)
      rw [if_neg e]
      exact h
theorem zfill_plain {x : Str} {i : Int} (h : ∀ c, (tl x).head? = some c → c ≠ 43 ∧ c ≠ 45) : tl (Txt.zfill x i) = List.replicate (i.toNat - (tl x).length) 48 ++ tl x := by
  unfold Txt.zfill
  by_cases hi : i ≤ x.length
  · rw [if_pos hi]
    have : i.toNat - (tl x).length = 0 := by
      rw [len_tl] at hi
      omega
    rw [this]
    rfl
  · rw [if_neg hi]
    have e : zfilled x (i.toNat - x.length) = padded x (i.toNat - x.length) 0 48 := by
      unfold zfilled
      have hh : x.cps[0]? = (tl x).head? := by
        rw [← Array.getElem?_toList, List.head?_eq_getElem?]
      rw [hh]
      cases q : (tl x).head? with
      | none => rfl
      | some c =>
        obtain ⟨h1, h2⟩ := h c q
        split
        · rename_i z
          exact absurd (Option.some.inj z) h1
        · rename_i z
          exact absurd (Option.some.inj z) h2
        · rfl
    rw [e]
    unfold padded
    show (Array.replicate (i.toNat - x.length) 48 ++ x.cps ++ Array.replicate 0 48).toList = _
    simp [len_tl]
theorem tl_cut (z : Str) (lo hi : Option Int) : tl (cutS z lo hi) = ((tl z).drop (HT.sIx (tl z).length 0 lo)).take (HT.sIx (tl z).length (tl z).length hi - HT.sIx (tl z).length 0 lo) := by
  unfold cutS
  rw [tl_mk, len_tl]
/-! ### fractions as texts -/
def shL (a : Int × Int) : List Nat := if a.2 = 1 then numI a.1 else numI a.1 ++ 47 :: numI a.2
def slash : Str := Str.ofString "/"
theorem tl_slash : tl slash = [47] := by
  unfold slash
  rw [tl_ofString]
  rfl
def shF (a : Int × Int) : Str := if a.2 = 1 then numS a.1 else numS a.1 ++ slash ++ numS a.2
theorem tl_shF (a : Int × Int) : tl (shF a) = shL a := by
  unfold shF shL
  split
  · exact tl_numS _
  · rw [tl_append, tl_append, tl_numS, tl_numS, tl_slash, List.append_assoc]
    rfl
theorem join_one (e x : Str) : Txt.join e [x] = x := by
  rw [join_eq]
  apply ext_tl
  rw [tl_join]
  rfl
theorem join_two (e x y : Str) (he : tl e = []) : Txt.join e [x, y] = x ++ y := by
  rw [join_eq]
  apply ext_tl
  rw [tl_join, he, tl_append]
  rfl
theorem numI_len {i : Int} {k : Nat} (hk : 0 < k) (h : i.natAbs < 10 ^ k) : (numI i).length ≤ k + 1 := by
  have := numL_len hk h
  unfold numI
  split
  · rw [List.length_cons]
    omega
  · omega
/-! ### a text read as a number, as a fraction -/
def dig (c : Nat) : Bool := decide (48 ≤ c) && decide (c ≤ 57)
def rdN (l : List Nat) : Option Nat := if l = [] then none else if l.head? = some 48 ∧ l ≠ [48] then none else if l.all dig = true then some (NumText.digitsVal l) else none
theorem all_dig {l : List Nat} (h : NumText.AllDigits l) : l.all dig = true := List.all_eq_true.mpr fun c hc => by
  have := h c hc
  unfold dig
  rw [decide_eq_true this.1, decide_eq_true this.2]
  rfl
theorem dig_all {l : List Nat} (h : l.all dig = true) : NumText.AllDigits l := fun c hc => by
  have := List.all_eq_true.mp h c hc
  unfold dig at this
  rw [Bool.and_eq_true, decide_eq_true_eq, decide_eq_true_eq] at this
  exact this
theorem rdN_numL (n : Nat) : rdN (numL n) = some n := by
  unfold rdN
  rw [if_neg (numL_ne n)]
  have e : ¬ ((numL n).head? = some 48 ∧ numL n ≠ [48]) := by
    rintro ⟨h1, h2⟩
    rcases Nat.eq_zero_or_pos n with h | h
    · subst h
      exact h2 numL_zero
    · obtain ⟨c, r, e, h3, _⟩ := numL_head h
      rw [e] at h1
      have : c = 48 := Option.some.inj h1
      omega
  rw [if_neg e, if_pos (all_dig (numL_digits n)), numL_val]
/-- what stands ahead of the first /, whether there is one, what stands behind -/
def partL (l : List Nat) : List Nat × Bool × List Nat := match par [47] [] l with | some (a, b) => (a, true, b) | none => (l, false, [])
def unsign (l : List Nat) : List Nat := match l with | a :: r => if a = 45 then r else a :: r | [] => []
def rdF (l : List Nat) : Option (Int × Int) :=
  match rdN (unsign (partL l).1), (if (partL l).2.1 = true then rdN (partL l).2.2 else some 1) with
  | some n, some d => if d = 0 then none else
      if shL (frc (if (partL l).1.head? = some 45 then -(n : Int) else (n : Int)) (d : Int)) = l then some (frc (if (partL l).1.head? = some 45 then -(n : Int) else (n : Int)) (d : Int)) else none
  | _, _ => none
end Ky

namespace Ky
open PySem PySem.Spec PyProof.Rows L2 TL
/-! ### fractions, reckoned -/
theorem frc_spec {n d : Int} (hd : d ≠ 0) : ∃ c : Int, c ≠ 0 ∧ n = (frc n d).1 * c ∧ d = (frc n d).2 * c ∧ 0 < (frc n d).2 ∧ Nat.gcd (frc n d).1.natAbs (frc n d).2.natAbs = 1 := by
  have g0 : Nat.gcd n.natAbs d.natAbs ≠ 0 := by
    intro h
    have := Nat.eq_zero_of_gcd_eq_zero_right h
    omega
  generalize hg : Nat.gcd n.natAbs d.natAbs = g at g0
  have dn : (g : Int) ∣ n := Int.ofNat_dvd_left.mpr (hg ▸ Nat.gcd_dvd_left _ _)
  have dd : (g : Int) ∣ d := Int.ofNat_dvd_left.mpr (hg ▸ Nat.gcd_dvd_right _ _)
  obtain ⟨c, hc, hcs⟩ : ∃ c : Int, (if d < 0 then -(g : Int) else (g : Int)) = c ∧ c.natAbs = g := ⟨_, rfl, by split <;> omega⟩
  have c0 : c ≠ 0 := by omega
  have cn : c ∣ n := by
    rw [← hc]
    split
    · exact Int.neg_dvd.mpr dn
    · exact dn
  have cd : c ∣ d := by
    rw [← hc]
    split
    · exact Int.neg_dvd.mpr dd
    · exact dd
  have e1 : (frc n d).1 = n / c := by
    unfold frc
    rw [hg, hc]
    exact Int.fdiv_eq_ediv_of_dvd cn
  have e2 : (frc n d).2 = d / c := by
    unfold frc
    rw [hg, hc]
    exact Int.fdiv_eq_ediv_of_dvd cd
  have f1 : n = (frc n d).1 * c := by rw [e1, Int.ediv_mul_cancel cn]
  have f2 : d = (frc n d).2 * c := by rw [e2, Int.ediv_mul_cancel cd]
  refine ⟨c, c0, f1, f2, ?_, ?_⟩
  · have hx := f2
    generalize (frc n d).2 = y at hx
    have hs : (d < 0 ∧ c < 0) ∨ (0 < d ∧ 0 < c) := by
      by_cases h : d < 0
      · left
        refine ⟨h, ?_⟩
        rw [if_pos h] at hc
        omega
      · right
        rw [if_neg h] at hc
        omega
    rcases hs with ⟨h1, h2⟩ | ⟨h1, h2⟩
    · by_cases hy : 0 < y
      · exact hy
      · have := Int.mul_nonneg_of_nonpos_of_nonpos (a := y) (b := c) (by omega) (by omega)
        omega
    · by_cases hy : 0 < y
      · exact hy
      · have := Int.mul_nonpos_of_nonpos_of_nonneg (a := y) (b := c) (by omega) (by omega)
        omega
  · have h3 : Nat.gcd ((frc n d).1 * c).natAbs ((frc n d).2 * c).natAbs = g := by
      rw [← f1, ← f2]
      exact hg
    rw [Int.natAbs_mul, Int.natAbs_mul, Nat.gcd_mul_right, hcs] at h3
    exact Nat.eq_of_mul_eq_mul_right (show 0 < g by omega) (by rw [h3, Nat.one_mul])
theorem frc_pos {n d : Int} (hd : d ≠ 0) : 0 < (frc n d).2 := by
  obtain ⟨_, _, _, _, h, _⟩ := frc_spec (n := n) hd
  exact h
theorem natAbs_le_mul {x c : Int} (h : c ≠ 0) : x.natAbs ≤ (x * c).natAbs := by
  rw [Int.natAbs_mul]
  exact Nat.le_mul_of_pos_right _ (by omega)
theorem frc_le {n d : Int} (hd : d ≠ 0) : (frc n d).1.natAbs ≤ n.natAbs ∧ (frc n d).2.natAbs ≤ d.natAbs := by
  obtain ⟨c, c0, h1, h2, _⟩ := frc_spec (n := n) hd
  constructor
  · have := natAbs_le_mul (x := (frc n d).1) c0
    rw [← h1] at this
    exact this
  · have := natAbs_le_mul (x := (frc n d).2) c0
    rw [← h2] at this
    exact this
theorem frc_small {n d : Int} {b : Nat} (hd : d ≠ 0) (bn : n.natAbs < 2 ^ b) (bd : d.natAbs < 2 ^ b) : Small b (frc n d) :=
  ⟨Nat.lt_of_le_of_lt (frc_le hd).1 bn, Nat.lt_of_le_of_lt (frc_le hd).2 bd⟩
/-- two reduced pairs with the same cross products are one -/
theorem red_eq {a b x y : Int} (hb : 0 < b) (hy : 0 < y) (g1 : Nat.gcd a.natAbs b.natAbs = 1) (g2 : Nat.gcd x.natAbs y.natAbs = 1) (h : a * y = x * b) : a = x ∧ b = y := by
  have hn : a.natAbs * y.natAbs = x.natAbs * b.natAbs := by
    rw [← Int.natAbs_mul, ← Int.natAbs_mul, h]
  have d1 : b.natAbs ∣ y.natAbs := Nat.Coprime.dvd_of_dvd_mul_left (show Nat.Coprime b.natAbs a.natAbs by rw [Nat.Coprime, Nat.gcd_comm]; exact g1) ⟨x.natAbs, by rw [hn, Nat.mul_comm]⟩
  have d2 : y.natAbs ∣ b.natAbs := Nat.Coprime.dvd_of_dvd_mul_left (show Nat.Coprime y.natAbs x.natAbs by rw [Nat.Coprime, Nat.gcd_comm]; exact g2) ⟨a.natAbs, by rw [← hn, Nat.mul_comm]⟩
  have e : b = y := by
    have := Nat.dvd_antisymm d1 d2
    omega
  subst e
  exact ⟨Int.eq_of_mul_eq_mul_right (by omega) h, rfl⟩
theorem frc_eq {n d m e : Int} (hd : d ≠ 0) (he : e ≠ 0) (h : n * e = m * d) : frc n d = frc m e := by
  obtain ⟨c, c0, h1, h2, h3, h4⟩ := frc_spec (n := n) hd
  obtain ⟨k, k0, j1, j2, j3, j4⟩ := frc_spec (n := m) he
  have hx : (frc n d).1 * (frc m e).2 = (frc m e).1 * (frc n d).2 := by
    have : ((frc n d).1 * (frc m e).2) * (c * k) = ((frc m e).1 * (frc n d).2) * (c * k) := by
      calc ((frc n d).1 * (frc m e).2) * (c * k) = ((frc n d).1 * c) * ((frc m e).2 * k) := by
            rw [Int.mul_assoc, Int.mul_assoc, Int.mul_left_comm (frc m e).2 c k]
        _ = n * e := by rw [← h1, ← j2]
        _ = m * d := h
        _ = ((frc m e).1 * k) * ((frc n d).2 * c) := by rw [← j1, ← h2]
        _ = ((frc m e).1 * (frc n d).2) * (c * k) := by
            rw [Int.mul_assoc, Int.mul_assoc, Int.mul_left_comm k (frc n d).2 c, Int.mul_comm k c]
    exact Int.eq_of_mul_eq_mul_right (Int.mul_ne_zero c0 k0) this
  obtain ⟨r1, r2⟩ := red_eq h3 j3 h4 j4 hx
  exact Prod.ext r1 r2
/-- a reduced pair -/
def Red (a : Int × Int) : Prop := 0 < a.2 ∧ Nat.gcd a.1.natAbs a.2.natAbs = 1
theorem frc_red {n d : Int} (hd : d ≠ 0) : Red (frc n d) := by
  obtain ⟨_, _, _, _, h, g⟩ := frc_spec (n := n) hd
  exact ⟨h, g⟩
theorem frc_self {a : Int × Int} (h : Red a) : frc a.1 a.2 = a := by
  obtain ⟨p, g⟩ := h
  obtain ⟨c, c0, h1, h2, h3, h4⟩ := frc_spec (n := a.1) (d := a.2) (by omega)
  have hx : (frc a.1 a.2).1 * a.2 = a.1 * (frc a.1 a.2).2 := by
    calc (frc a.1 a.2).1 * a.2 = (frc a.1 a.2).1 * ((frc a.1 a.2).2 * c) := by rw [← h2]
      _ = ((frc a.1 a.2).1 * c) * (frc a.1 a.2).2 := by rw [Int.mul_assoc, Int.mul_comm (frc a.1 a.2).2 c]
      _ = a.1 * (frc a.1 a.2).2 := by rw [← h1]
  obtain ⟨r1, r2⟩ := red_eq h3 p h4 g hx
  exact Prod.ext r1 r2
/-! sums, products of several -/
def plusF (a b : Int × Int) : Int × Int := frc (a.1 * b.2 + b.1 * a.2) (a.2 * b.2)
def timesF (a b : Int × Int) : Int × Int := frc (a.1 * b.1) (a.2 * b.2)
def totN (as : List (Int × Int)) : Int × Int := as.foldl (fun f r => (f.1 * r.2 + r.1 * f.2, f.2 * r.2)) (0, 1)
def totF (as : List (Int × Int)) : Int × Int := as.foldl plusF (0, 1)
def prN (as : List (Int × Int)) : Int × Int := as.foldl (fun f r => (f.1 * r.1, f.2 * r.2)) (1, 1)
def prF (as : List (Int × Int)) : Int × Int := as.foldl timesF (1, 1)
theorem frc_cross {n d : Int} (hd : d ≠ 0) : (frc n d).1 * d = n * (frc n d).2 := by
  obtain ⟨c, c0, h1, h2, h3, h4⟩ := frc_spec (n := n) hd
  calc (frc n d).1 * d = (frc n d).1 * ((frc n d).2 * c) := by rw [← h2]
    _ = ((frc n d).1 * c) * (frc n d).2 := by rw [Int.mul_assoc, Int.mul_comm (frc n d).2 c]
    _ = n * (frc n d).2 := by rw [← h1]
theorem plus_step {n d x y : Int} (hd : 0 < d) (hy : 0 < y) : plusF (frc n d) (x, y) = frc (n * y + x * d) (d * y) := by
  have p := frc_pos (n := n) (d := d) (by omega)
  refine frc_eq (Int.mul_ne_zero (by omega) (by omega)) (Int.mul_ne_zero (by omega) (by omega)) ?_
  have c := frc_cross (n := n) (d := d) (by omega)
  generalize (frc n d).1 = u at c ⊢
  generalize (frc n d).2 = v at c p ⊢
  show (u * y + x * v) * (d * y) = (n * y + x * d) * (v * y)
  have e1 : (u * y + x * v) * (d * y) = (u * d) * (y * y) + (x * v) * (d * y) := by
    rw [Int.add_mul]
    congr 1
    rw [Int.mul_assoc, Int.mul_assoc, Int.mul_left_comm y d y]
  have e2 : (n * y + x * d) * (v * y) = (n * v) * (y * y) + (x * v) * (d * y) := by
    rw [Int.add_mul]
    congr 1
    · rw [Int.mul_assoc, Int.mul_assoc, Int.mul_left_comm y v y]
    · rw [Int.mul_assoc, Int.mul_assoc, Int.mul_left_comm d v y]
  rw [e1, e2, c]
theorem times_step {n d x y : Int} (hd : 0 < d) (hy : 0 < y) : timesF (frc n d) (x, y) = frc (n * x) (d * y) := by
  have p := frc_pos (n := n) (d := d) (by omega)
  refine frc_eq (Int.mul_ne_zero (by omega) (by omega)) (Int.mul_ne_zero (by omega) (by omega)) ?_
  have c := frc_cross (n := n) (d := d) (by omega)
  generalize (frc n d).1 = u at c ⊢
  generalize (frc n d).2 = v at c p ⊢
  show (u * x) * (d * y) = (n * x) * (v * y)
  calc (u * x) * (d * y) = (u * d) * (x * y) := by rw [Int.mul_assoc, Int.mul_assoc, Int.mul_left_comm x d y]
    _ = (n * v) * (x * y) := by rw [c]
    _ = (n * x) * (v * y) := by rw [Int.mul_assoc, Int.mul_assoc, Int.mul_left_comm v x y]
theorem tot_fold : ∀ (as : List (Int × Int)) (n d : Int), 0 < d → (∀ a ∈ as, 0 < a.2) → as.foldl plusF (frc n d) = frc (as.foldl (fun f r => (f.1 * r.2 + r.1 * f.2, f.2 * r.2)) (n, d)).1 (as.foldl (fun f r => (f.1 * r.2 + r.1 * f.2, f.2 * r.2)) (n, d)).2
  | [], n, d, _, _ => rfl
  | a :: r, n, d, hd, h => by
    have ha := h a (.head _)
    rw [List.foldl_cons, List.foldl_cons, plus_step (x := a.1) (y := a.2) hd ha]
    exact tot_fold r _ _ (Int.mul_pos hd ha) fun b hb => h b (.tail _ hb)
theorem pr_fold : ∀ (as : List (Int × Int)) (n d : Int), 0 < d → (∀ a ∈ as, 0 < a.2) → as.foldl timesF (frc n d) = frc (as.foldl (fun f r => (f.1 * r.1, f.2 * r.2)) (n, d)).1 (as.foldl (fun f r => (f.1 * r.1, f.2 * r.2)) (n, d)).2
  | [], n, d, _, _ => rfl
  | a :: r, n, d, hd, h => by
    have ha := h a (.head _)
    rw [List.foldl_cons, List.foldl_cons, times_step (x := a.1) (y := a.2) hd ha]
    exact pr_fold r _ _ (Int.mul_pos hd ha) fun b hb => h b (.tail _ hb)
theorem frc_01 : frc 0 1 = (0, 1) := by decide
theorem frc_11 : frc 1 1 = (1, 1) := by decide
theorem totF_eq {as : List (Int × Int)} (h : ∀ a ∈ as, 0 < a.2) : totF as = frc (totN as).1 (totN as).2 := by
  have := tot_fold as 0 1 (by decide) h
  rw [frc_01] at this
  exact this
theorem prF_eq {as : List (Int × Int)} (h : ∀ a ∈ as, 0 < a.2) : prF as = frc (prN as).1 (prN as).2 := by
  have := pr_fold as 1 1 (by decide) h
  rw [frc_11] at this
  exact this
end Ky

namespace Ky
open PySem PySem.Spec PyProof.Rows L2
local macro_rules | `(tactic| walk_at "rd") => `(tactic| repeat (first
  | with_reducible refine w_seq ?_
  | with_reducible refine w_asg ?_
  | with_reducible refine w_ret ?_
  | with_reducible refine w_drop ?_
  | with_reducible refine w_ifs ?_
  | ((with_reducible refine' w_var ?hh ?_); (case hh => exact rfl))
  | with_reducible refine w_c ?_
  | with_reducible refine w_op ?_
  | with_reducible refine w_un ?_
  | with_reducible refine w_I0 ?_
  | with_reducible refine w_U ?_
  | with_reducible refine w_nil ?_
  | with_reducible refine w_cons ?_
  | with_reducible refine w_call ?_
  | with_reducible refine w_cb ?_
  | with_reducible refine w_test ?_
  | with_reducible refine w_B ?_
  | with_reducible refine w_bl ?_
  | with_reducible refine w_and ?_
  | with_reducible refine w_or ?_
  | with_reducible refine w_not ?_
  | with_reducible refine w_ife ?_
  | with_reducible refine w_gRd ?_
  | with_reducible refine w_andV ?_
  | with_reducible refine w_orV ?_
  | with_reducible refine w_notV ?_
  | with_reducible refine w_chain ?_
  | with_reducible refine w_din ?_
  | with_reducible refine w_isi_ii ?_
  | with_reducible refine w_isi_ib ?_
  | with_reducible refine w_isi_it ?_
  | with_reducible refine w_isi_st ?_
  | ((with_reducible refine w_isi_tt ?h1 ?_); (case h1 => first | assumption | exact upd_same))
  | with_reducible refine if_t rfl ?_
  | with_reducible refine if_f rfl ?_
  | with_reducible refine w_tup ?_
  | with_reducible refine w_lst ?_
  | with_reducible refine w_next ?_
  | with_reducible refine w_bm ?_
  | with_reducible refine w_sl ?_
  | with_reducible refine w_part ?_
  | with_reducible refine w_nop ?_
  | with_reducible refine w_isI ?_
  | with_reducible refine w_yes ?_
  | with_reducible refine w_gn ?_
  | with_reducible refine w_gsub ?_
  | ((with_reducible refine' w_setL ?h1 ?h2 ?_); (case h1 => first | assumption | exact upd_same); (case h2 => exact rfl))
  | with_reducible refine w_asgG ?_
  | with_reducible refine w_m1 ?_
  | with_reducible refine w_isS ?_
  | with_reducible refine w_tyS ?_
  | ((with_reducible refine' w_tyL ?h1 ?_); (case h1 => first | assumption | exact upd_same))
  | ((with_reducible refine' w_ixT ?h1 ?h2 ?_); (case h1 => first | assumption | exact upd_same); (case h2 => exact rfl))
  | ((with_reducible refine' w_ixL ?h1 ?h2 ?_); (case h1 => first | assumption | exact upd_same); (case h2 => exact rfl))
  | ((with_reducible refine w_eq ?h1 ?_); (case h1 => exact rfl))
  | ((with_reducible refine w_ne ?h1 ?_); (case h1 => exact rfl))
  | dsimp only [List.set_cons_zero, List.set_cons_succ, List.append_nil, List.cons_append, List.nil_append, cxOf]))

section
variable {P : Program} {w : World} {K : PySem.W.Frag} {mg : Str → Option Value} {base : Heap} {uG : Value} {f : Addr} {fd : FuncData}
def spFrac8 : Sp := fun vs H Q _ => ∃ n d : Int, vs = [.int n, .int d] ∧ d ≠ 0 ∧ n.natAbs < 2 ^ 8010 ∧ d.natAbs < 2 ^ 8010 ∧
  ∀ p H', H p = none → Kept H H' → FrAt H' p (frc n d) → Q (.ref p) H'
theorem log_of {i : Int} {b : Nat} (h : i.natAbs < 2 ^ b) (h0 : 0 < b) : i.natAbs.log2 < b := PySem.Flt.log2_lt_of h0 h
theorem frc_ne {n d : Int} (hd : d ≠ 0) : Nat.gcd n.natAbs d.natAbs ≠ 0 := by
  intro h
  have := Nat.eq_zero_of_gcd_eq_zero_right h
  omega
theorem gcd_le_r {n d : Int} (hd : d ≠ 0) : Nat.gcd n.natAbs d.natAbs ≤ d.natAbs := Nat.gcd_le_right _ (by omega)
/-- the promise of an operation on two fractions -/
def spTwo (C : (Int × Int) → (Int × Int) → Prop) (g : (Int × Int) → (Int × Int) → Int × Int) : Sp := fun vs H Q _ => ∃ (p q : Addr) (a b : Int × Int), vs = [.ref p, .ref q] ∧ FrAt H p a ∧ FrAt H q b ∧ Small 4000 a ∧ Small 4000 b ∧ C a b ∧
  ∀ r H', H r = none → Kept H H' → FrAt H' r (g a b) → Q (.ref r) H'
def minusF (a b : Int × Int) : Int × Int := frc (a.1 * b.2 - b.1 * a.2) (a.2 * b.2)
def overF (a b : Int × Int) : Int × Int := frc (a.1 * b.2) (a.2 * b.1)
abbrev Pos2 (a b : Int × Int) : Prop := 0 < a.2 ∧ 0 < b.2
theorem mul_small {x y : Int} (hx : x.natAbs < 2 ^ 4000) (hy : y.natAbs < 2 ^ 4000) : (x * y).natAbs < 2 ^ 8000 := wide_lt hx hy
theorem mul_ok {x y : Int} (hx : x.natAbs < 2 ^ 4000) (hy : y.natAbs < 2 ^ 4000) : CMulW x y := wide_mul hx hy (by decide) (by decide) (by decide)
theorem pow_up {x : Nat} (h : x < 2 ^ 8000) : x < 2 ^ 8010 := Nat.lt_of_lt_of_le h (Nat.pow_le_pow_right (by decide) (by decide))
theorem add_small {x y : Int} (hx : x.natAbs < 2 ^ 8000) (hy : y.natAbs < 2 ^ 8000) : (x + y).natAbs < 2 ^ 8010 := by
  have h : (2 : Nat) ^ 800 + 2 ^ 8000 ≤ 2 ^ 8010 := by decide
  omega
theorem sub_small {x y : Int} (hx : x.natAbs < 2 ^ 8000) (hy : y.natAbs < 2 ^ 8000) : (x - y).natAbs < 2 ^ 8010 := by
  have h : (2 : Nat) ^ 800 + 2 ^ 8000 ≤ 2 ^ 8010 := by decide
  omega
theorem mul_ne {x y : Int} (hx : 0 < x) (hy : 0 < y) : x * y ≠ 0 := Int.mul_ne_zero (by omega) (by omega)
def lessF (a b : Int × Int) : Bool := decide (a.1 * b.2 < b.1 * a.2)
def spLess : Sp := fun vs H Q _ => ∃ (p q : Addr) (a b : Int × Int), vs = [.ref p, .ref q] ∧ FrAt H p a ∧ FrAt H q b ∧ Small 4000 a ∧ Small 4000 b ∧ Q (.bl (lessF a b)) H
def spGreatest : Sp := fun vs H Q _ => ∃ (p q : Addr) (a b : Int × Int), vs = [.ref p, .ref q] ∧ FrAt H p a ∧ FrAt H q b ∧ Small 4000 a ∧ Small 4000 b ∧ Q (.ref (if lessF a b = true then q else p)) H
end
end Ky

namespace Ky
open PySem PySem.Spec PyProof.Rows L2
local macro_rules | `(tactic| walk_at "rd") => `(tactic| repeat (first
  | with_reducible refine w_seq ?_
  | with_reducible refine w_asg ?_
  | with_reducible refine w_ret ?_
  | with_reducible refine w_drop ?_
  | with_reducible refine w_ifs ?_
  | ((with_reducible refine' w_var ?hh ?_); (case hh => exact rfl))
  | with_reducible refine w_c ?_
  | with_reducible refine w_op ?_
  | with_reducible refine w_un ?_
  | with_reducible refine w_I0 ?_
  | with_reducible refine w_U ?_
  | with_reducible refine w_nil ?_
  | with_reducible refine w_cons ?_
  | with_reducible refine w_call ?_
  | with_reducible refine w_cb ?_
  | with_reducible refine w_test ?_
  | with_reducible refine w_B ?_
  | with_reducible refine w_bl ?_
  | with_reducible refine w_and ?_
  | with_reducible refine w_or ?_
  | with_reducible refine w_not ?_
  | with_reducible refine w_ife ?_
  | with_reducible refine w_gRd ?_
  | with_reducible refine w_andV ?_
  | with_reducible refine w_orV ?_
  | with_reducible refine w_notV ?_
  | with_reducible refine w_chain ?_
  | with_reducible refine w_din ?_
  | with_reducible refine w_isi_ii ?_
  | with_reducible refine w_isi_ib ?_
  | with_reducible refine w_isi_it ?_
  | with_reducible refine w_isi_st ?_
  | ((with_reducible refine w_isi_tt ?h1 ?_); (case h1 => first | assumption | exact upd_same))
  | with_reducible refine if_t rfl ?_
  | with_reducible refine if_f rfl ?_
  | with_reducible refine w_tup ?_
  | with_reducible refine w_lst ?_
  | with_reducible refine w_next ?_
  | with_reducible refine w_bm ?_
  | with_reducible refine w_sl ?_
  | with_reducible refine w_part ?_
  | with_reducible refine w_nop ?_
  | with_reducible refine w_isI ?_
  | with_reducible refine w_yes ?_
  | with_reducible refine w_gn ?_
  | with_reducible refine w_gsub ?_
  | ((with_reducible refine' w_setL ?h1 ?h2 ?_); (case h1 => first | assumption | exact upd_same); (case h2 => exact rfl))
  | with_reducible refine w_asgG ?_
  | with_reducible refine w_m1 ?_
  | with_reducible refine w_isS ?_
  | with_reducible refine w_tyS ?_
  | ((with_reducible refine' w_tyL ?h1 ?_); (case h1 => first | assumption | exact upd_same))
  | ((with_reducible refine' w_ixT ?h1 ?h2 ?_); (case h1 => first | assumption | exact upd_same); (case h2 => exact rfl))
  | ((with_reducible refine' w_ixL ?h1 ?h2 ?_); (case h1 => first | assumption | exact upd_same); (case h2 => exact rfl))
  | ((with_reducible refine w_eq ?h1 ?_); (case h1 => exact rfl))
  | ((with_reducible refine w_ne ?h1 ?_); (case h1 => exact rfl))
  | dsimp only [List.set_cons_zero, List.set_cons_succ, List.append_nil, List.cons_append, List.nil_append, cxOf]))

section
variable {P : Program} {w : World} {K : PySem.W.Frag} {mg : Str → Option Value} {base : Heap} {uG : Value} {f : Addr} {fd : FuncData}
theorem abs_natI (n : Int) : (if n < 0 then -n else n) = ((n.natAbs : Nat) : Int) := by split <;> omega
def spGcd : Sp := fun vs H Q _ => ∃ a b : Nat, vs = [.int (a : Int), .int (b : Int)] ∧ a < 2 ^ 8010 ∧ b < 2 ^ 8010 ∧ Q (.int ((Nat.gcd a b : Nat) : Int)) H
/-! sums and products of up to three -/
/-- the list at l holds the fractions as -/
def FrsAt (K : PySem.W.Frag) (H : Hp) (l : Addr) (as : List (Int × Int)) : Prop := ∃ ps : List Addr, SqL K H l (ps.map V.ref) ∧ ps.length = as.length ∧ ∀ (i : Nat) p, ps[i]? = some p → ∃ a, as[i]? = some a ∧ FrAt H p a
def spRow (K : PySem.W.Frag) (g : List (Int × Int) → Int × Int) : Sp := fun vs H Q _ => ∃ (l : Addr) (as : List (Int × Int)), vs = [.ref l] ∧ FrsAt K H l as ∧ as.length ≤ 64 ∧ (∀ a ∈ as, 0 < a.2 ∧ Small 50 a) ∧
  ∀ r H', H r = none → Kept H H' → FrAt H' r (g as) → Q (.ref r) H'
theorem Kept.fr {H H' : Hp} {p : Addr} {a : Int × Int} (e : Kept H H') (h : FrAt H p a) : FrAt H' p a := Kept.tup e h
theorem map_ref {ps : List Addr} {i : Nat} {y : V} (h : (ps.map V.ref)[i]? = some y) : ∃ p, y = V.ref p ∧ ps[i]? = some p := by
  rw [List.getElem?_map] at h
  cases e : ps[i]? with
  | none =>
    rw [e] at h
    cases h
  | some u =>
    rw [e] at h
    exact ⟨u, (Option.some.inj h).symm, rfl⟩
theorem foldl_take {α β : Type} (g : β → α → β) (b : β) (as : List α) {i : Nat} {a : α} (h : as[i]? = some a) : (as.take (i + 1)).foldl g b = g ((as.take i).foldl g b) a := by
  rw [List.take_add_one, h, List.foldl_append]
  rfl
theorem lt_mul {x y : Int} {a b : Nat} (hx : x.natAbs < 2 ^ a) (hy : y.natAbs < 2 ^ b) {c : Nat} (h : a + b ≤ c) : (x * y).natAbs < 2 ^ c := Nat.lt_of_lt_of_le (wide_lt hx hy) (Nat.pow_le_pow_right (by decide) h)
theorem lt_add {x y : Int} {a : Nat} (hx : x.natAbs < 2 ^ a) (hy : y.natAbs < 2 ^ a) {c : Nat} (h : a + 1 ≤ c) : (x + y).natAbs < 2 ^ c := by
  have h2 : 2 ^ (a + 1) ≤ 2 ^ c := Nat.pow_le_pow_right (by decide) h
  rw [Nat.pow_succ] at h2
  omega
theorem lt_up {x : Nat} {a b : Nat} (hx : x < 2 ^ a) (h : a ≤ b) : x < 2 ^ b := Nat.lt_of_lt_of_le hx (Nat.pow_le_pow_right (by decide) h)
theorem plus_small {x y : Int × Int} {s : Nat} (h1 : Small s x) (h2 : Small 50 y) (p1 : 0 < x.2) (p2 : 0 < y.2) : Small (s + 60) (plusF x y) :=
  frc_small (mul_ne p1 p2) (lt_add (lt_mul h1.1 h2.2 (c := s + 50) (by omega)) (lt_mul h2.1 h1.2 (c := s + 50) (by omega)) (by omega)) (lt_mul h1.2 h2.2 (by omega))
theorem times_small {x y : Int × Int} {s : Nat} (h1 : Small s x) (h2 : Small 50 y) (p1 : 0 < x.2) (p2 : 0 < y.2) : Small (s + 60) (timesF x y) :=
  frc_small (mul_ne p1 p2) (lt_mul h1.1 h2.1 (by omega)) (lt_mul h1.2 h2.2 (by omega))
theorem small_one {z : Int} (h : z.natAbs ≤ 1 := by decide) : Small (60 * 0 + 1) (z, 1) := ⟨Nat.lt_of_le_of_lt h (by decide), show (1 : Int).natAbs < 2 ^ (60 * 0 + 1) by decide⟩
theorem Small.up {a : Int × Int} {m n : Nat} (h : Small m a) (l : m ≤ n) : Small n a := ⟨lt_up h.1 l, lt_up h.2 l⟩
end
end Ky

namespace Ky
open PySem PySem.Spec PyProof.Rows L2
local macro_rules | `(tactic| walk_at "rd") => `(tactic| repeat (first
  | with_reducible refine w_for1 ?_
  | with_reducible refine w_for2 ?_
  | with_reducible refine w_forL ?_
  | with_reducible refine w_forT ?_
  | with_reducible refine w_lc1 ?_
  | with_reducible refine w_lcL ?_
  | with_reducible refine w_lcT ?_
  | with_reducible refine w_seq ?_
  | with_reducible refine w_asg ?_
  | with_reducible refine w_ret ?_
  | with_reducible refine w_drop ?_
  | with_reducible refine w_ifs ?_
  | ((with_reducible refine' w_var ?hh ?_); (case hh => exact rfl))
  | with_reducible refine w_c ?_
  | with_reducible refine w_op ?_
  | with_reducible refine w_un ?_
  | with_reducible refine w_I0 ?_
  | with_reducible refine w_U ?_
  | with_reducible refine w_nil ?_
  | with_reducible refine w_cons ?_
  | with_reducible refine w_call ?_
  | with_reducible refine w_cb ?_
  | with_reducible refine w_test ?_
  | with_reducible refine w_B ?_
  | with_reducible refine w_bl ?_
  | with_reducible refine w_and ?_
  | with_reducible refine w_or ?_
  | with_reducible refine w_not ?_
  | with_reducible refine w_ife ?_
  | with_reducible refine w_gRd ?_
  | with_reducible refine w_andV ?_
  | with_reducible refine w_orV ?_
  | with_reducible refine w_notV ?_
  | with_reducible refine w_chain ?_
  | with_reducible refine w_din ?_
  | with_reducible refine w_isi_ii ?_
  | with_reducible refine w_isi_ib ?_
  | with_reducible refine w_isi_it ?_
  | with_reducible refine w_isi_st ?_
  | ((with_reducible refine w_isi_tt ?h1 ?_); (case h1 => first | assumption | exact upd_same))
  | with_reducible refine if_t rfl ?_
  | with_reducible refine if_f rfl ?_
  | with_reducible refine w_tup ?_
  | with_reducible refine w_lst ?_
  | with_reducible refine w_next ?_
  | with_reducible refine w_bm ?_
  | with_reducible refine w_sl ?_
  | with_reducible refine w_part ?_
  | with_reducible refine w_nop ?_
  | with_reducible refine w_isI ?_
  | with_reducible refine w_yes ?_
  | with_reducible refine w_gn ?_
  | with_reducible refine w_gsub ?_
  | ((with_reducible refine' w_setL ?h1 ?h2 ?_); (case h1 => first | assumption | exact upd_same); (case h2 => exact rfl))
  | with_reducible refine w_asgG ?_
  | with_reducible refine w_m1 ?_
  | with_reducible refine w_isS ?_
  | with_reducible refine w_tyS ?_
  | ((with_reducible refine' w_tyL ?h1 ?_); (case h1 => first | assumption | exact upd_same))
  | ((with_reducible refine' w_ixT ?h1 ?h2 ?_); (case h1 => first | assumption | exact upd_same); (case h2 => exact rfl))
  | ((with_reducible refine' w_ixL ?h1 ?h2 ?_); (case h1 => first | assumption | exact upd_same); (case h2 => exact rfl))
  | ((with_reducible refine w_eq ?h1 ?_); (case h1 => exact rfl))
  | ((with_reducible refine w_ne ?h1 ?_); (case h1 => exact rfl))
  | dsimp only [List.set_cons_zero, List.set_cons_succ, List.append_nil, List.cons_append, List.nil_append, cxOf]))

/-! ### fillings -/
def longF (cs : List (List Int)) (v : Int) : List (List Int) := cs.flatMap fun c => [c ++ [-v], c ++ [v]]
def fillF (vs : List Int) : List (List Int) := vs.foldl longF [[]]
theorem longF_len (cs : List (List Int)) (v : Int) : (longF cs v).length = 2 * cs.length := by
  unfold longF
  induction cs with
  | nil => rfl
  | cons c cs ih =>
    rw [List.flatMap_cons, List.length_append, ih, List.length_cons]
    show 2 + 2 * cs.length = 2 * (cs.length + 1)
    omega
theorem longF_app (cs ds : List (List Int)) (v : Int) : longF (cs ++ ds) v = longF cs v ++ longF ds v := by
  unfold longF
  rw [List.flatMap_append]
theorem longF_one (c : List Int) (v : Int) : longF [c] v = [c ++ [-v], c ++ [v]] := rfl
theorem fillF_snoc (vs : List Int) (v : Int) : fillF (vs ++ [v]) = longF (fillF vs) v := by
  unfold fillF
  rw [List.foldl_append]
  rfl
theorem fillF_len : ∀ vs : List Int, (fillF vs).length = 2 ^ vs.length := by
  intro vs
  unfold fillF
  have h : ∀ (vs : List Int) (cs : List (List Int)), (vs.foldl longF cs).length = 2 ^ vs.length * cs.length := by
    intro vs
    induction vs with
    | nil => intro cs; simp
    | cons v vs ih =>
      intro cs
      rw [List.foldl_cons, ih, longF_len, List.length_cons, Nat.pow_succ, Nat.mul_assoc]
  rw [h]
  simp
/-- what a filling is: for each variable the one or the other literal -/
def IsFill : List Int → List Int → Prop
  | [], f => f = []
  | v :: vs, f => ∃ g, IsFill vs g ∧ (f = -v :: g ∨ f = v :: g)
theorem isFill_snoc : ∀ {vs f : List Int} {v l : Int}, IsFill vs f → (l = -v ∨ l = v) → IsFill (vs ++ [v]) (f ++ [l])
  | [], f, v, l, h, hl => by
    have h : f = [] := h
    subst h
    exact ⟨[], rfl, hl.elim (fun e => .inl (by rw [e]; rfl)) (fun e => .inr (by rw [e]; rfl))⟩
  | u :: us, f, v, l, h, hl => by
    obtain ⟨g, hg, e⟩ := h
    exact ⟨g ++ [l], isFill_snoc hg hl, e.elim (fun e => .inl (by rw [e]; rfl)) (fun e => .inr (by rw [e]; rfl))⟩
theorem isFill_fold : ∀ (vs us : List Int) (cs : List (List Int)), (∀ c ∈ cs, IsFill us c) → ∀ f ∈ vs.foldl longF cs, IsFill (us ++ vs) f
  | [], us, cs, h, f, hf => by
    rw [List.append_nil]
    exact h f hf
  | v :: vs, us, cs, h, f, hf => by
    rw [List.foldl_cons] at hf
    have q := isFill_fold vs (us ++ [v]) (longF cs v) (fun c hc => by
      obtain ⟨d, hd, hc⟩ := List.mem_flatMap.mp hc
      simp only [List.mem_cons, List.not_mem_nil, or_false] at hc
      rcases hc with rfl | rfl
      · exact isFill_snoc (h d hd) (.inl rfl)
      · exact isFill_snoc (h d hd) (.inr rfl)) f hf
    rw [List.append_assoc] at q
    exact q
theorem fillF_is {vs f : List Int} (h : f ∈ fillF vs) : IsFill vs f := by
  have q := isFill_fold vs [] [[]] (fun c hc => List.mem_singleton.mp hc) f h
  exact q
theorem isFill_len : ∀ {vs f : List Int}, IsFill vs f → f.length = vs.length
  | [], f, h => by
    have h : f = [] := h
    rw [h] <;> rfl
  | v :: vs, f, h => by
    obtain ⟨g, hg, e⟩ := h
    rcases e with rfl | rfl <;> rw [List.length_cons, List.length_cons, isFill_len hg]
theorem w_catA {K : PySem.W.Frag} {H : Hp} {Q : VK} {a b : Addr} {xs ys : List Int} (ha : H a = some (.tup (xs.map V.int))) (hb : H b = some (.tup (ys.map V.int))) (hl : xs.length + ys.length ≤ 1000) (q : ∀ p H', Kept H H' → H' p = some (.tup ((xs ++ ys).map V.int)) → Q (.ref p) H') : rCatA K (.ref a) (.ref b) H Q := by
  have hz : 1000 ≤ sizeLine := by decide
  refine ⟨a, b, _, _, rfl, rfl, SqT.of ha, SqT.of hb, by rw [List.length_map, List.length_map]; omega, fun h => ?_, fun _ h => ?_, fun _ _ p hp => ?_⟩
  · have e : xs = [] := List.map_eq_nil_iff.mp h
    subst e
    exact q b H (Kept.refl _) hb
  · have e : ys = [] := List.map_eq_nil_iff.mp h
    subst e
    exact q a H (Kept.refl _) (by rw [List.append_nil]; exact ha)
  · exact q p _ (Kept.new hp) (by rw [List.map_append]; exact upd_same)
theorem w_iT {K : PySem.W.Frag} {te : TE} {σ : L2.St} {H : Hp} {R : It → Hp → Prop} (q : te σ H fun x H1 => ∃ a, x = .ref a ∧ (∃ xs, SqT K H1 a xs) ∧ R (Itt K a) H1) : iTup K te σ H R := q
theorem ClsAt.nil {H : Hp} : ClsAt H [] [] := ⟨rfl, fun i b c h => by simp at h⟩
def spLLonger : Sp := fun vs H Q _ => ∃ (a : Addr) (bs : List Addr) (cs : List (List Int)) (v : Int), vs = [.ref a, .int v] ∧ H a = some (.lst (bs.map V.ref)) ∧ ClsAt H bs cs ∧ cs.length ≤ 256 ∧ (∀ c ∈ cs, c.length ≤ 20) ∧
  ∀ p H' bs', Kept H H' → H p = none → H' p = some (.lst (bs'.map V.ref)) → ClsAt H' bs' (longF cs v) → Q (.ref p) H'
def spFill : Sp := fun vs H Q _ => ∃ (a : Addr) (ns : List Int), vs = [.ref a] ∧ H a = some (.tup (ns.map V.int)) ∧ ns.length ≤ 8 ∧
  ∀ p H' bs', Kept H H' → H p = none → H' p = some (.lst (bs'.map V.ref)) → ClsAt H' bs' (fillF ns) → Q (.ref p) H'
section
variable {P : Program} {w : World} {K : PySem.W.Frag} {mg : Str → Option Value} {base : Heap} {uG : Value} {f : Addr} {fd : FuncData}
end
end Ky

namespace Ky
open PySem PySem.Spec PyProof.Rows L2
local macro_rules | `(tactic| walk_at "rd") => `(tactic| repeat (first
  | with_reducible refine w_for1 ?_
  | with_reducible refine w_for2 ?_
  | with_reducible refine w_forL ?_
  | with_reducible refine w_forT ?_
  | with_reducible refine w_lc1 ?_
  | with_reducible refine w_lcL ?_
  | with_reducible refine w_lcT ?_
  | with_reducible refine w_seq ?_
  | with_reducible refine w_asg ?_
  | with_reducible refine w_ret ?_
  | with_reducible refine w_drop ?_
  | with_reducible refine w_ifs ?_
  | ((with_reducible refine' w_var ?hh ?_); (case hh => exact rfl))
  | with_reducible refine w_c ?_
  | with_reducible refine w_op ?_
  | with_reducible refine w_un ?_
  | with_reducible refine w_I0 ?_
  | with_reducible refine w_U ?_
  | with_reducible refine w_nil ?_
  | with_reducible refine w_cons ?_
  | with_reducible refine w_call ?_
  | with_reducible refine w_cb ?_
  | with_reducible refine w_test ?_
  | with_reducible refine w_B ?_
  | with_reducible refine w_bl ?_
  | with_reducible refine w_and ?_
  | with_reducible refine w_or ?_
  | with_reducible refine w_not ?_
  | with_reducible refine w_ife ?_
  | with_reducible refine w_gRd ?_
  | with_reducible refine w_andV ?_
  | with_reducible refine w_orV ?_
  | with_reducible refine w_notV ?_
  | with_reducible refine w_chain ?_
  | with_reducible refine w_din ?_
  | with_reducible refine w_isi_ii ?_
  | with_reducible refine w_isi_ib ?_
  | with_reducible refine w_isi_it ?_
  | with_reducible refine w_isi_st ?_
  | ((with_reducible refine w_isi_tt ?h1 ?_); (case h1 => first | assumption | exact upd_same))
  | with_reducible refine if_t rfl ?_
  | with_reducible refine if_f rfl ?_
  | with_reducible refine w_tup ?_
  | with_reducible refine w_lst ?_
  | with_reducible refine w_next ?_
  | with_reducible refine w_bm ?_
  | with_reducible refine w_sl ?_
  | with_reducible refine w_part ?_
  | with_reducible refine w_nop ?_
  | with_reducible refine w_isI ?_
  | with_reducible refine w_yes ?_
  | with_reducible refine w_gn ?_
  | with_reducible refine w_gsub ?_
  | ((with_reducible refine' w_setL ?h1 ?h2 ?_); (case h1 => first | assumption | exact upd_same); (case h2 => exact rfl))
  | with_reducible refine w_asgG ?_
  | with_reducible refine w_m1 ?_
  | with_reducible refine w_isS ?_
  | with_reducible refine w_tyS ?_
  | ((with_reducible refine' w_tyL ?h1 ?_); (case h1 => first | assumption | exact upd_same))
  | ((with_reducible refine' w_ixT ?h1 ?h2 ?_); (case h1 => first | assumption | exact upd_same); (case h2 => exact rfl))
  | ((with_reducible refine' w_ixL ?h1 ?h2 ?_); (case h1 => first | assumption | exact upd_same); (case h2 => exact rfl))
  | ((with_reducible refine w_eq ?h1 ?_); (case h1 => exact rfl))
  | ((with_reducible refine w_ne ?h1 ?_); (case h1 => exact rfl))
  | dsimp only [List.set_cons_zero, List.set_cons_succ, List.append_nil, List.cons_append, List.nil_append, cxOf]))

/-! ### a formula drawn -/
structure FormF (most hm cl : Nat) (S Hd : List Int) (rc : List (List Int)) : Prop where
  sAsc : S.Pairwise (· < ·)
  hAsc : Hd.Pairwise (· < ·)
  dis : ∀ v ∈ S, v ∉ Hd
  sVar : ∀ v ∈ S, 1 ≤ v ∧ v ≤ 999
  hVar : ∀ v ∈ Hd, 1 ≤ v ∧ v ≤ 999
  sPos : 1 ≤ S.length
  sLen : S.length ≤ most
  hLen : Hd.length ≤ hm
  rLen : rc.length ≤ cl
  rAsc : ascC rc
  cls : ∀ c ∈ rc, isClauseF c = true ∧ c.length ≤ 5 ∧ ∀ n ∈ c, absI n ∈ S ∨ absI n ∈ Hd
/-- a formula in the heap -/
structure FormAt (H : Hp) (p : Addr) (S Hd : List Int) (rc : List (List Int)) : Prop where
  ex : ∃ (s h r : Addr) (bs : List Addr), H p = some (.tup [.ref s, .ref h, .ref r]) ∧ H s = some (.tup (S.map V.int)) ∧ H h = some (.tup (Hd.map V.int)) ∧ H r = some (.tup (bs.map V.ref)) ∧ ClsAt H bs rc
theorem FormAt.kept {H H' : Hp} {p : Addr} {S Hd : List Int} {rc : List (List Int)} (h : FormAt H p S Hd rc) (k : Kept H H') : FormAt H' p S Hd rc := by
  obtain ⟨s, t, r, bs, h1, h2, h3, h4, h5⟩ := h.ex
  exact ⟨s, t, r, bs, k.tup h1, k.tup h2, k.tup h3, k.tup h4, h5.kept k⟩
theorem FormAt.keptC {d c : Addr} {H H' : Hp} {p : Addr} {S Hd : List Int} {rc : List (List Int)} (h : FormAt H p S Hd rc) (k : KeptC d c H H') (hd : DrwC d c H) : FormAt H' p S Hd rc := by
  obtain ⟨s, t, r, bs, h1, h2, h3, h4, h5⟩ := h.ex
  exact ⟨s, t, r, bs, k.tup hd h1, k.tup hd h2, k.tup hd h3, k.tup hd h4, h5.keptC k hd⟩
def spLFormula : Sp := fun vs H Q _ => ∃ (d c : Addr) (most hm cl : Nat), vs = [.ref d, .int most, .int hm, .int cl] ∧ 1 ≤ most ∧ most + hm ≤ 11 ∧ cl ≤ 60 ∧ DrwC d c H ∧
  ∀ p H' S Hd rc, KeptC d c H H' → FormAt H' p S Hd rc → FormF most hm cl S Hd rc → Q (.ref p) H'
theorem isLit_of {u z : Int} (h : 1 ≤ u ∧ u ≤ 999) (hz : z = 1 ∨ z = -1) : isLit (u * z) = true ∧ absI (u * z) = u := by
  have e : absI (u * z) = u := by
    unfold absI
    rcases hz with rfl | rfl
    · rw [Int.mul_one, if_neg (by omega)]
    · rw [Int.mul_neg, Int.mul_one, if_pos (by omega)]
      omega
  refine ⟨?_, e⟩
  unfold isLit isVar
  rw [e]
  simp [h.1, h.2]
theorem erase_map {α β : Type} (g : α → β) : ∀ (xs : List α) (k : Nat), (xs.map g).eraseIdx k = (xs.eraseIdx k).map g
  | [], _ => rfl
  | _ :: _, 0 => rfl
  | x :: xs, k + 1 => by
    rw [List.map_cons, List.eraseIdx_cons_succ, List.eraseIdx_cons_succ, List.map_cons, erase_map g xs k]
theorem erase_perm {α : Type} : ∀ {xs : List α} {k : Nat} {y : α}, xs[k]? = some y → (y :: xs.eraseIdx k).Perm xs
  | [], _, _, h => by simp at h
  | x :: xs, 0, y, h => by
    have e : x = y := by simpa using h
    subst e
    exact List.Perm.refl _
  | x :: xs, k + 1, y, h => by
    rw [List.eraseIdx_cons_succ]
    have q := erase_perm (xs := xs) (k := k) (y := y) (by simpa using h)
    exact (List.Perm.swap x y _).trans (q.cons x)
theorem lit_ne {x : Int} (h : isLit x = true) : x ≠ 0 := fun e => by
  subst e
  exact absurd h (by decide)
theorem noBoth_snoc {row : List Int} {x : Int} (h : noBoth row) (h2 : -x ∉ row) (h3 : x ≠ 0) : noBoth (row ++ [x]) := fun l hl hn => by
  rcases List.mem_append.mp hl with a | a
  · rcases List.mem_append.mp hn with b | b
    · exact h l a b
    · have e : -l = x := List.mem_singleton.mp b
      exact h2 (by rw [← e, Int.neg_neg]; exact a)
  · have e : l = x := List.mem_singleton.mp a
    subst e
    rcases List.mem_append.mp hn with b | b
    · exact h2 b
    · have e : -l = l := List.mem_singleton.mp b
      omega
theorem lit_all {ls : List Int} (h : ∀ n ∈ ls, isLit n = true) : ∀ n ∈ ls, n.natAbs < 2 ^ 60 := fun n hn => lit_small (h n hn)
section
variable {P : Program} {w : World} {K : PySem.W.Frag} {mg : Str → Option Value} {base : Heap} {uG : Value} {f : Addr} {fd : FuncData}
end
end Ky

namespace Ky
open PySem PySem.Spec PyProof.Rows L2
local macro_rules | `(tactic| walk_at "rd") => `(tactic| repeat (first
  | with_reducible refine w_for1 ?_
  | with_reducible refine w_for2 ?_
  | with_reducible refine w_forL ?_
  | with_reducible refine w_forT ?_
  | with_reducible refine w_lc1 ?_
  | with_reducible refine w_lcL ?_
  | with_reducible refine w_lcT ?_
  | with_reducible refine w_seq ?_
  | with_reducible refine w_asg ?_
  | with_reducible refine w_ret ?_
  | with_reducible refine w_drop ?_
  | with_reducible refine w_ifs ?_
  | ((with_reducible refine' w_var ?hh ?_); (case hh => exact rfl))
  | with_reducible refine w_c ?_
  | with_reducible refine w_op ?_
  | with_reducible refine w_un ?_
  | with_reducible refine w_I0 ?_
  | with_reducible refine w_U ?_
  | with_reducible refine w_nil ?_
  | with_reducible refine w_cons ?_
  | with_reducible refine w_call ?_
  | with_reducible refine w_cb ?_
  | with_reducible refine w_test ?_
  | with_reducible refine w_B ?_
  | with_reducible refine w_bl ?_
  | with_reducible refine w_and ?_
  | with_reducible refine w_or ?_
  | with_reducible refine w_not ?_
  | with_reducible refine w_ife ?_
  | with_reducible refine w_gRd ?_
  | with_reducible refine w_andV ?_
  | with_reducible refine w_orV ?_
  | with_reducible refine w_notV ?_
  | with_reducible refine w_chain ?_
  | with_reducible refine w_din ?_
  | with_reducible refine w_isi_ii ?_
  | with_reducible refine w_isi_ib ?_
  | with_reducible refine w_isi_it ?_
  | with_reducible refine w_isi_st ?_
  | ((with_reducible refine w_isi_tt ?h1 ?_); (case h1 => first | assumption | exact upd_same))
  | with_reducible refine if_t rfl ?_
  | with_reducible refine if_f rfl ?_
  | with_reducible refine w_tup ?_
  | with_reducible refine w_lst ?_
  | with_reducible refine w_next ?_
  | with_reducible refine w_bm ?_
  | with_reducible refine w_sl ?_
  | with_reducible refine w_part ?_
  | with_reducible refine w_nop ?_
  | with_reducible refine w_isI ?_
  | with_reducible refine w_yes ?_
  | with_reducible refine w_gn ?_
  | with_reducible refine w_gsub ?_
  | ((with_reducible refine' w_setL ?h1 ?h2 ?_); (case h1 => first | assumption | exact upd_same); (case h2 => exact rfl))
  | with_reducible refine w_asgG ?_
  | with_reducible refine w_m1 ?_
  | with_reducible refine w_isS ?_
  | with_reducible refine w_tyS ?_
  | ((with_reducible refine' w_tyL ?h1 ?_); (case h1 => first | assumption | exact upd_same))
  | ((with_reducible refine' w_ixT ?h1 ?h2 ?_); (case h1 => first | assumption | exact upd_same); (case h2 => exact rfl))
  | ((with_reducible refine' w_ixL ?h1 ?h2 ?_); (case h1 => first | assumption | exact upd_same); (case h2 => exact rfl))
  | ((with_reducible refine w_eq ?h1 ?_); (case h1 => exact rfl))
  | ((with_reducible refine w_ne ?h1 ?_); (case h1 => exact rfl))
  | dsimp only [List.set_cons_zero, List.set_cons_succ, List.append_nil, List.cons_append, List.nil_append, cxOf]))

/-! ### weights drawn -/
structure WtAt (H : Hp) (q : Addr) (x : Int × (Int × Int)) : Prop where
  ex : ∃ fq : Addr, H q = some (.tup [.int x.1, .ref fq]) ∧ FrAt H fq x.2
theorem WtAt.kept {H H' : Hp} {q : Addr} {x : Int × (Int × Int)} (h : WtAt H q x) (k : Kept H H') : WtAt H' q x := by
  obtain ⟨fq, h1, h2⟩ := h.ex
  exact ⟨fq, k.tup h1, k.tup h2⟩
theorem WtAt.keptC {d c : Addr} {H H' : Hp} {q : Addr} {x : Int × (Int × Int)} (h : WtAt H q x) (k : KeptC d c H H') (hd : DrwC d c H) : WtAt H' q x := by
  obtain ⟨fq, h1, h2⟩ := h.ex
  exact ⟨fq, k.tup hd h1, k.tup hd h2⟩
theorem WtAt.upd {H : Hp} {D q : Addr} {xs : List V} {o : HO} {x : Int × (Int × Int)} (h : WtAt H q x) (hD : H D = some (.lst xs)) : WtAt (upd H D o) q x := by
  obtain ⟨fq, h1, h2⟩ := h.ex
  exact ⟨fq, tup_upd hD h1, tup_upd hD h2⟩
def WtsAt (H : Hp) (qs : List Addr) (ws : List (Int × (Int × Int))) : Prop := qs.length = ws.length ∧ ∀ (i : Nat) (q : Addr) (x : Int × (Int × Int)), qs[i]? = some q → ws[i]? = some x → WtAt H q x
theorem WtsAt.kept {H H' : Hp} {qs : List Addr} {ws : List (Int × (Int × Int))} (h : WtsAt H qs ws) (k : Kept H H') : WtsAt H' qs ws := ⟨h.1, fun i q x h1 h2 => (h.2 i q x h1 h2).kept k⟩
theorem WtsAt.keptC {d c : Addr} {H H' : Hp} {qs : List Addr} {ws : List (Int × (Int × Int))} (h : WtsAt H qs ws) (k : KeptC d c H H') (hd : DrwC d c H) : WtsAt H' qs ws := ⟨h.1, fun i q x h1 h2 => (h.2 i q x h1 h2).keptC k hd⟩
theorem WtsAt.upd {H : Hp} {D : Addr} {xs : List V} {o : HO} {qs : List Addr} {ws : List (Int × (Int × Int))} (h : WtsAt H qs ws) (hD : H D = some (.lst xs)) : WtsAt (upd H D o) qs ws := ⟨h.1, fun i q x h1 h2 => (h.2 i q x h1 h2).upd hD⟩
theorem WtsAt.snoc {H : Hp} {qs : List Addr} {ws : List (Int × (Int × Int))} {b : Addr} {x : Int × (Int × Int)} (h : WtsAt H qs ws) (hb : WtAt H b x) : WtsAt H (qs ++ [b]) (ws ++ [x]) := by
  refine ⟨by rw [List.length_append, List.length_append, h.1] <;> rfl, fun j q d hq hd => ?_⟩
  by_cases hj : j < qs.length
  · rw [List.getElem?_append_left hj] at hq
    rw [List.getElem?_append_left (by rw [← h.1]; exact hj)] at hd
    exact h.2 j q d hq hd
  · rw [List.getElem?_append_right (by omega)] at hq
    rw [List.getElem?_append_right (by rw [← h.1]; omega)] at hd
    rw [← h.1] at hd
    cases z : j - qs.length with
    | zero =>
      rw [z] at hq hd
      cases hq
      cases hd
      exact hb
    | succ m =>
      rw [z] at hq
      simp at hq
def litsF (S : List Int) : List Int := S.flatMap fun u => [-u, u]
theorem litsF_snoc (S : List Int) (v : Int) : litsF (S ++ [v]) = litsF S ++ [-v, v] := by
  unfold litsF
  rw [List.flatMap_append]
  rfl
theorem litsF_len (S : List Int) : (litsF S).length = 2 * S.length := by
  unfold litsF
  induction S with
  | nil => rfl
  | cons c cs ih =>
    rw [List.flatMap_cons, List.length_append, ih, List.length_cons]
    show 2 + 2 * cs.length = 2 * (cs.length + 1)
    omega
/-- a weight that is a fraction, small -/
def WtOk (x : Int × (Int × Int)) : Prop := 0 < x.2.2 ∧ Small 6 x.2 ∧ 0 ≤ x.2.1 ∧ Red x.2
structure WtF (S : List Int) (ws : List (Int × (Int × Int))) : Prop where
  sub : (ws.map (·.1)).Sublist (litsF S)
  ok : ∀ x ∈ ws, WtOk x
theorem WtF.len {S : List Int} {ws : List (Int × (Int × Int))} (h : WtF S ws) : ws.length ≤ 2 * S.length := by
  have q := h.sub.length_le
  rw [List.length_map, litsF_len] at q
  exact q
def spLWeights : Sp := fun vs H Q _ => ∃ (d c p : Addr) (S Hd : List Int) (rc : List (List Int)), vs = [.ref d, .ref p] ∧ DrwC d c H ∧ FormAt H p S Hd rc ∧ S.length ≤ 10 ∧
  ∀ q H' qs ws, KeptC d c H H' → H' q = some (.tup (qs.map V.ref)) → WtsAt H' qs ws → WtF S ws → Q (.ref q) H'
theorem frc_nn {n d : Int} (hd : 0 < d) (h : 0 ≤ n) : 0 ≤ (frc n d).1 := by
  have h1 := frc_cross (n := n) (d := d) (by omega)
  have h2 := frc_pos (n := n) (d := d) (by omega)
  have h3 : 0 ≤ (frc n d).1 * d := by
    rw [h1]
    exact Int.mul_nonneg h (by omega)
  exact Int.nonneg_of_mul_nonneg_left h3 hd
theorem wt_ok {n d l : Int} (h0 : 0 ≤ n) (h1 : n < 50) (h2 : 0 < d) (h3 : d ≤ 10) : WtOk (l, frc n d) :=
  ⟨frc_pos (by omega), frc_small (by omega) (by show n.natAbs < 64; omega) (by show d.natAbs < 64; omega), frc_nn h2 h0, frc_red (by omega)⟩
theorem w_gTup2 {K : PySem.W.Frag} {H : Hp} {b : Addr} {x y : V} {i j : Nat} {σ : L2.St} {R : L2.St → Hp → Prop} (h : H b = some (.tup [x, y])) (q : R ((σ.set i (some x)).set j (some y)) H) : gTup K 2 (gCons (gName i) (gCons (gName j) gNil)) (.ref b) σ H R :=
  ⟨b, _, rfl, SqT.of h, rfl, _, _, rfl, _, _, rfl, rfl, q⟩
/-- the weights that a filling has -/
def selF (fs : List Int) (ws : List (Int × (Int × Int))) : List (Int × Int) := (ws.filter fun x => decide (x.1 ∈ fs)).map (·.2)
def spLWeight : Sp := fun vs H Q _ => ∃ (q f : Addr) (qs : List Addr) (ws : List (Int × (Int × Int))) (fs : List Int), vs = [.ref q, .ref f] ∧ H q = some (.tup (qs.map V.ref)) ∧ WtsAt H qs ws ∧ H f = some (.tup (fs.map V.int)) ∧ (∀ x ∈ ws, WtOk x) ∧ ws.length ≤ 20 ∧
  ∀ p H', H p = none → Kept H H' → FrAt H' p (frc (prN (selF fs ws)).1 (prN (selF fs ws)).2) → Q (.ref p) H'
theorem prN_snoc (as : List (Int × Int)) (a : Int × Int) : prN (as ++ [a]) = ((prN as).1 * a.1, (prN as).2 * a.2) := by
  unfold prN
  rw [List.foldl_append]
  rfl
section
variable {P : Program} {w : World} {K : PySem.W.Frag} {mg : Str → Option Value} {base : Heap} {uG : Value} {f : Addr} {fd : FuncData}
end
end Ky

namespace Ky
open PySem PySem.Spec PyProof.Rows L2
local macro_rules | `(tactic| walk_at "rd") => `(tactic| repeat (first
  | with_reducible refine w_for1 ?_
  | with_reducible refine w_for2 ?_
  | with_reducible refine w_forL ?_
  | with_reducible refine w_forT ?_
  | with_reducible refine w_lc1 ?_
  | with_reducible refine w_lcL ?_
  | with_reducible refine w_lcT ?_
  | with_reducible refine w_seq ?_
  | with_reducible refine w_asg ?_
  | with_reducible refine w_ret ?_
  | with_reducible refine w_drop ?_
  | with_reducible refine w_ifs ?_
  | ((with_reducible refine' w_var ?hh ?_); (case hh => exact rfl))
  | with_reducible refine w_c ?_
  | with_reducible refine w_op ?_
  | with_reducible refine w_un ?_
  | with_reducible refine w_I0 ?_
  | with_reducible refine w_U ?_
  | with_reducible refine w_nil ?_
  | with_reducible refine w_cons ?_
  | with_reducible refine w_call ?_
  | with_reducible refine w_cb ?_
  | with_reducible refine w_test ?_
  | with_reducible refine w_B ?_
  | with_reducible refine w_bl ?_
  | with_reducible refine w_and ?_
  | with_reducible refine w_or ?_
  | with_reducible refine w_not ?_
  | with_reducible refine w_ife ?_
  | with_reducible refine w_gRd ?_
  | with_reducible refine w_andV ?_
  | with_reducible refine w_orV ?_
  | with_reducible refine w_notV ?_
  | with_reducible refine w_chain ?_
  | with_reducible refine w_din ?_
  | with_reducible refine w_isi_ii ?_
  | with_reducible refine w_isi_bi ?_
  | with_reducible refine w_isi_bb ?_
  | with_reducible refine w_isi_bt ?_
  | with_reducible refine w_isi_si ?_
  | with_reducible refine w_isi_nt ?_
  | with_reducible refine w_isi_ib ?_
  | with_reducible refine w_isi_it ?_
  | with_reducible refine w_isi_st ?_
  | ((with_reducible refine w_isi_tt ?h1 ?_); (case h1 => first | assumption | exact upd_same))
  | with_reducible refine if_t rfl ?_
  | with_reducible refine if_f rfl ?_
  | with_reducible refine w_tup ?_
  | with_reducible refine w_lst ?_
  | with_reducible refine w_next ?_
  | with_reducible refine w_bm ?_
  | with_reducible refine w_sl ?_
  | with_reducible refine w_part ?_
  | with_reducible refine w_nop ?_
  | with_reducible refine w_isI ?_
  | with_reducible refine w_yes ?_
  | with_reducible refine w_gn ?_
  | with_reducible refine w_gsub ?_
  | ((with_reducible refine' w_setL ?h1 ?h2 ?_); (case h1 => first | assumption | exact upd_same); (case h2 => exact rfl))
  | with_reducible refine w_asgG ?_
  | with_reducible refine w_m1 ?_
  | with_reducible refine w_isS ?_
  | with_reducible refine w_tyS ?_
  | ((with_reducible refine' w_tyL ?h1 ?_); (case h1 => first | assumption | exact upd_same))
  | ((with_reducible refine' w_ixT ?h1 ?h2 ?_); (case h1 => first | assumption | exact upd_same); (case h2 => exact rfl))
  | ((with_reducible refine' w_ixL ?h1 ?h2 ?_); (case h1 => first | assumption | exact upd_same); (case h2 => exact rfl))
  | ((with_reducible refine w_eq ?h1 ?_); (case h1 => exact rfl))
  | ((with_reducible refine w_ne ?h1 ?_); (case h1 => exact rfl))
  | dsimp only [List.set_cons_zero, List.set_cons_succ, List.append_nil, List.cons_append, List.nil_append, cxOf]))

/-! ### values of any kind, as far as the law makes them -/
inductive At where
  | i (n : Int)
  | b (x : Bool)
  | s (z : Str)
deriving DecidableEq
def At.v : At → V
  | .i n => .int n
  | .b x => .bl x
  | .s z => .str z
def At.dat : At → PyData
  | .i n => .int n
  | .b x => .bool x
  | .s z => .str z
def At.whole : At → Bool
  | .i _ => true
  | _ => false
def At.vr : At → Bool
  | .i n => isVar n
  | _ => false
inductive Fv where
  | n (k : Int)
  | p (n d : Int)
def FvAt (H : Hp) (v : V) : Fv → Prop
  | .n k => v = .int k
  | .p n d => ∃ q, v = .ref q ∧ H q = some (.tup [.int n, .int d])
def isFracF : Fv → Bool
  | .n _ => false
  | .p n d => decide (1 ≤ d) && decide ((Nat.gcd n.natAbs d.natAbs : Int) = 1)
def spWhole : Sp := fun vs H Q _ => ∃ x : At, vs = [x.v] ∧ Q (.bl x.whole) H
def spVar : Sp := fun vs H Q _ => ∃ x : At, vs = [x.v] ∧ Q (.bl x.vr) H
def spLit : Sp := fun vs H Q _ => ∃ n, vs = [.int n] ∧ Q (.bl (isLit n)) H
def spIsFrac : Sp := fun vs H Q _ => ∃ (v : V) (x : Fv), vs = [v] ∧ FvAt H v x ∧ Q (.bl (isFracF x)) H
def spAsc (K : PySem.W.Frag) (P0 : Addr) : Sp := fun vs H Q _ => ∃ (a : Addr) (xs : List V) (ds : List PyData), vs = [.ref a] ∧ (H a = some (.lst xs) ∨ H a = some (.tup xs)) ∧ xs.length ≤ sizeLine ∧ DpAll K H xs ds ∧ PySem.W.AllAlike ds ∧ (∀ d ∈ ds, d ≠ .none ∧ d.depth ≤ 60) ∧ GxR.TabG H P0 ∧ ∀ H', Kept H H' → Q (.bl (ascD ds)) H'
def spVarsOf : Sp := fun vs H Q _ => ∃ (a : Addr) (bs : List Addr) (cs : List (List Int)), vs = [.ref a] ∧ H a = some (.lst (bs.map V.ref)) ∧ ClsAt H bs cs ∧ cs.flatten.length ≤ 60 ∧
  ∀ (ns : List Int) p H', ns.Pairwise (· < ·) → (∀ k, k ∈ ns ↔ k ∈ absAll cs) → Kept H H' → H p = none → H' p = some (.tup (ns.map V.int)) → Q (.ref p) H'
def spIsClause (K : PySem.W.Frag) (P1 P2 : Addr) : Sp := fun vs H Q _ => (∃ x : At, vs = [x.v] ∧ Q (.bl false) H) ∨
  ∃ (a : Addr) (ls : List Int), vs = [.ref a] ∧ H a = some (.tup (ls.map V.int)) ∧ ls.length ≤ 1000 ∧ GxR.TabG H P1 ∧ GxR.TabG H P2 ∧ ∀ H', Kept H H' → Q (.bl (isClauseF ls)) H'
def spIsResidue (K : PySem.W.Frag) (P1 P2 P3 : Addr) : Sp := fun vs H Q _ => ∃ (a : Addr) (bs : List Addr) (cs : List (List Int)), vs = [.ref a] ∧ H a = some (.tup (bs.map V.ref)) ∧ ClsAt H bs cs ∧ cs.length ≤ 1000 ∧ (∀ c ∈ cs, c.length ≤ 1000) ∧ GxR.TabG H P1 ∧ GxR.TabG H P2 ∧ GxR.TabG H P3 ∧ ∀ H', Kept H H' → Q (.bl (isResidueF cs)) H'
section
variable {P : Program} {w : World} {K : PySem.W.Frag} {mg : Str → Option Value} {base : Heap} {uG : Value} {f : Addr} {fd : FuncData}
end
end Ky

namespace Ky
open PySem PySem.Spec PyProof.Rows L2
local macro_rules | `(tactic| walk_at "rd") => `(tactic| repeat (first
  | with_reducible refine w_for1 ?_
  | with_reducible refine w_for2 ?_
  | with_reducible refine w_forL ?_
  | with_reducible refine w_forT ?_
  | with_reducible refine w_lc1 ?_
  | with_reducible refine w_lcL ?_
  | with_reducible refine w_lcT ?_
  | with_reducible refine w_seq ?_
  | with_reducible refine w_asg ?_
  | with_reducible refine w_ret ?_
  | with_reducible refine w_drop ?_
  | with_reducible refine w_ifs ?_
  | ((with_reducible refine' w_var ?hh ?_); (case hh => exact rfl))
  | with_reducible refine w_c ?_
  | with_reducible refine w_op ?_
  | with_reducible refine w_un ?_
  | with_reducible refine w_I0 ?_
  | with_reducible refine w_U ?_
  | with_reducible refine w_nil ?_
  | with_reducible refine w_cons ?_
  | with_reducible refine w_call ?_
  | with_reducible refine w_cb ?_
  | with_reducible refine w_test ?_
  | with_reducible refine w_B ?_
  | with_reducible refine w_bl ?_
  | with_reducible refine w_and ?_
  | with_reducible refine w_or ?_
  | with_reducible refine w_not ?_
  | with_reducible refine w_ife ?_
  | with_reducible refine w_gRd ?_
  | with_reducible refine w_andV ?_
  | with_reducible refine w_orV ?_
  | with_reducible refine w_notV ?_
  | with_reducible refine w_chain ?_
  | with_reducible refine w_din ?_
  | with_reducible refine w_isi_ii ?_
  | with_reducible refine w_isi_bi ?_
  | with_reducible refine w_isi_bb ?_
  | with_reducible refine w_isi_bt ?_
  | with_reducible refine w_isi_si ?_
  | with_reducible refine w_isi_nt ?_
  | with_reducible refine w_isi_ib ?_
  | with_reducible refine w_isi_it ?_
  | with_reducible refine w_isi_st ?_
  | ((with_reducible refine w_isi_tt ?h1 ?_); (case h1 => first | assumption | exact upd_same))
  | with_reducible refine if_t rfl ?_
  | with_reducible refine if_f rfl ?_
  | with_reducible refine w_tup ?_
  | with_reducible refine w_lst ?_
  | with_reducible refine w_next ?_
  | with_reducible refine w_bm ?_
  | with_reducible refine w_sl ?_
  | with_reducible refine w_part ?_
  | with_reducible refine w_nop ?_
  | with_reducible refine w_isI ?_
  | with_reducible refine w_yes ?_
  | with_reducible refine w_gn ?_
  | with_reducible refine w_gsub ?_
  | ((with_reducible refine' w_setL ?h1 ?h2 ?_); (case h1 => first | assumption | exact upd_same); (case h2 => exact rfl))
  | with_reducible refine w_asgG ?_
  | with_reducible refine w_m1 ?_
  | with_reducible refine w_isS ?_
  | with_reducible refine w_tyS ?_
  | ((with_reducible refine' w_tyL ?h1 ?_); (case h1 => first | assumption | exact upd_same))
  | ((with_reducible refine' w_ixT ?h1 ?h2 ?_); (case h1 => first | assumption | exact upd_same); (case h2 => exact rfl))
  | ((with_reducible refine' w_ixL ?h1 ?h2 ?_); (case h1 => first | assumption | exact upd_same); (case h2 => exact rfl))
  | ((with_reducible refine w_eq ?h1 ?_); (case h1 => exact rfl))
  | ((with_reducible refine w_ne ?h1 ?_); (case h1 => exact rfl))
  | dsimp only [List.set_cons_zero, List.set_cons_succ, List.append_nil, List.cons_append, List.nil_append, cxOf]))

def varsF (S : List At) : Bool := (List.range (S.map At.v).length).all (fun i => (S.getD i (.i 0)).vr) && ascD (S.map At.dat)
def comF (S Hd : List At) : Bool := Hd.any fun x => x.vr && decide (x ∈ S)
def knownF (cs : List (List Int)) (vs : List Int) : Bool := (absAll cs).all fun v => decide (v ∈ vs)
def spVars (K : PySem.W.Frag) (P1 P2 : Addr) : Sp := fun vs H Q _ => ∃ (a : Addr) (S : List At), vs = [.ref a] ∧ H a = some (.tup (S.map At.v)) ∧ S.length ≤ 1000 ∧ GxR.TabG H P1 ∧ GxR.TabG H P2 ∧ ∀ H', Kept H H' → Q (.bl (varsF S)) H'
def spCommon (P1 : Addr) : Sp := fun vs H Q _ => ∃ (a b : Addr) (S Hd : List At), vs = [.ref a, .ref b] ∧ H a = some (.tup (S.map At.v)) ∧ H b = some (.tup (Hd.map At.v)) ∧ S.length ≤ 1000 ∧ Hd.length ≤ 1000 ∧ GxR.TabG H P1 ∧ ∀ H', Kept H H' → Q (.bl (comF S Hd)) H'
def spKnown (P1 : Addr) : Sp := fun vs H Q _ => ∃ (a b : Addr) (bs : List Addr) (cs : List (List Int)) (ns : List Int), vs = [.ref a, .ref b] ∧ H a = some (.lst (bs.map V.ref)) ∧ ClsAt H bs cs ∧ cs.flatten.length ≤ 60 ∧ H b = some (.tup (ns.map V.int)) ∧ ns.length ≤ 1000 ∧ GxR.TabG H P1 ∧ ∀ H', Kept H H' → Q (.bl (knownF cs ns)) H'
theorem putK_le (c : List (L2.Key × V)) (k : L2.Key) (x : V) : (putK c k x).length ≤ c.length + 1 := by
  unfold putK
  by_cases e : (c.any fun kv => decide (kv.1 = k)) = true
  · rw [if_pos e, List.length_map]
    omega
  · rw [if_neg e, List.length_append]
    exact Nat.le_refl _
theorem map_at {S : List At} {i : Nat} {y : V} (h : (S.map At.v)[i]? = some y) : ∃ x, y = At.v x ∧ S[i]? = some x := by
  rw [List.getElem?_map] at h
  obtain ⟨x, hx, rfl⟩ := Option.map_eq_some_iff.mp h
  exact ⟨x, rfl, hx⟩
theorem dpAll_at0 {K : PySem.W.Frag} {H : Hp} : ∀ S : List At, DpAll K H (S.map At.v) (S.map At.dat)
  | [] => .nil
  | .i n :: S => .cons (.int n) (dpAll_at0 S)
  | .b x :: S => .cons (.bl x) (dpAll_at0 S)
  | .s z :: S => .cons (.str z) (dpAll_at0 S)
theorem all_vr {S : List At} (h : S.all At.vr = true) : ∃ ns : List Int, S = ns.map At.i ∧ ∀ n ∈ ns, isVar n = true := by
  induction S with
  | nil => exact ⟨[], rfl, fun n hn => by simp at hn⟩
  | cons x S ih =>
    rw [List.all_cons, Bool.and_eq_true] at h
    obtain ⟨ns, e, hn⟩ := ih h.2
    cases x with
    | i n =>
      refine ⟨n :: ns, by rw [e]; rfl, fun m hm => ?_⟩
      rcases List.mem_cons.mp hm with rfl | hm
      · exact h.1
      · exact hn m hm
    | b x => exact absurd h.1 Bool.false_ne_true
    | s z => exact absurd h.1 Bool.false_ne_true
section
variable {P : Program} {w : World} {K : PySem.W.Frag} {mg : Str → Option Value} {base : Heap} {uG : Value} {f : Addr} {fd : FuncData}
end
end Ky

namespace Ky
open PySem PySem.Spec PyProof.Rows L2
/-! ### sets of keys of one kind, whose table rises: set(xs) of a list, sorted of it -/
/-- a set at its beginning -/
abbrev so0 (w : World) : Obj := { cls := .type "set", dict := none, data := .set #[] 0 (.fresh 0 0 (!w.params.followText "set-order")) }
section
variable {P : Program} {w : World} {T : Type} [DecidableEq T]
/-- rd reads the key of a value -/
def RdKey (kd : PySem.KeyKind P w T) (rd : Value → T) : Prop := ∀ k v, kd.is k v = true → rd v = k
structure RKey (kd : PySem.KeyKind P w T) (rd : Value → T) (xs : List (Int × Value)) (ks : List T) : Prop where
  els : ElemsOf kd xs
  nd : (xs.map fun e => rd e.2).Nodup
  mem : ∀ k, k ∈ ks ↔ k ∈ xs.map fun e => rd e.2
variable {kd : PySem.KeyKind P w T} {rd : Value → T} {xs ys : List (Int × Value)} {ks : List T} {k : T} {x : Value}
theorem RKey.nil : RKey kd rd [] [] := ⟨fun e he => (by cases he), List.nodup_nil, fun k => (by simp)⟩
theorem RKey.perm (R : RKey kd rd xs ks) (p : ys.Perm xs) : RKey kd rd ys ks :=
  ⟨R.els.perm p, (p.map fun e => rd e.2).nodup_iff.mpr R.nd, fun k => (R.mem k).trans (p.map fun e => rd e.2).mem_iff.symm⟩
theorem RKey.iff (hr : RdKey kd rd) (R : RKey kd rd xs ks) (k : T) : k ∈ ks ↔ ∃ e ∈ xs, kd.is k e.2 = true := by
  rw [R.mem k, List.mem_map]
  constructor
  · rintro ⟨e, he, q⟩
    obtain ⟨⟨k2, h1, _⟩, _⟩ := R.els e he
    have z := hr k2 _ h1
    rw [q] at z
    exact ⟨e, he, by rw [z]; exact h1⟩
  · rintro ⟨e, he, q⟩
    exact ⟨e, he, hr k _ q⟩
theorem RKey.same (R : RKey kd rd xs ks) (h : k ∈ ks) : RKey kd rd xs (ks ++ [k]) :=
  ⟨R.els, R.nd, fun j => by
    rw [List.mem_append, List.mem_singleton, ← R.mem j]
    exact ⟨fun z => z.elim id fun e => e ▸ h, .inl⟩⟩
theorem RKey.more (hr : RdKey kd rd) (R : RKey kd rd xs ks) (h : k ∉ ks) (hk : kd.is k x = true) (hs : x.scannable = true) (p : ys.Perm (xs ++ [(kd.hash k, x)])) : RKey kd rd ys (ks ++ [k]) := by
  have pk : (ys.map fun e => rd e.2).Perm ((xs.map fun e => rd e.2) ++ [k]) := by
    have z := p.map fun e : Int × Value => rd e.2
    rw [List.map_append, List.map_cons, List.map_nil, hr k x hk] at z
    exact z
  refine ⟨(R.els.push hk hs).perm p, pk.nodup_iff.mpr ?_, fun j => ?_⟩
  · rw [(List.perm_append_singleton k _).nodup_iff]
    exact List.nodup_cons.mpr ⟨fun z => h ((R.mem k).mpr z), R.nd⟩
  · rw [pk.mem_iff, List.mem_append, List.mem_append, R.mem j]
def SetK (kd : PySem.KeyKind P w T) (rd : Value → T) (h : Heap) (a : Addr) (ks : List T) : Prop :=
  ∃ o es ep t, h.get? a = some o ∧ o.ExactSet ∧ o.data = .set es ep t ∧ RKey kd rd es.toList ks ∧ t.fits es.size = true ∧ es.size ≤ ks.length ∧ Ris t.place.toList ∧ (w.params.followText "set-order" = true ∨ t.led = true)
theorem SetK.at {h h' : Heap} {a : Addr} (S : SetK kd rd h a ks) (q : ∀ o, h.get? a = some o → h'.get? a = some o) : SetK kd rd h' a ks := by
  obtain ⟨o, es, ep, t, ho, r⟩ := S
  exact ⟨o, es, ep, t, q o ho, r⟩
theorem SetK.new {h : Heap} {a : Addr} (ho : h.get? a = some (so0 w)) : SetK kd rd h a [] :=
  ⟨_, #[], 0, _, ho, ⟨rfl, rfl, rfl⟩, rfl, RKey.nil, rfl, Nat.zero_le _, List.Pairwise.nil, by
    show _ ∨ (!w.params.followText "set-order") = true
    cases w.params.followText "set-order"
    · exact .inr rfl
    · exact .inl rfl⟩
theorem SetK.lay {h : Heap} {a : Addr} {o : Obj} {es es' : Array (Int × Value)} {ep : Nat} {t t' : SetTable} (ho : h.get? a = some o) (hex : o.ExactSet) (hd : o.data = .set es ep t) (R : RKey kd rd es'.toList ks) (hf : t'.fits es'.size = true) (hz : es'.size ≤ ks.length) (hr : Ris t'.place.toList) (hl : w.params.followText "set-order" = true ∨ t'.led = true) :
    SetK kd rd (h.update a (Obj.putSet es' t')) a ks := ⟨_, es', ep + 1, t', store_at ho hd, hex, rfl, R, hf, hz, hr, hl⟩
variable {A : Around} {E : Value → Shared → Prop} {s : Shared} {a : Addr}
/-- the end of an add: the table is stored, and laid anew where it is too full -/
theorem setK_end {g : Bool → Sem Unit} (hg : ∀ (b : Bool) (s1 : Shared) (Q' : Unit → Shared → Prop), Q' () s1 → wpAny (model P w) A (g b) Q' E s1) {o : Obj} {es e1 : Array (Int × Value)} {ep : Nat} {t t2 : SetTable} {D : Bool} {R : Option Bool → Shared → Prop}
    (ho : s.heap.get? a = some o) (hex : o.ExactSet) (hd : o.data = .set es ep t) (K1 : RKey kd rd e1.toList ks) (hf : t2.fits e1.size = true) (hz : e1.size ≤ ks.length) (hb : ks.length < scanBound) (hr : Ris t2.place.toList) (hl : w.params.followText "set-order" = true ∨ t2.led = true)
    (q : ∀ h', Heap.SameBut a s.heap h' → SetK kd rd h' a ks → R (some true) { s with heap := h' }) :
    wpAny (model P w) A (storeSet a e1 t2 >>= fun _ => if (!D && t2.tooFull) = true then g (relayAll t2 e1 (SetTable.grown e1.size)).2.2 >>= fun _ => storeSet a (relayAll t2 e1 (SetTable.grown e1.size)).1 (relayAll t2 e1 (SetTable.grown e1.size)).2.1 >>= fun _ => pure (some true) else pure (some true)) R E s := by
  have b1 : e1.size < scanBound := Nat.lt_of_le_of_lt hz hb
  refine wpAny_bind (wpAny_storeSet_of ho hd ?_ (fits_of_scanBound b1))
  have sb := Heap.SameBut.update s.heap a (Obj.putSet e1 t2)
  by_cases c : (!D && t2.tooFull) = true
  · rw [if_pos c]
    obtain ⟨e2, he2⟩ : ∃ z, z = relayAll t2 e1 (SetTable.grown e1.size) := ⟨_, rfl⟩
    have pm : e2.1.toList.Perm e1.toList := by rw [he2]; exact relayAll_perm t2 e1 _
    have hz2 : e2.1.size = e1.size := by
      have z := pm.length_eq
      rwa [Array.length_toList, Array.length_toList] at z
    rw [← he2]
    refine wpAny_bind (hg _ _ _ (wpAny_bind (wpAny_storeSet_of (store_at ho hd) rfl ?_ (fits_of_scanBound (by rw [hz2]; exact b1)))))
    refine wpAny_pure (q _ (sb.trans (Heap.SameBut.update _ a _)) (SetK.lay (store_at ho hd) hex rfl (K1.perm pm) ?_ (by rw [hz2]; exact hz) ?_ ?_))
    · rw [he2]; exact relayAll_fits t2 e1 _
    · rw [he2]; exact relayAll_ris t2 e1 _
    · rw [he2]; exact hl.imp id fun z => (relayAll_led t2 e1 _).trans z
  · rw [if_neg c]
    exact wpAny_pure (q _ sb (SetK.lay ho hex hd K1 hf hz hr hl))
theorem gone_way (b : Bool) {s1 : Shared} {Q' : Unit → Shared → Prop} (q : Q' () s1) : wpAny (model P w) A (match b with | true => rule "set.scan.the-table-gave-way" | false => pure ()) Q' E s1 := by
  cases b
  · exact wpAny_pure q
  · exact wpAny_rule q
theorem SetK.add (hr : RdKey kd rd) {Q : Bool → Shared → Prop} (hk : kd.is k x = true) (hs : x.scannable = true) (S : SetK kd rd s.heap a ks) (room : ks.length + 1 < scanBound)
    (q : ∀ b h', Heap.SameBut a s.heap h' → SetK kd rd h' a (ks ++ [k]) → Q b { s with heap := h' }) : wpAny (model P w) A (setAddHashed a x (kd.hash k)) Q E s := by
  obtain ⟨o, es, ep, t, ho, hex, hd, R, hf, hz, hri, hl⟩ := S
  have hb : es.size < scanBound := by omega
  have hln : (ks ++ [k]).length = ks.length + 1 := List.length_append
  unfold setAddHashed setAddHashedIn
  refine wpAny_holding (wpAny_bind (wpAny_setState_of ho hd hf ?_))
  dsimp only
  rw [show byScan x es = true from byScan_of hs hb R.els]
  simp only [↓reduceIte]
  unfold setAddByScan
  refine wpAny_bind (wpAny_bind (wpAny_rule (wpAny_bind (wpAny_setScan_of hk ho hd hf R.els ?_))))
  cases hi : List.findIdx? (fun e => kd.is k e.2) es.toList with
  | some j =>
    obtain ⟨hj, pj, _⟩ := List.findIdx?_eq_some_iff_getElem.mp hi
    have hm : k ∈ ks := (R.iff hr k).mpr ⟨_, List.getElem_mem hj, pj⟩
    exact wpAny_pure (wpAny_pure (q _ s.heap (Heap.SameBut.refl a _) ⟨o, es, ep, t, ho, hex, hd, R.same hm, hf, by omega, hri, hl⟩))
  | none =>
    have hm : k ∉ ks := fun z => by
      obtain ⟨e, he, c⟩ := (R.iff hr k).mp z
      rw [List.findIdx?_eq_none_iff.mp hi e he] at c
      cases c
    dsimp only
    have pm := layNew_perm t es (kd.hash k) x
    have f1 := layNew_fits t es (kd.hash k) x
    have r1 := layNew_ris t es (kd.hash k) x hri
    have l1 := layNew_led t es (kd.hash k) x
    generalize layNew t es (kd.hash k) x = Z at pm f1 r1 l1 ⊢
    obtain ⟨e1, t1, D, G⟩ := Z
    dsimp only at pm f1 r1 l1 ⊢
    rw [Array.toList_push] at pm
    have K1 := R.more hr hm hk hs pm
    have hz1 : e1.size ≤ (ks ++ [k]).length := by
      have z := pm.length_eq
      rw [Array.length_toList, List.length_append, Array.length_toList] at z
      rw [hln]
      have z : e1.size = es.size + 1 := z
      omega
    have hl1 : w.params.followText "set-order" = true ∨ t1.led = true := hl.imp id fun z => l1.trans z
    have hb1 : (ks ++ [k]).length < scanBound := by omega
    refine wpAny_bind (gone_way _ ?_)
    split
    · refine wpAny_bind ?_
      rw [hashByValue_scannable 8 hs]
      refine wpAny_pure (setK_end (fun b s1 Q' z => gone_way b z) ho hex hd K1 ?_ hz1 hb1 ?_ ?_ fun h' sb z => wpAny_pure (q _ h' sb z))
      · split
        · exact f1
        · exact SetTable.fits_plain_off f1
      · split <;> exact r1
      · split <;> exact hl1
    · refine wpAny_bind (wpAny_pure ?_)
      simp only [↓reduceIte]
      exact setK_end (fun b s1 Q' z => gone_way b z) ho hex hd K1 f1 hz1 hb1 r1 hl1 fun h' sb z => wpAny_pure (q _ h' sb z)
/-- the loop that puts in what comes -/
theorem SetK.fill (hr : RdKey kd rd) {I : Addr} {fp wr : List Addr} {G : Array GenState → Array GenState → Prop} {n : Nat} {Pv : Nat → Value → Prop} {St : Nat → Shared → Prop} {R : Result → Shared → Prop} (W : WalksS P w A.in1 I fp wr G n Pv St) {S : Addr} (hS : S ∉ fp) {ks : List T} (hn : n = ks.length) (hb : ks.length + 1 < scanBound)
    (hv : ∀ i v, Pv i v → ∃ k, ks[i]? = some k ∧ kd.is k v = true ∧ v.scannable = true) : ∀ (m i : Nat) (s : Shared), n - i = m → i ≤ n → St i s → SetK kd rd s.heap S (ks.take i) → (∀ s', Moved (S :: wr) G s s' → SetK kd rd s'.heap S ks → R (.ok (.ret .none)) s') →
      codeAny (model P w) A (.builtin "set.update.loop" ⟨[.ref S, .ref I], []⟩) R s
  | 0, i, s, hm, hi, st, K1, q => by
    have e : i = n := by omega
    rw [show ks.take i = ks from List.take_of_length_le (by omega)] at K1
    refine codeAny_builtin F.entry_set_update_loop (by rw [Around.under_plainId F.plain_set_update_loop _]; show wpAny _ A.in1 (pyNext (.ref I) >>= _) _ _ s; exact wpAny_bind (W.done s _ _ (e ▸ st) fun s' mv => wpAny_pure (q s' (mv.mono fun b z => List.mem_cons_of_mem _ z) (K1.at fun o z => mv.heap S o (fun z => hS (W.sub _ z)) z))))
  | m + 1, i, s, hm, hi, st, K1, q => by
    refine codeAny_builtin F.entry_set_update_loop ?_; rw [Around.under_plainId F.plain_set_update_loop _]; show wpAny _ A.in1 (pyNext (.ref I) >>= _) _ _ s
    refine wpAny_bind (W.item i s _ _ (by omega) st fun v s' pv st' mv => ?_)
    obtain ⟨k, hk, h1, h2⟩ := hv i v pv
    have K2 : SetK kd rd s'.heap S (ks.take i) := K1.at fun o z => mv.heap S o (fun z => hS (W.sub _ z)) z
    refine wpAny_bind (m := holding [v] (setAdd S v)) (wpAny_holding ?_)
    unfold setAdd
    refine wpAny_holding (wpAny_bind (kd.pyHash h1 (SetK.add (s := { s' with toks := s'.toks + 1 }) hr h1 h2 K2 ?_ fun b h' sb K3 => ?_)))
    · rw [List.length_take]; omega
    · have K4 : SetK kd rd h' S (ks.take (i + 1)) := by rw [List.take_add_one, hk]; exact K3
      have old : ∀ b, b ≠ S → ∀ o, s'.heap.get? b = some o → h'.get? b = some o := fun b z o e => by rw [sb.2 b z]; exact e
      refine wpAny_pure ⟨plainId_quiet F.plain_set_update_loop _, SetK.fill hr W hS hn hb hv m (i + 1) _ (by omega) (by omega) (W.frame _ s' _ _ st' (Nat.le_succ _) fun b z o e => old b (fun c => hS (by rw [← c]; exact z)) o e) K4 fun s2 mv2 K5 => q s2 (Moved.trans W.gtrans ((mv.mono fun b z => List.mem_cons_of_mem _ z).then_heap (Nat.le_succ _) fun b o z e => old b (fun c => z (by rw [c]; exact List.mem_cons_self)) o e) mv2) K5⟩
theorem sz1 (h : Heap) (o : Obj) : (h.push o).objs.size = h.objs.size + 1 := Heap.size_push ..
/-- set(l), as the object is filled -/
theorem SetK.init (hr : RdKey kd rd) {l : Addr} {its : Array Value} {ks : List T} {Q : Value → Shared → Prop} (hh : A.handled = none) (hl : s.heap.IsList l its) (hz : its.size = ks.length) (hb : ks.length + 1 < scanBound) (hv : ∀ (i : Nat) (v : Value), its[i]? = some v → ∃ k, ks[i]? = some k ∧ kd.is k v = true ∧ v.scannable = true)
    (q : ∀ h' tk, SetK kd rd h' s.heap.objs.size ks → (∀ b o, s.heap.get? b = some o → h'.get? b = some o) → Q (.ref s.heap.objs.size) { s with heap := h', toks := tk }) : wpAny (model P w) A (call (.type "set") [.ref l]) Q E s := by
  obtain ⟨c, tl, hmro⟩ := F.called_set.mro
  have c1 := F.called_set.made
  have c2 := F.called_set.sub
  have c3 := F.called_set.notType
  have c4 := F.called_set.canCreate
  have c5 := F.typeCall_set_1 (.ref l)
  have c6 := F.called_set.init.lookup
  have c7 := F.called_set.init.bind (.ref s.heap.objs.size)
  have hlt : l < s.heap.objs.size := by obtain ⟨o, ho, _⟩ := hl; exact Heap.lt_size ho
  refine wpAny_call (codeAny_of_tree ?_); show wpAny _ _ (callAny (.type "set") _) _ _ _
  refine wpAny_pure ⟨Code.quiet_builtin _ (by decide +kernel), codeAny_builtin F.entry_type_call ?_⟩; rw [Around.under_plain (weight_type_call_type "set" [.ref l] []) rfl]
  repeat (any_goals (first | assumption | wp_step))
  refine codeAny_mono (code_set_led1 (.ref l) (E := E) (Q₁ := fun ob s1 => ob = .ref s.heap.objs.size ∧ s1 = { s with heap := s.heap.push (so0 w) }) ⟨rfl, rfl⟩) fun r s1 hr1 => ?_
  rcases r with e | fl
  · exact hr1
  cases fl <;> try exact hr1.elim
  obtain ⟨rfl, rfl⟩ := hr1
  have g0 : (s.heap.push (so0 w)).get? s.heap.objs.size = some (so0 w) := Heap.get?_push_size _ rfl
  have ty : Shared.TypeIs { s with heap := s.heap.push (so0 w) } (.ref s.heap.objs.size) "set" := ⟨_, g0, rfl⟩
  repeat (any_goals (first | assumption | wp_step))
  refine codeAny_mono (codeAny_call_builtin (R := wants (fun r s2 => r = .none ∧ ∃ h' tk, s2 = { s with heap := h', toks := tk } ∧ SetK kd rd h' s.heap.objs.size ks ∧ ∀ b o, s.heap.get? b = some o → h'.get? b = some o) E) F.called_set.init.plain F.entry_set_init (check_set_init_1 ty ?_)) fun r s2 hr2 => ?_
  · have hl1 : (s.heap.push (so0 w)).IsList l its := hl.push _
    obtain ⟨⟨oc, od, ob, os⟩, ho, hc, nl, hd⟩ := hl
    simp only at hc hd
    subst hc; subst hd
    have ho1 : (s.heap.push (so0 w)).get? l = some { cls := .type "list", dict := od, data := .seq its nl, slots := os } := Heap.get?_push_of_some _ ho
    have n1 := F.sub_list_set
    have n2 := F.sub_list_frozenset
    have n3 : (Value.type "list" == Value.type "dict") = false := by decide
    unfold Builtin.«set.__init__» noKeywords Builtin.Frozenset.updateFrom; generalize hPI : pyIter = PI
    wp_walk
    subst hPI
    refine wpAny_pyIter_list hl1 (wpAny_bind (wpAny_runValue ?_))
    have hh3 : A.in1.in1.in1.handled = none := by simp [hh]
    have hI : l ≠ (s.heap.push (so0 w)).objs.size := by rw [sz1]; exact Nat.ne_of_lt (Nat.lt_succ_of_lt hlt)
    have hS : s.heap.objs.size ∉ [(s.heap.push (so0 w)).objs.size, l] := by
      rw [sz1, List.mem_cons, List.mem_singleton]
      exact fun z => z.elim (fun z => Nat.ne_of_lt (Nat.lt_succ_self _) z) fun z => Nat.ne_of_gt hlt z
    refine SetK.fill hr ((Walks.list hh3 _ l hI its).toS) hS hz hb hv (its.size - 0) 0 _ rfl (Nat.zero_le _) ⟨⟨_, Heap.get?_push_size _ rfl, rfl, rfl⟩, hl1.push _⟩ (SetK.new (Heap.get?_push_of_some _ g0)) fun s3 mv K3 => ?_
    obtain ⟨h3, g3, d3, t3, o3⟩ := s3
    cases (mv.gens : g3 = s.gens)
    cases (mv.drawn : d3 = s.drawn)
    cases (mv.os : o3 = s.os)
    show wpAny _ _ _ _ _ _
    refine wpAny_pure ?_
    show wpAny _ _ (ret Value.none) _ _ _
    refine wpAny_pure ⟨rfl, h3, t3, rfl, K3, fun b o e => mv.heap b o ?_ (Heap.get?_push_of_some _ (Heap.get?_push_of_some _ e))⟩
    have hb0 := Heap.lt_size e
    rw [sz1, List.mem_cons, List.mem_singleton]
    exact fun z => z.elim (fun z => Nat.ne_of_lt hb0 z) fun z => Nat.ne_of_lt (Nat.lt_succ_of_lt hb0) z
  · rcases r with e | fl
    · exact hr2
    cases fl <;> try exact hr2.elim
    obtain ⟨rfl, h', tk, rfl, K3, kp⟩ := hr2
    repeat (any_goals (first | assumption | wp_step))
    exact q h' tk K3 kp
end
end Ky

namespace Ky
open PySem PySem.Spec PyProof.Rows L2
/-! ### sorted(set(xs)), ints and texts -/
section
variable {P : Program} {w : World} {T : Type} [DecidableEq T] {kd : PySem.KeyKind P w T} {rd : Value → T} {ks : List T}
/-- list.sort sorts values of the kind -/
def Sorts (kd : PySem.KeyKind P w T) (rd : Value → T) (sr : List T → Prop) : Prop := ∀ {A : Around} {E : Value → Shared → Prop} {s : Shared} {a : Addr} {vs : List Value} {R : PySem.Fin → Shared → Prop}, s.heap.get? a = some (seqObj "list" vs.toArray 0) → vs.length ≤ sizeLine → (∀ v ∈ vs, ∃ k, kd.is k v = true) →
  (∀ out : Array Value, (∀ v ∈ out.toList, ∃ k, kd.is k v = true) → (out.toList.map rd).Perm (vs.map rd) → sr (out.toList.map rd) → R (.done (.ret .none)) { s with heap := sortedHeap s.heap a vs out }) → wpAny (model P w) A (Builtin.«list.sort» ⟨[.ref a], []⟩) R E s
variable {A : Around} {E : Value → Shared → Prop} {s : Shared} {a : Addr}
theorem SetK.sorted {sr : List T → Prop} (hso : Sorts kd rd sr) {Q : Value → Shared → Prop} (S : SetK kd rd s.heap a ks) (hb : ks.length < scanBound) (hh : A.handled = none)
    (q : ∀ s' p (out : Array Value) (c : Nat), (∀ b o, s.heap.get? b = some o → s'.heap.get? b = some o) → s'.gens = s.gens → s'.os = s.os → s.heap.objs.size ≤ p → s'.heap.get? p = some (seqObj "list" out c) → (∀ v ∈ out.toList, ∃ k, kd.is k v = true) → sr (out.toList.map rd) → (out.toList.map rd).Nodup → (∀ k, k ∈ out.toList.map rd ↔ k ∈ ks) → Q (.ref p) s') :
    wpAny (model P w) A (call (.builtin "sorted") [.ref a]) Q E s := by
  obtain ⟨o, es, ep, t, ho, hex, hd, R, hf, hz, hr, hl⟩ := S
  have he : es.size < scanBound := by omega
  refine Calls.call_function_entry kind_sorted plain_sorted entry_sorted (args_sorted1 _) ?_; unfold Builtin.«sorted»
  refine wpAny_bind (m := checkCount "sorted" 1 1 _) (wpAny_pure (wpAny_bind (collect_set (A := A.in1) hh ⟨o, ho, hex.1, hd⟩ hf he hr hl fun s1 vs k1 z1 g1 o1 pm => ?_)))
  have hv : ∀ v ∈ vs, ∃ k, kd.is k v = true := fun v hv => by
    obtain ⟨e, h1, h2⟩ := List.mem_map.mp (pm.mem_iff.mp hv)
    obtain ⟨⟨k, h3, _⟩, _⟩ := R.els e h1
    exact ⟨k, by rw [← h2]; exact h3⟩
  have hvl : vs.length ≤ sizeLine := by
    rw [pm.length_eq, List.length_map, Array.length_toList]
    exact fits_of_scanBound he
  have pk : (vs.map rd).Perm (es.toList.map fun e => rd e.2) := by
    have z := pm.map rd
    rw [List.map_map] at z
    exact z
  have g2 : (s1.heap.push (seqObj "list" vs.toArray 0)).get? s1.heap.objs.size = some (seqObj "list" vs.toArray 0) := Heap.get?_push_size _ rfl
  refine wpAny_bind (wpAny_newList (wpAny_bind (wpAny_holding (wpAny_call_entry slot_list_sort ⟨_, g2, rfl⟩ entry_list_sort (hso g2 hvl hv fun out h1 h2 h3 => ⟨_, rfl, ?_⟩) (args_list_sort _)))) hvl)
  obtain ⟨c, hc⟩ := sortedHeap_at (vs := vs) (out := out) g2
  have p2 := h2.trans pk
  refine wpAny_pure ⟨_, rfl, q _ s1.heap.objs.size out c (fun b u e => ?_) g1 o1 z1 hc h1 h3 (p2.nodup_iff.mpr R.nd) fun k => p2.mem_iff.trans (R.mem k).symm⟩
  have e1 := k1 b u e
  have lt := Heap.lt_size e1
  exact (sortedHeap_old (Nat.ne_of_lt lt) (by rw [size_push']; exact Nat.lt_succ_of_lt lt)).trans (Heap.get?_push_of_some _ e1)
end
section
variable {P : Program} {w : World}
theorem rd_int : RdKey (PySem.intKind P w) L2.vInt := fun k v h => by
  obtain ⟨t, rfl⟩ := Value.isInt_shape h
  rfl
theorem rd_str : RdKey (PySem.strKind P w) strOf := fun k v h => by
  obtain ⟨t, rfl⟩ := Value.isStrOf_shape h
  rfl
theorem ints_rd : ∀ {vs : List Value}, (∀ v ∈ vs, ∃ k, (PySem.intKind P w).is k v = true) → IntsAre vs (vs.map L2.vInt)
  | [], _ => .nil
  | v :: vs, h => by
    obtain ⟨k, hk⟩ := h v List.mem_cons_self
    obtain ⟨t, rfl⟩ := Value.isInt_shape hk
    exact .cons k t (ints_rd (vs := vs) fun u hu => h u (List.mem_cons_of_mem _ hu))
theorem ints_back : ∀ {vs : List Value} {ns : List Int}, IntsAre vs ns → vs.map L2.vInt = ns ∧ ∀ v ∈ vs, ∃ k, (PySem.intKind P w).is k v = true
  | _, _, .nil => ⟨rfl, fun v h => by cases h⟩
  | _, _, .cons n t r => by
    obtain ⟨h1, h2⟩ := ints_back r
    refine ⟨congrArg (n :: ·) h1, fun v h => ?_⟩
    rcases List.mem_cons.mp h with e | e
    · exact ⟨n, by rw [e]; exact intKind_is P w n t⟩
    · exact h2 v e
theorem sorts_int : Sorts (PySem.intKind P w) L2.vInt fun ns => ns.Pairwise (· ≤ ·) := fun ho hl hv q => by
  refine list_sort_treeAny ho (ints_rd hv) hl fun out ns h1 h2 h3 => ?_
  obtain ⟨e, h4⟩ := ints_back (P := P) (w := w) h1
  exact q out h4 (by rw [e]; exact h2) (by rw [e]; exact h3)
theorem strs_rd : ∀ {vs : List Value}, (∀ v ∈ vs, ∃ k, (PySem.strKind P w).is k v = true) → StrsAre vs (vs.map strOf)
  | [], _ => .nil
  | v :: vs, h => by
    obtain ⟨k, hk⟩ := h v List.mem_cons_self
    obtain ⟨t, rfl⟩ := Value.isStrOf_shape hk
    exact .cons k t (strs_rd (vs := vs) fun u hu => h u (List.mem_cons_of_mem _ hu))
theorem strs_back : ∀ {vs : List Value} {ns : List Str}, StrsAre vs ns → ∀ v ∈ vs, ∃ k, (PySem.strKind P w).is k v = true
  | _, _, .nil, v, h => by cases h
  | _, _, .cons n t r, v, h => by
    rcases List.mem_cons.mp h with e | e
    · exact ⟨n, by rw [e]; exact strKind_is P w n t⟩
    · exact strs_back r v e
theorem sorts_str : Sorts (PySem.strKind P w) strOf fun ns => sortedS ns = true := fun ho hl hv q => by
  have hS := strs_rd hv
  refine list_sort_treeKAny strKind_oneLt ho hS.keysOf (fun v1 v2 rest e => keyKind_strs (by rw [← e]; exact hS)) hl fun st' hp hs => ?_
  obtain ⟨ss, h1, h2, h3⟩ := sorted_out_str hS hp hs
  have e := h1.strs
  exact q _ (strs_back h1) (by rw [e]; exact h2) (by rw [e]; exact h3)
end
/-- the values of keys -/
structure Vk {P : Program} {w : World} {T : Type} [DecidableEq T] (kd : PySem.KeyKind P w T) (rd : Value → T) (tv : T → V) : Prop where
  rd : RdKey kd rd
  of : ∀ k v, kd.is k v = true → RelV (tv k) v
  to : ∀ k v, RelV (tv k) v → kd.is k v = true ∧ v.scannable = true
theorem vk_int {P : Program} {w : World} : Vk (PySem.intKind P w) L2.vInt V.int := ⟨rd_int, fun k v h => by
    obtain ⟨t, rfl⟩ := Value.isInt_shape h
    exact ⟨t, rfl⟩, fun k v h => by
    obtain ⟨t, rfl⟩ := h
    exact ⟨intKind_is P w k t, rfl⟩⟩
theorem vk_str {P : Program} {w : World} : Vk (PySem.strKind P w) strOf V.str := ⟨rd_str, fun k v h => by
    obtain ⟨t, rfl⟩ := Value.isStrOf_shape h
    exact ⟨t, rfl⟩, fun k v h => by
    obtain ⟨t, rfl⟩ := h
    exact ⟨strKind_is P w k t, rfl⟩⟩
section
variable {P : Program} {w : World} {T : Type} [DecidableEq T] {kd : PySem.KeyKind P w T} {rd : Value → T} {tv : T → V} {ks : List T}
theorem vals_get : ∀ {ks : List T} {us : List Value}, Vals (ks.map tv) us → ∀ (i : Nat) (v : Value), us[i]? = some v → ∃ k, ks[i]? = some k ∧ RelV (tv k) v
  | [], _, .nil, i, v, h => by simp at h
  | k :: ks, _, .cons r t, 0, v, h => by
    rw [List.getElem?_cons_zero] at h
    cases h
    exact ⟨k, rfl, r⟩
  | k :: ks, _, .cons r t, i + 1, v, h => by
    rw [List.getElem?_cons_succ] at h
    exact vals_get t i v h
theorem vals_rd (hk : Vk kd rd tv) : ∀ {us : List Value}, (∀ v ∈ us, ∃ k, kd.is k v = true) → Vals ((us.map rd).map tv) us
  | [], _ => .nil
  | v :: us, h => by
    obtain ⟨k, z⟩ := h v List.mem_cons_self
    refine .cons ?_ (vals_rd hk fun u hu => h u (List.mem_cons_of_mem _ hu))
    rw [hk.rd k v z]
    exact hk.of k v z
def SetKO (kd : PySem.KeyKind P w T) (rd : Value → T) (a : Addr) (ks : List T) : HO := .ext fun h => SetK kd rd h a ks
theorem setKO_new {H : Hp} {h : Heap} {a : Addr} (S : SetK kd rd h a ks) : ObjOk P w H h a (SetKO kd rd a ks) := by
  have ⟨o, es, ep, t, ho, _⟩ := S
  exact ⟨S, ⟨o, ho⟩, fun h1 h2 p k => SetK.at p k⟩
end
section
variable {X : Cx} {T : Type} [DecidableEq T] {kd : PySem.KeyKind X.prog X.w T} {rd : Value → T} {tv : T → V} {sr : List T → Prop}
/-- set(xs) of a list -/
def rSetK (K : PySem.W.Frag) (kd : PySem.KeyKind X.prog X.w T) (rd : Value → T) (tv : T → V) : List V → Hp → VK → Prop := fun xs H Q => ∃ (l : Addr) (ks : List T), xs = [V.ref l] ∧ SqL K H l (ks.map tv) ∧ ks.length ≤ 4000 ∧ ∀ a, H a = none → Q (.ref a) (upd H a (SetKO kd rd a ks))
theorem cr_setK (hk : Vk kd rd tv) (hc : X.calm = true) : CallR X (.type "set") (rSetK X.K kd rd tv) := by
  intro pins s σ H xs us Q I r h
  obtain ⟨l, ks, rfl, hl, hn, q⟩ := h
  rw [Vals.ref1 r]
  obtain ⟨its, rv, pl, hz⟩ := I.list hl
  have hf : H s.heap.objs.size = none := I.hok.fresh (Nat.le_refl _)
  have hsz : its.length = ks.length := by
    have z := rv.length
    rw [List.length_map] at z
    exact z.symm
  refine SetK.init hk.rd (I.ok.hd hc) pl.isList (by rw [List.size_toArray]; exact hsz) (by show ks.length + 1 < 4096; omega) (fun i v hv => ?_) fun h' tk S kp => ?_
  · obtain ⟨k, h1, h2⟩ := vals_get rv i v (by simpa using hv)
    exact ⟨k, h1, hk.to k v h2⟩
  · exact ⟨.ref s.heap.objs.size, upd H s.heap.objs.size (SetKO kd rd s.heap.objs.size ks), I.laid (t' := tk) kp (Nat.le_refl _) (setKO_new S), rfl, q _ hf⟩
/-- sorted of such a set -/
def rSortK (kd : PySem.KeyKind X.prog X.w T) (rd : Value → T) (tv : T → V) (sr : List T → Prop) : List V → Hp → VK → Prop := fun xs H Q => ∃ (a : Addr) (ks : List T), xs = [V.ref a] ∧ H a = some (SetKO kd rd a ks) ∧ ks.length ≤ 4000 ∧ ∀ (ds : List T) (p : Addr), sr ds → ds.Nodup → (∀ k, k ∈ ds ↔ k ∈ ks) → H p = none → Q (.ref p) (upd H p (.lst (ds.map tv)))
theorem nodup_len {ks : List T} : ∀ {ds : List T}, ds.Nodup → (∀ k ∈ ds, k ∈ ks) → ds.length ≤ ks.length := fun h1 h2 => List.Nodup.length_le_of_subset h1 h2
theorem cr_sortK (hk : Vk kd rd tv) (hso : Sorts kd rd sr) (hc : X.calm = true) : CallR X (.builtin "sorted") (rSortK kd rd tv sr) := by
  intro pins s σ H xs us Q I r h
  obtain ⟨a, ks, rfl, ha, hn, q⟩ := h
  have S : SetK kd rd s.heap a ks := (I.hok a _ ha).1
  rw [Vals.ref1 r]
  refine SetK.sorted hso S (by show ks.length < 4096; omega) (I.ok.hd hc) fun s' p out c kp g o hp hg h1 h2 h3 h4 => ?_
  have hl : ((out.toList.map rd).map tv).length ≤ sizeLine := by
    rw [List.length_map, sizeLine_eq]
    have := nodup_len h3 fun k z => (h4 k).mp z
    omega
  have hf : H p = none := I.hok.fresh hp
  have J : Inv X pins σ (upd H p (.lst ((out.toList.map rd).map tv))) { s with heap := s'.heap, gens := s'.gens, drawn := s'.drawn, toks := s'.toks } :=
    I.call (ch := []) (Un.laid kp hp hf) (I.hok.laid kp hp ⟨hl, out.toList, c, vals_rd hk h1, hg⟩) (by rw [g]; exact I.bare) (fun _ z => nomatch z)
  obtain ⟨h9, g9, d9, t9, o9⟩ := s'
  cases o
  exact ⟨.ref p, _, J, rfl, q _ p h2 h3 h4 hf⟩
variable {ta : TE} {a : Expr} {p p2 q pos : Pos}
/-- sorted(set(x)), x a list -/
def SrtSet (K : PySem.W.Frag) (kd : PySem.KeyKind X.prog X.w T) (rd : Value → T) (tv : T → V) (sr : List T → Prop) (x : V) (H : Hp) (Q : VK) : Prop := rSetK K kd rd tv [x] H fun y H2 => rSortK kd rd tv sr [y] H2 Q
def tSortSet (K : PySem.W.Frag) (kd : PySem.KeyKind X.prog X.w T) (rd : Value → T) (tv : T → V) (sr : List T → Prop) (ta : TE) : TE := fun σ H Q => ta σ H fun x H1 => SrtSet K kd rd tv sr x H1 Q
theorem SrtSet.mk {K : PySem.W.Frag} {H : Hp} {Q : VK} {l : Addr} {ks : List T} (hl : SqL K H l (ks.map tv)) (hn : ks.length ≤ 4000)
    (q : ∀ (ds : List T) (p : Addr) (H2 : Hp), sr ds → ds.Nodup → (∀ k, k ∈ ds ↔ k ∈ ks) → H p = none → Kept H H2 → H2 p = some (.lst (ds.map tv)) → Q (.ref p) H2) : SrtSet K kd rd tv sr (.ref l) H Q :=
  ⟨l, ks, rfl, hl, hn, fun a ha => ⟨a, ks, rfl, upd_same, hn, fun ds p h1 h2 h3 h4 => by
    have k1 := Kept.new (o := SetKO kd rd a ks) ha
    have hp : H p = none := by
      by_cases e : p = a
      · rw [e]; exact ha
      · rw [upd_ne e] at h4; exact h4
    exact q ds p _ h1 h2 h3 hp (k1.trans (Kept.new h4)) upd_same⟩⟩
theorem pe_sortSet (hk : Vk kd rd tv) (hso : Sorts kd rd sr) (hc : X.calm = true) (hg : Gl X "sorted") (hm : X.mg "sorted" = none) (hg2 : Gl X "set") (hm2 : X.mg "set" = none) (ha : PE X a ta) (hs : starEach [a] X.env = (false, eval a X.env) :: starEach [] X.env) :
    PE X (.Call (.Name "sorted" p) [.Call (.Name "set" p2) [a] [] q] [] pos) (tSortSet X.K kd rd tv sr ta) :=
  pe_callB (p := p) (pos := pos) (cr_sortK hk hso hc) hg hm boot_sorted (pa_cons (pe_callTy (p := p2) (pos := q) (cr_setK hk hc) hg2 hm2 PyProof.Rows.boot_set (pa_cons ha pa_nil hs) (he := hs)) pa_nil)
/-- of ints -/
theorem pe_setInts {K : PySem.W.Frag} (hK : X.K = K) (hc : X.calm = true) (hg : Gl X "sorted") (hm : X.mg "sorted" = none) (hg2 : Gl X "set") (hm2 : X.mg "set" = none) (ha : PE X a ta) (hs : starEach [a] X.env = (false, eval a X.env) :: starEach [] X.env) :
    PE X (.Call (.Name "sorted" p) [.Call (.Name "set" p2) [a] [] q] [] pos) (tSortSet K (PySem.intKind X.prog X.w) L2.vInt V.int (fun ns => ns.Pairwise (· ≤ ·)) ta) := by
  subst hK
  exact pe_sortSet vk_int sorts_int hc hg hm hg2 hm2 ha hs
/-- of texts -/
theorem pe_setStrs {K : PySem.W.Frag} (hK : X.K = K) (hc : X.calm = true) (hg : Gl X "sorted") (hm : X.mg "sorted" = none) (hg2 : Gl X "set") (hm2 : X.mg "set" = none) (ha : PE X a ta) (hs : starEach [a] X.env = (false, eval a X.env) :: starEach [] X.env) :
    PE X (.Call (.Name "sorted" p) [.Call (.Name "set" p2) [a] [] q] [] pos) (tSortSet K (PySem.strKind X.prog X.w) strOf V.str (fun ns => sortedS ns = true) ta) := by
  subst hK
  exact pe_sortSet vk_str sorts_str hc hg hm hg2 hm2 ha hs
end
/-! ### ascending lists of the same members are the same -/
theorem perm_mem {T : Type} [DecidableEq T] {xs ys : List T} (h1 : xs.Nodup) (h2 : ys.Nodup) (h : ∀ k, k ∈ xs ↔ k ∈ ys) : xs.Perm ys := by
  refine List.perm_iff_count.mpr fun k => ?_
  rw [h1.count, h2.count]
  by_cases e : k ∈ xs
  · rw [if_pos e, if_pos ((h k).mp e)]
  · rw [if_neg e, if_neg fun z => e ((h k).mpr z)]
theorem str_ext {x y : Str} (h : x.cps.toList = y.cps.toList) : x = y := by
  obtain ⟨a⟩ := x
  obtain ⟨b⟩ := y
  have e : a = b := Array.toList_inj.mp h
  rw [e]
theorem rising_all : ∀ (l : List Str) (p : Str), risingS p l = true → (∀ x ∈ l, ¬ x.cps.toList < p.cps.toList) ∧ l.Pairwise fun a b => ¬ b.cps.toList < a.cps.toList
  | [], p, _ => ⟨fun x h => (by cases h), List.Pairwise.nil⟩
  | y :: l, p, h => by
    have h : (!ltCps y.cps.toList p.cps.toList && risingS y l) = true := h
    rw [Bool.and_eq_true, ltCps_eq] at h
    have h1 : ¬ y.cps.toList < p.cps.toList := by simpa using h.1
    obtain ⟨g1, g2⟩ := rising_all l y h.2
    refine ⟨fun x hx => ?_, List.pairwise_cons.mpr ⟨g1, g2⟩⟩
    rcases List.mem_cons.mp hx with e | e
    · rw [e]; exact h1
    · intro z
      have a1 : p.cps.toList ≤ y.cps.toList := List.not_lt.mp h1
      have a2 : y.cps.toList ≤ x.cps.toList := List.not_lt.mp (g1 x e)
      exact List.not_lt.mpr (List.le_trans a1 a2) z
theorem sortedS_pair {l : List Str} (h : sortedS l = true) : l.Pairwise fun a b => ¬ b.cps.toList < a.cps.toList := by
  cases l with
  | nil => exact List.Pairwise.nil
  | cons x l => exact List.pairwise_cons.mpr (rising_all l x h)
theorem strs_srt {xs ds : List Str} (h1 : sortedS xs = true) (h2 : xs.Nodup) (h3 : ds.Nodup) (h : ∀ k, k ∈ xs ↔ k ∈ ds) : xs = srtBy PyData.str ds := by
  refine List.Perm.eq_of_pairwise (le := fun a b : Str => ¬ b.cps.toList < a.cps.toList) (fun a b _ _ u v => str_ext (List.le_antisymm (List.not_lt.mp u) (List.not_lt.mp v))) (sortedS_pair h1) ?_ ((perm_mem h2 h3 h).trans (srtBy_perm _ _).symm)
  refine (srtBy_pair PyData.str ds).imp fun {a b} z => ?_
  have z : (!PySem.W.dataLt (.str b) (.str a)) = true := z
  rw [PySem.W.dataLt_str] at z
  simpa using z
theorem ints_lt {ns : List Int} (h : ns.Pairwise (· ≤ ·)) (h2 : ns.Nodup) : ns.Pairwise (· < ·) := lt_of_le_nodup ns h h2
end Ky

namespace Ky
open PySem PySem.Spec PyProof.Rows L2
/-! ### a, *b = t, t a tuple of at least one -/
def gStar (K : PySem.W.Frag) (t : TGs) : TG := fun v σ H Q => ∃ a x xs, v = .ref a ∧ SqT K H a (x :: xs) ∧ ∀ l, H l = none → t [x, .ref l] σ (upd H l (.lst xs)) Q
section
variable {X : Cx} {a b : Expr} {k : Nat} {p pos : Pos} {t : TGs}
/-- the walk of a tuple's iterator that stands behind its first item -/
theorem walks_rest {P : Program} {w : World} {A : Around} (hh : A.handled = none) {I ax : Addr} (hne : ax ≠ I) {x : Value} {items : Array Value} {its : List Value} (hi : items.toList = x :: its) :
    Walks P w A I [I, ax] [I] its.length (fun i v => its[i]? = some v) (fun i h => h.IsTupleIter I ax (i + 1) ∧ h.IsTuple ax items) := by
  have W := Walks.tuple (prog := P) (w := w) hh I ax hne items
  have hz : items.size = its.length + 1 := by
    have z := congrArg List.length hi
    rw [Array.length_toList] at z
    exact z
  have hg : ∀ i : Nat, items[i + 1]? = its[i]? := fun i => by rw [← Array.getElem?_toList, hi, List.getElem?_cons_succ]
  exact ⟨W.sub, fun i h h' st q => W.frame (i + 1) h h' st q, fun i s Q E h st q => W.item (i + 1) s Q E (by omega) st fun v h' tk hv st' kk => q v h' tk (by rw [← hg]; exact hv) st' kk,
    fun s Q E st q => W.done s Q E (by rw [hz]; exact st) q, fun i s Q E st q => W.self (i + 1) s Q E st q⟩
theorem pg_star {K : PySem.W.Frag} (hK : X.K = K) (hc : X.calm = true) (h : PGs X [a, b] t) (hn : assignEach [a, .Starred b p] X.env = [(false, assign a X.env), (true, assign b X.env)] := by rfl) (hm : (assignEach [a, b] X.env).map (·.2) = [assign a X.env, assign b X.env] := by rfl) :
    PG X (.Tuple [a, .Starred b p] k pos) (gStar K t) := by
  subst hK
  refine ⟨fun pins s σ H v u Q I r hw => ?_⟩
  obtain ⟨ax, x, xs, rfl, hq, q⟩ := hw
  cases r
  obtain ⟨its, rv, ht, hz⟩ := I.tuple hq
  have hd := I.ok.hd hc
  obtain ⟨y, ys, rfl⟩ : ∃ y ys, its = y :: ys := by
    cases rv with
    | cons r rr => exact ⟨_, _, rfl⟩
  have ry : RelV x y ∧ Vals xs ys := by
    cases rv with
    | cons r rr => exact ⟨r, rr⟩
  have hlt : ax < s.heap.objs.size := by
    obtain ⟨o, ho, _⟩ := ht
    exact Heap.lt_size ho
  have ht : s.heap.IsTuple ax (y :: ys).toArray := ht
  have hyl : ys.length ≤ sizeLine := by
    have : (y :: ys).length ≤ sizeLine := by rw [← rv.length]; exact hz
    rw [List.length_cons] at this
    omega
  rw [assign_Tuple, hn]
  refine wpAny_bind (wpAny_standAt (wpAny_bind (m := holding [Value.ref ax] (unpackItems (Value.ref ax) 2 (some 1))) (wpAny_holding ?_)))
  unfold unpackItems notIterableAtAll
  refine wpAny_bind (wpAny_bind (wpAny_specialOf ht.typeIs PySem.F.slot_tuple_iter.lookup (wpAny_pure ?_)))
  simp only [Bool.false_eq_true, if_false]
  refine wpAny_bind (wpAny_holding (wpAny_pyIter_tuple ht ?_))
  refine wpAny_bind (wpAny_holding (wpAny_draw_tuple (Nat.ne_of_lt hlt) 1 0 _ _ ⟨_, Heap.get?_push_size _ rfl, rfl, rfl⟩ (ht.push _) (by simp) fun h1 i1 sb => ?_))
  have ed : List.take 1 (List.drop 0 (y :: ys).toArray.toList) = [y] := rfl
  rw [ed, if_neg (by simp)]
  have k1 : ∀ b o, s.heap.get? b = some o → h1.get? b = some o := fun b o e => sb.extBut b o (Nat.ne_of_lt (Heap.lt_size e)) (Heap.get?_push_of_some _ e)
  have hs1 : h1.objs.size = s.heap.objs.size + 1 := by rw [sb.1, sz1]
  have t1 : h1.IsTuple ax (y :: ys).toArray := by
    obtain ⟨o, ho, r⟩ := ht
    exact ⟨o, k1 _ _ ho, r⟩
  refine wpAny_bind (wpAny_holding (wpAny_collect_iter (T := "tuple_iterator") (.inr (.inr (.inr rfl))) (walks_rest (A := X.A.in1) hd (Nat.ne_of_lt hlt) (items := (y :: ys).toArray) (x := y) rfl).toS (fun i s2 st => st.1.typeIs) ⟨i1, t1⟩ (fun b hb => ?_) List.mem_cons_self (fun s2 acc mv ha => ?_) hyl))
  · rw [hs1]
    rcases List.mem_cons.mp hb with e | e
    · rw [e]; exact Nat.lt_succ_self _
    · rw [List.mem_singleton.mp e]; exact Nat.lt_succ_of_lt hlt
  have ea : acc.toList = ys := items_out ha fun j v e => e
  have k2 : ∀ b o, s.heap.get? b = some o → s2.heap.get? b = some o := fun b o e => mv.heap b o (fun z => by
    rw [List.mem_singleton.mp z] at e
    exact absurd (Heap.lt_size e) (Nat.lt_irrefl _)) (k1 b o e)
  rw [ea, if_neg (by omega)]
  refine wpAny_bind (wpAny_newList ?_ (by rw [List.length_take]; omega))
  have et : List.take (ys.length - (2 - 1 - 1)) ys = ys := List.take_of_length_le (by omega)
  have edr : List.drop (ys.length - (2 - 1 - 1)) ys = [] := List.drop_of_length_le (by omega)
  rw [et, edr]
  refine wpAny_pure ?_
  obtain ⟨h2, g2, d2, tk2, o2⟩ := s2
  cases (mv.gens : g2 = s.gens)
  cases (mv.drawn : d2 = s.drawn)
  cases (mv.os : o2 = s.os)
  have hl : H h2.objs.size = none := (I.hok.kept k2).fresh (Nat.le_refl _)
  have hg : s.heap.get? h2.objs.size = none := by
    cases e : s.heap.get? h2.objs.size with
    | none => rfl
    | some o => exact absurd (Heap.lt_size (k2 _ _ e)) (Nat.lt_irrefl _)
  have hxl : xs.length ≤ sizeLine := by rw [ry.2.length]; exact hyl
  have J : Inv X pins σ (upd H h2.objs.size (.lst xs)) { s with heap := h2.push (seqObj "list" ys.toArray 0), toks := tk2 } :=
    I.laidN (t' := tk2) (fun b o e => Heap.get?_push_of_some _ (k2 b o e)) hg hl ⟨hxl, ys, 0, ry.2, Heap.get?_push_size _ rfl⟩
  have z := h.run pins _ σ _ _ [y, .ref h2.objs.size] Q J (.cons ry.1 (.cons (show RelV (.ref h2.objs.size) (.ref h2.objs.size) from rfl) .nil)) (q _ hl)
  rw [hm] at z
  exact z
end
end Ky

namespace Ky
open PySem PySem.Spec PyProof.Rows L2
/-! ### x is True, x a value that is no place -/
def bareV : V → Bool
  | .bl _ => true
  | .int _ => true
  | .non => true
  | _ => false
def rIsBl : R2 := fun x y H Q => ∃ b : Bool, bareV x = true ∧ y = .bl b ∧ Q (.bl (decide (x = .bl b))) H
section
variable {X : Cx} {K : PySem.W.Frag}
theorem op_isAny : OpR X (compareOp .Is) rIsBl := by
  intro pins s σ H x y v u Q I rx ry h
  obtain ⟨b, hx, rfl, q⟩ := h
  cases (show u = Value.bool b from ry)
  cases x with
  | bl a =>
    cases (show v = Value.bool a from rx)
    by_cases e : a = b
    · subst e
      exact wpAny_is_self rfl ⟨.bl true, H, I, rfl, by simpa using q⟩
    · exact wpAny_is_other rfl (fun z => e (Value.bool.inj z)) ⟨.bl false, H, I, rfl, by simpa [e] using q⟩
  | int n =>
    obtain ⟨t, rfl⟩ := rx
    exact wpAny_is_other rfl (fun z => by cases z) ⟨.bl false, H, I, rfl, by simpa using q⟩
  | non =>
    cases (show v = Value.none from rx)
    exact wpAny_is_other rfl (fun z => by cases z) ⟨.bl false, H, I, rfl, by simpa using q⟩
  | _ => cases hx
theorem cr_maxK (hK : X.K = K) (hc : X.calm = true) : CallR X (.builtin "max") (rMax K) := by subst hK; exact cr_max hc
theorem cr_minK (hK : X.K = K) (hc : X.calm = true) : CallR X (.builtin "min") (rMin K) := by subst hK; exact cr_min hc
end
section
variable {H : Hp} {Q : VK} {K : PySem.W.Frag}
theorem w_isi_ts {a : Addr} {xs : List V} (h : H a = some (.tup xs)) (q : Q (.bl false) H) : rIsi K [.ref a, .ty "str"] H Q := ⟨_, _, _, _, false, rfl, .ty _, .base (.tup h), kit_ty (by decide +kernel), q⟩
theorem w_isi_ss {z : Str} (q : Q (.bl true) H) : rIsi K [.str z, .ty "str"] H Q := ⟨_, _, _, _, true, rfl, .ty _, .base (.str z), kit_ty (by decide +kernel), q⟩
theorem w_isi_is {n : Int} (q : Q (.bl false) H) : rIsi K [.int n, .ty "str"] H Q := ⟨_, _, _, _, false, rfl, .ty _, .base (.int n), kit_ty (by decide +kernel), q⟩
theorem w_max {a : Addr} {ns : List Int} (h : SqL K H a (ns.map V.int)) (hn : 0 < ns.length) (q : ∀ m, m ∈ ns → (∀ y, y ∈ ns → y ≤ m) → Q (.int m) H) : rMax K [V.ref a] H Q := ⟨a, ns, rfl, h, hn, q⟩
theorem w_min {a : Addr} {ns : List Int} (h : SqL K H a (ns.map V.int)) (hn : 0 < ns.length) (q : ∀ m, m ∈ ns → (∀ y, y ∈ ns → m ≤ y) → Q (.int m) H) : rMin K [V.ref a] H Q := ⟨a, ns, rfl, h, hn, q⟩
end
end Ky

namespace Ky
open PySem PySem.Spec PyProof.Rows L2
theorem asc_eq : ∀ {xs ys : List Int}, xs.Pairwise (· < ·) → ys.Pairwise (· < ·) → (∀ x, x ∈ xs ↔ x ∈ ys) → xs = ys
  | [], [], _, _, _ => rfl
  | [], y :: ys, _, _, h => absurd ((h y).mpr List.mem_cons_self) (by simp)
  | x :: xs, [], _, _, h => absurd ((h x).mp List.mem_cons_self) (by simp)
  | x :: xs, y :: ys, hx, hy, h => by
    obtain ⟨hx1, hx2⟩ := List.pairwise_cons.mp hx
    obtain ⟨hy1, hy2⟩ := List.pairwise_cons.mp hy
    have e : x = y := by
      rcases List.mem_cons.mp ((h x).mp List.mem_cons_self) with e | q
      · exact e
      · rcases List.mem_cons.mp ((h y).mpr List.mem_cons_self) with e | r
        · exact e.symm
        · have := hx1 y r
          have := hy1 x q
          omega
    subst e
    rw [asc_eq hx2 hy2 fun z => ?_]
    constructor
    · intro hz
      rcases List.mem_cons.mp ((h z).mp (List.mem_cons_of_mem _ hz)) with e | q
      · have := hx1 z hz
        omega
      · exact q
    · intro hz
      rcases List.mem_cons.mp ((h z).mpr (List.mem_cons_of_mem _ hz)) with e | q
      · have := hy1 z hz
        omega
      · exact q
/-! ### the variables of clauses, those that are shown -/
def varF (cs : List (List Int)) : List Int := srtBy PyData.int (dd (absAll cs))
theorem varF_asc (cs : List (List Int)) : (varF cs).Pairwise (· < ·) := srt_ints (nodup_dd _)
theorem mem_varF {cs : List (List Int)} {k : Int} : k ∈ varF cs ↔ k ∈ absAll cs := by
  unfold varF
  rw [mem_srtBy, mem_dd]
theorem varF_is {cs : List (List Int)} {ns : List Int} (h1 : ns.Pairwise (· < ·)) (h2 : ∀ k, k ∈ ns ↔ k ∈ absAll cs) : ns = varF cs := asc_eq h1 (varF_asc cs) fun k => (h2 k).trans mem_varF.symm
theorem len_varF (cs : List (List Int)) : (varF cs).length ≤ cs.flatten.length := by
  unfold varF
  rw [(srtBy_perm _ _).length_eq]
  have := len_dd (absAll cs)
  unfold absAll at this ⊢
  rw [List.length_map] at this
  exact this
def shownF (S : List Int) (cs : List (List Int)) : List Int := (varF cs).filter fun k => decide (k ∈ S)
theorem shownF_asc (S : List Int) (cs : List (List Int)) : (shownF S cs).Pairwise (· < ·) := (varF_asc cs).filter _
theorem mem_shownF {S : List Int} {cs : List (List Int)} {k : Int} : k ∈ shownF S cs ↔ k ∈ absAll cs ∧ k ∈ S := by
  unfold shownF
  rw [List.mem_filter, mem_varF, decide_eq_true_eq]
theorem len_shownF (S : List Int) (cs : List (List Int)) : (shownF S cs).length ≤ cs.flatten.length := Nat.le_trans (List.length_filter_le _ _) (len_varF cs)
theorem asc_nodup {ns : List Int} (h : ns.Pairwise (· < ·)) : ns.Nodup := h.imp fun {a b} z e => by omega
end Ky

namespace Ky
open PySem PySem.Spec PyProof.Rows L2
/-! ### dict comprehensions over numbers with one value, as words -/
def DcJ (j : Nat) (v : V) (vs : List Nat) (σ : L2.St) (Q : VK) (J : It) (H1 : Hp) : Prop := ∀ D, H1 D = none → ∃ W : Nat → Nat → Hp → Prop, (∃ m, W 0 m (upd H1 D (.dK []))) ∧ ∀ i m H, W i m H →
  (J.stop i H ∧ Q (.ref D) H) ∨ (J.go i H ∧ ∃ Nx : Hp → Prop, (∀ H', Nx H' → ∃ m', m' < m ∧ W (i + 1) m' H') ∧ ∀ x H', J.yld i H x H' → gName j x (wipe σ vs) H' fun σ2 H2 => wipe σ2 vs = wipe σ vs ∧ tYes σ2 H2 fun b H3 =>
    if b = true then tVar j σ2 H3 fun y H4 => tC v σ2 H4 fun z H5 => ∃ kvs k, y = kV k ∧ H5 D = some (.dK kvs) ∧ kvs.length < sizeLine ∧ Nx (upd H5 D (.dK (putK kvs k z))) else Nx H3)
def DcL (K : PySem.W.Frag) (j : Nat) (v : V) (vs : List Nat) (σ : L2.St) (Q : VK) (x : V) (H1 : Hp) : Prop := ∃ a, x = .ref a ∧ (∃ xs, SqL K H1 a xs) ∧ DcJ j v vs σ Q (Itl K a) H1
def DcT (K : PySem.W.Frag) (j : Nat) (v : V) (vs : List Nat) (σ : L2.St) (Q : VK) (x : V) (H1 : Hp) : Prop := ∃ a, x = .ref a ∧ (∃ xs, SqT K H1 a xs) ∧ DcJ j v vs σ Q (Itt K a) H1
/-- a dict of numbers with one value -/
structure OneV (ns : List Int) (v : V) (kvs : List (L2.Key × V)) : Prop where
  len : kvs.length ≤ ns.length
  val : ∀ k, valV kvs (.inl k) = if k ∈ ns then some v else none
theorem OneV.snoc {ns : List Int} {v : V} {kvs : List (L2.Key × V)} (h : OneV ns v kvs) (n : Int) : OneV (ns ++ [n]) v (putK kvs (.inl n) v) := by
  refine ⟨?_, fun k => ?_⟩
  · have := length_putK kvs (.inl n) v
    have := h.len
    rw [List.length_append, List.length_singleton]
    omega
  · rw [valV_put, h.val k]
    by_cases e : k = n
    · rw [if_pos (by rw [e]), if_pos (List.mem_append_right _ (List.mem_singleton.mpr e))]
    · rw [if_neg (fun z => e (Sum.inl.inj z))]
      by_cases m : k ∈ ns
      · rw [if_pos m, if_pos (List.mem_append_left _ m)]
      · rw [if_neg m, if_neg fun z => (List.mem_append.mp z).elim m fun z => e (List.mem_singleton.mp z)]
section
variable {K : PySem.W.Frag} {σ : L2.St} {H H1 : Hp} {Q : VK} {te : TE} {j : Nat} {v : V} {vs : List Nat} {a : Addr} {ns : List Int}
theorem w_dcL (q : te σ H (DcL K j v vs σ Q)) : tDc (iList K te) (gName j) tYes (tVar j) (tC v) vs σ H Q := q
theorem w_dcT (q : te σ H (DcT K j v vs σ Q)) : tDc (iTup K te) (gName j) tYes (tVar j) (tC v) vs σ H Q := q
theorem dc_step {i : Nat} {n : Int} {D : Addr} {kvs : List (L2.Key × V)} (hj : j < σ.length) (hn : ns[i]? = some n) (hz : ns.length ≤ 1000) (h0 : H1 D = none) (k1 : Kept H1 H) (hD : H D = some (.dK kvs)) (ho : OneV (ns.take i) v kvs) :
    gName j (.int n) (wipe σ [j]) H fun σ2 H2 => wipe σ2 [j] = wipe σ [j] ∧ tYes σ2 H2 fun b H3 => if b = true then tVar j σ2 H3 fun y H4 => tC v σ2 H4 fun z H5 => ∃ kvs k, y = kV k ∧ H5 D = some (.dK kvs) ∧ kvs.length < sizeLine ∧
      (Kept H1 (upd H5 D (.dK (putK kvs k z))) ∧ ∃ kv2, (upd H5 D (.dK (putK kvs k z))) D = some (.dK kv2) ∧ OneV (ns.take (i + 1)) v kv2) else (Kept H1 H3 ∧ ∃ kv2, H3 D = some (.dK kv2) ∧ OneV (ns.take (i + 1)) v kv2) := by
  refine ⟨wipe_one, w_yes (if_t rfl ⟨_, var_set hj, kvs, Sum.inl n, rfl, hD, ?_, Kept.mut k1 h0, _, upd_same, ?_⟩)⟩
  · have h1 := ho.len
    rw [List.length_take] at h1
    have h2 : 1001 ≤ sizeLine := by decide
    omega
  · rw [List.take_add_one, hn]
    exact ho.snoc n
theorem DcT.ints (hj : j < σ.length) (ha : H1 a = some (.tup (ns.map V.int))) (hz : ns.length ≤ 1000) (fin : ∀ D H2 kvs, H1 D = none → Kept H1 H2 → H2 D = some (.dK kvs) → OneV ns v kvs → Q (.ref D) H2) : DcT K j v [j] σ Q (.ref a) H1 := by
  refine ⟨a, rfl, ⟨_, SqT.of ha⟩, fun D hD => ?_⟩
  refine c_tup (xs := ns.map V.int) (fun i H => Kept H1 H ∧ ∃ kvs, H D = some (.dK kvs) ∧ OneV (ns.take i) v kvs) ⟨Kept.new hD, [], upd_same, by rw [List.take_zero]; exact ⟨Nat.le_refl _, fun k => (by simp; rfl)⟩⟩ (fun i H _ h => SqT.of (h.1.tup ha)) (fun i x H hx h => ?_) fun H h => ?_
  · obtain ⟨n, rfl, hn⟩ := map_int hx
    obtain ⟨k1, kvs, h1, h2⟩ := h
    exact dc_step hj hn hz hD k1 h1 h2
  · obtain ⟨k1, kvs, h1, h2⟩ := h
    rw [List.length_map, List.take_length] at h2
    exact fin D H kvs hD k1 h1 h2
theorem DcL.ints (hj : j < σ.length) (ha : H1 a = some (.lst (ns.map V.int))) (hz : ns.length ≤ 1000) (fin : ∀ D H2 kvs, H1 D = none → Kept H1 H2 → H2 D = some (.dK kvs) → OneV ns v kvs → Q (.ref D) H2) : DcL K j v [j] σ Q (.ref a) H1 := by
  refine ⟨a, rfl, ⟨_, SqL.of ha⟩, fun D hD => ?_⟩
  refine c_list (xs := ns.map V.int) (fun i H => Kept H1 H ∧ ∃ kvs, H D = some (.dK kvs) ∧ OneV (ns.take i) v kvs) ⟨Kept.new hD, [], upd_same, by rw [List.take_zero]; exact ⟨Nat.le_refl _, fun k => (by simp; rfl)⟩⟩ (fun i H _ h => SqL.of (h.1.lst ha)) (fun i x H hx h => ?_) fun H h => ?_
  · obtain ⟨n, rfl, hn⟩ := map_int hx
    obtain ⟨k1, kvs, h1, h2⟩ := h
    exact dc_step hj hn hz hD k1 h1 h2
  · obtain ⟨k1, kvs, h1, h2⟩ := h
    rw [List.length_map, List.take_length] at h2
    exact fin D H kvs hD k1 h1 h2
theorem OneV.has {kvs : List (L2.Key × V)} (h : OneV ns v kvs) (k : Int) : (valV kvs (.inl k)).isSome = decide (k ∈ ns) := by
  rw [h.val k]
  by_cases m : k ∈ ns
  · rw [if_pos m, decide_eq_true m] <;> rfl
  · rw [if_neg m, decide_eq_false m] <;> rfl
end
/-- name = {..} on one line, the name a local, the keys numbers or texts -/
theorem ps_setDc {X : Cx} {i : Nat} {y : Str} {py : Pos} {kx vx tg iter : Expr} {ifs : List Expr} {scope : Scope} {own : List (Str × Nat)} {pos spos : Pos} {wi : TI} {g : TG} {tt : TT} {tk tv : TE} (hy : X.N[i]? = some y) (hyl : X.env.scope.names.lookup y = some .local)
    (hsw : swapsWith (.DictComp kx vx [⟨tg, iter, ifs, 0⟩] scope pos) (some (.Name y py)) spos.line X.env = pure true) (hc : X.calm = true) (hN : X.N.Nodup) (hi : PI X tg iter wi) (ok : BlkOk X.N X.env.scope scope own)
    (hg : ∀ (s : Shared) (H : Hp) (C : Addr) (cl : List (Str × Addr)) (fp : List Addr), PG (X.blk s H scope (compEnvC scope cl C X.env) fp) tg g) (ht : ∀ (s : Shared) (H : Hp) (C : Addr) (cl : List (Str × Addr)) (fp : List Addr), PTs (X.blk s H scope (compEnvC scope cl C X.env) fp) ifs tt)
    (hk : ∀ (s : Shared) (H : Hp) (C : Addr) (cl : List (Str × Addr)) (fp : List Addr), PE (X.blk s H scope (compEnvC scope cl C X.env) fp) kx tk)
    (he : ∀ (s : Shared) (H : Hp) (C : Addr) (cl : List (Str × Addr)) (fp : List Addr), PE (X.blk s H scope (compEnvC scope cl C X.env) fp) vx tv) (hs : ∀ x, foldedSetIterable iter X.env x = pure x := by intro _; rfl) :
    PS X (.Assign [.Name y py] (.DictComp kx vx [⟨tg, iter, ifs, 0⟩] scope pos) spos) (tAsg (tDc wi g tt tk tv (own.map (·.2))) (gName i)) := by
  refine ⟨fun pins s σ H D I h => ?_⟩
  rw [exec_Assign_Name_used _ _ _ _ hsw]
  refine wpAny_bind (wpAny_standAt (wpAny_bind ?_))
  show wpAny _ X.A (do let _ ← comprehension (.DictComp kx vx [⟨tg, iter, ifs, 0⟩] scope pos) scope X.env (firstIterPos [⟨tg, iter, ifs, 0⟩] pos) newDict false (eval iter X.env) (some (assign (.Name y py) X.env))) _ _ s
  have h : tDc wi g tt tk tv (own.map (·.2)) σ H (fun x H1 => gName i x σ H1 D.nx) := h
  refine wpAny_bind (thn (dc_core (Qf := fun _ s' => SP X pins D .next s') hc hN I hi ok hg ht hk he hs h fun L C s' m H' I' q hn f => ?_) fun _ s' hq => wpAny_pure (wpAny_pure hq))
  show wpAny _ _ (assign (.Name y py) X.env (.ref L)) _ _ _
  refine wpAny_assign_Name (store_ok2 (v := V.ref L) I' hN hy (.inl hyl) rfl (fun s2 I2 ⟨a, sb, ha⟩ => ?_) (.inr hyl))
  obtain ⟨f0, f1, f2, f3, f4, f5⟩ := f
  have haC : C ≠ a := by
    rcases ha with z | z
    · rw [z]; exact f1
    · exact fun e => f4 y a z e.symm
  refine ⟨m, hn.sameBut sb haC, fun h3 sb3 => ?_⟩
  exact ⟨_, H', I2.turned (t' := s2.toks) (fun b o hb e => (sb3.2 b hb).trans e) f0 f1 f3 f4 f5, q⟩
end Ky

namespace Ky
open PySem PySem.Spec PyProof.Rows L2
/-! ### rows of values that stand for keys; each once -/
/-- e writes keys as data; the same data are the same keys -/
structure KeyD {α : Type} [DecidableEq α] (e : α → PyData) : Prop where
  same : ∀ a b, PyData.eqv (e a) (e b) = decide (a = b)
  lay : ∀ a, (e a).canLay0 = true
  dep : ∀ a, (e a).depth ≤ 40
def onceP {α : Type} [DecidableEq α] (L : List (V × α)) : List (V × α) := L.foldl (fun acc p => if p.2 ∈ acc.map (·.2) then acc else acc ++ [p]) []
section
variable {α : Type} [DecidableEq α]
theorem once_keys (L : List (V × α)) : (onceP L).map (·.2) = dd (L.map (·.2)) := by
  have aux : ∀ (L : List (V × α)) (acc : List (V × α)), (L.foldl (fun acc p => if p.2 ∈ acc.map (·.2) then acc else acc ++ [p]) acc).map (·.2) = (L.map (·.2)).foldl dstep (acc.map (·.2)) := by
    intro L
    induction L with
    | nil => exact fun acc => rfl
    | cons p L ih =>
      intro acc
      rw [List.foldl_cons, List.map_cons, List.foldl_cons, ih]
      congr 1
      unfold dstep
      by_cases h : p.2 ∈ acc.map (·.2)
      · rw [if_pos h, if_pos h]
      · rw [if_neg h, if_neg h, List.map_append] <;> rfl
  exact aux L []
theorem once_sub {L : List (V × α)} : ∀ p ∈ onceP L, p ∈ L := by
  have aux : ∀ (L acc M : List (V × α)), (∀ p ∈ acc, p ∈ M) → (∀ p ∈ L, p ∈ M) → ∀ p ∈ L.foldl (fun acc p => if p.2 ∈ acc.map (·.2) then acc else acc ++ [p]) acc, p ∈ M := by
    intro L
    induction L with
    | nil => exact fun acc M h _ => h
    | cons q L ih =>
      intro acc M h1 h2
      refine ih _ M ?_ fun p hp => h2 p (List.mem_cons_of_mem _ hp)
      by_cases hq : q.2 ∈ acc.map (·.2)
      · show ∀ p ∈ (if q.2 ∈ acc.map (·.2) then acc else acc ++ [q]), p ∈ M
        rw [if_pos hq]; exact h1
      · show ∀ p ∈ (if q.2 ∈ acc.map (·.2) then acc else acc ++ [q]), p ∈ M
        rw [if_neg hq]
        intro p hp
        rcases List.mem_append.mp hp with z | z
        · exact h1 p z
        · rw [List.mem_singleton.mp z]; exact h2 q List.mem_cons_self
  exact fun p hp => aux L [] L (fun _ h => by cases h) (fun _ h => h) p hp
theorem once_snoc (L : List (V × α)) (p : V × α) : onceP (L ++ [p]) = if p.2 ∈ (onceP L).map (·.2) then onceP L else onceP L ++ [p] := by
  unfold onceP
  rw [List.foldl_append] <;> rfl
theorem once_len (L : List (V × α)) : (onceP L).length ≤ L.length := by
  have h := congrArg List.length (once_keys L)
  rw [List.length_map] at h
  have := len_dd (L.map (·.2))
  rw [List.length_map] at this
  omega
theorem canLay_kd {e : α → PyData} (h : KeyD e) : ∀ as : List α, PyData.canLayAll0 (as.map e) = true
  | [] => by simp [PyData.canLayAll0]
  | a :: as => by rw [List.map_cons, PyData.canLayAll0, canLay_kd h as, h.lay] <;> rfl
theorem depth_kd {e : α → PyData} (h : KeyD e) : ∀ as : List α, PyData.depthAll (as.map e) ≤ 40
  | [] => by simp [PyData.depthAll]
  | a :: as => by
    have h1 := depth_kd h as
    have h2 := h.dep a
    rw [List.map_cons, PyData.depthAll]
    omega
theorem shL_keys {e : α → PyData} (h : KeyD e) (as : List α) : SeqAt.shaped (.list (as.map e)) = true := by
  have h1 := depth_kd h as
  unfold SeqAt.shaped
  simp only [PyData.canLay0, canLay_kd h, Bool.true_and, PyData.depth]
  exact decide_eq_true (by omega)
theorem sh_key {e : α → PyData} (h : KeyD e) (a : α) : SeqAt.shaped (e a) = true := by
  have h1 := h.dep a
  unfold SeqAt.shaped
  rw [h.lay, Bool.true_and]
  exact decide_eq_true (by omega)
theorem any_keys {e : α → PyData} (h : KeyD e) (as : List α) (a : α) : ((as.map e).any fun z => PyData.eqv z (e a)) = decide (a ∈ as) := by
  rw [List.any_map, Bool.eq_iff_iff, List.any_eq_true, decide_eq_true_eq]
  constructor
  · rintro ⟨x, hx, q⟩
    have q : PyData.eqv (e x) (e a) = true := q
    rw [h.same, decide_eq_true_eq] at q
    rw [← q]; exact hx
  · exact fun hm => ⟨a, hm, by show PyData.eqv (e a) (e a) = true; rw [h.same, decide_eq_true rfl]⟩
end
theorem keyD_ints : KeyD (fun n : Int => PyData.int n) := ⟨fun a b => by
    have := eqvAll_ints [a] [b]
    simp only [List.map_cons, List.map_nil, PyData.eqvAll, Bool.and_true] at this
    rw [this]
    exact decide_eq_decide.mpr ⟨fun z => by cases z; rfl, fun z => by rw [z]⟩, fun a => by simp [PyData.canLay0], fun a => by simp [PyData.depth]⟩
def tupD (ls : List Int) : PyData := .tuple (ls.map PyData.int)
theorem keyD_tups : KeyD tupD := ⟨fun a b => eqv_ints a b, fun a => by simp only [tupD, PyData.canLay0, canLay_ints], fun a => by
    simp only [tupD, PyData.depth, PySem.W.depth_ints]
    omega⟩
def spOnce (K : PySem.W.Frag) : Sp := fun vs H Q _ => ∃ (α : Type) (_ : DecidableEq α) (e : α → PyData) (a : Addr) (L : List (V × α)), KeyD e ∧ vs = [.ref a] ∧ H a = some (.lst (L.map (·.1))) ∧ (∀ p ∈ L, Dp K H p.1 (e p.2)) ∧ L.length ≤ 1000 ∧
  ∀ q H', Kept H H' → H q = none → H' q = some (.lst ((onceP L).map (·.1))) → Q (.ref q) H'
theorem once_ints {K : PySem.W.Frag} {H : Hp} {Q : VK} {E : XK} {a : Addr} {ns : List Int} (ha : H a = some (.lst (ns.map V.int))) (hz : ns.length ≤ 1000) (k : ∀ q H', Kept H H' → H q = none → H' q = some (.lst ((dd ns).map V.int)) → Q (.ref q) H') : spOnce K [.ref a] H Q E := by
  refine ⟨Int, inferInstance, _, a, ns.map fun n => (V.int n, n), keyD_ints, rfl, by rw [List.map_map]; exact ha, fun p hp => ?_, by rw [List.length_map]; exact hz, fun q H' k1 hq h => k q H' k1 hq ?_⟩
  · obtain ⟨n, _, rfl⟩ := List.mem_map.mp hp
    exact .int n
  · have e1 : (onceP (ns.map fun n => (V.int n, n))).map (·.2) = dd ns := by
      rw [once_keys, List.map_map]
      congr 1
      exact List.map_id _
    have e2 : (onceP (ns.map fun n => (V.int n, n))).map (·.1) = ((onceP (ns.map fun n => (V.int n, n))).map (·.2)).map V.int := by
      rw [List.map_map]
      refine List.map_congr_left fun p hp => ?_
      obtain ⟨n, _, rfl⟩ := List.mem_map.mp (once_sub p hp)
      rfl
    rw [e2, e1] at h
    exact h
theorem once_cls {K : PySem.W.Frag} {H : Hp} {Q : VK} {E : XK} {a : Addr} {bs : List Addr} {cs : List (List Int)} (ha : H a = some (.lst (bs.map V.ref))) (hc : ClsAt H bs cs) (hz : cs.length ≤ 1000) (k : ∀ q H' bs', Kept H H' → H q = none → H' q = some (.lst (bs'.map V.ref)) → ClsAt H' bs' (dd cs) → Q (.ref q) H') : spOnce K [.ref a] H Q E := by
  have e1 : (bs.zip cs).map (·.1) = bs := List.map_fst_zip (by rw [hc.1]; exact Nat.le_refl _)
  have e2 : (bs.zip cs).map (·.2) = cs := List.map_snd_zip (by rw [hc.1]; exact Nat.le_refl _)
  refine ⟨List Int, inferInstance, tupD, a, (bs.zip cs).map fun p => (V.ref p.1, p.2), keyD_tups, rfl, ?_, fun p hp => ?_, ?_, fun q H' k1 hq h => ?_⟩
  · rw [List.map_map]
    have : (bs.zip cs).map ((fun x : V × List Int => x.1) ∘ fun p => (V.ref p.1, p.2)) = ((bs.zip cs).map (·.1)).map V.ref := by rw [List.map_map] <;> rfl
    rw [this, e1]
    exact ha
  · obtain ⟨p, hp2, rfl⟩ := List.mem_map.mp hp
    exact dp_ints (clsAt_zip hc p hp2)
  · rw [List.length_map, List.length_zip, hc.1, Nat.min_self]
    exact hz
  · have hin : ∀ p ∈ onceP ((bs.zip cs).map fun p => (V.ref p.1, p.2)), ∃ b, p.1 = V.ref b ∧ H b = some (.tup (p.2.map V.int)) := fun p hp => by
      obtain ⟨p, hp2, rfl⟩ := List.mem_map.mp (once_sub p hp)
      exact ⟨_, rfl, clsAt_zip hc p hp2⟩
    have hk := once_keys ((bs.zip cs).map fun p => (V.ref p.1, p.2))
    have e3 : ((bs.zip cs).map fun p => (V.ref p.1, p.2)).map (·.2) = cs := by
      rw [List.map_map]
      exact e2
    rw [e3] at hk
    generalize onceP ((bs.zip cs).map fun p => (V.ref p.1, p.2)) = L at hin hk h
    have aux : ∀ L : List (V × List Int), (∀ p ∈ L, ∃ b, p.1 = V.ref b ∧ H b = some (.tup (p.2.map V.int))) → ∃ zs : List (Addr × List Int), L.map (·.1) = (zs.map (·.1)).map V.ref ∧ L.map (·.2) = zs.map (·.2) ∧ ∀ z ∈ zs, H z.1 = some (.tup (z.2.map V.int)) := by
      intro L
      induction L with
      | nil => exact fun _ => ⟨[], rfl, rfl, fun _ h => by cases h⟩
      | cons p L ih =>
        intro hL
        obtain ⟨b, h1, h2⟩ := hL p List.mem_cons_self
        obtain ⟨zs, g1, g2, g3⟩ := ih fun q hq => hL q (List.mem_cons_of_mem _ hq)
        refine ⟨(b, p.2) :: zs, ?_, ?_, fun z hz => ?_⟩
        · rw [List.map_cons, List.map_cons, List.map_cons, g1, h1]
        · rw [List.map_cons, List.map_cons, g2]
        · rcases List.mem_cons.mp hz with e | e
          · rw [e]; exact h2
          · exact g3 z e
    obtain ⟨zs, g1, g2, g3⟩ := aux L hin
    rw [g1] at h
    rw [g2] at hk
    refine k q H' _ k1 hq h ?_
    rw [← hk]
    exact (clsAt_of g3).kept k1
end Ky

namespace Ky
open PySem PySem.Spec PyProof.Rows L2
/-! ### comprehensions whose element draws: lists of numbers with a promise -/
section
variable {te : TE} {σ : L2.St}
theorem LcJ.drawsP {d c : Addr} (W : Int → Prop) {n : Nat} {j : Nat} {H0 : Hp} {Q : VK} (hd : DrwC d c H0) (hn : n ≤ sizeLine)
    (step : ∀ i H (k2 : VK), i < n → KeptC d c H0 H → (∀ r H4, KeptC d c H H4 → W r → k2 (.int r) H4) → te ((wipe σ [j]).set j (some (.int (i : Int)))) H k2)
    (fin : ∀ D H (ns : List Int), H0 D = none → KeptC d c H0 H → H D = some (.lst (ns.map V.int)) → ns.length = n → (∀ x ∈ ns, W x) → Q (.ref D) H) : LcJ (gName j) tYes te [j] σ Q (Itr 0 n) H0 := by
  intro D hD
  have nd := (hd.old hD).1
  refine c_walk (xv := fun i => .int (i : Int)) (n := n) (fun i H => KeptC d c H0 H ∧ ∃ ns : List Int, H D = some (.lst (ns.map V.int)) ∧ ns.length = i ∧ ∀ x ∈ ns, W x) ⟨(Kept.new hD).toC, [], upd_same, rfl, fun x h => (by cases h)⟩ (fun i H h s => h) (fun i H x H' h s q => ?_) (fun H s => Nat.le_refl n) (fun i H hi s => ?_) fun H s => ?_
  · obtain ⟨h1, h2⟩ := q
    rw [Int.zero_add] at h2
    exact ⟨h1, h2⟩
  · obtain ⟨kp, ns, h1, h2, h3⟩ := s
    refine ⟨wipe_one, w_yes (if_t rfl ?_)⟩
    refine step i H _ hi kp fun r H4 k4 r0 => ⟨_, k4.lst nd h1, ?_, (kp.trans k4).mut hD, ns ++ [r], ?_, ?_, fun x hx => ?_⟩
    · rw [List.length_map, h2]
      omega
    · rw [List.map_append]
      exact upd_same
    · rw [List.length_append, h2] <;> rfl
    · rcases List.mem_append.mp hx with q | q
      · exact h3 x q
      · rw [List.mem_singleton.mp q]
        exact r0
  · obtain ⟨kp, ns, h1, h2, h3⟩ := s
    exact fin D H ns hD kp h1 h2 h3
theorem Lc1.drawsP {d c : Addr} (W : Int → Prop) {n : Nat} {j : Nat} {H0 : Hp} {Q : VK} (hd : DrwC d c H0) (hn : n ≤ 1000)
    (step : ∀ i H (k2 : VK), i < n → KeptC d c H0 H → (∀ r H4, KeptC d c H H4 → W r → k2 (.int r) H4) → te ((wipe σ [j]).set j (some (.int (i : Int)))) H k2)
    (fin : ∀ D H (ns : List Int), H0 D = none → KeptC d c H0 H → H D = some (.lst (ns.map V.int)) → ns.length = n → (∀ x ∈ ns, W x) → Q (.ref D) H) : Lc1 (gName j) tYes te [j] σ Q [.int (n : Int)] H0 := by
  have hz : 1001 ≤ sizeLine := by decide
  refine ⟨_, rfl, by omega, by omega, ?_⟩
  rw [Int.toNat_natCast]
  exact LcJ.drawsP W hd (by omega) step fin
end
/-! ### the drawn clauses and formulas of the later laws -/
/-- the place of a list or a tuple that the draws leave alone -/
def Away (d c a : Addr) (H : Hp) (xs : List V) : Prop := a ≠ d ∧ a ≠ c ∧ (H a = some (.lst xs) ∨ H a = some (.tup xs))
theorem Away.keptC {d c a : Addr} {H H' : Hp} {xs : List V} (h : Away d c a H xs) (k : KeptC d c H H') : Away d c a H' xs := by
  obtain ⟨h1, h2, h3⟩ := h
  refine ⟨h1, h2, h3.imp (fun z => k.lst h1 z) fun z => k.keep _ _ h1 noTab_tup z⟩
theorem Away.tup {d c a : Addr} {H : Hp} {xs : List V} (hd : DrwC d c H) (h : H a = some (.tup xs)) : Away d c a H xs := by
  obtain ⟨ns, i, u, z, n, h1, h2, _⟩ := hd
  refine ⟨fun e => ?_, fun e => ?_, .inr h⟩
  · rw [e, h1] at h
    cases h
  · rw [e, h2] at h
    cases h
theorem Away.seq {d c a : Addr} {K : PySem.W.Frag} {H : Hp} {xs : List V} (h : Away d c a H xs) : SqL K H a xs ∨ SqT K H a xs := h.2.2.imp (fun z => SqL.of z) fun z => SqT.of z
def spLLit : Sp := fun vs H Q _ => ∃ (d c a : Addr) (ns : List Int), vs = [.ref d, .ref a] ∧ DrwC d c H ∧ Away d c a H (ns.map V.int) ∧ 0 < ns.length ∧ ns.length ≤ 1000 ∧ (∀ v ∈ ns, 1 ≤ v ∧ v ≤ 999) ∧ ∀ n H', KeptC d c H H' → isLit n = true → absI n ∈ ns → Q (.int n) H'
structure ClsF (ns : List Int) (many : Nat) (rc : List (List Int)) : Prop where
  len : rc.length ≤ many
  asc : ascC rc
  cls : ∀ c ∈ rc, isClauseF c = true ∧ c.length ≤ 4 ∧ ∀ n ∈ c, absI n ∈ ns
def spLClauses : Sp := fun vs H Q _ => ∃ (d c a : Addr) (ns : List Int) (many : Nat), vs = [.ref d, .ref a, .int many] ∧ many ≤ 60 ∧ DrwC d c H ∧ Away d c a H (ns.map V.int) ∧ 0 < ns.length ∧ ns.length ≤ 1000 ∧ (∀ v ∈ ns, 1 ≤ v ∧ v ≤ 999) ∧
  ∀ p H' bs rc, KeptC d c H H' → H' p = some (.tup (bs.map V.ref)) → ClsAt H' bs rc → ClsF ns many rc → Q (.ref p) H'
theorem ClsF.flat {ns : List Int} {many : Nat} {rc : List (List Int)} (h : ClsF ns many rc) : rc.flatten.length ≤ 4 * many := by
  have aux : ∀ rc : List (List Int), (∀ c ∈ rc, c.length ≤ 4) → rc.flatten.length ≤ 4 * rc.length := by
    intro rc
    induction rc with
    | nil => exact fun _ => Nat.zero_le _
    | cons c rc ih =>
      intro hc
      have h1 := hc c List.mem_cons_self
      have h2 := ih fun x hx => hc x (List.mem_cons_of_mem _ hx)
      rw [List.flatten_cons, List.length_append, List.length_cons]
      omega
  have h1 := aux rc fun c hc => (h.cls c hc).2.1
  have h2 := h.len
  omega
structure Form2 (most : Nat) (S Hd : List Int) (rc : List (List Int)) : Prop where
  sAsc : S.Pairwise (· < ·)
  hAsc : Hd.Pairwise (· < ·)
  dis : ∀ v ∈ S, v ∉ Hd
  vars : ∀ v, v ∈ S ∨ v ∈ Hd → 1 ≤ v ∧ v ≤ 999
  sPos : 1 ≤ S.length
  sum : S.length + Hd.length ≤ most + 3
  hLen : Hd.length ≤ 3
  len : rc.length ≤ most + 7
  asc : ascC rc
  cls : ∀ c ∈ rc, isClauseF c = true ∧ c.length ≤ 4 ∧ ∀ n ∈ c, absI n ∈ S ∨ absI n ∈ Hd
def spLFormula2 : Sp := fun vs H Q _ => ∃ (d c : Addr) (most : Nat), vs = [.ref d, .int most] ∧ 1 ≤ most ∧ most ≤ 8 ∧ DrwC d c H ∧ ∀ p H' S Hd rc, KeptC d c H H' → FormAt H' p S Hd rc → Form2 most S Hd rc → Q (.ref p) H'
theorem mem_clauseF {ls : List Int} {n : Int} : n ∈ clauseF ls ↔ n ∈ ls := by
  unfold clauseF
  rw [mem_srtBy, mem_dd]
theorem len_clauseF (ls : List Int) : (clauseF ls).length ≤ ls.length := by
  unfold clauseF
  rw [(srtBy_perm _ _).length_eq]
  exact len_dd _
theorem clauseF_ok {ls : List Int} (h : noBoth ls) (hl : ∀ n ∈ ls, isLit n = true) : isClauseF (clauseF ls) = true := by
  unfold clauseF
  exact isClauseF_srt (nodup_dd _) (fun l h1 h2 => h l (mem_dd.mp h1) (mem_dd.mp h2)) fun n hn => hl n (mem_dd.mp hn)
theorem residueF_asc (cs : List (List Int)) : ascC (residueF cs) := asc_srtN (nodup_dd _)
theorem len_residueF (cs : List (List Int)) : (residueF cs).length ≤ cs.length := by
  unfold residueF
  rw [(srtBy_perm _ _).length_eq]
  exact len_dd _
end Ky

namespace Ky
open PySem PySem.Spec PyProof.Rows L2
/-! ### plain values as trees: displays of nested tuples -/
inductive Tr where
  | i (n : Int)
  | b (x : Bool)
  | s (z : Str)
  | n
  | t (l : List Tr)
mutual
def TrAt (H : Hp) : Tr → V → Prop
  | .i k, v => v = .int k
  | .b x, v => v = .bl x
  | .s z, v => v = .str z
  | .n, v => v = .non
  | .t l, v => ∃ p xs, v = .ref p ∧ H p = some (.tup xs) ∧ TrsAt H l xs
def TrsAt (H : Hp) : List Tr → List V → Prop
  | [], xs => xs = []
  | a :: l, xs => ∃ x r, xs = x :: r ∧ TrAt H a x ∧ TrsAt H l r
end
mutual
def trD : Tr → PyData
  | .i k => .int k
  | .b x => .bool x
  | .s z => .str z
  | .n => .none
  | .t l => .tuple (trsD l)
def trsD : List Tr → List PyData
  | [] => []
  | a :: l => trD a :: trsD l
end
mutual
theorem TrAt.upH {H H' : Hp} (k : ∀ p xs, H p = some (.tup xs) → H' p = some (.tup xs)) : ∀ (a : Tr) (v : V), TrAt H a v → TrAt H' a v
  | .i n, v, h => by unfold TrAt at h ⊢; exact h
  | .b x, v, h => by unfold TrAt at h ⊢; exact h
  | .s z, v, h => by unfold TrAt at h ⊢; exact h
  | .n, v, h => by unfold TrAt at h ⊢; exact h
  | .t l, v, h => by
    unfold TrAt at h ⊢
    obtain ⟨p, xs, e, h1, h2⟩ := h
    exact ⟨p, xs, e, k p xs h1, TrsAt.upH k l xs h2⟩
theorem TrsAt.upH {H H' : Hp} (k : ∀ p xs, H p = some (.tup xs) → H' p = some (.tup xs)) : ∀ (l : List Tr) (xs : List V), TrsAt H l xs → TrsAt H' l xs
  | [], xs, h => by unfold TrsAt at h ⊢; exact h
  | a :: l, xs, h => by
    unfold TrsAt at h ⊢
    obtain ⟨x, r, e, h1, h2⟩ := h
    exact ⟨x, r, e, TrAt.upH k a x h1, TrsAt.upH k l r h2⟩
end
theorem TrAt.kept {H H' : Hp} {a : Tr} {v : V} (h : TrAt H a v) (k : Kept H H') : TrAt H' a v := TrAt.upH (fun p xs h => k.tup h) a v h
theorem TrsAt.kept {H H' : Hp} {l : List Tr} {xs : List V} (h : TrsAt H l xs) (k : Kept H H') : TrsAt H' l xs := TrsAt.upH (fun p xs h => k.tup h) l xs h
theorem TrAt.keptC {d c : Addr} {H H' : Hp} {a : Tr} {v : V} (h : TrAt H a v) (k : KeptC d c H H') (hd : DrwC d c H) : TrAt H' a v := TrAt.upH (fun p xs h => k.tup hd h) a v h
theorem TrsAt.keptC {d c : Addr} {H H' : Hp} {l : List Tr} {xs : List V} (h : TrsAt H l xs) (k : KeptC d c H H') (hd : DrwC d c H) : TrsAt H' l xs := TrsAt.upH (fun p xs h => k.tup hd h) l xs h
theorem TrsAt.nil {H : Hp} : TrsAt H [] [] := by unfold TrsAt; rfl
theorem TrsAt.cons {H : Hp} {a : Tr} {l : List Tr} {x : V} {xs : List V} (h : TrAt H a x) (hl : TrsAt H l xs) : TrsAt H (a :: l) (x :: xs) := by unfold TrsAt; exact ⟨x, xs, rfl, h, hl⟩
theorem TrsAt.len {H : Hp} : ∀ {l : List Tr} {xs : List V}, TrsAt H l xs → xs.length = l.length
  | [], xs, h => by unfold TrsAt at h; rw [h] <;> rfl
  | a :: l, xs, h => by
    unfold TrsAt at h
    obtain ⟨x, r, rfl, _, h2⟩ := h
    rw [List.length_cons, List.length_cons, TrsAt.len h2]
theorem TrsAt.get {H : Hp} : ∀ {l : List Tr} {xs : List V}, TrsAt H l xs → ∀ (i : Nat) (x : V) (a : Tr), xs[i]? = some x → l[i]? = some a → TrAt H a x
  | [], xs, h, i, x, a, h1, h2 => by cases h2
  | b :: l, xs, h, i, x, a, h1, h2 => by
    unfold TrsAt at h
    obtain ⟨y, r, rfl, g1, g2⟩ := h
    cases i with
    | zero =>
      cases h1
      cases h2
      exact g1
    | succ i =>
      rw [List.getElem?_cons_succ] at h1 h2
      exact TrsAt.get g2 i x a h1 h2
theorem TrsAt.app {H : Hp} : ∀ {l m : List Tr} {xs ys : List V}, TrsAt H l xs → TrsAt H m ys → TrsAt H (l ++ m) (xs ++ ys)
  | [], m, xs, ys, h1, h2 => by
    unfold TrsAt at h1
    rw [h1]
    exact h2
  | a :: l, m, xs, ys, h1, h2 => by
    unfold TrsAt at h1
    obtain ⟨x, r, rfl, g1, g2⟩ := h1
    exact TrsAt.cons g1 (TrsAt.app g2 h2)
mutual
theorem TrAt.dp {K : PySem.W.Frag} {H : Hp} : ∀ {a : Tr} {v : V}, TrAt H a v → Dp K H v (trD a)
  | .i n, v, h => by unfold TrAt at h; rw [h]; exact .int n
  | .b x, v, h => by unfold TrAt at h; rw [h]; exact .bl x
  | .s z, v, h => by unfold TrAt at h; rw [h]; exact .str z
  | .n, v, h => by unfold TrAt at h; rw [h]; exact .non
  | .t l, v, h => by
    unfold TrAt at h
    obtain ⟨p, xs, rfl, h1, h2⟩ := h
    exact .tup (SqT.of h1) (TrsAt.dp h2)
theorem TrsAt.dp {K : PySem.W.Frag} {H : Hp} : ∀ {l : List Tr} {xs : List V}, TrsAt H l xs → DpAll K H xs (trsD l)
  | [], xs, h => by unfold TrsAt at h; rw [h]; exact .nil
  | a :: l, xs, h => by
    unfold TrsAt at h
    obtain ⟨x, r, rfl, g1, g2⟩ := h
    exact .cons (TrAt.dp g1) (TrsAt.dp g2)
end
def TrW (a : Tr) : V → Hp → Prop := fun v H => TrAt H a v
def TrsW (l : List Tr) : List V → Hp → Prop := fun xs H => TrsAt H l xs
section
variable {σ : L2.St} {H0 : Hp} {te ta tb : TE} {tq : TA} {K : PySem.W.Frag}
theorem mkT_nil : MkA σ H0 tNil (TrsW []) := ⟨fun v H H' k q => TrsAt.kept (l := []) q k, fun H Q k0 k => k [] H (Kept.refl _) TrsAt.nil⟩
theorem mkT_cons {a : Tr} {l : List Tr} (h : MkE σ H0 te (TrW a)) (hs : MkA σ H0 tq (TrsW l)) : MkA σ H0 (tCons te tq) (TrsW (a :: l)) :=
  ⟨fun v H H' k q => TrsAt.kept (l := a :: l) q k, fun H Q k0 k => h.run H _ k0 fun v H1 k1 w1 => hs.run H1 _ (k0.trans k1) fun r H2 k2 w2 => k _ H2 (k1.trans k2) (TrsAt.cons (TrAt.kept w1 k2) w2)⟩
theorem mkT_tup {l : List Tr} (h : MkA σ H0 tq (TrsW l)) (hl : l.length ≤ 1000) : MkE σ H0 (tTup tq) (TrW (.t l)) :=
  ⟨fun v H H' k q => TrAt.kept (a := .t l) q k, fun H Q k0 k => h.run H _ k0 fun vs H1 k1 w => ⟨Nat.le_trans (by rw [TrsAt.len w]; exact hl) (by decide), fun p hp => k _ _ (k1.trans (Kept.new hp)) (by
    show TrAt _ _ _
    unfold TrAt
    exact ⟨p, vs, rfl, upd_same, TrsAt.kept w (Kept.new hp)⟩)⟩⟩
theorem mkT_int {n : Int} : MkE σ H0 (tC (.int n)) (TrW (.i n)) := ⟨fun v H H' k q => TrAt.kept (a := .i n) q k, fun H Q k0 k => k _ H (Kept.refl _) (by show TrAt _ _ _; unfold TrAt; rfl)⟩
theorem mkT_bl {x : Bool} : MkE σ H0 (tC (.bl x)) (TrW (.b x)) := ⟨fun v H H' k q => TrAt.kept (a := .b x) q k, fun H Q k0 k => k _ H (Kept.refl _) (by show TrAt _ _ _; unfold TrAt; rfl)⟩
theorem mkT_str {z : Str} : MkE σ H0 (tC (.str z)) (TrW (.s z)) := ⟨fun v H H' k q => TrAt.kept (a := .s z) q k, fun H Q k0 k => k _ H (Kept.refl _) (by show TrAt _ _ _; unfold TrAt; rfl)⟩
theorem mkT_non : MkE σ H0 (tC .non) (TrW .n) := ⟨fun v H H' k q => TrAt.kept (a := .n) q k, fun H Q k0 k => k _ H (Kept.refl _) (by show TrAt _ _ _; unfold TrAt; rfl)⟩
theorem mkT_neg {n : Int} (h : MkE σ H0 te (TrW (.i n))) : MkE σ H0 (tUn (rU fun i => V.int (-i)) te) (TrW (.i (-n))) := ⟨fun v H H' k q => TrAt.kept (a := .i (-n)) q k, fun H Q k0 k => h.run H _ k0 fun v H1 k1 w => by
    have w : TrAt H1 (.i n) v := w
    unfold TrAt at w
    exact ⟨n, w, k _ H1 k1 (by show TrAt _ _ _; unfold TrAt; rfl)⟩⟩
theorem mkT_var {i : Nat} {v : V} {a : Tr} (h : σ[i]? = some (some v)) (ha : TrAt H0 a v) : MkE σ H0 (tVar i) (TrW a) := ⟨fun v H H' k q => TrAt.kept (a := a) q k, fun H Q k0 k => ⟨v, h, k v H (Kept.refl _) (TrAt.kept ha k0)⟩⟩
end
end Ky

namespace Ky
open PySem PySem.Spec PyProof.Rows L2
/-! ### comprehensions whose element draws: lists of values that are no places -/
section
variable {te : TE} {σ : L2.St}
theorem LcJ.drawsV {d c : Addr} (W : V → Prop) {n : Nat} {j : Nat} {H0 : Hp} {Q : VK} (hd : DrwC d c H0) (hn : n ≤ sizeLine)
    (step : ∀ i H (k2 : VK), i < n → KeptC d c H0 H → (∀ r H4, KeptC d c H H4 → W r → k2 r H4) → te ((wipe σ [j]).set j (some (.int (i : Int)))) H k2)
    (fin : ∀ D H (ns : List V), H0 D = none → KeptC d c H0 H → H D = some (.lst ns) → ns.length = n → (∀ x ∈ ns, W x) → Q (.ref D) H) : LcJ (gName j) tYes te [j] σ Q (Itr 0 n) H0 := by
  intro D hD
  have nd := (hd.old hD).1
  refine c_walk (xv := fun i => .int (i : Int)) (n := n) (fun i H => KeptC d c H0 H ∧ ∃ ns : List V, H D = some (.lst ns) ∧ ns.length = i ∧ ∀ x ∈ ns, W x) ⟨(Kept.new hD).toC, [], upd_same, rfl, fun x h => (by cases h)⟩ (fun i H h s => h) (fun i H x H' h s q => ?_) (fun H s => Nat.le_refl n) (fun i H hi s => ?_) fun H s => ?_
  · obtain ⟨h1, h2⟩ := q
    rw [Int.zero_add] at h2
    exact ⟨h1, h2⟩
  · obtain ⟨kp, ns, h1, h2, h3⟩ := s
    refine ⟨wipe_one, w_yes (if_t rfl ?_)⟩
    refine step i H _ hi kp fun r H4 k4 r0 => ⟨_, k4.lst nd h1, ?_, (kp.trans k4).mut hD, ns ++ [r], ?_, ?_, fun x hx => ?_⟩
    · rw [h2]
      omega
    · exact upd_same
    · rw [List.length_append, h2] <;> rfl
    · rcases List.mem_append.mp hx with q | q
      · exact h3 x q
      · rw [List.mem_singleton.mp q]
        exact r0
  · obtain ⟨kp, ns, h1, h2, h3⟩ := s
    exact fin D H ns hD kp h1 h2 h3
theorem Lc1.drawsV {d c : Addr} (W : V → Prop) {n : Nat} {j : Nat} {H0 : Hp} {Q : VK} (hd : DrwC d c H0) (hn : n ≤ 1000)
    (step : ∀ i H (k2 : VK), i < n → KeptC d c H0 H → (∀ r H4, KeptC d c H H4 → W r → k2 r H4) → te ((wipe σ [j]).set j (some (.int (i : Int)))) H k2)
    (fin : ∀ D H (ns : List V), H0 D = none → KeptC d c H0 H → H D = some (.lst ns) → ns.length = n → (∀ x ∈ ns, W x) → Q (.ref D) H) : Lc1 (gName j) tYes te [j] σ Q [.int (n : Int)] H0 := by
  have hz : 1001 ≤ sizeLine := by decide
  refine ⟨_, rfl, by omega, by omega, ?_⟩
  rw [Int.toNat_natCast]
  exact LcJ.drawsV W hd (by omega) step fin
end
end Ky

namespace Ky
open PySem PySem.Spec PyProof.Rows L2
/-! ### a dict of the module, keys texts: in, [..]; the sum of a list of truths -/
def KHas (K : PySem.W.Frag) (w : World) (a : Addr) (x : Str) (b : Bool) : Prop :=
  ∃ es n u, K.lookup a = some ⟨.type "dict", none, .dict es n, #[]⟩ ∧ PySem.W.KeysLit w.params es.toList ∧ (a == sysModules) = false ∧ PySem.W.nsIn K a x = some u ∧ b = u.isSome
def tKIn (K : PySem.W.Frag) (w : World) (ty td : TE) : TE := fun σ H Q => ty σ H fun y H1 => td σ H1 fun x H2 => ∃ p z b, x = .ref p ∧ y = .str z ∧ KHas K w p z b ∧ Q (.bl b) H2
section
variable {X : Cx} {i o : Expr} {ty td : TE} {K : PySem.W.Frag} {w : World}
theorem pc_kin (hK : X.K = K) (hw : X.w = w) (hi : PE X i ty) (ho : PE X o td) : PC X .In i o (tKIn K w ty td) := by
  subst hK
  subst hw
  refine ⟨fun pins s σ H Q I h => ?_⟩
  refine thn (hi.run pins s σ H _ I h) fun iv s1 ⟨y, H1, I1, ry, q1⟩ => thn (ho.run pins s1 σ H1 _ I1 q1) fun u s2 ⟨x, H2, I2, rx, p, z, b, ex, ey, ⟨es, n, u0, hl, hk, low, e, hb⟩, q2⟩ => ?_
  subst ex
  subst ey
  obtain rfl : u = Value.ref p := rx
  obtain ⟨t, rfl⟩ := ry
  have hm := PySem.W.mapOf_K (prog := X.prog) (w := X.w) I2.kIn hl hk
  refine wpAny_in_of (strKind_is X.prog X.w z t) low hm ?_
  refine ⟨.bl b, H2, I2.tok _, ?_, q2⟩
  show Value.bool _ = Value.bool _
  rw [PySem.W.find_K hl e, hb]
theorem ix_kdictK (hK : X.K = K) (hw : X.w = w) : IxR X (rIxD K w) := by
  subst hK
  subst hw
  exact ix_kdict
/-- sum(l), l a list of truths -/
def rSumB (K : PySem.W.Frag) : List V → Hp → VK → Prop := fun vs H Q => ∃ (a : Addr) (bs : List Bool), vs = [V.ref a] ∧ SqL K H a (bs.map V.bl) ∧ Q (.int (bs.filter id).length) H
theorem preSum_bools (bs : List Bool) : ∀ j, j ≤ bs.length → preSum (fun i => if bs.getD i false = true then 1 else 0) j = ((bs.take j).filter id).length
  | 0, _ => rfl
  | j + 1, h => by
    rw [preSum, preSum_bools bs j (by omega)]
    have hj : j < bs.length := by omega
    rw [List.take_add_one, List.getElem?_eq_getElem hj, List.filter_append, List.length_append, List.getD_eq_getElem?_getD, List.getElem?_eq_getElem hj]
    cases bs[j] <;> simp
theorem cr_sumB (hc : X.calm = true) : CallR X (.builtin "sum") (rSumB X.K) := by
  intro pins s σ H vs us Q I r h
  obtain ⟨a, bs, rfl, hs, q⟩ := h
  obtain ⟨its, rv, hl, _⟩ := I.list hs
  rw [Vals.ref1 r]
  have hb := rv.bls
  refine call_sum_walkAnyB (iter_any hl.isList fun s₂ e2 st hne => ?_)
  subst e2
  refine ⟨_, _, _, _, _, _, _, fun i => if bs.getD i false = true then 1 else 0, rfl, (Walks.list (A := X.A.in1) (I.ok.hd hc) _ a hne its.toArray).toS, st, ?_, fun i v hv => ?_, fun s' t' mv => ?_⟩
  · intro b hb2
    have hlt : a < s.heap.objs.size := by obtain ⟨_, e, _⟩ := hl.isList; exact Heap.lt_size e
    show b < (s.heap.push _).objs.size
    rw [Heap.size_push]
    rcases List.mem_cons.mp hb2 with e | hb2
    · exact e ▸ Nat.lt_succ_self _
    · exact (List.mem_singleton.mp hb2) ▸ Nat.lt_succ_of_lt hlt
  · have hv' : its[i]? = some v := by simpa using hv
    rw [hb, List.getElem?_map] at hv'
    obtain ⟨b, hb3, rfl⟩ := Option.map_eq_some_iff.mp hv'
    refine .inr ⟨b, rfl, ?_⟩
    show (if bs.getD i false = true then (1 : Int) else 0) = _
    have hg : bs.getD i false = b := by rw [List.getD_eq_getElem?_getD, hb3] <;> rfl
    rw [hg]
  · have hz : its.toArray.size = bs.length := by rw [hb, List.size_toArray, List.length_map]
    rw [hz, preSum_bools bs _ (Nat.le_refl _), List.take_length]
    obtain ⟨h3, g3, d3, t3, o3⟩ := s'
    cases (mv.gens : g3 = s.gens)
    cases (mv.drawn : d3 = s.drawn)
    cases (mv.os : o3 = s.os)
    refine ⟨.int _, H, I.kept fun b o eo => mv.heap b o (fun hmem => ?_) (Heap.get?_push_of_some _ eo), ⟨_, rfl⟩, q⟩
    rcases List.mem_cons.mp hmem with e1 | hmem
    · exact absurd (e1 ▸ Heap.lt_size eo) (Nat.lt_irrefl _)
    · cases hmem
end
end Ky
namespace Ky
open PySem PySem.Spec PyProof.Rows L2
section
variable {X : Cx} {K : PySem.W.Frag}
theorem cr_allK (hK : X.K = K) (hc : X.calm = true) : CallR X (.builtin "all") (rAll K) := by subst hK; exact cr_all hc
theorem cr_anyK (hK : X.K = K) (hc : X.calm = true) : CallR X (.builtin "any") (rAny K) := by subst hK; exact cr_any hc
theorem cr_sumBK (hK : X.K = K) (hc : X.calm = true) : CallR X (.builtin "sum") (rSumB K) := by subst hK; exact cr_sumB hc
end
end Ky

namespace Ky
open PySem PySem.Spec PyProof.Rows L2
/-! ### comprehensions whose element draws a tree -/
section
variable {te : TE} {σ : L2.St}
theorem LcJ.drawsT {d c : Addr} (W : Tr → Prop) {n : Nat} {j : Nat} {H0 : Hp} {Q : VK} (hd : DrwC d c H0) (hn : n ≤ sizeLine)
    (step : ∀ i H (k2 : VK), i < n → KeptC d c H0 H → (∀ r H4 t, KeptC d c H H4 → TrAt H4 t r → W t → k2 r H4) → te ((wipe σ [j]).set j (some (.int (i : Int)))) H k2)
    (fin : ∀ D H xs ts, H0 D = none → KeptC d c H0 H → H D = some (.lst xs) → TrsAt H ts xs → ts.length = n → (∀ t ∈ ts, W t) → Q (.ref D) H) : LcJ (gName j) tYes te [j] σ Q (Itr 0 n) H0 := by
  intro D hD
  have nd := (hd.old hD).1
  refine c_walk (xv := fun i => .int (i : Int)) (n := n) (fun i H => KeptC d c H0 H ∧ ∃ xs ts, H D = some (.lst xs) ∧ TrsAt H ts xs ∧ ts.length = i ∧ ∀ t ∈ ts, W t) ⟨(Kept.new hD).toC, [], [], upd_same, TrsAt.nil, rfl, fun x h => (by cases h)⟩ (fun i H h s => h) (fun i H x H' h s q => ?_) (fun H s => Nat.le_refl n) (fun i H hi s => ?_) fun H s => ?_
  · obtain ⟨h1, h2⟩ := q
    rw [Int.zero_add] at h2
    exact ⟨h1, h2⟩
  · obtain ⟨kp, xs, ts, h1, hx, h2, h3⟩ := s
    refine ⟨wipe_one, w_yes (if_t rfl ?_)⟩
    refine step i H _ hi kp fun r H4 t k4 r0 w0 => ⟨_, k4.lst nd h1, ?_, (kp.trans k4).mut hD, xs ++ [r], ts ++ [t], ?_, ?_, ?_, fun x hx => ?_⟩
    · rw [hx.len, h2]
      omega
    · exact upd_same
    · exact TrsAt.upH (fun p zs h => tup_upd (k4.lst nd h1) h) _ _ ((hx.keptC k4 (kp.drw hd)).app (TrsAt.cons r0 TrsAt.nil))
    · rw [List.length_append, h2] <;> rfl
    · rcases List.mem_append.mp hx with q | q
      · exact h3 x q
      · rw [List.mem_singleton.mp q]
        exact w0
  · obtain ⟨kp, xs, ts, h1, hx, h2, h3⟩ := s
    exact fin D H xs ts hD kp h1 hx h2 h3
theorem Lc1.drawsT {d c : Addr} (W : Tr → Prop) {n : Nat} {j : Nat} {H0 : Hp} {Q : VK} (hd : DrwC d c H0) (hn : n ≤ 1000)
    (step : ∀ i H (k2 : VK), i < n → KeptC d c H0 H → (∀ r H4 t, KeptC d c H H4 → TrAt H4 t r → W t → k2 r H4) → te ((wipe σ [j]).set j (some (.int (i : Int)))) H k2)
    (fin : ∀ D H xs ts, H0 D = none → KeptC d c H0 H → H D = some (.lst xs) → TrsAt H ts xs → ts.length = n → (∀ t ∈ ts, W t) → Q (.ref D) H) : Lc1 (gName j) tYes te [j] σ Q [.int (n : Int)] H0 := by
  have hz : 1001 ≤ sizeLine := by decide
  refine ⟨_, rfl, by omega, by omega, ?_⟩
  rw [Int.toNat_natCast]
  exact LcJ.drawsT W hd (by omega) step fin
end
end Ky

namespace Ky
open PySem PySem.Spec PyProof.Rows L2
/-! ### list(d.values()), d a dict whose keys are ints and texts -/
def valsO (p d : Addr) : HO := .ext fun h => h.IsValuesView p d
theorem valsO_ok {P : Program} {w : World} {H : Hp} {h : Heap} {p d : Addr} (e : h.get? p = some { cls := .type "dict_values", data := .fields #[.ref d] }) : ObjOk P w H h p (valsO p d) :=
  ⟨⟨_, e, rfl, rfl⟩, ⟨_, e⟩, fun h1 h2 x k => let ⟨o, ho, r⟩ := x; ⟨o, k o ho, r⟩⟩
section
variable {X : Cx}
def rValsK : V → List V → Hp → VK → Prop := fun x xs H Q => ∃ (a : Addr) (kvs : List (L2.Key × V)), x = .ref a ∧ xs = [] ∧ H a = some (.dK kvs) ∧ ∀ p, H p = none → Q (.ref p) (upd H p (valsO p a))
theorem mt_valsK : MtR X "dict.values" rValsK := by
  intro pins s σ H x xs v us Q I rx rxs h
  obtain ⟨a, kvs, rfl, rfl, ha, q⟩ := h
  cases rx
  cases rxs
  obtain ⟨_, hsys, vs, rel, dof⟩ := dk_of I.hok ha
  refine call_meetsIn F.slot_dict_values dof.typeIs F.entry_dict_values (F.args_dict_values_1 _) (meets_dict_values (mixKind X.prog X.w) a hsys) ⟨⟨vs, dof⟩, ?_⟩
  have hf : H s.heap.objs.size = none := I.hok.fresh (Nat.le_refl _)
  exact ⟨.ref s.heap.objs.size, upd H s.heap.objs.size (valsO s.heap.objs.size a), I.laid (t' := s.toks) (fun b u e => Heap.get?_push_of_some _ e) (Nat.le_refl _) (valsO_ok (Heap.get?_push_size _ rfl)), rfl, q _ hf⟩
def rListVals : List V → Hp → VK → Prop := fun xs H Q => ∃ (p a : Addr) (kvs : List (L2.Key × V)), xs = [V.ref p] ∧ H p = some (valsO p a) ∧ H a = some (.dK kvs) ∧ ∀ q, H q = none → Q (.ref q) (upd H q (.lst (kvs.map (·.2))))
theorem call_list_vals (hc : X.calm = true) : CallR X (.type "list") rListVals := by
  intro pins s σ H xs us Q I r h
  obtain ⟨p, a, kvs, e, hp, hk, q⟩ := h
  subst e
  obtain ⟨u, eu, rx⟩ := vals1 r
  subst eu
  obtain rfl : u = Value.ref p := rx
  obtain ⟨z, lo, vs, rk, hd⟩ := (show ObjOk X.prog X.w H s.heap a (.dK kvs) from I.hok a _ hk)
  obtain ⟨ep, hat⟩ := hd.dictAt
  have hl : kvs.length = vs.length := Paired.length rk
  have hvw : s.heap.IsValuesView p a := (I.hok p _ hp).1
  refine PySem.W.kdl_call (PySem.W.kdl_values (knd := mixKind X.prog X.w) (kvs := vs) (ep := ep)) (I.ok.hd hc) ⟨hvw, hat⟩ (by rw [← hl]; exact z) fun h' tk acc' c' hkeep hS hacc => ?_
  refine ⟨.ref s.heap.objs.size, upd H s.heap.objs.size (.lst (kvs.map (·.2))), I.laid hkeep (Nat.le_refl _) (show ObjOk X.prog X.w _ _ _ (.lst (kvs.map (·.2))) from ⟨?_, acc'.toList, c', ?_, ?_⟩), rfl, q _ (I.hok.fresh (Nat.le_refl _))⟩
  · rw [List.length_map]; exact z
  · have el : acc'.toList.length = acc'.size := by simp
    refine vals_of_at (by rw [List.length_map, el, hacc.1, hl]) fun j x w h1 h2 => ?_
    obtain ⟨k, hky⟩ := hacc.2 j w (by rw [← Array.getElem?_toList]; exact h2)
    obtain ⟨y, e1, e2⟩ := KV.at' rk hky
    have e3 : (kvs.map (·.2))[j]? = some y := by rw [List.getElem?_map, e1] <;> rfl
    rw [e3] at h1
    cases h1
    exact e2
  · rw [Array.toArray_toList]; exact hS
end
/-! ### x in t, x not in t, t a tuple of data -/
section
variable {X : Cx}
def rInTD (K : PySem.W.Frag) : R2 := fun x y H Q => ∃ d ds, Dp K H x d ∧ Dp K H y (.tuple ds) ∧ SeqAt.shaped d = true ∧ SeqAt.shaped (.list ds) = true ∧ Q (.bl (ds.any fun z => PyData.eqv z d)) H
def rNotInTD (K : PySem.W.Frag) : R2 := fun x y H Q => ∃ d ds, Dp K H x d ∧ Dp K H y (.tuple ds) ∧ SeqAt.shaped d = true ∧ SeqAt.shaped (.list ds) = true ∧ Q (.bl (!ds.any fun z => PyData.eqv z d)) H
theorem op_inTD (hu : X.A.units + 65 < cLine) : OpR X (compareOp .In) (rInTD X.K) := by
  intro pins s σ H x y v u Q I rx ry h
  obtain ⟨d, ds, hd, he, sd, se, q⟩ := h
  obtain ⟨as, r1⟩ := Dp.reads I d x v hd rx
  obtain ⟨bs, r2⟩ := Dp.reads I (.tuple ds) y u he ry
  exact SeqAt.in_tuple_reads r2 r1 (SeqAt.canLay_of_shaped se) (SeqAt.canLay_of_shaped sd) (room_in_shaped sd hu) ⟨.bl _, H, I, rfl, q⟩
theorem op_notInTD (hu : X.A.units + 65 < cLine) : OpR X (compareOp .NotIn) (rNotInTD X.K) := by
  intro pins s σ H x y v u Q I rx ry h
  obtain ⟨d, ds, hd, he, sd, se, q⟩ := h
  obtain ⟨as, r1⟩ := Dp.reads I d x v hd rx
  obtain ⟨bs, r2⟩ := Dp.reads I (.tuple ds) y u he ry
  exact SeqAt.notIn_tuple_reads r2 r1 (SeqAt.canLay_of_shaped se) (SeqAt.canLay_of_shaped sd) (room_in_shaped sd hu) ⟨.bl _, H, I, rfl, q⟩
end
/-! ### defs that raise -/
structure DfX (P : Program) (w : World) (K : PySem.W.Frag) (mg : Str → Option Value) (base : Heap) (k : Nat) (x : Str) (ps : List Str) (sp : Sp) : Prop where
  ex : ∃ f fd, FnOk P w K mg base (L2.CX P w) k f fd ps sp ∧ mg x = some (.ref f) ∧ PySem.W.keepIn K (.ref f) = true ∧ Binds K fd ps []
section
variable {X : Cx} {k : Nat} {ps : List Str} {sp : Sp} {x : Str} {p pos : Pos} {e : Expr} {es : List Expr} {t : TA} {E : L2.St → XK}
theorem pe_dfX (D : DfX X.prog X.w X.K X.mg X.base k x ps sp) (hr : Room k X.A) (hx : ∀ σ, PassesAt (L2.CX X.prog X.w) X σ (E σ)) (hg : Gl X x) (ha : PA X (e :: es) t) (hdb : (x == ("__debug__" : Str)) = false := by decide)
    (he : starEach (e :: es) X.env = (false, eval e X.env) :: starEach es X.env := by rfl) (hpl : (backTo pos (starEach es X.env)).any (·.1) = false := by rfl) :
    PE X (.Call (.Name x p) (e :: es) [] pos) (tCallS sp E t) := by
  obtain ⟨f, fd, F, hm, hk, hb⟩ := D.ex
  exact pe_callS F hr hg hm hk hb hx ha hdb he hpl
end
/-- a class of the program over a class over ValueError, without __init__ -/
structure ExC (K : PySem.W.Frag) (mg : Str → Option Value) (x : Str) (C : Addr) : Prop where
  g : mg x = some (.ref C)
  x : PySem.W.excIn K C [.type "ValueError", .type "Exception", .type "BaseException", .type "object"] "ValueError.__new__" = true
  k : PySem.W.keepIn K (.ref C) = true
  b : PySem.W.subIn K (.ref C) (.type "BaseException") = some true
  t : PySem.W.typeIn K (.ref C) = some (.type "type")
  e : PySem.W.exmOne K (.ref C) (.ref C) = some true
theorem exm_self {K : PySem.W.Frag} {S : Addr} (h1 : PySem.W.subIn K (.ref S) (.type "BaseException") = some true) (h2 : PySem.W.isClsIn K S = true) (h3 : PySem.W.typeIn K (.ref S) = some (.type "type")) (h4 : PySem.W.subIn K (.ref S) (.ref S) = some true) :
    PySem.W.exmOne K (.ref S) (.ref S) = some true := by
  have e1 : (PySem.W.subIn K (.ref S) (.type "BaseException") == some true) = true := by rw [h1] <;> rfl
  have e2 : ((PySem.W.clsIn K S).isSome && PySem.W.typeIn K (.ref S) == some (.type "type")) = true := by
    have h2' : (PySem.W.clsIn K S).isSome = true := h2
    rw [h2', h3] <;> rfl
  show (if (PySem.W.subIn K (.ref S) (.type "BaseException") == some true) = true then (if ((PySem.W.clsIn K S).isSome && PySem.W.typeIn K (.ref S) == some (.type "type")) = true then PySem.W.subIn K (.ref S) (.ref S) else none) else none) = some true
  rw [if_pos e1, if_pos e2]
  exact h4
/-- as FunC.ok, for a def that may raise -/
theorem FunC.okX {P : Program} {w : World} {K : PySem.W.Frag} {mg : Str → Option Value} {base : Heap} {x : Str} {st : Stmt} {f c : Addr} {fd : FuncData} {N ps : List Str} {k : Nat} {sp : Sp} (F : FunC K x st f fd c) (S : FnScope N ps (defScope st)) (len : ∀ vs H Q E, sp vs H Q E → vs.length = ps.length)
    (body : ∀ (A : Around) (outer : List Env) (s : Shared) (H : Hp) (vs : List V) (Q : VK) (E : XK), Room k (A.deeper (envOfC x (defScope st) s.heap.objs.size f (.ref c))) → sp vs H Q E →
      ∃ t, PSs (cxOf (L2.CX P w) P w K mg base N x (defScope st) f (.ref c) A outer s H E) (defBody st) t ∧ t { nx := fun _ H' => Q .non H', rt := Q } (start N vs) H) : FnOk P w K mg base (L2.CX P w) (k + 1) f fd ps sp := by
  obtain ⟨oc, od, kV, doc, pm, an, ct, osl, e, lk, hcd⟩ := F.ex
  subst e
  exact fn_of lk hcd S len fun A outer s H vs Q E hr hsp => body A outer s H vs Q E hr hsp
theorem w_callS {sp : Sp} {E : L2.St → XK} {tq : TA} {σ : L2.St} {H : Hp} {Q : VK} (q : tq σ H fun vs H1 => sp vs H1 Q (E σ)) : tCallS sp E tq σ H Q := q
theorem w_bm0 {K : PySem.W.Frag} {σ : L2.St} {H : Hp} {Q : VK} {T : String} {r : V → List V → Hp → VK → Prop} {te : TE} (q : te σ H fun x H1 => tyV K T x H1 ∧ r x [] H1 Q) : tBM0 K T r te σ H Q := q
end Ky

/-! ### an own exception: class C(B), B(ValueError), __init__(self, x): super().__init__(f'word {x}'); self.x = x -/
namespace PySem
namespace Xi
open PySem.W PySem.Calls PyProof.Rows PySem.HandSPX
abbrev xA (x : Str) (p1 p2 : Pos) : Arguments := { posonlyargs := [], args := [{ arg := "self", annotation := none, pos := p1 }, { arg := x, annotation := none, pos := p2 }], vararg := none, kwonlyargs := [], kw_defaults := [], kwarg := none, defaults := [] }
abbrev xB (x z : Str) (a b c d e f g h i j k l m : Pos) : List Stmt :=
  [.Expr (.Call (.Attribute (.Call (.Name "super" a) [] [] b) "__init__" c) [.JoinedStr [.Constant (.str z) 0 d, .FormattedValue (.Name x e) (-1) none f] g] [] h) i,
   .Assign [.Attribute (.Name "self" j) x k] (.Name x l) m]
abbrev xS (x : Str) : Scope := { kind := .function, names := [(PySem.Str.ofString "self", .local), (x, .local), (PySem.Str.ofString "__class__", .free), (PySem.Str.ofString "super", .globalImplicit)], isGenerator := false, isCoroutine := false, more := [] }
/-- how super().__init__(f'word {x}') is walked (its parts stand on one line) -/
def EvSup (x z : Str) (a b c d e f g h : Pos) : Prop := ∃ pl : Sem Bool, ∀ env : Env,
  eval (.Call (.Attribute (.Call (.Name "super" a) [] [] b) "__init__" c) [.JoinedStr [.Constant (.str z) 0 d, .FormattedValue (.Name x e) (-1) none f] g] [] h) env =
    (attributeBase (.Call (.Name "super" a) [] [] b) "__init__" env (eval (.Call (.Name "super" a) [] [] b) env) >>= fun ov => standAt c.atName >>= fun _ =>
      holding [ov] (getMethod ov "__init__" pl) >>= fun m => callWith h m.1 m.2 (backTo h (starEach [.JoinedStr [.Constant (.str z) 0 d, .FormattedValue (.Name x e) (-1) none f] g] env)) [])
/-- what the written part says of the class at C and of its __init__ at fI; x: the field, z: the word, nm: the class's name -/
structure XTxt (P : Program) (K : Frag) (mg : Str → Option Value) (nm x z : Str) (C fI : Addr) : Prop where
  gC : mg nm = some (.ref C)
  cls : ∃ n q N bs bm sn sub ab col dd k0 k1 k2 k3 k5, K.lookup C = some (excClassObj n q C N bs bm true sn sub ab col dd k0 k1 k2 k3 k5 "ValueError.__new__") ∧ refsVE bm = true
  sa : findIn K (.ref C) "__setattr__" = some (some (.builtin "object.__setattr__"))
  ga : findIn K (.ref C) "__getattribute__" = some (some (.builtin "BaseException.__getattribute__"))
  gg : findIn K (.ref C) "__getattr__" = some none
  noN : findIn K (.ref C) x = some none
  iC : findIn K (.ref C) "__init__" = some (some (.ref fI))
  tC : typeIn K (.ref fI) = some (.type "function")
  kC : keepIn K (.ref C) = true
  exC : subIn K (.ref C) (.type "BaseException") = some true
  veC : subIn K (.ref C) (.type "ValueError") = some true
  tyC : typeIn K (.ref C) = some (.type "type")
  hdC : hasDictIn K C = true
  te : exmOne K (.ref C) (.ref C) = some true
  up : ks_superIn K C C "__init__" = some (some (.builtin "ValueError.__init__"))
  own : mroIn K C (.ref C) = some true
  op : nsIn K cStatics "thirdparty.any" = some none
  zS : mg "super" = none
  top : (P.main.scope.names.lookup ("super" : Str)).isSome = false
  fn : ∃ (oc : Value) (od : Option Addr) (q : Str) (doc pm : Value) (an : Option Addr) (cda cc : Addr) (ct : Value) (osl : Array (Option Value)) (p1 p2 a b c d e f g h i j k l m : Pos) (ccl : Value) (cdd : Option Addr) (vs : Array Value) (ccs : Array (Option Value)) (file : Str) (tf : Tok) (cl : Value) (cld : Option Addr) (csl : Array (Option Value)),
    K.lookup fI = some ⟨oc, od, .func (ksFn "__init__" q (xA x p1 p2) (xB x z a b c d e f g h i j k l m) (xS x) .none .none doc pm an (.ref cda) ct cc), osl⟩ ∧ codeIn K (.ref cda) q = true ∧
    K.lookup cda = some ⟨ccl, cdd, .fields vs, ccs⟩ ∧ vs[2]? = some (.str file tf) ∧ ((P.main.file : Str) == file) = true ∧ K.lookup cc = some ⟨cl, cld, .cell (some (.ref C)), csl⟩ ∧ EvSup x z a b c d e f g h
  short : z.length ≤ 40
theorem kept_but {K : Frag} {h h' : Heap} {x : Addr} (X : K.In h) (hx : K.lookup x = none) (k : ∀ b o, b ≠ x → h.get? b = some o → h'.get? b = some o) : K.In h' := fun y o z => by
  by_cases e : y = x
  · rw [e, hx] at z
    cases z
  · exact k y o e (X y o z)
structure XEnd (h h' : Heap) (x C dx t1 : Addr) (nx : Str) (v : Value) : Prop where
  keep : ∀ b o, b ≠ x → h.get? b = some o → h'.get? b = some o
  obj : h'.get? x = some { cls := .ref C, dict := some dx, data := .fields #[.ref t1, .none, .none, .none, .bool false, .none] }
  dbig : h.objs.size ≤ dx
  dne : dx ≠ x
  ns : h'.Ns1 dx (fun y => if y = nx then some v else none)
section
variable {prog : Program} {w : World} {A : Around} {E : Value → Shared → Prop} {R : Result → Shared → Prop} {s : Shared} {K : Frag} {mg : Str → Option Value} {nm fx z : Str} {C fI : Addr}
/-- the wrapper of ValueError.__init__, called -/
theorem wrap_call {h : Heap} {g : Array GenState} {d : Drawn} {t : Nat} {os : OsState} {n q : Str} {N : Addr} {bs bm : List Value} {hdct : Bool} {sn : List Str} {sub : List Value} {ab : Bool} {col : Option Bool} {dd : Option Addr} {k0 k1 k2 k3 k5 : Option Value} {u e t0 : Addr} {more : List Value} {Q : Value → Shared → Prop}
    (hC : h.get? C = some (excClassObj n q C N bs bm hdct sn sub ab col dd k0 k1 k2 k3 k5 "ValueError.__new__")) (he : h.get? e = some (excO C t0)) (hu : h.get? u = some (kxs_mw "ValueError.__init__" e)) (hz : more.length ≤ sizeLine)
    (hq : ∀ h' t1, (∀ b o, b ≠ e → h.get? b = some o → h'.get? b = some o) → h'.get? e = some (excO C t1) → Q .none ⟨h', g, d, t, os⟩) : wpAny (model prog w) A (call (.ref u) more) Q E ⟨h, g, d, t, os⟩ := by
  refine wpAny_call (codeAny_of_tree ?_)
  show wpAny _ A.in1 (callAny (.ref u) { pos := more, kw := [] }) _ _ _
  unfold callAny
  refine wpAny_bind (wpAny_load hu ?_)
  have c1 : (Value.type "method-wrapper" == Value.type "method" || Value.type "method-wrapper" == Value.type "builtin_function_or_method" || Value.type "method-wrapper" == Value.type "method-wrapper") = true := by decide
  simp only [kxs_mw, c1, if_true]
  refine KFB.if_so (by decide) (wpAny_bind (check_bound_init PySem.F.excBase_ValueError.toExcCallFacts hC he rfl ?_))
  refine wpAny_bind (wpAny_pure (wpAny_pure ⟨plainId_quiet PySem.F.excBase_ValueError.init.plain _, codeAny_builtin PySem.F.excBase_ValueError.initEntry ?_⟩))
  exact exc_init_tree (cls := .ref C) (t0 := t0) (dv := none) (c2 := .none) (c3 := .none) (b4 := .bool false) he hz fun h' k e' _ => hq h' _ k e'
theorem xi_init (T : XTxt prog K mg nm "at" z C fI) {e t0 : Addr} {n : Int} {tn : Tok} (X : K.In s.heap) (hg : s.heap.Ns mainGlobals mg) (hb : ∃ mb, s.heap.Ns builtinsNs mb ∧ ∀ y : Str, y ≠ "__name__" → mb y = bootBuiltins y) (hlim : s.heap.NoLimit)
    (hx : s.heap.get? e = some (excO C t0)) (hnx : K.lookup e = none) (hroom : A.depth < recursionLimit) (hn : n.natAbs.log2 < 1000)
    (hq : ∀ h' tk dx t1, XEnd s.heap h' e C dx t1 "at" (.int n tn) → R (.ok (.ret .none)) { s with heap := h', toks := tk }) :
    codeAny (model prog w) A (.call (.ref fI) ⟨[.ref e, .int n tn], []⟩) R s := by
  obtain ⟨oc, od, q, doc, pm, an, cda, cc, ct, osl, p1, p2, a, b, c, d, e1, f, g, h, i, j, k, l, m, ccl, cdd, vs, ccs, file, tf, cl, cld, csl, lf, hcd, lc, hvs, hfile, lcc, pl, hev⟩ := T.fn
  obtain ⟨cn, cq, N, bs, bm, sn, sub, ab, col, dd, k0, k1, k2, k3, k5, hC, hbm⟩ := T.cls
  obtain ⟨mb, hmb, hboot⟩ := hb
  have hcl : clsIn K C = some { name := cn, bases := bs, mro := .ref C :: bm, ns := N, qualname := cq, hasDict := true, slotNames := sn, subclasses := sub, abstract := ab, collection := col, hasDel := false } := by unfold clsIn; rw [hC] <;> rfl
  refine ks_codeAny_call_defAt (fd := ksFn "__init__" q (xA "at" p1 p2) (xB "at" z a b c d e1 f g h i j k l m) (xS "at") .none .none doc pm an (.ref cda) ct cc) (body := xB "at" z a b c d e1 f g h i j k l m) (binds := [("self", .ref e), ("at", .int n tn)]) hroom (X _ _ lf) rfl hlim (codeRec_of X hcd) rfl
    (BindsTo.of_eq (by first | rfl | with_unfolding_all rfl)) (show ∀ y ∈ (xS "at").names, y.2 ≠ .cell by decide) (fun y hy => ?_) (fun h0 hns hk => ?_)
  · rcases List.mem_cons.mp hy with e1 | hy
    · rw [e1]
      rfl
    · rw [List.mem_singleton.mp hy]
      rfl
  have X0 : K.In h0 := X.keeps hk
  have hx0 := hk _ _ hx
  have hCD : ∃ oD, h0.get? C = some oD ∧ oD.data = .cls { name := cn, bases := bs, mro := .ref C :: bm, ns := N, qualname := cq, hasDict := true, slotNames := sn, subclasses := sub, abstract := ab, collection := col, hasDel := false } := ⟨_, X0 _ _ hC, rfl⟩
  obtain ⟨oD, hD1, hD2⟩ := hCD
  have I0 : InstAt h0 e (excO C t0) C none := ⟨hx0, rfl, rfl, trivial⟩
  have hself : (fun y : Str => ([("self", Value.ref e), ("at", Value.int n tn)] : List (Str × Value)).reverse.lookup y) "self" = some (.ref e) := by first | rfl | decide
  have hat : (fun y : Str => ([("self", Value.ref e), ("at", Value.int n tn)] : List (Str × Value)).reverse.lookup y) "at" = some (.int n tn) := by first | rfl | decide
  show _root_.PySem.wpAt (model prog w) (A.deeper (ksEnv q (xS "at") s.heap.objs.size fI (.ref cda) cc)) (.func (xB "at" z a b c d e1 f g h i j k l m) (ksEnv q (xS "at") s.heap.objs.size fI (.ref cda) cc)) (execs (xB "at" z a b c d e1 f g h i j k l m) (ksEnv q (xS "at") s.heap.objs.size fI (.ref cda) cc)) _ _ _
  refine ks_wpAt_execs_cons ?_
  refine ks_wpAt_Expr_any ?_
  refine ks_wpAt_MethodCall ?_ (hev _)
  refine ks_wpAt_super_base (env := ksEnv q (xS "at") s.heap.objs.size fI (.ref cda) cc) rfl rfl (by decide) rfl (X0 _ _ lf) rfl rfl rfl (X0 _ _ lc) rfl hvs hfile T.top ?_
  refine ks_loadName_global rfl rfl (loadGlobal_builtin (env := ksEnv q (xS "at") s.heap.objs.size fI (.ref cda) cc) (hg.keeps hk) T.zS (hmb.keeps hk) ((hboot _ (by decide)).trans (by first | rfl | decide +kernel)) ⟨rfl, ?_⟩)
  refine wpAny_loadName_free rfl rfl rfl ⟨_, X0 _ _ lcc, rfl⟩ ?_
  refine wpAny_loadName_local rfl rfl hns hself ?_
  refine ks_wpAny_isType_cls hD1 hD2 ⟨rfl, ?_⟩
  refine ks_wpAny_call_super hD1 hD2 hx0 rfl (fun c ec => by cases ec) (looks_mroIn X0 T.own) (fun h1 es1 ks1 => ?_)
  have X1 : K.In h1 := X0.keeps ks1
  have k01 : ∀ b o, s.heap.get? b = some o → h1.get? b = some o := fun b o z => ks1 b o (hk b o z)
  have I1 : InstAt h1 e (excO C t0) C none := ⟨k01 _ _ hx, rfl, rfl, trivial⟩
  have hlong : alongIn K "__init__" ((((Value.ref C :: bm) : List Value).dropWhile (· != .ref C)).drop 1) = some (some (.builtin "ValueError.__init__")) := by
    have u := T.up
    unfold ks_superIn at u
    rw [hcl] at u
    exact u
  have hne : e ≠ C := fun z => by
    rw [z, X _ _ hC] at hx
    have := congrArg Obj.data (Option.some.inj hx)
    cases this
  refine kxs_getMethod kxs_ValueError es1 (looks_opaque X1 T.op) (l₀ := .ref C :: bm) ?_ rfl X1 hlong (I1.type.andThen (looks_subIn X1 T.veC)) hne (by decide) ?_
  · exact fun A' Q' E' s' ks' q' => wpAny_bind ((looks_clsIn X1 hcl) A' _ E' s' ks' (wpAny_pure q'))
  have hz1 : z.length ≤ sizeLine := Nat.le_trans T.short (by decide)
  have hz2 : (Str.empty ++ z).length ≤ sizeLine := by
    rw [Str.empty_append]
    exact hz1
  have hn2 : n.natAbs.log2 < 1920 := by omega
  have hz3 : (Str.empty ++ z ++ Str.ofString (toString n)).length ≤ sizeLine := by
    rw [Str.empty_append, Str.length_append]
    have q1 := int_text_len_1921 hn2
    have q2 := T.short
    have q3 : 1961 ≤ sizeLine := by decide
    omega
  refine kxs_callWith (i := "ValueError.__init__") (x := e) (by rfl) (evalArgs_plain (Calls.spliced_cons ?_))
  refine wpAny_JoinedStr (pos := g) ?_
  refine Calls.Constant_str (k := 0) (pos := d) ⟨z, _, rfl, hz2, ?_⟩
  refine wpAny_FormattedValue_plain (pos := f) ?_
  have k12 : ∀ b o, h1.get? b = some o → (h1.push (kxs_mw "ValueError.__init__" e)).get? b = some o := fun b o z => Heap.get?_push_of_some _ z
  have hmw : (h1.push (kxs_mw "ValueError.__init__" e)).get? h1.objs.size = some (kxs_mw "ValueError.__init__" e) := Heap.get?_push_size _ rfl
  have hns2 := (hns.keeps ks1).keeps k12
  have hx2 := k12 _ _ (k01 _ _ hx)
  have X2 : K.In (h1.push (kxs_mw "ValueError.__init__" e)) := X1.keeps k12
  generalize h1.push (kxs_mw "ValueError.__init__" e) = h2 at k12 hmw hns2 hx2 X2
  have k02 : ∀ b o, s.heap.get? b = some o → h2.get? b = some o := fun b o z => k12 b o (k01 b o z)
  refine wpAny_Name (pos := e1) (wpAny_loadName_local rfl rfl hns2 hat ?_) (by decide)
  refine wpAny_formatField_int hn2 ⟨Str.ofString (toString n), _, rfl, hz3, hz3, ?_⟩
  refine Calls.spliced_nil ⟨hmw, ?_⟩
  refine wrap_call (X2 _ _ hC) hx2 hmw (by show 1 ≤ sizeLine; decide) (fun h3 t1 k3 hx3 => ?_)
  have X3 : K.In h3 := kept_but X2 hnx k3
  have hLe : s.heap.objs.size ≠ e := fun z => by
    have := Heap.lt_size hx
    rw [z] at this
    exact Nat.lt_irrefl _ this
  obtain ⟨oL, esL, epL, eL, rL⟩ := hns2
  have hns3 : h3.Ns s.heap.objs.size (fun y : Str => ([("self", Value.ref e), ("at", Value.int n tn)] : List (Str × Value)).reverse.lookup y) := ⟨oL, esL, epL, k3 _ _ hLe eL, rL⟩
  refine ks_wpAt_execs_cons (wpAt_of_wpAny (plainObj_wpAny_Assign_Attribute ?_))
  refine wpAny_Name (wpAny_loadName_local rfl rfl hns3 hat ?_) (by decide)
  refine wpAny_Name (wpAny_loadName_local rfl rfl hns3 hself ?_) (by decide)
  refine set_plain X3 (ox := excO C t1) (od := none) ⟨hx3, rfl, rfl, trivial⟩ T.sa ?_
  refine exc_osa X3 hx3 hcl (show refsVE (.ref C :: bm) = true from hbm) rfl T.noN (fun h4 tk4 dx k4 dn dne hx4 hn4 => ?_)
  refine wpAt_of_wpAny (wpAny_execs_nil ?_)
  have z0 : s.heap.objs.size ≤ h3.objs.size := Nat.le_of_lt (Heap.lt_size (k3 _ _ hLe eL))
  exact hq h4 tk4 dx t1 ⟨fun b o hb z => k4 b o hb (k3 b o hb (k02 b o z)), hx4, Nat.le_trans z0 dn, dne, hn4⟩
/-- a made one -/
structure XMade (h h' : Heap) (e C d : Addr) (v : Value) : Prop where
  keep : ∀ b o, h.get? b = some o → h'.get? b = some o
  new : h.objs.size ≤ e
  obj : ∃ oe vs, h'.get? e = some oe ∧ oe.cls = .ref C ∧ oe.dict = some d ∧ oe.data = .fields vs ∧ vs[1]? = some .none
  dbig : h.objs.size ≤ d
  dne : d ≠ e
  ns : h'.Ns1 d (fun y => if y = "at" then some v else none)
theorem xi_made (T : XTxt prog K mg nm "at" z C fI) {n : Int} {tn : Tok} (X : K.In s.heap) (hg : s.heap.Ns mainGlobals mg) (hb : ∃ mb, s.heap.Ns builtinsNs mb ∧ ∀ y : Str, y ≠ "__name__" → mb y = bootBuiltins y) (hlim : s.heap.NoLimit) (hroom : A.depth + 1 < recursionLimit) (hn : n.natAbs.log2 < 1000)
    (hq : ∀ h' tk e d, XMade s.heap h' e C d (.int n tn) → R (.ok (.ret (.ref e))) { s with heap := h', toks := tk }) : codeAny (model prog w) A (.call (.ref C) ⟨[.int n tn], []⟩) R s := by
  obtain ⟨cn, cq, N, bs, bm, sn, sub, ab, col, dd, k0, k1, k2, k3, k5, hC, hbm⟩ := T.cls
  obtain ⟨hp, g, dr, tk, os⟩ := s
  obtain ⟨mb, hmb, hboot⟩ := hb
  have up : ∀ b o, hp.get? b = some o → ((hp.push (kdv_tup [.int n tn])).push (excO C hp.objs.size)).get? b = some o := fun b o q => Heap.get?_push_of_some _ (Heap.get?_push_of_some _ q)
  have here : ((hp.push (kdv_tup [.int n tn])).push (excO C hp.objs.size)).get? (hp.objs.size + 1) = some (excO C hp.objs.size) := by heap_get
  have noK : K.lookup (hp.objs.size + 1) = none := by
    cases q : K.lookup (hp.objs.size + 1) with
    | none => rfl
    | some o =>
      exact absurd (Nat.lt_of_succ_lt (Heap.lt_size (show hp.get? (hp.objs.size + 1) = some o from X _ _ q))) (Nat.lt_irrefl _)
  refine PySem.HandSPX.call_own PySem.F.excBase_ValueError (fun Y => PySem.HandSPX.refsVE_contains Y bm hbm) (X _ _ hC) (looks_findIn X T.iC) (fun self => bind_fn X self T.tC) (by show 1 ≤ sizeLine; decide) ?_
  refine xi_init (s := ⟨(hp.push (kdv_tup [.int n tn])).push (excO C hp.objs.size), g, dr, tk, os⟩) T (X.keeps up) (hg.keeps up) ⟨mb, hmb.keeps up, hboot⟩ (hlim.keeps up) here noK (show A.depth + 1 < recursionLimit from hroom) hn fun h' tk' dx t1 W => ?_
  have big : hp.objs.size + 1 + 1 ≤ dx := by
    have q := W.dbig
    first
      | (simpa only [Heap.size_push] using q)
      | exact q
  exact ⟨rfl, hq h' tk' (hp.objs.size + 1) dx ⟨fun b o q => W.keep b o (Nat.ne_of_lt (Nat.lt_succ_of_lt (Heap.lt_size q))) (up b o q), Nat.le_succ _, ⟨_, _, W.obj, rfl, rfl, rfl, rfl⟩, Nat.le_trans (Nat.le_trans (Nat.le_succ _) (Nat.le_succ _)) big, W.dne, W.ns⟩⟩
end
end Xi
end PySem

namespace Ky
open PySem PySem.Spec PyProof.Rows L2
theorem relO_at {v : V} {v' : Value} (r : RelV v v') (f : Str) : RelO (List.lookup f [(("at" : Str), v)]) (if f = "at" then some v' else none) := by
  by_cases e : f = "at"
  · rw [if_pos e, e, show List.lookup ("at" : Str) [(("at" : Str), v)] = some v from by simp [List.lookup]]
    exact r
  · have e2 : (f == ("at" : Str)) = false := by simpa using e
    rw [if_neg e, show List.lookup f [(("at" : Str), v)] = none from by simp [List.lookup, e2]]
    trivial
/-- X(e), e a number -/
def tMkX (C : Addr) (ta : TA) : L2.St → Hp → XK → Prop := fun σ H Q => ta σ H fun vs H1 => ∃ n : Int, vs = [.int n] ∧ n.natAbs.log2 < 1000 ∧ ∀ d, H1 d = none → Q (.ref C) (some d) (upd H1 d (.xd [(("at" : Str), .int n)]))
section
variable {X : Cx} {C fI : Addr} {nm z : Str}
theorem pmk_x {a : Expr} {ta : TA} {p pos : Pos} {k : Nat} (T : PySem.Xi.XTxt X.prog X.K X.mg nm "at" z C fI) (hr : Room k X.A) (ha : PA X [a] ta) (hg : Gl X nm) (hdb : (nm == ("__debug__" : Str)) = false)
    (he : starEach (a :: []) X.env = (false, eval a X.env) :: starEach [] X.env := by rfl) (hpl : (backTo pos (starEach [] X.env)).any (·.1) = false := by rfl) : PMk X (.Call (.Name nm p) [a] [] pos) (tMkX C ta) := by
  intro pins s σ H Q I h
  refine wpAny_Call_Name_kw (ld_glob I hg T.gC ?_ hdb)
  refine PySem.W.callWith_K (h₀ := X.base) I.ok.mod.kin T.kC (thn (ha.run pos pins s σ H _ I h) fun us s1 hh => ?_) he hpl
  obtain ⟨vs, H1, I1, r1, n, ev, hn, q1⟩ := hh
  subst ev
  refine ⟨I1.kIn, ?_⟩
  obtain ⟨u, rfl, ru⟩ := vals1 r1
  obtain ⟨tn, rfl⟩ := ru
  show wpAny _ _ (call (.ref C) [.int n tn]) _ _ _
  have hlim := I1.nolimit
  obtain ⟨mb, b1, b2⟩ := I1.mod.blt
  have hgl : s1.heap.Ns mainGlobals X.mg := I1.mod.glob.keeps I1.bk
  have hbl : s1.heap.Ns builtinsNs mb := b1.keeps I1.bk
  obtain ⟨hp, g, dr, tk, os⟩ := s1
  refine wpAny_call (PySem.Xi.xi_made T I1.kIn hgl ⟨mb, hbl, b2⟩ hlim (by have := hr.dp; omega) hn fun h' tk' e d M => ?_)
  show MkP X pins σ Q (.ref e) ⟨h', g, dr, tk', os⟩
  obtain ⟨oe, fv, hoe, hc, hd, hdat, h1⟩ := M.obj
  have hns := M.ns
  obtain ⟨G, g1, g2⟩ := restrict h' fun b => decide (b ≠ e)
  have gk : ∀ b, b ≠ e → G.get? b = h'.get? b := fun b hb => g1 b (decide_eq_true hb)
  have ge : G.get? e = none := g2 e (by simp)
  have old : ∀ b o, hp.get? b = some o → G.get? b = some o := fun b o q => (gk b (Nat.ne_of_lt (Nat.lt_of_lt_of_le (Heap.lt_size q) M.new))).trans (M.keep b o q)
  have ob : ObjOk X.prog X.w (upd H1 d (.xd [(("at" : Str), .int n)])) G d (.xd [(("at" : Str), .int n)]) := ⟨_, hns.at (fun o q => (gk d M.dne).trans q), fun f => relO_at (v := .int n) (show RelV (.int n) (.int n tn) from ⟨tn, rfl⟩) f⟩
  have J : Inv X pins σ (upd H1 d (.xd [(("at" : Str), .int n)])) ⟨G, g, dr, tk', os⟩ := I1.laid (t' := tk') old M.dbig ob
  refine ⟨e, oe, fv, ⟨G, g, dr, tk', os⟩, _, .ref C, some d, rfl, J, fun b o q => ?_, ge, hoe, ⟨hc, hd⟩, hdat, h1, ?_, rfl, I1.bare, raises_own T.exC T.tyC, q1 d (I1.hok.fresh M.dbig)⟩
  · by_cases hb : b = e
    · have q' : G.get? b = some o := q
      rw [hb, ge] at q'
      cases q'
    · exact (gk b hb).symm.trans q
  · rw [upd_ne (Ne.symm M.dne)]
    exact I1.hok.fresh M.new
end
end Ky

namespace Ky
open PySem PySem.Spec PyProof.Rows L2
/-! ### classes: methods, instances -/
structure Mf (P : Program) (w : World) (K : PySem.W.Frag) (mg : Str → Option Value) (base : Heap) (CX : CXT) (k : Nat) (C : Addr) (m : Str) (ps : List Str) (sp : Sp) : Prop where
  ex : ∃ f fd, FnOk P w K mg base CX k f fd ps sp ∧ Meth K C m f ∧ Binds K fd ps []
structure MkF (P : Program) (w : World) (K : PySem.W.Frag) (mg : Str → Option Value) (base : Heap) (CX : CXT) (k : Nat) (x : Str) (C : Addr) (ps : List Str) (sp : Sp) : Prop where
  g : mg x = some (.ref C)
  ex : ∃ f fd, FnOk P w K mg base CX k f fd ps sp ∧ Mk K C f ∧ Binds K fd ps []
section
variable {X : Cx} {CX : CXT} {k : Nat} {C : Addr} {ps : List Str} {sp : Sp} {E : XK} {x m : Str} {p pos apos : Pos} {e o : Expr} {es : List Expr} {ta : TE} {t : TA}
theorem pe_mf {pl : Sem Bool} (c : Cls X.K C) (D : Mf X.prog X.w X.K X.mg X.base CX k C m ps sp) (he : PE X o ta) (hr : Room k X.A) (hx : Passes CX X E) (ha : PA X (e :: es) t)
    (hst : starEach (e :: es) X.env = (false, eval e X.env) :: starEach es X.env := by rfl) (hpl : (backTo pos (starEach es X.env)).any (·.1) = false := by rfl)
    (ht : eval (.Call (.Attribute o m apos) (e :: es) [] pos) X.env = (do
      let ov ← eval o X.env
      standAt apos.atName
      let (f, first) ← holding [ov] (getMethod ov m pl)
      callWith pos f first (backTo pos (starEach (e :: es) X.env)) (backToKw pos (keywordEach [] X.env))) := by rfl) :
    PE X (.Call (.Attribute o m apos) (e :: es) [] pos) (tMeth C m sp [] E ta t) := by
  obtain ⟨f, fd, F, M, B⟩ := D.ex
  exact pe_meth he c M F hr B .nil hx ha hst hpl ht
theorem pe_mf0 {pl : Sem Bool} (c : Cls X.K C) (D : Mf X.prog X.w X.K X.mg X.base CX k C m ps sp) (he : PE X o ta) (hr : Room k X.A) (hx : Passes CX X E)
    (ht : eval (.Call (.Attribute o m apos) [] [] pos) X.env = (do
      let ov ← eval o X.env
      standAt apos.atName
      let (f, first) ← holding [ov] (getMethod ov m pl)
      callWith pos f first (backTo pos (starEach [] X.env)) (backToKw pos (keywordEach [] X.env))) := by rfl) :
    PE X (.Call (.Attribute o m apos) [] [] pos) (tMeth C m sp [] E ta tNil) := by
  obtain ⟨f, fd, F, M, B⟩ := D.ex
  exact pe_meth0 he c M F hr B .nil hx ht
theorem pe_mk (D : MkF X.prog X.w X.K X.mg X.base CX k x C ps sp) (hr : Room (k + 1) X.A) (hg : Gl X x) (hx : Passes CX X E) (ha : PA X (e :: es) t) (hdb : (x == ("__debug__" : Str)) = false := by decide)
    (he : starEach (e :: es) X.env = (false, eval e X.env) :: starEach es X.env := by rfl) (hpl : (backTo pos (starEach es X.env)).any (·.1) = false := by rfl) :
    PE X (.Call (.Name x p) (e :: es) [] pos) (tMake C sp [] E t) := by
  obtain ⟨f, fd, F, M, B⟩ := D.ex
  exact pe_make M F hr hg D.g B .nil hx ha hdb he hpl
/-- a def that raises, called by a def that raises -/
theorem pe_dfP (D : DfX X.prog X.w X.K X.mg X.base k x ps sp) (hr : Room k X.A) (hx : Passes (L2.CX X.prog X.w) X E) (hg : Gl X x) (ha : PA X (e :: es) t) (hdb : (x == ("__debug__" : Str)) = false := by decide)
    (he : starEach (e :: es) X.env = (false, eval e X.env) :: starEach es X.env := by rfl) (hpl : (backTo pos (starEach es X.env)).any (·.1) = false := by rfl) :
    PE X (.Call (.Name x p) (e :: es) [] pos) (tCall sp [] E t) := by
  obtain ⟨f, fd, F, hm, hk, hb⟩ := D.ex
  exact pe_call F hr hg hm hk hb .nil hx ha hdb he hpl
theorem pass_e (tk : Takes X (fun cls d _ H => E cls d H)) : Passes (L2.CX X.prog X.w) X E := passes_call tk fun _ _ _ _ h => h
end
/-! ### the steps -/
section
variable {K : PySem.W.Frag} {σ : L2.St} {H : Hp} {Q : VK} {D : Ends} {i : Nat} {a C dx : Addr} {fs : List (Str × V)} {v : V} {te : TE} {sp : Sp} {E : XK} {m f : Str} {tq : TA}
theorem w_fld (c : Cls K C) (n : NoAttr K C f) (hs : σ[i]? = some (some (.ref a))) (h : H a = some (.ins C dx fs)) (l : fs.lookup f = some v) (q : Q v H) : tFld K (tVar i) f σ H Q :=
  ⟨_, hs, a, C, dx, fs, v, rfl, h, c, n, l, q⟩
theorem w_sfld (c : Cls K C) (n : NoAttr K C f) (hs : σ[i]? = some (some (.ref a))) (q : te σ H fun y H2 => ∃ dx fs, H2 a = some (.ins C dx fs) ∧ fs.length < 1000 ∧ D.nx σ (upd H2 a (.ins C dx (putF f y fs))))
    (mono : ∀ Q Q' : VK, (∀ v H1, Q v H1 → Q' v H1) → te σ H Q → te σ H Q') : sFld K (tVar i) te f D σ H :=
  mono _ _ (fun y H2 ⟨dx, fs, h, l, q⟩ => ⟨_, hs, a, C, dx, fs, rfl, h, c, n, l, q⟩) q
theorem w_meth (hs : σ[i]? = some (some (.ref a))) (h : H a = some (.ins C dx fs)) (l : fs.lookup m = none) (q : tq σ H fun vs H2 => sp (.ref a :: (vs ++ [])) H2 Q E) : tMeth C m sp [] E (tVar i) tq σ H Q :=
  ⟨_, hs, a, dx, fs, rfl, h, l, q⟩
end
/-! ### texts -/
def repS (x : Str) (n : Int) : Str := if n < 1 then Str.empty else ⟨(List.replicate n.toNat x.cps).foldl (· ++ ·) #[]⟩
def rRepS : R2 := fun x y H Q => ∃ z n, x = .str z ∧ y = .int n ∧ z.length = 1 ∧ 0 ≤ n ∧ n < 1000 ∧ Q (.str (repS z n)) H
theorem op_repS {X : Cx} : OpR X (binaryOp .Mult) rRepS := by
  intro pins s σ H x y v u Q I rx ry h
  obtain ⟨z, n, rfl, rfl, hz, h0, h1, q⟩ := h
  obtain ⟨t, rfl⟩ := rx
  obtain ⟨t', rfl⟩ := ry
  have hr : (decide (n < -(2 ^ 63 : Int)) || decide (n ≥ 2 ^ 63)) = false := by
    rw [decide_eq_false (by omega), decide_eq_false (by omega)] <;> rfl
  refine PySem.P.mul_str hr (fun a b => ?_) (fun a b => ?_) ?_
  · rw [hz]
    have : (1 : Int) ≤ (2 ^ 63 - 1) / n := (Int.le_ediv_iff_mul_le (by omega)).mpr (by omega)
    omega
  · rw [hz, Nat.one_mul]
    exact PyProof.Rows.short24 (by omega)
  · have e1 : (z.length == 0) = false := by rw [hz] <;> rfl
    by_cases c0 : n < 1
    · rw [if_pos c0]
      refine ⟨by decide, .str _, H, I.tok _, ⟨_, rfl⟩, ?_⟩
      have q : Q (.str (repS z n)) H := q
      rwa [repS, if_pos c0] at q
    · have q : Q (.str (repS z n)) H := q
      rw [repS, if_neg c0] at q
      rw [if_neg c0]
      by_cases c1 : n = 1
      · rw [if_pos (by rw [c1] <;> rfl)]
        refine ⟨.str z, H, I, ⟨t, rfl⟩, ?_⟩
        rw [c1] at q
        have e : (⟨(List.replicate (1 : Int).toNat z.cps).foldl (· ++ ·) #[]⟩ : Str) = z := by
          show (⟨#[] ++ z.cps⟩ : Str) = z
          rw [Array.empty_append]
        rwa [e] at q
      · rw [if_neg (by rw [beq_eq_false_iff_ne.mpr c1, e1] <;> decide)]
        exact ⟨PySem.fits_reps (PyProof.Rows.short24 (by rw [hz, Nat.one_mul]; omega)), .str _, H, I.tok _, ⟨_, rfl⟩, q⟩
end Ky

namespace Ky
open PySem PySem.Spec PyProof.Rows L2
/-! ### a, *b = l, l a list or a tuple of at least one -/
def gStarL (K : PySem.W.Frag) (t : TGs) : TG := fun v σ H Q => ∃ a x xs, v = .ref a ∧ SqL K H a (x :: xs) ∧ ∀ l, H l = none → t [x, .ref l] σ (upd H l (.lst xs)) Q
section
variable {X : Cx} {a b : Expr} {k : Nat} {p pos : Pos} {t : TGs}
/-- the walk of a tuple's iterator that stands behind its first item -/
theorem walks_restL {P : Program} {w : World} {A : Around} (hh : A.handled = none) {I ax : Addr} (hne : ax ≠ I) {x : Value} {items : Array Value} {its : List Value} (hi : items.toList = x :: its) :
    Walks P w A I [I, ax] [I] its.length (fun i v => its[i]? = some v) (fun i h => h.IsListIter I ax (i + 1) ∧ h.IsList ax items) := by
  have W := Walks.list (prog := P) (w := w) hh I ax hne items
  have hz : items.size = its.length + 1 := by
    have z := congrArg List.length hi
    rw [Array.length_toList] at z
    exact z
  have hg : ∀ i : Nat, items[i + 1]? = its[i]? := fun i => by rw [← Array.getElem?_toList, hi, List.getElem?_cons_succ]
  exact ⟨W.sub, fun i h h' st q => W.frame (i + 1) h h' st q, fun i s Q E h st q => W.item (i + 1) s Q E (by omega) st fun v h' tk hv st' kk => q v h' tk (by rw [← hg]; exact hv) st' kk,
    fun s Q E st q => W.done s Q E (by rw [hz]; exact st) q, fun i s Q E st q => W.self (i + 1) s Q E st q⟩
theorem pg_starL {K : PySem.W.Frag} (hK : X.K = K) (hc : X.calm = true) (h : PGs X [a, b] t) (hn : assignEach [a, .Starred b p] X.env = [(false, assign a X.env), (true, assign b X.env)] := by rfl) (hm : (assignEach [a, b] X.env).map (·.2) = [assign a X.env, assign b X.env] := by rfl) :
    PG X (.Tuple [a, .Starred b p] k pos) (gStarL K t) := by
  subst hK
  refine ⟨fun pins s σ H v u Q I r hw => ?_⟩
  obtain ⟨ax, x, xs, rfl, hq, q⟩ := hw
  cases r
  obtain ⟨its, rv, hp, hz⟩ := I.list hq
  have hd := I.ok.hd hc
  obtain ⟨y, ys, rfl⟩ : ∃ y ys, its = y :: ys := by
    cases rv with
    | cons r rr => exact ⟨_, _, rfl⟩
  have ry : RelV x y ∧ Vals xs ys := by
    cases rv with
    | cons r rr => exact ⟨r, rr⟩
  have hlt : ax < s.heap.objs.size := hp.lt
  have ht : s.heap.IsList ax (y :: ys).toArray := hp.isList
  have hyl : ys.length ≤ sizeLine := by
    have : (y :: ys).length ≤ sizeLine := by rw [← rv.length]; exact hz
    rw [List.length_cons] at this
    omega
  rw [assign_Tuple, hn]
  refine wpAny_bind (wpAny_standAt (wpAny_bind (m := holding [Value.ref ax] (unpackItems (Value.ref ax) 2 (some 1))) (wpAny_holding ?_)))
  unfold unpackItems notIterableAtAll
  refine wpAny_bind (wpAny_bind (wpAny_specialOf ht.typeIs slot_list_iter.lookup (wpAny_pure ?_)))
  simp only [Bool.false_eq_true, if_false]
  refine wpAny_bind (wpAny_holding (wpAny_pyIter_list ht ?_))
  refine wpAny_bind (wpAny_holding (PySem.W.kun_draw (Nat.ne_of_lt hlt) 1 0 _ _ ⟨_, Heap.get?_push_size _ rfl, rfl, rfl⟩ (ht.push _) (by simp) fun h1 i1 sb => ?_))
  have ed : List.take 1 (List.drop 0 (y :: ys).toArray.toList) = [y] := rfl
  rw [ed, if_neg (by simp)]
  have k1 : ∀ b o, s.heap.get? b = some o → h1.get? b = some o := fun b o e => sb.extBut b o (Nat.ne_of_lt (Heap.lt_size e)) (Heap.get?_push_of_some _ e)
  have hs1 : h1.objs.size = s.heap.objs.size + 1 := by rw [sb.1, sz1]
  have t1 : h1.IsList ax (y :: ys).toArray := by
    obtain ⟨o, ho, r⟩ := ht
    exact ⟨o, k1 _ _ ho, r⟩
  refine wpAny_bind (wpAny_holding (wpAny_collect_iter (T := "list_iterator") (.inr (.inr (.inl rfl))) (walks_restL (A := X.A.in1) hd (Nat.ne_of_lt hlt) (items := (y :: ys).toArray) (x := y) rfl).toS (fun i s2 st => st.1.typeIs) ⟨i1, t1⟩ (fun b hb => ?_) List.mem_cons_self (fun s2 acc mv ha => ?_) hyl))
  · rw [hs1]
    rcases List.mem_cons.mp hb with e | e
    · rw [e]; exact Nat.lt_succ_self _
    · rw [List.mem_singleton.mp e]; exact Nat.lt_succ_of_lt hlt
  have ea : acc.toList = ys := items_out ha fun j v e => e
  have k2 : ∀ b o, s.heap.get? b = some o → s2.heap.get? b = some o := fun b o e => mv.heap b o (fun z => by
    rw [List.mem_singleton.mp z] at e
    exact absurd (Heap.lt_size e) (Nat.lt_irrefl _)) (k1 b o e)
  rw [ea, if_neg (by omega)]
  refine wpAny_bind (wpAny_newList ?_ (by rw [List.length_take]; omega))
  have et : List.take (ys.length - (2 - 1 - 1)) ys = ys := List.take_of_length_le (by omega)
  have edr : List.drop (ys.length - (2 - 1 - 1)) ys = [] := List.drop_of_length_le (by omega)
  rw [et, edr]
  refine wpAny_pure ?_
  obtain ⟨h2, g2, d2, tk2, o2⟩ := s2
  cases (mv.gens : g2 = s.gens)
  cases (mv.drawn : d2 = s.drawn)
  cases (mv.os : o2 = s.os)
  have hl : H h2.objs.size = none := (I.hok.kept k2).fresh (Nat.le_refl _)
  have hg : s.heap.get? h2.objs.size = none := by
    cases e : s.heap.get? h2.objs.size with
    | none => rfl
    | some o => exact absurd (Heap.lt_size (k2 _ _ e)) (Nat.lt_irrefl _)
  have hxl : xs.length ≤ sizeLine := by rw [ry.2.length]; exact hyl
  have J : Inv X pins σ (upd H h2.objs.size (.lst xs)) { s with heap := h2.push (seqObj "list" ys.toArray 0), toks := tk2 } :=
    I.laidN (t' := tk2) (fun b o e => Heap.get?_push_of_some _ (k2 b o e)) hg hl ⟨hxl, ys, 0, ry.2, Heap.get?_push_size _ rfl⟩
  have z := h.run pins _ σ _ _ [y, .ref h2.objs.size] Q J (.cons ry.1 (.cons (show RelV (.ref h2.objs.size) (.ref h2.objs.size) from rfl) .nil)) (q _ hl)
  rw [hm] at z
  exact z
/-- either -/
def gStarE (K : PySem.W.Frag) (t : TGs) : TG := fun v σ H Q => gStar K t v σ H Q ∨ gStarL K t v σ H Q
theorem pg_starE {K : PySem.W.Frag} (hK : X.K = K) (hc : X.calm = true) (h : PGs X [a, b] t) (hn : assignEach [a, .Starred b p] X.env = [(false, assign a X.env), (true, assign b X.env)] := by rfl) (hm : (assignEach [a, b] X.env).map (·.2) = [assign a X.env, assign b X.env] := by rfl) :
    PG X (.Tuple [a, .Starred b p] k pos) (gStarE K t) := by
  refine ⟨fun pins s σ H v u Q I r hw => ?_⟩
  rcases hw with hw | hw
  · exact (pg_star hK hc h hn hm).run pins s σ H v u Q I r hw
  · exact (pg_starL hK hc h hn hm).run pins s σ H v u Q I r hw
end
end Ky

namespace Ky
open PySem PySem.Spec PyProof.Rows L2
/-! ### the heap is kept but at told places -/
structure KB (S : List Addr) (H H' : Hp) : Prop where
  keep : ∀ b o, b ∉ S → NoTab o → H b = some o → H' b = some o
  tup : ∀ b xs, H b = some (.tup xs) → H' b = some (.tup xs)
  tab : ∀ P, GxR.TabG H P → GxR.TabG H' P
  free : ∀ b, H' b = none → H b = none
theorem KB.refl (S : List Addr) (H : Hp) : KB S H H := ⟨fun _ _ _ _ h => h, fun _ _ h => h, fun _ h => h, fun _ h => h⟩
theorem KB.trans {S : List Addr} {H H1 H2 : Hp} (a : KB S H H1) (b : KB S H1 H2) : KB S H H2 := ⟨fun c o m n h => b.keep c o m n (a.keep c o m n h), fun c xs h => b.tup c xs (a.tup c xs h), fun P h => b.tab P (a.tab P h), fun c h => a.free c (b.free c h)⟩
theorem KB.mono {S T : List Addr} {H H1 : Hp} (a : KB S H H1) (h : ∀ b ∈ S, b ∈ T) : KB T H H1 := ⟨fun c o m n e => a.keep c o (fun z => m (h c z)) n e, a.tup, a.tab, a.free⟩
theorem Kept.kb {S : List Addr} {H H1 : Hp} (a : Kept H H1) : KB S H H1 := ⟨fun c o _ n e => a.keep c o n e, fun c xs e => a.tup e, a.tab, a.free⟩
theorem KB.kept {H H1 : Hp} (a : KB [] H H1) : Kept H H1 := ⟨fun c o n e => a.keep c o (List.not_mem_nil) n e, a.tab, a.free⟩
/-- a place that holds no tuple and no table is written anew -/
theorem KB.put {S : List Addr} {H : Hp} {a : Addr} {o o' : HO} (ha : a ∈ S) (h : H a = some o) (n : NoTab o) (nt : ∀ xs, o ≠ .tup xs) : KB S H (upd H a o') := ⟨fun b u m _ e => by
  rw [upd_ne (fun z => m (by rw [z]; exact ha))]
  exact e, fun b xs e => by
  rw [upd_ne (fun z => by
    rw [z, h] at e
    exact nt xs (Option.some.inj e))]
  exact e, fun P hP => by
  obtain ⟨ps, h1, h2⟩ := hP
  exact ⟨ps, by
    rw [upd_ne (fun z => by
      rw [z, h] at h1
      exact n ps (Option.some.inj h1))]
    exact h1, h2⟩, fun b hb => (upd_free hb).1⟩
theorem KB.mut {S : List Addr} {H H' : Hp} {p : Addr} {o : HO} (e : KB S H H') (h : H p = none) : KB S H (upd H' p o) := ⟨fun b u m n hb => by
  rw [upd_ne (ne_of_none hb h)]
  exact e.keep b u m n hb, fun b xs hb => by
  rw [upd_ne (ne_of_none hb h)]
  exact e.tup b xs hb, fun P hP => by
  obtain ⟨ps, h1, h2⟩ := hP
  obtain ⟨qs, g1, g2⟩ := e.tab P ⟨ps, h1, h2⟩
  exact ⟨qs, by rw [upd_ne (ne_of_none h1 h)]; exact g1, g2⟩, fun b hb => e.free b (upd_free hb).1⟩
/-- what was not there at the start may change -/
theorem KB.fresh {S : List Addr} {H H1 H2 : Hp} (a : Kept H H1) (b : KB S H1 H2) (f : ∀ c ∈ S, H c = none) : Kept H H2 := ⟨fun c o n e => b.keep c o (fun z => by rw [f c z] at e; cases e) n (a.keep c o n e), fun P h => b.tab P (a.tab P h), fun c h => a.free c (b.free c h)⟩
theorem KB.lst {S : List Addr} {H H1 : Hp} {b : Addr} {xs : List V} (a : KB S H H1) (m : b ∉ S) (h : H b = some (.lst xs)) : H1 b = some (.lst xs) := a.keep b _ m noTab_lst h
theorem noTab_ins {C dx : Addr} {fs : List (Str × V)} : NoTab (.ins C dx fs) := fun ps e => by cases e
theorem KB.ins {S : List Addr} {H H1 : Hp} {b C dx : Addr} {fs : List (Str × V)} (a : KB S H H1) (m : b ∉ S) (h : H b = some (.ins C dx fs)) : H1 b = some (.ins C dx fs) := a.keep b _ m noTab_ins h
theorem TrAt.kb {S : List Addr} {H H' : Hp} {a : Tr} {v : V} (h : TrAt H a v) (k : KB S H H') : TrAt H' a v := TrAt.upH (fun p xs h => k.tup p xs h) a v h
theorem TrsAt.kb {S : List Addr} {H H' : Hp} {l : List Tr} {xs : List V} (h : TrsAt H l xs) (k : KB S H H') : TrsAt H' l xs := TrsAt.upH (fun p xs h => k.tup p xs h) l xs h
/-! ### texts of codes -/
@[irreducible] def mkS (l : List Nat) : Str := ⟨l.toArray⟩
theorem tl_mkS (l : List Nat) : TL.tl (mkS l) = l := by
  unfold mkS
  show l.toArray.toList = l
  simp
theorem mkS_tl (z : Str) : mkS (TL.tl z) = z := TL.ext_tl (tl_mkS _)
theorem mkS_len (l : List Nat) : (mkS l).length = l.length := by rw [TL.len_tl, tl_mkS]
/-! ### instances with the fields text, at, token -/
abbrev fsO (x p t : V) : List (Str × V) := [(("text" : Str), x), (("at" : Str), p), (("token" : Str), t)]
abbrev tO (C dx : Addr) (z : Str) (p : Int) (t : Str) : HO := .ins C dx (fsO (.str z) (.int p) (.str t))
structure Tc (K : PySem.W.Frag) (C : Addr) : Prop where
  cl : Cls K C
  nT : NoAttr K C "text"
  nA : NoAttr K C "at"
  nK : NoAttr K C "token"
theorem lk_text {x p t : V} : (fsO x p t).lookup ("text" : Str) = some x := by simp [List.lookup]
theorem ne1 : (("at" : Str) == ("text" : Str)) = false := by decide
theorem ne2 : (("token" : Str) == ("text" : Str)) = false := by decide
theorem ne3 : (("token" : Str) == ("at" : Str)) = false := by decide
theorem lk_at {x p t : V} : (fsO x p t).lookup ("at" : Str) = some p := by simp [List.lookup, ne1]
theorem lk_token {x p t : V} : (fsO x p t).lookup ("token" : Str) = some t := by simp [List.lookup, ne2, ne3]
theorem put_text0 {x : V} : putF "text" x [] = [(("text" : Str), x)] := rfl
theorem put_at0 {x p : V} : putF "at" p [(("text" : Str), x)] = [(("text" : Str), x), (("at" : Str), p)] := by
  unfold putF
  rw [if_neg (by decide)] <;> rfl
theorem put_token0 {x p t : V} : putF "token" t [(("text" : Str), x), (("at" : Str), p)] = fsO x p t := by
  unfold putF
  rw [if_neg (by decide)]
  unfold putF
  rw [if_neg (by decide)] <;> rfl
theorem put_at {x p t q : V} : putF "at" q (fsO x p t) = fsO x q t := by
  unfold putF
  rw [if_neg (by decide)]
  unfold putF
  rw [if_pos rfl]
theorem put_token {x p t q : V} : putF "token" q (fsO x p t) = fsO x p q := by
  unfold putF
  rw [if_neg (by decide)]
  unfold putF
  rw [if_neg (by decide)]
  unfold putF
  rw [if_pos rfl]
def sPut (K : PySem.W.Frag) (f : Str) (y : V) (D : Ends) (σ : L2.St) (x : V) (H2 : Hp) : Prop := ∃ a C dx fs, x = .ref a ∧ H2 a = some (.ins C dx fs) ∧ Cls K C ∧ NoAttr K C f ∧ fs.length < 1000 ∧ D.nx σ (upd H2 a (.ins C dx (putF f y fs)))
section
variable {K : PySem.W.Frag} {σ : L2.St} {H : Hp} {Q : VK} {D : Ends} {i : Nat} {a C dx : Addr} {fs : List (Str × V)} {v x p t y : V} {te ta : TE} {f : Str}
theorem w_sfld0 (q : te σ H fun y H1 => ta σ H1 fun x H2 => sPut K f y D σ x H2) : sFld K ta te f D σ H := q
theorem w_text (T : Tc K C) (hs : σ[i]? = some (some (.ref a))) (h : H a = some (.ins C dx (fsO x p t))) (q : Q x H) : tFld K (tVar i) "text" σ H Q := w_fld T.cl T.nT hs h lk_text q
theorem w_at (T : Tc K C) (hs : σ[i]? = some (some (.ref a))) (h : H a = some (.ins C dx (fsO x p t))) (q : Q p H) : tFld K (tVar i) "at" σ H Q := w_fld T.cl T.nA hs h lk_at q
theorem w_token (T : Tc K C) (hs : σ[i]? = some (some (.ref a))) (h : H a = some (.ins C dx (fsO x p t))) (q : Q t H) : tFld K (tVar i) "token" σ H Q := w_fld T.cl T.nK hs h lk_token q
theorem w_putAt (T : Tc K C) (h : H a = some (.ins C dx (fsO x p t))) (q : D.nx σ (upd H a (.ins C dx (fsO x y t)))) : sPut K "at" y D σ (.ref a) H := ⟨a, C, dx, _, rfl, h, T.cl, T.nA, by show 3 < 1000; decide, by rw [put_at]; exact q⟩
theorem w_putToken (T : Tc K C) (h : H a = some (.ins C dx (fsO x p t))) (q : D.nx σ (upd H a (.ins C dx (fsO x p y)))) : sPut K "token" y D σ (.ref a) H := ⟨a, C, dx, _, rfl, h, T.cl, T.nK, by show 3 < 1000; decide, by rw [put_token]; exact q⟩
theorem w_putText0 (T : Tc K C) (h : H a = some (.ins C dx [])) (q : D.nx σ (upd H a (.ins C dx [(("text" : Str), y)]))) : sPut K "text" y D σ (.ref a) H := ⟨a, C, dx, _, rfl, h, T.cl, T.nT, by show 0 < 1000; decide, q⟩
theorem w_putAt0 (T : Tc K C) (h : H a = some (.ins C dx [(("text" : Str), x)])) (q : D.nx σ (upd H a (.ins C dx [(("text" : Str), x), (("at" : Str), y)]))) : sPut K "at" y D σ (.ref a) H := ⟨a, C, dx, _, rfl, h, T.cl, T.nA, by show 1 < 1000; decide, by rw [put_at0]; exact q⟩
theorem w_putToken0 (T : Tc K C) (h : H a = some (.ins C dx [(("text" : Str), x), (("at" : Str), p)])) (q : D.nx σ (upd H a (.ins C dx (fsO x p y)))) : sPut K "token" y D σ (.ref a) H := ⟨a, C, dx, _, rfl, h, T.cl, T.nK, by show 2 < 1000; decide, by rw [put_token0]; exact q⟩
end
theorem w_nonR {A : Prop} (q : A) : (V.non = V.non) ∧ A := ⟨rfl, q⟩
theorem w_mkx {C : Addr} {ta : TA} {σ : L2.St} {H : Hp} {Q : XK} (q : ta σ H fun vs H1 => ∃ n : Int, vs = [.int n] ∧ n.natAbs.log2 < 1000 ∧ ∀ d, H1 d = none → Q (.ref C) (some d) (upd H1 d (.xd [(("at" : Str), .int n)]))) : tMkX C ta σ H Q := q
end Ky

namespace Ky
open PySem PySem.Spec PyProof.Rows L2
local macro_rules | `(tactic| walk_at "rd") => `(tactic| repeat (first
  | with_reducible refine w_seq ?_
  | with_reducible refine w_asg ?_
  | with_reducible refine w_ret ?_
  | with_reducible refine w_drop ?_
  | with_reducible refine w_ifs ?_
  | ((with_reducible refine' w_var ?hh ?_); (case hh => exact rfl))
  | with_reducible refine w_c ?_
  | with_reducible refine w_op ?_
  | with_reducible refine w_un ?_
  | with_reducible refine w_I0 ?_
  | with_reducible refine w_U ?_
  | with_reducible refine w_nil ?_
  | with_reducible refine w_cons ?_
  | with_reducible refine w_call ?_
  | with_reducible refine w_cb ?_
  | with_reducible refine w_test ?_
  | with_reducible refine w_B ?_
  | with_reducible refine w_bl ?_
  | with_reducible refine w_and ?_
  | with_reducible refine w_or ?_
  | with_reducible refine w_not ?_
  | with_reducible refine w_ife ?_
  | with_reducible refine w_gRd ?_
  | with_reducible refine w_andV ?_
  | with_reducible refine w_orV ?_
  | with_reducible refine w_notV ?_
  | with_reducible refine w_chain ?_
  | with_reducible refine w_din ?_
  | with_reducible refine w_isi_ii ?_
  | with_reducible refine w_isi_ib ?_
  | with_reducible refine w_isi_it ?_
  | with_reducible refine w_isi_st ?_
  | ((with_reducible refine w_isi_tt ?h1 ?_); (case h1 => first | assumption | exact upd_same))
  | with_reducible refine if_t rfl ?_
  | with_reducible refine if_f rfl ?_
  | with_reducible refine w_tup ?_
  | with_reducible refine w_lst ?_
  | with_reducible refine w_next ?_
  | with_reducible refine w_bm ?_
  | with_reducible refine w_sl ?_
  | with_reducible refine w_part ?_
  | with_reducible refine w_nop ?_
  | with_reducible refine w_isI ?_
  | with_reducible refine w_yes ?_
  | with_reducible refine w_gn ?_
  | with_reducible refine w_gsub ?_
  | ((with_reducible refine' w_setL ?h1 ?h2 ?_); (case h1 => first | assumption | exact upd_same); (case h2 => exact rfl))
  | with_reducible refine w_asgG ?_
  | with_reducible refine w_m1 ?_
  | with_reducible refine w_isS ?_
  | with_reducible refine w_tyS ?_
  | ((with_reducible refine' w_tyL ?h1 ?_); (case h1 => first | assumption | exact upd_same))
  | ((with_reducible refine' w_ixT ?h1 ?h2 ?_); (case h1 => first | assumption | exact upd_same); (case h2 => exact rfl))
  | ((with_reducible refine' w_ixL ?h1 ?h2 ?_); (case h1 => first | assumption | exact upd_same); (case h2 => exact rfl))
  | ((with_reducible refine w_eq ?h1 ?_); (case h1 => exact rfl))
  | ((with_reducible refine w_ne ?h1 ?_); (case h1 => exact rfl))
  | dsimp only [List.set_cons_zero, List.set_cons_succ, List.append_nil, List.cons_append, List.nil_append, cxOf]))

open TL
/-! ### plain values as bytes -/
def sizeB (n : Nat) : List Nat := if h : n < 128 then [n] else (n % 128 + 128) :: sizeB (n / 128)
termination_by n
decreasing_by omega
theorem sizeB_small {n : Nat} (h : n < 128) : sizeB n = [n] := by rw [sizeB, dif_pos h]
theorem sizeB_big {n : Nat} (h : ¬ n < 128) : sizeB n = (n % 128 + 128) :: sizeB (n / 128) := by rw [sizeB, dif_neg h]
def isLet (c : Nat) : Bool := decide (97 ≤ c) && decide (c ≤ 122)
theorem isLet_iff {c : Nat} : isLet c = true ↔ 97 ≤ c ∧ c ≤ 122 := by unfold isLet; simp
mutual
def pk : Tr → List Nat
  | .n => [0]
  | .b x => [if x = true then 2 else 1]
  | .i k => if 0 ≤ k then 3 :: sizeB k.toNat else 4 :: sizeB (-1 - k).toNat
  | .s z => 5 :: (sizeB (tl z).length ++ tl z)
  | .t l => 6 :: (sizeB l.length ++ pks l)
def pks : List Tr → List Nat
  | [] => []
  | a :: l => pk a ++ pks l
end
mutual
def OkT : Nat → Tr → Prop
  | _, .n => True
  | _, .b _ => True
  | _, .i _ => True
  | _, .s z => ∀ c ∈ tl z, isLet c = true
  | d, .t l => match d with
    | 0 => False
    | d + 1 => OkTs d l
def OkTs : Nat → List Tr → Prop
  | _, [] => True
  | d, a :: l => OkT d a ∧ OkTs d l
end
theorem OkTs.mem {d : Nat} : ∀ {l : List Tr}, (∀ a ∈ l, OkT d a) → OkTs d l
  | [], _ => by unfold OkTs; trivial
  | a :: l, h => by unfold OkTs; exact ⟨h a List.mem_cons_self, OkTs.mem fun b hb => h b (List.mem_cons_of_mem _ hb)⟩
theorem OkTs.get {d : Nat} : ∀ {l : List Tr}, OkTs d l → ∀ a ∈ l, OkT d a
  | [], _, a, h => by cases h
  | b :: l, h, a, ha => by
    unfold OkTs at h
    rcases List.mem_cons.mp ha with rfl | ha
    · exact h.1
    · exact OkTs.get h.2 a ha
theorem pks_app : ∀ (l m : List Tr), pks (l ++ m) = pks l ++ pks m
  | [], m => by rw [List.nil_append, pks, List.nil_append]
  | a :: l, m => by rw [List.cons_append, pks, pks, pks_app l m, List.append_assoc]
theorem pks_one (a : Tr) : pks [a] = pk a := by rw [pks, pks, List.append_nil]
/-! ### bytes as a plain value: an error tells how many bytes are left -/
def stepU (lo hi : Nat) : List Nat → Except Nat (Nat × List Nat)
  | [] => .error 0
  | b :: r => if lo ≤ b ∧ b ≤ hi then .ok (b, r) else .error (r.length + 1)
def sizeU : Nat → List Nat → Except Nat (Nat × List Nat)
  | _, [] => .error 0
  | f, b :: r => if f ≤ b ∧ b ≤ 255 then (if b < 128 then .ok (b, r) else match sizeU 1 r with
      | .error m => .error m
      | .ok (n, r2) => .ok (n * 128 + (b - 128), r2)) else .error (r.length + 1)
def letU : Nat → List Nat → Except Nat (List Nat × List Nat)
  | 0, l => .ok ([], l)
  | n + 1, l => match stepU 97 122 l with
    | .error m => .error m
    | .ok (c, r) => match letU n r with
      | .error m => .error m
      | .ok (cs, r2) => .ok (c :: cs, r2)
def leafU (k : Nat) (l : List Nat) : Except Nat (Tr × List Nat) :=
  if k = 3 then (match sizeU 0 l with
    | .error m => .error m
    | .ok (n, r) => .ok (.i n, r))
  else if k = 4 then (match sizeU 0 l with
    | .error m => .error m
    | .ok (n, r) => .ok (.i (-1 - (n : Int)), r))
  else if k = 5 then (match sizeU 0 l with
    | .error m => .error m
    | .ok (n, r) => match letU n r with
      | .error m => .error m
      | .ok (cs, r2) => .ok (.s (mkS cs), r2))
  else .ok (if k = 0 then .n else .b (decide (k = 2)), l)
inductive It where
  | leaf (t : Tr)
  | opn (m : Nat)
def itemU (deep : Bool) (l : List Nat) : Except Nat (It × List Nat) := match stepU 0 (if deep = true then 5 else 6) l with
  | .error m => .error m
  | .ok (k, r) => if k = 6 then (match sizeU 0 r with
      | .error m => .error m
      | .ok (n, r2) => .ok (.opn n, r2))
    else (match leafU k r with
      | .error m => .error m
      | .ok (t, r2) => .ok (.leaf t, r2))
abbrev Stk := List (Nat × List Tr)
def deepU (rs : Stk) : Bool := decide (rs.length = 60)
inductive RunU : List Nat → Stk → Except Nat Tr → Prop
  | err {l m ps rs n} : ps.length < m → itemU (deepU rs) l = .error n → RunU l ((m, ps) :: rs) (.error n)
  | leaf {l m ps rs t r o} : ps.length < m → itemU (deepU rs) l = .ok (.leaf t, r) → RunU r ((m, ps ++ [t]) :: rs) o → RunU l ((m, ps) :: rs) o
  | opn {l m ps rs k r o} : ps.length < m → itemU (deepU rs) l = .ok (.opn k, r) → RunU r ((k, []) :: (m, ps) :: rs) o → RunU l ((m, ps) :: rs) o
  | pop {l m ps m2 ps2 rs o} : ¬ ps.length < m → RunU l ((m2, ps2 ++ [.t ps]) :: rs) o → RunU l ((m, ps) :: (m2, ps2) :: rs) o
  | done {m t ps} : ¬ (t :: ps).length < m → RunU [] [(m, t :: ps)] (.ok t)
  | more {l m ps} : ¬ ps.length < m → l ≠ [] → RunU l [(m, ps)] (.error l.length)
theorem stepU_cons (lo hi b : Nat) (r : List Nat) : stepU lo hi (b :: r) = if lo ≤ b ∧ b ≤ hi then .ok (b, r) else .error (r.length + 1) := rfl
theorem stepU_ok {lo hi b : Nat} {l r : List Nat} (h : stepU lo hi l = .ok (b, r)) : l = b :: r ∧ lo ≤ b ∧ b ≤ hi := by
  cases l with
  | nil => cases h
  | cons c s =>
    rw [stepU_cons] at h
    by_cases e : lo ≤ c ∧ c ≤ hi
    · rw [if_pos e] at h
      cases h
      exact ⟨rfl, e⟩
    · rw [if_neg e] at h
      cases h
theorem stepU_err {lo hi n : Nat} {l : List Nat} (h : stepU lo hi l = .error n) : n ≤ l.length := by
  cases l with
  | nil => cases h; exact Nat.le_refl _
  | cons c s =>
    rw [stepU_cons] at h
    by_cases e : lo ≤ c ∧ c ≤ hi
    · rw [if_pos e] at h; cases h
    · rw [if_neg e] at h
      cases h
      exact Nat.le_refl _
theorem sizeU_ok : ∀ {l r : List Nat} {f n : Nat}, sizeU f l = .ok (n, r) → l = sizeB n ++ r ∧ (f = 1 → 1 ≤ n)
  | [], _, _, _, h => by cases h
  | b :: s, r, f, n, h => by
    unfold sizeU at h
    by_cases e : f ≤ b ∧ b ≤ 255
    · rw [if_pos e] at h
      by_cases e2 : b < 128
      · rw [if_pos e2] at h
        cases h
        exact ⟨by rw [sizeB_small e2] <;> rfl, fun e3 => by omega⟩
      · rw [if_neg e2] at h
        cases e3 : sizeU 1 s with
        | error m => rw [e3] at h; cases h
        | ok x =>
          obtain ⟨k, r2⟩ := x
          rw [e3] at h
          cases h
          obtain ⟨i1, i2⟩ := sizeU_ok e3
          have i2 := i2 rfl
          refine ⟨?_, fun _ => by omega⟩
          rw [sizeB_big (by omega), show (k * 128 + (b - 128)) % 128 + 128 = b by omega, show (k * 128 + (b - 128)) / 128 = k by omega, i1]
          rfl
    · rw [if_neg e] at h
      cases h
theorem sizeU_err : ∀ {l : List Nat} {f n : Nat}, sizeU f l = .error n → n ≤ l.length
  | [], _, _, h => by cases h; exact Nat.le_refl _
  | b :: s, f, n, h => by
    unfold sizeU at h
    rw [List.length_cons]
    by_cases e : f ≤ b ∧ b ≤ 255
    · rw [if_pos e] at h
      by_cases e2 : b < 128
      · rw [if_pos e2] at h; cases h
      · rw [if_neg e2] at h
        cases e3 : sizeU 1 s with
        | error m =>
          rw [e3] at h
          cases h
          have := sizeU_err e3
          omega
        | ok x => rw [e3] at h; cases h
    · rw [if_neg e] at h
      cases h
      exact Nat.le_refl _
theorem sizeU_pk : ∀ (n f : Nat) (r : List Nat), f ≤ 1 → (f = 1 → 1 ≤ n) → sizeU f (sizeB n ++ r) = .ok (n, r) := fun n => by
  induction n using Nat.strongRecOn with
  | ind n ih =>
    intro f r hf h1
    by_cases h : n < 128
    · rw [sizeB_small h]
      show sizeU f (n :: r) = _
      unfold sizeU
      rw [if_pos (by omega), if_pos h]
    · rw [sizeB_big h]
      show sizeU f ((n % 128 + 128) :: (sizeB (n / 128) ++ r)) = _
      unfold sizeU
      rw [if_pos (by omega), if_neg (by omega), ih (n / 128) (by omega) 1 r (by omega) (fun _ => by omega)]
      dsimp only
      rw [show n / 128 * 128 + (n % 128 + 128 - 128) = n by omega]
theorem sizeU_cut : ∀ {l q r : List Nat} {f n : Nat}, sizeU f (l ++ q) = .ok (n, r) → (∃ r2, sizeU f l = .ok (n, r2) ∧ r = r2 ++ q) ∨ sizeU f l = .error 0
  | [], _, _, _, _, _ => .inr rfl
  | b :: s, q, r, f, n, h => by
    rw [List.cons_append] at h
    unfold sizeU at h ⊢
    by_cases e : f ≤ b ∧ b ≤ 255
    · rw [if_pos e] at h ⊢
      by_cases e2 : b < 128
      · rw [if_pos e2] at h ⊢
        cases h
        exact .inl ⟨s, rfl, rfl⟩
      · rw [if_neg e2] at h ⊢
        cases e3 : sizeU 1 (s ++ q) with
        | error m => rw [e3] at h; cases h
        | ok x =>
          obtain ⟨k, r3⟩ := x
          rw [e3] at h
          cases h
          rcases sizeU_cut e3 with ⟨r2, h2, h3⟩ | h2
          · exact .inl ⟨r2, by rw [h2], h3⟩
          · exact .inr (by rw [h2])
    · rw [if_neg e] at h
      cases h
theorem stepU_cut {lo hi b : Nat} {l q r : List Nat} (h : stepU lo hi (l ++ q) = .ok (b, r)) : (∃ r2, stepU lo hi l = .ok (b, r2) ∧ r = r2 ++ q) ∨ stepU lo hi l = .error 0 := by
  cases l with
  | nil => exact .inr rfl
  | cons c s =>
    rw [List.cons_append] at h
    rw [stepU_cons] at h ⊢
    by_cases e : lo ≤ c ∧ c ≤ hi
    · rw [if_pos e] at h ⊢
      cases h
      exact .inl ⟨s, rfl, rfl⟩
    · rw [if_neg e] at h
      cases h
theorem letU_ok : ∀ {n : Nat} {l r cs : List Nat}, letU n l = .ok (cs, r) → l = cs ++ r ∧ cs.length = n ∧ ∀ c ∈ cs, isLet c = true
  | 0, l, r, cs, h => by
    cases h
    exact ⟨rfl, rfl, fun c hc => by cases hc⟩
  | n + 1, l, r, cs, h => by
    unfold letU at h
    cases e : stepU 97 122 l with
    | error m => rw [e] at h; cases h
    | ok x =>
      obtain ⟨c, s⟩ := x
      rw [e] at h
      dsimp only at h
      cases e2 : letU n s with
      | error m => rw [e2] at h; cases h
      | ok y =>
        obtain ⟨ds, s2⟩ := y
        rw [e2] at h
        cases h
        obtain ⟨a1, a2⟩ := stepU_ok e
        obtain ⟨b1, b2, b3⟩ := letU_ok e2
        refine ⟨by rw [a1, b1] <;> rfl, by rw [List.length_cons, b2], fun x hx => ?_⟩
        rcases List.mem_cons.mp hx with rfl | hx
        · exact isLet_iff.mpr a2
        · exact b3 x hx
theorem letU_err : ∀ {n m : Nat} {l : List Nat}, letU n l = .error m → m ≤ l.length
  | 0, m, l, h => by cases h
  | n + 1, m, l, h => by
    unfold letU at h
    cases e : stepU 97 122 l with
    | error k =>
      rw [e] at h
      cases h
      exact stepU_err e
    | ok x =>
      obtain ⟨c, s⟩ := x
      rw [e] at h
      dsimp only at h
      cases e2 : letU n s with
      | error k =>
        rw [e2] at h
        cases h
        have := letU_err e2
        rw [(stepU_ok e).1, List.length_cons]
        omega
      | ok y => rw [e2] at h; cases h
theorem letU_pk : ∀ (cs r : List Nat), (∀ c ∈ cs, isLet c = true) → letU cs.length (cs ++ r) = .ok (cs, r)
  | [], r, _ => rfl
  | c :: cs, r, h => by
    rw [List.length_cons, List.cons_append]
    unfold letU
    rw [stepU_cons, if_pos (isLet_iff.mp (h c List.mem_cons_self))]
    dsimp only
    rw [letU_pk cs r fun x hx => h x (List.mem_cons_of_mem _ hx)]
theorem letU_cut : ∀ {n : Nat} {l q r cs : List Nat}, letU n (l ++ q) = .ok (cs, r) → (∃ r2, letU n l = .ok (cs, r2) ∧ r = r2 ++ q) ∨ letU n l = .error 0
  | 0, l, q, r, cs, h => by
    cases h
    exact .inl ⟨l, rfl, rfl⟩
  | n + 1, l, q, r, cs, h => by
    unfold letU at h ⊢
    cases e : stepU 97 122 (l ++ q) with
    | error m => rw [e] at h; cases h
    | ok x =>
      obtain ⟨c, s⟩ := x
      rw [e] at h
      dsimp only at h
      rcases stepU_cut e with ⟨s2, h2, rfl⟩ | h2
      · rw [h2]
        dsimp only
        cases e2 : letU n (s2 ++ q) with
        | error m => rw [e2] at h; cases h
        | ok y =>
          obtain ⟨ds, s3⟩ := y
          rw [e2] at h
          cases h
          rcases letU_cut e2 with ⟨r2, h3, h4⟩ | h3
          · exact .inl ⟨r2, by rw [h3], h4⟩
          · exact .inr (by rw [h3])
      · exact .inr (by rw [h2])
end Ky

namespace Ky
open PySem PySem.Spec PyProof.Rows L2
local macro_rules | `(tactic| walk_at "rd") => `(tactic| repeat (first
  | with_reducible refine w_seq ?_
  | with_reducible refine w_asg ?_
  | with_reducible refine w_ret ?_
  | with_reducible refine w_drop ?_
  | with_reducible refine w_ifs ?_
  | ((with_reducible refine' w_var ?hh ?_); (case hh => exact rfl))
  | with_reducible refine w_c ?_
  | with_reducible refine w_op ?_
  | with_reducible refine w_un ?_
  | with_reducible refine w_I0 ?_
  | with_reducible refine w_U ?_
  | with_reducible refine w_nil ?_
  | with_reducible refine w_cons ?_
  | with_reducible refine w_call ?_
  | with_reducible refine w_cb ?_
  | with_reducible refine w_test ?_
  | with_reducible refine w_B ?_
  | with_reducible refine w_bl ?_
  | with_reducible refine w_and ?_
  | with_reducible refine w_or ?_
  | with_reducible refine w_not ?_
  | with_reducible refine w_ife ?_
  | with_reducible refine w_gRd ?_
  | with_reducible refine w_andV ?_
  | with_reducible refine w_orV ?_
  | with_reducible refine w_notV ?_
  | with_reducible refine w_chain ?_
  | with_reducible refine w_din ?_
  | with_reducible refine w_isi_ii ?_
  | with_reducible refine w_isi_ib ?_
  | with_reducible refine w_isi_it ?_
  | with_reducible refine w_isi_st ?_
  | ((with_reducible refine w_isi_tt ?h1 ?_); (case h1 => first | assumption | exact upd_same))
  | with_reducible refine if_t rfl ?_
  | with_reducible refine if_f rfl ?_
  | with_reducible refine w_tup ?_
  | with_reducible refine w_lst ?_
  | with_reducible refine w_next ?_
  | with_reducible refine w_bm ?_
  | with_reducible refine w_sl ?_
  | with_reducible refine w_part ?_
  | with_reducible refine w_nop ?_
  | with_reducible refine w_isI ?_
  | with_reducible refine w_yes ?_
  | with_reducible refine w_gn ?_
  | with_reducible refine w_gsub ?_
  | ((with_reducible refine' w_setL ?h1 ?h2 ?_); (case h1 => first | assumption | exact upd_same); (case h2 => exact rfl))
  | with_reducible refine w_asgG ?_
  | with_reducible refine w_m1 ?_
  | with_reducible refine w_isS ?_
  | with_reducible refine w_tyS ?_
  | ((with_reducible refine' w_tyL ?h1 ?_); (case h1 => first | assumption | exact upd_same))
  | ((with_reducible refine' w_ixT ?h1 ?h2 ?_); (case h1 => first | assumption | exact upd_same); (case h2 => exact rfl))
  | ((with_reducible refine' w_ixL ?h1 ?h2 ?_); (case h1 => first | assumption | exact upd_same); (case h2 => exact rfl))
  | ((with_reducible refine w_eq ?h1 ?_); (case h1 => exact rfl))
  | ((with_reducible refine w_ne ?h1 ?_); (case h1 => exact rfl))
  | dsimp only [List.set_cons_zero, List.set_cons_succ, List.append_nil, List.cons_append, List.nil_append, cxOf]))

open TL
theorem leafU_ok {k : Nat} {l r : List Nat} {t : Tr} (hk : k ≤ 5) (h : leafU k l = .ok (t, r)) : k :: l = pk t ++ r ∧ ∀ d, OkT d t := by
  unfold leafU at h
  by_cases c3 : k = 3
  · subst c3
    rw [if_pos rfl] at h
    cases e : sizeU 0 l with
    | error m => rw [e] at h; cases h
    | ok x =>
      obtain ⟨n, s⟩ := x
      rw [e] at h
      cases h
      refine ⟨?_, fun d => by unfold OkT; trivial⟩
      unfold pk
      rw [if_pos (by omega), Int.toNat_natCast, (sizeU_ok e).1]
      rfl
  · rw [if_neg c3] at h
    by_cases c4 : k = 4
    · subst c4
      rw [if_pos rfl] at h
      cases e : sizeU 0 l with
      | error m => rw [e] at h; cases h
      | ok x =>
        obtain ⟨n, s⟩ := x
        rw [e] at h
        cases h
        refine ⟨?_, fun d => by unfold OkT; trivial⟩
        unfold pk
        rw [if_neg (by omega), show (-1 - (-1 - (n : Int))).toNat = n by omega, (sizeU_ok e).1]
        rfl
    · rw [if_neg c4] at h
      by_cases c5 : k = 5
      · subst c5
        rw [if_pos rfl] at h
        cases e : sizeU 0 l with
        | error m => rw [e] at h; cases h
        | ok x =>
          obtain ⟨n, s⟩ := x
          rw [e] at h
          dsimp only at h
          cases e2 : letU n s with
          | error m => rw [e2] at h; cases h
          | ok y =>
            obtain ⟨cs, s2⟩ := y
            rw [e2] at h
            cases h
            obtain ⟨b1, b2, b3⟩ := letU_ok e2
            refine ⟨?_, fun d => ?_⟩
            · unfold pk
              rw [tl_mkS, b2, (sizeU_ok e).1, b1]
              simp
            · unfold OkT
              rw [tl_mkS]
              exact b3
      · rw [if_neg c5] at h
        cases h
        have : k = 0 ∨ k = 1 ∨ k = 2 := by omega
        rcases this with rfl | rfl | rfl
        · exact ⟨rfl, fun d => by unfold OkT; trivial⟩
        · exact ⟨rfl, fun d => by unfold OkT; trivial⟩
        · exact ⟨rfl, fun d => by unfold OkT; trivial⟩
theorem leafU_err {k n : Nat} {l : List Nat} (h : leafU k l = .error n) : n ≤ l.length := by
  unfold leafU at h
  by_cases c3 : k = 3
  · rw [if_pos c3] at h
    cases e : sizeU 0 l with
    | error m => rw [e] at h; cases h; exact sizeU_err e
    | ok x => rw [e] at h; cases h
  · rw [if_neg c3] at h
    by_cases c4 : k = 4
    · rw [if_pos c4] at h
      cases e : sizeU 0 l with
      | error m => rw [e] at h; cases h; exact sizeU_err e
      | ok x => rw [e] at h; cases h
    · rw [if_neg c4] at h
      by_cases c5 : k = 5
      · rw [if_pos c5] at h
        cases e : sizeU 0 l with
        | error m => rw [e] at h; cases h; exact sizeU_err e
        | ok x =>
          obtain ⟨n', s⟩ := x
          rw [e] at h
          dsimp only at h
          cases e2 : letU n' s with
          | error m =>
            rw [e2] at h
            cases h
            have := letU_err e2
            rw [(sizeU_ok e).1, List.length_append]
            omega
          | ok y => rw [e2] at h; cases h
      · rw [if_neg c5] at h
        cases h
theorem leafU_cut {k : Nat} {l q r : List Nat} {t : Tr} (h : leafU k (l ++ q) = .ok (t, r)) : (∃ r2, leafU k l = .ok (t, r2) ∧ r = r2 ++ q) ∨ leafU k l = .error 0 := by
  unfold leafU at h ⊢
  by_cases c3 : k = 3
  · rw [if_pos c3] at h ⊢
    cases e : sizeU 0 (l ++ q) with
    | error m => rw [e] at h; cases h
    | ok x =>
      obtain ⟨n, s⟩ := x
      rw [e] at h
      cases h
      rcases sizeU_cut e with ⟨r2, h2, h3⟩ | h2
      · exact .inl ⟨r2, by rw [h2], h3⟩
      · exact .inr (by rw [h2])
  · rw [if_neg c3] at h ⊢
    by_cases c4 : k = 4
    · rw [if_pos c4] at h ⊢
      cases e : sizeU 0 (l ++ q) with
      | error m => rw [e] at h; cases h
      | ok x =>
        obtain ⟨n, s⟩ := x
        rw [e] at h
        cases h
        rcases sizeU_cut e with ⟨r2, h2, h3⟩ | h2
        · exact .inl ⟨r2, by rw [h2], h3⟩
        · exact .inr (by rw [h2])
    · rw [if_neg c4] at h ⊢
      by_cases c5 : k = 5
      · rw [if_pos c5] at h ⊢
        cases e : sizeU 0 (l ++ q) with
        | error m => rw [e] at h; cases h
        | ok x =>
          obtain ⟨n, s⟩ := x
          rw [e] at h
          dsimp only at h
          rcases sizeU_cut e with ⟨s2, h2, rfl⟩ | h2
          · rw [h2]
            dsimp only
            cases e2 : letU n (s2 ++ q) with
            | error m => rw [e2] at h; cases h
            | ok y =>
              obtain ⟨cs, s3⟩ := y
              rw [e2] at h
              cases h
              rcases letU_cut e2 with ⟨r2, h3, h4⟩ | h3
              · exact .inl ⟨r2, by rw [h3], h4⟩
              · exact .inr (by rw [h3])
          · exact .inr (by rw [h2])
      · rw [if_neg c5] at h ⊢
        cases h
        exact .inl ⟨l, rfl, rfl⟩
theorem itemU_leaf {deep : Bool} {l r : List Nat} {t : Tr} (h : itemU deep l = .ok (.leaf t, r)) : l = pk t ++ r ∧ ∀ d, OkT d t := by
  unfold itemU at h
  cases e : stepU 0 (if deep = true then 5 else 6) l with
  | error m => rw [e] at h; cases h
  | ok x =>
    obtain ⟨k, s⟩ := x
    rw [e] at h
    dsimp only at h
    obtain ⟨a1, a2⟩ := stepU_ok e
    by_cases c : k = 6
    · rw [if_pos c] at h
      cases e2 : sizeU 0 s with
      | error m => rw [e2] at h; cases h
      | ok y => rw [e2] at h; cases h
    · rw [if_neg c] at h
      cases e2 : leafU k s with
      | error m => rw [e2] at h; cases h
      | ok y =>
        obtain ⟨t', s2⟩ := y
        rw [e2] at h
        cases h
        rw [a1]
        exact leafU_ok (by split at a2 <;> omega) e2
theorem itemU_opn {deep : Bool} {l r : List Nat} {m : Nat} (h : itemU deep l = .ok (.opn m, r)) : l = 6 :: (sizeB m ++ r) ∧ deep = false := by
  unfold itemU at h
  cases e : stepU 0 (if deep = true then 5 else 6) l with
  | error m => rw [e] at h; cases h
  | ok x =>
    obtain ⟨k, s⟩ := x
    rw [e] at h
    dsimp only at h
    obtain ⟨a1, a2⟩ := stepU_ok e
    by_cases c : k = 6
    · rw [if_pos c] at h
      cases e2 : sizeU 0 s with
      | error m => rw [e2] at h; cases h
      | ok y =>
        obtain ⟨n, s2⟩ := y
        rw [e2] at h
        cases h
        refine ⟨by rw [a1, c, (sizeU_ok e2).1], ?_⟩
        cases deep
        · rfl
        · rw [if_pos rfl] at a2; omega
    · rw [if_neg c] at h
      cases e2 : leafU k s with
      | error m => rw [e2] at h; cases h
      | ok y => rw [e2] at h; cases h
theorem itemU_err {deep : Bool} {l : List Nat} {n : Nat} (h : itemU deep l = .error n) : n ≤ l.length := by
  unfold itemU at h
  cases e : stepU 0 (if deep = true then 5 else 6) l with
  | error m => rw [e] at h; cases h; exact stepU_err e
  | ok x =>
    obtain ⟨k, s⟩ := x
    rw [e] at h
    dsimp only at h
    rw [(stepU_ok e).1, List.length_cons]
    by_cases c : k = 6
    · rw [if_pos c] at h
      cases e2 : sizeU 0 s with
      | error m => rw [e2] at h; cases h; have := sizeU_err e2; omega
      | ok y => rw [e2] at h; cases h
    · rw [if_neg c] at h
      cases e2 : leafU k s with
      | error m => rw [e2] at h; cases h; have := leafU_err e2; omega
      | ok y => rw [e2] at h; cases h
theorem itemU_cut {deep : Bool} {l q r : List Nat} {x : It} (h : itemU deep (l ++ q) = .ok (x, r)) : (∃ r2, itemU deep l = .ok (x, r2) ∧ r = r2 ++ q) ∨ itemU deep l = .error 0 := by
  unfold itemU at h ⊢
  cases e : stepU 0 (if deep = true then 5 else 6) (l ++ q) with
  | error m => rw [e] at h; cases h
  | ok y =>
    obtain ⟨k, s⟩ := y
    rw [e] at h
    dsimp only at h
    rcases stepU_cut e with ⟨s2, h2, rfl⟩ | h2
    · rw [h2]
      dsimp only
      by_cases c : k = 6
      · rw [if_pos c] at h ⊢
        cases e2 : sizeU 0 (s2 ++ q) with
        | error m => rw [e2] at h; cases h
        | ok z =>
          obtain ⟨n, s3⟩ := z
          rw [e2] at h
          cases h
          rcases sizeU_cut e2 with ⟨r2, h3, h4⟩ | h3
          · exact .inl ⟨r2, by rw [h3], h4⟩
          · exact .inr (by rw [h3])
      · rw [if_neg c] at h ⊢
        cases e2 : leafU k (s2 ++ q) with
        | error m => rw [e2] at h; cases h
        | ok z =>
          obtain ⟨t, s3⟩ := z
          rw [e2] at h
          cases h
          rcases leafU_cut e2 with ⟨r2, h3, h4⟩ | h3
          · exact .inl ⟨r2, by rw [h3], h4⟩
          · exact .inr (by rw [h3])
    · exact .inr (by rw [h2])
theorem itemU_less {deep : Bool} {l r : List Nat} {x : It} (h : itemU deep l = .ok (x, r)) : r.length < l.length := by
  cases x with
  | leaf t =>
    rw [(itemU_leaf h).1, List.length_append]
    have : 1 ≤ (pk t).length := by
      cases t <;> unfold pk <;> (try split) <;> simp
    omega
  | opn m =>
    rw [(itemU_opn h).1, List.length_cons, List.length_append]
    omega
/-- frames hold no more than they ask; the outer one asks for one -/
def WfS : Stk → Prop
  | [] => False
  | [(m, ps)] => m = 1 ∧ ps.length ≤ 1 ∧ OkTs 60 ps
  | (m, ps) :: rs => ps.length ≤ m ∧ OkTs (60 - rs.length) ps ∧ rs.length ≤ 60 ∧ WfS rs
def consB : Stk → List Nat
  | [] => []
  | [(_, ps)] => pks ps
  | (m, ps) :: rs => consB rs ++ (6 :: (sizeB m ++ pks ps))
theorem wf_push {m : Nat} {ps : List Tr} {rs : Stk} {t : Tr} (h : WfS ((m, ps) :: rs)) (hl : ps.length < m) (ht : OkT (60 - rs.length) t) : WfS ((m, ps ++ [t]) :: rs) ∧ consB ((m, ps ++ [t]) :: rs) = consB ((m, ps) :: rs) ++ pk t := by
  have app : ∀ {d : Nat} {l : List Tr}, OkTs d l → OkT d t → OkTs d (l ++ [t]) := fun {d l} h1 h2 => OkTs.mem fun a ha => by
    rcases List.mem_append.mp ha with ha | ha
    · exact h1.get a ha
    · rw [List.mem_singleton.mp ha]; exact h2
  cases rs with
  | nil =>
    obtain ⟨h1, h2, h3⟩ := h
    refine ⟨⟨h1, by rw [List.length_append, List.length_singleton]; omega, app h3 ht⟩, ?_⟩
    show pks (ps ++ [t]) = pks ps ++ pk t
    rw [pks_app, pks_one]
  | cons r rs =>
    obtain ⟨h1, h2, h3, h4⟩ := h
    refine ⟨⟨by rw [List.length_append, List.length_singleton]; omega, app h2 ht, h3, h4⟩, ?_⟩
    show consB (r :: rs) ++ (6 :: (sizeB m ++ pks (ps ++ [t]))) = consB (r :: rs) ++ (6 :: (sizeB m ++ pks ps)) ++ pk t
    rw [pks_app, pks_one]
    simp
theorem wf_open {m k : Nat} {ps : List Tr} {rs : Stk} (h : WfS ((m, ps) :: rs)) (hd : deepU rs = false) : WfS ((k, []) :: (m, ps) :: rs) ∧ consB ((k, []) :: (m, ps) :: rs) = consB ((m, ps) :: rs) ++ (6 :: sizeB k) := by
  have hd : rs.length ≠ 60 := of_decide_eq_false hd
  have hr : rs.length ≤ 60 := by
    cases rs with
    | nil => exact Nat.zero_le _
    | cons r rs => exact h.2.2.1
  refine ⟨⟨Nat.zero_le _, by unfold OkTs; trivial, by rw [List.length_cons]; omega, h⟩, ?_⟩
  show consB ((m, ps) :: rs) ++ (6 :: (sizeB k ++ pks [])) = _
  rw [pks, List.append_nil]
theorem wf_pop {m m2 : Nat} {ps ps2 : List Tr} {rs : Stk} (h : WfS ((m, ps) :: (m2, ps2) :: rs)) (hl : ¬ ps.length < m) (h2 : ps2.length < m2) : WfS ((m2, ps2 ++ [.t ps]) :: rs) ∧ consB ((m2, ps2 ++ [.t ps]) :: rs) = consB ((m, ps) :: (m2, ps2) :: rs) := by
  obtain ⟨a1, a2, a3, a4⟩ := h
  have e : ps.length = m := by omega
  rw [List.length_cons] at a2 a3
  obtain ⟨b1, b2⟩ := wf_push a4 h2 (t := .t ps) (by
    rw [show 60 - rs.length = (60 - (rs.length + 1)) + 1 by omega]
    unfold OkT
    exact a2)
  refine ⟨b1, ?_⟩
  rw [b2]
  show consB ((m2, ps2) :: rs) ++ pk (.t ps) = consB ((m2, ps2) :: rs) ++ (6 :: (sizeB m ++ pks ps))
  rw [pk, e]
end Ky

namespace Ky
open PySem PySem.Spec PyProof.Rows L2
local macro_rules | `(tactic| walk_at "rd") => `(tactic| repeat (first
  | with_reducible refine w_seq ?_
  | with_reducible refine w_asg ?_
  | with_reducible refine w_ret ?_
  | with_reducible refine w_drop ?_
  | with_reducible refine w_ifs ?_
  | ((with_reducible refine' w_var ?hh ?_); (case hh => exact rfl))
  | with_reducible refine w_c ?_
  | with_reducible refine w_op ?_
  | with_reducible refine w_un ?_
  | with_reducible refine w_I0 ?_
  | with_reducible refine w_U ?_
  | with_reducible refine w_nil ?_
  | with_reducible refine w_cons ?_
  | with_reducible refine w_call ?_
  | with_reducible refine w_cb ?_
  | with_reducible refine w_test ?_
  | with_reducible refine w_B ?_
  | with_reducible refine w_bl ?_
  | with_reducible refine w_and ?_
  | with_reducible refine w_or ?_
  | with_reducible refine w_not ?_
  | with_reducible refine w_ife ?_
  | with_reducible refine w_gRd ?_
  | with_reducible refine w_andV ?_
  | with_reducible refine w_orV ?_
  | with_reducible refine w_notV ?_
  | with_reducible refine w_chain ?_
  | with_reducible refine w_din ?_
  | with_reducible refine w_isi_ii ?_
  | with_reducible refine w_isi_ib ?_
  | with_reducible refine w_isi_it ?_
  | with_reducible refine w_isi_st ?_
  | ((with_reducible refine w_isi_tt ?h1 ?_); (case h1 => first | assumption | exact upd_same))
  | with_reducible refine if_t rfl ?_
  | with_reducible refine if_f rfl ?_
  | with_reducible refine w_tup ?_
  | with_reducible refine w_lst ?_
  | with_reducible refine w_next ?_
  | with_reducible refine w_bm ?_
  | with_reducible refine w_sl ?_
  | with_reducible refine w_part ?_
  | with_reducible refine w_nop ?_
  | with_reducible refine w_isI ?_
  | with_reducible refine w_yes ?_
  | with_reducible refine w_gn ?_
  | with_reducible refine w_gsub ?_
  | ((with_reducible refine' w_setL ?h1 ?h2 ?_); (case h1 => first | assumption | exact upd_same); (case h2 => exact rfl))
  | with_reducible refine w_asgG ?_
  | with_reducible refine w_m1 ?_
  | with_reducible refine w_isS ?_
  | with_reducible refine w_tyS ?_
  | ((with_reducible refine' w_tyL ?h1 ?_); (case h1 => first | assumption | exact upd_same))
  | ((with_reducible refine' w_ixT ?h1 ?h2 ?_); (case h1 => first | assumption | exact upd_same); (case h2 => exact rfl))
  | ((with_reducible refine' w_ixL ?h1 ?h2 ?_); (case h1 => first | assumption | exact upd_same); (case h2 => exact rfl))
  | ((with_reducible refine w_eq ?h1 ?_); (case h1 => exact rfl))
  | ((with_reducible refine w_ne ?h1 ?_); (case h1 => exact rfl))
  | dsimp only [List.set_cons_zero, List.set_cons_succ, List.append_nil, List.cons_append, List.nil_append, cxOf]))

open TL
def Und (rs : Stk) : Prop := ∀ x ∈ rs, x.2.length < x.1
theorem run_total : ∀ (n : Nat) (l : List Nat) (m : Nat) (ps : List Tr) (rs : Stk), 2 * l.length + rs.length ≤ n → WfS ((m, ps) :: rs) → Und rs →
    ∃ o, RunU l ((m, ps) :: rs) o ∧ (∀ k, o = .error k → k ≤ l.length) ∧ ∀ t, o = .ok t → consB ((m, ps) :: rs) ++ l = pk t ∧ OkT 60 t := fun n => by
  induction n with
  | zero =>
    intro l m ps rs hn hw hu
    have h1 : rs = [] := List.length_eq_zero_iff.mp (by omega)
    have h2 : l = [] := List.length_eq_zero_iff.mp (by omega)
    subst h1 h2
    obtain ⟨rfl, a2, a3⟩ := hw
    cases ps with
    | nil => exact ⟨.error 0, .err (by simp) rfl, fun k e => by cases e; exact Nat.le_refl _, fun t e => by cases e⟩
    | cons t ps =>
      have e : ps = [] := List.length_eq_zero_iff.mp (by rw [List.length_cons] at a2; omega)
      subst e
      refine ⟨.ok t, .done (by simp), fun k e => (by cases e), fun t2 e => ?_⟩
      cases e
      refine ⟨?_, a3.get t List.mem_cons_self⟩
      show pks [t] ++ [] = _
      rw [pks_one, List.append_nil]
  | succ n ih =>
    intro l m ps rs hn hw hu
    by_cases hl : ps.length < m
    · cases e : itemU (deepU rs) l with
      | error k => exact ⟨.error k, .err hl e, fun k2 e2 => by cases e2; exact itemU_err e, fun t e2 => by cases e2⟩
      | ok x =>
        obtain ⟨x, r⟩ := x
        have hless := itemU_less e
        cases x with
        | leaf t =>
          obtain ⟨i1, i2⟩ := itemU_leaf e
          obtain ⟨w1, w2⟩ := wf_push hw hl (i2 _)
          obtain ⟨o, r1, r2, r3⟩ := ih r m (ps ++ [t]) rs (by omega) w1 hu
          refine ⟨o, .leaf hl e r1, fun k e2 => by have := r2 k e2; omega, fun t2 e2 => ?_⟩
          obtain ⟨s1, s2⟩ := r3 t2 e2
          refine ⟨?_, s2⟩
          rw [← s1, w2, i1, List.append_assoc]
        | opn k =>
          obtain ⟨i1, i2⟩ := itemU_opn e
          obtain ⟨w1, w2⟩ := wf_open (k := k) hw i2
          obtain ⟨o, r1, r2, r3⟩ := ih r k [] ((m, ps) :: rs) (by rw [List.length_cons]; omega) w1 (fun x hx => by
            rcases List.mem_cons.mp hx with rfl | hx
            · exact hl
            · exact hu x hx)
          refine ⟨o, .opn hl e r1, fun k2 e2 => by have := r2 k2 e2; omega, fun t2 e2 => ?_⟩
          obtain ⟨s1, s2⟩ := r3 t2 e2
          refine ⟨?_, s2⟩
          rw [← s1, w2, i1]
          simp
    · cases rs with
      | nil =>
        obtain ⟨rfl, a2, a3⟩ := hw
        cases ps with
        | nil => exact absurd (by simp) hl
        | cons t ps =>
          have e : ps = [] := List.length_eq_zero_iff.mp (by rw [List.length_cons] at a2; omega)
          subst e
          cases l with
          | nil =>
            refine ⟨.ok t, .done hl, fun k e => (by cases e), fun t2 e => ?_⟩
            cases e
            refine ⟨?_, a3.get t List.mem_cons_self⟩
            show pks [t] ++ [] = _
            rw [pks_one, List.append_nil]
          | cons b l => exact ⟨_, .more hl (by simp), fun k e => by cases e; exact Nat.le_refl _, fun t2 e => by cases e⟩
      | cons x rs =>
        obtain ⟨m2, ps2⟩ := x
        obtain ⟨w1, w2⟩ := wf_pop hw hl (hu (m2, ps2) List.mem_cons_self)
        obtain ⟨o, r1, r2, r3⟩ := ih l m2 (ps2 ++ [.t ps]) rs (by rw [List.length_cons] at hn; omega) w1 (fun x hx => hu x (List.mem_cons_of_mem _ hx))
        exact ⟨o, .pop hl r1, r2, fun t2 e2 => by rw [← w2]; exact r3 t2 e2⟩
theorem leafU_pk {t : Tr} {r : List Nat} (ht : ∀ l, t ≠ .t l) (ho : OkT 1 t) : ∃ k s, pk t ++ r = k :: s ∧ k ≤ 5 ∧ leafU k s = .ok (t, r) := by
  cases t with
  | n => exact ⟨0, r, by rw [pk] <;> rfl, by omega, rfl⟩
  | b x =>
    cases x
    · exact ⟨1, r, by rw [pk] <;> rfl, by omega, rfl⟩
    · exact ⟨2, r, by rw [pk] <;> rfl, by omega, rfl⟩
  | i k =>
    rw [pk]
    by_cases c : 0 ≤ k
    · rw [if_pos c]
      refine ⟨3, sizeB k.toNat ++ r, rfl, by omega, ?_⟩
      unfold leafU
      rw [if_pos rfl, sizeU_pk _ 0 r (by omega) (by omega)]
      show Except.ok (Tr.i ((k.toNat : Nat) : Int), r) = _
      rw [Int.toNat_of_nonneg c]
    · rw [if_neg c]
      refine ⟨4, sizeB (-1 - k).toNat ++ r, rfl, by omega, ?_⟩
      unfold leafU
      rw [if_neg (by omega), if_pos rfl, sizeU_pk _ 0 r (by omega) (by omega)]
      show Except.ok (Tr.i (-1 - (((-1 - k).toNat : Nat) : Int)), r) = _
      rw [Int.toNat_of_nonneg (by omega), show -1 - (-1 - k) = k by omega]
  | s z =>
    rw [pk]
    unfold OkT at ho
    refine ⟨5, sizeB (tl z).length ++ tl z ++ r, rfl, by omega, ?_⟩
    unfold leafU
    rw [if_neg (by omega), if_neg (by omega), if_pos rfl, List.append_assoc, sizeU_pk _ 0 _ (by omega) (by omega)]
    dsimp only
    rw [letU_pk _ r ho]
    dsimp only
    rw [show mkS (tl z) = z from ext_tl (tl_mkS _)]
  | t l => exact absurd rfl (ht l)
mutual
theorem run_pk : ∀ (t : Tr) (r : List Nat) (m : Nat) (ps : List Tr) (rs : Stk) (o : Except Nat Tr), OkT (60 - rs.length) t → rs.length ≤ 60 → ps.length < m → RunU r ((m, ps ++ [t]) :: rs) o → RunU (pk t ++ r) ((m, ps) :: rs) o
  | .t l, r, m, ps, rs, o, ho, hr, hl, h => by
    cases hd : 60 - rs.length with
    | zero => rw [hd] at ho; unfold OkT at ho; exact ho.elim
    | succ d =>
      rw [hd] at ho
      unfold OkT at ho
      have hdp : deepU rs = false := decide_eq_false (by omega)
      rw [pk]
      refine RunU.opn (k := l.length) (r := pks l ++ r) hl ?_ ?_
      · rw [hdp]
        unfold itemU
        rw [List.cons_append, stepU_cons, if_pos (by simp)]
        dsimp only
        rw [if_pos rfl, List.append_assoc, sizeU_pk _ 0 _ (by omega) (by omega)]
      · refine run_pks l r l.length [] ((m, ps) :: rs) o (by rw [List.length_cons, show 60 - (rs.length + 1) = d by omega]; exact ho) (by rw [List.length_cons]; omega) (by simp) ?_
        rw [List.nil_append]
        exact .pop (Nat.lt_irrefl _) h
  | .n, r, m, ps, rs, o, ho, hr, hl, h => run_leaf (by intro l e; cases e) (by unfold OkT; trivial) hl h
  | .b x, r, m, ps, rs, o, ho, hr, hl, h => run_leaf (by intro l e; cases e) (by unfold OkT; trivial) hl h
  | .i k, r, m, ps, rs, o, ho, hr, hl, h => run_leaf (by intro l e; cases e) (by unfold OkT; trivial) hl h
  | .s z, r, m, ps, rs, o, ho, hr, hl, h => run_leaf (by intro l e; cases e) (by unfold OkT at ho ⊢; exact ho) hl h
theorem run_pks : ∀ (l : List Tr) (r : List Nat) (m : Nat) (ps : List Tr) (rs : Stk) (o : Except Nat Tr), OkTs (60 - rs.length) l → rs.length ≤ 60 → ps.length + l.length ≤ m → RunU r ((m, ps ++ l) :: rs) o → RunU (pks l ++ r) ((m, ps) :: rs) o
  | [], r, m, ps, rs, o, _, _, _, h => by
    rw [pks, List.nil_append]
    rwa [List.append_nil] at h
  | a :: l, r, m, ps, rs, o, ho, hr, hl, h => by
    unfold OkTs at ho
    rw [List.length_cons] at hl
    rw [pks, List.append_assoc]
    refine run_pk a (pks l ++ r) m ps rs o ho.1 hr (by omega) ?_
    refine run_pks l r m (ps ++ [a]) rs o ho.2 hr (by rw [List.length_append, List.length_singleton]; omega) ?_
    rw [List.append_assoc]
    exact h
theorem run_leaf {t : Tr} {r : List Nat} {m : Nat} {ps : List Tr} {rs : Stk} {o : Except Nat Tr} (ht : ∀ l, t ≠ .t l) (ho : OkT 1 t) (hl : ps.length < m) (h : RunU r ((m, ps ++ [t]) :: rs) o) : RunU (pk t ++ r) ((m, ps) :: rs) o := by
  obtain ⟨k, s, e1, e2, e3⟩ := leafU_pk (r := r) ht ho
  rw [e1]
  refine .leaf (t := t) (r := r) hl ?_ h
  unfold itemU
  rw [stepU_cons, if_pos (by split <;> omega)]
  dsimp only
  rw [if_neg (by omega), e3]
end
theorem run_cut {q : List Nat} (hq : q ≠ []) {t : Tr} : ∀ {l0 : List Nat} {st : Stk} {o : Except Nat Tr}, RunU l0 st o → ∀ l, l0 = l ++ q → o = .ok t → RunU l st (.error 0) := fun {l0 st o} h => by
  induction h with
  | err _ _ => intro l _ e; cases e
  | leaf hl hi _ ih =>
    intro l e eo
    subst e
    rcases itemU_cut hi with ⟨r2, h2, h3⟩ | h2
    · exact .leaf hl h2 (ih r2 h3 eo)
    · exact .err hl h2
  | opn hl hi _ ih =>
    intro l e eo
    subst e
    rcases itemU_cut hi with ⟨r2, h2, h3⟩ | h2
    · exact .opn hl h2 (ih r2 h3 eo)
    · exact .err hl h2
  | pop hl _ ih => exact fun l e eo => .pop hl (ih l e eo)
  | done _ =>
    intro l e _
    exact absurd (List.append_eq_nil_iff.mp e.symm).2 hq
  | more _ _ => intro l _ e; cases e
theorem wf0 : WfS [(1, [])] := ⟨rfl, by simp, by unfold OkTs; trivial⟩
theorem read_pk {t : Tr} (h : OkT 60 t) : RunU (pk t) [(1, [])] (.ok t) := by
  have := run_pk t [] 1 [] [] (.ok t) h (by simp) (by simp) (.done (by simp))
  rwa [List.append_nil] at this
theorem read_more {t : Tr} (h : OkT 60 t) (b : Nat) : RunU (pk t ++ [b]) [(1, [])] (.error 1) :=
  run_pk t [b] 1 [] [] (.error 1) h (by simp) (by simp) (.more (by simp) (by simp))
theorem read_cut {t : Tr} (h : OkT 60 t) {p q : List Nat} (e : p ++ q = pk t) (hq : q ≠ []) : RunU p [(1, [])] (.error 0) := run_cut hq (read_pk h) p e.symm rfl
theorem read_any (l : List Nat) : ∃ o, RunU l [(1, [])] o ∧ (∀ k, o = .error k → k ≤ l.length) ∧ ∀ t, o = .ok t → l = pk t ∧ OkT 60 t := by
  obtain ⟨o, h1, h2, h3⟩ := run_total _ l 1 [] [] (Nat.le_refl _) wf0 (fun x hx => by cases hx)
  refine ⟨o, h1, h2, fun t e => ?_⟩
  have := h3 t e
  rwa [show consB [(1, [])] = [] by rw [consB, pks], List.nil_append] at this
end Ky

namespace Ky
open PySem PySem.Spec PyProof.Rows L2
/-! ### a law that shows values (repr): the call stands where nothing is being shown -/
structure FnG (P : Program) (w : World) (K : PySem.W.Frag) (mg : Str → Option Value) (base : Heap) (k : Nat) (f : Addr) (fd : FuncData) (ps : List Str) (sp : Sp) : Prop where
  len : ∀ vs H Q E, sp vs H Q E → vs.length = ps.length
  run : ∀ (A : Around) (o : List Env) (s : Shared) (H : Hp) (as : Args) (us : List Value) (vs : List V) (Q : VK) (E : XK), A.guards = some [] → Room k A → Env0 P w K mg base A o s H → BindsTo s fd as (ps.zip us) → Vals vs us → sp vs H Q E → codeAny (model P w) A (.call (.ref f) as) (CR CX0 o P w H s Q E) s
theorem okG {P : Program} {w : World} {K : PySem.W.Frag} {mg : Str → Option Value} {base : Heap} {x q : Str} {st : Stmt} {f : Addr} {fd : FuncData} {N ps : List Str} {k : Nat} {sp : Sp} (F : Fun K x q st f fd) (S : FnScope N ps (defScope st)) (ln : ∀ vs H Q E, sp vs H Q E → vs.length = ps.length)
    (B : ∀ (cd : Value) (A : Around) (o : List Env) (s : Shared) (H : Hp) (vs : List V) (Q : VK) (E : XK), A.guards = some [] → Room k (A.deeper (envOfC q (defScope st) s.heap.objs.size f cd)) → sp vs H Q E →
      ∃ t, PSs (cxOf CX0 P w K mg base N q (defScope st) f cd A o s H E).nox (defBody st) t ∧ t { nx := fun _ H' => Q .non H', rt := Q } (start N vs) H) : FnG P w K mg base (k + 1) f fd ps sp := by
  rcases F.ex with ⟨oc, od, kV, dc, pm, an, cd, ct, sl, rfl, lk, cdI⟩
  refine ⟨ln, fun A o s H as us vs Q E hg rm e0 bt vl hs => ?_⟩
  have up : ∀ b ob, base.get? b = some ob → s.heap.get? b = some ob := fun b ob h => (e0.bs b ob h).1
  have kin := e0.mod.kin.keeps up
  apply codeAny_call_function rm.depth (kin _ _ lk) rfl S.co S.gen rfl (PySem.W.codeRec_of kin cdI)
  apply bt
  apply wpAny_newFunctionEnv_cells S.kind fun y hy => (S.par y.1 (List.of_mem_zip hy).1).imp id fun z => ⟨z, PySem.W.cellsFrom_some _ _ _ (.inl z)⟩
  rintro env rfl s1 ic
  refine ⟨(e0.mod.nolimit.keeps up).keeps ic.toInCall.keep, codeAny_func ?_⟩
  rcases B cd A o s H vs Q E hg (rm.deeper _) hs with ⟨t, T, q⟩
  refine thn (T.nox.run [] s1 (start N vs) H _ (inv_start S rm.hd e0 (ln _ _ _ _ hs) vl ic) q) fun fl s2 z => ?_
  cases fl with
  | ret u => exact z.elim fun v z => z.elim fun _ z => z.elim fun H2 ⟨J, r, q⟩ => ⟨v, H2, J.os, J.bare, J.base, J.hok, r, q⟩
  | next => exact z.elim fun _ z => z.elim fun H2 ⟨J, q⟩ => ⟨.non, H2, J.os, J.bare, J.base, J.hok, rfl, q⟩
  | brk => exact z.elim fun _ z => z.elim fun _ z => z.2.elim
  | cont => exact z.elim fun _ z => z.elim fun _ z => z.2.elim
/-- repr(v), v nested data -/
def rRepr (K : PySem.W.Frag) : List V → Hp → VK → Prop := fun xs H Q => ∃ (v : V) (d : PyData), xs = [v] ∧ Dp K H v d ∧ d.showable = true ∧ d.hasDict = false ∧ d.depth ≤ 60 ∧ d.shown.length ≤ sizeLine ∧ Q (.str d.shown) H
theorem cr_repr {X : Cx} (hc : X.A.guards = some []) (hu : X.A.units + 64 < cLine) : CallR X (.builtin "repr") (rRepr X.K) := by
  intro pins s σ H xs us Q I r h
  obtain ⟨v, d, rfl, dp, h1, h2, h3, h4, q⟩ := h
  obtain ⟨u, rfl, ru⟩ := vals1 r
  obtain ⟨as, rd⟩ := Dp.reads I d _ _ dp ru
  have fin : ∀ (h' : Heap) (t : Tok) (tk : Nat), (∀ b o, s.heap.get? b = some o → h'.get? b = some o) → EP X pins σ Q (.str d.shown t) { s with heap := h', toks := tk } := fun h' t tk k => ⟨.str d.shown, H, I.kept (t' := tk) k, ⟨t, rfl⟩, q⟩
  cases rd with
  | none => exact P.repr_of_none (fin s.heap _ _ fun _ _ e => e)
  | bool => exact P.repr_of_bool (fin s.heap _ _ fun _ _ e => e)
  | int => exact P.repr_of_int (of_decide_eq_true h1) (fin s.heap _ _ fun _ _ e => e)
  | str => exact P.repr_of_str (fin s.heap _ _ fun _ _ e => e) h4
  | list a1 a2 a3 a4 => exact repr_of_reads' (.list a1 a2 a3 a4) h1 (fun z => by rw [h2] at z; cases z) hc (by omega) (fun _ _ e => e) (fun h' t tk k => fin h' t tk k) h4
  | tuple a1 a2 a3 a4 => exact repr_of_reads' (.tuple a1 a2 a3 a4) h1 (fun z => by rw [h2] at z; cases z) hc (by omega) (fun _ _ e => e) (fun h' t tk k => fin h' t tk k) h4
  | dict => cases h2
/-- the law's call, its promise leaning on tables of code objects; all that stands in the heap but these and the script is the base -/
theorem law_callG {P : Program} {w : World} {K : PySem.W.Frag} {mg mb : Str → Option Value} {k : Nat} {fa a : Addr} {cs : List (Addr × Addr)} {fd : FuncData} {x : Str} {sp : Sp} {s : Shared} {vs : List Value} {ns : List Int}
    (kin : K.In s.heap) (g1 : s.heap.Ns mainGlobals mg) (g2 : s.heap.Ns builtinsNs mb) (g3 : ∀ y : Str, y ≠ "__name__" → mb y = bootBuiltins y) (g4 : s.heap.NoLimit) (g5 : s.gens = #[])
    (t1 : ∀ p ∈ cs, s.heap.get? p.2 = some { cls := .none, data := .fields #[] }) (t2 : ∀ p ∈ cs, K.lookup p.2 = none) (t3 : ∀ p ∈ cs, PySem.W.CodeHd s.heap p.1 p.2)
    (bm : ∃ (b : Addr) (o : Obj), mg "__builtins__" = some (.ref b) ∧ b ≠ builtinsNs ∧ s.heap.get? b = some o ∧ o.cls = .type "module" ∧ o.dict = some builtinsNs ∧ o.data = .plain)
    (ha : s.heap.get? a = some { cls := .type "list", data := .seq vs.toArray }) (iv : IntsAre vs ns) (hz : ns.length ≤ sizeLine) (rm : Room k callerA)
    (F : ∀ b : Heap, K.In b → b.Ns mainGlobals mg → (∀ p ∈ cs, GxR.TabB b mg p.1 p.2) → FnG P w K mg b k fa fd [x] sp) (bd : ∀ (s : Shared) (u : Value), BindsTo s fd ⟨[u], []⟩ [(x, u)])
    (hs : ∀ H : Hp, (∀ p ∈ cs, H p.2 = some (.tbl #[])) → SqL K H a (ns.map V.int) → sp [.ref a] H (fun v _ => v = .bl true) fun _ _ _ => False) :
    codeAny (model P w) callerA (.call (.ref fa) ⟨[.ref a], []⟩) (fun r s' => r = .ok (.ret (.bool true)) ∧ OldK s.heap s'.heap ∧ s'.os = s.os ∧ AllBare s'.gens) s := by
  have tIn : ∀ b, b ∈ cs.map (·.2) → s.heap.get? b = some { cls := .none, data := .fields #[] } := fun b hb => (List.mem_map.mp hb).elim fun p z => z.2 ▸ t1 p z.1
  have aOut : a ∉ cs.map (·.2) := fun z => by
    have e := (tIn a z).symm.trans ha
    cases e
  -- the tables are followed; the script's list too, unless it is written
  let H : Hp := fun b => if b ∈ cs.map (·.2) then some (.tbl #[]) else if b = a ∧ K.lookup a = none then some (.frz { cls := .type "list", data := .seq vs.toArray } (.lst (ns.map V.int))) else none
  have hT : ∀ p ∈ cs, H p.2 = some (.tbl #[]) := fun p hp => if_pos (List.mem_map.mpr ⟨p, hp, rfl⟩)
  have cases3 : ∀ b, H b = none ∨ (b ∈ cs.map (·.2) ∧ H b = some (.tbl #[])) ∨ (b = a ∧ K.lookup a = none ∧ H b = some (.frz { cls := .type "list", data := .seq vs.toArray } (.lst (ns.map V.int)))) := fun b => by
    by_cases c1 : b ∈ cs.map (·.2)
    · exact .inr (.inl ⟨c1, if_pos c1⟩)
    · by_cases c2 : b = a ∧ K.lookup a = none
      · exact .inr (.inr ⟨c2.1, c2.2, (if_neg c1).trans (if_pos c2)⟩)
      · exact .inl ((if_neg c1).trans (if_neg c2))
  have sc : SqL K H a (ns.map V.int) := by
    cases e : K.lookup a with
    | none => exact .inl (.inr ⟨_, (if_neg aOut).trans (if_pos ⟨rfl, e⟩)⟩)
    | some o =>
      have e2 := (kin a o e).symm.trans ha
      cases e2
      exact .inr ⟨_, vs.toArray, _, e, rfl, rfl, rfl, by rw [List.size_toArray, iv.length]; exact hz, by simpa using vals_ints iv⟩
  have ok : HOk P w H s.heap := fun b u e => by
    rcases cases3 b with z | ⟨m, z⟩ | ⟨rfl, _, z⟩
    · rw [z] at e; cases e
    · rw [z] at e; cases e
      exact tIn b m
    · rw [z] at e; cases e
      exact ⟨ha, by rw [List.length_map]; exact hz, vs, _, vals_ints iv, ha⟩
  -- what is neither a list nor such a table is not followed
  have out : ∀ {b : Addr} {o : Obj}, s.heap.get? b = some o → (∀ v n, o.data ≠ .seq v n) → o.data ≠ .fields #[] → (hidT s.heap H).get? b = some o := fun {b o} e d1 d2 => hidT_get e (by
    rcases cases3 b with z | ⟨m, _⟩ | ⟨rfl, _, _⟩
    · exact z
    · have := (tIn b m).symm.trans e
      cases this
      exact absurd rfl d2
    · have := ha.symm.trans e
      cases this
      exact absurd rfl (d1 _ _))
  have ns2 : ∀ {b : Addr} {m : Str → Option Value}, s.heap.Ns b m → (hidT s.heap H).Ns b m := fun {b m} ⟨o, es, ep, e, dt, r⟩ => ⟨o, es, ep, out e (fun v n z => by rw [dt] at z; cases z) (fun z => by rw [dt] at z; cases z), dt, r⟩
  have kin2 : K.In (hidT s.heap H) := fun b o e => hidT_get (kin b o e) (by
    rcases cases3 b with z | ⟨m, _⟩ | ⟨rfl, z, _⟩
    · exact z
    · obtain ⟨p, hp, rfl⟩ := List.mem_map.mp m
      rw [t2 p hp] at e; cases e
    · rw [z] at e; cases e)
  have tb : ∀ p ∈ cs, GxR.TabB (hidT s.heap H) mg p.1 p.2 := fun p hp => by
    refine ⟨?_, ?_, fun z => ?_⟩
    · obtain ⟨o, us, fl, tf, flg, tg, inF, tx, tt, e, r1, r2, r⟩ := t3 p hp
      exact ⟨o, us, fl, tf, flg, tg, inF, tx, tt, out e (fun v n z => by rw [r2] at z; cases z) (fun z => by
        rw [r2] at z
        cases z
        have := r.1
        simp at this), r1, r2, r⟩
    · obtain ⟨b, o, b1, b2, b3, b4, b5, b6⟩ := bm
      refine ⟨b, o, b1, b2, fun q => ?_, fun q => ?_, out b3 (fun v n z => by rw [b6] at z; cases z) (fun z => by rw [b6] at z; cases z), b4, b5, b6⟩
      · obtain ⟨o2, es, ep, e, dt, _⟩ := g1
        rw [← q, b3] at e; cases e
        rw [b6] at dt; cases dt
      · rw [q, t1 p hp] at b3; cases b3
        cases b6
    · obtain ⟨o2, es, ep, e, dt, _⟩ := g1
      have t1p := t1 p hp
      rw [← z, e] at t1p
      cases t1p
      cases dt
  have mod : L2.Mod K mg (hidT s.heap H) := ⟨kin2, ns2 g1, ⟨mb, ns2 g2, g3⟩, g4.elim fun mc z => ⟨mc, ns2 z.1, z.2⟩⟩
  refine codeAny_mono ((F _ kin2 (ns2 g1) tb).run callerA [] s H ⟨[.ref a], []⟩ [.ref a] [.ref a] _ _ rfl rm ⟨rfl, mod, fun b o e => of_hidT e, Nat.le_of_eq (hidT_size _ _), trivial, fun b hb => (by cases hb), ok, .of_eq g5⟩ (bd s (.ref a)) (.cons rfl .nil) (hs H hT sc)) fun r s' h => ?_
  rcases r with e | fl
  · exact h.elim
  cases fl with
  | next => exact h.elim
  | brk => exact h.elim
  | cont => exact h.elim
  | ret u =>
    obtain ⟨v, H', os, bare, un, ok', rv, q⟩ := h
    obtain rfl : v = .bl true := q
    obtain rfl : u = Value.bool true := rv
    have same : ∀ b o, b ∉ cs.map (·.2) → s.heap.get? b = some o → s'.heap.get? b = some o := fun b o nb e => by
      rcases cases3 b with z | ⟨m, _⟩ | ⟨rfl, _, z⟩
      · exact un.keep b o e z (fun m => by cases m) (fun m => by cases m)
      · exact absurd m nb
      · exact (ha.symm.trans e) ▸ (ok' b _ (un.frzs b _ _ z)).1
    have grow : ∀ p ∈ cs, ∃ m : Array Value, s'.heap.get? p.2 = some { cls := .none, data := .fields m } := fun p hp => (un.tbls p.2 #[] (hT p hp)).elim fun m z => ⟨_, ok' p.2 _ z⟩
    refine ⟨rfl, ⟨fun b o e => ?_, fun b o e => ?_⟩, os, bare⟩
    · by_cases m : b ∈ cs.map (·.2)
      · obtain ⟨p, hp, rfl⟩ := List.mem_map.mp m
        obtain ⟨mr, hm⟩ := grow p hp
        have e3 := (t1 p hp).symm.trans e
        cases e3
        exact .inr (.inl ⟨((t3 p hp).tab (t1 p hp)).isCodeTable, rfl, #[], mr, rfl, by rw [Array.empty_append]; exact hm⟩)
      · exact .inl (same b o m e)
    · by_cases m : b ∈ cs.map (·.2)
      · obtain ⟨p, hp, rfl⟩ := List.mem_map.mp m
        exact (grow p hp).elim fun mr hm => ⟨_, hm⟩
      · exact ⟨o, same b o m e⟩
def LawG (l : PySem.W.OpenLaw) (w : World) (K : PySem.W.Frag) (k n : Nat) (x : Str) (mg : Str → Option Value) (fa : Addr) (h : Heap) : Prop :=
  ∃ (fd : FuncData) (cs : List (Addr × Addr)) (sp : Sp), (∀ p ∈ cs, h.get? p.2 = some { cls := .none, data := .fields #[] }) ∧ (∀ p ∈ cs, K.lookup p.2 = none) ∧ (∀ p ∈ cs, PySem.W.CodeHd h p.1 p.2) ∧ (∀ (s : Shared) (u : Value), BindsTo s fd ⟨[u], []⟩ [(x, u)]) ∧
    (∀ (H : Hp) (a : Addr) (ns : List Int), ns.length ≤ n → (∀ z ∈ ns, Builtin.Int.intBits z ≤ 1048576) → (∀ p ∈ cs, H p.2 = some (.tbl #[])) → SqL K H a (ns.map V.int) → sp [.ref a] H (fun v _ => v = .bl true) fun _ _ _ => False) ∧
    ∀ b : Heap, K.In b → b.Ns mainGlobals mg → (∀ p ∈ cs, GxR.TabB b mg p.1 p.2) → FnG l.prog w K mg b k fa fd [x] sp
end Ky

namespace Ky
open PySem PySem.Spec PyProof.Rows L2
local macro_rules | `(tactic| walk_at "rd") => `(tactic| repeat (first
  | with_reducible refine w_for1 ?_
  | with_reducible refine w_for2 ?_
  | with_reducible refine w_forL ?_
  | with_reducible refine w_forT ?_
  | with_reducible refine w_lc1 ?_
  | with_reducible refine w_lcL ?_
  | with_reducible refine w_lcT ?_
  | with_reducible refine w_dcL ?_
  | with_reducible refine w_dcT ?_
  | with_reducible refine w_seq ?_
  | with_reducible refine w_asg ?_
  | with_reducible refine w_ret ?_
  | with_reducible refine w_drop ?_
  | with_reducible refine w_ifs ?_
  | ((with_reducible refine' w_var ?hh ?_); (case hh => exact rfl))
  | with_reducible refine w_c ?_
  | with_reducible refine w_op ?_
  | with_reducible refine w_un ?_
  | with_reducible refine w_I0 ?_
  | with_reducible refine w_U ?_
  | with_reducible refine w_nil ?_
  | with_reducible refine w_cons ?_
  | with_reducible refine w_call ?_
  | with_reducible refine w_cb ?_
  | with_reducible refine w_test ?_
  | with_reducible refine w_B ?_
  | with_reducible refine w_bl ?_
  | with_reducible refine w_and ?_
  | with_reducible refine w_or ?_
  | with_reducible refine w_not ?_
  | with_reducible refine w_ife ?_
  | with_reducible refine w_gRd ?_
  | with_reducible refine w_andV ?_
  | with_reducible refine w_orV ?_
  | with_reducible refine w_notV ?_
  | with_reducible refine w_chain ?_
  | with_reducible refine w_din ?_
  | with_reducible refine w_isi_ii ?_
  | with_reducible refine w_isi_bi ?_
  | with_reducible refine w_isi_bb ?_
  | with_reducible refine w_isi_bt ?_
  | with_reducible refine w_isi_si ?_
  | with_reducible refine w_isi_nt ?_
  | with_reducible refine w_isi_ib ?_
  | with_reducible refine w_isi_it ?_
  | with_reducible refine w_isi_st ?_
  | ((with_reducible refine w_isi_tt ?h1 ?_); (case h1 => first | assumption | exact upd_same))
  | with_reducible refine if_t rfl ?_
  | with_reducible refine if_f rfl ?_
  | with_reducible refine w_tup ?_
  | with_reducible refine w_lst ?_
  | with_reducible refine w_next ?_
  | with_reducible refine w_bm ?_
  | with_reducible refine w_sl ?_
  | with_reducible refine w_part ?_
  | with_reducible refine w_nop ?_
  | with_reducible refine w_isI ?_
  | with_reducible refine w_yes ?_
  | with_reducible refine w_gn ?_
  | with_reducible refine w_gsub ?_
  | ((with_reducible refine' w_setL ?h1 ?h2 ?_); (case h1 => first | assumption | exact upd_same); (case h2 => exact rfl))
  | with_reducible refine w_asgG ?_
  | with_reducible refine w_m1 ?_
  | with_reducible refine w_isS ?_
  | with_reducible refine w_tyS ?_
  | ((with_reducible refine' w_tyL ?h1 ?_); (case h1 => first | assumption | exact upd_same))
  | ((with_reducible refine' w_ixT ?h1 ?h2 ?_); (case h1 => first | assumption | exact upd_same); (case h2 => exact rfl))
  | ((with_reducible refine' w_ixL ?h1 ?h2 ?_); (case h1 => first | assumption | exact upd_same); (case h2 => exact rfl))
  | ((with_reducible refine w_eq ?h1 ?_); (case h1 => exact rfl))
  | ((with_reducible refine w_ne ?h1 ?_); (case h1 => exact rfl))
  | ((with_reducible refine' w_text ?hT ?h1 ?h2 ?_); (case hT => assumption); (case h1 => exact rfl); (case h2 => first | assumption | exact upd_same))
  | ((with_reducible refine' w_at ?hT ?h1 ?h2 ?_); (case hT => assumption); (case h1 => exact rfl); (case h2 => first | assumption | exact upd_same))
  | ((with_reducible refine' w_token ?hT ?h1 ?h2 ?_); (case hT => assumption); (case h1 => exact rfl); (case h2 => first | assumption | exact upd_same))
  | with_reducible refine w_sfld0 ?_
  | with_reducible refine w_mkx ?_
  | with_reducible refine w_nonR ?_
  | with_reducible refine w_bm0 ?_
  | ((with_reducible refine' w_putAt ?hT ?h2 ?_); (case hT => assumption); (case h2 => first | assumption | exact upd_same))
  | ((with_reducible refine' w_putToken ?hT ?h2 ?_); (case hT => assumption); (case h2 => first | assumption | exact upd_same))
  | dsimp only [List.set_cons_zero, List.set_cons_succ, List.append_nil, List.cons_append, List.nil_append, cxOf]))

open TL
def lettersS : Str := Str.ofString "abcdefghijklmnopqrstuvwxyz"
structure Tx (K : PySem.W.Frag) (mg : Str → Option Value) (uD uN uF uT uC uB uX uU uL : Value) (aB : Addr) : Prop where
  z_isinstance : mg "isinstance" = none
  z_int : mg "int" = none
  z_bool : mg "bool" = none
  z_tuple : mg "tuple" = none
  z_str : mg "str" = none
  z_abs : mg "abs" = none
  z_all : mg "all" = none
  z_len : mg "len" = none
  z_list : mg "list" = none
  z_range : mg "range" = none
  z_ord : mg "ord" = none
  z_repr : mg "repr" = none
  g_DEEPEST : mg "_DEEPEST" = some uD
  v_DEEPEST : RelV (.int 60) uD
  g_NONE : mg "_NONE" = some uN
  v_NONE : RelV (.int 0) uN
  g_FALSE : mg "_FALSE" = some uF
  v_FALSE : RelV (.int 1) uF
  g_TRUE : mg "_TRUE" = some uT
  v_TRUE : RelV (.int 2) uT
  g_COUNT : mg "_COUNT" = some uC
  v_COUNT : RelV (.int 3) uC
  g_BELOW : mg "_BELOW" = some uB
  v_BELOW : RelV (.int 4) uB
  g_TEXT : mg "_TEXT" = some uX
  v_TEXT : RelV (.int 5) uX
  g_TUPLE : mg "_TUPLE" = some uU
  v_TUPLE : RelV (.int 6) uU
  g_LETTERS : mg "_LETTERS" = some uL
  v_LETTERS : RelV (.str lettersS) uL
  g_BARE : mg "_BARE" = some (.ref aB)
  v_BARE : RelV (.ref aB) (.ref aB)
  bare : ∀ H, SqT K H aB [.non, .bl false, .bl true]
def natsV (l : List Nat) : List V := l.map fun n => V.int (n : Nat)
def spSizeB : Sp := fun vs H Q _ => ∃ n : Nat, vs = [.int (n : Nat)] ∧ n < 2 ^ 1000 ∧ ∀ p H', Kept H H' → H p = none → H' p = some (.lst (natsV (sizeB n))) → Q (.ref p) H'
section
variable {P : Program} {w : World} {K : PySem.W.Frag} {mg : Str → Option Value} {base : Heap} {uD uN uF uT uC uB uX uU uL : Value} {f c Pt aB : Addr} {fd : FuncData}
theorem ok_size_bytes (F : Fun K "size_bytes" "size_bytes" s_size_bytes f fd) (T : Tx K mg uD uN uF uT uC uB uX uU uL aB) : FnOk P w K mg base CX0 1 f fd ["n"] spSizeB := by
  refine F.ok sc_size_bytes (fun vs H Q E h => ?_) (fun cdv A outer s H vs Q E hr h => ?_)
  · obtain ⟨n, rfl, _⟩ := h
    rfl
  · obtain ⟨n, rfl, hn, k⟩ := h
    have hsl : 16000000 ≤ sizeLine := by decide
    refine ⟨_, (pss_cons (ps_set (i := 1) sc_size_bytes.nd rfl (.inl rfl) (pe_lst pa_nil))
    (pss_cons (ps_while PassesOwn.never (pt_cmpR op_ge (pv 0) pe_int (nomark _))
      (pss_cons (ps_expr (pe_bm PySem.F.plainAttrs_list PySem.F.slot_list_append PySem.F.type_list_append mt_append (pv 1) (pa_cons (pe_op op_add (pe_op op_mod (pv 0) pe_int) pe_int) pa_nil)))
    (pss_one (ps_set (i := 0) sc_size_bytes.nd rfl (.inl rfl) (pe_op op_fdivW (pv 0) pe_int)))))
    (pss_one (ps_ret (pe_op op_cat (pv 1) (pe_lst (pa_cons (pv 0) pa_nil))))))), ?_⟩
    rw [show start n_size_bytes [(.int (n : Nat) : V)] = ([some (.int (n : Nat)), none] : List (Option V)) from rfl]
    walk_at "rd"
    refine ⟨Nat.zero_le _, fun p hp => ?_⟩
    have k1 := Kept.new (o := .lst []) hp
    have g1 : (upd H p (.lst [])) p = some (.lst (natsV [])) := upd_same
    generalize upd H p (.lst []) = H1 at k1 g1 ⊢
    walk_at "rd"
    refine ⟨fun m σ' H' => ∃ (a : Nat) (ds : List Nat), σ' = [some (.int (a : Nat)), some (.ref p)] ∧ a < m ∧ a * 2 ^ ds.length < 2 ^ 1000 ∧ Kept H H' ∧ H' p = some (.lst (natsV ds)) ∧ sizeB n = ds ++ sizeB a ∧ ds.length ≤ 1000, ⟨n + 1, n, [], rfl, by omega, by simpa using hn, k1, g1, rfl, by simp⟩, ?_⟩
    rintro m σ' H2 ⟨a, ds, rfl, ha, hb, k2, g2, e2, hl⟩
    walk_at "rd"
    by_cases c : 128 ≤ a
    · refine if_t (decide_eq_true (by omega)) ?_
      refine ⟨fun σ3 H3 => ∃ (a' : Nat) (ds' : List Nat), σ3 = [some (.int (a' : Nat)), some (.ref p)] ∧ a' < a ∧ a' * 2 ^ ds'.length < 2 ^ 1000 ∧ Kept H H3 ∧ H3 p = some (.lst (natsV ds')) ∧ sizeB n = ds' ++ sizeB a' ∧ ds'.length ≤ 1000, ?_, ?_⟩
      · rintro σ3 H3 ⟨a', ds', rfl, h1, h2, h3, h4, h5, h6⟩
        exact ⟨a' + 1, by omega, a', ds', rfl, by omega, h2, h3, h4, h5, h6⟩
      have hl2 : ds.length < 1000 := by
        have h1 : 1 * 2 ^ ds.length ≤ a * 2 ^ ds.length := Nat.mul_le_mul_right _ (by omega)
        rw [Nat.one_mul] at h1
        exact (Nat.pow_lt_pow_iff_right (by decide : 1 < 2)).mp (Nat.lt_of_le_of_lt h1 hb)
      walk_at "rd"
      refine ⟨_, _, rfl, rfl, (show (0 : Int) < 128 by decide), ?_⟩
      walk_at "rd"
      rw [show ((a : Nat) : Int) % 128 + 128 = ((a % 128 + 128 : Nat) : Int) by omega]
      refine w_app g2 (by unfold natsV; rw [List.length_map]; omega) ?_
      walk_at "rd"
      refine ⟨_, _, rfl, rfl, ⟨by decide, by decide⟩, ?_⟩
      dsimp only
      rw [show ((a : Nat) : Int) / 128 = ((a / 128 : Nat) : Int) by omega]
      refine ⟨a / 128, ds ++ [a % 128 + 128], rfl, by omega, ?_, Kept.mut k2 hp, by rw [upd_same]; unfold natsV; rw [List.map_append] <;> rfl, by rw [e2, sizeB_big (by omega), List.append_assoc] <;> rfl, by rw [List.length_append, List.length_singleton]; omega⟩
      rw [List.length_append, List.length_singleton, Nat.pow_succ]
      have h1 : a / 128 * (2 ^ ds.length * 2) = a / 128 * 2 * 2 ^ ds.length := by rw [Nat.mul_comm (2 ^ ds.length), ← Nat.mul_assoc]
      have h2 : a / 128 * 2 * 2 ^ ds.length ≤ a * 2 ^ ds.length := Nat.mul_le_mul_right _ (by omega)
      omega
    · refine if_f (decide_eq_false (by omega)) ?_
      walk_at "rd"
      refine ⟨by show 1 ≤ sizeLine; omega, fun q hq => ?_⟩
      have k3 := Kept.new (o := .lst [.int (a : Nat)]) hq
      have g3 : (upd H2 q (.lst [.int (a : Nat)])) q = some (.lst [V.int (a : Nat)]) := upd_same
      have g2' := k3.lst g2
      generalize upd H2 q (.lst [.int (a : Nat)]) = H3 at k3 g3 g2' ⊢
      refine ⟨p, q, _, _, rfl, rfl, g2', g3, by unfold natsV; rw [List.length_map]; show ds.length + 1 ≤ _; omega, fun l hl3 => ?_⟩
      refine k l _ ((k2.trans k3).trans (Kept.new hl3)) ((k2.trans k3).free _ hl3) ?_
      rw [upd_same, e2, sizeB_small (by omega)]
      unfold natsV
      rw [List.map_append] <;> rfl
/-- a value's kind, a list or a dict that is no plain value among them -/
def TrX (H : Hp) : Option Tr → V → Prop
  | some t, v => TrAt H t v
  | none, v => ∃ a, v = .ref a ∧ ((∃ xs, H a = some (.lst xs)) ∨ ∃ kvs, H a = some (.dK kvs))
theorem isi_x {K : PySem.W.Frag} {H : Hp} {Q : VK} {v : V} {o : Option Tr} {c : String} (h : TrX H o v) (hc : ∃ b, (match o with
    | some (.i _) => PySem.W.kitOne K (.type "int") (.type c) = some b
    | some (.b _) => PySem.W.kitOne K (.type "bool") (.type c) = some b
    | some (.s _) => PySem.W.kitOne K (.type "str") (.type c) = some b
    | some .n => PySem.W.kitOne K (.type "NoneType") (.type c) = some b
    | some (.t _) => PySem.W.kitOne K (.type "tuple") (.type c) = some b
    | none => PySem.W.kitOne K (.type "list") (.type c) = some b ∧ PySem.W.kitOne K (.type "dict") (.type c) = some b) ∧ Q (.bl b) H) : rIsi K [v, .ty c] H Q := by
  obtain ⟨b, hb, q⟩ := hc
  cases o with
  | none =>
    obtain ⟨a, rfl, h | h⟩ := h
    · obtain ⟨xs, h⟩ := h
      exact ⟨_, _, _, _, b, rfl, .ty _, .base (.lst h), hb.1, q⟩
    · obtain ⟨kvs, h⟩ := h
      exact ⟨_, _, _, _, b, rfl, .ty _, .base (.dK h), hb.2, q⟩
  | some t =>
    have h : TrAt H t v := h
    cases t with
    | i n => unfold TrAt at h; rw [h]; exact ⟨_, _, _, _, b, rfl, .ty _, .base (.int n), hb, q⟩
    | b x => unfold TrAt at h; rw [h]; exact ⟨_, _, _, _, b, rfl, .ty _, .base (.bl x), hb, q⟩
    | s z => unfold TrAt at h; rw [h]; exact ⟨_, _, _, _, b, rfl, .ty _, .base (.str z), hb, q⟩
    | n => unfold TrAt at h; rw [h]; exact ⟨_, _, _, _, b, rfl, .ty _, .base .non, hb, q⟩
    | t l =>
      unfold TrAt at h
      obtain ⟨p, xs, rfl, h1, _⟩ := h
      exact ⟨_, _, _, _, b, rfl, .ty _, .base (.tup h1), hb, q⟩
end
end Ky

namespace Ky
open PySem PySem.Spec PyProof.Rows L2
local macro_rules | `(tactic| walk_at "rd") => `(tactic| repeat (first
  | with_reducible refine w_for1 ?_
  | with_reducible refine w_for2 ?_
  | with_reducible refine w_forL ?_
  | with_reducible refine w_forT ?_
  | with_reducible refine w_lc1 ?_
  | with_reducible refine w_lcL ?_
  | with_reducible refine w_lcT ?_
  | with_reducible refine w_dcL ?_
  | with_reducible refine w_dcT ?_
  | with_reducible refine w_seq ?_
  | with_reducible refine w_asg ?_
  | with_reducible refine w_ret ?_
  | with_reducible refine w_drop ?_
  | with_reducible refine w_ifs ?_
  | ((with_reducible refine' w_var ?hh ?_); (case hh => exact rfl))
  | with_reducible refine w_c ?_
  | with_reducible refine w_op ?_
  | with_reducible refine w_un ?_
  | with_reducible refine w_I0 ?_
  | with_reducible refine w_U ?_
  | with_reducible refine w_nil ?_
  | with_reducible refine w_cons ?_
  | with_reducible refine w_call ?_
  | with_reducible refine w_cb ?_
  | with_reducible refine w_test ?_
  | with_reducible refine w_B ?_
  | with_reducible refine w_bl ?_
  | with_reducible refine w_and ?_
  | with_reducible refine w_or ?_
  | with_reducible refine w_not ?_
  | with_reducible refine w_ife ?_
  | with_reducible refine w_gRd ?_
  | with_reducible refine w_andV ?_
  | with_reducible refine w_orV ?_
  | with_reducible refine w_notV ?_
  | with_reducible refine w_chain ?_
  | with_reducible refine w_din ?_
  | with_reducible refine w_isi_ii ?_
  | with_reducible refine w_isi_bi ?_
  | with_reducible refine w_isi_bb ?_
  | with_reducible refine w_isi_bt ?_
  | with_reducible refine w_isi_si ?_
  | with_reducible refine w_isi_nt ?_
  | with_reducible refine w_isi_ib ?_
  | with_reducible refine w_isi_it ?_
  | with_reducible refine w_isi_st ?_
  | ((with_reducible refine w_isi_tt ?h1 ?_); (case h1 => first | assumption | exact upd_same))
  | with_reducible refine if_t rfl ?_
  | with_reducible refine if_f rfl ?_
  | with_reducible refine w_tup ?_
  | with_reducible refine w_lst ?_
  | with_reducible refine w_next ?_
  | with_reducible refine w_bm ?_
  | with_reducible refine w_sl ?_
  | with_reducible refine w_part ?_
  | with_reducible refine w_nop ?_
  | with_reducible refine w_isI ?_
  | with_reducible refine w_yes ?_
  | with_reducible refine w_gn ?_
  | with_reducible refine w_gsub ?_
  | ((with_reducible refine' w_setL ?h1 ?h2 ?_); (case h1 => first | assumption | exact upd_same); (case h2 => exact rfl))
  | with_reducible refine w_asgG ?_
  | with_reducible refine w_m1 ?_
  | with_reducible refine w_isS ?_
  | with_reducible refine w_tyS ?_
  | ((with_reducible refine' w_tyL ?h1 ?_); (case h1 => first | assumption | exact upd_same))
  | ((with_reducible refine' w_ixT ?h1 ?h2 ?_); (case h1 => first | assumption | exact upd_same); (case h2 => exact rfl))
  | ((with_reducible refine' w_ixL ?h1 ?h2 ?_); (case h1 => first | assumption | exact upd_same); (case h2 => exact rfl))
  | ((with_reducible refine w_eq ?h1 ?_); (case h1 => exact rfl))
  | ((with_reducible refine w_ne ?h1 ?_); (case h1 => exact rfl))
  | ((with_reducible refine' w_text ?hT ?h1 ?h2 ?_); (case hT => assumption); (case h1 => exact rfl); (case h2 => first | assumption | exact upd_same))
  | ((with_reducible refine' w_at ?hT ?h1 ?h2 ?_); (case hT => assumption); (case h1 => exact rfl); (case h2 => first | assumption | exact upd_same))
  | ((with_reducible refine' w_token ?hT ?h1 ?h2 ?_); (case hT => assumption); (case h1 => exact rfl); (case h2 => first | assumption | exact upd_same))
  | with_reducible refine w_sfld0 ?_
  | with_reducible refine w_mkx ?_
  | with_reducible refine w_nonR ?_
  | with_reducible refine w_bm0 ?_
  | ((with_reducible refine' w_putAt ?hT ?h2 ?_); (case hT => assumption); (case h2 => first | assumption | exact upd_same))
  | ((with_reducible refine' w_putToken ?hT ?h2 ?_); (case hT => assumption); (case h2 => first | assumption | exact upd_same))
  | dsimp only [List.set_cons_zero, List.set_cons_succ, List.append_nil, List.cons_append, List.nil_append, cxOf]))

open TL
theorem range_allB {α : Type} (d : α) (p : α → Bool) (xs : List α) : ((List.range xs.length).all fun i => p (xs.getD i d)) = xs.all p := by
  rw [Bool.eq_iff_iff, List.all_eq_true, List.all_eq_true]
  constructor
  · intro h x hx
    obtain ⟨i, hi, e⟩ := List.getElem_of_mem hx
    have q := h i (List.mem_range.mpr hi)
    rw [List.getD_eq_getElem?_getD, List.getElem?_eq_getElem hi, e] at q
    exact q
  · intro h i hi
    have hi := List.mem_range.mp hi
    rw [List.getD_eq_getElem?_getD, List.getElem?_eq_getElem hi]
    exact h _ (List.getElem_mem hi)
theorem g_str {x : Str} {te : TE} {σ : L2.St} {j : Nat} {H0 : Hp} {cont : Bool} {Q : VK} (bf : Nat → Bool) (Hs : Hp → Prop) (h0 : Hs H0)
    (step : ∀ i H (k : VK), i < x.cps.size → Hs H → (∀ H', Hs H' → k (.bl (bf i)) H') → te ((wipe σ [j]).set j (some (.str ⟨#[x.cps.getD i 0]⟩))) H k)
    (fin : ∀ H, Hs H → Q (.bl (if cont = true then (List.range x.cps.size).all bf else (List.range x.cps.size).any bf)) H) : ∃ W : Nat → Nat → Hp → Prop, (∃ m, W 0 m H0) ∧ GTurn (Its x) (gName j) te (wipe σ [j]) [j] Q cont W :=
  g_walk (xv := fun i => .str ⟨#[x.cps.getD i 0]⟩) bf Hs h0 (fun i H h _ => h) (fun i H y H' _ _ h => by
    obtain ⟨e, c, hc, rfl⟩ := h
    refine ⟨e, ?_⟩
    rw [Array.getD_eq_getD_getElem?, hc]
    rfl) (fun H _ => Nat.le_refl _) (fun i H k hi hs hk => step i H k hi hs hk) fin
def kInt : Option Tr → Bool
  | some (.i _) => true
  | some (.b _) => true
  | _ => false
theorem isi_int {K : PySem.W.Frag} {H : Hp} {Q : VK} {v : V} {o : Option Tr} (h : TrX H o v) (q : Q (.bl (kInt o)) H) : rIsi K [v, .ty "int"] H Q := isi_x h ⟨kInt o, by
  cases o with
  | none => exact ⟨kit_ty (r := false) (by decide +kernel), kit_ty (r := false) (by decide +kernel)⟩
  | some t => cases t <;> first | exact kit_ty (r := true) (by decide +kernel) | exact kit_ty (r := false) (by decide +kernel), q⟩
def kBool : Option Tr → Bool
  | some (.b _) => true
  | _ => false
theorem isi_bool {K : PySem.W.Frag} {H : Hp} {Q : VK} {v : V} {o : Option Tr} (h : TrX H o v) (q : Q (.bl (kBool o)) H) : rIsi K [v, .ty "bool"] H Q := isi_x h ⟨kBool o, by
  cases o with
  | none => exact ⟨kit_ty (r := false) (by decide +kernel), kit_ty (r := false) (by decide +kernel)⟩
  | some t => cases t <;> first | exact kit_ty (r := true) (by decide +kernel) | exact kit_ty (r := false) (by decide +kernel), q⟩
def kStr : Option Tr → Bool
  | some (.s _) => true
  | _ => false
theorem isi_str {K : PySem.W.Frag} {H : Hp} {Q : VK} {v : V} {o : Option Tr} (h : TrX H o v) (q : Q (.bl (kStr o)) H) : rIsi K [v, .ty "str"] H Q := isi_x h ⟨kStr o, by
  cases o with
  | none => exact ⟨kit_ty (r := false) (by decide +kernel), kit_ty (r := false) (by decide +kernel)⟩
  | some t => cases t <;> first | exact kit_ty (r := true) (by decide +kernel) | exact kit_ty (r := false) (by decide +kernel), q⟩
def kTup : Option Tr → Bool
  | some (.t _) => true
  | _ => false
theorem isi_tuple {K : PySem.W.Frag} {H : Hp} {Q : VK} {v : V} {o : Option Tr} (h : TrX H o v) (q : Q (.bl (kTup o)) H) : rIsi K [v, .ty "tuple"] H Q := isi_x h ⟨kTup o, by
  cases o with
  | none => exact ⟨kit_ty (r := false) (by decide +kernel), kit_ty (r := false) (by decide +kernel)⟩
  | some t => cases t <;> first | exact kit_ty (r := true) (by decide +kernel) | exact kit_ty (r := false) (by decide +kernel), q⟩
def isI : Option Tr → Bool
  | some (.i _) => true
  | _ => false
def isTx : Option Tr → Bool
  | some (.s z) => (tl z).all isLet
  | _ => false
def spWholeX : Sp := fun vs H Q _ => ∃ (v : V) (o : Option Tr), vs = [v] ∧ TrX H o v ∧ Q (.bl (isI o)) H
def spIsText (Pt : Addr) : Sp := fun vs H Q _ => ∃ (v : V) (o : Option Tr), vs = [v] ∧ TrX H o v ∧ GxR.TabG H Pt ∧ ∀ H', Kept H H' → Q (.bl (isTx o)) H'
theorem letters_mem (c : Nat) : decide (c ∈ lettersS.cps.toList) = isLet c := by
  have e : lettersS.cps.toList = (List.range 26).map (· + 97) := by
    show tl lettersS = _
    unfold lettersS
    rw [tl_ofString]
    decide
  rw [e]
  unfold isLet
  rw [Bool.eq_iff_iff, decide_eq_true_eq, Bool.and_eq_true, decide_eq_true_eq, decide_eq_true_eq, List.mem_map]
  constructor
  · rintro ⟨a, ha, rfl⟩
    have := List.mem_range.mp ha
    omega
  · rintro ⟨h1, h2⟩
    exact ⟨c - 97, List.mem_range.mpr (by omega), by omega⟩
section
variable {P : Program} {w : World} {K : PySem.W.Frag} {mg : Str → Option Value} {base : Heap} {uD uN uF uT uC uB uX uU uL : Value} {f c Pt aB : Addr} {fd : FuncData}
theorem ok_is_whole (F : Fun K "is_whole" "is_whole" s_is_whole f fd) (T : Tx K mg uD uN uF uT uC uB uX uU uL aB) : FnOk P w K mg base CX0 1 f fd ["value"] spWholeX := by
  refine F.ok sc_is_whole (fun vs H Q E h => ?_) (fun cdv A outer s H vs Q E hr h => ?_)
  · obtain ⟨v, o, rfl, _⟩ := h
    rfl
  · obtain ⟨v, o, rfl, ho, k⟩ := h
    refine ⟨_, (pss_one (ps_ret (pe_and (pe_callB (call_isiK (K := K) rfl) (by rfl) T.z_isinstance (by decide +kernel) (pa_cons (pv 0) (pa_cons (pe_bltn (by rfl) T.z_int (by decide +kernel) (show RelV (.ty "int") _ from rfl)) pa_nil))) (pe_one (pe_not (pe_callB (call_isiK (K := K) rfl) (by rfl) T.z_isinstance (by decide +kernel) (pa_cons (pv 0) (pa_cons (pe_bltn (by rfl) T.z_bool (by decide +kernel) (show RelV (.ty "bool") _ from rfl)) pa_nil)))))))), ?_⟩
    rw [show start n_is_whole [(v : V)] = ([some (v)] : List (Option V)) from rfl]
    walk_at "rd"
    refine isi_int ho ?_
    walk_at "rd"
    by_cases c : kInt o = true
    · refine if_t c ?_
      walk_at "rd"
      refine isi_bool ho ⟨_, rfl, ?_⟩
      have e : (!kBool o) = isI o := by
        cases o with
        | none => cases c
        | some t => cases t <;> first | rfl | cases c
      rw [e]
      exact k
    · refine if_f (by simpa using c) ?_
      have e : isI o = false := by
        cases o with
        | none => rfl
        | some t => cases t <;> first | rfl | exact absurd rfl c
      rw [e] at k
      exact k
theorem ok_is_text (F : FunC K "is_text" s_is_text f fd c) (T : Tx K mg uD uN uF uT uC uB uX uU uL aB) (TB : GxR.TabB base mg c Pt) : FnOk P w K mg base CX0 3 f fd ["value"] (spIsText Pt) := by
  refine F.ok sc_is_text (fun vs H Q E h => ?_) (fun A outer s H vs Q E hr h => ?_)
  · obtain ⟨v, o, rfl, _⟩ := h
    rfl
  · obtain ⟨v, o, rfl, ho, hT, k⟩ := h
    refine ⟨_, (pss_one (ps_ret (pe_and (pe_callB (call_isiK (K := K) rfl) (by rfl) T.z_isinstance (by decide +kernel) (pa_cons (pv 0) (pa_cons (pe_bltn (by rfl) T.z_str (by decide +kernel) (show RelV (.ty "str") _ from rfl)) pa_nil))) (pe_one (pe_allG (k := 0) (own := [("sign", 1)]) (g := gName 1) (hr.mono (by decide)) (by rfl) T.z_all (by decide +kernel) rfl sc_is_text.nd TB rfl ⟨blkOk_by (own := [("sign", 1)]) (N := n_is_text) (sc := defScope s_is_text) (by decide +kernel), rfl, by decide +kernel, rfl⟩ (pi_str (pv 0)) (fun _ _ _ _ _ => pg_name (i := 1) sc_is_text.nd rfl (Or.inl rfl)) (fun _ _ _ _ _ hr => (pe_cmpR op_in_sign (pv 1) (pe_glob (by rfl) T.g_LETTERS T.v_LETTERS) (by rfl)))))))), ?_⟩
    rw [show start n_is_text [(v : V)] = ([some (v), none] : List (Option V)) from rfl]
    walk_at "rd"
    refine isi_str ho ?_
    walk_at "rd"
    by_cases cs : kStr o = true
    · refine if_t cs ?_
      obtain ⟨z, rfl⟩ : ∃ z, o = some (.s z) := by
        cases o with
        | none => cases cs
        | some t => cases t <;> first | exact ⟨_, rfl⟩ | cases cs
      have ho : TrAt H (.s z) v := ho
      unfold TrAt at ho
      subst ho
      walk_at "rd"
      refine ⟨_, rfl, z, rfl, hT, fun H2 tb => ?_⟩
      refine g_str (fun i => isLet (z.cps.getD i 0)) (fun H3 => Kept H H3) (Kept.tabbed hT tb) (fun i H3 k3 hi hs hk => ?_) fun H3 hs => ?_
      · walk_at "rd"
        refine ⟨_, _, rfl, rfl, ?_⟩
        rw [letters_mem]
        exact hk H3 hs
      · have e : isTx (some (.s z)) = (List.range z.cps.size).all fun i => isLet (z.cps.getD i 0) := by
          show z.cps.toList.all isLet = _
          have := range_allB 0 isLet z.cps.toList
          rw [← this, Array.length_toList]
          congr 1
          funext i
          rw [List.getD_eq_getElem?_getD, Array.getElem?_toList, Array.getD_eq_getD_getElem?]
        rw [if_pos rfl, ← e]
        exact k H3 hs
    · refine if_f (by simpa using cs) ?_
      have e : isTx o = false := by
        cases o with
        | none => rfl
        | some t => cases t <;> first | rfl | exact absurd rfl cs
      have := k H (Kept.refl _)
      rw [e] at this
      exact this
end
end Ky

namespace Ky
open PySem PySem.Spec PyProof.Rows L2
local macro_rules | `(tactic| walk_at "rd") => `(tactic| repeat (first
  | with_reducible refine w_for1 ?_
  | with_reducible refine w_for2 ?_
  | with_reducible refine w_forL ?_
  | with_reducible refine w_forT ?_
  | with_reducible refine w_lc1 ?_
  | with_reducible refine w_lcL ?_
  | with_reducible refine w_lcT ?_
  | with_reducible refine w_dcL ?_
  | with_reducible refine w_dcT ?_
  | with_reducible refine w_seq ?_
  | with_reducible refine w_asg ?_
  | with_reducible refine w_ret ?_
  | with_reducible refine w_drop ?_
  | with_reducible refine w_ifs ?_
  | ((with_reducible refine' w_var ?hh ?_); (case hh => exact rfl))
  | with_reducible refine w_c ?_
  | with_reducible refine w_op ?_
  | with_reducible refine w_un ?_
  | with_reducible refine w_I0 ?_
  | with_reducible refine w_U ?_
  | with_reducible refine w_nil ?_
  | with_reducible refine w_cons ?_
  | with_reducible refine w_call ?_
  | with_reducible refine w_cb ?_
  | with_reducible refine w_test ?_
  | with_reducible refine w_B ?_
  | with_reducible refine w_bl ?_
  | with_reducible refine w_and ?_
  | with_reducible refine w_or ?_
  | with_reducible refine w_not ?_
  | with_reducible refine w_ife ?_
  | with_reducible refine w_gRd ?_
  | with_reducible refine w_andV ?_
  | with_reducible refine w_orV ?_
  | with_reducible refine w_notV ?_
  | with_reducible refine w_chain ?_
  | with_reducible refine w_din ?_
  | with_reducible refine w_isi_ii ?_
  | with_reducible refine w_isi_bi ?_
  | with_reducible refine w_isi_bb ?_
  | with_reducible refine w_isi_bt ?_
  | with_reducible refine w_isi_si ?_
  | with_reducible refine w_isi_nt ?_
  | with_reducible refine w_isi_ib ?_
  | with_reducible refine w_isi_it ?_
  | with_reducible refine w_isi_st ?_
  | ((with_reducible refine w_isi_tt ?h1 ?_); (case h1 => first | assumption | exact upd_same))
  | with_reducible refine if_t rfl ?_
  | with_reducible refine if_f rfl ?_
  | with_reducible refine w_tup ?_
  | with_reducible refine w_lst ?_
  | with_reducible refine w_next ?_
  | with_reducible refine w_bm ?_
  | with_reducible refine w_sl ?_
  | with_reducible refine w_part ?_
  | with_reducible refine w_nop ?_
  | with_reducible refine w_isI ?_
  | with_reducible refine w_yes ?_
  | with_reducible refine w_gn ?_
  | with_reducible refine w_gsub ?_
  | ((with_reducible refine' w_setL ?h1 ?h2 ?_); (case h1 => first | assumption | exact upd_same); (case h2 => exact rfl))
  | with_reducible refine w_asgG ?_
  | with_reducible refine w_m1 ?_
  | with_reducible refine w_isS ?_
  | with_reducible refine w_tyS ?_
  | ((with_reducible refine' w_tyL ?h1 ?_); (case h1 => first | assumption | exact upd_same))
  | ((with_reducible refine' w_ixT ?h1 ?h2 ?_); (case h1 => first | assumption | exact upd_same); (case h2 => exact rfl))
  | ((with_reducible refine' w_ixL ?h1 ?h2 ?_); (case h1 => first | assumption | exact upd_same); (case h2 => exact rfl))
  | ((with_reducible refine w_eq ?h1 ?_); (case h1 => exact rfl))
  | ((with_reducible refine w_ne ?h1 ?_); (case h1 => exact rfl))
  | ((with_reducible refine' w_text ?hT ?h1 ?h2 ?_); (case hT => assumption); (case h1 => exact rfl); (case h2 => first | assumption | exact upd_same))
  | ((with_reducible refine' w_at ?hT ?h1 ?h2 ?_); (case hT => assumption); (case h1 => exact rfl); (case h2 => first | assumption | exact upd_same))
  | ((with_reducible refine' w_token ?hT ?h1 ?h2 ?_); (case hT => assumption); (case h1 => exact rfl); (case h2 => first | assumption | exact upd_same))
  | with_reducible refine w_sfld0 ?_
  | with_reducible refine w_mkx ?_
  | with_reducible refine w_nonR ?_
  | with_reducible refine w_bm0 ?_
  | ((with_reducible refine' w_putAt ?hT ?h2 ?_); (case hT => assumption); (case h2 => first | assumption | exact upd_same))
  | ((with_reducible refine' w_putToken ?hT ?h2 ?_); (case hT => assumption); (case h2 => first | assumption | exact upd_same))
  | dsimp only [List.set_cons_zero, List.set_cons_succ, List.append_nil, List.cons_append, List.nil_append, cxOf]))

open TL
def ErrA (E : XK) (CE : Addr) (H : Hp) (n : Int) : Prop := ∀ H1 d, Kept H H1 → H1 d = none → E (.ref CE) (some d) (upd H1 d (.xd [(("at" : Str), .int n)]))
theorem sizeB_log : ∀ (n k : Nat), n < 2 ^ k → (sizeB n).length ≤ k + 1 := fun n => by
  induction n using Nat.strongRecOn with
  | ind n ih =>
    intro k hk
    by_cases h : n < 128
    · rw [sizeB_small h]
      simp
    · rw [sizeB_big h, List.length_cons]
      cases k with
      | zero => simp at hk; omega
      | succ k =>
        have := ih (n / 128) (by omega) k (by rw [Nat.pow_succ] at hk; omega)
        omega
theorem sizeB_len (n : Nat) : (sizeB n).length ≤ n + 1 := sizeB_log n n Nat.lt_two_pow_self
def lfO : Option Tr → Option (List Nat)
  | some .n => some [0]
  | some (.b x) => some [if x = true then 2 else 1]
  | some (.i k) => some (if 0 ≤ k then 3 :: sizeB k.toNat else 4 :: sizeB (-1 - k).toNat)
  | some (.s z) => if (tl z).all isLet = true then some (5 :: (sizeB (tl z).length ++ tl z)) else none
  | _ => none
def SmT : Option Tr → Prop
  | some (.i k) => k.natAbs < 2 ^ 900
  | some (.s z) => (tl z).length ≤ 1000
  | _ => True
def spLeafB (Pt CE : Addr) : Sp := fun vs H Q E => ∃ (v : V) (o : Option Tr), vs = [v] ∧ TrX H o v ∧ SmT o ∧ GxR.TabG H Pt ∧ (∀ bs, lfO o = some bs → ∀ p H', Kept H H' → H p = none → H' p = some (.lst (natsV bs)) → Q (.ref p) H') ∧ (lfO o = none → ErrA E CE H (-1))
theorem TrX.kept {H H' : Hp} {o : Option Tr} {v : V} (h : TrX H o v) (k : Kept H H') : TrX H' o v := by
  cases o with
  | some t => exact TrAt.kept (a := t) h k
  | none =>
    obtain ⟨a, rfl, h | h⟩ := h
    · exact ⟨a, rfl, .inl (h.imp fun xs e => k.lst e)⟩
    · exact ⟨a, rfl, .inr (h.imp fun kvs e => k.keep a _ (fun ps z => by cases z) e)⟩
theorem w_lcS {σ : L2.St} {H : Hp} {Q : VK} {g : TG} {tt : TT} {te te2 : TE} {vs : List Nat} (q : te2 σ H fun v H1 => ∃ x, v = .str x ∧ LcJ g tt te vs σ Q (Its x) H1) : tLc (iStr te2) g tt te vs σ H Q := q
theorem LcS.run {x : Str} {j : Nat} {H0 : Hp} {Q : VK} {σ : L2.St} {tt : TT} {te : TE} (f : Nat → V) (hn : x.cps.size ≤ sizeLine)
    (step : ∀ i H (k : Hp → Prop) (k2 : VK), i < x.cps.size → Kept H0 H → (∀ H4, Kept H H4 → k2 (f i) H4) → tt ((wipe σ [j]).set j (some (.str ⟨#[x.cps.getD i 0]⟩))) H fun b H3 => if b = true then te ((wipe σ [j]).set j (some (.str ⟨#[x.cps.getD i 0]⟩))) H3 k2 else k H3)
    (fin : ∀ D H, H0 D = none → Kept H0 H → H D = some (.lst ((List.range x.cps.size).map f)) → Q (.ref D) H) : LcJ (gName j) tt te [j] σ Q (Its x) H0 := by
  refine LcJ.run (n := x.cps.size) (xv := fun i => .str ⟨#[x.cps.getD i 0]⟩) (fun _ => true) f hn (fun i H h _ => h) (fun i H y H' hi _ h => ?_) (fun H _ => Nat.le_refl _) (fun i H k k2 hi hk h1 h2 => ?_) (fun D H hD hk h => ?_)
  · obtain ⟨e, c, hc, rfl⟩ := h
    refine ⟨e, ?_⟩
    rw [Array.getD_eq_getD_getElem?, hc]
    rfl
  · exact step i H k k2 hi hk fun H4 k4 => h1 H4 k4 rfl
  · rw [show ((List.range x.cps.size).filter fun _ => true) = List.range x.cps.size by simp] at h
    exact fin D H hD hk h
theorem codes_map (x : Str) : (List.range x.cps.size).map (fun i => V.int ((x.cps.getD i 0 : Nat) : Int)) = natsV (tl x) := by
  unfold natsV
  refine List.ext_getElem? fun i => ?_
  rw [List.getElem?_map, List.getElem?_map]
  by_cases c : i < x.cps.size
  · rw [List.getElem?_range c]
    show some (V.int ((x.cps.getD i 0 : Nat) : Int)) = Option.map _ (x.cps.toList[i]?)
    rw [Array.getElem?_toList, Array.getElem?_eq_getElem c, Array.getD_eq_getD_getElem?, Array.getElem?_eq_getElem c]
    rfl
  · rw [List.getElem?_eq_none (by rw [List.length_range]; omega)]
    show none = Option.map _ (x.cps.toList[i]?)
    rw [List.getElem?_eq_none (by rw [Array.length_toList]; omega)]
    rfl
section
variable {P : Program} {w : World} {K : PySem.W.Frag} {mg : Str → Option Value} {base : Heap} {uD uN uF uT uC uB uX uU uL : Value} {f c Pt aB CE fI : Addr} {fd : FuncData}
theorem ok_leaf_bytes (F : Fun K "leaf_bytes" "leaf_bytes" s_leaf_bytes f fd) (T : Tx K mg uD uN uF uT uC uB uX uU uL aB) (TX : PySem.Xi.XTxt P K mg "PackError" "at" "place " CE fI) (D_is_text : Df P w K mg base 3 "is_text" ["value"] (spIsText Pt)) (D_size_bytes : Df P w K mg base 1 "size_bytes" ["n"] spSizeB) (D_is_whole : Df P w K mg base 1 "is_whole" ["value"] spWholeX) :
    FnOk P w K mg base (L2.CX P w) 4 f fd ["value"] (spLeafB Pt CE) := by
  refine F.okX sc_leaf_bytes (fun vs H Q E h => ?_) (fun cdv A outer s H vs Q E hr h => ?_)
  · obtain ⟨v, o, rfl, _⟩ := h
    rfl
  · obtain ⟨v, o, rfl, ho, hsm, hT, kk, ke⟩ := h
    have hsl : 16000000 ≤ sizeLine := by decide
    refine ⟨_, (pss_cons (ps_if (pt_cmpR op_isN (pv 0) pe_non (nomark _))
      (pss_one (ps_ret (pe_lst (pa_cons (pe_glob (by rfl) T.g_NONE T.v_NONE) pa_nil))))
      pss_nil)
    (pss_cons (ps_if (pt_val (pe_callB (call_isiK (K := K) rfl) (by rfl) T.z_isinstance (by decide +kernel) (pa_cons (pv 0) (pa_cons (pe_bltn (by rfl) T.z_bool (by decide +kernel) (show RelV (.ty "bool") _ from rfl)) pa_nil))))
      (pss_one (ps_ret (pe_lst (pa_cons (pe_ifExp (pt_truth (pv 0) (by intro _; rfl)) (pe_glob (by rfl) T.g_TRUE T.v_TRUE) (pe_glob (by rfl) T.g_FALSE T.v_FALSE)) pa_nil))))
      pss_nil)
    (pss_cons (ps_if (pt_val (pe_df D_is_text (hr.mono (by decide)) (by rfl) (pa_cons (pv 0) pa_nil)))
      (pss_one (ps_ret (pe_op op_cat (pe_op op_cat (pe_lst (pa_cons (pe_glob (by rfl) T.g_TEXT T.v_TEXT) pa_nil)) (pe_df D_size_bytes (hr.mono (by decide)) (by rfl) (pa_cons (pe_callB call_len_str (by rfl) T.z_len (by decide +kernel) (pa_cons (pv 0) pa_nil)) pa_nil))) (pe_lc (own := [("sign", 1)]) (g := gName 1) (by rfl) sc_leaf_bytes.nd (pi_str (pv 0)) (blkOk_by (own := [("sign", 1)]) (N := n_leaf_bytes) (sc := defScope s_leaf_bytes) (by decide +kernel)) (fun _ _ _ _ _ => pg_name (i := 1) sc_leaf_bytes.nd rfl (Or.inl rfl)) (fun _ _ _ _ _ => pts_nil) (fun _ _ _ _ _ => (pe_callB call_ord (by rfl) T.z_ord (by decide +kernel) (pa_cons (pv 1) pa_nil)))))))
      pss_nil)
    (pss_cons (ps_if (pt_not (pt_val (pe_df D_is_whole (hr.mono (by decide)) (by rfl) (pa_cons (pv 0) pa_nil))))
      (pss_one (ps_raise rfl (takes_of rfl rfl rfl rfl) (pmk_x TX hr (pa_cons (pe_un un_neg pe_int) pa_nil) (by rfl) (by decide))))
      pss_nil)
    (pss_cons (ps_if (pt_cmpR op_lt (pv 0) pe_int (nomark _))
      (pss_one (ps_ret (pe_op op_cat (pe_lst (pa_cons (pe_glob (by rfl) T.g_BELOW T.v_BELOW) pa_nil)) (pe_df D_size_bytes (hr.mono (by decide)) (by rfl) (pa_cons (pe_op op_sub (pe_un un_neg pe_int) (pv 0)) pa_nil)))))
      pss_nil)
    (pss_one (ps_ret (pe_op op_cat (pe_lst (pa_cons (pe_glob (by rfl) T.g_COUNT T.v_COUNT) pa_nil)) (pe_df D_size_bytes (hr.mono (by decide)) (by rfl) (pa_cons (pv 0) pa_nil)))))))))), ?_⟩
    rw [show start n_leaf_bytes [(v : V)] = ([some (v), none] : List (Option V)) from rfl]
    walk_at "rd"
    by_cases hn : v = .non
    · have eo : o = some .n := by
        subst hn
        cases o with
        | none => obtain ⟨a, e, _⟩ := ho; cases e
        | some t =>
          have ho : TrAt H t .non := ho
          cases t <;> unfold TrAt at ho <;> first | rfl | (obtain ⟨_, _, e, _⟩ := ho; cases e) | cases ho
      subst eo
      refine if_t (decide_eq_true hn) ?_
      walk_at "rd"
      refine ⟨by show 1 ≤ sizeLine; omega, fun p hp => ?_⟩
      exact kk _ rfl p _ (Kept.new hp) hp upd_same
    · refine if_f (decide_eq_false hn) ?_
      have nn : o ≠ some .n := fun e => by
        rw [e] at ho
        have ho : TrAt H .n v := ho
        unfold TrAt at ho
        exact hn ho
      walk_at "rd"
      refine isi_bool ho ?_
      walk_at "rd"
      by_cases cb : kBool o = true
      · refine if_t cb ?_
        obtain ⟨x, rfl⟩ : ∃ x, o = some (.b x) := by
          cases o with
          | none => cases cb
          | some t => cases t <;> first | exact ⟨_, rfl⟩ | cases cb
        have ho : TrAt H (.b x) v := ho
        unfold TrAt at ho
        subst ho
        walk_at "rd"
        refine ⟨x, rfl, ?_⟩
        cases x
        · refine if_f rfl ?_
          walk_at "rd"
          exact ⟨by show 1 ≤ sizeLine; omega, fun p hp => kk _ rfl p _ (Kept.new hp) hp upd_same⟩
        · refine if_t rfl ?_
          walk_at "rd"
          exact ⟨by show 1 ≤ sizeLine; omega, fun p hp => kk _ rfl p _ (Kept.new hp) hp upd_same⟩
      · refine if_f (by simpa using cb) ?_
        walk_at "rd"
        refine ⟨v, o, rfl, ho, hT, fun H1 k1 => ?_⟩
        have ho1 := ho.kept k1
        walk_at "rd"
        by_cases ct : isTx o = true
        · refine if_t ct ?_
          obtain ⟨z, rfl⟩ : ∃ z, o = some (.s z) := by
            cases o with
            | none => cases ct
            | some t => cases t <;> first | exact ⟨_, rfl⟩ | cases ct
          have ho : TrAt H (.s z) v := ho
          unfold TrAt at ho
          subst ho
          have hz : (tl z).length ≤ 1000 := hsm
          have hzl : z.length = (tl z).length := len_tl z
          walk_at "rd"
          refine ⟨by show 1 ≤ sizeLine; omega, fun p1 hp1 => ?_⟩
          have j1 := Kept.new (o := .lst [V.int 5]) hp1
          have e1 : (upd H1 p1 (.lst [V.int 5])) p1 = some (.lst (natsV [5])) := upd_same
          generalize upd H1 p1 (.lst [V.int 5]) = H2 at j1 e1 ⊢
          walk_at "rd"
          refine ⟨z, rfl, by omega, ?_⟩
          walk_at "rd"
          refine ⟨z.length, rfl, Nat.lt_of_le_of_lt (by omega : z.length ≤ 2 ^ 10) (Nat.pow_lt_pow_right (by decide) (by decide)), fun p2 H3 k3 f3 e3 => ?_⟩
          refine ⟨p1, p2, _, _, rfl, rfl, k3.lst e1, e3, ?_, fun p3 hp3 => ?_⟩
          · unfold natsV
            rw [List.length_map, List.length_map]
            have := sizeB_len z.length
            show 1 + _ ≤ _
            omega
          have j3 := Kept.new (o := .lst (natsV [5] ++ natsV (sizeB z.length))) hp3
          have e4 : (upd H3 p3 (.lst (natsV [5] ++ natsV (sizeB z.length)))) p3 = some (.lst (natsV (5 :: sizeB z.length))) := by
            rw [upd_same]
            unfold natsV
            rw [← List.map_append]
            rfl
          generalize upd H3 p3 (.lst (natsV [5] ++ natsV (sizeB z.length))) = H4 at j3 e4 ⊢
          have k14 := k1.trans (j1.trans (k3.trans j3))
          refine w_lcS ?_
          refine ⟨_, rfl, z, rfl, ?_⟩
          refine LcS.run (fun i => V.int ((z.cps.getD i 0 : Nat) : Int)) (by show z.cps.size ≤ sizeLine; have : z.cps.size = (tl z).length := (Array.length_toList).symm; omega) (fun i H5 kn kv hi k5 h5 => ?_) fun D H5 hD k5 h5 => ?_
          · refine w_yes (if_t rfl ?_)
            walk_at "rd"
            refine ⟨⟨#[z.cps.getD i 0]⟩, rfl, rfl, ?_⟩
            exact h5 H5 (Kept.refl _)
          · rw [codes_map] at h5
            refine ⟨p3, D, _, _, rfl, rfl, k5.lst e4, h5, ?_, fun p6 hp6 => ?_⟩
            · unfold natsV
              rw [List.length_map, List.length_map, List.length_cons]
              have := sizeB_len z.length
              omega
            refine kk _ (by
              show (if (tl z).all isLet = true then _ else _) = _
              exact if_pos ct) p6 _ ((k14.trans k5).trans (Kept.new hp6)) ((k14.trans k5).free _ hp6) ?_
            rw [upd_same, ← hzl]
            unfold natsV
            rw [← List.map_append]
            rfl
        · refine if_f (by simpa using ct) ?_
          walk_at "rd"
          refine ⟨v, o, rfl, ho1, ?_⟩
          walk_at "rd"
          by_cases ci : isI o = true
          · refine if_f (by rw [ci] <;> rfl) ?_
            obtain ⟨n, rfl⟩ : ∃ n, o = some (.i n) := by
              cases o with
              | none => cases ci
              | some t => cases t <;> first | exact ⟨_, rfl⟩ | cases ci
            have ho : TrAt H (.i n) v := ho
            unfold TrAt at ho
            subst ho
            have hn9 : n.natAbs < 2 ^ 900 := hsm
            have h91 : (2 : Nat) ^ 900 < 2 ^ 1000 := Nat.pow_lt_pow_right (by decide) (by decide)
            have catK : ∀ (kd : Nat) (m : Nat) (H2 : Hp) (p1 : Addr) (p2 : Addr), Kept H H2 → H2 p1 = some (.lst (natsV [kd])) → H2 p2 = some (.lst (natsV (sizeB m))) → m < 2 ^ 1000 → lfO (some (.i n)) = some (kd :: sizeB m) → rCat (.ref p1) (.ref p2) H2 Q := fun kd m H2 p1 p2 k2 e1 e2 hm el => by
              refine ⟨p1, p2, _, _, rfl, rfl, e1, e2, ?_, fun p3 hp3 => ?_⟩
              · unfold natsV
                rw [List.length_map, List.length_map]
                have := sizeB_log m 1000 hm
                show 1 + _ ≤ _
                omega
              refine kk _ el p3 _ (k2.trans (Kept.new hp3)) (k2.free _ hp3) ?_
              rw [upd_same]
              unfold natsV
              rw [← List.map_append]
              rfl
            walk_at "rd"
            by_cases c0 : n < 0
            · refine if_t (decide_eq_true c0) ?_
              walk_at "rd"
              refine ⟨by show 1 ≤ sizeLine; omega, fun p1 hp1 => ?_⟩
              have j1 := Kept.new (o := .lst [V.int 4]) hp1
              have e1 : (upd H1 p1 (.lst [V.int 4])) p1 = some (.lst (natsV [4])) := upd_same
              generalize upd H1 p1 (.lst [V.int 4]) = H2 at j1 e1 ⊢
              walk_at "rd"
              refine ⟨(-1 - n).toNat, by rw [Int.toNat_of_nonneg (by omega)], by omega, fun p2 H3 k3 f3 e3 => ?_⟩
              exact catK 4 _ H3 p1 p2 ((k1.trans j1).trans k3) (k3.lst e1) e3 (by omega) (by
                show some (if 0 ≤ n then _ else _) = _
                rw [if_neg (by omega)])
            · refine if_f (decide_eq_false c0) ?_
              walk_at "rd"
              refine ⟨by show 1 ≤ sizeLine; omega, fun p1 hp1 => ?_⟩
              have j1 := Kept.new (o := .lst [V.int 3]) hp1
              have e1 : (upd H1 p1 (.lst [V.int 3])) p1 = some (.lst (natsV [3])) := upd_same
              generalize upd H1 p1 (.lst [V.int 3]) = H2 at j1 e1 ⊢
              walk_at "rd"
              refine ⟨n.toNat, by rw [Int.toNat_of_nonneg (by omega)], by omega, fun p2 H3 k3 f3 e3 => ?_⟩
              exact catK 3 _ H3 p1 p2 ((k1.trans j1).trans k3) (k3.lst e1) e3 (by omega) (by
                show some (if 0 ≤ n then _ else _) = _
                rw [if_pos (by omega)])
          · refine if_t (by simpa using ci) ?_
            walk_at "rd"
            refine ⟨-1, rfl, by decide, fun d hd => ke ?_ H1 d k1 hd⟩
            cases o with
            | none => rfl
            | some t =>
              cases t with
              | i n => exact absurd rfl ci
              | b x => exact absurd rfl cb
              | n => exact absurd rfl nn
              | t l => rfl
              | s z =>
                show (if (tl z).all isLet = true then _ else _) = _
                exact if_neg (fun h => ct h)
end
end Ky

namespace Xv
open PySem PySem.Spec PyProof.Rows HT
variable {prog : Program} {w : World} {A : Around} {s : Shared} {E : Value → Shared → Prop}
theorem places_back (n : Nat) : Builtin.Slice.slicePlaces ((n : Int) - 1) (-1) (-1) = n := by
  unfold Builtin.Slice.slicePlaces
  rw [if_neg (by decide)]
  by_cases h : n = 0
  · subst h
    rfl
  · rw [if_pos (by omega), show (- -1 : Int) = 1 by decide, Int.ediv_one]
    omega
theorem applied_back {sl : Addr} {n : Nat} {t : Tok} {Q : Int × Int × Nat → Shared → Prop} {vs : Value} (hs : s.heap.IsSliceOf sl .none .none vs) (pv : IsPart vs (some (-1)))
    (h : Q ((n : Int) - 1, -1, n) s) : wpAny (model prog w) A (Builtin.Slice.sliceApplied (.ref sl) (pure (n : Int))) Q E s := by
  obtain ⟨os, hos, hcs, hds⟩ := id hs
  unfold Builtin.Slice.sliceApplied Builtin.Slice.sliceFields
  refine wpAny_bind (wpAny_bind (wpAny_field hos hds (x := .none) rfl (wpAny_bind (wpAny_field hos hds (x := .none) rfl (wpAny_bind (wpAny_field hos hds (x := vs) rfl (wpAny_pure ?_)))))))
  refine wpAny_bind (slicePart_ pv ?_)
  show wpAny _ _ (if ((-1 : Int) == 0) = true then _ else _) _ _ s
  rw [if_neg (by decide)]
  refine wpAny_bind (slicePart_none (wpAny_bind (slicePart_none (wpAny_bind (wpAny_pure ?_)))))
  show wpAny _ _ (pure (((n : Int) - 1, (-1 : Int), Builtin.Slice.slicePlaces ((n : Int) - 1) (-1) (-1)))) _ _ s
  rw [places_back]
  exact wpAny_pure h
theorem pick_back (xs : Array Value) : ((List.range xs.size).filterMap fun (m : Nat) => xs[((xs.size : Int) - 1 + (m : Int) * -1).toNat]?).toArray = xs.toList.reverse.toArray := by
  have e : ((List.range xs.size).filterMap fun (m : Nat) => xs[((xs.size : Int) - 1 + (m : Int) * -1).toNat]?) = ((List.range xs.size).map fun (m : Nat) => ((xs.size : Int) - 1 + (m : Int) * -1).toNat).filterMap (xs[·]?) := (List.filterMap_map ..).symm
  have e2 : ((List.range xs.size).map fun (m : Nat) => ((xs.size : Int) - 1 + (m : Int) * -1).toNat) = (List.range xs.size).map (fun k => xs.size - 1 - k) := List.map_congr_left fun m hm => by
    have := List.mem_range.mp hm
    omega
  rw [e, e2, PySem.W.krv_range, List.filterMap_reverse, PySem.W.krv_all]
theorem getItem_back {t sl : Addr} {items : Array Value} {vs : Value} {Q : Value → Shared → Prop} (ht : IsTup s.heap t items) (hs : s.heap.IsSliceOf sl .none .none vs) (pv : IsPart vs (some (-1)))
    (h : Q (.ref s.heap.objs.size) { s with heap := s.heap.push { cls := .type "tuple", data := .seq items.toList.reverse.toArray } })
    (hsz : items.size ≤ sizeLine) : wpAny (model prog w) A (getItem (.ref t) (.ref sl)) Q E s := by
  have htake : sizeOk (.seq items.toList.reverse.toArray) := by
    show items.toList.reverse.toArray.size ≤ sizeLine
    rw [List.size_toArray, List.length_reverse, Array.length_toList]
    exact hsz
  obtain ⟨os, hos, hcs, hds⟩ := id hs
  have hTs : s.TypeIs (.ref sl) "slice" := ⟨os, hos, hcs⟩
  unfold getItem
  try with_reducible refine wpAny_holding ?_
  first | refine wpAny_bind (wpAny_pure ?_) | skip
  refine wpAny_bind (wpAny_sequenceKey ht.typeIs (by decide) ?_)
  refine wpAny_bind (wpAny_callSpecial?_slot (name := Str.ofString "__getitem__") ht.typeIs PyProof.Rows.slot_tuple_getitem
    (wpAny_call_entry PyProof.Rows.slot_tuple_getitem ht.typeIs entry_tuple_getitem ?_ (args_tuple_getitem _ _)))
  show wpAny _ _ (Builtin.Tuple.tupleItemsOf (.ref t) >>= _) _ _ s
  refine wpAny_bind (tupleItemsOf_ ht ?_)
  refine wpAny_bind (wpAny_typeOf hTs ?_)
  rw [if_pos (by decide)]
  refine wpAny_bind (applied_back (t := 0) hs pv ?_)
  show wpAny _ _ (if (((items.size : Int) - 1) == 0 && (-1 : Int) == 1 && items.size == items.size) = true then _ else _) _ _ s
  rw [if_neg (by simp), pick_back]
  first
    | exact wpAny_bind (m := Builtin.Tuple.tupleExact _) (wpAny_newObj_type (wpAny_pure ⟨_, rfl, wpAny_pure h⟩) htake)
    | exact wpAny_bind (m := Builtin.Tuple.tupleExact _) (wpAny_newObj_type (wpAny_bind (wpAny_pure (wpAny_pure ⟨_, rfl, wpAny_pure h⟩))) htake)
    | exact wpAny_bind (wpAny_bind (m := Builtin.Tuple.tupleExact _) (wpAny_newObj_type (wpAny_pure (wpAny_pure ⟨_, rfl, wpAny_pure h⟩)) htake))
    | exact wpAny_bind (wpAny_bind (m := Builtin.Tuple.tupleExact _) (wpAny_newObj_type (wpAny_pure ⟨_, rfl, wpAny_pure h⟩) htake))
end Xv
namespace Ky
open PySem PySem.Spec PyProof.Rows L2
/-- t[::-1] -/
def tRevT (K : PySem.W.Frag) (te : TE) : TE := fun σ H Q => te σ H fun x H1 => ∃ a xs, x = .ref a ∧ SqT K H1 a xs ∧ ∀ p, H1 p = none → Q (.ref p) (upd H1 p (.tup xs.reverse))
theorem pe_revT {X : Cx} {K : PySem.W.Frag} (hK : X.K = K) {e : Expr} {te : TE} {k : Nat} {p1 p2 p3 pos : Pos} (he : PE X e te) : PE X (.Subscript e (.Slice none none (some (.UnaryOp .USub (.Constant (.int 1) k p1) p2)) p3) pos) (tRevT K te) := by
  subst hK
  refine ⟨fun pins s σ H Q I h => ?_⟩
  refine Subscript_ (thn (he.run pins s σ H _ I h) fun v s1 ⟨x, H1, I1, r1, q1⟩ => ?_)
  obtain ⟨a, xs, ex, hx, q⟩ := q1
  subst ex
  cases r1
  have hst : PO X (some (.UnaryOp .USub (.Constant (.int 1) k p1) p2)) (tPart (tUn (rU fun i => .int (-i)) (tC (.int 1)))) := po_some (pe_un un_neg pe_int)
  refine wpAny_Slice ?_
  rw [evalPart_none]
  refine wpAny_pure (wpAny_pure ?_)
  refine thn (hst.run pins s1 σ H1 (fun o H4 => o = some (-1) ∧ H4 = H1) I1 ⟨1, rfl, -1, rfl, rfl, rfl⟩) fun vs s4 ⟨o, H4, I4, ps, eo, e4⟩ => ?_
  subst eo e4
  have I5 : Inv X pins σ H4 { s4 with heap := s4.heap.push { cls := .type "slice", data := .fields #[.none, .none, vs] } } := I4.kept (t' := s4.toks) fun b ob q => Heap.get?_push_of_some _ q
  obtain ⟨its, r, ht, hz⟩ := I5.tuple hx
  have hlen := r.length
  show wpAny (model X.prog X.w) X.A (subscriptTail e (.Slice none none (some (.UnaryOp .USub (.Constant (.int 1) k p1) p2)) p3) (.ref a) (.ref s4.heap.objs.size)) (EP X pins σ Q) X.xe { s4 with heap := s4.heap.push { cls := .type "slice", data := .fields #[.none, .none, vs] } }
  refine tail_any (ops := [.ref a, .ref s4.heap.objs.size]) ht.typeIs PyProof.Rows.slot_tuple_getitem.lookup ?_ (by with_unfolding_all rfl)
  refine Xv.getItem_back ht (Heap.IsSliceOf.new _ .none .none vs) ps ?_ (by rw [List.size_toArray]; omega)
  refine ⟨.ref _, _, I5.laid (t' := s4.toks) (o := .tup xs.reverse) (fun b ob q => Heap.get?_push_of_some _ q) (Nat.le_refl _) ?_, rfl, q _ (I5.hok.fresh (Nat.le_refl _))⟩
  exact ⟨by rw [List.length_reverse]; exact hz, _, r.reverse, IsTup.new _ _⟩
theorem w_revT {σ : L2.St} {H : Hp} {Q : VK} {K : PySem.W.Frag} {te : TE} (q : te σ H fun x H1 => ∃ a xs, x = .ref a ∧ SqT K H1 a xs ∧ ∀ p, H1 p = none → Q (.ref p) (upd H1 p (.tup xs.reverse))) : tRevT K te σ H Q := q
end Ky

namespace Ky
open PySem PySem.Spec PyProof.Rows L2
local macro_rules | `(tactic| walk_at "rd") => `(tactic| repeat (first
  | with_reducible refine w_for1 ?_
  | with_reducible refine w_for2 ?_
  | with_reducible refine w_forL ?_
  | with_reducible refine w_forT ?_
  | with_reducible refine w_lc1 ?_
  | with_reducible refine w_lcL ?_
  | with_reducible refine w_lcT ?_
  | with_reducible refine w_dcL ?_
  | with_reducible refine w_dcT ?_
  | with_reducible refine w_seq ?_
  | with_reducible refine w_asg ?_
  | with_reducible refine w_ret ?_
  | with_reducible refine w_drop ?_
  | with_reducible refine w_ifs ?_
  | ((with_reducible refine' w_var ?hh ?_); (case hh => exact rfl))
  | with_reducible refine w_c ?_
  | with_reducible refine w_op ?_
  | with_reducible refine w_un ?_
  | with_reducible refine w_I0 ?_
  | with_reducible refine w_U ?_
  | with_reducible refine w_nil ?_
  | with_reducible refine w_cons ?_
  | with_reducible refine w_call ?_
  | with_reducible refine w_cb ?_
  | with_reducible refine w_test ?_
  | with_reducible refine w_B ?_
  | with_reducible refine w_bl ?_
  | with_reducible refine w_and ?_
  | with_reducible refine w_or ?_
  | with_reducible refine w_not ?_
  | with_reducible refine w_ife ?_
  | with_reducible refine w_gRd ?_
  | with_reducible refine w_andV ?_
  | with_reducible refine w_orV ?_
  | with_reducible refine w_notV ?_
  | with_reducible refine w_chain ?_
  | with_reducible refine w_din ?_
  | with_reducible refine w_isi_ii ?_
  | with_reducible refine w_isi_bi ?_
  | with_reducible refine w_isi_bb ?_
  | with_reducible refine w_isi_bt ?_
  | with_reducible refine w_isi_si ?_
  | with_reducible refine w_isi_nt ?_
  | with_reducible refine w_isi_ib ?_
  | with_reducible refine w_isi_it ?_
  | with_reducible refine w_isi_st ?_
  | ((with_reducible refine w_isi_tt ?h1 ?_); (case h1 => first | assumption | exact upd_same))
  | with_reducible refine if_t rfl ?_
  | with_reducible refine if_f rfl ?_
  | with_reducible refine w_tup ?_
  | with_reducible refine w_lst ?_
  | with_reducible refine w_next ?_
  | with_reducible refine w_bm ?_
  | with_reducible refine w_sl ?_
  | with_reducible refine w_part ?_
  | with_reducible refine w_nop ?_
  | with_reducible refine w_isI ?_
  | with_reducible refine w_yes ?_
  | with_reducible refine w_gn ?_
  | with_reducible refine w_gsub ?_
  | ((with_reducible refine' w_setL ?h1 ?h2 ?_); (case h1 => first | assumption | exact upd_same); (case h2 => exact rfl))
  | with_reducible refine w_asgG ?_
  | with_reducible refine w_m1 ?_
  | with_reducible refine w_isS ?_
  | with_reducible refine w_tyS ?_
  | ((with_reducible refine' w_tyL ?h1 ?_); (case h1 => first | assumption | exact upd_same))
  | ((with_reducible refine' w_ixT ?h1 ?h2 ?_); (case h1 => first | assumption | exact upd_same); (case h2 => exact rfl))
  | ((with_reducible refine' w_ixL ?h1 ?h2 ?_); (case h1 => first | assumption | exact upd_same); (case h2 => exact rfl))
  | ((with_reducible refine w_eq ?h1 ?_); (case h1 => exact rfl))
  | ((with_reducible refine w_ne ?h1 ?_); (case h1 => exact rfl))
  | ((with_reducible refine' w_text ?hT ?h1 ?h2 ?_); (case hT => assumption); (case h1 => exact rfl); (case h2 => first | assumption | exact upd_same))
  | ((with_reducible refine' w_at ?hT ?h1 ?h2 ?_); (case hT => assumption); (case h1 => exact rfl); (case h2 => first | assumption | exact upd_same))
  | ((with_reducible refine' w_token ?hT ?h1 ?h2 ?_); (case hT => assumption); (case h1 => exact rfl); (case h2 => first | assumption | exact upd_same))
  | with_reducible refine w_sfld0 ?_
  | with_reducible refine w_mkx ?_
  | with_reducible refine w_nonR ?_
  | with_reducible refine w_bm0 ?_
  | ((with_reducible refine' w_putAt ?hT ?h2 ?_); (case hT => assumption); (case h2 => first | assumption | exact upd_same))
  | ((with_reducible refine' w_putToken ?hT ?h2 ?_); (case hT => assumption); (case h2 => first | assumption | exact upd_same))
  | dsimp only [List.set_cons_zero, List.set_cons_succ, List.append_nil, List.cons_append, List.nil_append, cxOf]))

open TL
theorem lfO_len {o : Option Tr} {bs : List Nat} (h : SmT o) (e : lfO o = some bs) : bs.length ≤ 2100 := by
  have h91 : (2 : Nat) ^ 900 < 2 ^ 1000 := Nat.pow_lt_pow_right (by decide) (by decide)
  cases o with
  | none => cases e
  | some t =>
    cases t with
    | n => cases e; decide
    | b x => cases e; simp
    | t l => cases e
    | i k =>
      have h : k.natAbs < 2 ^ 900 := h
      have e := Option.some.inj e
      subst e
      split
      · rw [List.length_cons]
        have := sizeB_log k.toNat 1000 (by omega)
        omega
      · rw [List.length_cons]
        have := sizeB_log (-1 - k).toNat 1000 (by omega)
        omega
    | s z =>
      have h : (tl z).length ≤ 1000 := h
      have e : (if (tl z).all isLet = true then some (5 :: (sizeB (tl z).length ++ tl z)) else none) = some bs := e
      by_cases c : (tl z).all isLet = true
      · rw [if_pos c] at e
        have e := Option.some.inj e
        subst e
        rw [List.length_cons, List.length_append]
        have := sizeB_len (tl z).length
        omega
      · rw [if_neg c] at e
        cases e
theorem w_popL {l : Addr} {xs : List V} {y : V} {H : Hp} {Q : VK} (h : H l = some (.lst (xs ++ [y]))) (q : Q y (upd H l (.lst xs))) : rPop (.ref l) [] H Q :=
  ⟨l, _, y, rfl, rfl, h, by rw [List.length_append, List.length_singleton, Nat.add_sub_cancel, List.getElem?_append_right (Nat.le_refl _), Nat.sub_self] <;> rfl, by rw [List.dropLast_concat]; exact q⟩
theorem w_extL {l b : Addr} {xs zs : List V} {H : Hp} {Q : VK} (h : H l = some (.lst xs)) (h2 : H b = some (.lst zs)) (hn : xs.length + zs.length ≤ sizeLine) (q : Q .non (upd H l (.lst (xs ++ zs)))) : rExtend (.ref l) [.ref b] H Q :=
  ⟨l, b, xs, zs, rfl, rfl, h, h2, hn, q⟩
theorem natsV_app (l m : List Nat) : natsV l ++ natsV m = natsV (l ++ m) := by
  unfold natsV
  rw [List.map_append]
theorem natsV_len (l : List Nat) : (natsV l).length = l.length := by
  unfold natsV
  rw [List.length_map]
inductive RunP (H : Hp) : Nat → List (V × Nat) → Option (List Nat) → Prop
  | nil : RunP H 0 [] (some [])
  | leaf {n v d st o bs r} : TrX H o v → kTup o = false → SmT o → lfO o = some bs → RunP H n st r → RunP H (n + 1) ((v, d) :: st) (r.map (bs ++ ·))
  | bad {n v d st o} : TrX H o v → kTup o = false → SmT o → lfO o = none → RunP H (n + 1) ((v, d) :: st) none
  | tup {n a xs d st r} : H a = some (.tup xs) → d < 60 → xs.length + st.length ≤ 1000 → RunP H n (xs.map (fun x => (x, d + 1)) ++ st) r → RunP H (n + 1) ((.ref a, d) :: st) (r.map ((6 :: sizeB xs.length) ++ ·))
/-- the stack in the heap, its top first -/
def WsA (H : Hp) (qs : List Addr) (st : List (V × Nat)) : Prop := qs.length = st.length ∧ ∀ (i : Nat) (q : Addr) (x : V × Nat), qs[i]? = some q → st[i]? = some x → H q = some (.tup [x.1, .int (x.2 : Nat)])
theorem WsA.nil {H : Hp} : WsA H [] [] := ⟨rfl, fun i q x h => by simp at h⟩
theorem WsA.head {H : Hp} {q : Addr} {qs : List Addr} {x : V × Nat} {st : List (V × Nat)} (h : WsA H (q :: qs) (x :: st)) : H q = some (.tup [x.1, .int (x.2 : Nat)]) ∧ WsA H qs st :=
  ⟨h.2 0 q x rfl rfl, by have := h.1; simpa using this, fun i q2 x2 e1 e2 => h.2 (i + 1) q2 x2 (by rw [List.getElem?_cons_succ]; exact e1) (by rw [List.getElem?_cons_succ]; exact e2)⟩
theorem WsA.app {H : Hp} {q1 q2 : List Addr} {s1 s2 : List (V × Nat)} (h1 : WsA H q1 s1) (h2 : WsA H q2 s2) : WsA H (q1 ++ q2) (s1 ++ s2) := by
  refine ⟨by rw [List.length_append, List.length_append, h1.1, h2.1], fun i q x e1 e2 => ?_⟩
  have hl := h1.1
  by_cases c : i < q1.length
  · rw [List.getElem?_append_left c] at e1
    rw [List.getElem?_append_left (by omega)] at e2
    exact h1.2 i q x e1 e2
  · rw [List.getElem?_append_right (by omega)] at e1 e2
    rw [← hl] at e2
    exact h2.2 _ q x e1 e2
theorem WsA.tups {H H' : Hp} {qs : List Addr} {st : List (V × Nat)} (h : WsA H qs st) (k : ∀ b xs, H b = some (.tup xs) → H' b = some (.tup xs)) : WsA H' qs st := ⟨h.1, fun i q x e1 e2 => k _ _ (h.2 i q x e1 e2)⟩
theorem WsA.cons_of {H : Hp} {qs : List Addr} {x : V × Nat} {st : List (V × Nat)} (h : WsA H qs (x :: st)) : ∃ q q2, qs = q :: q2 := by
  cases qs with
  | nil => have := h.1; simp at this
  | cons q q2 => exact ⟨q, q2, rfl⟩
def spPack (Pt CE : Addr) : Sp := fun vs H Q E => ∃ (v : V) (n : Nat) (r : Option (List Nat)), vs = [v] ∧ RunP H n [(v, 0)] r ∧ n ≤ 1000 ∧ GxR.TabG H Pt ∧ (∀ bs, r = some bs → ∀ p H', Kept H H' → H p = none → H' p = some (.lst (natsV bs)) → Q (.ref p) H') ∧ (r = none → ErrA E CE H (-1))
section
variable {P : Program} {w : World} {K : PySem.W.Frag} {mg : Str → Option Value} {base : Heap} {uD uN uF uT uC uB uX uU uL : Value} {f c Pt aB CE fI : Addr} {fd : FuncData}
theorem ok_pack (F : Fun K "pack" "pack" s_pack f fd) (T : Tx K mg uD uN uF uT uC uB uX uU uL aB) (TX : PySem.Xi.XTxt P K mg "PackError" "at" "place " CE fI) (D_size_bytes : Df P w K mg base 1 "size_bytes" ["n"] spSizeB) (D_leaf_bytes : DfX P w K mg base 4 "leaf_bytes" ["value"] (spLeafB Pt CE)) :
    FnOk P w K mg base (L2.CX P w) 5 f fd ["value"] (spPack Pt CE) := by
  refine F.okX sc_pack (fun vs H Q E h => ?_) (fun cdv A outer s H vs Q E hr h => ?_)
  · obtain ⟨v, n, r, rfl, _⟩ := h
    rfl
  · obtain ⟨v, n0, r0, rfl, hrun, hn0, hT, kk, ke⟩ := h
    have hsl : 16000000 ≤ sizeLine := by decide
    refine ⟨_, (pss_cons (ps_set (i := 1) sc_pack.nd rfl (.inl rfl) (pe_lst pa_nil))
    (pss_cons (ps_set (i := 2) sc_pack.nd rfl (.inl rfl) (pe_lst (pa_cons (pe_tup (pa_cons (pv 0) (pa_cons pe_int pa_nil))) pa_nil)))
    (pss_cons (ps_while (passes_of rfl) (pt_truth (pv 2) (by intro _; rfl))
      (pss_cons (ps_asg (pe_bm0 PySem.F.plainAttrs_list PySem.F.slot_list_pop PySem.F.type_list_pop mt_pop (pv 2)) (pg_tupK (K := K) rfl (by rfl) (pgs_cons (pg_name (i := 3) sc_pack.nd rfl (.inl rfl)) (pgs_cons (pg_name (i := 4) sc_pack.nd rfl (.inr rfl)) pgs_nil))))
    (pss_one (ps_if (pt_val (pe_callB (call_isiK (K := K) rfl) (by rfl) T.z_isinstance (by decide +kernel) (pa_cons (pv 3) (pa_cons (pe_bltn (by rfl) T.z_tuple (by decide +kernel) (show RelV (.ty "tuple") _ from rfl)) pa_nil))))
      (pss_cons (ps_if (pt_cmpR op_eq (pv 4) (pe_glob (by rfl) T.g_DEEPEST T.v_DEEPEST) (nomark _))
      (pss_one (ps_raise rfl (takes_of rfl rfl rfl rfl) (pmk_x TX hr (pa_cons (pe_un un_neg pe_int) pa_nil) (by rfl) (by decide))))
      pss_nil)
    (pss_cons (ps_expr (pe_bm PySem.F.plainAttrs_list PySem.F.slot_list_extend PySem.F.type_list_extend mt_extend (pv 1) (pa_cons (pe_op op_cat (pe_lst (pa_cons (pe_glob (by rfl) T.g_TUPLE T.v_TUPLE) pa_nil)) (pe_df D_size_bytes (hr.mono (by decide)) (by rfl) (pa_cons (pe_callB call_len_seq (by rfl) T.z_len (by decide +kernel) (pa_cons (pv 3) pa_nil)) pa_nil))) pa_nil)))
    (pss_one (ps_expr (pe_bm PySem.F.plainAttrs_list PySem.F.slot_list_extend PySem.F.type_list_extend mt_extend (pv 2) (pa_cons (pe_lc (own := [("part", 5)]) (g := gName 5) (by rfl) sc_pack.nd (pi_tupK (K := K) rfl (pe_revT (K := K) rfl (pv 3))) (blkOk_by (own := [("part", 5)]) (N := n_pack) (sc := defScope s_pack) (by decide +kernel)) (fun _ _ _ _ _ => pg_name (i := 5) sc_pack.nd rfl (Or.inl rfl)) (fun _ _ _ _ _ => pts_nil) (fun _ _ _ _ _ => (pe_tup (pa_cons (pv 5) (pa_cons (pe_op op_add (pv 4) pe_int) pa_nil))))) pa_nil))))))
      (pss_one (ps_expr (pe_bm PySem.F.plainAttrs_list PySem.F.slot_list_extend PySem.F.type_list_extend mt_extend (pv 1) (pa_cons (pe_dfP D_leaf_bytes (hr.mono (by decide)) (pass_e (takes_of rfl rfl rfl rfl)) (by rfl) (pa_cons (pv 3) pa_nil)) pa_nil))))))))
    (pss_one (ps_ret (pv 1)))))), ?_⟩
    rw [show start n_pack [(v : V)] = ([some (v), none, none, none, none, none] : List (Option V)) from rfl]
    walk_at "rd"
    refine ⟨Nat.zero_le _, fun pf hf => ?_⟩
    have k1 := Kept.new (o := .lst []) hf
    have g1 : (upd H pf (.lst [])) pf = some (.lst (natsV [])) := upd_same
    generalize upd H pf (.lst []) = H1 at k1 g1 ⊢
    walk_at "rd"
    refine ⟨by show 2 ≤ sizeLine; omega, fun p1 hp1 => ?_⟩
    have k2 := Kept.new (o := .tup [v, .int 0]) hp1
    have g2 := k2.lst g1
    have t2 : (upd H1 p1 (.tup [v, .int 0])) p1 = some (.tup [v, .int (0 : Nat)]) := upd_same
    generalize upd H1 p1 (.tup [v, .int 0]) = H2 at k2 g2 t2 ⊢
    walk_at "rd"
    refine ⟨by show 1 ≤ sizeLine; omega, fun pw hw => ?_⟩
    have k3 := Kept.new (o := .lst [.ref p1]) hw
    have g3 := k3.lst g2
    have t3 := k3.tup t2
    have w3 : (upd H2 pw (.lst [.ref p1])) pw = some (.lst (([p1] : List Addr).reverse.map V.ref)) := upd_same
    have nwf : pw ≠ pf := fun z => by
      rw [z, g2] at hw
      cases hw
    have fpw : H1 pw = none := k2.free _ hw
    generalize upd H2 pw (.lst [.ref p1]) = H3 at k3 g3 t3 w3 ⊢
    walk_at "rd"
    have hpf : H pf = none := hf
    have hpw : H pw = none := k1.free _ fpw
    have k13 := k1.trans (k2.trans k3)
    refine ⟨fun m σ' H' => ∃ (n : Nat) (st : List (V × Nat)) (qs : List Addr) (found : List Nat) (r : Option (List Nat)) (x3 x4 : Option V), σ' = [some v, some (.ref pf), some (.ref pw), x3, x4, none] ∧ n < m ∧ RunP H n st r ∧ Kept H H' ∧ H' pf = some (.lst (natsV found)) ∧ H' pw = some (.lst (qs.reverse.map V.ref)) ∧ WsA H' qs st ∧ st.length ≤ 1000 ∧ found.length + 4400 * n ≤ 4400000 ∧ r0 = r.map (found ++ ·), ⟨n0 + 1, n0, [(v, 0)], [p1], [], r0, none, none, rfl, by omega, hrun, k13, g3, w3, ⟨rfl, fun i q x e1 e2 => by
      cases i with
      | zero => cases e1; cases e2; exact t3
      | succ i => simp at e1⟩, by simp, by rw [List.length_nil]; omega, by cases r0 <;> rfl⟩, ?_⟩
    clear hrun hn0
    rintro m σ' H4 ⟨n, st, qs, found, r, x3, x4, rfl, hm, hrun, k4, hfd, hws, hst, hl, hfl, er⟩
    walk_at "rd"
    refine ⟨!(qs.reverse.map V.ref).isEmpty, .inl ⟨_, SqL.of hws, rfl⟩, ?_⟩
    cases hrun with
    | nil =>
      have e : qs = [] := List.eq_nil_of_length_eq_zero hst.1
      subst e
      refine if_f rfl ?_
      walk_at "rd"
      have er : r0 = some found := by rw [er]; simp
      exact kk found er pf H4 k4 hf hfd
    | leaf ho hk hs hbs hrun =>
      rename_i n v1 d st o bs r
      obtain ⟨q, qs, rfl⟩ := hst.cons_of
      refine if_t (by simp) ?_
      refine ⟨_, fun σ' H' h => h, ?_⟩
      obtain ⟨hq, hst⟩ := hst.head
      have hws : H4 pw = some (.lst (qs.reverse.map V.ref ++ [.ref q])) := by rw [hws]; simp
      walk_at "rd"
      refine w_popL hws ?_
      have k5 : Kept H (upd H4 pw (.lst (qs.reverse.map V.ref))) := Kept.mut k4 hpw
      have up5 : ∀ b xs, H4 b = some (.tup xs) → (upd H4 pw (.lst (qs.reverse.map V.ref))) b = some (.tup xs) := fun b xs h => tup_upd hws h
      have hst5 := hst.tups up5
      have hq5 := up5 _ _ hq
      have fd5 : (upd H4 pw (.lst (qs.reverse.map V.ref))) pf = some (.lst (natsV found)) := by rw [upd_ne (Ne.symm nwf)]; exact hfd
      have w5 : (upd H4 pw (.lst (qs.reverse.map V.ref))) pw = some (.lst (qs.reverse.map V.ref)) := upd_same
      generalize upd H4 pw (.lst (qs.reverse.map V.ref)) = H5 at k5 hst5 hq5 fd5 w5 ⊢
      refine w_gTup2 hq5 ?_
      walk_at "rd"
      refine isi_tuple (ho.kept k5) ?_
      refine ⟨_, rfl, if_f hk ?_⟩
      walk_at "rd"
      refine ⟨v1, o, rfl, ho.kept k5, hs, k5.tab _ hT, fun bs' eb p H6 k6 f6 e6 => ?_, fun e => ?_⟩
      · rw [hbs] at eb
        cases eb
        have hbl := lfO_len hs hbs
        have fd6 := k6.lst fd5
        have hst6 := hst5.tups fun b xs h => k6.tup h
        walk_at "rd"
        refine w_extL fd6 e6 (by rw [natsV_len, natsV_len]; omega) ?_
        rw [natsV_app]
        rw [List.length_cons] at hl
        refine ⟨n + 1, by omega, n, st, qs, found ++ bs, r, _, _, rfl, by omega, hrun, Kept.mut (k5.trans k6) hpf, upd_same, ?_, hst6.tups fun b xs h => tup_upd fd6 h, by omega, by rw [List.length_append]; omega, ?_⟩
        · rw [upd_ne nwf]
          exact k6.lst w5
        · rw [er]
          cases r <;> simp
      · rw [hbs] at e
        cases e
    | bad ho hk hs hbs =>
      rename_i n v1 d st o
      obtain ⟨q, qs, rfl⟩ := hst.cons_of
      refine if_t (by simp) ?_
      refine ⟨_, fun σ' H' h => h, ?_⟩
      obtain ⟨hq, hst⟩ := hst.head
      have hws : H4 pw = some (.lst (qs.reverse.map V.ref ++ [.ref q])) := by rw [hws]; simp
      walk_at "rd"
      refine w_popL hws ?_
      have k5 : Kept H (upd H4 pw (.lst (qs.reverse.map V.ref))) := Kept.mut k4 hpw
      have up5 : ∀ b xs, H4 b = some (.tup xs) → (upd H4 pw (.lst (qs.reverse.map V.ref))) b = some (.tup xs) := fun b xs h => tup_upd hws h
      have hst5 := hst.tups up5
      have hq5 := up5 _ _ hq
      have fd5 : (upd H4 pw (.lst (qs.reverse.map V.ref))) pf = some (.lst (natsV found)) := by rw [upd_ne (Ne.symm nwf)]; exact hfd
      have w5 : (upd H4 pw (.lst (qs.reverse.map V.ref))) pw = some (.lst (qs.reverse.map V.ref)) := upd_same
      generalize upd H4 pw (.lst (qs.reverse.map V.ref)) = H5 at k5 hst5 hq5 fd5 w5 ⊢
      refine w_gTup2 hq5 ?_
      walk_at "rd"
      refine isi_tuple (ho.kept k5) ?_
      refine ⟨_, rfl, if_f hk ?_⟩
      walk_at "rd"
      refine ⟨v1, o, rfl, ho.kept k5, hs, k5.tab _ hT, fun bs' eb p H6 k6 f6 e6 => ?_, fun e => ?_⟩
      · rw [hbs] at eb
        cases eb
      · intro H6 d6 k6 f6
        exact ke (by rw [er]; rfl) H6 d6 (k5.trans k6) f6
    | tup hH hd hln hrun =>
      rename_i n a xs d st r
      obtain ⟨q, qs, rfl⟩ := hst.cons_of
      refine if_t (by simp) ?_
      refine ⟨_, fun σ' H' h => h, ?_⟩
      obtain ⟨hq, hst⟩ := hst.head
      have hws : H4 pw = some (.lst (qs.reverse.map V.ref ++ [.ref q])) := by rw [hws]; simp
      walk_at "rd"
      refine w_popL hws ?_
      have k5 : Kept H (upd H4 pw (.lst (qs.reverse.map V.ref))) := Kept.mut k4 hpw
      have up5 : ∀ b xs, H4 b = some (.tup xs) → (upd H4 pw (.lst (qs.reverse.map V.ref))) b = some (.tup xs) := fun b xs h => tup_upd hws h
      have hst5 := hst.tups up5
      have hq5 := up5 _ _ hq
      have fd5 : (upd H4 pw (.lst (qs.reverse.map V.ref))) pf = some (.lst (natsV found)) := by rw [upd_ne (Ne.symm nwf)]; exact hfd
      have w5 : (upd H4 pw (.lst (qs.reverse.map V.ref))) pw = some (.lst (qs.reverse.map V.ref)) := upd_same
      generalize upd H4 pw (.lst (qs.reverse.map V.ref)) = H5 at k5 hst5 hq5 fd5 w5 ⊢
      refine w_gTup2 hq5 ?_
      walk_at "rd"
      have ha5 := k5.tup hH
      refine w_isi_tt ha5 ⟨_, rfl, if_t rfl ?_⟩
      walk_at "rd"
      refine if_f (decide_eq_false (by intro z; first | omega | (injection z; omega))) ?_
      walk_at "rd"
      refine ⟨by show 1 ≤ sizeLine; omega, fun p6 hp6 => ?_⟩
      have k6 := Kept.new (o := .lst [V.int 6]) hp6
      have e6 : (upd H5 p6 (.lst [V.int 6])) p6 = some (.lst (natsV [6])) := upd_same
      generalize upd H5 p6 (.lst [V.int 6]) = H6 at k6 e6 ⊢
      have ha6 := k6.tup ha5
      rw [List.length_cons] at hl
      walk_at "rd"
      refine ⟨a, xs, rfl, .inr (SqT.of ha6), ?_⟩
      walk_at "rd"
      refine ⟨xs.length, rfl, Nat.lt_of_le_of_lt (by omega : xs.length ≤ 2 ^ 10) (Nat.pow_lt_pow_right (by decide) (by decide)), fun p7 H7 k7 f7 e7 => ?_⟩
      have hsb := sizeB_len xs.length
      refine ⟨p6, p7, _, _, rfl, rfl, k7.lst e6, e7, by rw [natsV_len, natsV_len]; show 1 + _ ≤ _; omega, fun p8 hp8 => ?_⟩
      rw [natsV_app]
      have k8 := Kept.new (o := .lst (natsV ([6] ++ sizeB xs.length))) hp8
      have e8 : (upd H7 p8 (.lst (natsV ([6] ++ sizeB xs.length)))) p8 = some (.lst (natsV (6 :: sizeB xs.length))) := upd_same
      generalize upd H7 p8 (.lst (natsV ([6] ++ sizeB xs.length))) = H8 at k8 e8 ⊢
      have k58 := k6.trans (k7.trans k8)
      have fd8 := k58.lst fd5
      have hst8 := hst5.tups fun b xs h => k58.tup h
      walk_at "rd"
      refine w_extL fd8 e8 (by rw [natsV_len, natsV_len, List.length_cons]; omega) ?_
      rw [natsV_app]
      have k9 : Kept H (upd H8 pf (.lst (natsV (found ++ 6 :: sizeB xs.length)))) := Kept.mut (k5.trans k58) hpf
      have up9 : ∀ b ys, H8 b = some (.tup ys) → (upd H8 pf (.lst (natsV (found ++ 6 :: sizeB xs.length)))) b = some (.tup ys) := fun b ys h => tup_upd fd8 h
      have hst9 := hst8.tups up9
      have fd9 : (upd H8 pf (.lst (natsV (found ++ 6 :: sizeB xs.length)))) pf = some (.lst (natsV (found ++ 6 :: sizeB xs.length))) := upd_same
      have w9 : (upd H8 pf (.lst (natsV (found ++ 6 :: sizeB xs.length)))) pw = some (.lst (qs.reverse.map V.ref)) := by
        rw [upd_ne nwf]
        exact k58.lst w5
      generalize upd H8 pf (.lst (natsV (found ++ 6 :: sizeB xs.length))) = H9 at k9 hst9 fd9 w9 ⊢
      have ha9 := k9.tup hH
      walk_at "rd"
      refine w_revT ?_
      walk_at "rd"
      refine ⟨a, xs, rfl, SqT.of ha9, fun p10 hp10 => ?_⟩
      have k10 := Kept.new (o := .tup xs.reverse) hp10
      have e10 : (upd H9 p10 (.tup xs.reverse)) p10 = some (.tup xs.reverse) := upd_same
      generalize upd H9 p10 (.tup xs.reverse) = H10 at k10 e10 ⊢
      have hrl : xs.reverse.length = xs.length := List.length_reverse
      refine LcT.tups (fun i => [xs.reverse.getD i .non, .int ((d + 1 : Nat) : Int)]) (by omega) e10 (fun i x H11 k2 hx k11 h11 => ?_) fun D H11 ps hD k11 e11 hps hpt => ?_
      · walk_at "rd"
        refine ⟨by show 2 ≤ sizeLine; omega, fun q12 hq12 => h11 _ q12 (Kept.new hq12) ?_⟩
        rw [upd_same, List.getD_eq_getElem?_getD, hx]
        rfl
      · have k911 := k10.trans k11
        have hst11 := hst9.tups fun b xs h => k911.tup h
        have w11 := k911.lst w9
        have fd11 := k911.lst fd9
        walk_at "rd"
        rw [hrl] at hps
        refine w_extL w11 e11 (by rw [List.length_map, List.length_reverse, List.length_map, hst11.1]; omega) ?_
        have hn : WsA H11 ps.reverse (xs.map fun x => (x, d + 1)) := by
          refine ⟨by rw [List.length_reverse, List.length_map, hps], fun i q x e1 e2 => ?_⟩
          have hi : i < ps.length := by
            have := (List.getElem?_eq_some_iff.mp e1).1
            rwa [List.length_reverse] at this
          rw [List.getElem?_reverse hi] at e1
          have := hpt _ _ e1
          rw [this, List.getD_eq_getElem?_getD, List.getElem?_reverse (by omega), show xs.length - 1 - (ps.length - 1 - i) = i by omega]
          rw [List.getElem?_map] at e2
          cases e3 : xs[i]? with
          | none => rw [e3] at e2; cases e2
          | some y =>
            rw [e3] at e2
            cases e2
            rfl
        refine ⟨n + 1, by omega, n, (xs.map fun x => (x, d + 1)) ++ st, ps.reverse ++ qs, found ++ 6 :: sizeB xs.length, r, _, _, rfl, by omega, hrun, Kept.mut (k9.trans k911) hpw, ?_, ?_, (hn.app hst11).tups fun b xs h => tup_upd w11 h, by rw [List.length_append, List.length_map]; omega, by rw [List.length_append, List.length_cons]; omega, ?_⟩
        · rw [upd_ne (Ne.symm nwf)]
          exact fd11
        · rw [upd_same, List.reverse_append, List.reverse_reverse, List.map_append]
        · rw [er]
          cases r <;> simp
end
end Ky

namespace Ky
open PySem PySem.Spec PyProof.Rows L2
/-! ### instances with the fields kinds, weights, clauses, uses, set once -/
abbrev fsR (k w c u : V) : List (Str × V) := [(("kinds" : Str), k), (("weights" : Str), w), (("clauses" : Str), c), (("uses" : Str), u)]
abbrev rO (C dx k w c u : Addr) : HO := .ins C dx (fsR (.ref k) (.ref w) (.ref c) (.ref u))
structure Tr4 (K : PySem.W.Frag) (C : Addr) : Prop where
  cl : Cls K C
  nK : NoAttr K C "kinds"
  nW : NoAttr K C "weights"
  nC : NoAttr K C "clauses"
  nU : NoAttr K C "uses"
theorem nr1 : (("weights" : Str) == ("kinds" : Str)) = false := by decide
theorem nr2 : (("clauses" : Str) == ("kinds" : Str)) = false := by decide
theorem nr3 : (("clauses" : Str) == ("weights" : Str)) = false := by decide
theorem nr4 : (("uses" : Str) == ("kinds" : Str)) = false := by decide
theorem nr5 : (("uses" : Str) == ("weights" : Str)) = false := by decide
theorem nr6 : (("uses" : Str) == ("clauses" : Str)) = false := by decide
section
variable {K : PySem.W.Frag} {σ : L2.St} {H : Hp} {Q : VK} {D : Ends} {i : Nat} {a C dx : Addr} {k w c u y : V}
theorem lk_kinds : (fsR k w c u).lookup ("kinds" : Str) = some k := by simp [List.lookup]
theorem lk_weights : (fsR k w c u).lookup ("weights" : Str) = some w := by simp [List.lookup, nr1]
theorem lk_clauses : (fsR k w c u).lookup ("clauses" : Str) = some c := by simp [List.lookup, nr2, nr3]
theorem lk_uses : (fsR k w c u).lookup ("uses" : Str) = some u := by simp [List.lookup, nr4, nr5, nr6]
theorem w_kinds (T : Tr4 K C) (hs : σ[i]? = some (some (.ref a))) (h : H a = some (.ins C dx (fsR k w c u))) (q : Q k H) : tFld K (tVar i) "kinds" σ H Q := w_fld T.cl T.nK hs h lk_kinds q
theorem w_weights (T : Tr4 K C) (hs : σ[i]? = some (some (.ref a))) (h : H a = some (.ins C dx (fsR k w c u))) (q : Q w H) : tFld K (tVar i) "weights" σ H Q := w_fld T.cl T.nW hs h lk_weights q
theorem w_clauses (T : Tr4 K C) (hs : σ[i]? = some (some (.ref a))) (h : H a = some (.ins C dx (fsR k w c u))) (q : Q c H) : tFld K (tVar i) "clauses" σ H Q := w_fld T.cl T.nC hs h lk_clauses q
theorem w_uses (T : Tr4 K C) (hs : σ[i]? = some (some (.ref a))) (h : H a = some (.ins C dx (fsR k w c u))) (q : Q u H) : tFld K (tVar i) "uses" σ H Q := w_fld T.cl T.nU hs h lk_uses q
theorem w_pKinds (T : Tr4 K C) (h : H a = some (.ins C dx [])) (q : D.nx σ (upd H a (.ins C dx [(("kinds" : Str), y)]))) : sPut K "kinds" y D σ (.ref a) H := ⟨a, C, dx, _, rfl, h, T.cl, T.nK, by show 0 < 1000; decide, q⟩
theorem w_pWeights (T : Tr4 K C) (h : H a = some (.ins C dx [(("kinds" : Str), k)])) (q : D.nx σ (upd H a (.ins C dx [(("kinds" : Str), k), (("weights" : Str), y)]))) : sPut K "weights" y D σ (.ref a) H := ⟨a, C, dx, _, rfl, h, T.cl, T.nW, by show 1 < 1000; decide, by
  unfold putF
  rw [if_neg (by decide)]
  exact q⟩
theorem w_pClauses (T : Tr4 K C) (h : H a = some (.ins C dx [(("kinds" : Str), k), (("weights" : Str), w)])) (q : D.nx σ (upd H a (.ins C dx [(("kinds" : Str), k), (("weights" : Str), w), (("clauses" : Str), y)]))) : sPut K "clauses" y D σ (.ref a) H := ⟨a, C, dx, _, rfl, h, T.cl, T.nC, by show 2 < 1000; decide, by
  unfold putF
  rw [if_neg (by decide)]
  unfold putF
  rw [if_neg (by decide)]
  exact q⟩
theorem w_pUses (T : Tr4 K C) (h : H a = some (.ins C dx [(("kinds" : Str), k), (("weights" : Str), w), (("clauses" : Str), c)])) (q : D.nx σ (upd H a (.ins C dx (fsR k w c y)))) : sPut K "uses" y D σ (.ref a) H := ⟨a, C, dx, _, rfl, h, T.cl, T.nU, by show 3 < 1000; decide, by
  unfold putF
  rw [if_neg (by decide)]
  unfold putF
  rw [if_neg (by decide)]
  unfold putF
  rw [if_neg (by decide)]
  exact q⟩
end
theorem KB.dk {S : List Addr} {H H1 : Hp} {b : Addr} {kvs : List (Key × V)} (a : KB S H H1) (m : b ∉ S) (h : H b = some (.dK kvs)) : H1 b = some (.dK kvs) := a.keep b _ m (fun ps e => by cases e) h
end Ky

namespace Ky
open PySem PySem.Spec PyProof.Rows L2
/-! ### instances of two fields: data and at, many and parts -/
abbrev fsU (d p : V) : List (Str × V) := [(("data" : Str), d), (("at" : Str), p)]
abbrev uO (C dx pd : Addr) (p : Int) : HO := .ins C dx (fsU (.ref pd) (.int p))
structure Tu (K : PySem.W.Frag) (C : Addr) : Prop where
  cl : Cls K C
  nD : NoAttr K C "data"
  nA : NoAttr K C "at"
abbrev fsP (m p : V) : List (Str × V) := [(("many" : Str), m), (("parts" : Str), p)]
abbrev pO (C dx : Addr) (m : Int) (p : Addr) : HO := .ins C dx (fsP (.int m) (.ref p))
structure To (K : PySem.W.Frag) (C : Addr) : Prop where
  cl : Cls K C
  nM : NoAttr K C "many"
  nP : NoAttr K C "parts"
theorem nu1 : (("at" : Str) == ("data" : Str)) = false := by decide
theorem nu2 : (("parts" : Str) == ("many" : Str)) = false := by decide
section
variable {K : PySem.W.Frag} {σ : L2.St} {H : Hp} {Q : VK} {D : Ends} {i : Nat} {a C dx : Addr} {d p m y v : V} {te : TE}
theorem lk_data : (fsU d p).lookup ("data" : Str) = some d := by simp [List.lookup]
theorem lk_atU : (fsU d p).lookup ("at" : Str) = some p := by simp [List.lookup, nu1]
theorem lk_many : (fsP m p).lookup ("many" : Str) = some m := by simp [List.lookup]
theorem lk_parts : (fsP m p).lookup ("parts" : Str) = some p := by simp [List.lookup, nu2]
theorem put_atU : putF "at" y (fsU d p) = fsU d y := by
  unfold putF
  rw [if_neg (by decide)]
  unfold putF
  rw [if_pos rfl]
theorem w_data (T : Tu K C) (hs : σ[i]? = some (some (.ref a))) (h : H a = some (.ins C dx (fsU d p))) (q : Q d H) : tFld K (tVar i) "data" σ H Q := w_fld T.cl T.nD hs h lk_data q
theorem w_atU (T : Tu K C) (hs : σ[i]? = some (some (.ref a))) (h : H a = some (.ins C dx (fsU d p))) (q : Q p H) : tFld K (tVar i) "at" σ H Q := w_fld T.cl T.nA hs h lk_atU q
theorem w_many (T : To K C) (hs : σ[i]? = some (some (.ref a))) (h : H a = some (.ins C dx (fsP m p))) (q : Q m H) : tFld K (tVar i) "many" σ H Q := w_fld T.cl T.nM hs h lk_many q
theorem w_parts (T : To K C) (hs : σ[i]? = some (some (.ref a))) (h : H a = some (.ins C dx (fsP m p))) (q : Q p H) : tFld K (tVar i) "parts" σ H Q := w_fld T.cl T.nP hs h lk_parts q
theorem w_partsE (T : To K C) (q : te σ H fun x H1 => ∃ a dx m p, x = .ref a ∧ H1 a = some (.ins C dx (fsP m p)) ∧ Q p H1) (mono : ∀ Q Q' : VK, (∀ v H1, Q v H1 → Q' v H1) → te σ H Q → te σ H Q') : tFld K te "parts" σ H Q :=
  mono _ _ (fun v H1 ⟨a, dx, m, p, e, h, q⟩ => ⟨a, C, dx, _, _, e, h, T.cl, T.nP, lk_parts, q⟩) q
theorem w_pData (T : Tu K C) (h : H a = some (.ins C dx [])) (q : D.nx σ (upd H a (.ins C dx [(("data" : Str), y)]))) : sPut K "data" y D σ (.ref a) H := ⟨a, C, dx, _, rfl, h, T.cl, T.nD, by show 0 < 1000; decide, q⟩
theorem w_pAt (T : Tu K C) (h : H a = some (.ins C dx [(("data" : Str), d)])) (q : D.nx σ (upd H a (.ins C dx (fsU d y)))) : sPut K "at" y D σ (.ref a) H := ⟨a, C, dx, _, rfl, h, T.cl, T.nA, by show 1 < 1000; decide, by
  unfold putF
  rw [if_neg (by decide)]
  exact q⟩
theorem w_pMany (T : To K C) (h : H a = some (.ins C dx [])) (q : D.nx σ (upd H a (.ins C dx [(("many" : Str), y)]))) : sPut K "many" y D σ (.ref a) H := ⟨a, C, dx, _, rfl, h, T.cl, T.nM, by show 0 < 1000; decide, q⟩
theorem w_pParts (T : To K C) (h : H a = some (.ins C dx [(("many" : Str), m)])) (q : D.nx σ (upd H a (.ins C dx (fsP m y)))) : sPut K "parts" y D σ (.ref a) H := ⟨a, C, dx, _, rfl, h, T.cl, T.nP, by show 1 < 1000; decide, by
  unfold putF
  rw [if_neg (by decide)]
  exact q⟩
theorem w_augAt {n : Int} {k : Int} (T : Tu K C) (hs : σ[i]? = some (some (.ref a))) (h : H a = some (.ins C dx (fsU d (.int n)))) (q : D.nx σ (upd H a (.ins C dx (fsU d (.int (n + k)))))) : sFldAug K (tVar i) (tC (.int k)) (ipI fun i j => i + j) "at" D σ H :=
  ⟨_, hs, a, C, dx, _, _, rfl, h, T.cl, T.nA, lk_atU, ⟨n, k, rfl, rfl, dx, _, h, by show 2 < 1000; decide, by rw [put_atU]; exact q⟩⟩
end
end Ky

namespace Ky
open PySem PySem.Spec PyProof.Rows L2
local macro_rules | `(tactic| walk_at "rd") => `(tactic| repeat (first
  | with_reducible refine w_for1 ?_
  | with_reducible refine w_for2 ?_
  | with_reducible refine w_forL ?_
  | with_reducible refine w_forT ?_
  | with_reducible refine w_lc1 ?_
  | with_reducible refine w_lcL ?_
  | with_reducible refine w_lcT ?_
  | with_reducible refine w_dcL ?_
  | with_reducible refine w_dcT ?_
  | with_reducible refine w_seq ?_
  | with_reducible refine w_asg ?_
  | with_reducible refine w_ret ?_
  | with_reducible refine w_drop ?_
  | with_reducible refine w_ifs ?_
  | ((with_reducible refine' w_var ?hh ?_); (case hh => exact rfl))
  | with_reducible refine w_c ?_
  | with_reducible refine w_op ?_
  | with_reducible refine w_un ?_
  | with_reducible refine w_I0 ?_
  | with_reducible refine w_U ?_
  | with_reducible refine w_nil ?_
  | with_reducible refine w_cons ?_
  | with_reducible refine w_call ?_
  | with_reducible refine w_cb ?_
  | with_reducible refine w_test ?_
  | with_reducible refine w_B ?_
  | with_reducible refine w_bl ?_
  | with_reducible refine w_and ?_
  | with_reducible refine w_or ?_
  | with_reducible refine w_not ?_
  | with_reducible refine w_ife ?_
  | with_reducible refine w_gRd ?_
  | with_reducible refine w_andV ?_
  | with_reducible refine w_orV ?_
  | with_reducible refine w_notV ?_
  | with_reducible refine w_chain ?_
  | with_reducible refine w_din ?_
  | with_reducible refine w_isi_ii ?_
  | with_reducible refine w_isi_bi ?_
  | with_reducible refine w_isi_bb ?_
  | with_reducible refine w_isi_bt ?_
  | with_reducible refine w_isi_si ?_
  | with_reducible refine w_isi_nt ?_
  | with_reducible refine w_isi_ib ?_
  | with_reducible refine w_isi_it ?_
  | with_reducible refine w_isi_st ?_
  | ((with_reducible refine w_isi_tt ?h1 ?_); (case h1 => first | assumption | exact upd_same))
  | with_reducible refine if_t rfl ?_
  | with_reducible refine if_f rfl ?_
  | with_reducible refine w_tup ?_
  | with_reducible refine w_lst ?_
  | with_reducible refine w_next ?_
  | with_reducible refine w_bm ?_
  | with_reducible refine w_sl ?_
  | with_reducible refine w_part ?_
  | with_reducible refine w_nop ?_
  | with_reducible refine w_isI ?_
  | with_reducible refine w_yes ?_
  | with_reducible refine w_gn ?_
  | with_reducible refine w_gsub ?_
  | ((with_reducible refine' w_setL ?h1 ?h2 ?_); (case h1 => first | assumption | exact upd_same); (case h2 => exact rfl))
  | with_reducible refine w_asgG ?_
  | with_reducible refine w_m1 ?_
  | with_reducible refine w_isS ?_
  | with_reducible refine w_tyS ?_
  | ((with_reducible refine' w_tyL ?h1 ?_); (case h1 => first | assumption | exact upd_same))
  | ((with_reducible refine' w_ixT ?h1 ?h2 ?_); (case h1 => first | assumption | exact upd_same); (case h2 => exact rfl))
  | ((with_reducible refine' w_ixL ?h1 ?h2 ?_); (case h1 => first | assumption | exact upd_same); (case h2 => exact rfl))
  | ((with_reducible refine w_eq ?h1 ?_); (case h1 => exact rfl))
  | ((with_reducible refine w_ne ?h1 ?_); (case h1 => exact rfl))
  | ((with_reducible refine' w_text ?hT ?h1 ?h2 ?_); (case hT => assumption); (case h1 => exact rfl); (case h2 => first | assumption | exact upd_same))
  | ((with_reducible refine' w_at ?hT ?h1 ?h2 ?_); (case hT => assumption); (case h1 => exact rfl); (case h2 => first | assumption | exact upd_same))
  | ((with_reducible refine' w_token ?hT ?h1 ?h2 ?_); (case hT => assumption); (case h1 => exact rfl); (case h2 => first | assumption | exact upd_same))
  | ((with_reducible refine' w_data ?hT ?h1 ?h2 ?_); (case hT => assumption); (case h1 => exact rfl); (case h2 => first | assumption | exact upd_same))
  | ((with_reducible refine' w_atU ?hT ?h1 ?h2 ?_); (case hT => assumption); (case h1 => exact rfl); (case h2 => first | assumption | exact upd_same))
  | ((with_reducible refine' w_many ?hT ?h1 ?h2 ?_); (case hT => assumption); (case h1 => exact rfl); (case h2 => first | assumption | exact upd_same))
  | ((with_reducible refine' w_parts ?hT ?h1 ?h2 ?_); (case hT => assumption); (case h1 => exact rfl); (case h2 => first | assumption | exact upd_same))
  | ((with_reducible refine' w_pData ?hT ?h2 ?_); (case hT => assumption); (case h2 => first | assumption | exact upd_same))
  | ((with_reducible refine' w_pAt ?hT ?h2 ?_); (case hT => assumption); (case h2 => first | assumption | exact upd_same))
  | ((with_reducible refine' w_pMany ?hT ?h2 ?_); (case hT => assumption); (case h2 => first | assumption | exact upd_same))
  | ((with_reducible refine' w_pParts ?hT ?h2 ?_); (case hT => assumption); (case h2 => first | assumption | exact upd_same))
  | ((with_reducible refine' w_augAt ?hT ?h1 ?h2 ?_); (case hT => assumption); (case h1 => exact rfl); (case h2 => first | assumption | exact upd_same))
  | with_reducible refine w_sfld0 ?_
  | with_reducible refine w_mkx ?_
  | with_reducible refine w_nonR ?_
  | with_reducible refine w_bm0 ?_
  | ((with_reducible refine' w_putAt ?hT ?h2 ?_); (case hT => assumption); (case h2 => first | assumption | exact upd_same))
  | ((with_reducible refine' w_putToken ?hT ?h2 ?_); (case hT => assumption); (case h2 => first | assumption | exact upd_same))
  | dsimp only [List.set_cons_zero, List.set_cons_succ, List.append_nil, List.cons_append, List.nil_append, cxOf]))

open TL
def ErrK (E : XK) (CE : Addr) (S : List Addr) (H : Hp) (n : Int) : Prop := ∀ H1 d, KB S H H1 → H1 d = none → E (.ref CE) (some d) (upd H1 d (.xd [(("at" : Str), .int n)]))
theorem ErrK.kb {E : XK} {CE : Addr} {S T : List Addr} {H H2 : Hp} {n : Int} (h : ErrK E CE S H n) (k : KB T H H2) (m : ∀ b ∈ T, b ∈ S) : ErrK E CE S H2 n := fun H1 d k1 hd => h H1 d ((k.mono m).trans k1) hd
theorem ErrK.mono {E : XK} {CE : Addr} {S T : List Addr} {H : Hp} {n : Int} (h : ErrK E CE S H n) (m : ∀ b ∈ T, b ∈ S) : ErrK E CE T H n := fun H1 d k1 hd => h H1 d (k1.mono m) hd
structure UnAt (C dx pd : Addr) (bs l : List Nat) (a : Addr) (H : Hp) : Prop where
  o : H a = some (uO C dx pd ((bs.length : Int) - l.length))
  d : H pd = some (.lst (natsV bs))
  s : ∃ pre, bs = pre ++ l
  n : bs.length ≤ 950
theorem UnAt.kb {C dx pd a : Addr} {bs l : List Nat} {H H' : Hp} {S : List Addr} (h : UnAt C dx pd bs l a H) (k : KB S H H') (h1 : a ∉ S) (h2 : pd ∉ S) : UnAt C dx pd bs l a H' := ⟨k.ins h1 h.o, k.lst h2 h.d, h.s, h.n⟩
theorem UnAt.kept {C dx pd a : Addr} {bs l : List Nat} {H H' : Hp} (h : UnAt C dx pd bs l a H) (k : Kept H H') : UnAt C dx pd bs l a H' := h.kb (S := []) k.kb List.not_mem_nil List.not_mem_nil
theorem UnAt.ne {C dx pd a : Addr} {bs l : List Nat} {H : Hp} (h : UnAt C dx pd bs l a H) : pd ≠ a := fun e => by
  have h1 := h.o
  have h2 := h.d
  rw [e, h1] at h2
  cases h2
theorem UnAt.le {C dx pd a : Addr} {bs l : List Nat} {H : Hp} (h : UnAt C dx pd bs l a H) : l.length ≤ bs.length := by
  obtain ⟨pre, e⟩ := h.s
  rw [e, List.length_append]
  omega
/-- what a reader's method answers -/
def ResU {α : Type} (C dx pd CE : Addr) (bs : List Nat) (a : Addr) (H : Hp) (Q : VK) (E : XK) (val : α → V) : Except Nat (α × List Nat) → Prop
  | .ok (x, r) => ∀ H', KB [a] H H' → UnAt C dx pd bs r a H' → Q (val x) H'
  | .error m => ErrK E CE [a] H ((bs.length : Int) - m)
theorem ResU.kb {α : Type} {C dx pd CE a : Addr} {bs : List Nat} {H H2 : Hp} {Q : VK} {E : XK} {val : α → V} {o : Except Nat (α × List Nat)} (h : ResU C dx pd CE bs a H Q E val o) (k : KB [a] H H2) : ResU C dx pd CE bs a H2 Q E val o := by
  cases o with
  | error m => exact ErrK.kb h k fun b hb => hb
  | ok x => exact fun H' k' u => h H' (k.trans k') u
def spUInit (C : Addr) : Sp := fun vs H Q _ => ∃ (a dx pd : Addr) (bs : List Nat), vs = [.ref a, .ref pd] ∧ H a = some (.ins C dx []) ∧ H pd = some (.lst (natsV bs)) ∧ bs.length ≤ 950 ∧
  ∀ H', KB [a] H H' → UnAt C dx pd bs bs a H' → Q .non H'
def spUStep (C CE : Addr) : Sp := fun vs H Q E => ∃ (a dx pd : Addr) (bs l : List Nat) (lo hi : Nat), vs = [.ref a, .int (lo : Nat), .int (hi : Nat)] ∧ UnAt C dx pd bs l a H ∧ ResU C dx pd CE bs a H Q E (fun b : Nat => V.int (b : Nat)) (stepU lo hi l)
section
variable {P : Program} {w : World} {K : PySem.W.Frag} {mg : Str → Option Value} {base : Heap} {uD uN uF uT uC uB uX uU uL : Value} {f C Pt aB CE fI : Addr} {fd : FuncData}
theorem ok_un_init (F : Fun K "__init__" "Unpacking.__init__" s_un_init f fd) (T : Tx K mg uD uN uF uT uC uB uX uU uL aB) (TC : Tu K C) : FnOk P w K mg base CX0 1 f fd ["self", "data"] (spUInit C) := by
  refine F.ok sc_un_init (fun vs H Q E h => ?_) (fun cdv A outer s H vs Q E hr h => ?_)
  · obtain ⟨a, dx, pd, bs, rfl, _⟩ := h
    rfl
  · obtain ⟨a, dx, pd, bs, rfl, hO, hd, hn, k⟩ := h
    refine ⟨_, (pss_cons (ps_fld (pv 0) (pv 1) rfl)
    (pss_one (ps_fld (pv 0) pe_int rfl))), ?_⟩
    rw [show start n_un_init [(.ref a : V), (.ref pd : V)] = ([some (.ref a), some (.ref pd)] : List (Option V)) from rfl]
    walk_at "rd"
    have nd : pd ≠ a := fun e => by
      rw [e, hO] at hd
      cases hd
    have k0 := KB.put (S := [a]) (o' := HO.ins C dx [(("data" : Str), V.ref pd)]) (List.mem_singleton.mpr rfl) hO noTab_ins (fun xs e => by cases e)
    generalize hH1 : upd H a (HO.ins C dx [(("data" : Str), V.ref pd)]) = H1 at k0 ⊢
    have g1 : H1 a = some (HO.ins C dx [(("data" : Str), V.ref pd)]) := by rw [← hH1, upd_same]
    have k1 := KB.put (S := [a]) (o' := uO C dx pd 0) (List.mem_singleton.mpr rfl) g1 noTab_ins (fun xs e => by cases e)
    refine k _ (k0.trans k1) ⟨by rw [upd_same, Int.sub_self], by rw [upd_ne nd, ← hH1, upd_ne nd]; exact hd, ⟨[], rfl⟩, hn⟩
theorem ok_un_step (F : Fun K "step" "Unpacking.step" s_un_step f fd) (T : Tx K mg uD uN uF uT uC uB uX uU uL aB) (TC : Tu K C) (TX : PySem.Xi.XTxt P K mg "PackError" "at" "place " CE fI) (D_is_whole : Df P w K mg base 1 "is_whole" ["value"] spWholeX) : FnOk P w K mg base (L2.CX P w) 2 f fd ["self", "least", "greatest"] (spUStep C CE) := by
  refine F.okX sc_un_step (fun vs H Q E h => ?_) (fun cdv A outer s H vs Q E hr h => ?_)
  · obtain ⟨a, dx, pd, bs, l, lo, hi, rfl, _⟩ := h
    rfl
  · obtain ⟨a, dx, pd, bs, l, lo, hi, rfl, hU, k⟩ := h
    refine ⟨_, (pss_cons (ps_if (pt_cmpR op_eq (pe_fld (pv 0) rfl) (pe_callB call_len_seq (by rfl) T.z_len (by decide +kernel) (pa_cons (pe_fld (pv 0) rfl) pa_nil)) (nomark _))
      (pss_one (ps_raise rfl (takes_of rfl rfl rfl rfl) (pmk_x TX hr (pa_cons (pe_fld (pv 0) rfl) pa_nil) (by rfl) (by decide))))
      pss_nil)
    (pss_cons (ps_set (i := 3) sc_un_step.nd rfl (.inl rfl) (pe_ix (ix_listK (K := K) rfl) (pe_fld (pv 0) rfl) (pe_fld (pv 0) rfl) (fun _ _ => rfl)))
    (pss_cons (ps_if (PW.pt (pw_or (pt_not (pt_val (pe_df D_is_whole (hr.mono (by decide)) (by rfl) (pa_cons (pv 3) pa_nil)))) (pw_or1 (pt_not (pt_chain op_le op_le (pv 1) (pv 3) (pv 2))))))
      (pss_one (ps_raise rfl (takes_of rfl rfl rfl rfl) (pmk_x TX hr (pa_cons (pe_fld (pv 0) rfl) pa_nil) (by rfl) (by decide))))
      pss_nil)
    (pss_cons (ps_fldaug (pv 0) pe_int ip_add)
    (pss_one (ps_ret (pv 3))))))), ?_⟩
    rw [show start n_un_step [(.ref a : V), (.int (lo : Nat) : V), (.int (hi : Nat) : V)] = ([some (.ref a), some (.int (lo : Nat)), some (.int (hi : Nat)), none] : List (Option V)) from rfl]
    have ho := hU.o
    have hd := hU.d
    have hle := hU.le
    have hn := hU.n
    have hsl : 16000000 ≤ sizeLine := by decide
    walk_at "rd"
    refine ⟨pd, _, rfl, .inl (SqL.of hd), ?_⟩
    rw [natsV_len]
    walk_at "rd"
    have log : ∀ n : Int, 0 ≤ n → n ≤ 950 → n.natAbs.log2 < 1000 := fun n h1 h2 => Nat.lt_of_le_of_lt (Nat.log2_le_self _) (by omega)
    have fail : ResU C dx pd CE bs a H Q E (fun b : Nat => V.int (b : Nat)) (.error l.length) → ∀ d, H d = none → E (.ref CE) (some d) (upd H d (.xd [(("at" : Str), .int ((bs.length : Int) - l.length))])) := fun k d hd => k H d (KB.refl _ _) hd
    cases l with
    | nil =>
      refine if_t (decide_eq_true (by simp)) ?_
      walk_at "rd"
      refine ⟨_, rfl, log _ (by omega) (by omega), fail k⟩
    | cons b r =>
      rw [List.length_cons] at ho hle fail
      refine if_f (decide_eq_false (by intro z; injection z with z; simp only [List.length_cons] at z; omega)) ?_
      obtain ⟨pre, es⟩ := hU.s
      have hpl : (pre.length : Int) = (bs.length : Int) - ((r.length + 1 : Nat) : Int) := by
        rw [es, List.length_append, List.length_cons]
        omega
      have hix : (natsV bs)[pre.length]? = some (.int (b : Nat)) := by
        unfold natsV
        rw [es, List.map_append, List.getElem?_append_right (by rw [List.length_map]; exact Nat.le_refl _), List.length_map, Nat.sub_self]
        rfl
      rw [← hpl] at ho fail
      walk_at "rd"
      refine w_ixL hd (v := .int (b : Nat)) (atI_nat hix) ?_
      walk_at "rd"
      refine ⟨_, some (.i (b : Nat)), rfl, (by unfold TrX; dsimp only; unfold TrAt; rfl), ?_⟩
      walk_at "rd"
      have bad : ¬ (lo ≤ b ∧ b ≤ hi) → ∃ n : Int, [V.int ((pre.length : Nat) : Int)] = [.int n] ∧ n.natAbs.log2 < 1000 ∧ ∀ d, H d = none → E (.ref CE) (some d) (upd H d (.xd [(("at" : Str), .int n)])) := fun hb => by
        rw [stepU_cons, if_neg hb] at k
        exact ⟨_, rfl, log _ (by omega) (by omega), fail k⟩
      by_cases c1 : lo ≤ b
      · refine if_t (decide_eq_true (by omega)) ?_
        walk_at "rd"
        by_cases c2 : b ≤ hi
        · refine if_f (by rw [decide_eq_true (by omega : (b : Int) ≤ hi)] <;> rfl) ?_
          walk_at "rd"
          rw [stepU_cons, if_pos ⟨c1, c2⟩] at k
          refine k _ (KB.put (List.mem_singleton.mpr rfl) ho noTab_ins (fun xs e => by cases e)) ⟨by rw [upd_same, show (pre.length : Int) + 1 = (bs.length : Int) - r.length by omega], by rw [upd_ne hU.ne]; exact hd, ⟨pre ++ [b], by rw [es, List.append_assoc] <;> rfl⟩, hn⟩
        · refine if_t (by rw [decide_eq_false (by omega : ¬ (b : Int) ≤ hi)] <;> rfl) ?_
          walk_at "rd"
          exact bad fun z => c2 z.2
      · refine if_f (decide_eq_false (by omega)) ⟨_, rfl, if_t rfl ?_⟩
        walk_at "rd"
        exact bad fun z => c1 z.1
end
end Ky

namespace Ky
open PySem PySem.Spec PyProof.Rows L2
local macro_rules | `(tactic| walk_at "rd") => `(tactic| repeat (first
  | with_reducible refine w_for1 ?_
  | with_reducible refine w_for2 ?_
  | with_reducible refine w_forL ?_
  | with_reducible refine w_forT ?_
  | with_reducible refine w_lc1 ?_
  | with_reducible refine w_lcL ?_
  | with_reducible refine w_lcT ?_
  | with_reducible refine w_dcL ?_
  | with_reducible refine w_dcT ?_
  | with_reducible refine w_seq ?_
  | with_reducible refine w_asg ?_
  | with_reducible refine w_ret ?_
  | with_reducible refine w_drop ?_
  | with_reducible refine w_ifs ?_
  | ((with_reducible refine' w_var ?hh ?_); (case hh => exact rfl))
  | with_reducible refine w_c ?_
  | with_reducible refine w_op ?_
  | with_reducible refine w_un ?_
  | with_reducible refine w_I0 ?_
  | with_reducible refine w_U ?_
  | with_reducible refine w_nil ?_
  | with_reducible refine w_cons ?_
  | with_reducible refine w_call ?_
  | with_reducible refine w_cb ?_
  | with_reducible refine w_test ?_
  | with_reducible refine w_B ?_
  | with_reducible refine w_bl ?_
  | with_reducible refine w_and ?_
  | with_reducible refine w_or ?_
  | with_reducible refine w_not ?_
  | with_reducible refine w_ife ?_
  | with_reducible refine w_gRd ?_
  | with_reducible refine w_andV ?_
  | with_reducible refine w_orV ?_
  | with_reducible refine w_notV ?_
  | with_reducible refine w_chain ?_
  | with_reducible refine w_din ?_
  | with_reducible refine w_isi_ii ?_
  | with_reducible refine w_isi_bi ?_
  | with_reducible refine w_isi_bb ?_
  | with_reducible refine w_isi_bt ?_
  | with_reducible refine w_isi_si ?_
  | with_reducible refine w_isi_nt ?_
  | with_reducible refine w_isi_ib ?_
  | with_reducible refine w_isi_it ?_
  | with_reducible refine w_isi_st ?_
  | ((with_reducible refine w_isi_tt ?h1 ?_); (case h1 => first | assumption | exact upd_same))
  | with_reducible refine if_t rfl ?_
  | with_reducible refine if_f rfl ?_
  | with_reducible refine w_tup ?_
  | with_reducible refine w_lst ?_
  | with_reducible refine w_next ?_
  | with_reducible refine w_bm ?_
  | with_reducible refine w_sl ?_
  | with_reducible refine w_part ?_
  | with_reducible refine w_nop ?_
  | with_reducible refine w_isI ?_
  | with_reducible refine w_yes ?_
  | with_reducible refine w_gn ?_
  | with_reducible refine w_gsub ?_
  | ((with_reducible refine' w_setL ?h1 ?h2 ?_); (case h1 => first | assumption | exact upd_same); (case h2 => exact rfl))
  | with_reducible refine w_asgG ?_
  | with_reducible refine w_m1 ?_
  | with_reducible refine w_isS ?_
  | with_reducible refine w_tyS ?_
  | ((with_reducible refine' w_tyL ?h1 ?_); (case h1 => first | assumption | exact upd_same))
  | ((with_reducible refine' w_ixT ?h1 ?h2 ?_); (case h1 => first | assumption | exact upd_same); (case h2 => exact rfl))
  | ((with_reducible refine' w_ixL ?h1 ?h2 ?_); (case h1 => first | assumption | exact upd_same); (case h2 => exact rfl))
  | ((with_reducible refine w_eq ?h1 ?_); (case h1 => exact rfl))
  | ((with_reducible refine w_ne ?h1 ?_); (case h1 => exact rfl))
  | ((with_reducible refine' w_text ?hT ?h1 ?h2 ?_); (case hT => assumption); (case h1 => exact rfl); (case h2 => first | assumption | exact upd_same))
  | ((with_reducible refine' w_at ?hT ?h1 ?h2 ?_); (case hT => assumption); (case h1 => exact rfl); (case h2 => first | assumption | exact upd_same))
  | ((with_reducible refine' w_token ?hT ?h1 ?h2 ?_); (case hT => assumption); (case h1 => exact rfl); (case h2 => first | assumption | exact upd_same))
  | ((with_reducible refine' w_data ?hT ?h1 ?h2 ?_); (case hT => assumption); (case h1 => exact rfl); (case h2 => first | assumption | exact upd_same))
  | ((with_reducible refine' w_atU ?hT ?h1 ?h2 ?_); (case hT => assumption); (case h1 => exact rfl); (case h2 => first | assumption | exact upd_same))
  | ((with_reducible refine' w_many ?hT ?h1 ?h2 ?_); (case hT => assumption); (case h1 => exact rfl); (case h2 => first | assumption | exact upd_same))
  | ((with_reducible refine' w_parts ?hT ?h1 ?h2 ?_); (case hT => assumption); (case h1 => exact rfl); (case h2 => first | assumption | exact upd_same))
  | ((with_reducible refine' w_pData ?hT ?h2 ?_); (case hT => assumption); (case h2 => first | assumption | exact upd_same))
  | ((with_reducible refine' w_pAt ?hT ?h2 ?_); (case hT => assumption); (case h2 => first | assumption | exact upd_same))
  | ((with_reducible refine' w_pMany ?hT ?h2 ?_); (case hT => assumption); (case h2 => first | assumption | exact upd_same))
  | ((with_reducible refine' w_pParts ?hT ?h2 ?_); (case hT => assumption); (case h2 => first | assumption | exact upd_same))
  | ((with_reducible refine' w_augAt ?hT ?h1 ?h2 ?_); (case hT => assumption); (case h1 => exact rfl); (case h2 => first | assumption | exact upd_same))
  | with_reducible refine w_sfld0 ?_
  | with_reducible refine w_mkx ?_
  | with_reducible refine w_nonR ?_
  | with_reducible refine w_bm0 ?_
  | ((with_reducible refine' w_putAt ?hT ?h2 ?_); (case hT => assumption); (case h2 => first | assumption | exact upd_same))
  | ((with_reducible refine' w_putToken ?hT ?h2 ?_); (case hT => assumption); (case h2 => first | assumption | exact upd_same))
  | dsimp only [List.set_cons_zero, List.set_cons_succ, List.append_nil, List.cons_append, List.nil_append, cxOf]))

open TL
def spUSize (C CE : Addr) : Sp := fun vs H Q E => ∃ (a dx pd : Addr) (bs l : List Nat), vs = [.ref a] ∧ UnAt C dx pd bs l a H ∧ ResU C dx pd CE bs a H Q E (fun b : Nat => V.int (b : Nat)) (sizeU 0 l)
def fD (d acc : Nat) : Nat := acc * 128 + d
def combU (ds : List Nat) : Except Nat (Nat × List Nat) → Except Nat (Nat × List Nat)
  | .error m => .error m
  | .ok (n, r) => .ok (ds.foldr fD n, r)
theorem comb_snoc (ds : List Nat) (b : Nat) (o : Except Nat (Nat × List Nat)) : combU (ds ++ [b]) o = combU ds (combU [b] o) := by
  cases o with
  | error m => rfl
  | ok x =>
    obtain ⟨n, r⟩ := x
    unfold combU
    dsimp only
    rw [List.foldr_append]
theorem sizeU_cons (f b : Nat) (r : List Nat) : sizeU f (b :: r) = if f ≤ b ∧ b ≤ 255 then (if b < 128 then .ok (b, r) else combU [b - 128] (sizeU 1 r)) else .error (r.length + 1) := by
  rw [sizeU]
  by_cases c : f ≤ b ∧ b ≤ 255
  · rw [if_pos c, if_pos c]
    by_cases c2 : b < 128
    · rw [if_pos c2, if_pos c2]
    · rw [if_neg c2, if_neg c2]
      cases sizeU 1 r with
      | error m => rfl
      | ok x => rfl
  · rw [if_neg c, if_neg c]
theorem foldD (ds : List Nat) (n k : Nat) (h : ∀ d ∈ ds, d < 128) (hn : n < 2 ^ k) : ds.foldr fD n < 2 ^ (k + 7 * ds.length) := by
  induction ds with
  | nil => exact hn
  | cons d ds ih =>
    have := ih fun x hx => h x (List.mem_cons_of_mem _ hx)
    have hd := h d List.mem_cons_self
    rw [List.foldr_cons, List.length_cons, show k + 7 * (ds.length + 1) = (k + 7 * ds.length) + 7 by omega, Nat.pow_add]
    unfold fD at this ⊢
    omega
theorem w_revL {σ : L2.St} {H : Hp} {Q : VK} {K : PySem.W.Frag} {te : TE} (q : te σ H fun x H1 => ∃ a xs, x = .ref a ∧ SqL K H1 a xs ∧ ∀ p, H1 p = none → Q (.ref p) (upd H1 p (.lst xs.reverse))) : tRevL K te σ H Q := q
theorem if_tC {c : Bool} {x y : V} {σ : L2.St} {H : Hp} {F : VK} (q : tC (if c = true then x else y) σ H F) : if c = true then tC x σ H F else tC y σ H F := by
  cases c <;> exact q
def f0 (ds : List Nat) : Nat := if ds = [] then 0 else 1
theorem f0_val (ds : List Nat) : (if (!(natsV ds).isEmpty) = true then V.int 1 else V.int 0) = V.int ((f0 ds : Nat) : Int) := by
  cases ds <;> rfl
theorem foldl_bd (ds : List Nat) (h : ∀ d ∈ ds, d < 128) (a k : Nat) (ha : a < 2 ^ k) : ds.foldl (fun acc d => acc * 128 + d) a < 2 ^ (k + 7 * ds.length) := by
  have e : ds.foldl (fun acc d => acc * 128 + d) a = ds.reverse.foldr fD a := by
    rw [← List.foldl_reverse, List.reverse_reverse] <;> rfl
  rw [e]
  have := foldD ds.reverse a k (fun d hd => h d (List.mem_reverse.mp hd)) ha
  rw [List.length_reverse] at this
  exact this
section
variable {P : Program} {w : World} {K : PySem.W.Frag} {mg : Str → Option Value} {base : Heap} {uD uN uF uT uC uB uX uU uL : Value} {f C Pt aB CE fI : Addr} {fd : FuncData}
theorem ok_un_size (F : Fun K "size" "Unpacking.size" s_un_size f fd) (T : Tx K mg uD uN uF uT uC uB uX uU uL aB) (TC : Tu K C) (M_step : Mf P w K mg base (L2.CX P w) 2 C "step" ["self", "least", "greatest"] (spUStep C CE)) : FnOk P w K mg base (L2.CX P w) 3 f fd ["self"] (spUSize C CE) := by
  refine F.okX sc_un_size (fun vs H Q E h => ?_) (fun cdv A outer s H vs Q E hr h => ?_)
  · obtain ⟨a, dx, pd, bs, l, rfl, _⟩ := h
    rfl
  · obtain ⟨a, dx, pd, bs, l, rfl, hU, k⟩ := h
    refine ⟨_, (pss_cons (ps_set (i := 1) sc_un_size.nd rfl (.inl rfl) (pe_lst pa_nil))
    (pss_cons (ps_set (i := 2) sc_un_size.nd rfl (.inl rfl) pe_int)
    (pss_cons (ps_while (passes_of rfl) (pt_cmpR op_ge (pv 2) pe_int (nomark _))
      (pss_cons (ps_set (i := 2) sc_un_size.nd rfl (.inl rfl) (pe_mf TC.cl M_step (pv 0) (hr.mono (by decide)) (pass_e (takes_of rfl rfl rfl rfl)) (pa_cons (pe_ifExp (pt_truth (pv 1) (by intro _; rfl)) pe_int pe_int) (pa_cons pe_int pa_nil))))
    (pss_one (ps_expr (pe_bm PySem.F.plainAttrs_list PySem.F.slot_list_append PySem.F.type_list_append mt_append (pv 1) (pa_cons (pe_op op_mod (pv 2) pe_int) pa_nil))))))
    (pss_cons (ps_set (i := 3) sc_un_size.nd rfl (.inl rfl) pe_int)
    (pss_cons (ps_for (passes_of rfl) rfl (pi_listK (K := K) rfl (pe_revL (pv 1))) (pg_name (i := 4) sc_un_size.nd rfl (.inl rfl))
      (pss_one (ps_set (i := 3) sc_un_size.nd rfl (.inl rfl) (pe_op op_add (pe_op op_mulW (pv 3) pe_int) (pv 4)))))
    (pss_one (ps_ret (pv 3)))))))), ?_⟩
    rw [show start n_un_size [(.ref a : V)] = ([some (.ref a), none, none, none, none] : List (Option V)) from rfl]
    have hn := hU.n
    have hle := hU.le
    have hsl : 16000000 ≤ sizeLine := by decide
    walk_at "rd"
    refine ⟨Nat.zero_le _, fun p hp => ?_⟩
    have k1 := Kept.new (o := .lst []) hp
    have g1 : (upd H p (.lst [])) p = some (.lst (natsV [])) := upd_same
    have u1 := hU.kept k1
    generalize upd H p (.lst []) = H1 at k1 g1 u1 ⊢
    walk_at "rd"
    refine ⟨fun m σ' H' => ∃ (b : Nat) (ds r : List Nat), σ' = [some (.ref a), some (.ref p), some (.int (b : Nat)), none, none] ∧ KB [a] H H' ∧ H' p = some (.lst (natsV ds)) ∧ UnAt C dx pd bs r a H' ∧ r.length + ds.length = l.length ∧ (∀ d ∈ ds, d < 128) ∧ ((128 ≤ b ∧ r.length + 2 ≤ m + 0 ∧ sizeU 0 l = combU ds (sizeU (f0 ds) r)) ∨ (b < 128 ∧ 1 ≤ m ∧ sizeU 0 l = .ok (ds.foldr fD 0, r))), ⟨l.length + 2, 128, [], l, rfl, k1.kb, g1, u1, by simp, (fun d hd => by cases hd), .inl ⟨Nat.le_refl _, by omega, by
      show sizeU 0 l = combU [] (sizeU 0 l)
      cases e : sizeU 0 l with
      | error m => rfl
      | ok x => rfl⟩⟩, ?_⟩
    rintro m σ' H2 ⟨b, ds, r, rfl, k2, g2, u2, hl, hds, hcase⟩
    walk_at "rd"
    rcases hcase with ⟨hb, hm, es⟩ | ⟨hb, hm, es⟩
    · refine if_t (decide_eq_true (by omega)) ?_
      refine ⟨_, fun σ' H' h => h, ?_⟩
      walk_at "rd"
      refine w_meth rfl u2.o (by rfl) ?_
      walk_at "rd"
      refine ⟨!(natsV ds).isEmpty, .inl ⟨_, SqL.of g2, rfl⟩, ?_⟩
      refine if_tC ?_
      rw [f0_val]
      walk_at "rd"
      refine ⟨a, dx, pd, bs, r, f0 ds, 255, rfl, u2, ?_⟩
      cases r with
      | nil =>
        rw [show sizeU (f0 ds) [] = .error 0 from rfl] at es
        rw [es] at k
        exact ErrK.kb k k2 fun b hb => hb
      | cons b2 r2 =>
        rw [sizeU_cons] at es
        rw [stepU_cons]
        by_cases c : f0 ds ≤ b2 ∧ b2 ≤ 255
        · rw [if_pos c] at es ⊢
          intro H3 k3 u3
          have g3 := k3.lst (by
            intro z
            have z := List.mem_singleton.mp z
            have := u2.o
            rw [← z, g2] at this
            cases this) g2
          rw [List.length_cons] at hl hm
          walk_at "rd"
          refine ⟨_, _, rfl, rfl, (show (0 : Int) < 128 by decide), ?_⟩
          walk_at "rd"
          refine w_app g3 (by rw [natsV_len]; omega) ?_
          have hpa : H p = none := hp
          have k4 : KB [a] H (upd H3 p (.lst (natsV ds ++ [.int ((b2 : Int) % 128)]))) := KB.mut (k2.trans k3) hp
          have k34 : KB [p] H3 (upd H3 p (.lst (natsV ds ++ [.int ((b2 : Int) % 128)]))) := KB.put (List.mem_singleton.mpr rfl) g3 noTab_lst (fun xs e => by cases e)
          have u4 := u3.kb k34 (by
            intro z
            have z := List.mem_singleton.mp z
            have := u3.o
            rw [z, g3] at this
            cases this) (by
            intro z
            have z := List.mem_singleton.mp z
            have := hU.d
            rw [z, hp] at this
            cases this)
          have e4 : (upd H3 p (.lst (natsV ds ++ [.int ((b2 : Int) % 128)]))) p = some (.lst (natsV (ds ++ [b2 % 128]))) := by
            rw [upd_same]
            unfold natsV
            rw [List.map_append]
            rfl
          have hds' : ∀ d ∈ ds ++ [b2 % 128], d < 128 := fun d hd => by
            rcases List.mem_append.mp hd with hd | hd
            · exact hds d hd
            · rw [List.mem_singleton.mp hd]
              exact Nat.mod_lt _ (by decide)
          refine ⟨m - 1, by omega, b2, ds ++ [b2 % 128], r2, rfl, k4, e4, u4, by rw [List.length_append, List.length_singleton]; omega, hds', ?_⟩
          by_cases c2 : b2 < 128
          · rw [if_pos c2] at es
            refine .inr ⟨c2, by omega, ?_⟩
            rw [es, Nat.mod_eq_of_lt c2, List.foldr_append]
            show _ = Except.ok (List.foldr fD (0 * 128 + b2) ds, r2)
            rw [Nat.zero_mul, Nat.zero_add]
            rfl
          · rw [if_neg c2] at es
            refine .inl ⟨by omega, by omega, ?_⟩
            rw [es, show f0 (ds ++ [b2 % 128]) = 1 by unfold f0; rw [if_neg (by simp)], comb_snoc, show b2 % 128 = b2 - 128 by omega]
        · rw [if_neg c] at es ⊢
          rw [es] at k
          exact ErrK.kb k k2 fun b hb => hb
    · refine if_f (decide_eq_false (by omega)) ?_
      walk_at "rd"
      refine w_revL ?_
      walk_at "rd"
      refine ⟨p, _, rfl, SqL.of g2, fun q hq => ?_⟩
      have k3 := Kept.new (o := .lst (natsV ds).reverse) hq
      have g3 : (upd H2 q (.lst (natsV ds).reverse)) q = some (.lst (natsV ds.reverse)) := by
        rw [upd_same]
        unfold natsV
        rw [List.map_reverse]
      have u3 := u2.kept k3
      generalize upd H2 q (.lst (natsV ds).reverse) = H3 at k3 g3 u3 ⊢
      refine FrL.mk (xs := natsV ds.reverse) (fun i σ' H' => ∃ v4, σ' = [some (.ref a), some (.ref p), some (.int (b : Nat)), some (.int (((ds.reverse.take i).foldl (fun acc d => acc * 128 + d) 0 : Nat) : Int)), v4] ∧ H' = H3) ⟨_, rfl, rfl⟩ (fun i σ' H' _ h => by
        obtain ⟨_, _, rfl⟩ := h
        exact SqL.of g3) (fun i x σ' H' hx h => ?_) fun σ' H' h => ?_
      · obtain ⟨v4, rfl, rfl⟩ := h
        unfold natsV at hx
        rw [List.getElem?_map] at hx
        cases e3 : ds.reverse[i]? with
        | none => rw [e3] at hx; cases hx
        | some d =>
          rw [e3] at hx
          cases hx
          walk_at "rd"
          have hr : ∀ d ∈ ds.reverse.take i, d < 128 := fun d hd => hds d (List.mem_reverse.mp (List.mem_of_mem_take hd))
          have hb := foldl_bd _ hr 0 1 (by decide)
          refine ⟨_, _, rfl, rfl, wide_mul (a := 1 + 7 * (ds.reverse.take i).length) (b := 8) (by rw [Int.natAbs_natCast]; exact hb) (by decide) (by omega) (by decide) (by
            have : (ds.reverse.take i).length ≤ ds.reverse.length := by rw [List.length_take]; exact Nat.min_le_right _ _
            rw [List.length_reverse] at this
            omega), ?_⟩
          walk_at "rd"
          refine ⟨some (.int (d : Nat)), ?_, rfl⟩
          rw [List.take_add_one, e3]
          rw [show (some d).toList = [d] from rfl]
          rw [List.foldl_append]
          rfl
      · obtain ⟨v4, rfl, rfl⟩ := h
        walk_at "rd"
        rw [List.take_of_length_le (by rw [natsV_len]; exact Nat.le_refl _), show List.foldl (fun acc d => acc * 128 + d) 0 ds.reverse = ds.foldr fD 0 by rw [List.foldl_reverse] <;> rfl]
        rw [es] at k
        exact k _ (k2.trans k3.kb) u3
end
end Ky

namespace Ky
open PySem PySem.Spec PyProof.Rows L2
local macro_rules | `(tactic| walk_at "rd") => `(tactic| repeat (first
  | with_reducible refine w_for1 ?_
  | with_reducible refine w_for2 ?_
  | with_reducible refine w_forL ?_
  | with_reducible refine w_forT ?_
  | with_reducible refine w_lc1 ?_
  | with_reducible refine w_lcL ?_
  | with_reducible refine w_lcT ?_
  | with_reducible refine w_dcL ?_
  | with_reducible refine w_dcT ?_
  | with_reducible refine w_seq ?_
  | with_reducible refine w_asg ?_
  | with_reducible refine w_ret ?_
  | with_reducible refine w_drop ?_
  | with_reducible refine w_ifs ?_
  | ((with_reducible refine' w_var ?hh ?_); (case hh => exact rfl))
  | with_reducible refine w_c ?_
  | with_reducible refine w_op ?_
  | with_reducible refine w_un ?_
  | with_reducible refine w_I0 ?_
  | with_reducible refine w_U ?_
  | with_reducible refine w_nil ?_
  | with_reducible refine w_cons ?_
  | with_reducible refine w_call ?_
  | with_reducible refine w_cb ?_
  | with_reducible refine w_test ?_
  | with_reducible refine w_B ?_
  | with_reducible refine w_bl ?_
  | with_reducible refine w_and ?_
  | with_reducible refine w_or ?_
  | with_reducible refine w_not ?_
  | with_reducible refine w_ife ?_
  | with_reducible refine w_gRd ?_
  | with_reducible refine w_andV ?_
  | with_reducible refine w_orV ?_
  | with_reducible refine w_notV ?_
  | with_reducible refine w_chain ?_
  | with_reducible refine w_din ?_
  | with_reducible refine w_isi_ii ?_
  | with_reducible refine w_isi_bi ?_
  | with_reducible refine w_isi_bb ?_
  | with_reducible refine w_isi_bt ?_
  | with_reducible refine w_isi_si ?_
  | with_reducible refine w_isi_nt ?_
  | with_reducible refine w_isi_ib ?_
  | with_reducible refine w_isi_it ?_
  | with_reducible refine w_isi_st ?_
  | ((with_reducible refine w_isi_tt ?h1 ?_); (case h1 => first | assumption | exact upd_same))
  | with_reducible refine if_t rfl ?_
  | with_reducible refine if_f rfl ?_
  | with_reducible refine w_tup ?_
  | with_reducible refine w_lst ?_
  | with_reducible refine w_next ?_
  | with_reducible refine w_bm ?_
  | with_reducible refine w_sl ?_
  | with_reducible refine w_part ?_
  | with_reducible refine w_nop ?_
  | with_reducible refine w_isI ?_
  | with_reducible refine w_yes ?_
  | with_reducible refine w_gn ?_
  | with_reducible refine w_gsub ?_
  | ((with_reducible refine' w_setL ?h1 ?h2 ?_); (case h1 => first | assumption | exact upd_same); (case h2 => exact rfl))
  | with_reducible refine w_asgG ?_
  | with_reducible refine w_m1 ?_
  | with_reducible refine w_isS ?_
  | with_reducible refine w_tyS ?_
  | ((with_reducible refine' w_tyL ?h1 ?_); (case h1 => first | assumption | exact upd_same))
  | ((with_reducible refine' w_ixT ?h1 ?h2 ?_); (case h1 => first | assumption | exact upd_same); (case h2 => exact rfl))
  | ((with_reducible refine' w_ixL ?h1 ?h2 ?_); (case h1 => first | assumption | exact upd_same); (case h2 => exact rfl))
  | ((with_reducible refine w_eq ?h1 ?_); (case h1 => exact rfl))
  | ((with_reducible refine w_ne ?h1 ?_); (case h1 => exact rfl))
  | ((with_reducible refine' w_text ?hT ?h1 ?h2 ?_); (case hT => assumption); (case h1 => exact rfl); (case h2 => first | assumption | exact upd_same))
  | ((with_reducible refine' w_at ?hT ?h1 ?h2 ?_); (case hT => assumption); (case h1 => exact rfl); (case h2 => first | assumption | exact upd_same))
  | ((with_reducible refine' w_token ?hT ?h1 ?h2 ?_); (case hT => assumption); (case h1 => exact rfl); (case h2 => first | assumption | exact upd_same))
  | ((with_reducible refine' w_data ?hT ?h1 ?h2 ?_); (case hT => assumption); (case h1 => exact rfl); (case h2 => first | assumption | exact upd_same))
  | ((with_reducible refine' w_atU ?hT ?h1 ?h2 ?_); (case hT => assumption); (case h1 => exact rfl); (case h2 => first | assumption | exact upd_same))
  | ((with_reducible refine' w_many ?hT ?h1 ?h2 ?_); (case hT => assumption); (case h1 => exact rfl); (case h2 => first | assumption | exact upd_same))
  | ((with_reducible refine' w_parts ?hT ?h1 ?h2 ?_); (case hT => assumption); (case h1 => exact rfl); (case h2 => first | assumption | exact upd_same))
  | ((with_reducible refine' w_pData ?hT ?h2 ?_); (case hT => assumption); (case h2 => first | assumption | exact upd_same))
  | ((with_reducible refine' w_pAt ?hT ?h2 ?_); (case hT => assumption); (case h2 => first | assumption | exact upd_same))
  | ((with_reducible refine' w_pMany ?hT ?h2 ?_); (case hT => assumption); (case h2 => first | assumption | exact upd_same))
  | ((with_reducible refine' w_pParts ?hT ?h2 ?_); (case hT => assumption); (case h2 => first | assumption | exact upd_same))
  | ((with_reducible refine' w_augAt ?hT ?h1 ?h2 ?_); (case hT => assumption); (case h1 => exact rfl); (case h2 => first | assumption | exact upd_same))
  | with_reducible refine w_sfld0 ?_
  | with_reducible refine w_mkx ?_
  | with_reducible refine w_nonR ?_
  | with_reducible refine w_bm0 ?_
  | ((with_reducible refine' w_putAt ?hT ?h2 ?_); (case hT => assumption); (case h2 => first | assumption | exact upd_same))
  | ((with_reducible refine' w_putToken ?hT ?h2 ?_); (case hT => assumption); (case h2 => first | assumption | exact upd_same))
  | dsimp only [List.set_cons_zero, List.set_cons_succ, List.append_nil, List.cons_append, List.nil_append, cxOf]))

open TL
def letsU (l : List Nat) : Except Nat (List Nat × List Nat) := match sizeU 0 l with
  | .error m => .error m
  | .ok (n, r) => letU n r
def preU (cs : List Nat) : Except Nat (List Nat × List Nat) → Except Nat (List Nat × List Nat)
  | .error m => .error m
  | .ok (ds, r) => .ok (cs ++ ds, r)
theorem pre_snoc (cs : List Nat) (c : Nat) (o : Except Nat (List Nat × List Nat)) : preU (cs ++ [c]) o = preU cs (preU [c] o) := by
  cases o with
  | error m => rfl
  | ok x =>
    obtain ⟨n, r⟩ := x
    unfold preU
    dsimp only
    rw [List.append_assoc]
theorem letU_succ (n : Nat) (l : List Nat) : letU (n + 1) l = match stepU 97 122 l with
    | .error m => .error m
    | .ok (c, r) => preU [c] (letU n r) := by
  rw [letU]
  cases stepU 97 122 l with
  | error m => rfl
  | ok x =>
    obtain ⟨c, r⟩ := x
    dsimp only
    cases letU n r with
    | error m => rfl
    | ok y => rfl
def chS (c : Nat) : V := .str ⟨#[c]⟩
theorem joinL_one : ∀ cs : List Nat, joinL [] (cs.map fun c => [c]) = cs
  | [] => rfl
  | [c] => rfl
  | c :: d :: r => by
    have := joinL_one (d :: r)
    show [c] ++ ([] ++ joinL [] ((d :: r).map fun c => [c])) = _
    rw [this]
    rfl
theorem join_ch (cs : List Nat) : Txt.join (Str.ofString "") (cs.map fun c => ⟨#[c]⟩) = mkS cs := by
  rw [join_eq]
  apply ext_tl
  rw [tl_join, tl_mkS, List.map_map, show tl (Str.ofString "") = [] from by rw [tl_ofString] <;> rfl]
  exact joinL_one cs
theorem letters_len : lettersS.length = 26 := by
  unfold lettersS
  rw [len_tl, tl_ofString]
  rfl
theorem letter_at {c : Nat} (h : 97 ≤ c ∧ c ≤ 122) : atI lettersS.cps.toList ((c : Int) - 97) = some c := by
  have e : lettersS.cps.toList = (List.range 26).map (· + 97) := by
    show tl lettersS = _
    unfold lettersS
    rw [tl_ofString]
    decide
  rw [e, show (c : Int) - 97 = ((c - 97 : Nat) : Int) by omega]
  refine atI_nat ?_
  rw [List.getElem?_map, List.getElem?_range (by omega)]
  show some (c - 97 + 97) = some c
  congr 1
  omega
def spULet (C CE : Addr) : Sp := fun vs H Q E => ∃ (a dx pd : Addr) (bs l : List Nat), vs = [.ref a] ∧ UnAt C dx pd bs l a H ∧ ResU C dx pd CE bs a H Q E (fun cs : List Nat => V.str (mkS cs)) (letsU l)
section
variable {P : Program} {w : World} {K : PySem.W.Frag} {mg : Str → Option Value} {base : Heap} {uD uN uF uT uC uB uX uU uL : Value} {f C Pt aB CE fI : Addr} {fd : FuncData}
theorem ok_un_letters (F : Fun K "letters" "Unpacking.letters" s_un_letters f fd) (T : Tx K mg uD uN uF uT uC uB uX uU uL aB) (TC : Tu K C) (M_step : Mf P w K mg base (L2.CX P w) 2 C "step" ["self", "least", "greatest"] (spUStep C CE)) (M_size : Mf P w K mg base (L2.CX P w) 3 C "size" ["self"] (spUSize C CE)) : FnOk P w K mg base (L2.CX P w) 4 f fd ["self"] (spULet C CE) := by
  refine F.okX sc_un_letters (fun vs H Q E h => ?_) (fun cdv A outer s H vs Q E hr h => ?_)
  · obtain ⟨a, dx, pd, bs, l, rfl, _⟩ := h
    rfl
  · obtain ⟨a, dx, pd, bs, l, rfl, hU, k⟩ := h
    refine ⟨_, (pss_cons (ps_set (i := 1) sc_un_letters.nd rfl (.inl rfl) (pe_mf0 TC.cl M_size (pv 0) (hr.mono (by decide)) (pass_e (takes_of rfl rfl rfl rfl))))
    (pss_cons (ps_set (i := 2) sc_un_letters.nd rfl (.inl rfl) (pe_lst pa_nil))
    (pss_cons (ps_while (passes_of rfl) (pt_cmpR op_lt (pe_callB call_len_seq (by rfl) T.z_len (by decide +kernel) (pa_cons (pv 2) pa_nil)) (pv 1) (nomark _))
      (pss_one (ps_expr (pe_bm PySem.F.plainAttrs_list PySem.F.slot_list_append PySem.F.type_list_append mt_append (pv 2) (pa_cons (pe_ix ix_str (pe_glob (by rfl) T.g_LETTERS T.v_LETTERS) (pe_op op_sub (pe_mf TC.cl M_step (pv 0) (hr.mono (by decide)) (pass_e (takes_of rfl rfl rfl rfl)) (pa_cons (pe_callB call_ord (by rfl) T.z_ord (by decide +kernel) (pa_cons pe_str pa_nil)) (pa_cons (pe_callB call_ord (by rfl) T.z_ord (by decide +kernel) (pa_cons pe_str pa_nil)) pa_nil))) (pe_callB call_ord (by rfl) T.z_ord (by decide +kernel) (pa_cons pe_str pa_nil))) (fun _ _ => rfl)) pa_nil)))))
    (pss_one (ps_ret (pe_join pe_str (pv 2))))))), ?_⟩
    rw [show start n_un_letters [(.ref a : V)] = ([some (.ref a), none, none] : List (Option V)) from rfl]
    have hn := hU.n
    have hsl : 16000000 ≤ sizeLine := by decide
    walk_at "rd"
    refine w_meth rfl hU.o (by rfl) ?_
    walk_at "rd"
    refine ⟨a, dx, pd, bs, l, rfl, hU, ?_⟩
    cases el : sizeU 0 l with
    | error m =>
      unfold letsU at k
      rw [el] at k
      exact ErrK.kb k (KB.refl [a] H) fun b hb => hb
    | ok x =>
      obtain ⟨many, r0⟩ := x
      unfold letsU at k
      rw [el] at k
      dsimp only at k
      intro H0 k0 u0
      dsimp only
      walk_at "rd"
      refine ⟨Nat.zero_le _, fun p hp => ?_⟩
      have hpH : H p = none := k0.free _ hp
      have k1 := Kept.new (o := .lst []) hp
      have g1 : (upd H0 p (.lst [])) p = some (.lst (([] : List Nat).map chS)) := upd_same
      have u1 := u0.kept k1
      generalize upd H0 p (.lst []) = H1 at k1 g1 u1 ⊢
      walk_at "rd"
      refine ⟨fun m σ' H' => ∃ (cs r : List Nat), σ' = [some (.ref a), some (.int (many : Nat)), some (.ref p)] ∧ KB [a] H H' ∧ H' p = some (.lst (cs.map chS)) ∧ UnAt C dx pd bs r a H' ∧ cs.length ≤ many ∧ cs.length + r.length ≤ 1000 ∧ many < cs.length + m ∧ letU many r0 = preU cs (letU (many - cs.length) r), ⟨many + 1, [], r0, rfl, k0.trans k1.kb, g1, u1, Nat.zero_le _, by have := u1.le; rw [List.length_nil]; omega, by rw [List.length_nil]; omega, by
        rw [List.length_nil, Nat.sub_zero]
        cases letU many r0 with
        | error m => rfl
        | ok x => rfl⟩, ?_⟩
      rintro m σ' H2 ⟨cs, r, rfl, k2, g2, u2, hc, hc2, hm, es⟩
      walk_at "rd"
      refine ⟨p, _, rfl, .inl (SqL.of g2), ?_⟩
      rw [List.length_map]
      walk_at "rd"
      by_cases c : cs.length < many
      · refine if_t (decide_eq_true (by omega)) ?_
        refine ⟨_, fun σ' H' h => h, ?_⟩
        walk_at "rd"
        refine w_meth rfl u2.o (by rfl) ?_
        walk_at "rd"
        refine ⟨_, rfl, rfl, ?_⟩
        walk_at "rd"
        refine ⟨_, rfl, rfl, ?_⟩
        walk_at "rd"
        refine ⟨a, dx, pd, bs, r, 97, 122, rfl, u2, ?_⟩
        rw [show many - cs.length = (many - cs.length - 1) + 1 by omega, letU_succ] at es
        cases e2 : stepU 97 122 r with
        | error m2 =>
          rw [e2] at es
          rw [es] at k
          exact ErrK.kb k k2 fun b hb => hb
        | ok x =>
          obtain ⟨c2, r2⟩ := x
          rw [e2] at es
          dsimp only at es
          obtain ⟨er, hc97⟩ := stepU_ok e2
          intro H3 k3 u3
          have npa : p ≠ a := fun z => by
            have := u2.o
            rw [← z, g2] at this
            cases this
          have npd : p ≠ pd := fun z => by
            have := hU.d
            rw [← z, hpH] at this
            cases this
          have g3 := k3.lst (fun z => npa (List.mem_singleton.mp z)) g2
          walk_at "rd"
          refine ⟨_, rfl, rfl, ?_⟩
          walk_at "rd"
          refine ⟨lettersS, _, c2, rfl, rfl, (by rw [letters_len]; omega), letter_at hc97, ?_⟩
          walk_at "rd"
          refine w_app g3 (by rw [List.length_map]; omega) ?_
          have k34 : KB [p] H3 (upd H3 p (.lst (cs.map chS ++ [.str ⟨#[c2]⟩]))) := KB.put (List.mem_singleton.mpr rfl) g3 noTab_lst (fun xs e => by cases e)
          rw [er, List.length_cons] at hc2
          refine ⟨m - 1, by omega, cs ++ [c2], r2, rfl, KB.mut (k2.trans k3) hpH, by rw [upd_same, List.map_append] <;> rfl, u3.kb k34 (fun z => npa (List.mem_singleton.mp z).symm) (fun z => npd (List.mem_singleton.mp z).symm), by rw [List.length_append, List.length_singleton]; omega, by rw [List.length_append, List.length_singleton]; omega, by rw [List.length_append, List.length_singleton]; omega, ?_⟩
          rw [es, pre_snoc, List.length_append, List.length_singleton, show many - cs.length - 1 = many - (cs.length + 1) by omega]
      · refine if_f (decide_eq_false (by omega)) ?_
        walk_at "rd"
        refine ⟨Str.ofString "", p, cs.map fun c => ⟨#[c]⟩, rfl, rfl, .inl (SqL.of (by rw [List.map_map]; exact g2)), ?_, ?_⟩
        · rw [List.map_map, List.length_map, show (Str.ofString "").length = 0 from rfl, Nat.mul_zero, Nat.add_zero]
          have e : ∀ l : List Nat, (l.map ((fun x : Str => x.length) ∘ fun c => (⟨#[c]⟩ : Str))).sum = l.length := fun l => by
            induction l with
            | nil => rfl
            | cons x l ih =>
              rw [List.map_cons, List.sum_cons, ih, List.length_cons]
              show 1 + _ = _
              omega
          rw [e]
          omega
        · rw [join_ch]
          rw [show many - cs.length = 0 by omega, show letU 0 r = .ok ([], r) from rfl] at es
          rw [es] at k
          have := k H2 k2 u2
          rw [List.append_nil] at this
          exact this
end
end Ky

namespace Ky
open PySem PySem.Spec PyProof.Rows L2
local macro_rules | `(tactic| walk_at "rd") => `(tactic| repeat (first
  | with_reducible refine w_for1 ?_
  | with_reducible refine w_for2 ?_
  | with_reducible refine w_forL ?_
  | with_reducible refine w_forT ?_
  | with_reducible refine w_lc1 ?_
  | with_reducible refine w_lcL ?_
  | with_reducible refine w_lcT ?_
  | with_reducible refine w_dcL ?_
  | with_reducible refine w_dcT ?_
  | with_reducible refine w_seq ?_
  | with_reducible refine w_asg ?_
  | with_reducible refine w_ret ?_
  | with_reducible refine w_drop ?_
  | with_reducible refine w_ifs ?_
  | ((with_reducible refine' w_var ?hh ?_); (case hh => exact rfl))
  | with_reducible refine w_c ?_
  | with_reducible refine w_op ?_
  | with_reducible refine w_un ?_
  | with_reducible refine w_I0 ?_
  | with_reducible refine w_U ?_
  | with_reducible refine w_nil ?_
  | with_reducible refine w_cons ?_
  | with_reducible refine w_call ?_
  | with_reducible refine w_cb ?_
  | with_reducible refine w_test ?_
  | with_reducible refine w_B ?_
  | with_reducible refine w_bl ?_
  | with_reducible refine w_and ?_
  | with_reducible refine w_or ?_
  | with_reducible refine w_not ?_
  | with_reducible refine w_ife ?_
  | with_reducible refine w_gRd ?_
  | with_reducible refine w_andV ?_
  | with_reducible refine w_orV ?_
  | with_reducible refine w_notV ?_
  | with_reducible refine w_chain ?_
  | with_reducible refine w_din ?_
  | with_reducible refine w_isi_ii ?_
  | with_reducible refine w_isi_bi ?_
  | with_reducible refine w_isi_bb ?_
  | with_reducible refine w_isi_bt ?_
  | with_reducible refine w_isi_si ?_
  | with_reducible refine w_isi_nt ?_
  | with_reducible refine w_isi_ib ?_
  | with_reducible refine w_isi_it ?_
  | with_reducible refine w_isi_st ?_
  | ((with_reducible refine w_isi_tt ?h1 ?_); (case h1 => first | assumption | exact upd_same))
  | with_reducible refine if_t rfl ?_
  | with_reducible refine if_f rfl ?_
  | with_reducible refine w_tup ?_
  | with_reducible refine w_lst ?_
  | with_reducible refine w_next ?_
  | with_reducible refine w_bm ?_
  | with_reducible refine w_sl ?_
  | with_reducible refine w_part ?_
  | with_reducible refine w_nop ?_
  | with_reducible refine w_isI ?_
  | with_reducible refine w_yes ?_
  | with_reducible refine w_gn ?_
  | with_reducible refine w_gsub ?_
  | ((with_reducible refine' w_setL ?h1 ?h2 ?_); (case h1 => first | assumption | exact upd_same); (case h2 => exact rfl))
  | with_reducible refine w_asgG ?_
  | with_reducible refine w_m1 ?_
  | with_reducible refine w_isS ?_
  | with_reducible refine w_tyS ?_
  | ((with_reducible refine' w_tyL ?h1 ?_); (case h1 => first | assumption | exact upd_same))
  | ((with_reducible refine' w_ixT ?h1 ?h2 ?_); (case h1 => first | assumption | exact upd_same); (case h2 => exact rfl))
  | ((with_reducible refine' w_ixL ?h1 ?h2 ?_); (case h1 => first | assumption | exact upd_same); (case h2 => exact rfl))
  | ((with_reducible refine w_eq ?h1 ?_); (case h1 => exact rfl))
  | ((with_reducible refine w_ne ?h1 ?_); (case h1 => exact rfl))
  | ((with_reducible refine' w_text ?hT ?h1 ?h2 ?_); (case hT => assumption); (case h1 => exact rfl); (case h2 => first | assumption | exact upd_same))
  | ((with_reducible refine' w_at ?hT ?h1 ?h2 ?_); (case hT => assumption); (case h1 => exact rfl); (case h2 => first | assumption | exact upd_same))
  | ((with_reducible refine' w_token ?hT ?h1 ?h2 ?_); (case hT => assumption); (case h1 => exact rfl); (case h2 => first | assumption | exact upd_same))
  | ((with_reducible refine' w_data ?hT ?h1 ?h2 ?_); (case hT => assumption); (case h1 => exact rfl); (case h2 => first | assumption | exact upd_same))
  | ((with_reducible refine' w_atU ?hT ?h1 ?h2 ?_); (case hT => assumption); (case h1 => exact rfl); (case h2 => first | assumption | exact upd_same))
  | ((with_reducible refine' w_many ?hT ?h1 ?h2 ?_); (case hT => assumption); (case h1 => exact rfl); (case h2 => first | assumption | exact upd_same))
  | ((with_reducible refine' w_parts ?hT ?h1 ?h2 ?_); (case hT => assumption); (case h1 => exact rfl); (case h2 => first | assumption | exact upd_same))
  | ((with_reducible refine' w_pData ?hT ?h2 ?_); (case hT => assumption); (case h2 => first | assumption | exact upd_same))
  | ((with_reducible refine' w_pAt ?hT ?h2 ?_); (case hT => assumption); (case h2 => first | assumption | exact upd_same))
  | ((with_reducible refine' w_pMany ?hT ?h2 ?_); (case hT => assumption); (case h2 => first | assumption | exact upd_same))
  | ((with_reducible refine' w_pParts ?hT ?h2 ?_); (case hT => assumption); (case h2 => first | assumption | exact upd_same))
  | ((with_reducible refine' w_augAt ?hT ?h1 ?h2 ?_); (case hT => assumption); (case h1 => exact rfl); (case h2 => first | assumption | exact upd_same))
  | with_reducible refine w_sfld0 ?_
  | with_reducible refine w_mkx ?_
  | with_reducible refine w_nonR ?_
  | with_reducible refine w_bm0 ?_
  | ((with_reducible refine' w_putAt ?hT ?h2 ?_); (case hT => assumption); (case h2 => first | assumption | exact upd_same))
  | ((with_reducible refine' w_putToken ?hT ?h2 ?_); (case hT => assumption); (case h2 => first | assumption | exact upd_same))
  | dsimp only [List.set_cons_zero, List.set_cons_succ, List.append_nil, List.cons_append, List.nil_append, cxOf]))

open TL
def leafV : Tr → V
  | .n => .non
  | .b x => .bl x
  | .i k => .int k
  | .s z => .str z
  | .t _ => .non
def spULeaf (C CE : Addr) : Sp := fun vs H Q E => ∃ (a dx pd : Addr) (bs l : List Nat) (k : Nat), vs = [.ref a, .int (k : Nat)] ∧ k < 6 ∧ UnAt C dx pd bs l a H ∧ ResU C dx pd CE bs a H Q E leafV (leafU k l)
theorem leafU_str (l : List Nat) : leafU 5 l = match letsU l with
    | .error m => .error m
    | .ok (cs, r) => .ok (.s (mkS cs), r) := by
  unfold leafU letsU
  rw [if_neg (by decide), if_neg (by decide), if_pos rfl]
  cases sizeU 0 l with
  | error m => rfl
  | ok x => rfl
section
variable {P : Program} {w : World} {K : PySem.W.Frag} {mg : Str → Option Value} {base : Heap} {uD uN uF uT uC uB uX uU uL : Value} {f C Pt aB CE fI : Addr} {fd : FuncData}
theorem ok_un_leaf (F : Fun K "leaf" "Unpacking.leaf" s_un_leaf f fd) (T : Tx K mg uD uN uF uT uC uB uX uU uL aB) (TC : Tu K C) (M_size : Mf P w K mg base (L2.CX P w) 3 C "size" ["self"] (spUSize C CE)) (M_letters : Mf P w K mg base (L2.CX P w) 4 C "letters" ["self"] (spULet C CE)) : FnOk P w K mg base (L2.CX P w) 5 f fd ["self", "kind"] (spULeaf C CE) := by
  refine F.okX sc_un_leaf (fun vs H Q E h => ?_) (fun cdv A outer s H vs Q E hr h => ?_)
  · obtain ⟨a, dx, pd, bs, l, k, rfl, _⟩ := h
    rfl
  · obtain ⟨a, dx, pd, bs, l, k, rfl, hk, hU, kk⟩ := h
    refine ⟨_, (pss_cons (ps_if (pt_cmpR op_eq (pv 1) (pe_glob (by rfl) T.g_COUNT T.v_COUNT) (nomark _))
      (pss_one (ps_ret (pe_mf0 TC.cl M_size (pv 0) (hr.mono (by decide)) (pass_e (takes_of rfl rfl rfl rfl)))))
      pss_nil)
    (pss_cons (ps_if (pt_cmpR op_eq (pv 1) (pe_glob (by rfl) T.g_BELOW T.v_BELOW) (nomark _))
      (pss_one (ps_ret (pe_op op_sub (pe_un un_neg pe_int) (pe_mf0 TC.cl M_size (pv 0) (hr.mono (by decide)) (pass_e (takes_of rfl rfl rfl rfl))))))
      pss_nil)
    (pss_cons (ps_if (pt_cmpR op_eq (pv 1) (pe_glob (by rfl) T.g_TEXT T.v_TEXT) (nomark _))
      (pss_one (ps_ret (pe_mf0 TC.cl M_letters (pv 0) (hr.mono (by decide)) (pass_e (takes_of rfl rfl rfl rfl)))))
      pss_nil)
    (pss_one (ps_ret (pe_ix (ix_tupK (K := K) rfl) (pe_glob (by rfl) T.g_BARE T.v_BARE) (pv 1) (fun _ _ => rfl))))))), ?_⟩
    rw [show start n_un_leaf [(.ref a : V), (.int (k : Nat) : V)] = ([some (.ref a), some (.int (k : Nat))] : List (Option V)) from rfl]
    walk_at "rd"
    by_cases c3 : k = 3
    · subst c3
      refine if_t (decide_eq_true (by rfl)) ?_
      walk_at "rd"
      refine w_meth rfl hU.o (by rfl) ?_
      walk_at "rd"
      refine ⟨a, dx, pd, bs, l, rfl, hU, ?_⟩
      unfold leafU at kk
      rw [if_pos rfl] at kk
      cases e : sizeU 0 l with
      | error m =>
        rw [e] at kk
        exact ErrK.kb kk (KB.refl [a] H) fun b hb => hb
      | ok x =>
        rw [e] at kk
        exact kk
    refine if_f (decide_eq_false (by intro z; injection z with z; omega)) ?_
    walk_at "rd"
    by_cases c4 : k = 4
    · subst c4
      refine if_t (decide_eq_true (by rfl)) ?_
      walk_at "rd"
      refine w_meth rfl hU.o (by rfl) ?_
      walk_at "rd"
      refine ⟨a, dx, pd, bs, l, rfl, hU, ?_⟩
      unfold leafU at kk
      rw [if_neg (by decide), if_pos rfl] at kk
      cases e : sizeU 0 l with
      | error m =>
        rw [e] at kk
        exact ErrK.kb kk (KB.refl [a] H) fun b hb => hb
      | ok x =>
        rw [e] at kk
        intro H1 k1 u1
        walk_at "rd"
        exact kk H1 k1 u1
    refine if_f (decide_eq_false (by intro z; injection z with z; omega)) ?_
    walk_at "rd"
    by_cases c5 : k = 5
    · subst c5
      refine if_t (decide_eq_true (by rfl)) ?_
      walk_at "rd"
      refine w_meth rfl hU.o (by rfl) ?_
      walk_at "rd"
      refine ⟨a, dx, pd, bs, l, rfl, hU, ?_⟩
      rw [leafU_str] at kk
      cases e : letsU l with
      | error m =>
        rw [e] at kk
        exact ErrK.kb kk (KB.refl [a] H) fun b hb => hb
      | ok x =>
        rw [e] at kk
        exact kk
    refine if_f (decide_eq_false (by intro z; injection z with z; omega)) ?_
    walk_at "rd"
    have hl : leafU k l = .ok (if k = 0 then .n else .b (decide (k = 2)), l) := by
      unfold leafU
      rw [if_neg c3, if_neg c4, if_neg c5]
    rw [hl] at kk
    have kq := kk H (KB.refl _ _) hU
    refine ⟨aB, _, _, leafV (if k = 0 then .n else .b (decide (k = 2))), rfl, rfl, T.bare H, atI_nat ?_, kq⟩
    rcases (show k = 0 ∨ k = 1 ∨ k = 2 by omega) with rfl | rfl | rfl <;> rfl
end
end Ky

namespace Ky
open PySem PySem.Spec PyProof.Rows L2
local macro_rules | `(tactic| walk_at "rd") => `(tactic| repeat (first
  | with_reducible refine w_for1 ?_
  | with_reducible refine w_for2 ?_
  | with_reducible refine w_forL ?_
  | with_reducible refine w_forT ?_
  | with_reducible refine w_lc1 ?_
  | with_reducible refine w_lcL ?_
  | with_reducible refine w_lcT ?_
  | with_reducible refine w_dcL ?_
  | with_reducible refine w_dcT ?_
  | with_reducible refine w_seq ?_
  | with_reducible refine w_asg ?_
  | with_reducible refine w_ret ?_
  | with_reducible refine w_drop ?_
  | with_reducible refine w_ifs ?_
  | ((with_reducible refine' w_var ?hh ?_); (case hh => exact rfl))
  | with_reducible refine w_c ?_
  | with_reducible refine w_op ?_
  | with_reducible refine w_un ?_
  | with_reducible refine w_I0 ?_
  | with_reducible refine w_U ?_
  | with_reducible refine w_nil ?_
  | with_reducible refine w_cons ?_
  | with_reducible refine w_call ?_
  | with_reducible refine w_cb ?_
  | with_reducible refine w_test ?_
  | with_reducible refine w_B ?_
  | with_reducible refine w_bl ?_
  | with_reducible refine w_and ?_
  | with_reducible refine w_or ?_
  | with_reducible refine w_not ?_
  | with_reducible refine w_ife ?_
  | with_reducible refine w_gRd ?_
  | with_reducible refine w_andV ?_
  | with_reducible refine w_orV ?_
  | with_reducible refine w_notV ?_
  | with_reducible refine w_chain ?_
  | with_reducible refine w_din ?_
  | with_reducible refine w_isi_ii ?_
  | with_reducible refine w_isi_bi ?_
  | with_reducible refine w_isi_bb ?_
  | with_reducible refine w_isi_bt ?_
  | with_reducible refine w_isi_si ?_
  | with_reducible refine w_isi_nt ?_
  | with_reducible refine w_isi_ib ?_
  | with_reducible refine w_isi_it ?_
  | with_reducible refine w_isi_st ?_
  | ((with_reducible refine w_isi_tt ?h1 ?_); (case h1 => first | assumption | exact upd_same))
  | with_reducible refine if_t rfl ?_
  | with_reducible refine if_f rfl ?_
  | with_reducible refine w_tup ?_
  | with_reducible refine w_lst ?_
  | with_reducible refine w_next ?_
  | with_reducible refine w_bm ?_
  | with_reducible refine w_sl ?_
  | with_reducible refine w_part ?_
  | with_reducible refine w_nop ?_
  | with_reducible refine w_isI ?_
  | with_reducible refine w_yes ?_
  | with_reducible refine w_gn ?_
  | with_reducible refine w_gsub ?_
  | ((with_reducible refine' w_setL ?h1 ?h2 ?_); (case h1 => first | assumption | exact upd_same); (case h2 => exact rfl))
  | with_reducible refine w_asgG ?_
  | with_reducible refine w_m1 ?_
  | with_reducible refine w_isS ?_
  | with_reducible refine w_tyS ?_
  | ((with_reducible refine' w_tyL ?h1 ?_); (case h1 => first | assumption | exact upd_same))
  | ((with_reducible refine' w_ixT ?h1 ?h2 ?_); (case h1 => first | assumption | exact upd_same); (case h2 => exact rfl))
  | ((with_reducible refine' w_ixL ?h1 ?h2 ?_); (case h1 => first | assumption | exact upd_same); (case h2 => exact rfl))
  | ((with_reducible refine w_eq ?h1 ?_); (case h1 => exact rfl))
  | ((with_reducible refine w_ne ?h1 ?_); (case h1 => exact rfl))
  | ((with_reducible refine' w_text ?hT ?h1 ?h2 ?_); (case hT => assumption); (case h1 => exact rfl); (case h2 => first | assumption | exact upd_same))
  | ((with_reducible refine' w_at ?hT ?h1 ?h2 ?_); (case hT => assumption); (case h1 => exact rfl); (case h2 => first | assumption | exact upd_same))
  | ((with_reducible refine' w_token ?hT ?h1 ?h2 ?_); (case hT => assumption); (case h1 => exact rfl); (case h2 => first | assumption | exact upd_same))
  | ((with_reducible refine' w_data ?hT ?h1 ?h2 ?_); (case hT => assumption); (case h1 => exact rfl); (case h2 => first | assumption | exact upd_same))
  | ((with_reducible refine' w_atU ?hT ?h1 ?h2 ?_); (case hT => assumption); (case h1 => exact rfl); (case h2 => first | assumption | exact upd_same))
  | ((with_reducible refine' w_many ?hT ?h1 ?h2 ?_); (case hT => assumption); (case h1 => exact rfl); (case h2 => first | assumption | exact upd_same))
  | ((with_reducible refine' w_parts ?hT ?h1 ?h2 ?_); (case hT => assumption); (case h1 => exact rfl); (case h2 => first | assumption | exact upd_same))
  | ((with_reducible refine' w_pData ?hT ?h2 ?_); (case hT => assumption); (case h2 => first | assumption | exact upd_same))
  | ((with_reducible refine' w_pAt ?hT ?h2 ?_); (case hT => assumption); (case h2 => first | assumption | exact upd_same))
  | ((with_reducible refine' w_pMany ?hT ?h2 ?_); (case hT => assumption); (case h2 => first | assumption | exact upd_same))
  | ((with_reducible refine' w_pParts ?hT ?h2 ?_); (case hT => assumption); (case h2 => first | assumption | exact upd_same))
  | ((with_reducible refine' w_augAt ?hT ?h1 ?h2 ?_); (case hT => assumption); (case h1 => exact rfl); (case h2 => first | assumption | exact upd_same))
  | with_reducible refine w_sfld0 ?_
  | with_reducible refine w_mkx ?_
  | with_reducible refine w_nonR ?_
  | with_reducible refine w_bm0 ?_
  | ((with_reducible refine' w_putAt ?hT ?h2 ?_); (case hT => assumption); (case h2 => first | assumption | exact upd_same))
  | ((with_reducible refine' w_putToken ?hT ?h2 ?_); (case hT => assumption); (case h2 => first | assumption | exact upd_same))
  | dsimp only [List.set_cons_zero, List.set_cons_succ, List.append_nil, List.cons_append, List.nil_append, cxOf]))

open TL
def spOInit (C2 : Addr) : Sp := fun vs H Q _ => ∃ (a dx : Addr) (m : Int), vs = [.ref a, .int m] ∧ H a = some (.ins C2 dx []) ∧
  ∀ H' p, KB [a] H H' → H p = none → H' a = some (pO C2 dx m p) → H' p = some (.lst []) → Q .non H'
/-- an opened tuple: its object, its list of parts -/
def OpAt (C2 : Addr) (H : Hp) (o p : Addr) (m : Nat) (vs : List V) : Prop := (∃ dx, H o = some (pO C2 dx (m : Nat) p)) ∧ H p = some (.lst vs)
def spItem (C C2 CE : Addr) : Sp := fun vs H Q E => ∃ (a dx pd po o p : Addr) (bs l : List Nat) (os : List Addr) (m : Nat) (xs : List V), vs = [.ref a, .ref po] ∧ UnAt C dx pd bs l a H ∧ H po = some (.lst ((os ++ [o]).map V.ref)) ∧ OpAt C2 H o p m xs ∧ p ≠ pd ∧ po ≠ pd ∧ p ≠ po ∧ os.length ≤ 1000 ∧ xs.length ≤ 1000 ∧
  (match itemU (decide (os.length = 60)) l with
  | .ok (.leaf t, r) => ∀ H', KB [a, p] H H' → UnAt C dx pd bs r a H' → H' p = some (.lst (xs ++ [leafV t])) → Q .non H'
  | .ok (.opn k, r) => ∀ H' o2 p2, KB [a, po] H H' → UnAt C dx pd bs r a H' → H o2 = none → H p2 = none → OpAt C2 H' o2 p2 k [] → H' po = some (.lst ((os ++ [o, o2]).map V.ref)) → Q .non H'
  | .error n => ErrK E CE [a] H ((bs.length : Int) - n))
theorem leafV_at {k : Nat} {l r : List Nat} {t : Tr} (h : leafU k l = .ok (t, r)) (H : Hp) : TrAt H t (leafV t) := by
  unfold leafU at h
  split at h
  · split at h
    · cases h
    · cases h; unfold TrAt; rfl
  · split at h
    · split at h
      · cases h
      · cases h; unfold TrAt; rfl
    · split at h
      · split at h
        · cases h
        · split at h
          · cases h
          · cases h; unfold TrAt; rfl
      · cases h
        split <;> (unfold TrAt; rfl)
theorem itemV_at {d : Bool} {l r : List Nat} {t : Tr} (h : itemU d l = .ok (.leaf t, r)) (H : Hp) : TrAt H t (leafV t) := by
  unfold itemU at h
  split at h
  · cases h
  · split at h
    · split at h
      · cases h
      · cases h
    · split at h
      · cases h
      · rename_i e
        cases h
        exact leafV_at e H
theorem atI_m1 {α : Type} {xs : List α} {x : α} (h : xs[xs.length - 1]? = some x) : atI xs (-1) = some x := by
  have hl := (List.getElem?_eq_some_iff.mp h).1
  unfold atI
  rw [show ixN xs.length (-1) = some (xs.length - 1) by
    unfold ixN
    rw [if_neg (by decide), if_pos (by omega)]
    congr 1
    omega]
  exact h
theorem w_fldE {K : PySem.W.Frag} {te : TE} {f : Str} {σ : L2.St} {H : Hp} {Q : VK} (q : te σ H fun x H1 => ∃ a C dx fs v, x = .ref a ∧ H1 a = some (.ins C dx fs) ∧ Cls K C ∧ NoAttr K C f ∧ fs.lookup f = some v ∧ Q v H1) : tFld K te f σ H Q := q
section
variable {P : Program} {w : World} {K : PySem.W.Frag} {mg : Str → Option Value} {base : Heap} {uD uN uF uT uC uB uX uU uL : Value} {f C C2 Pt aB CE fI : Addr} {fd : FuncData}
theorem ok_op_init (F : Fun K "__init__" "Opened.__init__" s_op_init f fd) (T : Tx K mg uD uN uF uT uC uB uX uU uL aB) (TO : To K C2) : FnOk P w K mg base CX0 1 f fd ["self", "many"] (spOInit C2) := by
  refine F.ok sc_op_init (fun vs H Q E h => ?_) (fun cdv A outer s H vs Q E hr h => ?_)
  · obtain ⟨a, dx, m, rfl, _⟩ := h
    rfl
  · obtain ⟨a, dx, m, rfl, hO, k⟩ := h
    refine ⟨_, (pss_cons (ps_fld (pv 0) (pv 1) rfl)
    (pss_one (ps_fld (pv 0) (pe_lst pa_nil) rfl))), ?_⟩
    rw [show start n_op_init [(.ref a : V), (.int m : V)] = ([some (.ref a), some (.int m)] : List (Option V)) from rfl]
    walk_at "rd"
    have k0 := KB.put (S := [a]) (o' := HO.ins C2 dx [(("many" : Str), V.int m)]) (List.mem_singleton.mpr rfl) hO noTab_ins (fun xs e => by cases e)
    generalize hH1 : upd H a (HO.ins C2 dx [(("many" : Str), V.int m)]) = H1 at k0 ⊢
    have g1 : H1 a = some (HO.ins C2 dx [(("many" : Str), V.int m)]) := by rw [← hH1, upd_same]
    refine ⟨Nat.zero_le _, fun p hp => ?_⟩
    have k1 := Kept.new (o := .lst []) hp
    have e1 : (upd H1 p (.lst [])) p = some (.lst []) := upd_same
    have g2 := (k1.kb (S := [])).ins List.not_mem_nil g1
    generalize upd H1 p (.lst []) = H2 at k1 e1 g2 ⊢
    walk_at "rd"
    have k2 := KB.put (S := [a]) (o' := pO C2 dx m p) (List.mem_singleton.mpr rfl) g2 noTab_ins (fun xs e => by cases e)
    have npa : p ≠ a := fun z => by rw [z, g2] at e1; cases e1
    exact k _ p (k0.trans (k1.kb.trans k2)) (k0.free _ hp) upd_same (by rw [upd_ne npa]; exact e1)
theorem ok_read_item (F : Fun K "read_item" "read_item" s_read_item f fd) (T : Tx K mg uD uN uF uT uC uB uX uU uL aB) (TC : Tu K C) (TO : To K C2) (M_step : Mf P w K mg base (L2.CX P w) 2 C "step" ["self", "least", "greatest"] (spUStep C CE)) (M_size : Mf P w K mg base (L2.CX P w) 3 C "size" ["self"] (spUSize C CE)) (M_leaf : Mf P w K mg base (L2.CX P w) 5 C "leaf" ["self", "kind"] (spULeaf C CE)) (K_Opened : MkF P w K mg base CX0 1 "Opened" C2 ["self", "many"] (spOInit C2)) : FnOk P w K mg base (L2.CX P w) 6 f fd ["reading", "opened"] (spItem C C2 CE) := by
  refine F.okX sc_read_item (fun vs H Q E h => ?_) (fun cdv A outer s H vs Q E hr h => ?_)
  · obtain ⟨a, dx, pd, po, o, p, bs, l, os, m, xs, rfl, _⟩ := h
    rfl
  · obtain ⟨a, dx, pd, po, o, p, bs, l, os, m, xs, rfl, hU, hpo, hop, np, npo, npp, hol, hxl, kk⟩ := h
    refine ⟨_, (pss_cons (ps_set (i := 2) sc_read_item.nd rfl (.inl rfl) (pe_cmpR op_eq (pe_op op_sub (pe_callB call_len_seq (by rfl) T.z_len (by decide +kernel) (pa_cons (pv 1) pa_nil)) pe_int) (pe_glob (by rfl) T.g_DEEPEST T.v_DEEPEST) (nomark _)))
    (pss_cons (ps_set (i := 3) sc_read_item.nd rfl (.inl rfl) (pe_mf TC.cl M_step (pv 0) (hr.mono (by decide)) (pass_e (takes_of rfl rfl rfl rfl)) (pa_cons (pe_glob (by rfl) T.g_NONE T.v_NONE) (pa_cons (pe_ifExp (pt_val (pv 2)) (pe_glob (by rfl) T.g_TEXT T.v_TEXT) (pe_glob (by rfl) T.g_TUPLE T.v_TUPLE)) pa_nil))))
    (pss_one (ps_if (pt_cmpR op_eq (pv 3) (pe_glob (by rfl) T.g_TUPLE T.v_TUPLE) (nomark _))
      (pss_one (ps_expr (pe_bm PySem.F.plainAttrs_list PySem.F.slot_list_append PySem.F.type_list_append mt_append (pv 1) (pa_cons (pe_mk K_Opened (hr.mono (by decide)) (by rfl) pass0 (pa_cons (pe_mf0 TC.cl M_size (pv 0) (hr.mono (by decide)) (pass_e (takes_of rfl rfl rfl rfl))) pa_nil)) pa_nil))))
      (pss_one (ps_expr (pe_bm PySem.F.plainAttrs_list PySem.F.slot_list_append PySem.F.type_list_append mt_append (pe_fld (pe_ix (ix_listK (K := K) rfl) (pv 1) (pe_un un_neg pe_int) (fun _ _ => rfl)) rfl) (pa_cons (pe_mf TC.cl M_leaf (pv 0) (hr.mono (by decide)) (pass_e (takes_of rfl rfl rfl rfl)) (pa_cons (pv 3) pa_nil)) pa_nil)))))))), ?_⟩
    rw [show start n_read_item [(.ref a : V), (.ref po : V)] = ([some (.ref a), some (.ref po), none, none] : List (Option V)) from rfl]
    have hsl : 16000000 ≤ sizeLine := by decide
    walk_at "rd"
    refine ⟨po, _, rfl, .inl (SqL.of hpo), ?_⟩
    rw [List.length_map, List.length_append, List.length_singleton]
    walk_at "rd"
    have ed : decide (V.int (((os.length + 1 : Nat) : Int) - 1) = V.int 60) = decide (os.length = 60) := by
      by_cases c : os.length = 60
      · rw [decide_eq_true c, decide_eq_true (by rw [c] <;> rfl)]
      · rw [decide_eq_false c, decide_eq_false (by intro z; injection z with z; omega)]
    rw [ed]
    generalize hd : decide (os.length = 60) = deep at kk ⊢
    refine w_meth rfl hU.o (by rfl) ?_
    walk_at "rd"
    refine if_tC ?_
    rw [show (if deep = true then V.int 5 else V.int 6) = V.int (((if deep = true then 5 else 6 : Nat)) : Int) by cases deep <;> rfl]
    walk_at "rd"
    refine ⟨a, dx, pd, bs, l, 0, _, rfl, hU, ?_⟩
    unfold itemU at kk
    cases e1 : stepU 0 (if deep = true then 5 else 6) l with
    | error n =>
      rw [e1] at kk
      exact ErrK.kb kk (KB.refl [a] H) fun b hb => hb
    | ok x =>
      obtain ⟨kd, r⟩ := x
      rw [e1] at kk
      dsimp only at kk
      have hkd := stepU_ok e1
      intro H1 k1 u1
      have npoa : po ≠ a := fun z => by
        have := hU.o
        rw [← z, hpo] at this
        cases this
      have npa : p ≠ a := fun z => by
        have := hU.o
        rw [← z, hop.2] at this
        cases this
      obtain ⟨dxo, hoo⟩ := hop.1
      have noa : o ≠ a := fun z => by
        rw [z, hU.o] at hoo
        injection hoo with h
        injection h with _ _ h
        injection h with h _
        injection h with h _
        exact absurd h (by decide)
      have ho1 := k1.ins (fun z => noa (List.mem_singleton.mp z)) hoo
      have hpo1 := k1.lst (fun z => npoa (List.mem_singleton.mp z)) hpo
      have hp1 := k1.lst (fun z => npa (List.mem_singleton.mp z)) hop.2
      walk_at "rd"
      by_cases c6 : kd = 6
      · subst c6
        refine if_t (decide_eq_true (by rfl)) ?_
        rw [if_pos rfl] at kk
        walk_at "rd"
        unfold tMake
        walk_at "rd"
        refine w_meth rfl u1.o (by rfl) ?_
        walk_at "rd"
        refine ⟨a, dx, pd, bs, r, rfl, u1, ?_⟩
        cases e2 : sizeU 0 r with
        | error n =>
          rw [e2] at kk
          exact ErrK.kb kk k1 fun b hb => hb
        | ok y =>
          obtain ⟨n, r2⟩ := y
          rw [e2] at kk
          dsimp only at kk
          intro H2 k2 u2
          walk_at "rd"
          intro x dx2 nx nd ne
          refine ⟨x, dx2, _, rfl, upd_same, fun H3 p2 k3 f3 o3 e3 => ⟨rfl, ?_⟩⟩
          have kK : Kept H2 H3 := KB.fresh (((Kept.new (o := .own x) nd).trans (Kept.new (by rw [upd_ne (Ne.symm ne)]; exact nx)))) k3 (fun c hc => by rw [List.mem_singleton.mp hc]; exact nx)
          have f2 : H2 p2 = none := (upd_free (upd_free f3).1).1
          have hpo2 := k2.lst (fun z => npoa (List.mem_singleton.mp z)) hpo1
          have hpo3 := kK.lst hpo2
          have u3 := u2.kept kK
          have nxp : x ≠ po := fun z => by
            rw [z, hpo2] at nx
            cases nx
          have npp2 : p2 ≠ po := fun z => by
            rw [z, hpo2] at f2
            cases f2
          walk_at "rd"
          refine w_app hpo3 (by rw [List.length_map, List.length_append, List.length_singleton]; omega) ?_
          have k4 : KB [po] H3 (upd H3 po (.lst ((os ++ [o]).map V.ref ++ [.ref x]))) := KB.put (List.mem_singleton.mpr rfl) hpo3 noTab_lst (fun xs e => by cases e)
          have m1 : ∀ b ∈ [a], b ∈ [a, po] := fun b hb => by
            rw [List.mem_singleton.mp hb]
            exact List.mem_cons_self
          have m2 : ∀ b ∈ [po], b ∈ [a, po] := fun b hb => by
            rw [List.mem_singleton.mp hb]
            exact List.mem_cons_of_mem _ List.mem_cons_self
          refine kk _ x p2 ((k1.mono m1).trans ((k2.mono m1).trans ((kK.kb).trans (k4.mono m2)))) (u3.kb k4 (fun z => npoa (List.mem_singleton.mp z).symm) (fun z => npo (List.mem_singleton.mp z).symm)) (k1.free _ (k2.free _ nx)) (k1.free _ (k2.free _ f2)) ⟨⟨_, by rw [upd_ne nxp]; exact o3⟩, by rw [upd_ne npp2]; exact e3⟩ (by rw [upd_same, List.map_append, List.map_append, List.append_assoc] <;> rfl)
      · refine if_f (decide_eq_false (by intro z; injection z with z; omega)) ?_
        rw [if_neg c6] at kk
        walk_at "rd"
        refine w_fldE ?_
        walk_at "rd"
        have hlast : ((os ++ [o]).map V.ref)[os.length]? = some (.ref o) := by
          rw [List.map_append, List.getElem?_append_right (by rw [List.length_map]; exact Nat.le_refl _), List.length_map, Nat.sub_self]
          rfl
        refine w_ixL hpo1 (v := .ref o) (atI_m1 (by rw [List.length_map, List.length_append, List.length_singleton]; exact hlast)) ?_
        refine ⟨o, C2, dxo, _, _, rfl, ho1, TO.cl, TO.nP, lk_parts, ?_⟩
        refine ⟨.inl ⟨rfl, _, SqL.of hp1⟩, ?_⟩
        walk_at "rd"
        refine w_meth rfl u1.o (by rfl) ?_
        walk_at "rd"
        refine ⟨a, dx, pd, bs, r, kd, rfl, by
          have := hkd.2.2
          have : (if deep = true then 5 else 6) ≤ 6 := by split <;> omega
          omega, u1, ?_⟩
        cases e2 : leafU kd r with
        | error n =>
          rw [e2] at kk
          exact ErrK.kb kk k1 fun b hb => hb
        | ok y =>
          obtain ⟨t, r2⟩ := y
          rw [e2] at kk
          dsimp only at kk
          intro H2 k2 u2
          have hp2 := k2.lst (fun z => npa (List.mem_singleton.mp z)) hp1
          walk_at "rd"
          refine w_app hp2 (by omega) ?_
          have k4 : KB [p] H2 (upd H2 p (.lst (xs ++ [leafV t]))) := KB.put (List.mem_singleton.mpr rfl) hp2 noTab_lst (fun xs e => by cases e)
          have m1 : ∀ b ∈ [a], b ∈ [a, p] := fun b hb => by
            rw [List.mem_singleton.mp hb]
            exact List.mem_cons_self
          have m2 : ∀ b ∈ [p], b ∈ [a, p] := fun b hb => by
            rw [List.mem_singleton.mp hb]
            exact List.mem_cons_of_mem _ List.mem_cons_self
          exact kk _ ((k1.mono m1).trans ((k2.mono m1).trans (k4.mono m2))) (u2.kb k4 (fun z => npa (List.mem_singleton.mp z).symm) (fun z => np (List.mem_singleton.mp z).symm)) upd_same
end
end Ky

namespace Ky
open PySem PySem.Spec PyProof.Rows L2
local macro_rules | `(tactic| walk_at "rd") => `(tactic| repeat (first
  | with_reducible refine w_for1 ?_
  | with_reducible refine w_for2 ?_
  | with_reducible refine w_forL ?_
  | with_reducible refine w_forT ?_
  | with_reducible refine w_lc1 ?_
  | with_reducible refine w_lcL ?_
  | with_reducible refine w_lcT ?_
  | with_reducible refine w_dcL ?_
  | with_reducible refine w_dcT ?_
  | with_reducible refine w_seq ?_
  | with_reducible refine w_asg ?_
  | with_reducible refine w_ret ?_
  | with_reducible refine w_drop ?_
  | with_reducible refine w_ifs ?_
  | ((with_reducible refine' w_var ?hh ?_); (case hh => exact rfl))
  | with_reducible refine w_c ?_
  | with_reducible refine w_op ?_
  | with_reducible refine w_un ?_
  | with_reducible refine w_I0 ?_
  | with_reducible refine w_U ?_
  | with_reducible refine w_nil ?_
  | with_reducible refine w_cons ?_
  | with_reducible refine w_call ?_
  | with_reducible refine w_cb ?_
  | with_reducible refine w_test ?_
  | with_reducible refine w_B ?_
  | with_reducible refine w_bl ?_
  | with_reducible refine w_and ?_
  | with_reducible refine w_or ?_
  | with_reducible refine w_not ?_
  | with_reducible refine w_ife ?_
  | with_reducible refine w_gRd ?_
  | with_reducible refine w_andV ?_
  | with_reducible refine w_orV ?_
  | with_reducible refine w_notV ?_
  | with_reducible refine w_chain ?_
  | with_reducible refine w_din ?_
  | with_reducible refine w_isi_ii ?_
  | with_reducible refine w_isi_bi ?_
  | with_reducible refine w_isi_bb ?_
  | with_reducible refine w_isi_bt ?_
  | with_reducible refine w_isi_si ?_
  | with_reducible refine w_isi_nt ?_
  | with_reducible refine w_isi_ib ?_
  | with_reducible refine w_isi_it ?_
  | with_reducible refine w_isi_st ?_
  | ((with_reducible refine w_isi_tt ?h1 ?_); (case h1 => first | assumption | exact upd_same))
  | with_reducible refine if_t rfl ?_
  | with_reducible refine if_f rfl ?_
  | with_reducible refine w_tup ?_
  | with_reducible refine w_lst ?_
  | with_reducible refine w_next ?_
  | with_reducible refine w_bm ?_
  | with_reducible refine w_sl ?_
  | with_reducible refine w_part ?_
  | with_reducible refine w_nop ?_
  | with_reducible refine w_isI ?_
  | with_reducible refine w_yes ?_
  | with_reducible refine w_gn ?_
  | with_reducible refine w_gsub ?_
  | ((with_reducible refine' w_setL ?h1 ?h2 ?_); (case h1 => first | assumption | exact upd_same); (case h2 => exact rfl))
  | with_reducible refine w_asgG ?_
  | with_reducible refine w_m1 ?_
  | with_reducible refine w_isS ?_
  | with_reducible refine w_tyS ?_
  | ((with_reducible refine' w_tyL ?h1 ?_); (case h1 => first | assumption | exact upd_same))
  | ((with_reducible refine' w_ixT ?h1 ?h2 ?_); (case h1 => first | assumption | exact upd_same); (case h2 => exact rfl))
  | ((with_reducible refine' w_ixL ?h1 ?h2 ?_); (case h1 => first | assumption | exact upd_same); (case h2 => exact rfl))
  | ((with_reducible refine w_eq ?h1 ?_); (case h1 => exact rfl))
  | ((with_reducible refine w_ne ?h1 ?_); (case h1 => exact rfl))
  | ((with_reducible refine' w_text ?hT ?h1 ?h2 ?_); (case hT => assumption); (case h1 => exact rfl); (case h2 => first | assumption | exact upd_same))
  | ((with_reducible refine' w_at ?hT ?h1 ?h2 ?_); (case hT => assumption); (case h1 => exact rfl); (case h2 => first | assumption | exact upd_same))
  | ((with_reducible refine' w_token ?hT ?h1 ?h2 ?_); (case hT => assumption); (case h1 => exact rfl); (case h2 => first | assumption | exact upd_same))
  | ((with_reducible refine' w_data ?hT ?h1 ?h2 ?_); (case hT => assumption); (case h1 => exact rfl); (case h2 => first | assumption | exact upd_same))
  | ((with_reducible refine' w_atU ?hT ?h1 ?h2 ?_); (case hT => assumption); (case h1 => exact rfl); (case h2 => first | assumption | exact upd_same))
  | ((with_reducible refine' w_many ?hT ?h1 ?h2 ?_); (case hT => assumption); (case h1 => exact rfl); (case h2 => first | assumption | exact upd_same))
  | ((with_reducible refine' w_parts ?hT ?h1 ?h2 ?_); (case hT => assumption); (case h1 => exact rfl); (case h2 => first | assumption | exact upd_same))
  | ((with_reducible refine' w_pData ?hT ?h2 ?_); (case hT => assumption); (case h2 => first | assumption | exact upd_same))
  | ((with_reducible refine' w_pAt ?hT ?h2 ?_); (case hT => assumption); (case h2 => first | assumption | exact upd_same))
  | ((with_reducible refine' w_pMany ?hT ?h2 ?_); (case hT => assumption); (case h2 => first | assumption | exact upd_same))
  | ((with_reducible refine' w_pParts ?hT ?h2 ?_); (case hT => assumption); (case h2 => first | assumption | exact upd_same))
  | ((with_reducible refine' w_augAt ?hT ?h1 ?h2 ?_); (case hT => assumption); (case h1 => exact rfl); (case h2 => first | assumption | exact upd_same))
  | with_reducible refine w_sfld0 ?_
  | with_reducible refine w_mkx ?_
  | with_reducible refine w_nonR ?_
  | with_reducible refine w_bm0 ?_
  | ((with_reducible refine' w_putAt ?hT ?h2 ?_); (case hT => assumption); (case h2 => first | assumption | exact upd_same))
  | ((with_reducible refine' w_putToken ?hT ?h2 ?_); (case hT => assumption); (case h2 => first | assumption | exact upd_same))
  | dsimp only [List.set_cons_zero, List.set_cons_succ, List.append_nil, List.cons_append, List.nil_append, cxOf]))

open TL
def StkAt (C2 : Addr) (H : Hp) : List (Addr × Addr) → Stk → Prop
  | [], [] => True
  | e :: es, x :: rs => (∃ vs, OpAt C2 H e.1 e.2 x.1 vs ∧ TrsAt H x.2 vs) ∧ StkAt C2 H es rs
  | _, _ => False
def flA : List (Addr × Addr) → List Addr
  | [] => []
  | e :: es => e.1 :: e.2 :: flA es
theorem fl_mem {e : Addr × Addr} : ∀ {es : List (Addr × Addr)}, e ∈ es → e.1 ∈ flA es ∧ e.2 ∈ flA es
  | [], h => by cases h
  | x :: es, h => by
    unfold flA
    rcases List.mem_cons.mp h with rfl | h
    · exact ⟨List.mem_cons_self, List.mem_cons_of_mem _ List.mem_cons_self⟩
    · exact ⟨List.mem_cons_of_mem _ (List.mem_cons_of_mem _ (fl_mem h).1), List.mem_cons_of_mem _ (List.mem_cons_of_mem _ (fl_mem h).2)⟩
theorem OpAt.kb {C2 : Addr} {H H' : Hp} {S : List Addr} {o p : Addr} {m : Nat} {vs : List V} (h : OpAt C2 H o p m vs) (k : KB S H H') (h1 : o ∉ S) (h2 : p ∉ S) : OpAt C2 H' o p m vs :=
  ⟨h.1.imp fun dx e => k.ins h1 e, k.lst h2 h.2⟩
theorem StkAt.kb {C2 : Addr} {H H' : Hp} {S : List Addr} (k : KB S H H') : ∀ {es : List (Addr × Addr)} {rs : Stk}, StkAt C2 H es rs → (∀ b ∈ flA es, b ∉ S) → StkAt C2 H' es rs
  | [], [], _, _ => trivial
  | [], _ :: _, h, _ => h.elim
  | _ :: _, [], h, _ => h.elim
  | e :: es, x :: rs, h, hS => by
    unfold StkAt at h ⊢
    obtain ⟨⟨vs, h1, h2⟩, h3⟩ := h
    refine ⟨⟨vs, h1.kb k (hS _ (by unfold flA; exact List.mem_cons_self)) (hS _ (by unfold flA; exact List.mem_cons_of_mem _ List.mem_cons_self)), TrsAt.kb h2 k⟩, StkAt.kb k h3 fun b hb => hS b (by unfold flA; exact List.mem_cons_of_mem _ (List.mem_cons_of_mem _ hb))⟩
theorem StkAt.len {C2 : Addr} {H : Hp} : ∀ {es : List (Addr × Addr)} {rs : Stk}, StkAt C2 H es rs → es.length = rs.length
  | [], [], _ => rfl
  | [], _ :: _, h => h.elim
  | _ :: _, [], h => h.elim
  | e :: es, x :: rs, h => by
    unfold StkAt at h
    rw [List.length_cons, List.length_cons, StkAt.len h.2]
theorem StkAt.som {C2 : Addr} {H : Hp} : ∀ {es : List (Addr × Addr)} {rs : Stk}, StkAt C2 H es rs → ∀ b ∈ flA es, H b ≠ none
  | [], _, _, _, hb => by cases hb
  | _ :: _, [], h, _, _ => h.elim
  | e :: es, x :: rs, h, b, hb => by
    unfold StkAt at h
    obtain ⟨⟨vs, ⟨⟨dx, h0⟩, h1⟩, _⟩, h3⟩ := h
    unfold flA at hb
    rcases List.mem_cons.mp hb with rfl | hb
    · rw [h0]; simp
    rcases List.mem_cons.mp hb with rfl | hb
    · rw [h1]; simp
    exact StkAt.som h3 b hb
theorem StkAt.cons_inv {C2 : Addr} {H : Hp} {es : List (Addr × Addr)} {x : Nat × List Tr} {rs : Stk} (h : StkAt C2 H es (x :: rs)) : ∃ e es2, es = e :: es2 := by
  cases es with
  | nil => exact h.elim
  | cons e es2 => exact ⟨e, es2, rfl⟩
def wtS : Stk → Nat
  | [] => 0
  | x :: rs => x.2.length + 1 + wtS rs
theorem wtS_len : ∀ rs : Stk, rs.length ≤ wtS rs
  | [] => Nat.le_refl _
  | x :: rs => by
    have := wtS_len rs
    rw [List.length_cons]
    unfold wtS
    omega
theorem run_cons {l : List Nat} {st : Stk} {o : Except Nat Tr} (h : RunU l st o) : ∃ m ps rs, st = (m, ps) :: rs := by
  cases h <;> exact ⟨_, _, _, rfl⟩
theorem sizeB_pos (n : Nat) : 1 ≤ (sizeB n).length := by
  by_cases h : n < 128
  · rw [sizeB_small h]; simp
  · rw [sizeB_big h]; simp
theorem TrsAt.one {H : Hp} {l : List Tr} {xs : List V} {t : Tr} {v : V} (h : TrsAt H l xs) (ht : TrAt H t v) : TrsAt H (l ++ [t]) (xs ++ [v]) := by
  induction l generalizing xs with
  | nil =>
    unfold TrsAt at h
    subst h
    rw [List.nil_append, List.nil_append]
    unfold TrsAt
    exact ⟨v, [], rfl, ht, by unfold TrsAt; rfl⟩
  | cons a l ih =>
    unfold TrsAt at h
    obtain ⟨x, r, rfl, h1, h2⟩ := h
    rw [List.cons_append, List.cons_append]
    unfold TrsAt
    exact ⟨x, r ++ [v], rfl, h1, ih h2⟩
def spUnpack (CE : Addr) : Sp := fun vs H Q E => ∃ (pd : Addr) (bs : List Nat) (o : Except Nat Tr), vs = [.ref pd] ∧ H pd = some (.lst (natsV bs)) ∧ bs.length ≤ 950 ∧ RunU bs [(1, [])] o ∧
  (∀ t, o = .ok t → ∀ v H', Kept H H' → TrAt H' t v → Q v H') ∧ ∀ m, o = .error m → ErrA E CE H ((bs.length : Int) - m)
theorem ErrA.errK {E : XK} {CE : Addr} {H H1 : Hp} {S : List Addr} {n : Int} (h : ErrA E CE H n) (k : Kept H H1) (f : ∀ c ∈ S, H c = none) : ErrK E CE S H1 n := fun H2 d k2 hd => h H2 d (KB.fresh k k2 f) hd
/-- the loop's state while a tuple is open -/
structure LpA (C C2 dx pd a po oo pp : Addr) (bs : List Nat) (o : Except Nat Tr) (H : Hp) (m : Nat) (H' : Hp) (l : List Nat) (es : List (Addr × Addr)) (st : Stk) : Prop where
  me : 2 * l.length + st.length < m
  u : UnAt C dx pd bs l a H'
  k : Kept H H'
  q : H' po = some (.lst (es.reverse.map fun e => V.ref e.1))
  s : StkAt C2 H' es st
  r : RunU l st o
  nd : (a :: po :: pd :: flA es).Nodup
  fr : ∀ b ∈ a :: po :: flA es, H b = none
  la : es.getLast? = some (oo, pp)
  wt : wtS st + l.length ≤ bs.length + 1
/-- and when none is -/
def LpB (C C2 dx pd a po oo pp : Addr) (bs : List Nat) (o : Except Nat Tr) (H H' : Hp) : Prop := ∃ (l : List Nat) (ps : List Tr) (vs : List V) (mm : Nat), UnAt C dx pd bs l a H' ∧ Kept H H' ∧ H' po = some (.lst []) ∧ OpAt C2 H' oo pp mm vs ∧ TrsAt H' ps vs ∧ (l = [] → ∃ t ps', ps = t :: ps' ∧ o = .ok t) ∧ (l ≠ [] → o = .error l.length)
section
variable {P : Program} {w : World} {K : PySem.W.Frag} {mg : Str → Option Value} {base : Heap} {uD uN uF uT uC uB uX uU uL : Value} {f C C2 Pt aB CE fI : Addr} {fd : FuncData}
theorem ok_unpack (F : Fun K "unpack" "unpack" s_unpack f fd) (T : Tx K mg uD uN uF uT uC uB uX uU uL aB) (TC : Tu K C) (TO : To K C2) (TX : PySem.Xi.XTxt P K mg "PackError" "at" "place " CE fI) (D_read_item : DfX P w K mg base 6 "read_item" ["reading", "opened"] (spItem C C2 CE)) (K_Unpacking : MkF P w K mg base CX0 1 "Unpacking" C ["self", "data"] (spUInit C)) (K_Opened : MkF P w K mg base CX0 1 "Opened" C2 ["self", "many"] (spOInit C2)) : FnOk P w K mg base (L2.CX P w) 7 f fd ["data"] (spUnpack CE) := by
  refine F.okX sc_unpack (fun vs H Q E h => ?_) (fun cdv A outer s H vs Q E hr h => ?_)
  · obtain ⟨pd, bs, o, rfl, _⟩ := h
    rfl
  · obtain ⟨pd, bs, o, rfl, hpd, hbs, hrun, kk, ke⟩ := h
    refine ⟨_, (pss_cons (ps_set (i := 1) sc_unpack.nd rfl (.inl rfl) (pe_mk K_Unpacking (hr.mono (by decide)) (by rfl) pass0 (pa_cons (pv 0) pa_nil)))
    (pss_cons (ps_set (i := 2) sc_unpack.nd rfl (.inl rfl) (pe_mk K_Opened (hr.mono (by decide)) (by rfl) pass0 (pa_cons pe_int pa_nil)))
    (pss_cons (ps_set (i := 3) sc_unpack.nd rfl (.inl rfl) (pe_lst (pa_cons (pv 2) pa_nil)))
    (pss_cons (ps_while (passes_of rfl) (pt_truth (pv 3) (by intro _; rfl))
      (pss_cons (ps_set (i := 4) sc_unpack.nd rfl (.inl rfl) (pe_ix (ix_listK (K := K) rfl) (pv 3) (pe_un un_neg pe_int) (fun _ _ => rfl)))
    (pss_one (ps_if (pt_cmpR op_lt (pe_callB call_len_seq (by rfl) T.z_len (by decide +kernel) (pa_cons (pe_fld (pv 4) rfl) pa_nil)) (pe_fld (pv 4) rfl) (nomark _))
      (pss_one (ps_expr (pe_dfP D_read_item (hr.mono (by decide)) (pass_e (takes_of rfl rfl rfl rfl)) (by rfl) (pa_cons (pv 1) (pa_cons (pv 3) pa_nil)))))
      (pss_cons (ps_expr (pe_bm0 PySem.F.plainAttrs_list PySem.F.slot_list_pop PySem.F.type_list_pop mt_pop (pv 3)))
    (pss_one (ps_if (pt_truth (pv 3) (by intro _; rfl))
      (pss_one (ps_expr (pe_bm PySem.F.plainAttrs_list PySem.F.slot_list_append PySem.F.type_list_append mt_append (pe_fld (pe_ix (ix_listK (K := K) rfl) (pv 3) (pe_un un_neg pe_int) (fun _ _ => rfl)) rfl) (pa_cons (pe_callTy call_tuple_of (by rfl) T.z_tuple (by decide +kernel) (pa_cons (pe_fld (pv 4) rfl) pa_nil)) pa_nil))))
      pss_nil)))))))
    (pss_cons (ps_if (pt_cmpR op_lt (pe_fld (pv 1) rfl) (pe_callB call_len_seq (by rfl) T.z_len (by decide +kernel) (pa_cons (pv 0) pa_nil)) (nomark _))
      (pss_one (ps_raise rfl (takes_of rfl rfl rfl rfl) (pmk_x TX hr (pa_cons (pe_fld (pv 1) rfl) pa_nil) (by rfl) (by decide))))
      pss_nil)
    (pss_one (ps_ret (pe_ix (ix_listK (K := K) rfl) (pe_fld (pv 2) rfl) pe_int (fun _ _ => rfl))))))))), ?_⟩
    rw [show start n_unpack [(.ref pd : V)] = ([some (.ref pd), none, none, none, none] : List (Option V)) from rfl]
    have hsl : 16000000 ≤ sizeLine := by decide
    walk_at "rd"
    unfold tMake
    walk_at "rd"
    intro a dx na nd ne
    have ndd : pd ≠ dx := fun z => by
      rw [← z, hpd] at nd
      cases nd
    have nda : pd ≠ a := fun z => by
      rw [← z, hpd] at na
      cases na
    refine ⟨a, dx, pd, bs, rfl, upd_same, by rw [upd_ne nda, upd_ne ndd]; exact hpd, hbs, fun H1 k1 u1 => ⟨rfl, ?_⟩⟩
    have kK : Kept H H1 := KB.fresh (((Kept.new (o := .own a) nd).trans (Kept.new (by rw [upd_ne (Ne.symm ne)]; exact na)))) k1 (fun c hc => by rw [List.mem_singleton.mp hc]; exact na)
    walk_at "rd"
    intro oo dxo nao ndo neo
    refine ⟨oo, dxo, 1, rfl, upd_same, fun H2 pp k2 f2 o2 e2 => ⟨rfl, ?_⟩⟩
    have fpp : H1 pp = none := (upd_free (upd_free f2).1).1
    have kK2 : Kept H1 H2 := KB.fresh (((Kept.new (o := .own oo) ndo).trans (Kept.new (by rw [upd_ne (Ne.symm neo)]; exact nao)))) k2 (fun c hc => by rw [List.mem_singleton.mp hc]; exact nao)
    have u2 := u1.kept kK2
    walk_at "rd"
    refine ⟨by show 1 ≤ sizeLine; omega, fun po hpo => ?_⟩
    have k3 := Kept.new (o := .lst [.ref oo]) hpo
    have e3 : (upd H2 po (.lst [.ref oo])) po = some (.lst [.ref oo]) := upd_same
    have u3 := u2.kept k3
    have op3 : OpAt C2 H2 oo pp 1 [] := ⟨⟨_, o2⟩, e2⟩
    have op3 := op3.kb (S := []) k3.kb List.not_mem_nil List.not_mem_nil
    generalize upd H2 po (.lst [.ref oo]) = H3 at k3 e3 u3 op3 ⊢
    walk_at "rd"
    have kH3 : Kept H H3 := kK.trans (kK2.trans k3)
    have fpo : H po = none := kK.free _ (kK2.free _ hpo)
    have foo : H oo = none := kK.free _ nao
    have fpp0 : H pp = none := kK.free _ fpp
    have nd0 : (a :: po :: pd :: flA [(oo, pp)]).Nodup := by
      have n1 : a ≠ po := fun z => by
        have := u3.o
        rw [z, e3] at this
        cases this
      have n2 : a ≠ pd := Ne.symm nda
      have n3 : a ≠ oo := fun z => by
        rw [← z, u1.o] at nao
        cases nao
      have n4 : a ≠ pp := fun z => by
        rw [← z, u1.o] at fpp
        cases fpp
      have n5 : po ≠ pd := fun z => by
        rw [z, u2.d] at hpo
        cases hpo
      have n6 : po ≠ oo := fun z => by
        rw [z, o2] at hpo
        cases hpo
      have n7 : po ≠ pp := fun z => by
        rw [z, e2] at hpo
        cases hpo
      have n8 : pd ≠ oo := fun z => by
        rw [← z, u1.d] at nao
        cases nao
      have n9 : pd ≠ pp := fun z => by
        rw [← z, u1.d] at fpp
        cases fpp
      have n10 : oo ≠ pp := fun z => by
        rw [z, e2] at o2
        cases o2
      simp [flA, n1, n2, n3, n4, n5, n6, n7, n8, n9, n10]
    refine ⟨fun m σ' H' => ∃ v4, σ' = [some (.ref pd), some (.ref a), some (.ref oo), some (.ref po), v4] ∧ ((∃ l es st, LpA C C2 dx pd a po oo pp bs o H m H' l es st) ∨ LpB C C2 dx pd a po oo pp bs o H H'), ⟨2 * bs.length + 2, none, rfl, .inl ⟨bs, [(oo, pp)], [(1, [])], by
      refine ⟨by simp, u3, kH3, e3, ⟨⟨[], op3, by unfold TrsAt; rfl⟩, trivial⟩, hrun, nd0, fun b hb => ?_, rfl, by simp [wtS]; omega⟩
      simp only [flA, List.mem_cons, List.not_mem_nil, or_false] at hb
      rcases hb with rfl | rfl | rfl | rfl
      · exact na
      · exact fpo
      · exact foo
      · exact fpp0⟩⟩, ?_⟩
    clear hrun
    rintro m σ' H4 ⟨v4, rfl, I⟩
    walk_at "rd"
    rcases I with ⟨l, es, st, I⟩ | I
    · obtain ⟨m1, ps1, rs, rfl⟩ := run_cons I.r
      obtain ⟨⟨o1, p1⟩, es2, rfl⟩ := I.s.cons_inv
      have hs := I.s
      unfold StkAt at hs
      obtain ⟨⟨vs1, hop, htr⟩, hs2⟩ := hs
      dsimp only at hop htr
      obtain ⟨⟨dx1, ho1⟩, hp1⟩ := id hop
      have hq := I.q
      have hrl : ((o1, p1) :: es2).reverse.map (fun e => V.ref e.1) = es2.reverse.map (fun e => V.ref e.1) ++ [.ref o1] := by
        rw [List.reverse_cons, List.map_append]
        rfl
      rw [hrl] at hq
      have hvl := htr.len
      have hsl2 := hs2.len
      have hwt := I.wt
      unfold wtS at hwt
      dsimp only at hwt
      have hwl := wtS_len rs
      have hme := I.me
      rw [List.length_cons] at hme
      have hU := I.u
      have ndI := I.nd
      unfold flA at ndI
      simp only [List.nodup_cons, List.mem_cons, not_or] at ndI
      obtain ⟨⟨a_po, a_pd, a_o1, a_p1, a_fl⟩, ⟨po_pd, po_o1, po_p1, po_fl⟩, ⟨pd_o1, pd_p1, pd_fl⟩, ⟨o1_p1, o1_fl⟩, p1_fl, ndf⟩ := ndI
      have fr := I.fr
      have fra := fr a List.mem_cons_self
      have frpo := fr po (List.mem_cons_of_mem _ List.mem_cons_self)
      have frf : ∀ b ∈ o1 :: p1 :: flA es2, H b = none := fun b hb => fr b (List.mem_cons_of_mem _ (List.mem_cons_of_mem _ hb))
      have fro1 := frf o1 List.mem_cons_self
      have frp1 := frf p1 (List.mem_cons_of_mem _ List.mem_cons_self)
      refine ⟨true, .inl ⟨_, SqL.of hq, by simp⟩, if_t rfl ?_⟩
      refine ⟨_, fun σ' H' h => h, ?_⟩
      walk_at "rd"
      refine w_ixL hq (v := .ref o1) (atI_m1 (by
        rw [List.length_append, List.length_singleton, Nat.add_sub_cancel, List.getElem?_append_right (Nat.le_refl _), Nat.sub_self]
        rfl)) ?_
      walk_at "rd"
      refine ⟨p1, vs1, rfl, .inl (SqL.of hp1), ?_⟩
      walk_at "rd"
      by_cases c : ps1.length < m1
      · refine if_t (decide_eq_true (by omega)) ?_
        walk_at "rd"
        refine ⟨a, dx, pd, po, o1, p1, bs, l, es2.reverse.map (·.1), m1, vs1, rfl, hU, by rw [hq, List.map_append, List.map_map] <;> rfl, hop, Ne.symm pd_p1, po_pd, Ne.symm po_p1, by rw [List.length_map, List.length_reverse]; omega, by omega, ?_⟩
        have hdp : decide ((es2.reverse.map (·.1)).length = 60) = deepU rs := by
          unfold deepU
          rw [List.length_map, List.length_reverse, hsl2]
        rw [hdp]
        cases I.r with
        | err hm hi =>
          rw [hi]
          exact (ke _ rfl).errK I.k fun b hb => by rw [List.mem_singleton.mp hb]; exact fra
        | leaf hm hi hr =>
          rw [hi]
          have hls := itemU_less hi
          rename_i t r
          intro H5 k5 u5 e5
          have n5 : ∀ b, b ≠ a → b ≠ p1 → b ∉ [a, p1] := fun b h1 h2 z => by
            rcases List.mem_cons.mp z with z | z
            · exact h1 z
            · exact h2 (List.mem_singleton.mp z)
          refine ⟨m - 1, by omega, _, rfl, .inl ⟨r, (o1, p1) :: es2, (m1, ps1 ++ [t]) :: rs, by rw [List.length_cons]; omega, u5, KB.fresh I.k k5 (fun b hb => by
            rcases List.mem_cons.mp hb with z | z
            · rw [z]; exact fra
            · rw [List.mem_singleton.mp z]; exact frp1), k5.lst (n5 _ (Ne.symm a_po) po_p1) I.q, ?_, hr, I.nd, I.fr, I.la, by
              unfold wtS
              dsimp only
              rw [List.length_append, List.length_singleton]
              omega⟩⟩
          unfold StkAt
          exact ⟨⟨_, ⟨⟨dx1, k5.ins (n5 _ (Ne.symm a_o1) o1_p1) ho1⟩, e5⟩, (TrsAt.kb htr k5).one (itemV_at hi H5)⟩, hs2.kb k5 fun b hb => n5 _ (fun z => a_fl (z ▸ hb)) fun z => p1_fl (z ▸ hb)⟩
        | opn hm hi hr =>
          rw [hi]
          rename_i kn r
          have hls := (itemU_opn hi).1
          have hsp := sizeB_pos kn
          have hll : l.length = 1 + ((sizeB kn).length + r.length) := by
            rw [hls, List.length_cons, List.length_append]
            omega
          intro H5 o2' p2' k5 u5 f5 g5 op5 q5
          have n5 : ∀ b, b ≠ a → b ≠ po → b ∉ [a, po] := fun b h1 h2 z => by
            rcases List.mem_cons.mp z with z | z
            · exact h1 z
            · exact h2 (List.mem_singleton.mp z)
          have som : ∀ b ∈ a :: po :: pd :: flA ((o1, p1) :: es2), H4 b ≠ none := fun b hb => by
            rcases List.mem_cons.mp hb with rfl | hb
            · rw [hU.o]; simp
            rcases List.mem_cons.mp hb with rfl | hb
            · rw [hq]; simp
            rcases List.mem_cons.mp hb with rfl | hb
            · rw [hU.d]; simp
            exact I.s.som b hb
          have no2 : ∀ b ∈ a :: po :: pd :: flA ((o1, p1) :: es2), b ≠ o2' := fun b hb z => som b hb (z ▸ f5)
          have np2 : ∀ b ∈ a :: po :: pd :: flA ((o1, p1) :: es2), b ≠ p2' := fun b hb z => som b hb (z ▸ g5)
          have nop : o2' ≠ p2' := fun z => by
            obtain ⟨⟨_, e1⟩, e2⟩ := op5
            rw [z, e2] at e1
            cases e1
          refine ⟨m - 1, by omega, _, rfl, .inl ⟨r, (o2', p2') :: (o1, p1) :: es2, (kn, []) :: (m1, ps1) :: rs, by rw [List.length_cons, List.length_cons]; omega, u5, KB.fresh I.k k5 (fun b hb => by
            rcases List.mem_cons.mp hb with z | z
            · rw [z]; exact fra
            · rw [List.mem_singleton.mp z]; exact frpo), by rw [q5]; simp, ?_, hr, ?_, ?_, by rw [← I.la]; rfl, by
              unfold wtS wtS
              dsimp only
              rw [List.length_nil]
              omega⟩⟩
          · unfold StkAt
            refine ⟨⟨[], op5, by unfold TrsAt; rfl⟩, I.s.kb k5 fun b hb => ?_⟩
            unfold flA at hb
            rcases List.mem_cons.mp hb with rfl | hb
            · exact n5 _ (Ne.symm a_o1) (Ne.symm po_o1)
            rcases List.mem_cons.mp hb with rfl | hb
            · exact n5 _ (Ne.symm a_p1) (Ne.symm po_p1)
            exact n5 _ (fun z => a_fl (z ▸ hb)) fun z => po_fl (z ▸ hb)
          · have e : (a :: po :: pd :: flA ((o2', p2') :: (o1, p1) :: es2)).Perm (o2' :: p2' :: a :: po :: pd :: flA ((o1, p1) :: es2)) := by
              show (a :: po :: pd :: o2' :: p2' :: flA ((o1, p1) :: es2)).Perm _
              exact (List.perm_append_comm (l₁ := [a, po, pd]) (l₂ := [o2', p2'])).append_right (flA ((o1, p1) :: es2))
            refine e.nodup_iff.mpr (List.nodup_cons.mpr ⟨fun z => ?_, List.nodup_cons.mpr ⟨fun z => np2 _ z rfl, I.nd⟩⟩)
            rcases List.mem_cons.mp z with z | z
            · exact nop z
            · exact no2 _ z rfl
          · intro b hb
            rcases List.mem_cons.mp hb with rfl | hb
            · exact fra
            rcases List.mem_cons.mp hb with rfl | hb
            · exact frpo
            unfold flA at hb
            rcases List.mem_cons.mp hb with rfl | hb
            · exact I.k.free _ f5
            rcases List.mem_cons.mp hb with rfl | hb
            · exact I.k.free _ g5
            exact fr b (List.mem_cons_of_mem _ (List.mem_cons_of_mem _ hb))
        | pop h _ => exact absurd c h
        | done h => exact absurd c h
        | more h _ => exact absurd c h
      · refine if_f (decide_eq_false (by omega)) ?_
        walk_at "rd"
        refine w_popL hq ?_
        have k5 : KB [po] H4 (upd H4 po (.lst (es2.reverse.map fun e => V.ref e.1))) := KB.put (List.mem_singleton.mpr rfl) hq noTab_lst (fun xs e => by cases e)
        have q5 : (upd H4 po (.lst (es2.reverse.map fun e => V.ref e.1))) po = some (.lst (es2.reverse.map fun e => V.ref e.1)) := upd_same
        generalize upd H4 po (.lst (es2.reverse.map fun e => V.ref e.1)) = H5 at k5 q5 ⊢
        have kk5 : Kept H H5 := KB.fresh I.k k5 fun b hb => by rw [List.mem_singleton.mp hb]; exact frpo
        have m5 : ∀ b, b ≠ po → b ∉ [po] := fun b h z => h (List.mem_singleton.mp z)
        have u5 := hU.kb k5 (m5 _ a_po) (m5 _ (Ne.symm po_pd))
        have hop5 := hop.kb k5 (m5 _ (Ne.symm po_o1)) (m5 _ (Ne.symm po_p1))
        have htr5 := TrsAt.kb htr k5
        have hs5 := hs2.kb k5 fun b hb => m5 _ fun z => po_fl (z ▸ hb)
        walk_at "rd"
        refine ⟨!(es2.reverse.map fun e => V.ref e.1).isEmpty, .inl ⟨_, SqL.of q5, rfl⟩, ?_⟩
        cases es2 with
        | nil =>
          have erl : rs = [] := List.eq_nil_of_length_eq_zero hsl2.symm
          subst erl
          refine if_f rfl ?_
          have la := I.la
          cases la
          walk_at "rd"
          have hB : (l = [] → ∃ t ps', ps1 = t :: ps' ∧ o = .ok t) ∧ (l ≠ [] → o = .error l.length) := by
            cases I.r with
            | err h _ => exact absurd h c
            | leaf h _ _ => exact absurd h c
            | opn h _ _ => exact absurd h c
            | done h => exact ⟨fun _ => ⟨_, _, rfl, rfl⟩, fun z => absurd rfl z⟩
            | more h hl => exact ⟨fun z => absurd z hl, fun _ => rfl⟩
          exact ⟨m - 1, by omega, _, rfl, .inr ⟨l, ps1, vs1, m1, u5, kk5, q5, hop5, htr5, hB.1, hB.2⟩⟩
        | cons e2 es3 =>
          obtain ⟨o2, p2⟩ := e2
          refine if_t (by simp) ?_
          cases rs with
          | nil => simp at hsl2
          | cons y rs3 =>
            obtain ⟨m2, ps2⟩ := y
            have hs5' := hs5
            unfold StkAt at hs5'
            obtain ⟨⟨vs2, hop2, htr2⟩, hs3⟩ := hs5'
            dsimp only at hop2 htr2
            obtain ⟨⟨dx2, ho2⟩, hp2⟩ := id hop2
            have hr2 : RunU l ((m2, ps2 ++ [.t ps1]) :: rs3) o := by
              cases I.r with
              | err h _ => exact absurd h c
              | leaf h _ _ => exact absurd h c
              | opn h _ _ => exact absurd h c
              | pop h hr => exact hr
            have q5' : H5 po = some (.lst (es3.reverse.map (fun e => V.ref e.1) ++ [.ref o2])) := by
              rw [q5, List.reverse_cons, List.map_append]
              rfl
            obtain ⟨⟨dx1', ho15⟩, hp15⟩ := id hop5
            have hvl2 := htr2.len
            have hwt2 : ps1.length + 1 + (ps2.length + 1 + wtS rs3) + l.length ≤ bs.length + 1 := by
              unfold wtS at hwt
              exact hwt
            walk_at "rd"
            refine w_fldE ?_
            walk_at "rd"
            refine w_ixL q5' (v := .ref o2) (atI_m1 (by
              rw [List.length_append, List.length_singleton, Nat.add_sub_cancel, List.getElem?_append_right (Nat.le_refl _), Nat.sub_self]
              rfl)) ?_
            refine ⟨o2, C2, dx2, _, _, rfl, ho2, TO.cl, TO.nP, lk_parts, ?_⟩
            refine ⟨.inl ⟨rfl, _, SqL.of hp2⟩, ?_⟩
            walk_at "rd"
            refine ⟨p1, vs1, rfl, .inl ⟨SqL.of hp15, fun tq htq => ?_⟩⟩
            have k6 := Kept.new (o := .tup vs1) htq
            have e6 : (upd H5 tq (.tup vs1)) tq = some (.tup vs1) := upd_same
            generalize upd H5 tq (.tup vs1) = H6 at k6 e6 ⊢
            have k6b := k6.kb (S := [])
            have nn : ∀ b : Addr, b ∉ ([] : List Addr) := fun b => List.not_mem_nil
            have htr1' := TrsAt.kb htr5 k6b
            have hp26 := k6.lst hp2
            have ndf' := ndf
            unfold flA at ndf'
            simp only [List.nodup_cons, List.mem_cons, not_or] at ndf'
            obtain ⟨⟨o2_p2, o2_fl⟩, p2_fl, _⟩ := ndf'
            have p2m : p2 ∈ flA ((o2, p2) :: es3) := (fl_mem List.mem_cons_self).2
            have o2m : o2 ∈ flA ((o2, p2) :: es3) := (fl_mem List.mem_cons_self).1
            walk_at "rd"
            refine w_app hp26 (by omega) ?_
            have k7 : KB [p2] H6 (upd H6 p2 (.lst (vs2 ++ [.ref tq]))) := KB.put (List.mem_singleton.mpr rfl) hp26 noTab_lst (fun xs e => by cases e)
            have e7 : (upd H6 p2 (.lst (vs2 ++ [.ref tq]))) p2 = some (.lst (vs2 ++ [.ref tq])) := upd_same
            generalize upd H6 p2 (.lst (vs2 ++ [.ref tq])) = H7 at k7 e7 ⊢
            have m7 : ∀ b, b ≠ p2 → b ∉ [p2] := fun b h z => h (List.mem_singleton.mp z)
            have ktot : Kept H H7 := KB.fresh (kk5.trans k6) k7 fun b hb => by
              rw [List.mem_singleton.mp hb]
              exact frf p2 (List.mem_cons_of_mem _ (List.mem_cons_of_mem _ p2m))
            have nn2 : (a :: po :: pd :: flA ((o2, p2) :: es3)).Nodup := by
              refine I.nd.sublist ?_
              exact List.Sublist.cons₂ _ (List.Sublist.cons₂ _ (List.Sublist.cons₂ _ (List.Sublist.cons _ (List.Sublist.cons _ (List.Sublist.refl _)))))
            refine ⟨m - 1, by omega, _, rfl, .inl ⟨l, (o2, p2) :: es3, (m2, ps2 ++ [.t ps1]) :: rs3, by rw [List.length_cons] at hme ⊢; omega, (u5.kept k6).kb k7 (m7 _ fun z => a_fl (z ▸ p2m)) (m7 _ fun z => pd_fl (z ▸ p2m)), ktot, k7.lst (m7 _ fun z => po_fl (z ▸ p2m)) (k6.lst q5), ?_, hr2, nn2, ?_, by rw [← I.la]; rfl, by
              unfold wtS
              dsimp only
              rw [List.length_append, List.length_singleton]
              omega⟩⟩
            · unfold StkAt
              refine ⟨⟨_, ⟨⟨dx2, k7.ins (m7 _ o2_p2) (k6b.ins (nn _) ho2)⟩, e7⟩, (TrsAt.kb (TrsAt.kb htr2 k6b) k7).one ?_⟩, (hs3.kb k6b fun b _ => nn b).kb k7 fun b hb => m7 _ fun z => p2_fl (z ▸ hb)⟩
              unfold TrAt
              exact ⟨tq, vs1, rfl, k7.tup _ _ e6, TrsAt.kb htr1' k7⟩
            · intro b hb
              rcases List.mem_cons.mp hb with rfl | hb
              · exact fra
              rcases List.mem_cons.mp hb with rfl | hb
              · exact frpo
              exact frf b (List.mem_cons_of_mem _ (List.mem_cons_of_mem _ hb))
    · obtain ⟨l, ps, vs, mm, hU, hk, hq, hop, htr, h1, h2⟩ := I
      obtain ⟨⟨dxq, hoo⟩, hpp⟩ := hop
      refine ⟨false, .inl ⟨_, SqL.of hq, rfl⟩, if_f rfl ?_⟩
      have hd := hU.d
      have ho := hU.o
      have hle := hU.le
      walk_at "rd"
      refine ⟨pd, _, rfl, .inl (SqL.of hd), ?_⟩
      rw [natsV_len]
      walk_at "rd"
      by_cases c : l = []
      · subst c
        refine if_f (decide_eq_false (by simp)) ?_
        obtain ⟨t, ps', rfl, rfl⟩ := h1 rfl
        unfold TrsAt at htr
        obtain ⟨x, r, rfl, hx, _⟩ := htr
        walk_at "rd"
        refine w_ixL hpp (v := x) (atI_nat (j := 0) rfl) ?_
        exact kk t rfl x H4 hk hx
      · have hl : 0 < l.length := List.length_pos_iff.mpr c
        refine if_t (decide_eq_true (by omega)) ?_
        walk_at "rd"
        exact ⟨_, rfl, Nat.lt_of_le_of_lt (Nat.log2_le_self _) (by omega), fun d hd => ke _ (h2 c) H4 d hk hd⟩
end
end Ky

namespace Ky
open PySem PySem.Spec PyProof.Rows L2
local macro_rules | `(tactic| walk_at "rd") => `(tactic| repeat (first
  | with_reducible refine w_for1 ?_
  | with_reducible refine w_for2 ?_
  | with_reducible refine w_forL ?_
  | with_reducible refine w_forT ?_
  | with_reducible refine w_lc1 ?_
  | with_reducible refine w_lcL ?_
  | with_reducible refine w_lcT ?_
  | with_reducible refine w_dcL ?_
  | with_reducible refine w_dcT ?_
  | with_reducible refine w_seq ?_
  | with_reducible refine w_asg ?_
  | with_reducible refine w_ret ?_
  | with_reducible refine w_drop ?_
  | with_reducible refine w_ifs ?_
  | ((with_reducible refine' w_var ?hh ?_); (case hh => exact rfl))
  | with_reducible refine w_c ?_
  | with_reducible refine w_op ?_
  | with_reducible refine w_un ?_
  | with_reducible refine w_I0 ?_
  | with_reducible refine w_U ?_
  | with_reducible refine w_nil ?_
  | with_reducible refine w_cons ?_
  | with_reducible refine w_call ?_
  | with_reducible refine w_cb ?_
  | with_reducible refine w_test ?_
  | with_reducible refine w_B ?_
  | with_reducible refine w_bl ?_
  | with_reducible refine w_and ?_
  | with_reducible refine w_or ?_
  | with_reducible refine w_not ?_
  | with_reducible refine w_ife ?_
  | with_reducible refine w_gRd ?_
  | with_reducible refine w_andV ?_
  | with_reducible refine w_orV ?_
  | with_reducible refine w_notV ?_
  | with_reducible refine w_chain ?_
  | with_reducible refine w_din ?_
  | with_reducible refine w_isi_ii ?_
  | with_reducible refine w_isi_bi ?_
  | with_reducible refine w_isi_bb ?_
  | with_reducible refine w_isi_bt ?_
  | with_reducible refine w_isi_si ?_
  | with_reducible refine w_isi_nt ?_
  | with_reducible refine w_isi_ib ?_
  | with_reducible refine w_isi_it ?_
  | with_reducible refine w_isi_st ?_
  | ((with_reducible refine w_isi_tt ?h1 ?_); (case h1 => first | assumption | exact upd_same))
  | with_reducible refine if_t rfl ?_
  | with_reducible refine if_f rfl ?_
  | with_reducible refine w_tup ?_
  | with_reducible refine w_lst ?_
  | with_reducible refine w_next ?_
  | with_reducible refine w_bm ?_
  | with_reducible refine w_sl ?_
  | with_reducible refine w_part ?_
  | with_reducible refine w_nop ?_
  | with_reducible refine w_isI ?_
  | with_reducible refine w_yes ?_
  | with_reducible refine w_gn ?_
  | with_reducible refine w_gsub ?_
  | ((with_reducible refine' w_setL ?h1 ?h2 ?_); (case h1 => first | assumption | exact upd_same); (case h2 => exact rfl))
  | with_reducible refine w_asgG ?_
  | with_reducible refine w_m1 ?_
  | with_reducible refine w_isS ?_
  | with_reducible refine w_tyS ?_
  | ((with_reducible refine' w_tyL ?h1 ?_); (case h1 => first | assumption | exact upd_same))
  | ((with_reducible refine' w_ixT ?h1 ?h2 ?_); (case h1 => first | assumption | exact upd_same); (case h2 => exact rfl))
  | ((with_reducible refine' w_ixL ?h1 ?h2 ?_); (case h1 => first | assumption | exact upd_same); (case h2 => exact rfl))
  | ((with_reducible refine w_eq ?h1 ?_); (case h1 => exact rfl))
  | ((with_reducible refine w_ne ?h1 ?_); (case h1 => exact rfl))
  | ((with_reducible refine' w_text ?hT ?h1 ?h2 ?_); (case hT => assumption); (case h1 => exact rfl); (case h2 => first | assumption | exact upd_same))
  | ((with_reducible refine' w_at ?hT ?h1 ?h2 ?_); (case hT => assumption); (case h1 => exact rfl); (case h2 => first | assumption | exact upd_same))
  | ((with_reducible refine' w_token ?hT ?h1 ?h2 ?_); (case hT => assumption); (case h1 => exact rfl); (case h2 => first | assumption | exact upd_same))
  | ((with_reducible refine' w_data ?hT ?h1 ?h2 ?_); (case hT => assumption); (case h1 => exact rfl); (case h2 => first | assumption | exact upd_same))
  | ((with_reducible refine' w_atU ?hT ?h1 ?h2 ?_); (case hT => assumption); (case h1 => exact rfl); (case h2 => first | assumption | exact upd_same))
  | ((with_reducible refine' w_many ?hT ?h1 ?h2 ?_); (case hT => assumption); (case h1 => exact rfl); (case h2 => first | assumption | exact upd_same))
  | ((with_reducible refine' w_parts ?hT ?h1 ?h2 ?_); (case hT => assumption); (case h1 => exact rfl); (case h2 => first | assumption | exact upd_same))
  | ((with_reducible refine' w_pData ?hT ?h2 ?_); (case hT => assumption); (case h2 => first | assumption | exact upd_same))
  | ((with_reducible refine' w_pAt ?hT ?h2 ?_); (case hT => assumption); (case h2 => first | assumption | exact upd_same))
  | ((with_reducible refine' w_pMany ?hT ?h2 ?_); (case hT => assumption); (case h2 => first | assumption | exact upd_same))
  | ((with_reducible refine' w_pParts ?hT ?h2 ?_); (case hT => assumption); (case h2 => first | assumption | exact upd_same))
  | ((with_reducible refine' w_augAt ?hT ?h1 ?h2 ?_); (case hT => assumption); (case h1 => exact rfl); (case h2 => first | assumption | exact upd_same))
  | with_reducible refine w_sfld0 ?_
  | with_reducible refine w_mkx ?_
  | with_reducible refine w_nonR ?_
  | with_reducible refine w_bm0 ?_
  | ((with_reducible refine' w_putAt ?hT ?h2 ?_); (case hT => assumption); (case h2 => first | assumption | exact upd_same))
  | ((with_reducible refine' w_putToken ?hT ?h2 ?_); (case hT => assumption); (case h2 => first | assumption | exact upd_same))
  | dsimp only [List.set_cons_zero, List.set_cons_succ, List.append_nil, List.cons_append, List.nil_append, cxOf]))

open TL
/-- the values that are drawn -/
inductive GoodV : Nat → Tr → Prop
  | n {d} : GoodV d .n
  | b {d x} : GoodV d (.b x)
  | i {d k} : k.natAbs ≤ 2 ^ 70 → GoodV d (.i k)
  | s {d z} : (∀ c ∈ tl z, isLet c = true) → (tl z).length ≤ 6 → GoodV d (.s z)
  | t {d l} : l.length ≤ 4 → (∀ a ∈ l, GoodV d a) → GoodV (d + 1) (.t l)
def spLV (d : Nat) : Sp := fun vs H Q _ => ∃ (da ca : Addr) (n : Nat), vs = [.ref da, .int n] ∧ n < d ∧ DrwC da ca H ∧ ∀ v H' t, KeptC da ca H H' → TrAt H' t v → GoodV n t → Q v H'
def spLSize : Sp := fun vs H Q _ => ∃ n : Nat, vs = [.int (n : Nat)] ∧ n < 2 ^ 8000 ∧ ∀ p H', Kept H H' → H p = none → H' p = some (.lst (natsV (sizeB n))) → Q (.ref p) H'
theorem goodS {d : Nat} {s : String} (h : ((s.toList.map Char.toNat).all isLet && decide ((s.toList.map Char.toNat).length ≤ 6)) = true) : GoodV d (.s (Str.ofString s)) := by
  rw [Bool.and_eq_true, List.all_eq_true, decide_eq_true_eq] at h
  exact .s (by rw [tl_ofString]; exact h.1) (by rw [tl_ofString]; exact h.2)
theorem tv_leaf {K : PySem.W.Frag} {da ca : Addr} {σ : L2.St} {H : Hp} {Q : VK} {n : Nat} (hD : DrwC da ca H) (k : ∀ v H' t, KeptC da ca H H' → TrAt H' t v → GoodV n t → Q v H') :
    tOp (rIxL K) (tLst (tCons (tC (V.int 0)) (tCons (tC (V.int 1)) (tCons (tUn (rU fun i => V.int (-i)) (tC (V.int 1))) (tCons (tC (V.int 127)) (tCons (tC (V.int 128)) (tCons (tUn (rU fun i => V.int (-i)) (tC (V.int 129))) (tCons (tOp (rI CPow fun i j => V.int (i * 2 ^ j.toNat)) (tC (V.int 1)) (tC (V.int 70)))
      (tCons (tOp (rI0 fun i j => V.int (i - j)) (tCall spTakeC [] E0 (tCons (tVar 0) (tCons (tOp (rI CPow fun i j => V.int (i ^ j.toNat)) (tC (V.int 10)) (tC (V.int 9))) tNil))) (tOp (rI CMulW fun i j => V.int (i * j)) (tC (V.int 5)) (tOp (rI CPow fun i j => V.int (i ^ j.toNat)) (tC (V.int 10)) (tC (V.int 8))))) tNil)))))))))
      (tCall spTakeC [] E0 (tCons (tVar 0) (tCons (tC (V.int 8)) tNil))) (some (.ref da) :: σ) H Q := by
  have hsl : 1001 ≤ sizeLine := by decide
  walk_at "rd"
  refine ⟨_, _, rfl, rfl, ⟨by decide, by decide, by decide⟩, ?_⟩
  walk_at "rd"
  refine ⟨_, _, rfl, rfl, ⟨by decide, by decide, by decide⟩, ?_⟩
  walk_at "rd"
  rw [show (10 : Int) ^ (9 : Int).toNat = 1000000000 by decide]
  refine ⟨da, ca, 1000000000, rfl, by decide, by decide, hD, fun x H1 l1 g1 k1 => ?_⟩
  have hD1 := k1.drw hD
  walk_at "rd"
  refine ⟨_, _, rfl, rfl, ⟨by decide, by decide, by decide⟩, ?_⟩
  refine ⟨5, 100000000, rfl, rfl, wide_mul (a := 8) (b := 64) (by decide) (by decide) (by decide) (by decide) (by decide), ?_⟩
  walk_at "rd"
  refine ⟨by show 8 ≤ sizeLine; omega, fun L hL => ?_⟩
  have nL := hD1.old hL
  have kL : KeptC da ca H1 (upd H1 L (.lst [.int 0, .int 1, .int (-1), .int 127, .int 128, .int (-129), .int (1 * 2 ^ (70 : Int).toNat), .int (x - 5 * 100000000)])) := (Kept.new hL).toC
  have eL : (upd H1 L (.lst [.int 0, .int 1, .int (-1), .int 127, .int 128, .int (-129), .int (1 * 2 ^ (70 : Int).toNat), .int (x - 5 * 100000000)])) L = some (.lst (([0, 1, -1, 127, 128, -129, 1 * 2 ^ (70 : Int).toNat, x - 5 * 100000000] : List Int).map V.int)) := upd_same
  generalize upd H1 L (.lst [.int 0, .int 1, .int (-1), .int 127, .int 128, .int (-129), .int (1 * 2 ^ (70 : Int).toNat), .int (x - 5 * 100000000)]) = H2 at kL eL ⊢
  walk_at "rd"
  refine ⟨da, ca, 8, rfl, by decide, by decide, kL.drw hD1, fun r H3 l2 g2 k2 => ?_⟩
  obtain ⟨y, hy, ey⟩ := pick_int (ns := [0, 1, -1, 127, 128, -129, 1 * 2 ^ (70 : Int).toNat, x - 5 * 100000000]) l2 g2
  refine w_ixL (k2.lst nL.1 eL) ey ?_
  refine k _ _ (.i y) ((k1.trans kL).trans k2) (by unfold TrAt; rfl) (.i ?_)
  have b70 : (2 : Nat) ^ 70 = 1180591620717411303424 := by decide
  rw [b70]
  simp only [List.mem_cons, List.not_mem_nil, or_false] at hy
  rcases hy with rfl | rfl | rfl | rfl | rfl | rfl | rfl | rfl
  · decide
  · decide
  · decide
  · decide
  · decide
  · decide
  · decide
  · omega
section
variable {P : Program} {w : World} {K : PySem.W.Frag} {mg : Str → Option Value} {base : Heap} {uD uN uF uT uC uB uX uU uL : Value} {f C C2 Pt aB CE fI : Addr} {fd : FuncData}
theorem ok_l_size (F : Fun K "_law_size" "_law_size" s_l_size f fd) (T : Tx K mg uD uN uF uT uC uB uX uU uL aB) : FnOk P w K mg base CX0 1 f fd ["n"] spLSize := by
  refine F.ok sc_l_size (fun vs H Q E h => ?_) (fun cdv A outer s H vs Q E hr h => ?_)
  · obtain ⟨n, rfl, _⟩ := h
    rfl
  · obtain ⟨n, rfl, hn, k⟩ := h
    have hsl : 16000000 ≤ sizeLine := by decide
    refine ⟨_, (pss_cons (ps_set (i := 1) sc_l_size.nd rfl (.inl rfl) (pe_lst pa_nil))
    (pss_cons (ps_while PassesOwn.never (pt_cmpR op_gt (pv 0) pe_int (nomark _))
      (pss_cons (ps_expr (pe_bm PySem.F.plainAttrs_list PySem.F.slot_list_append PySem.F.type_list_append mt_append (pv 1) (pa_cons (pe_op op_sub (pe_op op_add pe_int (pv 0)) (pe_op op_mulW (pe_op op_fdivW (pv 0) pe_int) pe_int)) pa_nil)))
    (pss_one (ps_set (i := 0) sc_l_size.nd rfl (.inl rfl) (pe_op op_fdivW (pv 0) pe_int)))))
    (pss_one (ps_ret (pe_op op_cat (pv 1) (pe_lst (pa_cons (pv 0) pa_nil))))))), ?_⟩
    rw [show start n_l_size [(.int (n : Nat) : V)] = ([some (.int (n : Nat)), none] : List (Option V)) from rfl]
    walk_at "rd"
    refine ⟨Nat.zero_le _, fun p hp => ?_⟩
    have k1 := Kept.new (o := .lst []) hp
    have g1 : (upd H p (.lst [])) p = some (.lst (natsV [])) := upd_same
    generalize upd H p (.lst []) = H1 at k1 g1 ⊢
    walk_at "rd"
    refine ⟨fun m σ' H' => ∃ (a : Nat) (ds : List Nat), σ' = [some (.int (a : Nat)), some (.ref p)] ∧ a < m ∧ a ≤ n ∧ a * 2 ^ ds.length < 2 ^ 8000 ∧ Kept H H' ∧ H' p = some (.lst (natsV ds)) ∧ sizeB n = ds ++ sizeB a ∧ ds.length ≤ 8000, ⟨n + 1, n, [], rfl, by omega, Nat.le_refl _, by simpa using hn, k1, g1, rfl, by simp⟩, ?_⟩
    rintro m σ' H2 ⟨a, ds, rfl, ha, han, hb, k2, g2, e2, hl⟩
    walk_at "rd"
    have ha8 : ((a : Nat) : Int).natAbs < 2 ^ 8000 := by rw [Int.natAbs_natCast]; exact Nat.lt_of_le_of_lt han hn
    by_cases c : 128 ≤ a
    · refine if_t (decide_eq_true (by omega)) ?_
      refine ⟨fun σ3 H3 => ∃ (a' : Nat) (ds' : List Nat), σ3 = [some (.int (a' : Nat)), some (.ref p)] ∧ a' < a ∧ a' ≤ n ∧ a' * 2 ^ ds'.length < 2 ^ 8000 ∧ Kept H H3 ∧ H3 p = some (.lst (natsV ds')) ∧ sizeB n = ds' ++ sizeB a' ∧ ds'.length ≤ 8000, ?_, ?_⟩
      · rintro σ3 H3 ⟨a', ds', rfl, h1, h0, h2, h3, h4, h5, h6⟩
        exact ⟨a' + 1, by omega, a', ds', rfl, by omega, h0, h2, h3, h4, h5, h6⟩
      have hl2 : ds.length < 8000 := by
        have h1 : 1 * 2 ^ ds.length ≤ a * 2 ^ ds.length := Nat.mul_le_mul_right _ (by omega)
        rw [Nat.one_mul] at h1
        exact (Nat.pow_lt_pow_iff_right (by decide : 1 < 2)).mp (Nat.lt_of_le_of_lt h1 hb)
      walk_at "rd"
      refine ⟨_, _, rfl, rfl, wide_div (b := 8) (by decide) (by decide) (by decide) (by decide), ?_⟩
      walk_at "rd"
      have hd : (((a : Nat) : Int) / 128) = ((a / 128 : Nat) : Int) := by omega
      refine ⟨_, _, rfl, rfl, wide_mul (a := 8000) (b := 8) (by rw [hd, Int.natAbs_natCast]; exact Nat.lt_of_le_of_lt (Nat.le_trans (Nat.div_le_self _ _) han) hn) (by decide) (by decide) (by decide) (by decide), ?_⟩
      walk_at "rd"
      rw [show 128 + ((a : Nat) : Int) - ((a : Nat) : Int) / 128 * 128 = ((a % 128 + 128 : Nat) : Int) by omega]
      refine w_app g2 (by rw [natsV_len]; omega) ?_
      walk_at "rd"
      refine ⟨_, _, rfl, rfl, wide_div (b := 8) (by decide) (by decide) (by decide) (by decide), ?_⟩
      dsimp only
      rw [hd]
      refine ⟨a / 128, ds ++ [a % 128 + 128], rfl, by omega, by omega, ?_, Kept.mut k2 hp, by rw [upd_same]; unfold natsV; rw [List.map_append] <;> rfl, by rw [e2, sizeB_big (by omega), List.append_assoc] <;> rfl, by rw [List.length_append, List.length_singleton]; omega⟩
      rw [List.length_append, List.length_singleton, Nat.pow_succ]
      have h1 : a / 128 * (2 ^ ds.length * 2) = a / 128 * 2 * 2 ^ ds.length := by rw [Nat.mul_comm (2 ^ ds.length), ← Nat.mul_assoc]
      have h2 : a / 128 * 2 * 2 ^ ds.length ≤ a * 2 ^ ds.length := Nat.mul_le_mul_right _ (by omega)
      omega
    · refine if_f (decide_eq_false (by omega)) ?_
      walk_at "rd"
      refine ⟨by show 1 ≤ sizeLine; omega, fun q hq => ?_⟩
      have k3 := Kept.new (o := .lst [.int (a : Nat)]) hq
      have g3 : (upd H2 q (.lst [.int (a : Nat)])) q = some (.lst [V.int (a : Nat)]) := upd_same
      have g2' := k3.lst g2
      generalize upd H2 q (.lst [.int (a : Nat)]) = H3 at k3 g3 g2' ⊢
      refine ⟨p, q, _, _, rfl, rfl, g2', g3, by rw [natsV_len]; show ds.length + 1 ≤ _; omega, fun l hl3 => ?_⟩
      refine k l _ ((k2.trans k3).trans (Kept.new hl3)) ((k2.trans k3).free _ hl3) ?_
      rw [upd_same, e2, sizeB_small (by omega)]
      unfold natsV
      rw [List.map_append] <;> rfl
theorem ok_lv_step (d : Nat) (F : Fun K "_law_value" "_law_value" s_l_value f fd) (T : Tx K mg uD uN uF uT uC uB uX uU uL aB) (D_l_take : Df P w K mg base 1 "_law_take" ["draw", "many"] spTakeC)
    (D_l_value : Df P w K mg base (d + 2) "_law_value" ["draw", "depth"] (spLV d)) : FnOk P w K mg base CX0 (d + 3) f fd ["draw", "depth"] (spLV (d + 1)) := by
  refine F.ok sc_l_value (fun vs H Q E h => ?_) (fun cdv A outer s H vs Q E hr h => ?_)
  · obtain ⟨da, ca, n, rfl, _⟩ := h
    rfl
  · obtain ⟨da, ca, n, rfl, hn, hD, k⟩ := h
    have hsl : 16000000 ≤ sizeLine := by decide
    refine ⟨_, (pss_cons (ps_set (i := 2) sc_l_value.nd rfl (.inl rfl) (pe_df D_l_take (hr.mono (by omega)) (by rfl) (pa_cons (pv 0) (pa_cons pe_int pa_nil))))
    (pss_cons (ps_if (PW.pt (pw_or (pt_cmpR op_lt (pv 2) pe_int (nomark _)) (pw_or1 (pt_cmpR op_eq (pv 1) pe_int (nomark _)))))
      (pss_one (ps_ret (pe_ix (ix_listK (K := K) rfl) (pe_lst (pa_cons pe_int (pa_cons pe_int (pa_cons (pe_un un_neg pe_int) (pa_cons pe_int (pa_cons pe_int (pa_cons (pe_un un_neg pe_int) (pa_cons (pe_op op_shl pe_int pe_int) (pa_cons (pe_op op_sub (pe_df D_l_take (hr.mono (by omega)) (by rfl) (pa_cons (pv 0) (pa_cons (pe_op op_pow pe_int pe_int) pa_nil))) (pe_op op_mulW pe_int (pe_op op_pow pe_int pe_int))) pa_nil))))))))) (pe_df D_l_take (hr.mono (by omega)) (by rfl) (pa_cons (pv 0) (pa_cons pe_int pa_nil))) (fun _ _ => rfl))))
      pss_nil)
    (pss_cons (ps_if (pt_cmpR op_eq (pv 2) pe_int (nomark _))
      (pss_one (ps_ret (pe_ix (ix_listK (K := K) rfl) (pe_lst (pa_cons pe_str (pa_cons pe_str (pa_cons pe_str (pa_cons pe_str pa_nil))))) (pe_df D_l_take (hr.mono (by omega)) (by rfl) (pa_cons (pv 0) (pa_cons pe_int pa_nil))) (fun _ _ => rfl))))
      pss_nil)
    (pss_cons (ps_if (pt_cmpR op_eq (pv 2) pe_int (nomark _))
      (pss_one (ps_ret (pe_ix (ix_listK (K := K) rfl) (pe_lst (pa_cons pe_non (pa_cons pe_bl (pa_cons pe_bl pa_nil)))) (pe_df D_l_take (hr.mono (by omega)) (by rfl) (pa_cons (pv 0) (pa_cons pe_int pa_nil))) (fun _ _ => rfl))))
      pss_nil)
    (pss_one (ps_ret (pe_callTy call_tuple_of (by rfl) T.z_tuple (by decide +kernel) (pa_cons (pe_lc (own := [("j", 3)]) (g := gName 3) (by rfl) sc_l_value.nd (pi_range1 (by rfl) T.z_range (pa_cons (pe_df D_l_take (hr.mono (by omega)) (by rfl) (pa_cons (pv 0) (pa_cons pe_int pa_nil))) pa_nil)) (blkOk_by (own := [("j", 3)]) (N := n_l_value) (sc := defScope s_l_value) (by decide +kernel)) (fun _ _ _ _ _ => pg_name (i := 3) sc_l_value.nd rfl (Or.inl rfl)) (fun _ _ _ _ _ => pts_nil) (fun _ _ _ _ _ => (pe_df D_l_value (hr.mono (by omega)) (by rfl) (pa_cons (pv 0) (pa_cons (pe_op op_sub (pv 1) pe_int) pa_nil))))) pa_nil)))))))), ?_⟩
    rw [show start n_l_value [(.ref da : V), (.int n : V)] = ([some (.ref da), some (.int n), none, none] : List (Option V)) from rfl]
    walk_at "rd"
    refine ⟨da, ca, 9, rfl, by decide, by decide, hD, fun r H1 l1 g1 k1 => ?_⟩
    have hD1 := k1.drw hD
    walk_at "rd"
    by_cases c3 : r < 3
    · refine if_t (decide_eq_true c3) (if_t rfl ?_)
      refine w_ret ?_
      exact tv_leaf hD1 fun v H' t k2 => k v H' t (k1.trans k2)
    refine if_f (decide_eq_false c3) ?_
    walk_at "rd"
    cases n with
    | zero =>
      refine if_t rfl ?_
      refine w_ret ?_
      exact tv_leaf hD1 fun v H' t k2 => k v H' t (k1.trans k2)
    | succ n =>
      refine if_f (decide_eq_false fun z => by have := V.int.inj z; omega) ?_
      walk_at "rd"
      by_cases e3 : r = 3
      · refine if_t (decide_eq_true (by rw [e3])) ?_
        walk_at "rd"
        refine ⟨by show 4 ≤ sizeLine; omega, fun L hL => ?_⟩
        have nL := hD1.old hL
        have kL : KeptC da ca H1 (upd H1 L (.lst [.str (Str.ofString ""), .str (Str.ofString "yes"), .str (Str.ofString "choice"), .str (Str.ofString "z")])) := (Kept.new hL).toC
        have eL : (upd H1 L (.lst [.str (Str.ofString ""), .str (Str.ofString "yes"), .str (Str.ofString "choice"), .str (Str.ofString "z")])) L = some (.lst [.str (Str.ofString ""), .str (Str.ofString "yes"), .str (Str.ofString "choice"), .str (Str.ofString "z")]) := upd_same
        generalize upd H1 L (.lst [.str (Str.ofString ""), .str (Str.ofString "yes"), .str (Str.ofString "choice"), .str (Str.ofString "z")]) = H2 at kL eL ⊢
        walk_at "rd"
        refine ⟨da, ca, 4, rfl, by decide, by decide, kL.drw hD1, fun r2 H3 l2 g2 k2 => ?_⟩
        have k13 := (k1.trans kL).trans k2
        rcases (show r2 = 0 ∨ r2 = 1 ∨ r2 = 2 ∨ r2 = 3 by omega) with rfl | rfl | rfl | rfl
        · exact w_ixL (k2.lst nL.1 eL) (v := .str (Str.ofString "")) rfl (k _ _ (.s (Str.ofString "")) k13 (by unfold TrAt; rfl) (goodS (by decide)))
        · exact w_ixL (k2.lst nL.1 eL) (v := .str (Str.ofString "yes")) rfl (k _ _ (.s (Str.ofString "yes")) k13 (by unfold TrAt; rfl) (goodS (by decide)))
        · exact w_ixL (k2.lst nL.1 eL) (v := .str (Str.ofString "choice")) rfl (k _ _ (.s (Str.ofString "choice")) k13 (by unfold TrAt; rfl) (goodS (by decide)))
        · exact w_ixL (k2.lst nL.1 eL) (v := .str (Str.ofString "z")) rfl (k _ _ (.s (Str.ofString "z")) k13 (by unfold TrAt; rfl) (goodS (by decide)))
      refine if_f (decide_eq_false fun z => by have := V.int.inj z; omega) ?_
      walk_at "rd"
      by_cases e4 : r = 4
      · refine if_t (decide_eq_true (by rw [e4])) ?_
        walk_at "rd"
        refine ⟨by show 3 ≤ sizeLine; omega, fun L hL => ?_⟩
        have nL := hD1.old hL
        have kL : KeptC da ca H1 (upd H1 L (.lst [.non, .bl true, .bl false])) := (Kept.new hL).toC
        have eL : (upd H1 L (.lst [.non, .bl true, .bl false])) L = some (.lst [.non, .bl true, .bl false]) := upd_same
        generalize upd H1 L (.lst [.non, .bl true, .bl false]) = H2 at kL eL ⊢
        walk_at "rd"
        refine ⟨da, ca, 3, rfl, by decide, by decide, kL.drw hD1, fun r2 H3 l2 g2 k2 => ?_⟩
        have k13 := (k1.trans kL).trans k2
        rcases (show r2 = 0 ∨ r2 = 1 ∨ r2 = 2 by omega) with rfl | rfl | rfl
        · exact w_ixL (k2.lst nL.1 eL) (v := .non) rfl (k _ _ .n k13 (by unfold TrAt; rfl) .n)
        · exact w_ixL (k2.lst nL.1 eL) (v := .bl true) rfl (k _ _ (.b true) k13 (by unfold TrAt; rfl) .b)
        · exact w_ixL (k2.lst nL.1 eL) (v := .bl false) rfl (k _ _ (.b false) k13 (by unfold TrAt; rfl) .b)
      refine if_f (decide_eq_false fun z => by have := V.int.inj z; omega) ?_
      walk_at "rd"
      refine ⟨da, ca, 5, rfl, by decide, by decide, hD1, fun r2 H2 l2 g2 k2 => ?_⟩
      obtain ⟨m, rfl⟩ : ∃ m : Nat, r2 = (m : Int) := ⟨r2.toNat, by omega⟩
      have hD2 := k2.drw hD1
      refine Lc1.drawsT (GoodV n) hD2 (by omega) (fun i H3 kk hi k3 step => ?_) fun D H3 xs ts hDn k3 hDl hxs htl hts => ?_
      · walk_at "rd"
        refine ⟨da, ca, n, by rw [show ((n + 1 : Nat) : Int) - 1 = (n : Int) by omega] <;> rfl, by omega, k3.drw hD2, fun v H4 t k4 ht hg => step v H4 t k4 ht hg⟩
      · walk_at "rd"
        refine ⟨D, xs, rfl, .inl ⟨SqL.of hDl, fun q hq => ?_⟩⟩
        have m4 := Kept.new (o := .tup xs) hq
        refine k _ _ (.t ts) ((k1.trans k2).trans (k3.trans m4.toC)) ?_ (.t (by omega) hts)
        unfold TrAt
        exact ⟨q, xs, rfl, upd_same, TrsAt.upH (fun p zs h => m4.tup h) _ _ hxs⟩
end
end Ky

namespace Ky
open PySem PySem.Spec PyProof.Rows L2
local macro_rules | `(tactic| walk_at "rd") => `(tactic| repeat (first
  | with_reducible refine w_for1 ?_
  | with_reducible refine w_for2 ?_
  | with_reducible refine w_forL ?_
  | with_reducible refine w_forT ?_
  | with_reducible refine w_lc1 ?_
  | with_reducible refine w_lcL ?_
  | with_reducible refine w_lcT ?_
  | with_reducible refine w_dcL ?_
  | with_reducible refine w_dcT ?_
  | with_reducible refine w_seq ?_
  | with_reducible refine w_asg ?_
  | with_reducible refine w_ret ?_
  | with_reducible refine w_drop ?_
  | with_reducible refine w_ifs ?_
  | ((with_reducible refine' w_var ?hh ?_); (case hh => exact rfl))
  | with_reducible refine w_c ?_
  | with_reducible refine w_op ?_
  | with_reducible refine w_un ?_
  | with_reducible refine w_I0 ?_
  | with_reducible refine w_U ?_
  | with_reducible refine w_nil ?_
  | with_reducible refine w_cons ?_
  | with_reducible refine w_call ?_
  | with_reducible refine w_cb ?_
  | with_reducible refine w_test ?_
  | with_reducible refine w_B ?_
  | with_reducible refine w_bl ?_
  | with_reducible refine w_and ?_
  | with_reducible refine w_or ?_
  | with_reducible refine w_not ?_
  | with_reducible refine w_ife ?_
  | with_reducible refine w_gRd ?_
  | with_reducible refine w_andV ?_
  | with_reducible refine w_orV ?_
  | with_reducible refine w_notV ?_
  | with_reducible refine w_chain ?_
  | with_reducible refine w_din ?_
  | with_reducible refine w_isi_ii ?_
  | with_reducible refine w_isi_bi ?_
  | with_reducible refine w_isi_bb ?_
  | with_reducible refine w_isi_bt ?_
  | with_reducible refine w_isi_si ?_
  | with_reducible refine w_isi_nt ?_
  | with_reducible refine w_isi_ib ?_
  | with_reducible refine w_isi_it ?_
  | with_reducible refine w_isi_st ?_
  | ((with_reducible refine w_isi_tt ?h1 ?_); (case h1 => first | assumption | exact upd_same))
  | with_reducible refine if_t rfl ?_
  | with_reducible refine if_f rfl ?_
  | with_reducible refine w_tup ?_
  | with_reducible refine w_lst ?_
  | with_reducible refine w_next ?_
  | with_reducible refine w_bm ?_
  | with_reducible refine w_sl ?_
  | with_reducible refine w_part ?_
  | with_reducible refine w_nop ?_
  | with_reducible refine w_isI ?_
  | with_reducible refine w_yes ?_
  | with_reducible refine w_gn ?_
  | with_reducible refine w_gsub ?_
  | ((with_reducible refine' w_setL ?h1 ?h2 ?_); (case h1 => first | assumption | exact upd_same); (case h2 => exact rfl))
  | with_reducible refine w_asgG ?_
  | with_reducible refine w_m1 ?_
  | with_reducible refine w_isS ?_
  | with_reducible refine w_tyS ?_
  | ((with_reducible refine' w_tyL ?h1 ?_); (case h1 => first | assumption | exact upd_same))
  | ((with_reducible refine' w_ixT ?h1 ?h2 ?_); (case h1 => first | assumption | exact upd_same); (case h2 => exact rfl))
  | ((with_reducible refine' w_ixL ?h1 ?h2 ?_); (case h1 => first | assumption | exact upd_same); (case h2 => exact rfl))
  | ((with_reducible refine w_eq ?h1 ?_); (case h1 => exact rfl))
  | ((with_reducible refine w_ne ?h1 ?_); (case h1 => exact rfl))
  | ((with_reducible refine' w_text ?hT ?h1 ?h2 ?_); (case hT => assumption); (case h1 => exact rfl); (case h2 => first | assumption | exact upd_same))
  | ((with_reducible refine' w_at ?hT ?h1 ?h2 ?_); (case hT => assumption); (case h1 => exact rfl); (case h2 => first | assumption | exact upd_same))
  | ((with_reducible refine' w_token ?hT ?h1 ?h2 ?_); (case hT => assumption); (case h1 => exact rfl); (case h2 => first | assumption | exact upd_same))
  | ((with_reducible refine' w_data ?hT ?h1 ?h2 ?_); (case hT => assumption); (case h1 => exact rfl); (case h2 => first | assumption | exact upd_same))
  | ((with_reducible refine' w_atU ?hT ?h1 ?h2 ?_); (case hT => assumption); (case h1 => exact rfl); (case h2 => first | assumption | exact upd_same))
  | ((with_reducible refine' w_many ?hT ?h1 ?h2 ?_); (case hT => assumption); (case h1 => exact rfl); (case h2 => first | assumption | exact upd_same))
  | ((with_reducible refine' w_parts ?hT ?h1 ?h2 ?_); (case hT => assumption); (case h1 => exact rfl); (case h2 => first | assumption | exact upd_same))
  | ((with_reducible refine' w_pData ?hT ?h2 ?_); (case hT => assumption); (case h2 => first | assumption | exact upd_same))
  | ((with_reducible refine' w_pAt ?hT ?h2 ?_); (case hT => assumption); (case h2 => first | assumption | exact upd_same))
  | ((with_reducible refine' w_pMany ?hT ?h2 ?_); (case hT => assumption); (case h2 => first | assumption | exact upd_same))
  | ((with_reducible refine' w_pParts ?hT ?h2 ?_); (case hT => assumption); (case h2 => first | assumption | exact upd_same))
  | ((with_reducible refine' w_augAt ?hT ?h1 ?h2 ?_); (case hT => assumption); (case h1 => exact rfl); (case h2 => first | assumption | exact upd_same))
  | with_reducible refine w_sfld0 ?_
  | with_reducible refine w_mkx ?_
  | with_reducible refine w_nonR ?_
  | with_reducible refine w_bm0 ?_
  | ((with_reducible refine' w_putAt ?hT ?h2 ?_); (case hT => assumption); (case h2 => first | assumption | exact upd_same))
  | ((with_reducible refine' w_putToken ?hT ?h2 ?_); (case hT => assumption); (case h2 => first | assumption | exact upd_same))
  | dsimp only [List.set_cons_zero, List.set_cons_succ, List.append_nil, List.cons_append, List.nil_append, cxOf]))

open TL
def spLP (d : Nat) : Sp := fun vs H Q _ => ∃ (v : V) (t : Tr) (e : Nat), vs = [v] ∧ TrAt H t v ∧ e < d ∧ OkT e t ∧ (pk t).length ≤ 1000 ∧ ∀ p H', Kept H H' → H p = none → H' p = some (.lst (natsV (pk t))) → Q (.ref p) H'
theorem size_bd : ∀ n : Nat, n < 2 ^ (7 * (sizeB n).length) := fun n => by
  induction n using Nat.strongRecOn with
  | ind n ih =>
    by_cases h : n < 128
    · rw [sizeB_small h]
      exact h
    · rw [sizeB_big h, List.length_cons]
      have := ih (n / 128) (by omega)
      rw [show 7 * ((sizeB (n / 128)).length + 1) = 7 * (sizeB (n / 128)).length + 7 by omega, Nat.pow_add]
      omega
theorem size_lt {n : Nat} (h : (sizeB n).length ≤ 1000) : n < 2 ^ 8000 := Nat.lt_of_lt_of_le (size_bd n) (Nat.pow_le_pow_right (by decide) (by omega))
theorem occ_letter : ∀ k : Fin 26, Builtin.Str.occurrences lettersS ⟨#[k.val + 97]⟩ 0 lettersS.length 1 = [k.val] := by decide +kernel
theorem occ_of {c : Nat} (h : isLet c = true) : Builtin.Str.occurrences lettersS ⟨#[c]⟩ 0 lettersS.length 1 = [c - 97] := by
  obtain ⟨h1, h2⟩ := isLet_iff.mp h
  have := occ_letter ⟨c - 97, by omega⟩
  dsimp only at this
  rw [show c - 97 + 97 = c by omega] at this
  exact this
theorem pks_mem {a : Tr} : ∀ {l : List Tr}, a ∈ l → (pk a).length ≤ (pks l).length
  | [], h => by cases h
  | b :: l, h => by
    rw [pks, List.length_append]
    rcases List.mem_cons.mp h with rfl | h
    · omega
    · have := pks_mem h
      omega
theorem pk_pos (t : Tr) : 1 ≤ (pk t).length := by
  cases t <;> unfold pk <;> try split
  all_goals simp
theorem pks_len : ∀ l : List Tr, l.length ≤ (pks l).length
  | [] => Nat.zero_le _
  | b :: l => by
    have := pks_len l
    have := pk_pos b
    rw [pks, List.length_append, List.length_cons]
    omega
theorem trs_nth {H : Hp} : ∀ {l : List Tr} {xs : List V} {i : Nat} {x : V}, TrsAt H l xs → xs[i]? = some x → ∃ t, l[i]? = some t ∧ TrAt H t x
  | [], xs, i, x, h, e => by
    unfold TrsAt at h
    subst h
    simp at e
  | a :: l, xs, i, x, h, e => by
    unfold TrsAt at h
    obtain ⟨y, r, rfl, h1, h2⟩ := h
    cases i with
    | zero =>
      cases e
      exact ⟨a, rfl, h1⟩
    | succ i =>
      rw [List.getElem?_cons_succ] at e
      obtain ⟨t, h3, h4⟩ := trs_nth h2 e
      exact ⟨t, by rw [List.getElem?_cons_succ]; exact h3, h4⟩
theorem pe_bmK {X : Cx} {K : PySem.W.Frag} (hK : X.K = K) {o e : Expr} {es : List Expr} {to : TE} {t : TA} {name : Str} {apos cpos : Pos} {T id : String} {r : V → List V → Hp → VK → Prop}
    (pa : PlainAttrs T) (slot : Slot T name id) (hty : typeOf (.builtin id) = pure (.type "method_descriptor")) (hm : MtR X id r) (ho : PE X o to) (ha : PA X (e :: es) t)
    (hbase : attributeBase o name X.env (eval o X.env) = eval o X.env := by rfl)
    (hfew : ((backTo cpos (starEach (e :: es) X.env)).all (fun x => !x.1) && (backToKw cpos (keywordEach [] X.env)).all (fun x => x.1.isSome)
      && decide ((e :: es).length + ([] : List Keyword).length + (if ([] : List Keyword).isEmpty then 0 else 1) < 30)) = true := by rfl)
    (hline : (apos.endLine == cpos.line) = true := by rfl) (hs : starEach (e :: es) X.env = (false, eval e X.env) :: starEach es X.env := by rfl) (hplain : (backTo cpos (starEach es X.env)).any (·.1) = false := by rfl) :
    PE X (.Call (.Attribute o name apos) (e :: es) [] cpos) (tBM K T r to t) := by
  subst hK
  exact pe_bm pa slot hty hm ho ha hbase hfew hline hs hplain
section
variable {P : Program} {w : World} {K : PySem.W.Frag} {mg : Str → Option Value} {base : Heap} {uD uN uF uT uC uB uX uU uL : Value} {f C C2 Pt aB CE fI : Addr} {fd : FuncData}
theorem ok_lv (F : Fun K "_law_value" "_law_value" s_l_value f fd) (T : Tx K mg uD uN uF uT uC uB uX uU uL aB) (D_l_take : Df P w K mg base 1 "_law_take" ["draw", "many"] spTakeC)
    (m : mg "_law_value" = some (.ref f)) (kp : PySem.W.keepIn K (.ref f) = true) (b : Binds K fd ["draw", "depth"] []) : ∀ d, FnOk P w K mg base CX0 (d + 2) f fd ["draw", "depth"] (spLV d)
  | 0 => ⟨fun vs H Q E h => by
    obtain ⟨da, ca, n, _, hn, _⟩ := h
    omega, fun A outer s H args us vs Q E _ _ _ _ h => by
    obtain ⟨da, ca, n, _, hn, _⟩ := h
    omega⟩
  | d + 1 => ok_lv_step d F T D_l_take ⟨f, fd, ok_lv F T D_l_take m kp b d, m, kp, b⟩
theorem ok_lp_step (d : Nat) (F : Fun K "_law_packed" "_law_packed" s_l_packed f fd) (T : Tx K mg uD uN uF uT uC uB uX uU uL aB) (D_l_size : Df P w K mg base 1 "_law_size" ["n"] spLSize)
    (D_l_packed : Df P w K mg base (d + 2) "_law_packed" ["value"] (spLP d)) : FnOk P w K mg base CX0 (d + 3) f fd ["value"] (spLP (d + 1)) := by
  refine F.ok sc_l_packed (fun vs H Q E h => ?_) (fun cdv A outer s H vs Q E hr h => ?_)
  · obtain ⟨v, t, e, rfl, _⟩ := h
    rfl
  · obtain ⟨v, t, e, rfl, ht, he, ho, hl, k⟩ := h
    have hsl : 16000000 ≤ sizeLine := by decide
    refine ⟨_, (pss_cons (ps_if (pt_cmpR op_isN (pv 0) pe_non (nomark _))
      (pss_one (ps_ret (pe_lst (pa_cons pe_int pa_nil))))
      pss_nil)
    (pss_cons (ps_if (pt_val (pe_callB (call_isiK (K := K) rfl) (by rfl) T.z_isinstance (by decide +kernel) (pa_cons (pv 0) (pa_cons (pe_bltn (by rfl) T.z_bool (by decide +kernel) (show RelV (.ty "bool") _ from rfl)) pa_nil))))
      (pss_one (ps_ret (pe_lst (pa_cons (pe_ifExp (pt_truth (pv 0) (by intro _; rfl)) pe_int pe_int) pa_nil))))
      pss_nil)
    (pss_cons (ps_if (pt_val (pe_callB (call_isiK (K := K) rfl) (by rfl) T.z_isinstance (by decide +kernel) (pa_cons (pv 0) (pa_cons (pe_bltn (by rfl) T.z_int (by decide +kernel) (show RelV (.ty "int") _ from rfl)) pa_nil))))
      (pss_one (ps_ret (pe_ifExp (pt_cmpR op_ge (pv 0) pe_int (nomark _)) (pe_op op_cat (pe_lst (pa_cons pe_int pa_nil)) (pe_df D_l_size (hr.mono (by omega)) (by rfl) (pa_cons (pv 0) pa_nil))) (pe_op op_cat (pe_lst (pa_cons pe_int pa_nil)) (pe_df D_l_size (hr.mono (by omega)) (by rfl) (pa_cons (pe_op op_sub (pe_un un_neg pe_int) (pv 0)) pa_nil))))))
      pss_nil)
    (pss_cons (ps_if (pt_val (pe_callB (call_isiK (K := K) rfl) (by rfl) T.z_isinstance (by decide +kernel) (pa_cons (pv 0) (pa_cons (pe_bltn (by rfl) T.z_str (by decide +kernel) (show RelV (.ty "str") _ from rfl)) pa_nil))))
      (pss_cons (ps_setLc (i := 1) (own := [("sign", 2)]) (g := gName 2) (by rfl) sc_l_packed.nd rfl rfl (sw_true rfl rfl rfl (by decide +kernel)) (pi_str (pv 0)) (blkOk_by (own := [("sign", 2)]) (N := n_l_packed) (sc := defScope s_l_packed) (by decide +kernel)) (fun _ _ _ _ _ => pg_name (i := 2) sc_l_packed.nd rfl (Or.inl rfl)) (fun _ _ _ _ _ => pts_nil) (fun _ _ _ _ _ => (pe_op op_add (pe_bmK (K := K) rfl PySem.F.plainAttrs_str PySem.F.slot_str_index PySem.F.type_str_index mt_sindex pe_str (pa_cons (pv 2) pa_nil)) pe_int)))
    (pss_one (ps_ret (pe_op op_cat (pe_op op_cat (pe_lst (pa_cons pe_int pa_nil)) (pe_df D_l_size (hr.mono (by omega)) (by rfl) (pa_cons (pe_callB call_len_str (by rfl) T.z_len (by decide +kernel) (pa_cons (pv 0) pa_nil)) pa_nil))) (pv 1)))))
      pss_nil)
    (pss_cons (ps_set (i := 3) sc_l_packed.nd rfl (.inl rfl) (pe_op op_cat (pe_lst (pa_cons pe_int pa_nil)) (pe_df D_l_size (hr.mono (by omega)) (by rfl) (pa_cons (pe_callB (call_lenK (K := K) rfl) (by rfl) T.z_len (by decide +kernel) (pa_cons (pv 0) pa_nil)) pa_nil))))
    (pss_cons (ps_for PassesOwn.never rfl (pi_tupK (K := K) rfl (pv 0)) (pg_name (i := 4) sc_l_packed.nd rfl (.inl rfl))
      (pss_one (ps_set (i := 3) sc_l_packed.nd rfl (.inl rfl) (pe_op op_cat (pv 3) (pe_df D_l_packed (hr.mono (by omega)) (by rfl) (pa_cons (pv 4) pa_nil))))))
    (pss_one (ps_ret (pv 3))))))))), ?_⟩
    rw [show start n_l_packed [(v : V)] = ([some (v), none, none, none, none] : List (Option V)) from rfl]
    walk_at "rd"
    have one : ∀ (kd : Nat) (H1 : Hp), Kept H H1 → pk t = [kd] → [V.int (kd : Nat)].length ≤ sizeLine ∧ ∀ p, H1 p = none → Q (.ref p) (upd H1 p (.lst [V.int (kd : Nat)])) := fun kd H1 k1 e => ⟨by show 1 ≤ sizeLine; omega, fun p hp => k p _ (k1.trans (Kept.new hp)) (k1.free _ hp) (by rw [upd_same, e] <;> rfl)⟩
    have catK : ∀ (hd tl : List Nat) (H2 : Hp) (p1 p2 : Addr), Kept H H2 → H2 p1 = some (.lst (natsV hd)) → H2 p2 = some (.lst (natsV tl)) → pk t = hd ++ tl → rCat (.ref p1) (.ref p2) H2 Q := fun hd tl H2 p1 p2 k2 e1 e2 ep => by
      have hl2 := hl
      rw [ep, List.length_append] at hl2
      refine ⟨p1, p2, _, _, rfl, rfl, e1, e2, by rw [natsV_len, natsV_len]; omega, fun p3 hp3 => ?_⟩
      refine k p3 _ (k2.trans (Kept.new hp3)) (k2.free _ hp3) ?_
      rw [upd_same, natsV_app, ep]
    by_cases hn : v = .non
    · refine if_t (decide_eq_true hn) ?_
      have et : t = .n := by
        subst hn
        cases t <;> unfold TrAt at ht <;> first | rfl | (obtain ⟨_, _, e, _⟩ := ht; cases e) | cases ht
      subst et
      walk_at "rd"
      exact one 0 H (Kept.refl _) rfl
    refine if_f (decide_eq_false hn) ?_
    walk_at "rd"
    refine isi_bool (o := some t) ht ?_
    walk_at "rd"
    cases t with
    | n =>
      unfold TrAt at ht
      exact absurd ht hn
    | b x =>
      unfold TrAt at ht
      subst ht
      refine if_t rfl ?_
      walk_at "rd"
      refine ⟨x, rfl, ?_⟩
      cases x
      · refine if_f rfl ?_
        walk_at "rd"
        exact one 1 H (Kept.refl _) rfl
      · refine if_t rfl ?_
        walk_at "rd"
        exact one 2 H (Kept.refl _) rfl
    | i n =>
      refine if_f rfl ?_
      walk_at "rd"
      refine isi_int (o := some (.i n)) ht ?_
      unfold TrAt at ht
      subst ht
      refine ⟨_, rfl, if_t rfl ?_⟩
      walk_at "rd"
      by_cases c0 : 0 ≤ n
      · refine if_t (decide_eq_true (by omega)) ?_
        have ep : pk (.i n) = [3] ++ sizeB n.toNat := by
          unfold pk
          rw [if_pos c0]
          rfl
        rw [ep, List.length_append] at hl
        walk_at "rd"
        refine ⟨by show 1 ≤ sizeLine; omega, fun p1 hp1 => ?_⟩
        have j1 := Kept.new (o := .lst [V.int 3]) hp1
        have e1 : (upd H p1 (.lst [V.int 3])) p1 = some (.lst (natsV [3])) := upd_same
        generalize upd H p1 (.lst [V.int 3]) = H1 at j1 e1 ⊢
        walk_at "rd"
        refine ⟨n.toNat, by rw [Int.toNat_of_nonneg (by omega)], size_lt (by omega), fun p2 H2 k2 f2 e2 => ?_⟩
        exact catK [3] _ H2 p1 p2 (j1.trans k2) (k2.lst e1) e2 ep
      · refine if_f (decide_eq_false (by omega)) ?_
        have ep : pk (.i n) = [4] ++ sizeB (-1 - n).toNat := by
          unfold pk
          rw [if_neg c0]
          rfl
        rw [ep, List.length_append] at hl
        walk_at "rd"
        refine ⟨by show 1 ≤ sizeLine; omega, fun p1 hp1 => ?_⟩
        have j1 := Kept.new (o := .lst [V.int 4]) hp1
        have e1 : (upd H p1 (.lst [V.int 4])) p1 = some (.lst (natsV [4])) := upd_same
        generalize upd H p1 (.lst [V.int 4]) = H1 at j1 e1 ⊢
        walk_at "rd"
        refine ⟨(-1 - n).toNat, by rw [Int.toNat_of_nonneg (by omega)], size_lt (by omega), fun p2 H2 k2 f2 e2 => ?_⟩
        exact catK [4] _ H2 p1 p2 (j1.trans k2) (k2.lst e1) e2 ep
    | s z =>
      refine if_f rfl ?_
      walk_at "rd"
      refine isi_int (o := some (.s z)) ht ?_
      refine ⟨_, rfl, if_f rfl ?_⟩
      walk_at "rd"
      refine isi_str (o := some (.s z)) ht ?_
      refine ⟨_, rfl, if_t rfl ?_⟩
      unfold TrAt at ht
      subst ht
      have ep : pk (.s z) = (5 :: sizeB (tl z).length) ++ tl z := by
        unfold pk
        rfl
      have hzl : z.length = (tl z).length := len_tl z
      have hll := hl
      rw [ep, List.length_append, List.length_cons] at hll
      have hlet : ∀ c ∈ tl z, isLet c = true := by
        unfold OkT at ho
        exact ho
      walk_at "rd"
      refine w_lcS ?_
      refine ⟨_, rfl, z, rfl, ?_⟩
      have hzs : z.cps.size = (tl z).length := (Array.length_toList).symm
      refine LcS.run (fun i => V.int ((z.cps.getD i 0 : Nat) : Int)) (by omega) (fun i H5 kn kv hi k5 h5 => ?_) fun D H5 hD k5 h5 => ?_
      · refine w_yes (if_t rfl ?_)
        walk_at "rd"
        have hc : isLet (z.cps.getD i 0) = true := hlet _ (by
          rw [Array.getD_eq_getD_getElem?, Array.getElem?_eq_getElem hi]
          exact Array.getElem_mem_toList hi)
        refine ⟨_, _, _, _, rfl, rfl, occ_of hc, ?_⟩
        walk_at "rd"
        have := (isLet_iff.mp hc)
        rw [show ((z.cps.getD i 0 - 97 : Nat) : Int) + 97 = ((z.cps.getD i 0 : Nat) : Int) by omega]
        exact h5 H5 (Kept.refl _)
      · rw [codes_map] at h5
        walk_at "rd"
        refine ⟨by show 1 ≤ sizeLine; omega, fun p1 hp1 => ?_⟩
        have j1 := Kept.new (o := .lst [V.int 5]) hp1
        have e1 : (upd H5 p1 (.lst [V.int 5])) p1 = some (.lst (natsV [5])) := upd_same
        have d1 := j1.lst h5
        generalize upd H5 p1 (.lst [V.int 5]) = H6 at j1 e1 d1 ⊢
        walk_at "rd"
        refine ⟨z, rfl, by omega, ?_⟩
        walk_at "rd"
        refine ⟨z.length, rfl, size_lt (by rw [hzl]; omega), fun p2 H7 k7 f7 e7 => ?_⟩
        refine ⟨p1, p2, _, _, rfl, rfl, k7.lst e1, e7, by rw [natsV_len, natsV_len, hzl]; show 1 + _ ≤ _; omega, fun p3 hp3 => ?_⟩
        rw [natsV_app]
        have k8 := Kept.new (o := .lst (natsV ([5] ++ sizeB z.length))) hp3
        have e8 : (upd H7 p3 (.lst (natsV ([5] ++ sizeB z.length)))) p3 = some (.lst (natsV (5 :: sizeB (tl z).length))) := by rw [upd_same, hzl] <;> rfl
        generalize upd H7 p3 (.lst (natsV ([5] ++ sizeB z.length))) = H8 at k8 e8 ⊢
        walk_at "rd"
        exact catK _ _ H8 p3 D (k5.trans (j1.trans (k7.trans k8))) e8 (k8.lst (k7.lst d1)) ep
    | t l =>
      refine if_f rfl ?_
      walk_at "rd"
      refine isi_int (o := some (.t l)) ht ?_
      refine ⟨_, rfl, if_f rfl ?_⟩
      walk_at "rd"
      refine isi_str (o := some (.t l)) ht ?_
      refine ⟨_, rfl, if_f rfl ?_⟩
      unfold TrAt at ht
      obtain ⟨a, xs, rfl, ha, htr⟩ := ht
      have hxl := htr.len
      have ep : pk (.t l) = (6 :: sizeB l.length) ++ pks l := by
        rw [pk]
        rfl
      have hll := hl
      rw [ep, List.length_append, List.length_cons] at hll
      have hpl := pks_len l
      obtain ⟨e, rfl⟩ : ∃ e2, e = e2 + 1 := by
        cases e with
        | zero => unfold OkT at ho; exact ho.elim
        | succ e => exact ⟨e, rfl⟩
      have hos : OkTs e l := by
        unfold OkT at ho
        exact ho
      walk_at "rd"
      refine ⟨by show 1 ≤ sizeLine; omega, fun p1 hp1 => ?_⟩
      have j1 := Kept.new (o := .lst [V.int 6]) hp1
      have e1 : (upd H p1 (.lst [V.int 6])) p1 = some (.lst (natsV [6])) := upd_same
      generalize upd H p1 (.lst [V.int 6]) = H1 at j1 e1 ⊢
      walk_at "rd"
      refine ⟨a, xs, rfl, .inr (SqT.of (j1.tup ha)), ?_⟩
      rw [hxl]
      walk_at "rd"
      refine ⟨l.length, rfl, size_lt (by omega), fun p2 H2 k2 f2 e2 => ?_⟩
      refine ⟨p1, p2, _, _, rfl, rfl, k2.lst e1, e2, by rw [natsV_len, natsV_len]; show 1 + _ ≤ _; omega, fun p3 hp3 => ?_⟩
      rw [natsV_app]
      have k3 := Kept.new (o := .lst (natsV ([6] ++ sizeB l.length))) hp3
      have e3 : (upd H2 p3 (.lst (natsV ([6] ++ sizeB l.length)))) p3 = some (.lst (natsV ((6 :: sizeB l.length) ++ pks (l.take 0)))) := by rw [upd_same, List.take_zero, pks, List.append_nil] <;> rfl
      have f3 : H p3 = none := (j1.trans k2).free _ hp3
      have k03 := j1.trans (k2.trans k3)
      generalize upd H2 p3 (.lst (natsV ([6] ++ sizeB l.length))) = H3 at k3 e3 k03 ⊢
      walk_at "rd"
      refine FrT.mk (xs := xs) (fun i σ' H' => ∃ q v4, σ' = [some (.ref a), none, none, some (.ref q), v4] ∧ Kept H H' ∧ H q = none ∧ H' q = some (.lst (natsV ((6 :: sizeB l.length) ++ pks (l.take i))))) ⟨p3, _, rfl, k03, f3, e3⟩ (fun i σ' H' _ h => by
        obtain ⟨_, _, _, kh, _⟩ := h
        exact SqT.of (kh.tup ha)) (fun i x σ' H' hx h => ?_) fun σ' H' h => ?_
      · obtain ⟨q, v4, rfl, kh, fq, eq⟩ := h
        obtain ⟨t', hti, htx⟩ := trs_nth htr hx
        have htm : t' ∈ l := List.mem_of_getElem? hti
        have hpt := pks_mem htm
        walk_at "rd"
        refine ⟨x, t', e, rfl, htx.kept kh, by omega, OkTs.get hos t' htm, by omega, fun p4 H4 k4 f4 e4 => ?_⟩
        have hpt2 : (pks (l.take i)).length ≤ (pks l).length := by
          have : l = l.take i ++ l.drop i := (List.take_append_drop i l).symm
          have h2 : pks l = pks (l.take i) ++ pks (l.drop i) := by rw [← pks_app, List.take_append_drop]
          rw [h2, List.length_append]
          omega
        refine ⟨q, p4, _, _, rfl, rfl, k4.lst eq, e4, by
          rw [natsV_len, natsV_len, List.length_append, List.length_cons]
          omega, fun p5 hp5 => ?_⟩
        refine ⟨p5, _, rfl, (kh.trans k4).trans (Kept.new hp5), (kh.trans k4).free _ hp5, ?_⟩
        rw [upd_same, natsV_app, List.take_add_one, hti, pks_app]
        show some (HO.lst (natsV ((6 :: sizeB l.length) ++ pks (l.take i) ++ pk t'))) = some (HO.lst (natsV ((6 :: sizeB l.length) ++ (pks (l.take i) ++ pks [t']))))
        rw [pks_one, List.append_assoc]
      · obtain ⟨q, v4, rfl, kh, fq, eq⟩ := h
        walk_at "rd"
        refine k q H' kh fq ?_
        rw [eq, hxl, List.take_length, ep]
theorem ok_lp (F : Fun K "_law_packed" "_law_packed" s_l_packed f fd) (T : Tx K mg uD uN uF uT uC uB uX uU uL aB) (D_l_size : Df P w K mg base 1 "_law_size" ["n"] spLSize)
    (m : mg "_law_packed" = some (.ref f)) (kp : PySem.W.keepIn K (.ref f) = true) (b : Binds K fd ["value"] []) : ∀ d, FnOk P w K mg base CX0 (d + 2) f fd ["value"] (spLP d)
  | 0 => ⟨fun vs H Q E h => by
    obtain ⟨v, t, e, _, _, hn, _⟩ := h
    omega, fun A outer s H args us vs Q E _ _ _ _ h => by
    obtain ⟨v, t, e, _, _, hn, _⟩ := h
    omega⟩
  | d + 1 => ok_lp_step d F T D_l_size ⟨f, fd, ok_lp F T D_l_size m kp b d, m, kp, b⟩
end
end Ky

namespace Ky
open PySem PySem.Spec PyProof.Rows L2
local macro_rules | `(tactic| walk_at "rd") => `(tactic| repeat (first
  | with_reducible refine w_for1 ?_
  | with_reducible refine w_for2 ?_
  | with_reducible refine w_forL ?_
  | with_reducible refine w_forT ?_
  | with_reducible refine w_lc1 ?_
  | with_reducible refine w_lcL ?_
  | with_reducible refine w_lcT ?_
  | with_reducible refine w_dcL ?_
  | with_reducible refine w_dcT ?_
  | with_reducible refine w_seq ?_
  | with_reducible refine w_asg ?_
  | with_reducible refine w_ret ?_
  | with_reducible refine w_drop ?_
  | with_reducible refine w_ifs ?_
  | ((with_reducible refine' w_var ?hh ?_); (case hh => exact rfl))
  | with_reducible refine w_c ?_
  | with_reducible refine w_op ?_
  | with_reducible refine w_un ?_
  | with_reducible refine w_I0 ?_
  | with_reducible refine w_U ?_
  | with_reducible refine w_nil ?_
  | with_reducible refine w_cons ?_
  | with_reducible refine w_call ?_
  | with_reducible refine w_cb ?_
  | with_reducible refine w_test ?_
  | with_reducible refine w_B ?_
  | with_reducible refine w_bl ?_
  | with_reducible refine w_and ?_
  | with_reducible refine w_or ?_
  | with_reducible refine w_not ?_
  | with_reducible refine w_ife ?_
  | with_reducible refine w_gRd ?_
  | with_reducible refine w_andV ?_
  | with_reducible refine w_orV ?_
  | with_reducible refine w_notV ?_
  | with_reducible refine w_chain ?_
  | with_reducible refine w_din ?_
  | with_reducible refine w_isi_ii ?_
  | with_reducible refine w_isi_bi ?_
  | with_reducible refine w_isi_bb ?_
  | with_reducible refine w_isi_bt ?_
  | with_reducible refine w_isi_si ?_
  | with_reducible refine w_isi_nt ?_
  | with_reducible refine w_isi_ib ?_
  | with_reducible refine w_isi_it ?_
  | with_reducible refine w_isi_st ?_
  | ((with_reducible refine w_isi_tt ?h1 ?_); (case h1 => first | assumption | exact upd_same))
  | with_reducible refine if_t rfl ?_
  | with_reducible refine if_f rfl ?_
  | with_reducible refine w_tup ?_
  | with_reducible refine w_lst ?_
  | with_reducible refine w_next ?_
  | with_reducible refine w_bm ?_
  | with_reducible refine w_sl ?_
  | with_reducible refine w_part ?_
  | with_reducible refine w_nop ?_
  | with_reducible refine w_isI ?_
  | with_reducible refine w_yes ?_
  | with_reducible refine w_gn ?_
  | with_reducible refine w_gsub ?_
  | ((with_reducible refine' w_setL ?h1 ?h2 ?_); (case h1 => first | assumption | exact upd_same); (case h2 => exact rfl))
  | with_reducible refine w_asgG ?_
  | with_reducible refine w_m1 ?_
  | with_reducible refine w_isS ?_
  | with_reducible refine w_tyS ?_
  | ((with_reducible refine' w_tyL ?h1 ?_); (case h1 => first | assumption | exact upd_same))
  | ((with_reducible refine' w_ixT ?h1 ?h2 ?_); (case h1 => first | assumption | exact upd_same); (case h2 => exact rfl))
  | ((with_reducible refine' w_ixL ?h1 ?h2 ?_); (case h1 => first | assumption | exact upd_same); (case h2 => exact rfl))
  | ((with_reducible refine w_eq ?h1 ?_); (case h1 => exact rfl))
  | ((with_reducible refine w_ne ?h1 ?_); (case h1 => exact rfl))
  | ((with_reducible refine' w_text ?hT ?h1 ?h2 ?_); (case hT => assumption); (case h1 => exact rfl); (case h2 => first | assumption | exact upd_same))
  | ((with_reducible refine' w_at ?hT ?h1 ?h2 ?_); (case hT => assumption); (case h1 => exact rfl); (case h2 => first | assumption | exact upd_same))
  | ((with_reducible refine' w_token ?hT ?h1 ?h2 ?_); (case hT => assumption); (case h1 => exact rfl); (case h2 => first | assumption | exact upd_same))
  | ((with_reducible refine' w_data ?hT ?h1 ?h2 ?_); (case hT => assumption); (case h1 => exact rfl); (case h2 => first | assumption | exact upd_same))
  | ((with_reducible refine' w_atU ?hT ?h1 ?h2 ?_); (case hT => assumption); (case h1 => exact rfl); (case h2 => first | assumption | exact upd_same))
  | ((with_reducible refine' w_many ?hT ?h1 ?h2 ?_); (case hT => assumption); (case h1 => exact rfl); (case h2 => first | assumption | exact upd_same))
  | ((with_reducible refine' w_parts ?hT ?h1 ?h2 ?_); (case hT => assumption); (case h1 => exact rfl); (case h2 => first | assumption | exact upd_same))
  | ((with_reducible refine' w_pData ?hT ?h2 ?_); (case hT => assumption); (case h2 => first | assumption | exact upd_same))
  | ((with_reducible refine' w_pAt ?hT ?h2 ?_); (case hT => assumption); (case h2 => first | assumption | exact upd_same))
  | ((with_reducible refine' w_pMany ?hT ?h2 ?_); (case hT => assumption); (case h2 => first | assumption | exact upd_same))
  | ((with_reducible refine' w_pParts ?hT ?h2 ?_); (case hT => assumption); (case h2 => first | assumption | exact upd_same))
  | ((with_reducible refine' w_augAt ?hT ?h1 ?h2 ?_); (case hT => assumption); (case h1 => exact rfl); (case h2 => first | assumption | exact upd_same))
  | with_reducible refine w_sfld0 ?_
  | with_reducible refine w_mkx ?_
  | with_reducible refine w_nonR ?_
  | with_reducible refine w_bm0 ?_
  | ((with_reducible refine' w_putAt ?hT ?h2 ?_); (case hT => assumption); (case h2 => first | assumption | exact upd_same))
  | ((with_reducible refine' w_putToken ?hT ?h2 ?_); (case hT => assumption); (case h2 => first | assumption | exact upd_same))
  | dsimp only [List.set_cons_zero, List.set_cons_succ, List.append_nil, List.cons_append, List.nil_append, cxOf]))

open TL
def TldAt (H : Hp) (q : Addr) (n : Nat) : Except Nat Tr → Prop
  | .ok t => ∃ v, TrAt H t v ∧ H q = some (.tup [.bl true, v])
  | .error m => H q = some (.tup [.bl false, .int ((n : Int) - (m : Nat))])
def spTold : Sp := fun vs H Q _ => ∃ (pl : Addr) (bs : List Nat) (o : Except Nat Tr), vs = [.ref pl] ∧ H pl = some (.lst (natsV bs)) ∧ bs.length ≤ 950 ∧ RunU bs [(1, [])] o ∧ ∀ q H', Kept H H' → TldAt H' q bs.length o → Q (.ref q) H'
def rListK (K : PySem.W.Frag) : List V → Hp → VK → Prop := fun xs H Q => ∃ p ys, xs = [.ref p] ∧ (SqL K H p ys ∨ SqT K H p ys) ∧ ∀ l, H l = none → Q (.ref l) (upd H l (.lst ys))
theorem call_listK {X : Cx} {K : PySem.W.Frag} (e : X.K = K) : CallR X (.type "list") (rListK K) := by
  subst e
  exact call_list_of
section
variable {P : Program} {w : World} {K : PySem.W.Frag} {mg : Str → Option Value} {base : Heap} {uD uN uF uT uC uB uX uU uL : Value} {f C C2 Pt aB CE fI : Addr} {fd : FuncData}
theorem ok_l_told (F : Fun K "_law_told" "_law_told" s_l_told f fd) (T : Tx K mg uD uN uF uT uC uB uX uU uL aB) (TX : PySem.Xi.XTxt P K mg "PackError" "at" "place " CE fI) (XF : XfC K CE) (nA : PySem.W.findIn K (.ref CE) "at" = some none)
    (D_unpack : DfX P w K mg base 7 "unpack" ["data"] (spUnpack CE)) : FnOk P w K mg base CX0 8 f fd ["data"] spTold := by
  refine F.ok sc_l_told (fun vs H Q E h => ?_) (fun cdv A outer s H vs Q E hr h => ?_)
  · obtain ⟨pl, bs, o, rfl, _⟩ := h
    rfl
  · obtain ⟨pl, bs, o, rfl, hpl, hn, hR, k⟩ := h
    have hsl : 16000000 ≤ sizeLine := by decide
    refine ⟨_, (pss_one (ps_try_as rfl rfl sc_l_told.nd (i := 1) rfl rfl ⟨rfl, by decide, .inl TX.gC⟩ takes0 (fun W pn xe tk _ => (pss_one (ps_ret (pe_tup (pa_cons pe_bl (pa_cons (pe_dfX D_unpack (hr.mono (by decide)) (fun σ => passAt tk σ) (by rfl) (pa_cons (pe_callTy (T := "list") (call_listK (K := K) rfl) (by rfl) T.z_list (by decide +kernel) (pa_cons (pv 0) pa_nil)) pa_nil)) pa_nil))))))
      (fun a oe cls d pn hz hf => (pss_one (ps_ret (pe_tup (pa_cons pe_bl (pa_cons (pe_xf XF nA hz hf (pv 1)) pa_nil)))))))), ?_⟩
    rw [show start n_l_told [(.ref pl : V)] = ([some (.ref pl), none] : List (Option V)) from rfl]
    show tRet _ _ _ _
    refine w_ret ?_
    refine w_tup ?_
    walk_at "rd"
    refine w_callS ?_
    walk_at "rd"
    refine ⟨pl, _, rfl, .inl (SqL.of hpl), fun p1 hp1 => ?_⟩
    have k1 := Kept.new (o := .lst (natsV bs)) hp1
    have e1 : (upd H p1 (.lst (natsV bs))) p1 = some (.lst (natsV bs)) := upd_same
    generalize upd H p1 (.lst (natsV bs)) = H1 at k1 e1 ⊢
    walk_at "rd"
    refine ⟨p1, bs, o, rfl, e1, hn, hR, fun t e v H2 k2 hv => ?_, fun m e => ?_⟩
    · subst e
      walk_at "rd"
      refine ⟨by show 2 ≤ sizeLine; omega, fun q hq => ?_⟩
      have k3 := Kept.new (o := .tup [.bl true, v]) hq
      exact k q _ (k1.trans (k2.trans k3)) ⟨v, hv.kept k3, upd_same⟩
    · subst e
      intro H2 d k2 hd
      refine ⟨true, TX.te, fun _ a0 h0 => ?_, fun q => by cases q⟩
      show tRet (tTup (tCons (tC (.bl false)) (tCons (tXf a0 (.ref CE) (some d) CE "at" (tVar 1)) tNil))) _ _ _
      refine w_ret ?_
      walk_at "rd"
      refine ⟨_, rfl, rfl, rfl, d, _, V.int ((bs.length : Int) - (m : Nat)), rfl, upd_same, by simp [List.lookup], ?_⟩
      walk_at "rd"
      refine ⟨by show 2 ≤ sizeLine; omega, fun q hq => ?_⟩
      have k3 := Kept.new (o := .tup [.bl false, .int ((bs.length : Int) - (m : Nat))]) hq
      exact k q _ (k1.trans (k2.trans ((Kept.new hd).trans k3))) upd_same
end
end Ky

namespace Ky
open PySem PySem.Spec PyProof.Rows L2
local macro_rules | `(tactic| walk_at "rd") => `(tactic| repeat (first
  | with_reducible refine w_for1 ?_
  | with_reducible refine w_for2 ?_
  | with_reducible refine w_forL ?_
  | with_reducible refine w_forT ?_
  | with_reducible refine w_lc1 ?_
  | with_reducible refine w_lcL ?_
  | with_reducible refine w_lcT ?_
  | with_reducible refine w_dcL ?_
  | with_reducible refine w_dcT ?_
  | with_reducible refine w_seq ?_
  | with_reducible refine w_asg ?_
  | with_reducible refine w_ret ?_
  | with_reducible refine w_drop ?_
  | with_reducible refine w_ifs ?_
  | ((with_reducible refine' w_var ?hh ?_); (case hh => exact rfl))
  | with_reducible refine w_c ?_
  | with_reducible refine w_op ?_
  | with_reducible refine w_un ?_
  | with_reducible refine w_I0 ?_
  | with_reducible refine w_U ?_
  | with_reducible refine w_nil ?_
  | with_reducible refine w_cons ?_
  | with_reducible refine w_call ?_
  | with_reducible refine w_cb ?_
  | with_reducible refine w_test ?_
  | with_reducible refine w_B ?_
  | with_reducible refine w_bl ?_
  | with_reducible refine w_and ?_
  | with_reducible refine w_or ?_
  | with_reducible refine w_not ?_
  | with_reducible refine w_ife ?_
  | with_reducible refine w_gRd ?_
  | with_reducible refine w_andV ?_
  | with_reducible refine w_orV ?_
  | with_reducible refine w_notV ?_
  | with_reducible refine w_chain ?_
  | with_reducible refine w_din ?_
  | with_reducible refine w_isi_ii ?_
  | with_reducible refine w_isi_bi ?_
  | with_reducible refine w_isi_bb ?_
  | with_reducible refine w_isi_bt ?_
  | with_reducible refine w_isi_si ?_
  | with_reducible refine w_isi_nt ?_
  | with_reducible refine w_isi_ib ?_
  | with_reducible refine w_isi_it ?_
  | with_reducible refine w_isi_st ?_
  | ((with_reducible refine w_isi_tt ?h1 ?_); (case h1 => first | assumption | exact upd_same))
  | with_reducible refine if_t rfl ?_
  | with_reducible refine if_f rfl ?_
  | with_reducible refine w_tup ?_
  | with_reducible refine w_lst ?_
  | with_reducible refine w_next ?_
  | with_reducible refine w_bm ?_
  | with_reducible refine w_sl ?_
  | with_reducible refine w_part ?_
  | with_reducible refine w_nop ?_
  | with_reducible refine w_isI ?_
  | with_reducible refine w_yes ?_
  | with_reducible refine w_gn ?_
  | with_reducible refine w_gsub ?_
  | ((with_reducible refine' w_setL ?h1 ?h2 ?_); (case h1 => first | assumption | exact upd_same); (case h2 => exact rfl))
  | with_reducible refine w_asgG ?_
  | with_reducible refine w_m1 ?_
  | with_reducible refine w_isS ?_
  | with_reducible refine w_tyS ?_
  | ((with_reducible refine' w_tyL ?h1 ?_); (case h1 => first | assumption | exact upd_same))
  | ((with_reducible refine' w_ixT ?h1 ?h2 ?_); (case h1 => first | assumption | exact upd_same); (case h2 => exact rfl))
  | ((with_reducible refine' w_ixL ?h1 ?h2 ?_); (case h1 => first | assumption | exact upd_same); (case h2 => exact rfl))
  | ((with_reducible refine w_eq ?h1 ?_); (case h1 => exact rfl))
  | ((with_reducible refine w_ne ?h1 ?_); (case h1 => exact rfl))
  | ((with_reducible refine' w_text ?hT ?h1 ?h2 ?_); (case hT => assumption); (case h1 => exact rfl); (case h2 => first | assumption | exact upd_same))
  | ((with_reducible refine' w_at ?hT ?h1 ?h2 ?_); (case hT => assumption); (case h1 => exact rfl); (case h2 => first | assumption | exact upd_same))
  | ((with_reducible refine' w_token ?hT ?h1 ?h2 ?_); (case hT => assumption); (case h1 => exact rfl); (case h2 => first | assumption | exact upd_same))
  | ((with_reducible refine' w_data ?hT ?h1 ?h2 ?_); (case hT => assumption); (case h1 => exact rfl); (case h2 => first | assumption | exact upd_same))
  | ((with_reducible refine' w_atU ?hT ?h1 ?h2 ?_); (case hT => assumption); (case h1 => exact rfl); (case h2 => first | assumption | exact upd_same))
  | ((with_reducible refine' w_many ?hT ?h1 ?h2 ?_); (case hT => assumption); (case h1 => exact rfl); (case h2 => first | assumption | exact upd_same))
  | ((with_reducible refine' w_parts ?hT ?h1 ?h2 ?_); (case hT => assumption); (case h1 => exact rfl); (case h2 => first | assumption | exact upd_same))
  | ((with_reducible refine' w_pData ?hT ?h2 ?_); (case hT => assumption); (case h2 => first | assumption | exact upd_same))
  | ((with_reducible refine' w_pAt ?hT ?h2 ?_); (case hT => assumption); (case h2 => first | assumption | exact upd_same))
  | ((with_reducible refine' w_pMany ?hT ?h2 ?_); (case hT => assumption); (case h2 => first | assumption | exact upd_same))
  | ((with_reducible refine' w_pParts ?hT ?h2 ?_); (case hT => assumption); (case h2 => first | assumption | exact upd_same))
  | ((with_reducible refine' w_augAt ?hT ?h1 ?h2 ?_); (case hT => assumption); (case h1 => exact rfl); (case h2 => first | assumption | exact upd_same))
  | with_reducible refine w_sfld0 ?_
  | with_reducible refine w_mkx ?_
  | with_reducible refine w_nonR ?_
  | with_reducible refine w_bm0 ?_
  | ((with_reducible refine' w_putAt ?hT ?h2 ?_); (case hT => assumption); (case h2 => first | assumption | exact upd_same))
  | ((with_reducible refine' w_putToken ?hT ?h2 ?_); (case hT => assumption); (case h2 => first | assumption | exact upd_same))
  | dsimp only [List.set_cons_zero, List.set_cons_succ, List.append_nil, List.cons_append, List.nil_append, cxOf]))

open TL
theorem GoodV.ok {d : Nat} {t : Tr} (h : GoodV d t) : ∀ e, d ≤ e → OkT e t := by
  induction h with
  | n => intro e _; unfold OkT; trivial
  | b => intro e _; unfold OkT; trivial
  | i _ => intro e _; unfold OkT; trivial
  | s h1 _ => intro e _; unfold OkT; exact h1
  | t h1 _ ih =>
    intro e he
    cases e with
    | zero => omega
    | succ e =>
      unfold OkT
      exact OkTs.mem fun a ha => ih a ha e (by omega)
def Lz : Nat → Nat
  | 0 => 12
  | d + 1 => 2 + 4 * Lz d
theorem Lz_ge (d : Nat) : 12 ≤ Lz d := by
  induction d with
  | zero => exact Nat.le_refl _
  | succ d ih => unfold Lz; omega
theorem pks_bd {b : Nat} : ∀ {l : List Tr}, (∀ a ∈ l, (pk a).length ≤ b) → (pks l).length ≤ l.length * b
  | [], _ => by rw [pks]; simp
  | a :: l, h => by
    have h1 := h a List.mem_cons_self
    have h2 := pks_bd fun c hc => h c (List.mem_cons_of_mem _ hc)
    rw [pks, List.length_append, List.length_cons, Nat.succ_mul]
    omega
theorem size_70 {n : Nat} (h : n ≤ 2 ^ 70) : (sizeB n).length ≤ 11 := by
  have b : (2 : Nat) ^ 70 = 1180591620717411303424 := by decide
  rw [b] at h
  have s1 : ∀ (n k : Nat), (n / 128 < k → (sizeB (n / 128)).length ≤ k) → True := fun _ _ _ => trivial
  have st : ∀ (k n : Nat), n < 128 ^ k → 1 ≤ k → (sizeB n).length ≤ k := fun k => by
    induction k with
    | zero => intro n _ h; omega
    | succ k ih =>
      intro n hn _
      by_cases c : n < 128
      · rw [sizeB_small c]
        simp
      · rw [sizeB_big c, List.length_cons]
        have hk : 1 ≤ k := by
          cases k with
          | zero => simp at hn; omega
          | succ k => omega
        have := ih (n / 128) (by rw [Nat.pow_succ] at hn; omega) hk
        omega
  exact st 11 n (by
    have : (128 : Nat) ^ 11 = 151115727451828646838272 := by decide
    omega) (by decide)
theorem GoodV.len {d : Nat} {t : Tr} (h : GoodV d t) : (pk t).length ≤ Lz d := by
  induction h with
  | n => unfold pk; have := Lz_ge ‹Nat›; simp; omega
  | b => unfold pk; have := Lz_ge ‹Nat›; simp; omega
  | i h =>
    rename_i d k
    have := Lz_ge d
    unfold pk
    split
    · rw [List.length_cons]
      have := size_70 (n := k.toNat) (by omega)
      omega
    · rw [List.length_cons]
      have := size_70 (n := (-1 - k).toNat) (by omega)
      omega
  | s h1 h2 =>
    rename_i d z
    have := Lz_ge d
    unfold pk
    rw [List.length_cons, List.length_append, sizeB_small (by omega), List.length_singleton]
    omega
  | t h1 h2 ih =>
    rename_i d l
    have h3 := pks_bd ih
    unfold pk Lz
    rw [List.length_cons, List.length_append, sizeB_small (by omega)]
    have h4 : l.length * Lz d ≤ 4 * Lz d := Nat.mul_le_mul_right _ h1
    simp
    omega
/-! ### packing -/
def Nz : Nat → Nat
  | 0 => 1
  | d + 1 => 1 + 4 * Nz d
theorem Nz_ge (d : Nat) : 1 ≤ Nz d := by
  cases d <;> unfold Nz <;> omega
theorem runP_leaf {H : Hp} {v : V} {t : Tr} {dd n : Nat} {st : List (V × Nat)} {r : Option (List Nat)} (ht : TrAt H t v) (hk : kTup (some t) = false) (hs : SmT (some t)) (hb : lfO (some t) = some (pk t)) (h : RunP H n st r) : RunP H (n + 1) ((v, dd) :: st) (r.map (pk t ++ ·)) :=
  .leaf (o := some t) ht hk hs hb h
theorem runP_list {H : Hp} {b dd : Nat} : ∀ {l : List Tr} {xs : List V} (_ : TrsAt H l xs) (_ : ∀ a ∈ l, ∀ (v : V) (n : Nat) (st : List (V × Nat)) (r : Option (List Nat)), TrAt H a v → st.length + b ≤ 1000 → RunP H n st r → ∃ m, m ≤ n + b ∧ RunP H m ((v, dd) :: st) (r.map (pk a ++ ·))) {n : Nat} {st : List (V × Nat)} {r : Option (List Nat)} (_ : st.length + l.length + b ≤ 1000) (_ : RunP H n st r), ∃ m, m ≤ n + l.length * b ∧ RunP H m (xs.map (fun x => (x, dd)) ++ st) (r.map (pks l ++ ·))
  | [], xs, h, _, n, st, r, _, hr => by
    unfold TrsAt at h
    subst h
    refine ⟨n, by omega, ?_⟩
    rw [show r.map (pks [] ++ ·) = r by rw [pks]; cases r <;> simp]
    exact hr
  | a :: l, xs, h, ih, n, st, r, hl, hr => by
    unfold TrsAt at h
    obtain ⟨x, ys, rfl, h1, h2⟩ := h
    rw [List.length_cons] at hl
    obtain ⟨m, hm, hR⟩ := runP_list h2 (fun c hc => ih c (List.mem_cons_of_mem _ hc)) (by omega) hr
    have hyl := h2.len
    obtain ⟨m2, hm2, hR2⟩ := ih a List.mem_cons_self x m _ _ h1 (by rw [List.length_append, List.length_map, hyl]; omega) hR
    refine ⟨m2, by rw [List.length_cons, Nat.succ_mul]; omega, ?_⟩
    rw [show r.map (pks (a :: l) ++ ·) = (r.map (pks l ++ ·)).map (pk a ++ ·) by rw [pks]; cases r <;> simp]
    exact hR2
theorem GoodV.runP {H : Hp} {d : Nat} {t : Tr} (h : GoodV d t) : ∀ (e : Nat) (v : V) (n : Nat) (st : List (V × Nat)) (r : Option (List Nat)), e + d ≤ 60 → TrAt H t v → st.length + Nz d ≤ 1000 → RunP H n st r → ∃ m, m ≤ n + Nz d ∧ RunP H m ((v, e) :: st) (r.map (pk t ++ ·)) := by
  induction h with
  | n => rename_i d; intro e v n st r _ ht _ hr; exact ⟨n + 1, by have := Nz_ge d; omega, runP_leaf ht rfl trivial rfl hr⟩
  | b => rename_i d x; intro e v n st r _ ht _ hr; exact ⟨n + 1, by have := Nz_ge d; omega, runP_leaf ht rfl trivial rfl hr⟩
  | i h =>
    rename_i d k
    intro e v n st r _ ht _ hr
    exact ⟨n + 1, by have := Nz_ge d; omega, runP_leaf ht rfl (Nat.lt_of_le_of_lt h (Nat.pow_lt_pow_right (by decide) (by decide))) (by unfold pk; rfl) hr⟩
  | s h1 h2 =>
    rename_i d z
    intro e v n st r _ ht _ hr
    exact ⟨n + 1, by have := Nz_ge d; omega, runP_leaf ht rfl (by show (tl z).length ≤ 1000; omega) (by
      show (if (tl z).all isLet = true then some (5 :: (sizeB (tl z).length ++ tl z)) else none) = _
      rw [if_pos (List.all_eq_true.mpr h1), pk]) hr⟩
  | t h1 h2 ih =>
    rename_i d l
    intro e v n st r he ht hst hr
    unfold TrAt at ht
    obtain ⟨a, xs, rfl, ha, htr⟩ := ht
    have hxl := htr.len
    have hN := Nz_ge d
    unfold Nz at hst ⊢
    have h4 : l.length * Nz d ≤ 4 * Nz d := Nat.mul_le_mul_right _ h1
    obtain ⟨m, hm, hR⟩ := runP_list (dd := e + 1) (b := Nz d) htr (fun c hc v n st r hv hs hr => ih c hc (e + 1) v n st r (by omega) hv hs hr) (by omega) hr
    refine ⟨m + 1, by omega, ?_⟩
    have := RunP.tup ha (by omega) (by omega) hR
    rw [show r.map (pk (.t l) ++ ·) = (r.map (pks l ++ ·)).map ((6 :: sizeB xs.length) ++ ·) by rw [pk, hxl]; cases r <;> simp]
    exact this
theorem GoodV.packs {H : Hp} {t : Tr} {v : V} (h : GoodV 3 t) (ht : TrAt H t v) : ∃ n, n ≤ 1000 ∧ RunP H n [(v, 0)] (some (pk t)) := by
  obtain ⟨m, hm, hR⟩ := h.runP 0 v 0 [] (some []) (by decide) ht (by decide) .nil
  refine ⟨m, Nat.le_trans hm (by decide), ?_⟩
  rw [show (some ([] : List Nat)).map (pk t ++ ·) = some (pk t) by simp] at hR
  exact hR
/-! ### showing -/
def Sz : Nat → Nat
  | 0 => 2000
  | d + 1 => 10 + 4 * (Sz d + 2)
theorem Sz_ge (d : Nat) : 2000 ≤ Sz d := by
  induction d with
  | zero => exact Nat.le_refl _
  | succ d ih => unfold Sz; omega
theorem piled_bd {b : Nat} : ∀ {l : List Tr}, (∀ a ∈ l, (trD a).shown.length ≤ b) → piled (PyData.shownAll (trsD l)) ≤ l.length * (b + 2)
  | [], _ => by unfold trsD PyData.shownAll; simp [piled]
  | a :: l, h => by
    have h1 := h a List.mem_cons_self
    have h2 := piled_bd fun c hc => h c (List.mem_cons_of_mem _ hc)
    unfold trsD PyData.shownAll
    rw [piled_cons, List.length_cons, Nat.succ_mul]
    omega
theorem tuple_bd (ts : List Str) : (tupleText ts).length ≤ piled ts + 3 := by
  unfold tupleText
  rw [strLen_append, strLen_append]
  have e1 : ((("(" : String) : Str)).length = 1 := rfl
  have e3 : (((if ts.length == 1 then ",)" else ")" : String) : Str)).length ≤ 2 := by split <;> decide
  rw [e1]
  cases ts with
  | nil =>
    show 1 + 0 + _ ≤ _
    omega
  | cons t r =>
    have := join_length_add (t :: r) (by simp)
    omega
theorem GoodV.shown {d : Nat} {t : Tr} (h : GoodV d t) : (trD t).showable = true ∧ (trD t).hasDict = false ∧ (trD t).depth ≤ d ∧ (trD t).shown.length ≤ Sz d := by
  induction h with
  | n =>
    rename_i d
    have := Sz_ge d
    unfold trD
    refine ⟨rfl, rfl, Nat.zero_le _, Nat.le_trans (?_ : _ ≤ 10) (by omega)⟩
    decide
  | b =>
    rename_i d x
    have := Sz_ge d
    unfold trD
    refine ⟨rfl, rfl, Nat.zero_le _, Nat.le_trans (?_ : _ ≤ 10) (by omega)⟩
    cases x <;> decide
  | i h =>
    rename_i d k
    have := Sz_ge d
    unfold trD
    have hk : k.natAbs.log2 < 1920 := PySem.Flt.log2_lt_of (by decide) (Nat.lt_of_le_of_lt h (Nat.pow_lt_pow_right (by decide) (by decide)))
    refine ⟨decide_eq_true hk, rfl, Nat.zero_le _, Nat.le_trans (int_text_len_1921 hk) (by omega)⟩
  | s h1 h2 =>
    rename_i d z
    have := Sz_ge d
    unfold trD
    refine ⟨rfl, rfl, Nat.zero_le _, ?_⟩
    have q := PySem.StrLaws.reprText_len z (fun c hc => by
      have := (isLet_iff.mp (h1 c hc)).2
      have : (16 : Nat) ^ 8 = 4294967296 := by decide
      omega)
    have : z.length = (tl z).length := len_tl z
    show (reprText z).length ≤ _
    omega
  | t h1 h2 ih =>
    rename_i d l
    have hp := piled_bd (b := Sz d) fun a ha => (ih a ha).2.2.2
    have h4 : l.length * (Sz d + 2) ≤ 4 * (Sz d + 2) := Nat.mul_le_mul_right _ h1
    have ht := tuple_bd (PyData.shownAll (trsD l))
    have hs : ∀ l : List Tr, (∀ a ∈ l, (trD a).showable = true ∧ (trD a).hasDict = false ∧ (trD a).depth ≤ d ∧ (trD a).shown.length ≤ Sz d) → PyData.showableAll (trsD l) = true ∧ PyData.hasDictAll (trsD l) = false ∧ PyData.depthAll (trsD l) ≤ d := fun l => by
      induction l with
      | nil => intro _; exact ⟨rfl, rfl, Nat.zero_le _⟩
      | cons a l ihl =>
        intro h
        have q := h a List.mem_cons_self
        have r := ihl fun c hc => h c (List.mem_cons_of_mem _ hc)
        unfold trsD
        refine ⟨?_, ?_, ?_⟩
        · show ((trD a).showable && PyData.showableAll (trsD l)) = true
          rw [q.1, r.1] <;> rfl
        · show ((trD a).hasDict || PyData.hasDictAll (trsD l)) = false
          rw [q.2.1, r.2.1] <;> rfl
        · show max _ _ ≤ d
          exact Nat.max_le.mpr ⟨q.2.2.1, r.2.2⟩
    have q := hs l ih
    unfold trD
    refine ⟨q.1, q.2.1, by show _ + 1 ≤ _; have := q.2.2; omega, ?_⟩
    show (tupleText (PyData.shownAll (trsD l))).length ≤ Sz (d + 1)
    unfold Sz
    omega
end Ky

namespace Ky
open PySem PySem.Spec PyProof.Rows L2
local macro_rules | `(tactic| walk_at "rd") => `(tactic| repeat (first
  | with_reducible refine w_for1 ?_
  | with_reducible refine w_for2 ?_
  | with_reducible refine w_forL ?_
  | with_reducible refine w_forT ?_
  | with_reducible refine w_lc1 ?_
  | with_reducible refine w_lcL ?_
  | with_reducible refine w_lcT ?_
  | with_reducible refine w_dcL ?_
  | with_reducible refine w_dcT ?_
  | with_reducible refine w_seq ?_
  | with_reducible refine w_asg ?_
  | with_reducible refine w_ret ?_
  | with_reducible refine w_drop ?_
  | with_reducible refine w_ifs ?_
  | ((with_reducible refine' w_var ?hh ?_); (case hh => exact rfl))
  | with_reducible refine w_c ?_
  | with_reducible refine w_op ?_
  | with_reducible refine w_un ?_
  | with_reducible refine w_I0 ?_
  | with_reducible refine w_U ?_
  | with_reducible refine w_nil ?_
  | with_reducible refine w_cons ?_
  | with_reducible refine w_call ?_
  | with_reducible refine w_cb ?_
  | with_reducible refine w_test ?_
  | with_reducible refine w_B ?_
  | with_reducible refine w_bl ?_
  | with_reducible refine w_and ?_
  | with_reducible refine w_or ?_
  | with_reducible refine w_not ?_
  | with_reducible refine w_ife ?_
  | with_reducible refine w_gRd ?_
  | with_reducible refine w_andV ?_
  | with_reducible refine w_orV ?_
  | with_reducible refine w_notV ?_
  | with_reducible refine w_chain ?_
  | with_reducible refine w_din ?_
  | with_reducible refine w_isi_ii ?_
  | with_reducible refine w_isi_bi ?_
  | with_reducible refine w_isi_bb ?_
  | with_reducible refine w_isi_bt ?_
  | with_reducible refine w_isi_si ?_
  | with_reducible refine w_isi_nt ?_
  | with_reducible refine w_isi_ib ?_
  | with_reducible refine w_isi_it ?_
  | with_reducible refine w_isi_st ?_
  | ((with_reducible refine w_isi_tt ?h1 ?_); (case h1 => first | assumption | exact upd_same))
  | with_reducible refine if_t rfl ?_
  | with_reducible refine if_f rfl ?_
  | with_reducible refine w_tup ?_
  | with_reducible refine w_lst ?_
  | with_reducible refine w_next ?_
  | with_reducible refine w_bm ?_
  | with_reducible refine w_sl ?_
  | with_reducible refine w_part ?_
  | with_reducible refine w_nop ?_
  | with_reducible refine w_isI ?_
  | with_reducible refine w_yes ?_
  | with_reducible refine w_gn ?_
  | with_reducible refine w_gsub ?_
  | ((with_reducible refine' w_setL ?h1 ?h2 ?_); (case h1 => first | assumption | exact upd_same); (case h2 => exact rfl))
  | with_reducible refine w_asgG ?_
  | with_reducible refine w_m1 ?_
  | with_reducible refine w_isS ?_
  | with_reducible refine w_tyS ?_
  | ((with_reducible refine' w_tyL ?h1 ?_); (case h1 => first | assumption | exact upd_same))
  | ((with_reducible refine' w_ixT ?h1 ?h2 ?_); (case h1 => first | assumption | exact upd_same); (case h2 => exact rfl))
  | ((with_reducible refine' w_ixL ?h1 ?h2 ?_); (case h1 => first | assumption | exact upd_same); (case h2 => exact rfl))
  | ((with_reducible refine w_eq ?h1 ?_); (case h1 => exact rfl))
  | ((with_reducible refine w_ne ?h1 ?_); (case h1 => exact rfl))
  | ((with_reducible refine' w_text ?hT ?h1 ?h2 ?_); (case hT => assumption); (case h1 => exact rfl); (case h2 => first | assumption | exact upd_same))
  | ((with_reducible refine' w_at ?hT ?h1 ?h2 ?_); (case hT => assumption); (case h1 => exact rfl); (case h2 => first | assumption | exact upd_same))
  | ((with_reducible refine' w_token ?hT ?h1 ?h2 ?_); (case hT => assumption); (case h1 => exact rfl); (case h2 => first | assumption | exact upd_same))
  | ((with_reducible refine' w_data ?hT ?h1 ?h2 ?_); (case hT => assumption); (case h1 => exact rfl); (case h2 => first | assumption | exact upd_same))
  | ((with_reducible refine' w_atU ?hT ?h1 ?h2 ?_); (case hT => assumption); (case h1 => exact rfl); (case h2 => first | assumption | exact upd_same))
  | ((with_reducible refine' w_many ?hT ?h1 ?h2 ?_); (case hT => assumption); (case h1 => exact rfl); (case h2 => first | assumption | exact upd_same))
  | ((with_reducible refine' w_parts ?hT ?h1 ?h2 ?_); (case hT => assumption); (case h1 => exact rfl); (case h2 => first | assumption | exact upd_same))
  | ((with_reducible refine' w_pData ?hT ?h2 ?_); (case hT => assumption); (case h2 => first | assumption | exact upd_same))
  | ((with_reducible refine' w_pAt ?hT ?h2 ?_); (case hT => assumption); (case h2 => first | assumption | exact upd_same))
  | ((with_reducible refine' w_pMany ?hT ?h2 ?_); (case hT => assumption); (case h2 => first | assumption | exact upd_same))
  | ((with_reducible refine' w_pParts ?hT ?h2 ?_); (case hT => assumption); (case h2 => first | assumption | exact upd_same))
  | ((with_reducible refine' w_augAt ?hT ?h1 ?h2 ?_); (case hT => assumption); (case h1 => exact rfl); (case h2 => first | assumption | exact upd_same))
  | with_reducible refine w_sfld0 ?_
  | with_reducible refine w_mkx ?_
  | with_reducible refine w_nonR ?_
  | with_reducible refine w_bm0 ?_
  | ((with_reducible refine' w_putAt ?hT ?h2 ?_); (case hT => assumption); (case h2 => first | assumption | exact upd_same))
  | ((with_reducible refine' w_putToken ?hT ?h2 ?_); (case hT => assumption); (case h2 => first | assumption | exact upd_same))
  | dsimp only [List.set_cons_zero, List.set_cons_succ, List.append_nil, List.cons_append, List.nil_append, cxOf]))

open TL
theorem seq_via {A B : TS} {D : Ends} {σ : L2.St} {H : Hp} (Pv : L2.St → Hp → Prop) (hB : ∀ σ H, Pv σ H → B D σ H) (hA : ∀ N : L2.St → Hp → Prop, (∀ σ H, Pv σ H → N σ H) → A { D with nx := N } σ H) : tSeq A B D σ H := hA _ hB
theorem ne_same {K : PySem.W.Frag} {H : Hp} {x y : V} {d : PyData} {Q : VK} (h1 : Dp K H x d) (h2 : Dp K H y d) (hs : SeqAt.shaped d = true) (q : Q (.bl false) H) : rNeD K x y H Q :=
  ⟨d, d, h1, h2, hs, hs, by rw [PySem.SeqAt.eqv_refl d (SeqAt.canLay_of_shaped hs)]; exact q⟩
def natsD (l : List Nat) : PyData := .list ((l.map fun n => ((n : Nat) : Int)).map PyData.int)
theorem nats_ints (l : List Nat) : natsV l = (l.map fun n => ((n : Nat) : Int)).map V.int := by
  unfold natsV
  rw [List.map_map]
  rfl
theorem dp_nats {K : PySem.W.Frag} {H : Hp} {b : Addr} {l : List Nat} (h : H b = some (.lst (natsV l))) : Dp K H (.ref b) (natsD l) := dl_ints (by rw [← nats_ints]; exact h)
theorem sh_nats (l : List Nat) : SeqAt.shaped (natsD l) = true := shLi _
theorem ix_nat {n a : Nat} (h : a < n) : ixN n (a : Int) = some a := by
  unfold ixN
  rw [if_pos (by omega), if_pos (by omega), Int.toNat_natCast]
theorem natsV_set (l : List Nat) (a x : Nat) : (natsV l).set a (.int (x : Nat)) = natsV (l.set a x) := by
  unfold natsV
  rw [List.map_set]
theorem natsV_take (l : List Nat) (a : Nat) : (natsV l).take a = natsV (l.take a) := by
  unfold natsV
  rw [List.map_take]
def Bent (l : List Nat) (a q : Nat) (bb : List Nat) (o : Except Nat Tr) : Prop := RunU bb [(1, [])] o ∧ bb.length ≤ 950 ∧ (∀ m, o = .error m → m ≤ bb.length) ∧ (∀ t, o = .ok t → bb = pk t ∧ OkT 60 t) ∧ (q = 2 → o = .error 0 ∧ bb.length = a) ∧ (2 < q → o = .error 1 ∧ bb.length = l.length + 1)
theorem badS {H : Hp} {s : String} {dd : Nat} {st : List (V × Nat)} (h : (s.toList.map Char.toNat).all isLet = false) (hl : (s.toList.map Char.toNat).length ≤ 1000) : RunP H 1 ((.str (Str.ofString s), dd) :: st) none :=
  .bad (n := 0) (o := some (.s (Str.ofString s))) (by unfold TrX; dsimp only; unfold TrAt; rfl) rfl (by show (tl (Str.ofString s)).length ≤ 1000; rw [tl_ofString]; exact hl) (by
    show (if (tl (Str.ofString s)).all isLet = true then _ else none) = none
    rw [tl_ofString, h]
    rfl)
theorem badL {H : Hp} {a : Addr} {dd : Nat} {st : List (V × Nat)} (h : (∃ xs, H a = some (.lst xs)) ∨ ∃ kvs, H a = some (.dK kvs)) : RunP H 1 ((.ref a, dd) :: st) none :=
  .bad (n := 0) (o := none) ⟨a, rfl, h⟩ rfl trivial rfl
theorem bad2 {H : Hp} {a b : Addr} {x : V} {o : Tr} (ha : H a = some (.tup [x, .ref b])) (hx : TrAt H o x) (hk : kTup (some o) = false) (hs : SmT (some o)) {bs : List Nat} (hb : lfO (some o) = some bs) (h : (∃ xs, H b = some (.lst xs)) ∨ ∃ kvs, H b = some (.dK kvs)) : RunP H 3 [(.ref a, 0)] none :=
  .tup (r := none) ha (by decide) (by show 2 + 0 ≤ 1000; omega) (.leaf (r := none) (o := some o) hx hk hs hb (badL h))
def spLaw (K : PySem.W.Frag) (Pt : Addr) : Sp := fun vs H Q _ => ∃ (sa : Addr) (ns : List Int), vs = [.ref sa] ∧ SqL K H sa (ns.map V.int) ∧ ns.length ≤ 63 ∧ GxR.TabG H Pt ∧ ∀ H', Q (.bl true) H'
section
variable {P : Program} {w : World} {K : PySem.W.Frag} {mg : Str → Option Value} {base : Heap} {uD uN uF uT uC uB uX uU uL : Value} {f C C2 Pt aB CE fI : Addr} {fd : FuncData}
theorem ok_law (F : Fun K "law" "law" s_law f fd) (T : Tx K mg uD uN uF uT uC uB uX uU uL aB) (TX : PySem.Xi.XTxt P K mg "PackError" "at" "place " CE fI) (XF : XfC K CE) (nA : PySem.W.findIn K (.ref CE) "at" = some none)
    (D_l_draw : Df P w K mg base 1 "_law_draw" ["script"] (spDrawC K)) (D_l_take : Df P w K mg base 1 "_law_take" ["draw", "many"] spTakeC) (D_l_value : Df P w K mg base 6 "_law_value" ["draw", "depth"] (spLV 4)) (D_l_packed : Df P w K mg base 63 "_law_packed" ["value"] (spLP 61))
    (D_pack : DfX P w K mg base 5 "pack" ["value"] (spPack Pt CE)) (D_unpack : DfX P w K mg base 7 "unpack" ["data"] (spUnpack CE)) (D_l_told : Df P w K mg base 8 "_law_told" ["data"] spTold) :
    FnG P w K mg base 64 f fd ["script"] (spLaw K Pt) := by
  refine okG F sc_law (fun vs H Q E h => ?_) (fun cdv A outer s H vs Q E hG hr h => ?_)
  · obtain ⟨a, ns, rfl, _⟩ := h
    rfl
  · obtain ⟨sa, ns, rfl, hS, hlen, hT, k⟩ := h
    have hsl : 16000000 ≤ sizeLine := by decide
    refine ⟨_, (pss_cons (ps_set (i := 1) sc_law.nd rfl (.inl rfl) (pe_df D_l_draw (hr.mono (by decide)) (by rfl) (pa_cons (pv 0) pa_nil)))
    (pss_cons (ps_set (i := 2) sc_law.nd rfl (.inl rfl) (pe_df D_l_value (hr.mono (by decide)) (by rfl) (pa_cons (pv 1) (pa_cons pe_int pa_nil))))
    (pss_cons (ps_set (i := 3) sc_law.nd rfl (.inl rfl) (pe_dfP D_pack (hr.mono (by decide)) passL (by rfl) (pa_cons (pv 2) pa_nil)))
    (pss_cons (ps_if (PW.pt (pw_or (pt_not (pt_val (pe_callB (call_isiK (K := K) rfl) (by rfl) T.z_isinstance (by decide +kernel) (pa_cons (pv 3) (pa_cons (pe_bltn (by rfl) T.z_list (by decide +kernel) (show RelV (.ty "list") _ from rfl)) pa_nil))))) (pw_or (pt_cmpR (opK (K := K) (r := rNeD) rfl (op_neD hr.units)) (pv 3) (pe_df D_l_packed (hr.mono (by decide)) (by rfl) (pa_cons (pv 2) pa_nil)) (nomark _)) (pw_or1 (pt_cmpR op_ne (pe_callB (cr_repr hG hr.units) (by rfl) T.z_repr (by decide +kernel) (pa_cons (pe_dfP D_unpack (hr.mono (by decide)) passL (by rfl) (pa_cons (pe_callTy call_list_of (by rfl) T.z_list (by decide +kernel) (pa_cons (pv 3) pa_nil)) pa_nil)) pa_nil)) (pe_callB (cr_repr hG hr.units) (by rfl) T.z_repr (by decide +kernel) (pa_cons (pv 2) pa_nil)) (nomark _))))))
      (pss_one (ps_ret pe_bl))
      pss_nil)
    (pss_cons (ps_for PassesOwn.never rfl (pi_range1 (by rfl) T.z_range (pa_cons pe_int pa_nil)) (pg_name (i := 4) sc_law.nd rfl (.inl rfl))
      (pss_cons (ps_set (i := 5) sc_law.nd rfl (.inl rfl) (pe_df D_l_take (hr.mono (by decide)) (by rfl) (pa_cons (pv 1) (pa_cons (pe_callB (call_lenK (K := K) rfl) (by rfl) T.z_len (by decide +kernel) (pa_cons (pv 3) pa_nil)) pa_nil))))
    (pss_cons (ps_set (i := 6) sc_law.nd rfl (.inl rfl) (pe_df D_l_take (hr.mono (by decide)) (by rfl) (pa_cons (pv 1) (pa_cons pe_int pa_nil))))
    (pss_cons (ps_set (i := 7) sc_law.nd rfl (.inl rfl) (pe_callTy call_list_of (by rfl) T.z_list (by decide +kernel) (pa_cons (pv 3) pa_nil)))
    (pss_cons (ps_if (pt_cmpR op_lt (pv 6) pe_int (nomark _))
      (pss_one (ps_asg (pe_ix (ix_listK (K := K) rfl) (pe_lst (pa_cons pe_int (pa_cons pe_int (pa_cons pe_int (pa_cons pe_int (pa_cons pe_int (pa_cons pe_int (pa_cons pe_int pa_nil)))))))) (pe_df D_l_take (hr.mono (by decide)) (by rfl) (pa_cons (pv 1) (pa_cons pe_int pa_nil))) (fun _ _ => rfl)) (pg_sub (pv 7) (pv 5) set_list)))
      (pss_one (ps_if (pt_cmpR op_eq (pv 6) pe_int (nomark _))
      (pss_one (ps_set (i := 7) sc_law.nd rfl (.inl rfl) (pe_slice (sl_listK (K := K) rfl) (pv 7) po_none (po_some (pv 5)))))
      (pss_one (ps_set (i := 7) sc_law.nd rfl (.inl rfl) (pe_op op_cat (pv 7) (pe_lst (pa_cons (pe_df D_l_take (hr.mono (by decide)) (by rfl) (pa_cons (pv 1) (pa_cons pe_int pa_nil))) pa_nil))))))))
    (pss_cons (ps_asg (pe_df D_l_told (hr.mono (by decide)) (by rfl) (pa_cons (pv 7) pa_nil)) (pg_tupK (K := K) rfl (by rfl) (pgs_cons (pg_name (i := 8) sc_law.nd rfl (.inl rfl)) (pgs_cons (pg_name (i := 9) sc_law.nd rfl (.inl rfl)) pgs_nil))))
    (pss_cons (ps_if (PW.pt (pw_and (pt_val (pv 8)) (pw_and1 (pt_cmpR (opK (K := K) (r := rNeD) rfl (op_neD hr.units)) (pe_df D_l_packed (hr.mono (by decide)) (by rfl) (pa_cons (pv 9) pa_nil)) (pv 7) (nomark _)))))
      (pss_one (ps_ret pe_bl))
      pss_nil)
    (pss_cons (ps_if (PW.pt (pw_and (pt_not (pt_val (pv 8))) (pw_and1 (pt_not (pt_chain op_le op_le pe_int (pv 9) (pe_callB (call_lenK (K := K) rfl) (by rfl) T.z_len (by decide +kernel) (pa_cons (pv 7) pa_nil)))))))
      (pss_one (ps_ret pe_bl))
      pss_nil)
    (pss_cons (ps_if (PW.pt (pw_and (pt_cmpR op_eq (pv 6) pe_int (nomark _)) (pw_and1 (PW.pt (pw_or (pt_val (pv 8)) (pw_or1 (pt_cmpR (opK (K := K) (r := rNeD) rfl (op_neD hr.units)) (pv 9) (pv 5) (nomark _))))))))
      (pss_one (ps_ret pe_bl))
      pss_nil)
    (pss_one (ps_if (PW.pt (pw_and (pt_cmpR op_gt (pv 6) pe_int (nomark _)) (pw_and1 (PW.pt (pw_or (pt_val (pv 8)) (pw_or1 (pt_cmpR (opK (K := K) (r := rNeD) rfl (op_neD hr.units)) (pv 9) (pe_callB (call_lenK (K := K) rfl) (by rfl) T.z_len (by decide +kernel) (pa_cons (pv 3) pa_nil)) (nomark _))))))))
      (pss_one (ps_ret pe_bl))
      pss_nil)))))))))))
    (pss_cons (ps_for PassesOwn.never rfl (pi_listK (K := K) rfl (pe_lst (pa_cons (pe_lst (pa_cons pe_int pa_nil)) (pa_cons (pe_tup (pa_cons pe_str (pa_cons (pe_lst (pa_cons pe_int pa_nil)) pa_nil))) (pa_cons pe_str (pa_cons pe_str (pa_cons (pe_tup (pa_cons pe_int (pa_cons pe_dnewK pa_nil))) (pa_cons pe_str pa_nil)))))))) (pg_name (i := 10) sc_law.nd rfl (.inl rfl))
      (pss_one (ps_try_as rfl rfl sc_law.nd (i := 11) rfl rfl ⟨rfl, by decide, .inl TX.gC⟩ takes0 (fun W pn xe tk _ => (pss_cons (ps_expr (pe_dfX D_pack (hr.mono (by decide)) (fun σ => passAt tk σ) (by rfl) (pa_cons (pv 10) pa_nil)))
    (pss_one (ps_ret pe_bl))))
      (fun a oe cls d pn hz hf => (pss_one (ps_if (pt_cmpR op_ne (pe_xf XF nA hz hf (pv 11)) (pe_un un_neg pe_int) (nomark _))
      (pss_one (ps_ret pe_bl))
      pss_nil))))))
    (pss_one (ps_ret pe_bl)))))))), ?_⟩
    rw [show start n_law [(.ref sa : V)] = ([some (.ref sa), none, none, none, none, none, none, none, none, none, none, none] : List (Option V)) from rfl]
    walk_at "rd"
    refine ⟨sa, ns, rfl, hS, hlen, fun d c H1 hd k1 hD => ?_⟩
    have hT1 := k1.tab Pt hT
    walk_at "rd"
    refine ⟨d, c, 3, rfl, by decide, hD, fun v H2 t k2 ht hg => ?_⟩
    have hD2 := k2.drw hD
    have hT2 := k2.tab Pt hT1
    obtain ⟨n, hn, hR⟩ := hg.packs ht
    have hpl : (pk t).length ≤ 810 := Nat.le_trans hg.len (by decide)
    have hok := hg.ok 60 (by decide)
    have hsh := hg.shown
    walk_at "rd"
    refine ⟨v, n, some (pk t), rfl, hR, hn, hT2, fun bs e pD H3 k3 f3 e3 => ?_, fun e => by cases e⟩
    cases e
    have hD3 := k3.toC.drw hD2
    have ht3 := ht.kept k3
    have hT3 := k3.tab Pt hT2
    have npd : pD ≠ d := (hD2.old f3).1
    walk_at "rd"
    refine w_isi_ll e3 ?_
    refine ⟨_, rfl, if_f rfl ?_⟩
    walk_at "rd"
    refine ⟨v, t, 60, rfl, ht3, by decide, hok, by omega, fun p4 H4 k4 f4 e4 => ?_⟩
    refine ne_same (dp_nats (k4.lst e3)) (dp_nats e4) (sh_nats _) ?_
    refine ⟨_, rfl, if_f rfl ?_⟩
    walk_at "rd"
    refine ⟨pD, _, rfl, .inl (SqL.of (k4.lst e3)), fun p5 hp5 => ?_⟩
    have k5 := Kept.new (o := .lst (natsV (pk t))) hp5
    have e5 : (upd H4 p5 (.lst (natsV (pk t)))) p5 = some (.lst (natsV (pk t))) := upd_same
    generalize upd H4 p5 (.lst (natsV (pk t))) = H5 at k5 e5 ⊢
    walk_at "rd"
    refine ⟨p5, pk t, .ok t, rfl, e5, by omega, read_pk hok, fun t2 e v6 H6 k6 ht6 => ?_, fun m e => by cases e⟩
    cases e
    have k36 := k4.trans (k5.trans k6)
    have hD6 := k36.toC.drw hD3
    have e6 := k36.lst e3
    have hT6 := k36.tab Pt hT3
    walk_at "rd"
    refine ⟨v6, trD t, rfl, ht6.dp, hsh.1, hsh.2.1, Nat.le_trans hsh.2.2.1 (by decide), Nat.le_trans hsh.2.2.2 (by decide), ?_⟩
    walk_at "rd"
    refine ⟨v, trD t, rfl, (ht3.kept k36).dp, hsh.1, hsh.2.1, Nat.le_trans hsh.2.2.1 (by decide), Nat.le_trans hsh.2.2.2 (by decide), ?_⟩
    walk_at "rd"
    refine if_f (by rw [decide_eq_true rfl] <;> rfl) ?_
    walk_at "rd"
    refine Fr1.mk (m := 4) (by decide) (fun i σ' H' => ∃ v4 v5 v6 v7 v8 v9 v10 v11, σ' = [some (.ref sa), some (.ref d), some v, some (.ref pD), v4, v5, v6, v7, v8, v9, v10, v11] ∧ KeptC d c H6 H') ⟨none, none, none, none, none, none, none, none, rfl, KeptC.refl _⟩ ?_ ?_
    · rintro i σ' H7 hi ⟨v4, v5, v6, v7, v8, v9, v10, v11, rfl, k7⟩
      have hD7 := k7.drw hD6
      have e7 := k7.lst npd e6
      have hpos := pk_pos t
      walk_at "rd"
      refine ⟨pD, _, rfl, .inl (SqL.of e7), ?_⟩
      rw [natsV_len]
      walk_at "rd"
      refine ⟨d, c, ((pk t).length : Nat), rfl, by omega, by omega, hD7, fun r H8 l8 g8 k8 => ?_⟩
      obtain ⟨a, rfl⟩ : ∃ a : Nat, r = (a : Int) := ⟨r.toNat, by omega⟩
      have hD8 := k8.drw hD7
      have e8 := k8.lst npd e7
      walk_at "rd"
      refine ⟨d, c, 5, rfl, by decide, by decide, hD8, fun r H9 l9 g9 k9 => ?_⟩
      obtain ⟨q, rfl⟩ : ∃ q : Nat, r = (q : Int) := ⟨r.toNat, by omega⟩
      have hD9 := k9.drw hD8
      have e9 := k9.lst npd e8
      walk_at "rd"
      refine ⟨pD, _, rfl, .inl (SqL.of e9), fun pb hpb => ?_⟩
      have npb : pb ≠ d := (hD9.old hpb).1
      have kb := Kept.new (o := .lst (natsV (pk t))) hpb
      have eb : (upd H9 pb (.lst (natsV (pk t)))) pb = some (.lst (natsV (pk t))) := upd_same
      have hDb := kb.toC.drw hD9
      generalize upd H9 pb (.lst (natsV (pk t))) = Hb at kb eb hDb ⊢
      have k6b := k7.trans (k8.trans (k9.trans kb.toC))
      have hal : a < (pk t).length := by omega
      refine seq_via (fun σ' H' => ∃ p2 bb o, σ' = [some (.ref sa), some (.ref d), some v, some (.ref pD), some (.int (i : Int)), some (.int (a : Nat)), some (.int (q : Nat)), some (.ref p2), v8, v9, v10, v11] ∧ KeptC d c H6 H' ∧ H' p2 = some (.lst (natsV bb)) ∧ p2 ≠ d ∧ Bent (pk t) a q bb o) ?_ ?_
      · rintro σ' H10 ⟨p2, bb, o, rfl, k10, e10, n10, hR2, hbl, hB1, hB2, hB3, hB4⟩
        have hD10 := k10.drw hD6
        walk_at "rd"
        refine ⟨p2, bb, o, rfl, e10, hbl, hR2, fun qt H11 k11 ht11 => ?_⟩
        have hD11 := k11.toC.drw hD10
        have e11 := k11.lst e10
        have d11 := k11.lst (k10.lst npd e6)
        cases o with
        | ok t2 =>
          obtain ⟨v12, hv, hqt⟩ := ht11
          obtain ⟨hbb, hok2⟩ := hB2 t2 rfl
          subst hbb
          have q2 : q ≠ 2 := fun z => by cases (hB3 z).1
          have q3 : ¬ 2 < q := fun z => by cases (hB4 z).1
          refine w_gTup2 hqt ?_
          walk_at "rd"
          refine ⟨v12, t2, 60, rfl, hv, by decide, hok2, by omega, fun p13 H13 k13 f13 e13 => ?_⟩
          walk_at "rd"
          refine ne_same (dp_nats e13) (dp_nats (k13.lst e11)) (sh_nats _) ?_
          refine ⟨_, rfl, if_f rfl ?_⟩
          walk_at "rd"
          refine if_f (decide_eq_false (by intro z; injection z with z; omega)) ?_
          walk_at "rd"
          refine if_f (decide_eq_false (by omega)) ?_
          walk_at "rd"
          exact ⟨_, _, _, _, _, _, _, _, rfl, k10.trans (k11.trans k13).toC⟩
        | error m =>
          have hm := hB1 m rfl
          obtain ⟨τ, hτ⟩ : ∃ τ : Int, τ = (bb.length : Int) - (m : Nat) := ⟨_, rfl⟩
          have ht12 : H11 qt = some (.tup [.bl false, .int ((bb.length : Int) - (m : Nat))]) := ht11
          rw [← hτ] at ht12
          have t2 : q = 2 → τ = (a : Int) := fun z => by
            obtain ⟨h1, h2⟩ := hB3 z
            cases h1
            omega
          have t3 : 2 < q → τ = ((pk t).length : Int) := fun z => by
            obtain ⟨h1, h2⟩ := hB4 z
            cases h1
            omega
          refine w_gTup2 ht12 ?_
          walk_at "rd"
          refine if_t (decide_eq_true (by omega)) ?_
          walk_at "rd"
          refine ⟨p2, _, rfl, .inl (SqL.of e11), ?_⟩
          rw [natsV_len]
          walk_at "rd"
          refine if_f (by rw [decide_eq_true (by omega)] <;> rfl) ?_
          walk_at "rd"
          by_cases q2 : q = 2
          · refine if_t (decide_eq_true (by rw [q2] <;> rfl)) ?_
            have eτ := t2 q2
            subst eτ
            walk_at "rd"
            refine ne_same (.int _) (.int _) rfl ?_
            refine ⟨_, rfl, if_f rfl ?_⟩
            walk_at "rd"
            refine if_f (decide_eq_false (by omega)) ?_
            walk_at "rd"
            exact ⟨_, _, _, _, _, _, _, _, rfl, k10.trans k11.toC⟩
          · refine if_f (decide_eq_false (by intro z; injection z with z; omega)) ?_
            walk_at "rd"
            by_cases q3 : 2 < q
            · refine if_t (decide_eq_true (by omega)) ?_
              have eτ := t3 q3
              subst eτ
              walk_at "rd"
              refine ⟨pD, _, rfl, .inl (SqL.of d11), ?_⟩
              rw [natsV_len]
              walk_at "rd"
              refine ne_same (.int _) (.int _) rfl ?_
              refine ⟨_, rfl, if_f rfl ?_⟩
              walk_at "rd"
              exact ⟨_, _, _, _, _, _, _, _, rfl, k10.trans k11.toC⟩
            · refine if_f (decide_eq_false (by omega)) ?_
              walk_at "rd"
              exact ⟨_, _, _, _, _, _, _, _, rfl, k10.trans k11.toC⟩
      · intro N hN
        walk_at "rd"
        by_cases c2 : q < 2
        · refine if_t (decide_eq_true (by omega)) ?_
          walk_at "rd"
          refine ⟨by show 7 ≤ sizeLine; omega, fun L hL => ?_⟩
          have nL := hDb.old hL
          have kL : KeptC d c Hb (upd Hb L (.lst [.int 0, .int 3, .int 6, .int 7, .int 128, .int 255, .int 97])) := (Kept.new hL).toC
          have eL : (upd Hb L (.lst [.int 0, .int 3, .int 6, .int 7, .int 128, .int 255, .int 97])) L = some (.lst [.int 0, .int 3, .int 6, .int 7, .int 128, .int 255, .int 97]) := upd_same
          generalize upd Hb L (.lst [.int 0, .int 3, .int 6, .int 7, .int 128, .int 255, .int 97]) = HL at kL eL ⊢
          walk_at "rd"
          refine ⟨d, c, 7, rfl, by decide, by decide, kL.drw hDb, fun r HM l2 g2 k2' => ?_⟩
          obtain ⟨x, hx, ex⟩ : ∃ x : Nat, x < 256 ∧ atI [V.int 0, .int 3, .int 6, .int 7, .int 128, .int 255, .int 97] r = some (.int (x : Nat)) := by
            rcases (show r = 0 ∨ r = 1 ∨ r = 2 ∨ r = 3 ∨ r = 4 ∨ r = 5 ∨ r = 6 by omega) with rfl | rfl | rfl | rfl | rfl | rfl | rfl
            · exact ⟨0, by decide, rfl⟩
            · exact ⟨3, by decide, rfl⟩
            · exact ⟨6, by decide, rfl⟩
            · exact ⟨7, by decide, rfl⟩
            · exact ⟨128, by decide, rfl⟩
            · exact ⟨255, by decide, rfl⟩
            · exact ⟨97, by decide, rfl⟩
          have kbm := kL.trans k2'
          have ebm := kbm.lst npb eb
          refine w_ixL (k2'.lst nL.1 eL) ex ?_
          walk_at "rd"
          refine w_setL ebm (ix_nat (by rw [natsV_len]; exact hal)) ?_
          rw [natsV_set]
          obtain ⟨o, hRo, ho1, ho2⟩ := read_any ((pk t).set a x)
          refine hN _ _ ⟨pb, _, o, rfl, ?_, upd_same, npb, hRo, by rw [List.length_set]; omega, ho1, ho2, fun z => by omega, fun z => by omega⟩
          exact k7.trans (k8.trans (k9.trans ((kb.toC.trans kbm).mut hpb)))
        · refine if_f (decide_eq_false (by omega)) ?_
          walk_at "rd"
          by_cases q2 : q = 2
          · refine if_t (decide_eq_true (by rw [q2] <;> rfl)) ?_
            walk_at "rd"
            refine ⟨pb, _, rfl, SqL.of eb, fun p hp => ?_⟩
            rw [cut_to _ _ (by rw [natsV_len]; omega), natsV_take]
            have hR := read_cut hok (p := (pk t).take a) (q := (pk t).drop a) (List.take_append_drop _ _) (fun z => by
              have := congrArg List.length z
              rw [List.length_drop, List.length_nil] at this
              omega)
            have hlt : ((pk t).take a).length = a := by rw [List.length_take]; omega
            exact hN _ _ ⟨p, _, .error 0, rfl, k6b.trans (Kept.new hp).toC, upd_same, (hDb.old hp).1, hR, by omega, fun m e => by cases e; exact Nat.zero_le _, (fun t e => by cases e), fun _ => ⟨rfl, hlt⟩, fun z => by omega⟩
          · refine if_f (decide_eq_false (by intro z; injection z with z; omega)) ?_
            walk_at "rd"
            refine ⟨d, c, 8, rfl, by decide, by decide, hDb, fun r HM l2 g2 k2' => ?_⟩
            obtain ⟨x, rfl⟩ : ∃ x : Nat, r = (x : Int) := ⟨r.toNat, by omega⟩
            have hDM := k2'.drw hDb
            walk_at "rd"
            refine ⟨by show 1 ≤ sizeLine; omega, fun p1 hp1 => ?_⟩
            have j1 := Kept.new (o := .lst [V.int (x : Nat)]) hp1
            have e1 : (upd HM p1 (.lst [V.int (x : Nat)])) p1 = some (.lst (natsV [x])) := upd_same
            have eb1 := j1.lst (k2'.lst npb eb)
            have hDj := j1.toC.drw hDM
            generalize upd HM p1 (.lst [V.int (x : Nat)]) = HJ at j1 e1 eb1 hDj ⊢
            refine ⟨pb, p1, _, _, rfl, rfl, eb1, e1, by rw [natsV_len, natsV_len]; show _ + 1 ≤ _; omega, fun p3 hp3 => ?_⟩
            rw [natsV_app]
            refine hN _ _ ⟨p3, _, .error 1, rfl, k6b.trans (k2'.trans (j1.trans (Kept.new hp3)).toC), upd_same, (hDj.old hp3).1, read_more hok x, by rw [List.length_append, List.length_singleton]; omega, fun m e => by cases e; rw [List.length_append, List.length_singleton]; omega, (fun t e => by cases e), fun z => absurd z q2, fun _ => ⟨rfl, by rw [List.length_append, List.length_singleton]⟩⟩
    · rintro σ' H7 ⟨v4, v5, v6, v7, v8, v9, v10, v11, rfl, k7⟩
      have hT7 := k7.tab Pt hT6
      walk_at "rd"
      refine ⟨by show 1 ≤ sizeLine; omega, fun a1 ha1 => ?_⟩
      have j1 := Kept.new (o := .lst [V.int 1]) ha1
      have e1 : (upd H7 a1 (.lst [V.int 1])) a1 = some (.lst [V.int 1]) := upd_same
      generalize upd H7 a1 (.lst [V.int 1]) = G1 at j1 e1 ⊢
      walk_at "rd"
      refine ⟨by show 1 ≤ sizeLine; omega, fun a2 ha2 => ?_⟩
      have j2 := Kept.new (o := .lst [V.int 2]) ha2
      have e2 : (upd G1 a2 (.lst [V.int 2])) a2 = some (.lst [V.int 2]) := upd_same
      generalize upd G1 a2 (.lst [V.int 2]) = G2 at j2 e2 ⊢
      walk_at "rd"
      refine ⟨by show 2 ≤ sizeLine; omega, fun a3 ha3 => ?_⟩
      have j3 := Kept.new (o := .tup [.str (Str.ofString "a"), .ref a2]) ha3
      have e3' : (upd G2 a3 (.tup [.str (Str.ofString "a"), .ref a2])) a3 = some (.tup [.str (Str.ofString "a"), .ref a2]) := upd_same
      generalize upd G2 a3 (.tup [.str (Str.ofString "a"), .ref a2]) = G3 at j3 e3' ⊢
      walk_at "rd"
      intro a4 ha4
      have j4 := Kept.new (o := .dK []) ha4
      have e4' : (upd G3 a4 (.dK [])) a4 = some (.dK []) := upd_same
      generalize upd G3 a4 (.dK []) = G4 at j4 e4' ⊢
      walk_at "rd"
      refine ⟨by show 2 ≤ sizeLine; omega, fun a5 ha5 => ?_⟩
      have j5 := Kept.new (o := .tup [.int 1, .ref a4]) ha5
      have e5' : (upd G4 a5 (.tup [.int 1, .ref a4])) a5 = some (.tup [.int 1, .ref a4]) := upd_same
      generalize upd G4 a5 (.tup [.int 1, .ref a4]) = G5 at j5 e5' ⊢
      walk_at "rd"
      refine ⟨by show 6 ≤ sizeLine; omega, fun a6 ha6 => ?_⟩
      have j6 := Kept.new (o := .lst [.ref a1, .ref a3, .str (Str.ofString "Ab"), .str (Str.ofString "a b"), .ref a5, .str (Str.ofString "_")]) ha6
      have e6' : (upd G5 a6 (.lst [.ref a1, .ref a3, .str (Str.ofString "Ab"), .str (Str.ofString "a b"), .ref a5, .str (Str.ofString "_")])) a6 = some (.lst [.ref a1, .ref a3, .str (Str.ofString "Ab"), .str (Str.ofString "a b"), .ref a5, .str (Str.ofString "_")]) := upd_same
      generalize upd G5 a6 (.lst [.ref a1, .ref a3, .str (Str.ofString "Ab"), .str (Str.ofString "a b"), .ref a5, .str (Str.ofString "_")]) = G6 at j6 e6' ⊢
      have hT6' := (j1.trans (j2.trans (j3.trans (j4.trans (j5.trans j6))))).tab Pt hT7
      have m1 := (j2.trans (j3.trans (j4.trans (j5.trans j6)))).lst e1
      have m2 := (j3.trans (j4.trans (j5.trans j6))).lst e2
      have m3 := (j4.trans (j5.trans j6)).tup e3'
      have m4 := (j5.trans j6).keep a4 _ (fun ps z => by cases z) e4'
      have m5 := j6.tup e5'
      refine FrL.mk (xs := [.ref a1, .ref a3, .str (Str.ofString "Ab"), .str (Str.ofString "a b"), .ref a5, .str (Str.ofString "_")]) (fun i σ' H' => ∃ v10 v11, σ' = [some (.ref sa), some (.ref d), some v, some (.ref pD), v4, v5, v6, v7, v8, v9, v10, v11] ∧ Kept G6 H') ⟨_, _, rfl, Kept.refl _⟩ (fun i σ' H' _ h => by
        obtain ⟨_, _, _, kk⟩ := h
        exact SqL.of (kk.lst e6')) (fun i x σ' H' hx h => ?_) fun σ' H' h => ?_
      · obtain ⟨w10, w11, rfl, kk⟩ := h
        have hb : ∃ n, n ≤ 1000 ∧ RunP H' n [(x, 0)] none := by
          have mem := List.mem_of_getElem? hx
          simp only [List.mem_cons, List.not_mem_nil, or_false] at mem
          rcases mem with rfl | rfl | rfl | rfl | rfl | rfl
          · exact ⟨1, by decide, badL (.inl ⟨_, kk.lst m1⟩)⟩
          · exact ⟨3, by decide, bad2 (o := .s (Str.ofString "a")) (kk.tup m3) (by unfold TrAt; rfl) rfl (by show (tl (Str.ofString "a")).length ≤ 1000; rw [tl_ofString]; decide) (bs := 5 :: (sizeB (tl (Str.ofString "a")).length ++ tl (Str.ofString "a"))) (by show (if (tl (Str.ofString "a")).all isLet = true then some _ else none) = _; exact if_pos (by rw [tl_ofString]; decide)) (.inl ⟨_, kk.lst m2⟩)⟩
          · exact ⟨1, by decide, badS (by decide) (by decide)⟩
          · exact ⟨1, by decide, badS (by decide) (by decide)⟩
          · exact ⟨3, by decide, bad2 (o := .i 1) (kk.tup m5) (by unfold TrAt; rfl) rfl (by show (1 : Int).natAbs < 2 ^ 900; exact Nat.one_lt_two_pow (by decide)) rfl (.inr ⟨_, kk.keep a4 _ (fun ps z => by cases z) m4⟩)⟩
          · exact ⟨1, by decide, badS (by decide) (by decide)⟩
        obtain ⟨n, hn, hR⟩ := hb
        walk_at "rd"
        refine w_callS ?_
        walk_at "rd"
        refine ⟨x, n, none, rfl, hR, hn, kk.tab Pt hT6', (fun bs e => by cases e), fun _ => ?_⟩
        intro H1 d1 k1 hd1
        refine ⟨true, TX.te, fun _ a0 h0 => ?_, fun q => by cases q⟩
        walk_at "rd"
        refine ⟨_, rfl, rfl, rfl, d1, _, V.int (-1), rfl, upd_same, by simp [List.lookup], ?_⟩
        walk_at "rd"
        exact ⟨_, _, rfl, kk.trans (k1.trans (Kept.new hd1))⟩
      · obtain ⟨w10, w11, rfl, kk⟩ := h
        walk_at "rd"
        exact k _
end
end Ky

namespace Ky
open PySem PySem.Spec PyProof.Rows L2
local macro_rules | `(tactic| walk_at "rd") => `(tactic| repeat (first
  | with_reducible refine w_seq ?_
  | with_reducible refine w_asg ?_
  | with_reducible refine w_ret ?_
  | with_reducible refine w_drop ?_
  | with_reducible refine w_ifs ?_
  | ((with_reducible refine' w_var ?hh ?_); (case hh => exact rfl))
  | with_reducible refine w_c ?_
  | with_reducible refine w_op ?_
  | with_reducible refine w_un ?_
  | with_reducible refine w_I0 ?_
  | with_reducible refine w_U ?_
  | with_reducible refine w_nil ?_
  | with_reducible refine w_cons ?_
  | with_reducible refine w_call ?_
  | with_reducible refine w_cb ?_
  | with_reducible refine w_test ?_
  | with_reducible refine w_B ?_
  | with_reducible refine w_bl ?_
  | with_reducible refine w_and ?_
  | with_reducible refine w_or ?_
  | with_reducible refine w_not ?_
  | with_reducible refine w_ife ?_
  | with_reducible refine w_gRd ?_
  | with_reducible refine w_andV ?_
  | with_reducible refine w_orV ?_
  | with_reducible refine w_notV ?_
  | with_reducible refine w_chain ?_
  | with_reducible refine w_din ?_
  | with_reducible refine w_isi_ii ?_
  | with_reducible refine w_isi_ib ?_
  | with_reducible refine w_isi_it ?_
  | with_reducible refine w_isi_st ?_
  | ((with_reducible refine w_isi_tt ?h1 ?_); (case h1 => first | assumption | exact upd_same))
  | with_reducible refine if_t rfl ?_
  | with_reducible refine if_f rfl ?_
  | with_reducible refine w_tup ?_
  | with_reducible refine w_lst ?_
  | with_reducible refine w_next ?_
  | with_reducible refine w_bm ?_
  | with_reducible refine w_sl ?_
  | with_reducible refine w_part ?_
  | with_reducible refine w_nop ?_
  | with_reducible refine w_isI ?_
  | with_reducible refine w_yes ?_
  | with_reducible refine w_gn ?_
  | with_reducible refine w_gsub ?_
  | ((with_reducible refine' w_setL ?h1 ?h2 ?_); (case h1 => first | assumption | exact upd_same); (case h2 => exact rfl))
  | with_reducible refine w_asgG ?_
  | with_reducible refine w_m1 ?_
  | with_reducible refine w_isS ?_
  | with_reducible refine w_tyS ?_
  | ((with_reducible refine' w_tyL ?h1 ?_); (case h1 => first | assumption | exact upd_same))
  | ((with_reducible refine' w_ixT ?h1 ?h2 ?_); (case h1 => first | assumption | exact upd_same); (case h2 => exact rfl))
  | ((with_reducible refine' w_ixL ?h1 ?h2 ?_); (case h1 => first | assumption | exact upd_same); (case h2 => exact rfl))
  | ((with_reducible refine w_eq ?h1 ?_); (case h1 => exact rfl))
  | ((with_reducible refine w_ne ?h1 ?_); (case h1 => exact rfl))
  | dsimp only [List.set_cons_zero, List.set_cons_succ, List.append_nil, List.cons_append, List.nil_append, cxOf]))

section
variable {P : Program} {w : World} {K : PySem.W.Frag} {mg : Str → Option Value} {base : Heap} {uD uN uF uT uC uB uX uU uL : Value} {f aB : Addr} {fd : FuncData}
theorem ok_l_draw (F : Fun K "_law_draw" "_law_draw" s_l_draw f fd) (T : Tx K mg uD uN uF uT uC uB uX uU uL aB) : FnOk P w K mg base CX0 1 f fd ["script"] (spDrawC K) := by
  refine F.ok sc_l_draw (fun vs H Q E h => ?_) (fun cdv A outer s H vs Q E hr h => ?_)
  · obtain ⟨a, ns, rfl, _⟩ := h
    rfl
  · obtain ⟨a, ns, rfl, hS, hlen, k⟩ := h
    refine ⟨_, (pss_cons (ps_set (i := 1) sc_l_draw.nd rfl (.inl rfl) pe_int)
    (pss_cons (ps_for PassesOwn.never rfl (pi_listK (K := K) rfl (pv 0)) (pg_name (i := 2) sc_l_draw.nd rfl (.inl rfl))
      (pss_one (ps_set (i := 1) sc_l_draw.nd rfl (.inl rfl) (pe_op op_mod (pe_callTy call_int1 (by rfl) T.z_int (by decide +kernel) (pa_cons (pe_op op_add (pe_op op_add (pe_op op_mul (pv 1) pe_int) (pe_op op_mod (pe_callB call_abs (by rfl) T.z_abs (by decide +kernel) (pa_cons (pe_callTy call_int1 (by rfl) T.z_int (by decide +kernel) (pa_cons (pv 2) pa_nil)) pa_nil)) pe_int)) pe_int) pa_nil)) pe_int))))
    (pss_one (ps_ret (pe_lst (pa_cons (pe_lc (own := [("cell", 2)]) (g := gName 2) (by rfl) sc_l_draw.nd (pi_listK (K := K) rfl (pv 0)) (blkOk_by (own := [("cell", 2)]) (N := n_l_draw) (sc := defScope s_l_draw) (by decide +kernel)) (fun _ _ _ _ _ => pg_name (i := 2) sc_l_draw.nd rfl (Or.inl rfl)) (fun _ _ _ _ _ => pts_nil) (fun _ _ _ _ _ => (pe_callB call_abs (by rfl) T.z_abs (by decide +kernel) (pa_cons (pe_callTy call_int1 (by rfl) T.z_int (by decide +kernel) (pa_cons (pv 2) pa_nil)) pa_nil)))) (pa_cons (pe_un un_neg pe_int) (pa_cons pe_int (pa_cons (pv 1) pa_nil))))))))), ?_⟩
    rw [show start n_l_draw [(.ref a : V)] = ([some (.ref a), none, none] : List (Option V)) from rfl]
    walk_at "rd"
    refine ⟨_, rfl, a, rfl, ⟨_, hS⟩, for_list (K := K) (a := a) (xs := ns.map V.int) (fun i σ' H' => ∃ z v, σ' = [some (.ref a), some (.int z), v] ∧ H' = H) ⟨7, none, rfl, rfl⟩ (fun i σ' H' _ h => by
      obtain ⟨_, _, _, rfl⟩ := h
      exact hS) ?_ ?_⟩
    · rintro i y σ' H' hi ⟨z, v, rfl, rfl⟩
      obtain ⟨u, rfl, _⟩ := map_int hi
      walk_at "rd"
      refine w_I (.inr ⟨by decide, by decide⟩) ?_
      walk_at "rd"
      refine .inl ⟨_, rfl, ?_⟩
      walk_at "rd"
      refine ⟨_, rfl, ?_⟩
      walk_at "rd"
      refine w_I (by show (0 : Int) < 65521; decide) ?_
      walk_at "rd"
      refine .inl ⟨_, rfl, ?_⟩
      walk_at "rd"
      refine w_I (by show (0 : Int) < 2147483647; decide) ?_
      exact ⟨_, _, rfl, rfl⟩
    · rintro σ' H' ⟨z, v, rfl, rfl⟩
      walk_at "rd"
      refine ⟨_, rfl, a, rfl, ⟨_, hS⟩, fun D hD => lc_list (K := K) (xs := ns.map V.int) (fun i H1 => ∃ acc : List Int, H1 D = some (.lst (acc.map V.int)) ∧ acc.length = i ∧ Kept H' H1) ⟨[], upd_same, rfl, Kept.new hD⟩ (fun i H1 _ h => by
        obtain ⟨_, _, _, k1⟩ := h
        exact k1.sq hS) ?_ ?_⟩
      · rintro i y H1 hi ⟨acc, h1, h2, k1⟩
        obtain ⟨u, rfl, hu⟩ := map_int hi
        have hi2 : i < ns.length := (List.getElem?_eq_some_iff.mp hu).1
        refine ⟨rfl, w_yes (if_t rfl ?_)⟩
        walk_at "rd"
        refine .inl ⟨_, rfl, ?_⟩
        walk_at "rd"
        refine ⟨_, rfl, ?_⟩
        refine ⟨acc.map V.int, h1, ?_, acc ++ [if u < 0 then -u else u], ?_, ?_, Kept.mut k1 hD⟩
        · rw [List.length_map]
          exact small1000 (by omega)
        · rw [List.map_append]
          exact upd_same
        · rw [List.length_append, h2]
          rfl
      · rintro H1 ⟨acc, h1, h2, k1⟩
        walk_at "rd"
        refine ⟨by show 4 ≤ sizeLine; decide, fun d hd => ?_⟩
        refine k d D _ (k1.free _ hd) (k1.trans (Kept.new hd)) ⟨acc, -1, 0, z, ne_of_none h1 hd, upd_same, ?_, by decide⟩
        rw [upd_ne (ne_of_none h1 hd)]
        exact h1
theorem ok_l_take (F : Fun K "_law_take" "_law_take" s_l_take f fd) (T : Tx K mg uD uN uF uT uC uB uX uU uL aB) : FnOk P w K mg base CX0 1 f fd ["draw", "many"] spTakeC := by
  refine F.ok sc_l_take (fun vs H Q E h => ?_) (fun cdv A outer s H vs Q E hr h => ?_)
  · obtain ⟨d, c, m, rfl, _⟩ := h
    rfl
  · obtain ⟨d, c, m, rfl, m0, m1, hD, k⟩ := h
    have hD0 := hD
    obtain ⟨ns, a, u, z, ne, hd, hc, ha⟩ := hD
    have st0 : TakeSt H c d H := ⟨fun _ _ => rfl, a, u, z, hd, ha⟩
    refine ⟨_, (Evl.pss_cut (ps_if (pt_cmpR op_eq (pe_ix (ix_listK (K := K) rfl) (pv 0) pe_int (fun _ _ => rfl)) pe_int (nomark _))
      (pss_cons (ps_asg (pe_op op_add (pe_ix (ix_listK (K := K) rfl) (pv 0) pe_int (fun _ _ => rfl)) pe_int) (pg_sub (pv 0) pe_int set_list))
    (Evl.pss_cut (ps_if (pt_cmpR op_lt (pe_ix (ix_listK (K := K) rfl) (pv 0) pe_int (fun _ _ => rfl)) (pe_callB call_len_seq (by rfl) T.z_len (by decide +kernel) (pa_cons (pe_ix (ix_listK (K := K) rfl) (pv 0) pe_int (fun _ _ => rfl)) pa_nil)) (nomark _))
      (pss_one (ps_asg (pe_ix (ix_listK (K := K) rfl) (pe_ix (ix_listK (K := K) rfl) (pv 0) pe_int (fun _ _ => rfl)) (pe_ix (ix_listK (K := K) rfl) (pv 0) pe_int (fun _ _ => rfl)) (fun _ _ => rfl)) (pg_sub (pv 0) pe_int set_list)))
      pss_nil)
    (pss_one (ps_if (pt_cmpR op_eq (pe_ix (ix_listK (K := K) rfl) (pv 0) pe_int (fun _ _ => rfl)) pe_int (nomark _))
      (pss_cons (ps_asg (pe_op op_mod (pe_callTy call_int1 (by rfl) T.z_int (by decide +kernel) (pa_cons (pe_op op_add (pe_op op_mul (pe_ix (ix_listK (K := K) rfl) (pv 0) pe_int (fun _ _ => rfl)) pe_int) pe_int) pa_nil)) pe_int) (pg_sub (pv 0) pe_int set_list))
    (pss_one (ps_asg (pe_ix (ix_listK (K := K) rfl) (pv 0) pe_int (fun _ _ => rfl)) (pg_sub (pv 0) pe_int set_list))))
      pss_nil))))
      pss_nil)
    (pss_cons (ps_set (i := 2) sc_l_take.nd rfl (.inl rfl) (pe_op op_mod (pe_callTy call_int1 (by rfl) T.z_int (by decide +kernel) (pa_cons (pe_ix (ix_listK (K := K) rfl) (pv 0) pe_int (fun _ _ => rfl)) pa_nil)) (pv 1)))
    (pss_cons (ps_asg (pe_op op_fdivW (pe_ix (ix_listK (K := K) rfl) (pv 0) pe_int (fun _ _ => rfl)) (pv 1)) (pg_sub (pv 0) pe_int set_list))
    (pss_one (ps_ret (pv 2)))))), ?_⟩
    rw [show start n_l_take [(.ref d : V), (.int m : V)] = ([some (.ref d), some (.int m), none] : List (Option V)) from rfl]
    refine ⟨fun σ' H' => σ' = [some (.ref d), some (.int m), none] ∧ TakeSt H c d H', ?_, ?_⟩
    · walk_at "rd"
      refine ite2 (fun _ => ?_) (fun _ => ?_)
      · walk_at "rd"
        refine ⟨fun σ' H' => σ' = [some (.ref d), some (.int m), none] ∧ TakeSt H c d H', ?_, ?_⟩
        · have st1 : TakeSt H c d (upd H d (.lst [.ref c, .int (a + 1), .int u, .int z])) := st0.upd (by omega)
          have hc1 : (upd H d (.lst [.ref c, .int (a + 1), .int u, .int z])) c = some (.lst (ns.map V.int)) := by rw [st1.1 c ne]; exact hc
          walk_at "rd"
          refine ⟨c, ns.map V.int, rfl, .inl (SqL.of hc1), ?_⟩
          walk_at "rd"
          refine ite2 (fun e => ?_) (fun _ => ⟨rfl, st1⟩)
          have e' : a + 1 < (ns.length : Int) := by
            have := of_decide_eq_true e
            rw [List.length_map] at this
            exact this
          obtain ⟨v, _, hv⟩ := pick_int (ns := ns) (r := a + 1) (by omega) e'
          walk_at "rd"
          refine w_ixL hc1 hv ?_
          walk_at "rd"
          exact ⟨rfl, st1.upd (by omega)⟩
        · rintro σ' H' ⟨rfl, st1⟩
          have st2 := st1
          obtain ⟨_, a1, u1, z1, hd1, ha1⟩ := st2
          walk_at "rd"
          refine ite2 (fun _ => ?_) (fun _ => ⟨rfl, st1⟩)
          walk_at "rd"
          refine w_I (.inr ⟨by decide, by decide⟩) ?_
          walk_at "rd"
          refine .inl ⟨_, rfl, ?_⟩
          walk_at "rd"
          refine w_I (by show (0 : Int) < 2147483647; decide) ?_
          walk_at "rd"
          exact ⟨rfl, (st1.upd ha1).upd ha1⟩
      · exact ⟨rfl, st0⟩
    · rintro σ' H' ⟨rfl, st1⟩
      have st2 := st1
      obtain ⟨_, a1, u1, z1, hd1, ha1⟩ := st2
      walk_at "rd"
      refine .inl ⟨_, rfl, ?_⟩
      walk_at "rd"
      refine w_I m0 ?_
      walk_at "rd"
      refine w_I (wide_div (b := 62) m0 (by omega) (by decide) (by decide)) ?_
      walk_at "rd"
      exact k _ _ (Int.emod_nonneg _ (by omega)) (Int.emod_lt_of_pos _ m0) ((st1.upd ha1).keptC hd hc ne)
end
end Ky

namespace Ky
open PySem PySem.Spec PyProof.Rows L2
/-- the end of a row by what the top has left: the law's promise may lean on the tables of code objects -/
theorem walk_own {l : PySem.W.OpenLaw} {n k : Nat} {q : Program} {loose : List Str} {XP : (Str → Option Value) → Heap → Prop} {YP : World → Heap → Prop} {d : DefRec} {K : Params → PySem.W.Frag} {x : Str}
    (hn : l.most = some n) (hn2 : n ≤ sizeLine) (hdf : d.params.defaults = []) (hr : Room k callerA) (hK : ∀ (w : World) (h : Heap), YP w h → (K w.params).In h)
    (F : ∀ (w : World) (s0 : Shared) (mg mb : Str → Option Value) (fa : Addr) (h : Heap), PySem.W.Ground q loose [] XP w s0 mg mb h → YP w h →
      mg d.name = some (.ref fa) → (K w.params).In h → LawG l w (K w.params) k n x mg fa h) :
    PySem.W.WalkO q loose XP YP l.row.toRowW d [] (fun f vs => PySem.call f vs) :=
  Att.attach_callB hn hdf fun w s0 s1 mg mb fa _ _ _ _ a _ ns G Y _ _ _ hm ho hi hl hz hg => by
    have X := hK w s1.heap Y
    obtain ⟨fd, cs, sp, t1, t2, t3, t4, t5, t6⟩ := F w s0 mg mb fa s1.heap G Y hm X
    have T := G.T
    exact law_callG X T.g T.b T.builtins T.nolimit hg t1 t2 t3 T.bmain ho hi (Nat.le_trans hl hn2) hr t6 t4 (fun H a1 a2 => t5 H a ns hl hz a1 a2)
theorem df_of {P : Program} {w : World} {K : PySem.W.Frag} {mg : Str → Option Value} {base : Heap} {k : Nat} {x : Str} {ps : List Str} {sp : Sp} {f : Addr} {fd : FuncData} (F : FnOk P w K mg base CX0 k f fd ps sp) (m : mg x = some (.ref f)) (kp : PySem.W.keepIn K (.ref f) = true) (b : Binds K fd ps []) : Df P w K mg base k x ps sp := ⟨f, fd, F, m, kp, b⟩
theorem dfx_of {P : Program} {w : World} {K : PySem.W.Frag} {mg : Str → Option Value} {base : Heap} {k : Nat} {x : Str} {ps : List Str} {sp : Sp} {f : Addr} {fd : FuncData} (F : FnOk P w K mg base (L2.CX P w) k f fd ps sp) (m : mg x = some (.ref f)) (kp : PySem.W.keepIn K (.ref f) = true) (b : Binds K fd ps []) : DfX P w K mg base k x ps sp := ⟨f, fd, F, m, kp, b⟩
theorem func_mk {K : PySem.W.Frag} {x : Str} {st : Stmt} {f c : Addr} {oc : Value} {od an : Option Addr} {osl : Array (Option Value)} {kV doc pm ct : Value} (l : K.lookup f = some ⟨oc, od, .func (PySem.W.fnOf x x (defArgs st) (defBody st) (defScope st) .none kV doc pm an (.ref c) ct), osl⟩) (b : PySem.W.codeIn K (.ref c) x = true) : FunC K x st f (PySem.W.fnOf x x (defArgs st) (defBody st) (defScope st) .none kV doc pm an (.ref c) ct) c := ⟨⟨oc, od, kV, doc, pm, an, ct, osl, rfl, l, b⟩⟩
theorem tab_in {K : PySem.W.Frag} {x : Str} {f c t : Addr} {oc e : Value} {od dd : Option Addr} {fd : FuncData} {sl sv : Array (Option Value)} {vs : Array Value} (a : PySem.W.nsIn K mainGlobals x = some (some (.ref f))) (l : K.lookup f = some ⟨oc, od, .func fd, sl⟩) (hc : fd.code = .ref c)
    (lc : K.lookup c = some ⟨e, dd, .fields vs, sv⟩) (lv : vs[11]? = some (.ref t)) : PySem.W.tabIn K x = some (c, t) := by
  unfold PySem.W.tabIn
  simp only [a, l, hc, lc, lv]
theorem all_mk {l : PySem.W.OpenLaw} {w : World} {K : PySem.W.Frag} {q : Program} {lo : List Str} {lv : List (Str × PySem.W.WData)} {s0 : Shared} {h : Heap} {mg mb : Str → Option Value} {fa : Addr} {dR_is_text : DefRec} (X : K.In h)
    (G : PySem.W.Ground q lo [] (PySem.W.XL q lv) w s0 mg mb h) (hfa : mg "law" = some (.ref fa)) (hR_is_text : (recsOf q).find? (fun e => e.name == ("is_text" : Str)) = some dR_is_text)
    {f_is_whole : Addr} {od_is_whole an_is_whole : Option Addr} {sl_is_whole : Array (Option Value)} {oc_is_whole kV_is_whole dc_is_whole pm_is_whole cd_is_whole ct_is_whole : Value}
    (a_is_whole : PySem.W.nsIn K mainGlobals "is_whole" = some (some (.ref f_is_whole))) (l_is_whole : K.lookup f_is_whole = some ⟨oc_is_whole, od_is_whole, .func (PySem.W.fnOf "is_whole" "is_whole" (defArgs s_is_whole) (defBody s_is_whole) (defScope s_is_whole) .none kV_is_whole dc_is_whole pm_is_whole an_is_whole (cd_is_whole) ct_is_whole), sl_is_whole⟩)
    (b_is_whole : PySem.W.codeIn K (cd_is_whole) "is_whole" = true) (k_is_whole : PySem.W.keepIn K (.ref f_is_whole) = true)
    {f_size_bytes : Addr} {od_size_bytes an_size_bytes : Option Addr} {sl_size_bytes : Array (Option Value)} {oc_size_bytes kV_size_bytes dc_size_bytes pm_size_bytes cd_size_bytes ct_size_bytes : Value}
    (a_size_bytes : PySem.W.nsIn K mainGlobals "size_bytes" = some (some (.ref f_size_bytes))) (l_size_bytes : K.lookup f_size_bytes = some ⟨oc_size_bytes, od_size_bytes, .func (PySem.W.fnOf "size_bytes" "size_bytes" (defArgs s_size_bytes) (defBody s_size_bytes) (defScope s_size_bytes) .none kV_size_bytes dc_size_bytes pm_size_bytes an_size_bytes (cd_size_bytes) ct_size_bytes), sl_size_bytes⟩)
    (b_size_bytes : PySem.W.codeIn K (cd_size_bytes) "size_bytes" = true) (k_size_bytes : PySem.W.keepIn K (.ref f_size_bytes) = true)
    {f_is_text : Addr} {od_is_text an_is_text : Option Addr} {sl_is_text : Array (Option Value)} {oc_is_text kV_is_text dc_is_text pm_is_text ct_is_text : Value} {c_is_text t_is_text : Addr}
    (a_is_text : PySem.W.nsIn K mainGlobals "is_text" = some (some (.ref f_is_text))) (l_is_text : K.lookup f_is_text = some ⟨oc_is_text, od_is_text, .func (PySem.W.fnOf "is_text" "is_text" (defArgs s_is_text) (defBody s_is_text) (defScope s_is_text) .none kV_is_text dc_is_text pm_is_text an_is_text (.ref c_is_text) ct_is_text), sl_is_text⟩)
    (b_is_text : PySem.W.codeIn K (.ref c_is_text) "is_text" = true) (k_is_text : PySem.W.keepIn K (.ref f_is_text) = true)
    {f_leaf_bytes : Addr} {od_leaf_bytes an_leaf_bytes : Option Addr} {sl_leaf_bytes : Array (Option Value)} {oc_leaf_bytes kV_leaf_bytes dc_leaf_bytes pm_leaf_bytes cd_leaf_bytes ct_leaf_bytes : Value}
    (a_leaf_bytes : PySem.W.nsIn K mainGlobals "leaf_bytes" = some (some (.ref f_leaf_bytes))) (l_leaf_bytes : K.lookup f_leaf_bytes = some ⟨oc_leaf_bytes, od_leaf_bytes, .func (PySem.W.fnOf "leaf_bytes" "leaf_bytes" (defArgs s_leaf_bytes) (defBody s_leaf_bytes) (defScope s_leaf_bytes) .none kV_leaf_bytes dc_leaf_bytes pm_leaf_bytes an_leaf_bytes (cd_leaf_bytes) ct_leaf_bytes), sl_leaf_bytes⟩)
    (b_leaf_bytes : PySem.W.codeIn K (cd_leaf_bytes) "leaf_bytes" = true) (k_leaf_bytes : PySem.W.keepIn K (.ref f_leaf_bytes) = true)
    {f_pack : Addr} {od_pack an_pack : Option Addr} {sl_pack : Array (Option Value)} {oc_pack kV_pack dc_pack pm_pack cd_pack ct_pack : Value}
    (a_pack : PySem.W.nsIn K mainGlobals "pack" = some (some (.ref f_pack))) (l_pack : K.lookup f_pack = some ⟨oc_pack, od_pack, .func (PySem.W.fnOf "pack" "pack" (defArgs s_pack) (defBody s_pack) (defScope s_pack) .none kV_pack dc_pack pm_pack an_pack (cd_pack) ct_pack), sl_pack⟩)
    (b_pack : PySem.W.codeIn K (cd_pack) "pack" = true) (k_pack : PySem.W.keepIn K (.ref f_pack) = true)
    {f_read_item : Addr} {od_read_item an_read_item : Option Addr} {sl_read_item : Array (Option Value)} {oc_read_item kV_read_item dc_read_item pm_read_item cd_read_item ct_read_item : Value}
    (a_read_item : PySem.W.nsIn K mainGlobals "read_item" = some (some (.ref f_read_item))) (l_read_item : K.lookup f_read_item = some ⟨oc_read_item, od_read_item, .func (PySem.W.fnOf "read_item" "read_item" (defArgs s_read_item) (defBody s_read_item) (defScope s_read_item) .none kV_read_item dc_read_item pm_read_item an_read_item (cd_read_item) ct_read_item), sl_read_item⟩)
    (b_read_item : PySem.W.codeIn K (cd_read_item) "read_item" = true) (k_read_item : PySem.W.keepIn K (.ref f_read_item) = true)
    {f_unpack : Addr} {od_unpack an_unpack : Option Addr} {sl_unpack : Array (Option Value)} {oc_unpack kV_unpack dc_unpack pm_unpack cd_unpack ct_unpack : Value}
    (a_unpack : PySem.W.nsIn K mainGlobals "unpack" = some (some (.ref f_unpack))) (l_unpack : K.lookup f_unpack = some ⟨oc_unpack, od_unpack, .func (PySem.W.fnOf "unpack" "unpack" (defArgs s_unpack) (defBody s_unpack) (defScope s_unpack) .none kV_unpack dc_unpack pm_unpack an_unpack (cd_unpack) ct_unpack), sl_unpack⟩)
    (b_unpack : PySem.W.codeIn K (cd_unpack) "unpack" = true) (k_unpack : PySem.W.keepIn K (.ref f_unpack) = true)
    {f_l_draw : Addr} {od_l_draw an_l_draw : Option Addr} {sl_l_draw : Array (Option Value)} {oc_l_draw kV_l_draw dc_l_draw pm_l_draw cd_l_draw ct_l_draw : Value}
    (a_l_draw : PySem.W.nsIn K mainGlobals "_law_draw" = some (some (.ref f_l_draw))) (l_l_draw : K.lookup f_l_draw = some ⟨oc_l_draw, od_l_draw, .func (PySem.W.fnOf "_law_draw" "_law_draw" (defArgs s_l_draw) (defBody s_l_draw) (defScope s_l_draw) .none kV_l_draw dc_l_draw pm_l_draw an_l_draw (cd_l_draw) ct_l_draw), sl_l_draw⟩)
    (b_l_draw : PySem.W.codeIn K (cd_l_draw) "_law_draw" = true) (k_l_draw : PySem.W.keepIn K (.ref f_l_draw) = true)
    {f_l_take : Addr} {od_l_take an_l_take : Option Addr} {sl_l_take : Array (Option Value)} {oc_l_take kV_l_take dc_l_take pm_l_take cd_l_take ct_l_take : Value}
    (a_l_take : PySem.W.nsIn K mainGlobals "_law_take" = some (some (.ref f_l_take))) (l_l_take : K.lookup f_l_take = some ⟨oc_l_take, od_l_take, .func (PySem.W.fnOf "_law_take" "_law_take" (defArgs s_l_take) (defBody s_l_take) (defScope s_l_take) .none kV_l_take dc_l_take pm_l_take an_l_take (cd_l_take) ct_l_take), sl_l_take⟩)
    (b_l_take : PySem.W.codeIn K (cd_l_take) "_law_take" = true) (k_l_take : PySem.W.keepIn K (.ref f_l_take) = true)
    {f_l_value : Addr} {od_l_value an_l_value : Option Addr} {sl_l_value : Array (Option Value)} {oc_l_value kV_l_value dc_l_value pm_l_value cd_l_value ct_l_value : Value}
    (a_l_value : PySem.W.nsIn K mainGlobals "_law_value" = some (some (.ref f_l_value))) (l_l_value : K.lookup f_l_value = some ⟨oc_l_value, od_l_value, .func (PySem.W.fnOf "_law_value" "_law_value" (defArgs s_l_value) (defBody s_l_value) (defScope s_l_value) .none kV_l_value dc_l_value pm_l_value an_l_value (cd_l_value) ct_l_value), sl_l_value⟩)
    (b_l_value : PySem.W.codeIn K (cd_l_value) "_law_value" = true) (k_l_value : PySem.W.keepIn K (.ref f_l_value) = true)
    {f_l_size : Addr} {od_l_size an_l_size : Option Addr} {sl_l_size : Array (Option Value)} {oc_l_size kV_l_size dc_l_size pm_l_size cd_l_size ct_l_size : Value}
    (a_l_size : PySem.W.nsIn K mainGlobals "_law_size" = some (some (.ref f_l_size))) (l_l_size : K.lookup f_l_size = some ⟨oc_l_size, od_l_size, .func (PySem.W.fnOf "_law_size" "_law_size" (defArgs s_l_size) (defBody s_l_size) (defScope s_l_size) .none kV_l_size dc_l_size pm_l_size an_l_size (cd_l_size) ct_l_size), sl_l_size⟩)
    (b_l_size : PySem.W.codeIn K (cd_l_size) "_law_size" = true) (k_l_size : PySem.W.keepIn K (.ref f_l_size) = true)
    {f_l_packed : Addr} {od_l_packed an_l_packed : Option Addr} {sl_l_packed : Array (Option Value)} {oc_l_packed kV_l_packed dc_l_packed pm_l_packed cd_l_packed ct_l_packed : Value}
    (a_l_packed : PySem.W.nsIn K mainGlobals "_law_packed" = some (some (.ref f_l_packed))) (l_l_packed : K.lookup f_l_packed = some ⟨oc_l_packed, od_l_packed, .func (PySem.W.fnOf "_law_packed" "_law_packed" (defArgs s_l_packed) (defBody s_l_packed) (defScope s_l_packed) .none kV_l_packed dc_l_packed pm_l_packed an_l_packed (cd_l_packed) ct_l_packed), sl_l_packed⟩)
    (b_l_packed : PySem.W.codeIn K (cd_l_packed) "_law_packed" = true) (k_l_packed : PySem.W.keepIn K (.ref f_l_packed) = true)
    {f_l_told : Addr} {od_l_told an_l_told : Option Addr} {sl_l_told : Array (Option Value)} {oc_l_told kV_l_told dc_l_told pm_l_told cd_l_told ct_l_told : Value}
    (a_l_told : PySem.W.nsIn K mainGlobals "_law_told" = some (some (.ref f_l_told))) (l_l_told : K.lookup f_l_told = some ⟨oc_l_told, od_l_told, .func (PySem.W.fnOf "_law_told" "_law_told" (defArgs s_l_told) (defBody s_l_told) (defScope s_l_told) .none kV_l_told dc_l_told pm_l_told an_l_told (cd_l_told) ct_l_told), sl_l_told⟩)
    (b_l_told : PySem.W.codeIn K (cd_l_told) "_law_told" = true) (k_l_told : PySem.W.keepIn K (.ref f_l_told) = true)
    {f_law : Addr} {od_law an_law : Option Addr} {sl_law : Array (Option Value)} {oc_law kV_law dc_law pm_law cd_law ct_law : Value}
    (a_law : PySem.W.nsIn K mainGlobals "law" = some (some (.ref f_law))) (l_law : K.lookup f_law = some ⟨oc_law, od_law, .func (PySem.W.fnOf "law" "law" (defArgs s_law) (defBody s_law) (defScope s_law) .none kV_law dc_law pm_law an_law (cd_law) ct_law), sl_law⟩)
    (b_law : PySem.W.codeIn K (cd_law) "law" = true) (k_law : PySem.W.keepIn K (.ref f_law) = true)
    {e_is_text : Value} {dd_is_text : Option Addr} {vs_is_text : Array Value} {sv_is_text : Array (Option Value)} (lc_is_text : K.lookup c_is_text = some ⟨e_is_text, dd_is_text, .fields vs_is_text, sv_is_text⟩) (lv_is_text : vs_is_text[11]? = some (.ref t_is_text)) (nt_is_text : K.lookup t_is_text = none)
    (z_isinstance : PySem.W.nsIn K mainGlobals "isinstance" = some none)
    (z_int : PySem.W.nsIn K mainGlobals "int" = some none)
    (z_bool : PySem.W.nsIn K mainGlobals "bool" = some none)
    (z_tuple : PySem.W.nsIn K mainGlobals "tuple" = some none)
    (z_str : PySem.W.nsIn K mainGlobals "str" = some none)
    (z_abs : PySem.W.nsIn K mainGlobals "abs" = some none)
    (z_all : PySem.W.nsIn K mainGlobals "all" = some none)
    (z_len : PySem.W.nsIn K mainGlobals "len" = some none)
    (z_list : PySem.W.nsIn K mainGlobals "list" = some none)
    (z_range : PySem.W.nsIn K mainGlobals "range" = some none)
    (z_ord : PySem.W.nsIn K mainGlobals "ord" = some none)
    (z_repr : PySem.W.nsIn K mainGlobals "repr" = some none)
    {u__DEEPEST : Value} (g__DEEPEST : PySem.W.nsIn K mainGlobals "_DEEPEST" = some (some u__DEEPEST)) (v__DEEPEST : RelV (.int 60) u__DEEPEST)
    {u__NONE : Value} (g__NONE : PySem.W.nsIn K mainGlobals "_NONE" = some (some u__NONE)) (v__NONE : RelV (.int 0) u__NONE)
    {u__FALSE : Value} (g__FALSE : PySem.W.nsIn K mainGlobals "_FALSE" = some (some u__FALSE)) (v__FALSE : RelV (.int 1) u__FALSE)
    {u__TRUE : Value} (g__TRUE : PySem.W.nsIn K mainGlobals "_TRUE" = some (some u__TRUE)) (v__TRUE : RelV (.int 2) u__TRUE)
    {u__COUNT : Value} (g__COUNT : PySem.W.nsIn K mainGlobals "_COUNT" = some (some u__COUNT)) (v__COUNT : RelV (.int 3) u__COUNT)
    {u__BELOW : Value} (g__BELOW : PySem.W.nsIn K mainGlobals "_BELOW" = some (some u__BELOW)) (v__BELOW : RelV (.int 4) u__BELOW)
    {u__TEXT : Value} (g__TEXT : PySem.W.nsIn K mainGlobals "_TEXT" = some (some u__TEXT)) (v__TEXT : RelV (.int 5) u__TEXT)
    {u__TUPLE : Value} (g__TUPLE : PySem.W.nsIn K mainGlobals "_TUPLE" = some (some u__TUPLE)) (v__TUPLE : RelV (.int 6) u__TUPLE)
    {u__LETTERS : Value} (g__LETTERS : PySem.W.nsIn K mainGlobals "_LETTERS" = some (some u__LETTERS)) (v__LETTERS : RelV (.str lettersS) u__LETTERS)
    {aB : Addr} {dB : Option Addr} {nB : Nat} {sB : Array (Option Value)} (g_BARE : PySem.W.nsIn K mainGlobals "_BARE" = some (some (.ref aB))) (l_BARE : K.lookup aB = some ⟨.type "tuple", dB, .seq #[.none, .bool false, .bool true] nB, sB⟩)
    {aE fE cdE ccE NE aCE : Addr} {nmE qcE : Str} {bsE : List Value} {snE : List Str} {subE : List Value} {abE : Bool} {colE : Option Bool} {ddE : Option Addr} {m0E m1E m2E m3E m5E : Option Value} (g_EE : PySem.W.nsIn K mainGlobals "PackError" = some (some (.ref aE)))
    (x_EE : K.lookup aE = some (excClassObj nmE qcE aE NE bsE [.ref aCE, .type "ValueError", .type "Exception", .type "BaseException", .type "object"] true snE subE abE colE ddE m0E m1E m2E m3E m5E "ValueError.__new__"))
    (sa_EE : PySem.W.findIn K (.ref aE) "__setattr__" = some (some (.builtin "object.__setattr__"))) (ga_EE : PySem.W.findIn K (.ref aE) "__getattribute__" = some (some (.builtin "BaseException.__getattribute__"))) (gg_EE : PySem.W.findIn K (.ref aE) "__getattr__" = some none) (nN_EE : PySem.W.findIn K (.ref aE) "at" = some none)
    (i_EE : PySem.W.findIn K (.ref aE) "__init__" = some (some (.ref fE))) (t_EE : PySem.W.typeIn K (.ref fE) = some (.type "function")) (kp_EE : PySem.W.keepIn K (.ref aE) = true) (b0_EE : PySem.W.subIn K (.ref aE) (.type "BaseException") = some true) (v0_EE : PySem.W.subIn K (.ref aE) (.type "ValueError") = some true)
    (ty_EE : PySem.W.typeIn K (.ref aE) = some (.type "type")) (hd_EE : PySem.W.hasDictIn K aE = true) (ic_EE : PySem.W.isClsIn K aE = true) (s0_EE : PySem.W.subIn K (.ref aE) (.ref aE) = some true) (up_EE : PySem.W.ks_superIn K aE aE "__init__" = some (some (.builtin "ValueError.__init__"))) (own_EE : PySem.W.mroIn K aE (.ref aE) = some true)
    (op_EE : PySem.W.nsIn K cStatics "thirdparty.any" = some none) (z_super : PySem.W.nsIn K mainGlobals "super" = some none) (top_EE : (l.prog.main.scope.names.lookup ("super" : Str)).isSome = false)
    {ocE dcE pmE ctE cclE clE : Value} {odE anE cddE cldE : Option Addr} {slE ccsE cslE : Array (Option Value)} {qE fileE : Str} {tfE : Tok} {vsE : Array Value}
    (l_EE : K.lookup fE = some ⟨ocE, odE, .func (PySem.W.ksFn "__init__" qE (PySem.Xi.xA "at" ⟨9, 17, 9, 21⟩ ⟨9, 23, 9, 25⟩) (PySem.Xi.xB "at" "place " ⟨10, 8, 10, 13⟩ ⟨10, 8, 10, 15⟩ ⟨10, 8, 10, 24⟩ ⟨10, 27, 10, 33⟩ ⟨10, 34, 10, 36⟩ ⟨10, 33, 10, 37⟩ ⟨10, 25, 10, 38⟩ ⟨10, 8, 10, 39⟩ ⟨10, 8, 10, 39⟩ ⟨11, 8, 11, 12⟩ ⟨11, 8, 11, 15⟩ ⟨11, 18, 11, 20⟩ ⟨11, 8, 11, 20⟩) (PySem.Xi.xS "at") .none .none dcE pmE anE (.ref cdE) ctE ccE), slE⟩) (c_EE : PySem.W.codeIn K (.ref cdE) qE = true)
    (lc_EE : K.lookup cdE = some ⟨cclE, cddE, .fields vsE, ccsE⟩) (lv_EE : vsE[2]? = some (.str fileE tfE)) (fl_EE : ((l.prog.main.file : Str) == fileE) = true) (lcc_EE : K.lookup ccE = some ⟨clE, cldE, .cell (some (.ref aE)), cslE⟩)
    {aT : Addr} (g_TK : PySem.W.nsIn K mainGlobals "Unpacking" = some (some (.ref aT))) (pg_TK : PySem.W.plainGet K aT Str.empty = true) (hd_TK : PySem.W.hasDictIn K aT = true) (po_TK : PySem.W.plainOver K aT = true) (sa_TK : PySem.W.findIn K (.ref aT) "__setattr__" = some (some (.builtin "object.__setattr__"))) (mk_TK : PySem.W.makesIn K aT = true) (kc_TK : PySem.W.keepIn K (.ref aT) = true) (nD_TK : PySem.W.findIn K (.ref aT) "data" = some none) (nA_TK : PySem.W.findIn K (.ref aT) "at" = some none)
    {f_un_init : Addr} {od_un_init an_un_init : Option Addr} {sl_un_init : Array (Option Value)} {oc_un_init kV_un_init dc_un_init pm_un_init cd_un_init ct_un_init : Value} (a_un_init : PySem.W.findIn K (.ref aT) "__init__" = some (some (.ref f_un_init))) (i_un_init : PySem.W.isFn K (.ref f_un_init) = true) (l_un_init : K.lookup f_un_init = some ⟨oc_un_init, od_un_init, .func (PySem.W.fnOf "__init__" "Unpacking.__init__" (defArgs s_un_init) (defBody s_un_init) (defScope s_un_init) .none kV_un_init dc_un_init pm_un_init an_un_init cd_un_init ct_un_init), sl_un_init⟩) (b_un_init : PySem.W.codeIn K cd_un_init "Unpacking.__init__" = true) (k_un_init : PySem.W.keepIn K (.ref f_un_init) = true)
    {f_un_step : Addr} {od_un_step an_un_step : Option Addr} {sl_un_step : Array (Option Value)} {oc_un_step kV_un_step dc_un_step pm_un_step cd_un_step ct_un_step : Value} (a_un_step : PySem.W.findIn K (.ref aT) "step" = some (some (.ref f_un_step))) (i_un_step : PySem.W.isFn K (.ref f_un_step) = true) (l_un_step : K.lookup f_un_step = some ⟨oc_un_step, od_un_step, .func (PySem.W.fnOf "step" "Unpacking.step" (defArgs s_un_step) (defBody s_un_step) (defScope s_un_step) .none kV_un_step dc_un_step pm_un_step an_un_step cd_un_step ct_un_step), sl_un_step⟩) (b_un_step : PySem.W.codeIn K cd_un_step "Unpacking.step" = true) (k_un_step : PySem.W.keepIn K (.ref f_un_step) = true)
    {f_un_size : Addr} {od_un_size an_un_size : Option Addr} {sl_un_size : Array (Option Value)} {oc_un_size kV_un_size dc_un_size pm_un_size cd_un_size ct_un_size : Value} (a_un_size : PySem.W.findIn K (.ref aT) "size" = some (some (.ref f_un_size))) (i_un_size : PySem.W.isFn K (.ref f_un_size) = true) (l_un_size : K.lookup f_un_size = some ⟨oc_un_size, od_un_size, .func (PySem.W.fnOf "size" "Unpacking.size" (defArgs s_un_size) (defBody s_un_size) (defScope s_un_size) .none kV_un_size dc_un_size pm_un_size an_un_size cd_un_size ct_un_size), sl_un_size⟩) (b_un_size : PySem.W.codeIn K cd_un_size "Unpacking.size" = true) (k_un_size : PySem.W.keepIn K (.ref f_un_size) = true)
    {f_un_letters : Addr} {od_un_letters an_un_letters : Option Addr} {sl_un_letters : Array (Option Value)} {oc_un_letters kV_un_letters dc_un_letters pm_un_letters cd_un_letters ct_un_letters : Value} (a_un_letters : PySem.W.findIn K (.ref aT) "letters" = some (some (.ref f_un_letters))) (i_un_letters : PySem.W.isFn K (.ref f_un_letters) = true) (l_un_letters : K.lookup f_un_letters = some ⟨oc_un_letters, od_un_letters, .func (PySem.W.fnOf "letters" "Unpacking.letters" (defArgs s_un_letters) (defBody s_un_letters) (defScope s_un_letters) .none kV_un_letters dc_un_letters pm_un_letters an_un_letters cd_un_letters ct_un_letters), sl_un_letters⟩) (b_un_letters : PySem.W.codeIn K cd_un_letters "Unpacking.letters" = true) (k_un_letters : PySem.W.keepIn K (.ref f_un_letters) = true)
    {f_un_leaf : Addr} {od_un_leaf an_un_leaf : Option Addr} {sl_un_leaf : Array (Option Value)} {oc_un_leaf kV_un_leaf dc_un_leaf pm_un_leaf cd_un_leaf ct_un_leaf : Value} (a_un_leaf : PySem.W.findIn K (.ref aT) "leaf" = some (some (.ref f_un_leaf))) (i_un_leaf : PySem.W.isFn K (.ref f_un_leaf) = true) (l_un_leaf : K.lookup f_un_leaf = some ⟨oc_un_leaf, od_un_leaf, .func (PySem.W.fnOf "leaf" "Unpacking.leaf" (defArgs s_un_leaf) (defBody s_un_leaf) (defScope s_un_leaf) .none kV_un_leaf dc_un_leaf pm_un_leaf an_un_leaf cd_un_leaf ct_un_leaf), sl_un_leaf⟩) (b_un_leaf : PySem.W.codeIn K cd_un_leaf "Unpacking.leaf" = true) (k_un_leaf : PySem.W.keepIn K (.ref f_un_leaf) = true)
    {aO : Addr} (g_OP : PySem.W.nsIn K mainGlobals "Opened" = some (some (.ref aO))) (pg_OP : PySem.W.plainGet K aO Str.empty = true) (hd_OP : PySem.W.hasDictIn K aO = true) (po_OP : PySem.W.plainOver K aO = true) (sa_OP : PySem.W.findIn K (.ref aO) "__setattr__" = some (some (.builtin "object.__setattr__"))) (mk_OP : PySem.W.makesIn K aO = true) (kc_OP : PySem.W.keepIn K (.ref aO) = true) (nM_OP : PySem.W.findIn K (.ref aO) "many" = some none) (nP_OP : PySem.W.findIn K (.ref aO) "parts" = some none)
    {f_op_init : Addr} {od_op_init an_op_init : Option Addr} {sl_op_init : Array (Option Value)} {oc_op_init kV_op_init dc_op_init pm_op_init cd_op_init ct_op_init : Value} (a_op_init : PySem.W.findIn K (.ref aO) "__init__" = some (some (.ref f_op_init))) (i_op_init : PySem.W.isFn K (.ref f_op_init) = true) (l_op_init : K.lookup f_op_init = some ⟨oc_op_init, od_op_init, .func (PySem.W.fnOf "__init__" "Opened.__init__" (defArgs s_op_init) (defBody s_op_init) (defScope s_op_init) .none kV_op_init dc_op_init pm_op_init an_op_init cd_op_init ct_op_init), sl_op_init⟩) (b_op_init : PySem.W.codeIn K cd_op_init "Opened.__init__" = true) (k_op_init : PySem.W.keepIn K (.ref f_op_init) = true) : LawG l w K 64 63 "script" mg fa h := by
  have Gg := G.T.g
  have e := hfa.symm.trans (PySem.W.mg_of X Gg a_law)
  cases e
  have T : Tx K mg u__DEEPEST u__NONE u__FALSE u__TRUE u__COUNT u__BELOW u__TEXT u__TUPLE u__LETTERS aB := ⟨PySem.W.mg_none_of X Gg z_isinstance, PySem.W.mg_none_of X Gg z_int, PySem.W.mg_none_of X Gg z_bool, PySem.W.mg_none_of X Gg z_tuple, PySem.W.mg_none_of X Gg z_str, PySem.W.mg_none_of X Gg z_abs, PySem.W.mg_none_of X Gg z_all, PySem.W.mg_none_of X Gg z_len, PySem.W.mg_none_of X Gg z_list, PySem.W.mg_none_of X Gg z_range, PySem.W.mg_none_of X Gg z_ord, PySem.W.mg_none_of X Gg z_repr, PySem.W.mg_of X Gg g__DEEPEST, v__DEEPEST, PySem.W.mg_of X Gg g__NONE, v__NONE, PySem.W.mg_of X Gg g__FALSE, v__FALSE, PySem.W.mg_of X Gg g__TRUE, v__TRUE, PySem.W.mg_of X Gg g__COUNT, v__COUNT, PySem.W.mg_of X Gg g__BELOW, v__BELOW, PySem.W.mg_of X Gg g__TEXT, v__TEXT, PySem.W.mg_of X Gg g__TUPLE, v__TUPLE, PySem.W.mg_of X Gg g__LETTERS, v__LETTERS, PySem.W.mg_of X Gg g_BARE, rfl, fun H => .inr ⟨_, _, _, l_BARE, rfl, rfl, by decide, .cons rfl (.cons rfl (.cons rfl .nil))⟩⟩
  have TC : Tu K aT := ⟨⟨pg_TK, hd_TK, po_TK, sa_TK⟩, nD_TK, nA_TK⟩
  have TO : To K aO := ⟨⟨pg_OP, hd_OP, po_OP, sa_OP⟩, nM_OP, nP_OP⟩
  have TX : PySem.Xi.XTxt l.prog K mg "PackError" "at" "place " aE fE :=
    { gC := PySem.W.mg_of X Gg g_EE, cls := ⟨nmE, qcE, NE, bsE, _, snE, subE, abE, colE, ddE, m0E, m1E, m2E, m3E, m5E, x_EE, by rfl⟩, sa := sa_EE, ga := ga_EE, gg := gg_EE, noN := nN_EE, iC := i_EE, tC := t_EE, kC := kp_EE, exC := b0_EE, veC := v0_EE, tyC := ty_EE, hdC := hd_EE, te := exm_self b0_EE ic_EE ty_EE s0_EE, up := up_EE, own := own_EE, op := op_EE,
      zS := PySem.W.mg_none_of X Gg z_super, top := top_EE, fn := ⟨_, _, _, _, _, _, _, _, _, _, _, _, _, _, _, _, _, _, _, _, _, _, _, _, _, _, _, _, _, _, _, _, _, _, l_EE, c_EE, lc_EE, lv_EE, fl_EE, lcc_EE, ⟨_, fun env => rfl⟩⟩, short := by decide }
  have XF : XfC K aE := ⟨ga_EE, gg_EE, b0_EE, hd_EE⟩
  obtain ⟨CH_is_text, tE_is_text⟩ := PySem.W.tab_of G.T X hR_is_text (tab_in a_is_text l_is_text rfl lc_is_text lv_is_text)
  have F_is_whole := fun_mk (st := s_is_whole) l_is_whole b_is_whole k_is_whole
  have F_size_bytes := fun_mk (st := s_size_bytes) l_size_bytes b_size_bytes k_size_bytes
  have F_is_text := func_mk (st := s_is_text) l_is_text b_is_text
  have F_leaf_bytes := fun_mk (st := s_leaf_bytes) l_leaf_bytes b_leaf_bytes k_leaf_bytes
  have F_pack := fun_mk (st := s_pack) l_pack b_pack k_pack
  have F_read_item := fun_mk (st := s_read_item) l_read_item b_read_item k_read_item
  have F_unpack := fun_mk (st := s_unpack) l_unpack b_unpack k_unpack
  have F_l_draw := fun_mk (st := s_l_draw) l_l_draw b_l_draw k_l_draw
  have F_l_take := fun_mk (st := s_l_take) l_l_take b_l_take k_l_take
  have F_l_value := fun_mk (st := s_l_value) l_l_value b_l_value k_l_value
  have F_l_size := fun_mk (st := s_l_size) l_l_size b_l_size k_l_size
  have F_l_packed := fun_mk (st := s_l_packed) l_l_packed b_l_packed k_l_packed
  have F_l_told := fun_mk (st := s_l_told) l_l_told b_l_told k_l_told
  have F_law := fun_mk (st := s_law) l_law b_law k_law
  refine ⟨PySem.W.fnOf "law" "law" (defArgs s_law) (defBody s_law) (defScope s_law) .none kV_law dc_law pm_law an_law cd_law ct_law, [(c_is_text, t_is_text)], spLaw K t_is_text, ?_, ?_, ?_, fun s v => .of_eq rfl, ?_, fun base KB MB hTB => ?_⟩
  · intro p hp
    simp only [List.mem_cons, List.not_mem_nil, or_false] at hp
    rcases hp with rfl
    · exact tE_is_text
  · intro p hp
    simp only [List.mem_cons, List.not_mem_nil, or_false] at hp
    rcases hp with rfl
    · exact nt_is_text
  · intro p hp
    simp only [List.mem_cons, List.not_mem_nil, or_false] at hp
    rcases hp with rfl
    · exact CH_is_text
  · intro H a ns hl _ ht hS
    exact ⟨a, ns, rfl, hS, hl, ⟨#[], ht _ (.head _), True.intro⟩, fun _ => rfl⟩
  have TB0_is_text := hTB _ (.head _)
  have TB_is_text : GxR.TabB base mg c_is_text t_is_text := ⟨TB0_is_text.code, TB0_is_text.bm, TB0_is_text.gP⟩
  have D_is_whole : Df l.prog w K mg base 1 "is_whole" ["value"] spWholeX := df_of (ok_is_whole F_is_whole T) (PySem.W.mg_of X Gg a_is_whole) k_is_whole (Binds.all fun us hl => match us, hl with | [_], _ => rfl)
  have D_size_bytes : Df l.prog w K mg base 1 "size_bytes" ["n"] spSizeB := df_of (ok_size_bytes F_size_bytes T) (PySem.W.mg_of X Gg a_size_bytes) k_size_bytes (Binds.all fun us hl => match us, hl with | [_], _ => rfl)
  have D_is_text : Df l.prog w K mg base 3 "is_text" ["value"] (spIsText t_is_text) := df_of (ok_is_text F_is_text T TB_is_text) (PySem.W.mg_of X Gg a_is_text) k_is_text (Binds.all fun us hl => match us, hl with | [_], _ => rfl)
  have D_leaf_bytes : DfX l.prog w K mg base 4 "leaf_bytes" ["value"] (spLeafB t_is_text aE) := dfx_of (ok_leaf_bytes F_leaf_bytes T TX D_is_text D_size_bytes D_is_whole) (PySem.W.mg_of X Gg a_leaf_bytes) k_leaf_bytes (Binds.all fun us hl => match us, hl with | [_], _ => rfl)
  have D_pack : DfX l.prog w K mg base 5 "pack" ["value"] (spPack t_is_text aE) := dfx_of (ok_pack F_pack T TX D_size_bytes D_leaf_bytes) (PySem.W.mg_of X Gg a_pack) k_pack (Binds.all fun us hl => match us, hl with | [_], _ => rfl)
  have M_step : Mf l.prog w K mg base (L2.CX l.prog w) 2 aT "step" ["self", "least", "greatest"] (spUStep aT aE) := ⟨⟨_, _, ok_un_step (fun_mk (st := s_un_step) l_un_step b_un_step k_un_step) T TC TX D_is_whole, ⟨a_un_step, i_un_step, k_un_step⟩, Binds.all fun us hl => match us, hl with | [_, _, _], _ => rfl⟩⟩
  have M_size : Mf l.prog w K mg base (L2.CX l.prog w) 3 aT "size" ["self"] (spUSize aT aE) := ⟨⟨_, _, ok_un_size (fun_mk (st := s_un_size) l_un_size b_un_size k_un_size) T TC M_step, ⟨a_un_size, i_un_size, k_un_size⟩, Binds.all fun us hl => match us, hl with | [_], _ => rfl⟩⟩
  have M_letters : Mf l.prog w K mg base (L2.CX l.prog w) 4 aT "letters" ["self"] (spULet aT aE) := ⟨⟨_, _, ok_un_letters (fun_mk (st := s_un_letters) l_un_letters b_un_letters k_un_letters) T TC M_step M_size, ⟨a_un_letters, i_un_letters, k_un_letters⟩, Binds.all fun us hl => match us, hl with | [_], _ => rfl⟩⟩
  have M_leaf : Mf l.prog w K mg base (L2.CX l.prog w) 5 aT "leaf" ["self", "kind"] (spULeaf aT aE) := ⟨⟨_, _, ok_un_leaf (fun_mk (st := s_un_leaf) l_un_leaf b_un_leaf k_un_leaf) T TC M_size M_letters, ⟨a_un_leaf, i_un_leaf, k_un_leaf⟩, Binds.all fun us hl => match us, hl with | [_, _], _ => rfl⟩⟩
  have K_Unpacking : MkF l.prog w K mg base CX0 1 "Unpacking" aT ["self", "data"] (spUInit aT) := ⟨PySem.W.mg_of X Gg g_TK, ⟨_, _, ok_un_init (fun_mk (st := s_un_init) l_un_init b_un_init k_un_init) T TC, ⟨mk_TK, a_un_init, i_un_init, kc_TK⟩, Binds.all fun us hl => match us, hl with | [_, _], _ => rfl⟩⟩
  have K_Opened : MkF l.prog w K mg base CX0 1 "Opened" aO ["self", "many"] (spOInit aO) := ⟨PySem.W.mg_of X Gg g_OP, ⟨_, _, ok_op_init (fun_mk (st := s_op_init) l_op_init b_op_init k_op_init) T TO, ⟨mk_OP, a_op_init, i_op_init, kc_OP⟩, Binds.all fun us hl => match us, hl with | [_, _], _ => rfl⟩⟩
  have D_read_item : DfX l.prog w K mg base 6 "read_item" ["reading", "opened"] (spItem aT aO aE) := dfx_of (ok_read_item F_read_item T TC TO M_step M_size M_leaf K_Opened) (PySem.W.mg_of X Gg a_read_item) k_read_item (Binds.all fun us hl => match us, hl with | [_, _], _ => rfl)
  have D_unpack : DfX l.prog w K mg base 7 "unpack" ["data"] (spUnpack aE) := dfx_of (ok_unpack F_unpack T TC TO TX D_read_item K_Unpacking K_Opened) (PySem.W.mg_of X Gg a_unpack) k_unpack (Binds.all fun us hl => match us, hl with | [_], _ => rfl)
  have D_l_draw : Df l.prog w K mg base 1 "_law_draw" ["script"] (spDrawC K) := df_of (ok_l_draw F_l_draw T) (PySem.W.mg_of X Gg a_l_draw) k_l_draw (Binds.all fun us hl => match us, hl with | [_], _ => rfl)
  have D_l_take : Df l.prog w K mg base 1 "_law_take" ["draw", "many"] spTakeC := df_of (ok_l_take F_l_take T) (PySem.W.mg_of X Gg a_l_take) k_l_take (Binds.all fun us hl => match us, hl with | [_, _], _ => rfl)
  have D_l_value : Df l.prog w K mg base 6 "_law_value" ["draw", "depth"] (spLV 4) := df_of (ok_lv F_l_value T D_l_take (PySem.W.mg_of X Gg a_l_value) k_l_value (Binds.all fun us hl => match us, hl with | [_, _], _ => rfl) 4) (PySem.W.mg_of X Gg a_l_value) k_l_value (Binds.all fun us hl => match us, hl with | [_, _], _ => rfl)
  have D_l_size : Df l.prog w K mg base 1 "_law_size" ["n"] spLSize := df_of (ok_l_size F_l_size T) (PySem.W.mg_of X Gg a_l_size) k_l_size (Binds.all fun us hl => match us, hl with | [_], _ => rfl)
  have D_l_packed : Df l.prog w K mg base 63 "_law_packed" ["value"] (spLP 61) := df_of (ok_lp F_l_packed T D_l_size (PySem.W.mg_of X Gg a_l_packed) k_l_packed (Binds.all fun us hl => match us, hl with | [_], _ => rfl) 61) (PySem.W.mg_of X Gg a_l_packed) k_l_packed (Binds.all fun us hl => match us, hl with | [_], _ => rfl)
  have D_l_told : Df l.prog w K mg base 8 "_law_told" ["data"] spTold := df_of (ok_l_told F_l_told T TX XF nN_EE D_unpack) (PySem.W.mg_of X Gg a_l_told) k_l_told (Binds.all fun us hl => match us, hl with | [_], _ => rfl)
  exact ok_law F_law T TX XF nN_EE D_l_draw D_l_take D_l_value D_l_packed D_pack D_unpack D_l_told
end Ky
open PySem PySem.W PyProof.Rows in
set_option maxRecDepth 100000 in
set_option maxHeartbeats 0 in
theorem PySem.Challenge.cw_countsworn_k08_plain_values_as_bytes_holds : PySem.Challenge.rw_countsworn_k08_plain_values_as_bytes.Holds := by
  w_on; o_law; k_head; (case hw => w_witness2)
  k_fill
  refine Ky.walk_own (l := PySem.Challenge.rw_countsworn_k08_plain_values_as_bytes) (n := 63) (k := 64) (x := "script") rfl (by decide) rfl ⟨rfl, by decide, by decide⟩ (fun w h Y => PySem.W.kIn_of Y) ?F
  case F =>
    intro w s0 mg mb fa h G Y hmg KX
    refine' Ky.all_mk KX G hmg ?hR_is_text ?a_is_whole ?l_is_whole ?b_is_whole ?k_is_whole ?a_size_bytes ?l_size_bytes ?b_size_bytes ?k_size_bytes ?a_is_text ?l_is_text ?b_is_text ?k_is_text ?a_leaf_bytes ?l_leaf_bytes ?b_leaf_bytes ?k_leaf_bytes ?a_pack ?l_pack ?b_pack ?k_pack ?a_read_item ?l_read_item ?b_read_item ?k_read_item ?a_unpack ?l_unpack ?b_unpack ?k_unpack ?a_l_draw ?l_l_draw ?b_l_draw ?k_l_draw ?a_l_take ?l_l_take ?b_l_take ?k_l_take ?a_l_value ?l_l_value ?b_l_value ?k_l_value ?a_l_size ?l_l_size ?b_l_size ?k_l_size ?a_l_packed ?l_l_packed ?b_l_packed ?k_l_packed ?a_l_told ?l_l_told ?b_l_told ?k_l_told ?a_law ?l_law ?b_law ?k_law ?lc_is_text ?lv_is_text ?nt_is_text ?z_isinstance ?z_int ?z_bool ?z_tuple ?z_str ?z_abs ?z_all ?z_len ?z_list ?z_range ?z_ord ?z_repr ?g__DEEPEST ?v__DEEPEST ?g__NONE ?v__NONE ?g__FALSE ?v__FALSE ?g__TRUE ?v__TRUE ?g__COUNT ?v__COUNT ?g__BELOW ?v__BELOW ?g__TEXT ?v__TEXT ?g__TUPLE ?v__TUPLE ?g__LETTERS ?v__LETTERS ?g_BARE ?l_BARE ?g_EE ?x_EE ?sa_EE ?ga_EE ?gg_EE ?nN_EE ?i_EE ?t_EE ?kp_EE ?b0_EE ?v0_EE ?ty_EE ?hd_EE ?ic_EE ?s0_EE ?up_EE ?own_EE ?op_EE ?z_super ?top_EE ?l_EE ?c_EE ?lc_EE ?lv_EE ?fl_EE ?lcc_EE ?g_TK ?pg_TK ?hd_TK ?po_TK ?sa_TK ?mk_TK ?kc_TK ?nD_TK ?nA_TK ?a_un_init ?i_un_init ?l_un_init ?b_un_init ?k_un_init ?a_un_step ?i_un_step ?l_un_step ?b_un_step ?k_un_step ?a_un_size ?i_un_size ?l_un_size ?b_un_size ?k_un_size ?a_un_letters ?i_un_letters ?l_un_letters ?b_un_letters ?k_un_letters ?a_un_leaf ?i_un_leaf ?l_un_leaf ?b_un_leaf ?k_un_leaf ?g_OP ?pg_OP ?hd_OP ?po_OP ?sa_OP ?mk_OP ?kc_OP ?nM_OP ?nP_OP ?a_op_init ?i_op_init ?l_op_init ?b_op_init ?k_op_init
    (case hR_is_text => rfl)
    (case a_is_whole => k_is)
    (case l_is_whole => k_is)
    (case b_is_whole => k_is)
    (case k_is_whole => k_is)
    (case a_size_bytes => k_is)
    (case l_size_bytes => k_is)
    (case b_size_bytes => k_is)
    (case k_size_bytes => k_is)
    (case a_is_text => k_is)
    (case l_is_text => k_is)
    (case b_is_text => k_is)
    (case k_is_text => k_is)
    (case a_leaf_bytes => k_is)
    (case l_leaf_bytes => k_is)
    (case b_leaf_bytes => k_is)
    (case k_leaf_bytes => k_is)
    (case a_pack => k_is)
    (case l_pack => k_is)
    (case b_pack => k_is)
    (case k_pack => k_is)
    (case a_read_item => k_is)
    (case l_read_item => k_is)
    (case b_read_item => k_is)
    (case k_read_item => k_is)
    (case a_unpack => k_is)
    (case l_unpack => k_is)
    (case b_unpack => k_is)
    (case k_unpack => k_is)
    (case a_l_draw => k_is)
    (case l_l_draw => k_is)
    (case b_l_draw => k_is)
    (case k_l_draw => k_is)
    (case a_l_take => k_is)
    (case l_l_take => k_is)
    (case b_l_take => k_is)
    (case k_l_take => k_is)
    (case a_l_value => k_is)
    (case l_l_value => k_is)
    (case b_l_value => k_is)
    (case k_l_value => k_is)
    (case a_l_size => k_is)
    (case l_l_size => k_is)
    (case b_l_size => k_is)
    (case k_l_size => k_is)
    (case a_l_packed => k_is)
    (case l_l_packed => k_is)
    (case b_l_packed => k_is)
    (case k_l_packed => k_is)
    (case a_l_told => k_is)
    (case l_l_told => k_is)
    (case b_l_told => k_is)
    (case k_l_told => k_is)
    (case a_law => k_is)
    (case l_law => k_is)
    (case b_law => k_is)
    (case k_law => k_is)
    (case lc_is_text => k_is)
    (case lv_is_text => exact rfl)
    (case nt_is_text => first | exact rfl | decide +kernel)
    (case z_isinstance => k_is)
    (case z_int => k_is)
    (case z_bool => k_is)
    (case z_tuple => k_is)
    (case z_str => k_is)
    (case z_abs => k_is)
    (case z_all => k_is)
    (case z_len => k_is)
    (case z_list => k_is)
    (case z_range => k_is)
    (case z_ord => k_is)
    (case z_repr => k_is)
    (case g__DEEPEST => k_is)
    (case v__DEEPEST => exact ⟨_, rfl⟩)
    (case g__NONE => k_is)
    (case v__NONE => exact ⟨_, rfl⟩)
    (case g__FALSE => k_is)
    (case v__FALSE => exact ⟨_, rfl⟩)
    (case g__TRUE => k_is)
    (case v__TRUE => exact ⟨_, rfl⟩)
    (case g__COUNT => k_is)
    (case v__COUNT => exact ⟨_, rfl⟩)
    (case g__BELOW => k_is)
    (case v__BELOW => exact ⟨_, rfl⟩)
    (case g__TEXT => k_is)
    (case v__TEXT => exact ⟨_, rfl⟩)
    (case g__TUPLE => k_is)
    (case v__TUPLE => exact ⟨_, rfl⟩)
    (case g__LETTERS => k_is)
    (case v__LETTERS => exact ⟨_, rfl⟩)
    (case g_BARE => first | k_is | rfl | k_exc | ks_is | decide +kernel)
    (case l_BARE => first | k_is | rfl | k_exc | ks_is | decide +kernel)
    (case g_EE => first | k_is | rfl | k_exc | ks_is | decide +kernel)
    (case x_EE => first | k_is | rfl | k_exc | ks_is | decide +kernel)
    (case sa_EE => first | k_is | rfl | k_exc | ks_is | decide +kernel)
    (case ga_EE => first | k_is | rfl | k_exc | ks_is | decide +kernel)
    (case gg_EE => first | k_is | rfl | k_exc | ks_is | decide +kernel)
    (case nN_EE => first | k_is | rfl | k_exc | ks_is | decide +kernel)
    (case i_EE => first | k_is | rfl | k_exc | ks_is | decide +kernel)
    (case t_EE => first | k_is | rfl | k_exc | ks_is | decide +kernel)
    (case kp_EE => first | k_is | rfl | k_exc | ks_is | decide +kernel)
    (case b0_EE => first | k_is | rfl | k_exc | ks_is | decide +kernel)
    (case v0_EE => first | k_is | rfl | k_exc | ks_is | decide +kernel)
    (case ty_EE => first | k_is | rfl | k_exc | ks_is | decide +kernel)
    (case hd_EE => first | k_is | rfl | k_exc | ks_is | decide +kernel)
    (case ic_EE => first | k_is | rfl | k_exc | ks_is | decide +kernel)
    (case s0_EE => first | k_is | rfl | k_exc | ks_is | decide +kernel)
    (case up_EE => first | k_is | rfl | k_exc | ks_is | decide +kernel)
    (case own_EE => first | k_is | rfl | k_exc | ks_is | decide +kernel)
    (case op_EE => first | k_is | rfl | k_exc | ks_is | decide +kernel)
    (case z_super => k_is)
    (case top_EE => first | k_is | rfl | k_exc | ks_is | decide +kernel)
    (case l_EE => first | k_is | rfl | k_exc | ks_is | decide +kernel)
    (case c_EE => first | k_is | rfl | k_exc | ks_is | decide +kernel)
    (case lc_EE => first | k_is | rfl | k_exc | ks_is | decide +kernel)
    (case lv_EE => exact rfl)
    (case fl_EE => first | k_is | rfl | k_exc | ks_is | decide +kernel)
    (case lcc_EE => first | k_is | rfl | k_exc | ks_is | decide +kernel)
    (case g_TK => first | k_is | rfl | k_exc | ks_is | decide +kernel)
    (case pg_TK => first | k_is | rfl | k_exc | ks_is | decide +kernel)
    (case hd_TK => first | k_is | rfl | k_exc | ks_is | decide +kernel)
    (case po_TK => first | k_is | rfl | k_exc | ks_is | decide +kernel)
    (case sa_TK => first | k_is | rfl | k_exc | ks_is | decide +kernel)
    (case mk_TK => first | k_is | rfl | k_exc | ks_is | decide +kernel)
    (case kc_TK => first | k_is | rfl | k_exc | ks_is | decide +kernel)
    (case nD_TK => first | k_is | rfl | k_exc | ks_is | decide +kernel)
    (case nA_TK => first | k_is | rfl | k_exc | ks_is | decide +kernel)
    (case a_un_init => first | k_is | rfl | k_exc | ks_is | decide +kernel)
    (case i_un_init => first | k_is | rfl | k_exc | ks_is | decide +kernel)
    (case l_un_init => first | k_is | rfl | k_exc | ks_is | decide +kernel)
    (case b_un_init => first | k_is | rfl | k_exc | ks_is | decide +kernel)
    (case k_un_init => first | k_is | rfl | k_exc | ks_is | decide +kernel)
    (case a_un_step => first | k_is | rfl | k_exc | ks_is | decide +kernel)
    (case i_un_step => first | k_is | rfl | k_exc | ks_is | decide +kernel)
    (case l_un_step => first | k_is | rfl | k_exc | ks_is | decide +kernel)
    (case b_un_step => first | k_is | rfl | k_exc | ks_is | decide +kernel)
    (case k_un_step => first | k_is | rfl | k_exc | ks_is | decide +kernel)
    (case a_un_size => first | k_is | rfl | k_exc | ks_is | decide +kernel)
    (case i_un_size => first | k_is | rfl | k_exc | ks_is | decide +kernel)
    (case l_un_size => first | k_is | rfl | k_exc | ks_is | decide +kernel)
    (case b_un_size => first | k_is | rfl | k_exc | ks_is | decide +kernel)
    (case k_un_size => first | k_is | rfl | k_exc | ks_is | decide +kernel)
    (case a_un_letters => first | k_is | rfl | k_exc | ks_is | decide +kernel)
    (case i_un_letters => first | k_is | rfl | k_exc | ks_is | decide +kernel)
    (case l_un_letters => first | k_is | rfl | k_exc | ks_is | decide +kernel)
    (case b_un_letters => first | k_is | rfl | k_exc | ks_is | decide +kernel)
    (case k_un_letters => first | k_is | rfl | k_exc | ks_is | decide +kernel)
    (case a_un_leaf => first | k_is | rfl | k_exc | ks_is | decide +kernel)
    (case i_un_leaf => first | k_is | rfl | k_exc | ks_is | decide +kernel)
    (case l_un_leaf => first | k_is | rfl | k_exc | ks_is | decide +kernel)
    (case b_un_leaf => first | k_is | rfl | k_exc | ks_is | decide +kernel)
    (case k_un_leaf => first | k_is | rfl | k_exc | ks_is | decide +kernel)
    (case g_OP => first | k_is | rfl | k_exc | ks_is | decide +kernel)
    (case pg_OP => first | k_is | rfl | k_exc | ks_is | decide +kernel)
    (case hd_OP => first | k_is | rfl | k_exc | ks_is | decide +kernel)
    (case po_OP => first | k_is | rfl | k_exc | ks_is | decide +kernel)
    (case sa_OP => first | k_is | rfl | k_exc | ks_is | decide +kernel)
    (case mk_OP => first | k_is | rfl | k_exc | ks_is | decide +kernel)
    (case kc_OP => first | k_is | rfl | k_exc | ks_is | decide +kernel)
    (case nM_OP => first | k_is | rfl | k_exc | ks_is | decide +kernel)
    (case nP_OP => first | k_is | rfl | k_exc | ks_is | decide +kernel)
    (case a_op_init => first | k_is | rfl | k_exc | ks_is | decide +kernel)
    (case i_op_init => first | k_is | rfl | k_exc | ks_is | decide +kernel)
    (case l_op_init => first | k_is | rfl | k_exc | ks_is | decide +kernel)
    (case b_op_init => first | k_is | rfl | k_exc | ks_is | decide +kernel)
    (case k_op_init => first | k_is | rfl | k_exc | ks_is | decide +kernel)

import PyProof.Rows.All
import Wide.All
import OpenK.AllK
import Wide.FinOn
import HandS.ForMost
import HandS.AnyAll
import HandS.EndTab
import HandS.Style
import HandS.Gcd
import HandS.Wide
import HandS.StrMore
import HandS.Evl
import KE.KNest
import HandS.Iter
import PySem.Challenge.RW_countsworn_k00_fractions_reckoned
set_option Elab.async false
set_option linter.all false
set_option maxRecDepth 100000
set_option maxHeartbeats 4000000
namespace Ky
open PySem PySem.Spec PyProof.Rows L2
/-! ### what stays -/
def NoTab (o : HO) : Prop := ∀ ps, o ≠ HO.tbl ps
theorem noTab_tup {xs : List V} : NoTab (.tup xs) := fun ps e => by cases e
theorem noTab_lst {xs : List V} : NoTab (.lst xs) := fun ps e => by cases e
/-- the cells to draw from, at d -/
def Drw (K : PySem.W.Frag) (H : Hp) (d : Addr) : Prop := ∃ (c : Addr) (ns : List Int) (a u z : Int),
  H d = some (.lst [.ref c, .int a, .int u, .int z]) ∧ H c = some (.lst (ns.map V.int)) ∧ -1 ≤ a
theorem Drw.ne {K : PySem.W.Frag} {H : Hp} {d : Addr} (h : Drw K H d) : ∃ xs, H d = some (.lst xs) := by
  obtain ⟨c, ns, a, u, z, h1, _⟩ := h
  exact ⟨_, h1⟩
structure Kept (H H' : Hp) : Prop where
  keep : ∀ b o, NoTab o → H b = some o → H' b = some o
  tab : ∀ P, GxR.TabG H P → GxR.TabG H' P
  free : ∀ b, H' b = none → H b = none
structure KeptD (K : PySem.W.Frag) (d : Addr) (H H' : Hp) : Prop where
  keep : ∀ b o, b ≠ d → NoTab o → H b = some o → H' b = some o
  drw : Drw K H d → Drw K H' d
  tab : ∀ P, GxR.TabG H P → GxR.TabG H' P
  free : ∀ b, H' b = none → H b = none
theorem Kept.refl (H : Hp) : Kept H H := ⟨fun _ _ _ h => h, fun _ h => h, fun _ h => h⟩
theorem Kept.trans {H H1 H2 : Hp} (a : Kept H H1) (b : Kept H1 H2) : Kept H H2 := ⟨fun c o n h => b.keep c o n (a.keep c o n h), fun P h => b.tab P (a.tab P h), fun c h => a.free c (b.free c h)⟩
theorem KeptD.refl {K : PySem.W.Frag} {d : Addr} (H : Hp) : KeptD K d H H := ⟨fun _ _ _ _ h => h, fun h => h, fun _ h => h, fun _ h => h⟩
theorem KeptD.trans {K : PySem.W.Frag} {d : Addr} {H H1 H2 : Hp} (a : KeptD K d H H1) (b : KeptD K d H1 H2) : KeptD K d H H2 :=
  ⟨fun c o n m h => b.keep c o n m (a.keep c o n m h), fun h => b.drw (a.drw h), fun P h => b.tab P (a.tab P h), fun c h => a.free c (b.free c h)⟩
theorem Kept.toD {K : PySem.W.Frag} {d : Addr} {H H' : Hp} (a : Kept H H') : KeptD K d H H' := ⟨fun b o _ n h => a.keep b o n h, fun h => by
  obtain ⟨c, ns, i, u, z, h1, h2, h3⟩ := h
  exact ⟨c, ns, i, u, z, a.keep _ _ noTab_lst h1, a.keep _ _ noTab_lst h2, h3⟩, a.tab, a.free⟩
theorem upd_free {H : Hp} {p b : Addr} {o : HO} (h : upd H p o b = none) : H b = none ∧ b ≠ p := by
  by_cases z : b = p
  · rw [z, upd_same] at h
    cases h
  · rw [upd_ne z] at h
    exact ⟨h, z⟩
theorem Kept.new {H : Hp} {p : Addr} {o : HO} (h : H p = none) : Kept H (upd H p o) := ⟨fun a u _ e => by
  rw [upd_ne (ne_of_none e h)]
  exact e, fun P hP => by
  obtain ⟨ps, h1, h2⟩ := hP
  exact ⟨ps, by rw [upd_ne (ne_of_none h1 h)]; exact h1, h2⟩, fun b hb => (upd_free hb).1⟩
theorem Kept.mut {H H' : Hp} {p : Addr} {o : HO} (e : Kept H H') (h : H p = none) : Kept H (upd H' p o) := ⟨fun a u n ha => by
  rw [upd_ne (ne_of_none ha h)]
  exact e.keep a u n ha, fun P hP => by
  obtain ⟨ps, h1, h2⟩ := hP
  have nP := ne_of_none h1 h
  obtain ⟨qs, g1, g2⟩ := e.tab P ⟨ps, h1, h2⟩
  exact ⟨qs, by rw [upd_ne nP]; exact g1, g2⟩, fun b hb => e.free b (upd_free hb).1⟩
theorem Kept.tabbed {H H' : Hp} {P : Addr} (hP : GxR.TabG H P) (e : GxR.Tabbed P H H') : Kept H H' := ⟨fun b o n h => by
  have nP : b ≠ P := fun z => by
    obtain ⟨ps, h1, _⟩ := hP
    rw [z, h1] at h
    exact n ps (Option.some.inj h).symm
  rw [e.2 b nP]
  exact h, fun P' h' => by
  by_cases z : P' = P
  · rw [z]
    exact e.1
  · obtain ⟨ps, h1, h2⟩ := h'
    exact ⟨ps, by rw [e.2 P' z]; exact h1, h2⟩, fun b h => by
  by_cases z : b = P
  · obtain ⟨ps, h1, _⟩ := e.1
    rw [z, h1] at h
    cases h
  · rw [e.2 b z] at h
    exact h⟩
theorem Kept.sq {K : PySem.W.Frag} {H H' : Hp} {a : Addr} {xs : List V} (e : Kept H H') (h : SqL K H a xs) : SqL K H' a xs := by
  rcases h with (h | ⟨o, h⟩) | h
  · exact .inl (.inl (e.keep _ _ noTab_lst h))
  · exact .inl (.inr ⟨o, e.keep _ _ (fun ps z => by cases z) h⟩)
  · exact .inr h
theorem Kept.tup {H H' : Hp} {p : Addr} {xs : List V} (e : Kept H H') (h : H p = some (.tup xs)) : H' p = some (.tup xs) := e.keep _ _ noTab_tup h
theorem Kept.lst {H H' : Hp} {p : Addr} {xs : List V} (e : Kept H H') (h : H p = some (.lst xs)) : H' p = some (.lst xs) := e.keep _ _ noTab_lst h
theorem KeptD.tup {K : PySem.W.Frag} {d : Addr} {H H' : Hp} {p : Addr} {xs : List V} (e : KeptD K d H H') (hd : Drw K H d) (h : H p = some (.tup xs)) : H' p = some (.tup xs) := e.keep _ _ (fun z => by
  obtain ⟨ys, h'⟩ := hd.ne
  rw [z, h'] at h
  cases h) noTab_tup h
theorem KeptD.lst {K : PySem.W.Frag} {d : Addr} {H H' : Hp} {p : Addr} {xs : List V} (e : KeptD K d H H') (hd : p ≠ d) (h : H p = some (.lst xs)) : H' p = some (.lst xs) := e.keep _ _ hd noTab_lst h
/-! ### a def of the module, to be called -/
structure Df (P : Program) (w : World) (K : PySem.W.Frag) (mg : Str → Option Value) (base : Heap) (k : Nat) (x : Str) (ps : List Str) (sp : Sp) : Prop where
  ex : ∃ f fd, FnOk P w K mg base CX0 k f fd ps sp ∧ mg x = some (.ref f) ∧ PySem.W.keepIn K (.ref f) = true ∧ Binds K fd ps []
section
variable {X : Cx} {k : Nat} {ps : List Str} {sp : Sp} {x : Str} {p pos : Pos} {e : Expr} {es : List Expr} {t : TA}
theorem pe_df (D : Df X.prog X.w X.K X.mg X.base k x ps sp) (hr : Room k X.A) (hg : Gl X x) (ha : PA X (e :: es) t) (hdb : (x == ("__debug__" : Str)) = false := by decide)
    (he : starEach (e :: es) X.env = (false, eval e X.env) :: starEach es X.env := by rfl) (hpl : (backTo pos (starEach es X.env)).any (·.1) = false := by rfl) :
    PE X (.Call (.Name x p) (e :: es) [] pos) (tCall sp [] E0 t) := by
  obtain ⟨f, fd, F, hm, hk, hb⟩ := D.ex
  exact pe_call F hr hg hm hk hb .nil pass0 ha hdb he hpl
end
/-! ### a def whose code object is told -/
structure FunC (K : PySem.W.Frag) (x : Str) (st : Stmt) (f : Addr) (fd : FuncData) (c : Addr) : Prop where
  ex : ∃ (oc : Value) (od : Option Addr) (kV doc pm : Value) (an : Option Addr) (ct : Value) (osl : Array (Option Value)),
    fd = PySem.W.fnOf x x (defArgs st) (defBody st) (defScope st) .none kV doc pm an (.ref c) ct ∧ K.lookup f = some ⟨oc, od, .func fd, osl⟩ ∧ PySem.W.codeIn K (.ref c) x = true
theorem FunC.ok {P : Program} {w : World} {K : PySem.W.Frag} {mg : Str → Option Value} {base : Heap} {x : Str} {st : Stmt} {f c : Addr} {fd : FuncData} {N ps : List Str} {k : Nat} {sp : Sp} (F : FunC K x st f fd c) (S : FnScope N ps (defScope st)) (len : ∀ vs H Q E, sp vs H Q E → vs.length = ps.length)
    (body : ∀ (A : Around) (outer : List Env) (s : Shared) (H : Hp) (vs : List V) (Q : VK) (E : XK), Room k (A.deeper (envOfC x (defScope st) s.heap.objs.size f (.ref c))) → sp vs H Q E →
      ∃ t, PSs (cxOf CX0 P w K mg base N x (defScope st) f (.ref c) A outer s H E).nox (defBody st) t ∧ t { nx := fun _ H' => Q .non H', rt := Q } (start N vs) H) : FnOk P w K mg base CX0 (k + 1) f fd ps sp := by
  obtain ⟨oc, od, kV, doc, pm, an, ct, osl, e, lk, hcd⟩ := F.ex
  subst e
  refine fn_of lk hcd S len fun A outer s H vs Q E hr hsp => ?_
  obtain ⟨t, h, q⟩ := body A outer s H vs Q E hr hsp
  exact ⟨t, h.nox, q⟩
/-- one sign among those of a written text, as the test of a generator expression -/
theorem elt_in {prog : Program} {w : World} {scope : Scope} {x k : Str} {j : Nat} {p1 p2 p3 : Pos} (hk : scope.kind = .function) (hl : scope.names.lookup x = some .local) (hd : (x == ("__debug__" : Str)) = false := by decide) :
    GxR.EltP prog w scope x (.Compare (.Name x p1) [.In] [.Constant (.str k) j p2] p3) (fun c => decide (c ∈ k.cps.toList)) := by
  intro cenv A' E' c t s2 m2 hs hn hm
  refine wpAny_Compare1 ?_
  refine wpAny_Name (wpAny_loadName_local (by rw [hs]; exact hk) (show cenv.scope.names.lookup x = some .local by rw [hs]; exact hl) hn hm ?_) hd
  refine Calls.Constant_str ?_
  exact PyProof.Rows.in_str ⟨congrArg Value.bool (PySem.StrLaws.found_one k c), GxR.keeps_tok _ _⟩
/-! ### // by any divisor but 0 -/
section
variable {X : Cx}
def CDivA (_ j : Int) : Prop := j ≠ 0 ∧ j.natAbs.log2 < 9000
theorem op_fdivA : OpR X (binaryOp .FloorDiv) (rI CDivA fun i j => .int (i.fdiv j)) := opI fun i j _ _ _ _ _ hc q =>
  floordiv_int hc.1 q (.inl (PyProof.noPylong_of_log2 hc.2))
theorem divA {i j : Int} {b : Nat} (h : j ≠ 0) (hb : j.natAbs < 2 ^ b) (h0 : 0 < b) (h9 : b ≤ 9000) : CDivA i j := ⟨h, Nat.lt_of_lt_of_le (PySem.Flt.log2_lt_of h0 hb) h9⟩
end
/-! ### one step of a reading -/
section
variable {σ σ' : L2.St} {H : Hp} {Q : VK} {D : Ends} {ta tb te : TE} {t u c : TT} {tq : TA} {s1 s2 : TS} {K : PySem.W.Frag} {v x y : V} {i : Nat} {G : TG}
theorem w_seq (q : s1 { nx := s2 D, rt := D.rt, bk := D.bk, ct := D.ct } σ H) : tSeq s1 s2 D σ H := q
theorem w_next (q : D.nx σ H) : tNext D σ H := q
theorem w_asg (q : te σ H fun v H1 => D.nx (σ.set i (some v)) H1) : tAsg te (gName i) D σ H := q
theorem w_asgG (q : te σ H fun v H1 => G v σ H1 D.nx) : tAsg te G D σ H := q
theorem w_drop (q : te σ H fun _ H1 => D.nx σ H1) : tDrop te D σ H := q
theorem w_ret (q : te σ H D.rt) : tRet te D σ H := q
theorem w_ifs (q : c σ H fun b H1 => if b = true then s1 D σ H1 else s2 D σ H1) : tIfS c s1 s2 D σ H := q
theorem w_var (h : σ[i]? = some (some v)) (q : Q v H) : tVar i σ H Q := ⟨v, h, q⟩
theorem w_c (q : Q v H) : tC v σ H Q := q
theorem w_op {r : R2} (q : ta σ H fun x H1 => tb σ H1 fun y H2 => r x y H2 Q) : tOp r ta tb σ H Q := q
theorem w_un {r : V → Hp → VK → Prop} (q : ta σ H fun x H1 => r x H1 Q) : tUn r ta σ H Q := q
theorem w_I0 {g : Int → Int → V} {i j : Int} (q : Q (g i j) H) : rI0 g (.int i) (.int j) H Q := ⟨i, j, rfl, rfl, q⟩
theorem w_I {C : Int → Int → Prop} {g : Int → Int → V} {i j : Int} (h : C i j) (q : Q (g i j) H) : rI C g (.int i) (.int j) H Q := ⟨i, j, rfl, rfl, h, q⟩
theorem w_U {g : Int → V} {i : Int} (q : Q (g i) H) : rU g (.int i) H Q := ⟨i, rfl, q⟩
theorem w_nil {R : List V → Hp → Prop} (q : R [] H) : tNil σ H R := q
theorem w_cons {R : List V → Hp → Prop} (q : te σ H fun x H1 => tq σ H1 fun xs H2 => R (x :: xs) H2) : tCons te tq σ H R := q
theorem w_call {sp : Sp} {dvs : List V} {E : XK} (q : tq σ H fun vs H1 => sp (vs ++ dvs) H1 Q E) : tCall sp dvs E tq σ H Q := q
theorem w_cb {r : List V → Hp → VK → Prop} (q : tq σ H fun vs H1 => r vs H1 Q) : tCB r tq σ H Q := q
theorem w_test {R : Bool → Hp → Prop} (q : te σ H fun x H' => ∃ k, x = .bl k ∧ R k H') : tTest te σ H R := q
theorem w_B {R : Bool → Hp → Prop} (q : te σ H fun x H' => ∃ k, x = .bl k ∧ R k H') : tB te σ H R := q
theorem w_bl {R : Bool → Prop} {b : Bool} (q : R b) : ∃ k, V.bl b = .bl k ∧ R k := ⟨b, rfl, q⟩
theorem w_and {R : Bool → Hp → Prop} (q : t σ H fun b H1 => if b = true then u σ H1 R else R false H1) : tAnd t u σ H R := q
theorem w_or {R : Bool → Hp → Prop} (q : t σ H fun b H1 => if b = true then R true H1 else u σ H1 R) : tOr t u σ H R := q
theorem w_not {R : Bool → Hp → Prop} (q : t σ H fun b H1 => R (!b) H1) : tNot t σ H R := q
theorem w_ife (q : t σ H fun b H1 => if b = true then ta σ H1 Q else tb σ H1 Q) : tIf t ta tb σ H Q := q
theorem w_ixT {p : Addr} {xs : List V} {i : Int} (h : H p = some (.tup xs)) (ha : atI xs i = some v) (q : Q v H) : rIxT K (.ref p) (.int i) H Q := ⟨p, xs, i, v, rfl, rfl, SqT.of h, ha, q⟩
theorem w_ixL {p : Addr} {xs : List V} {i : Int} (h : H p = some (.lst xs)) (ha : atI xs i = some v) (q : Q v H) : rIxL K (.ref p) (.int i) H Q := ⟨p, xs, i, v, rfl, rfl, SqL.of h, ha, q⟩
theorem w_eq (h : scal x y = true) (q : Q (.bl (decide (x = y))) H) : rEq x y H Q := ⟨h, q⟩
theorem w_ne (h : scal x y = true) (q : Q (.bl (!decide (x = y))) H) : rNe x y H Q := ⟨h, q⟩
theorem w_tup (q : tq σ H fun xs H1 => xs.length ≤ sizeLine ∧ ∀ p, H1 p = none → Q (.ref p) (upd H1 p (.tup xs))) : tTup tq σ H Q := q
theorem w_lst (q : tq σ H fun xs H1 => xs.length ≤ sizeLine ∧ ∀ p, H1 p = none → Q (.ref p) (upd H1 p (.lst xs))) : tLst tq σ H Q := q
theorem w_bm {T : String} {r : V → List V → Hp → VK → Prop} (q : te σ H fun x H1 => tyV K T x H1 ∧ tq σ H1 fun xs H2 => r x xs H2 Q) : tBM K T r te tq σ H Q := q
theorem w_m1 {r : V → List V → Hp → VK → Prop} (q : ta σ H fun x H1 => (∃ a, x = .str a) ∧ tb σ H1 fun y H2 => r x [y] H2 Q) : tM1 r ta tb σ H Q := q
theorem w_tyL {A : Prop} {l : Addr} {xs : List V} (h : H l = some (.lst xs)) (q : A) : tyV K "list" (.ref l) H ∧ A := ⟨.inl ⟨rfl, _, SqL.of h⟩, q⟩
theorem w_tyS {A : Prop} {z : Str} (q : A) : tyV K "str" (.str z) H ∧ A := ⟨rfl, q⟩
theorem w_isS {A : Prop} {z : Str} (q : A) : (∃ a, V.str z = .str a) ∧ A := ⟨⟨_, rfl⟩, q⟩
theorem w_app {l : Addr} {xs : List V} (h : H l = some (.lst xs)) (hl : xs.length < sizeLine) (q : Q .non (upd H l (.lst (xs ++ [y])))) : rAppend (.ref l) [y] H Q := ⟨l, xs, y, rfl, rfl, h, hl, q⟩
theorem w_gn {R : L2.St → Hp → Prop} (q : R (σ.set i (some v)) H) : gName i v σ H R := q
theorem w_gsub {ts : TSet} {R : L2.St → Hp → Prop} (q : ta σ H fun o H1 => tb σ H1 fun i H2 => ts o i v H2 fun H3 => R σ H3) : gSub ta tb ts v σ H R := q
theorem w_setL {p : Addr} {xs : List V} {k : Int} {j : Nat} {R : Hp → Prop} (h : H p = some (.lst xs)) (hj : ixN xs.length k = some j) (q : R (upd H p (.lst (xs.set j v)))) : rSetL (.ref p) (.int k) v H R := ⟨p, xs, k, j, rfl, rfl, h, hj, q⟩
theorem w_yes {R : Bool → Hp → Prop} (q : R true H) : tYes σ H R := q
theorem w_sl {r : V → Option Int → Option Int → Hp → VK → Prop} {tl th : TO} (q : te σ H fun x H1 => tl σ H1 fun l H2 => th σ H2 fun u H3 => r x l u H3 Q) : tSl r te tl th σ H Q := q
theorem w_part {R : Option Int → Hp → Prop} (q : te σ H fun x H1 => ∃ i, x = .int i ∧ R (some i) H1) : tPart te σ H R := q
theorem w_nop {R : Option Int → Hp → Prop} (q : R none H) : tNoPart σ H R := q
theorem w_isI {R : Int → Prop} {n : Int} (q : R n) : ∃ i, V.int n = .int i ∧ R i := ⟨n, rfl, q⟩
theorem if_t {A B : Prop} {b : Bool} (h : b = true) (q : A) : if b = true then A else B := by rw [if_pos h]; exact q
theorem if_f {A B : Prop} {b : Bool} (h : b = false) (q : B) : if b = true then A else B := by rw [h]; exact iteF q
end
local macro_rules | `(tactic| walk_at "rd") => `(tactic| repeat (first
  | with_reducible refine w_seq ?_
  | with_reducible refine w_asg ?_
  | with_reducible refine w_ret ?_
  | with_reducible refine w_drop ?_
  | with_reducible refine w_ifs ?_
  | ((with_reducible refine' w_var ?hh ?_); (case hh => exact rfl))
  | with_reducible refine w_c ?_
  | with_reducible refine w_op ?_
  | with_reducible refine w_un ?_
  | with_reducible refine w_I0 ?_
  | with_reducible refine w_U ?_
  | with_reducible refine w_nil ?_
  | with_reducible refine w_cons ?_
  | with_reducible refine w_call ?_
  | with_reducible refine w_cb ?_
  | with_reducible refine w_test ?_
  | with_reducible refine w_B ?_
  | with_reducible refine w_bl ?_
  | with_reducible refine w_and ?_
  | with_reducible refine w_or ?_
  | with_reducible refine w_not ?_
  | with_reducible refine w_ife ?_
  | with_reducible refine w_tup ?_
  | with_reducible refine w_lst ?_
  | with_reducible refine w_next ?_
  | with_reducible refine w_bm ?_
  | with_reducible refine w_sl ?_
  | with_reducible refine w_part ?_
  | with_reducible refine w_nop ?_
  | with_reducible refine w_isI ?_
  | with_reducible refine w_yes ?_
  | with_reducible refine w_gn ?_
  | with_reducible refine w_gsub ?_
  | ((with_reducible refine' w_setL ?h1 ?h2 ?_); (case h1 => first | assumption | exact upd_same); (case h2 => exact rfl))
  | with_reducible refine w_asgG ?_
  | with_reducible refine w_m1 ?_
  | with_reducible refine w_isS ?_
  | with_reducible refine w_tyS ?_
  | ((with_reducible refine' w_tyL ?h1 ?_); (case h1 => first | assumption | exact upd_same))
  | ((with_reducible refine' w_ixT ?h1 ?h2 ?_); (case h1 => first | assumption | exact upd_same); (case h2 => exact rfl))
  | ((with_reducible refine' w_ixL ?h1 ?h2 ?_); (case h1 => first | assumption | exact upd_same); (case h2 => exact rfl))
  | ((with_reducible refine w_eq ?h1 ?_); (case h1 => exact rfl))
  | ((with_reducible refine w_ne ?h1 ?_); (case h1 => exact rfl))
  | dsimp only [List.set_cons_zero, List.set_cons_succ, List.append_nil, List.cons_append, List.nil_append, cxOf]))
/-! ### the law's own draws -/
/-- only the list at d has changed, and it is still cells, a place, a rest, a mixed row -/
def TakeSt (H : Hp) (c d : Addr) (H' : Hp) : Prop := (∀ b, b ≠ d → H' b = H b) ∧ ∃ a u z : Int, H' d = some (.lst [.ref c, .int a, .int u, .int z]) ∧ -1 ≤ a
theorem TakeSt.upd {H H' : Hp} {c d : Addr} {a u z : Int} (h : TakeSt H c d H') (ha : -1 ≤ a) : TakeSt H c d (L2.upd H' d (.lst [.ref c, .int a, .int u, .int z])) :=
  ⟨fun b hb => by rw [upd_ne hb]; exact h.1 b hb, a, u, z, upd_same, ha⟩
theorem TakeSt.kept {K : PySem.W.Frag} {H H' : Hp} {c d : Addr} {ns : List Int} {xs : List V} (h : TakeSt H c d H') (hd : H d = some (.lst xs)) (hc : H c = some (.lst (ns.map V.int))) (ne : c ≠ d) : KeptD K d H H' := by
  obtain ⟨h1, a, u, z, h2, h3⟩ := h
  refine ⟨fun b o hb _ q => by rw [h1 b hb]; exact q, fun _ => ⟨c, ns, a, u, z, h2, by rw [h1 c ne]; exact hc, h3⟩, fun P hP => ?_, fun b q => ?_⟩
  · obtain ⟨ps, p1, p2⟩ := hP
    have : P ≠ d := fun e => by
      rw [e, hd] at p1
      cases p1
    exact ⟨ps, by rw [h1 P this]; exact p1, p2⟩
  · by_cases e : b = d
    · rw [e, h2] at q
      cases q
    · rw [h1 b e] at q
      exact q
def spTake (K : PySem.W.Frag) : Sp := fun vs H Q _ => ∃ (d : Addr) (m : Int), vs = [.ref d, .int m] ∧ 0 < m ∧ m < 2 ^ 62 ∧ Drw K H d ∧ ∀ (r : Int) H', 0 ≤ r → r < m → KeptD K d H H' → Q (.int r) H'
def spDraw (K : PySem.W.Frag) : Sp := fun vs H Q _ => ∃ (a : Addr) (ns : List Int), vs = [.ref a] ∧ SqL K H a (ns.map V.int) ∧ ns.length ≤ 63 ∧ ∀ d H', H d = none → Kept H H' → Drw K H' d → Q (.ref d) H'
theorem pick_int {ns : List Int} {r : Int} (h0 : 0 ≤ r) (h1 : r < (ns.length : Int)) : ∃ v ∈ ns, atI (ns.map V.int) r = some (V.int v) := by
  obtain ⟨j, rfl⟩ : ∃ j : Nat, r = (j : Int) := ⟨r.toNat, by omega⟩
  have hj : j < ns.length := by omega
  refine ⟨ns[j], List.getElem_mem hj, atI_nat ?_⟩
  rw [List.getElem?_map, List.getElem?_eq_getElem hj]
  rfl
theorem map_int {ns : List Int} {i : Nat} {y : V} (h : (ns.map V.int)[i]? = some y) : ∃ u, y = V.int u ∧ ns[i]? = some u := by
  rw [List.getElem?_map] at h
  cases e : ns[i]? with
  | none =>
    rw [e] at h
    cases h
  | some u =>
    rw [e] at h
    exact ⟨u, (Option.some.inj h).symm, rfl⟩
/-! ### fractions -/
def frc (n d : Int) : Int × Int := (n.fdiv (if d < 0 then -((Nat.gcd n.natAbs d.natAbs : Nat) : Int) else ((Nat.gcd n.natAbs d.natAbs : Nat) : Int)),
  d.fdiv (if d < 0 then -((Nat.gcd n.natAbs d.natAbs : Nat) : Int) else ((Nat.gcd n.natAbs d.natAbs : Nat) : Int)))
def FrAt (H : Hp) (p : Addr) (a : Int × Int) : Prop := H p = some (.tup [.int a.1, .int a.2])
def Small (n : Nat) (a : Int × Int) : Prop := a.1.natAbs < 2 ^ n ∧ a.2.natAbs < 2 ^ n
def spFrac : Sp := fun vs H Q _ => ∃ n d : Int, vs = [.int n, .int d] ∧ d ≠ 0 ∧ n.natAbs < 2 ^ 1000 ∧ d.natAbs < 2 ^ 1000 ∧
  ∀ p H', H p = none → Kept H H' → FrAt H' p (frc n d) → Q (.ref p) H'
end Ky

namespace Ky
open PySem PySem.Spec PyProof.Rows L2 TL PySem.Builtin.Str
/-! ### numbers as texts -/
def numS (i : Int) : Str := toString i
def numI (i : Int) : List Nat := if i < 0 then 45 :: numL i.natAbs else numL i.natAbs
theorem tl_numS (i : Int) : tl (numS i) = numI i := by
  cases i with
  | ofNat n =>
    unfold numI
    rw [if_neg (show ¬ (Int.ofNat n < 0) from by have := Int.natCast_nonneg n; exact Int.not_lt.mpr this)]
    exact tl_num n
  | negSucc n =>
    unfold numI
    rw [if_pos (Int.negSucc_lt_zero n)]
    show tl (Str.ofString (toString (Int.negSucc n))) = 45 :: numL (n + 1)
    rw [tl_ofString]
    have e : (toString (Int.negSucc n)).toList = '-' :: (toString ((n + 1 : Nat) : Int)).toList := by
      show ("-" ++ toString (n + 1)).toList = _
      rw [String.toList_append]
      rfl
    rw [e, List.map_cons]
    have h := tl_num (n + 1)
    rw [tl_ofString] at h
    rw [h]
    rfl
theorem tl_nat (n : Nat) : tl (numS (n : Int)) = numL n := tl_num n
theorem numL_head {n : Nat} (h : 0 < n) : ∃ c r, numL n = c :: r ∧ 49 ≤ c ∧ c ≤ 57 := by
  induction n using Nat.strongRecOn with
  | _ n ih =>
    by_cases hn : n < 10
    · exact ⟨48 + n, [], numL_lt hn, by omega, by omega⟩
    · obtain ⟨c, r, e, h1, h2⟩ := ih (n / 10) (by omega) (by omega)
      exact ⟨c, r ++ [48 + n % 10], by rw [numL_step (by omega), e]; rfl, h1, h2⟩
theorem numL_zero : numL 0 = [48] := numL_lt (by decide)
theorem numI_ne (i : Int) : numI i ≠ [] := by
  unfold numI
  split
  · intro h
    cases h
  · exact numL_ne _
theorem numI_free {i : Int} {s : Nat} (h : s < 48 ∨ 57 < s) (h2 : s ≠ 45) : s ∉ numI i := by
  unfold numI
  split
  · intro hm
    rcases List.mem_cons.mp hm with z | z
    · exact h2 z
    · exact numL_free h z
  · exact numL_free h
/-! ### methods of texts, on their signs -/
theorem tl_one {s : String} {c : Nat} (h : s.toList.map Char.toNat = [c]) : tl (Str.ofString s) = [c] := by
  rw [tl_ofString, h]
theorem subAt0 (x y : Str) : subAt x y 0 = ((tl x).take (tl y).length == tl y) := by
  rw [StrLaws.subAt_eq]
  rfl
theorem startswith_one {x y : Str} {c : Nat} (hy : tl y = [c]) : Txt.startswith x y = decide ((tl x).head? = some c) := by
  unfold Txt.startswith
  rw [subAt0, hy, len_tl x, len_tl y, hy]
  cases tl x with
  | nil => rfl
  | cons a r =>
    show (decide (0 + 1 ≤ (a :: r).length) && ([a] == [c])) = decide (some a = some c)
    rw [List.length_cons, decide_eq_true (by omega), Bool.true_and]
    by_cases h : a = c
    · subst h; simp
    · simp [h]
theorem removeprefix_one {x y : Str} {c : Nat} (hy : tl y = [c]) : tl (Txt.removeprefix x y) = (match tl x with | a :: r => if a = c then r else a :: r | [] => []) := by
  unfold Txt.removeprefix
  rw [subAt0, hy]
  cases h : tl x with
  | nil =>
    show tl (Txt.affix x none) = []
    exact h
  | cons a r =>
    by_cases e : a = c
    · subst e
      have e1 : ((a :: r).take ([a] : List Nat).length == [a]) = true := by simp
      rw [if_pos e1]
      show _ = (if a = a then r else a :: r)
      rw [if_pos rfl]
      unfold Txt.affix
      have hx : x.length = r.length + 1 := by rw [len_tl, h]; rfl
      have hy1 : y.length = 1 := by rw [len_tl, hy]; rfl
      show tl (if (x.length - y.length == x.length) = true then x else strSub x y.length x.length) = r
      rw [if_neg (by rw [hx, hy1, beq_iff_eq]; omega), hy1, tl_strSub_end, h]
      rfl
    · have e1 : ((a :: r).take ([c] : List Nat).length == [c]) = false := by simp [e]
      rw [if_neg (by rw [e1]; decide)]
      show _ = (if a = c then r else a :: r)
      rw [if_neg e]
      exact h
theorem zfill_plain {x : Str} {i : Int} (h : ∀ c, (tl x).head? = some c → c ≠ 43 ∧ c ≠ 45) : tl (Txt.zfill x i) = List.replicate (i.toNat - (tl x).length) 48 ++ tl x := by
  unfold Txt.zfill
  by_cases hi : i ≤ x.length
  · rw [if_pos hi]
    have : i.toNat - (tl x).length = 0 := by
      rw [len_tl] at hi
      omega
    rw [this]
    rfl
  · rw [if_neg hi]
    have e : zfilled x (i.toNat - x.length) = padded x (i.toNat - x.length) 0 48 := by
      unfold zfilled
      have hh : x.cps[0]? = (tl x).head? := by
        rw [← Array.getElem?_toList, List.head?_eq_getElem?]
      rw [hh]
      cases q : (tl x).head? with
      | none => rfl
      | some c =>
        obtain ⟨h1, h2⟩ := h c q
        split
        · rename_i z
          exact absurd (Option.some.inj z) h1
        · rename_i z
          exact absurd (Option.some.inj z) h2
        · rfl
    rw [e]
    unfold padded
    show (Array.replicate (i.toNat - x.length) 48 ++ x.cps ++ Array.replicate 0 48).toList = _
    simp [len_tl]
theorem tl_cut (z : Str) (lo hi : Option Int) : tl (cutS z lo hi) = ((tl z).drop (HT.sIx (tl z).length 0 lo)).take (HT.sIx (tl z).length (tl z).length hi - HT.sIx (tl z).length 0 lo) := by
  unfold cutS
  rw [tl_mk, len_tl]
/-! ### fractions as texts -/
def shL (a : Int × Int) : List Nat := if a.2 = 1 then numI a.1 else numI a.1 ++ 47 :: numI a.2
def slash : Str := Str.ofString "/"
theorem tl_slash : tl slash = [47] := by
  unfold slash
  rw [tl_ofString]
  rfl
def shF (a : Int × Int) : Str := if a.2 = 1 then numS a.1 else numS a.1 ++ slash ++ numS a.2
theorem tl_shF (a : Int × Int) : tl (shF a) = shL a := by
  unfold shF shL
  split
  · exact tl_numS _
  · rw [tl_append, tl_append, tl_numS, tl_numS, tl_slash, List.append_assoc]
    rfl
theorem join_one (e x : Str) : Txt.join e [x] = x := by
  rw [join_eq]
  apply ext_tl
  rw [tl_join]
  rfl
theorem join_two (e x y : Str) (he : tl e = []) : Txt.join e [x, y] = x ++ y := by
  rw [join_eq]
  apply ext_tl
  rw [tl_join, he, tl_append]
  rfl
theorem numI_len {i : Int} {k : Nat} (hk : 0 < k) (h : i.natAbs < 10 ^ k) : (numI i).length ≤ k + 1 := by
  have := numL_len hk h
  unfold numI
  split
  · rw [List.length_cons]
    omega
  · omega
/-! ### a text read as a number, as a fraction -/
def dig (c : Nat) : Bool := decide (48 ≤ c) && decide (c ≤ 57)
def rdN (l : List Nat) : Option Nat := if l = [] then none else if l.head? = some 48 ∧ l ≠ [48] then none else if l.all dig = true then some (NumText.digitsVal l) else none
theorem all_dig {l : List Nat} (h : NumText.AllDigits l) : l.all dig = true := List.all_eq_true.mpr fun c hc => by
  have := h c hc
  unfold dig
  rw [decide_eq_true this.1, decide_eq_true this.2]
  rfl
theorem dig_all {l : List Nat} (h : l.all dig = true) : NumText.AllDigits l := fun c hc => by
  have := List.all_eq_true.mp h c hc
  unfold dig at this
  rw [Bool.and_eq_true, decide_eq_true_eq, decide_eq_true_eq] at this
  exact this
theorem rdN_numL (n : Nat) : rdN (numL n) = some n := by
  unfold rdN
  rw [if_neg (numL_ne n)]
  have e : ¬ ((numL n).head? = some 48 ∧ numL n ≠ [48]) := by
    rintro ⟨h1, h2⟩
    rcases Nat.eq_zero_or_pos n with h | h
    · subst h
      exact h2 numL_zero
    · obtain ⟨c, r, e, h3, _⟩ := numL_head h
      rw [e] at h1
      have : c = 48 := Option.some.inj h1
      omega
  rw [if_neg e, if_pos (all_dig (numL_digits n)), numL_val]
/-- what stands ahead of the first /, whether there is one, what stands behind -/
def partL (l : List Nat) : List Nat × Bool × List Nat := match par [47] [] l with | some (a, b) => (a, true, b) | none => (l, false, [])
def unsign (l : List Nat) : List Nat := match l with | a :: r => if a = 45 then r else a :: r | [] => []
def rdF (l : List Nat) : Option (Int × Int) :=
  match rdN (unsign (partL l).1), (if (partL l).2.1 = true then rdN (partL l).2.2 else some 1) with
  | some n, some d => if d = 0 then none else
      if shL (frc (if (partL l).1.head? = some 45 then -(n : Int) else (n : Int)) (d : Int)) = l then some (frc (if (partL l).1.head? = some 45 then -(n : Int) else (n : Int)) (d : Int)) else none
  | _, _ => none
end Ky

namespace Ky
open PySem PySem.Spec PyProof.Rows L2 TL
/-! ### fractions, reckoned -/
theorem frc_spec {n d : Int} (hd : d ≠ 0) : ∃ c : Int, c ≠ 0 ∧ n = (frc n d).1 * c ∧ d = (frc n d).2 * c ∧ 0 < (frc n d).2 ∧ Nat.gcd (frc n d).1.natAbs (frc n d).2.natAbs = 1 := by
  have g0 : Nat.gcd n.natAbs d.natAbs ≠ 0 := by
    intro h
    have := Nat.eq_zero_of_gcd_eq_zero_right h
    omega
  generalize hg : Nat.gcd n.natAbs d.natAbs = g at g0
  have dn : (g : Int) ∣ n := Int.ofNat_dvd_left.mpr (hg ▸ Nat.gcd_dvd_left _ _)
  have dd : (g : Int) ∣ d := Int.ofNat_dvd_left.mpr (hg ▸ Nat.gcd_dvd_right _ _)
  obtain ⟨c, hc, hcs⟩ : ∃ c : Int, (if d < 0 then -(g : Int) else (g : Int)) = c ∧ c.natAbs = g := ⟨_, rfl, by split <;> omega⟩
  have c0 : c ≠ 0 := by omega
  have cn : c ∣ n := by
    rw [← hc]
    split
    · exact Int.neg_dvd.mpr dn
    · exact dn
  have cd : c ∣ d := by
    rw [← hc]
    split
    · exact Int.neg_dvd.mpr dd
    · exact dd
  have e1 : (frc n d).1 = n / c := by
    unfold frc
    rw [hg, hc]
    exact Int.fdiv_eq_ediv_of_dvd cn
  have e2 : (frc n d).2 = d / c := by
    unfold frc
    rw [hg, hc]
    exact Int.fdiv_eq_ediv_of_dvd cd
  have f1 : n = (frc n d).1 * c := by rw [e1, Int.ediv_mul_cancel cn]
  have f2 : d = (frc n d).2 * c := by rw [e2, Int.ediv_mul_cancel cd]
  refine ⟨c, c0, f1, f2, ?_, ?_⟩
  · have hx := f2
    generalize (frc n d).2 = y at hx
    have hs : (d < 0 ∧ c < 0) ∨ (0 < d ∧ 0 < c) := by
      by_cases h : d < 0
      · left
        refine ⟨h, ?_⟩
        rw [if_pos h] at hc
        omega
      · right
        rw [if_neg h] at hc
        omega
    rcases hs with ⟨h1, h2⟩ | ⟨h1, h2⟩
    · by_cases hy : 0 < y
      · exact hy
      · have := Int.mul_nonneg_of_nonpos_of_nonpos (a := y) (b := c) (by omega) (by omega)
        omega
    · by_cases hy : 0 < y
      · exact hy
      · have := Int.mul_nonpos_of_nonpos_of_nonneg (a := y) (b := c) (by omega) (by omega)
        omega
  · have h3 : Nat.gcd ((frc n d).1 * c).natAbs ((frc n d).2 * c).natAbs = g := by
      rw [← f1, ← f2]
      exact hg
    rw [Int.natAbs_mul, Int.natAbs_mul, Nat.gcd_mul_right, hcs] at h3
    exact Nat.eq_of_mul_eq_mul_right (show 0 < g by omega) (by rw [h3, Nat.one_mul])
theorem frc_pos {n d : Int} (hd : d ≠ 0) : 0 < (frc n d).2 := by
  obtain ⟨_, _, _, _, h, _⟩ := frc_spec (n := n) hd
  exact h
theorem natAbs_le_mul {x c : Int} (h : c ≠ 0) : x.natAbs ≤ (x * c).natAbs := by
  rw [Int.natAbs_mul]
  exact Nat.le_mul_of_pos_right _ (by omega)
theorem frc_le {n d : Int} (hd : d ≠ 0) : (frc n d).1.natAbs ≤ n.natAbs ∧ (frc n d).2.natAbs ≤ d.natAbs := by
  obtain ⟨c, c0, h1, h2, _⟩ := frc_spec (n := n) hd
  constructor
  · have := natAbs_le_mul (x := (frc n d).1) c0
    rw [← h1] at this
    exact this
  · have := natAbs_le_mul (x := (frc n d).2) c0
    rw [← h2] at this
    exact this
theorem frc_small {n d : Int} {b : Nat} (hd : d ≠ 0) (bn : n.natAbs < 2 ^ b) (bd : d.natAbs < 2 ^ b) : Small b (frc n d) :=
  ⟨Nat.lt_of_le_of_lt (frc_le hd).1 bn, Nat.lt_of_le_of_lt (frc_le hd).2 bd⟩
/-- two reduced pairs with the same cross products are one -/
theorem red_eq {a b x y : Int} (hb : 0 < b) (hy : 0 < y) (g1 : Nat.gcd a.natAbs b.natAbs = 1) (g2 : Nat.gcd x.natAbs y.natAbs = 1) (h : a * y = x * b) : a = x ∧ b = y := by
  have hn : a.natAbs * y.natAbs = x.natAbs * b.natAbs := by
    rw [← Int.natAbs_mul, ← Int.natAbs_mul, h]
  have d1 : b.natAbs ∣ y.natAbs := Nat.Coprime.dvd_of_dvd_mul_left (show Nat.Coprime b.natAbs a.natAbs by rw [Nat.Coprime, Nat.gcd_comm]; exact g1) ⟨x.natAbs, by rw [hn, Nat.mul_comm]⟩
  have d2 : y.natAbs ∣ b.natAbs := Nat.Coprime.dvd_of_dvd_mul_left (show Nat.Coprime y.natAbs x.natAbs by rw [Nat.Coprime, Nat.gcd_comm]; exact g2) ⟨a.natAbs, by rw [← hn, Nat.mul_comm]⟩
  have e : b = y := by
    have := Nat.dvd_antisymm d1 d2
    omega
  subst e
  exact ⟨Int.eq_of_mul_eq_mul_right (by omega) h, rfl⟩
theorem frc_eq {n d m e : Int} (hd : d ≠ 0) (he : e ≠ 0) (h : n * e = m * d) : frc n d = frc m e := by
  obtain ⟨c, c0, h1, h2, h3, h4⟩ := frc_spec (n := n) hd
  obtain ⟨k, k0, j1, j2, j3, j4⟩ := frc_spec (n := m) he
  have hx : (frc n d).1 * (frc m e).2 = (frc m e).1 * (frc n d).2 := by
    have : ((frc n d).1 * (frc m e).2) * (c * k) = ((frc m e).1 * (frc n d).2) * (c * k) := by
      calc ((frc n d).1 * (frc m e).2) * (c * k) = ((frc n d).1 * c) * ((frc m e).2 * k) := by
            rw [Int.mul_assoc, Int.mul_assoc, Int.mul_left_comm (frc m e).2 c k]
        _ = n * e := by rw [← h1, ← j2]
        _ = m * d := h
        _ = ((frc m e).1 * k) * ((frc n d).2 * c) := by rw [← j1, ← h2]
        _ = ((frc m e).1 * (frc n d).2) * (c * k) := by
            rw [Int.mul_assoc, Int.mul_assoc, Int.mul_left_comm k (frc n d).2 c, Int.mul_comm k c]
    exact Int.eq_of_mul_eq_mul_right (Int.mul_ne_zero c0 k0) this
  obtain ⟨r1, r2⟩ := red_eq h3 j3 h4 j4 hx
  exact Prod.ext r1 r2
/-- a reduced pair -/
def Red (a : Int × Int) : Prop := 0 < a.2 ∧ Nat.gcd a.1.natAbs a.2.natAbs = 1
theorem frc_red {n d : Int} (hd : d ≠ 0) : Red (frc n d) := by
  obtain ⟨_, _, _, _, h, g⟩ := frc_spec (n := n) hd
  exact ⟨h, g⟩
theorem frc_self {a : Int × Int} (h : Red a) : frc a.1 a.2 = a := by
  obtain ⟨p, g⟩ := h
  obtain ⟨c, c0, h1, h2, h3, h4⟩ := frc_spec (n := a.1) (d := a.2) (by omega)
  have hx : (frc a.1 a.2).1 * a.2 = a.1 * (frc a.1 a.2).2 := by
    calc (frc a.1 a.2).1 * a.2 = (frc a.1 a.2).1 * ((frc a.1 a.2).2 * c) := by rw [← h2]
      _ = ((frc a.1 a.2).1 * c) * (frc a.1 a.2).2 := by rw [Int.mul_assoc, Int.mul_comm (frc a.1 a.2).2 c]
      _ = a.1 * (frc a.1 a.2).2 := by rw [← h1]
  obtain ⟨r1, r2⟩ := red_eq h3 p h4 g hx
  exact Prod.ext r1 r2
/-! sums, products of several -/
def plusF (a b : Int × Int) : Int × Int := frc (a.1 * b.2 + b.1 * a.2) (a.2 * b.2)
def timesF (a b : Int × Int) : Int × Int := frc (a.1 * b.1) (a.2 * b.2)
def totN (as : List (Int × Int)) : Int × Int := as.foldl (fun f r => (f.1 * r.2 + r.1 * f.2, f.2 * r.2)) (0, 1)
def totF (as : List (Int × Int)) : Int × Int := as.foldl plusF (0, 1)
def prN (as : List (Int × Int)) : Int × Int := as.foldl (fun f r => (f.1 * r.1, f.2 * r.2)) (1, 1)
def prF (as : List (Int × Int)) : Int × Int := as.foldl timesF (1, 1)
theorem frc_cross {n d : Int} (hd : d ≠ 0) : (frc n d).1 * d = n * (frc n d).2 := by
  obtain ⟨c, c0, h1, h2, h3, h4⟩ := frc_spec (n := n) hd
  calc (frc n d).1 * d = (frc n d).1 * ((frc n d).2 * c) := by rw [← h2]
    _ = ((frc n d).1 * c) * (frc n d).2 := by rw [Int.mul_assoc, Int.mul_comm (frc n d).2 c]
    _ = n * (frc n d).2 := by rw [← h1]
theorem plus_step {n d x y : Int} (hd : 0 < d) (hy : 0 < y) : plusF (frc n d) (x, y) = frc (n * y + x * d) (d * y) := by
  have p := frc_pos (n := n) (d := d) (by omega)
  refine frc_eq (Int.mul_ne_zero (by omega) (by omega)) (Int.mul_ne_zero (by omega) (by omega)) ?_
  have c := frc_cross (n := n) (d := d) (by omega)
  generalize (frc n d).1 = u at c ⊢
  generalize (frc n d).2 = v at c p ⊢
  show (u * y + x * v) * (d * y) = (n * y + x * d) * (v * y)
  have e1 : (u * y + x * v) * (d * y) = (u * d) * (y * y) + (x * v) * (d * y) := by
    rw [Int.add_mul]
    congr 1
    rw [Int.mul_assoc, Int.mul_assoc, Int.mul_left_comm y d y]
  have e2 : (n * y + x * d) * (v * y) = (n * v) * (y * y) + (x * v) * (d * y) := by
    rw [Int.add_mul]
    congr 1
    · rw [Int.mul_assoc, Int.mul_assoc, Int.mul_left_comm y v y]
    · rw [Int.mul_assoc, Int.mul_assoc, Int.mul_left_comm d v y]
  rw [e1, e2, c]
theorem times_step {n d x y : Int} (hd : 0 < d) (hy : 0 < y) : timesF (frc n d) (x, y) = frc (n * x) (d * y) := by
  have p := frc_pos (n := n) (d := d) (by omega)
  refine frc_eq (Int.mul_ne_zero (by omega) (by omega)) (Int.mul_ne_zero (by omega) (by omega)) ?_
  have c := frc_cross (n := n) (d := d) (by omega)
  generalize (frc n d).1 = u at c ⊢
  generalize (frc n d).2 = v at c p ⊢
  show (u * x) * (d * y) = (n * x) * (v * y)
  calc (u * x) * (d * y) = (u * d) * (x * y) := by rw [Int.mul_assoc, Int.mul_assoc, Int.mul_left_comm x d y]
    _ = (n * v) * (x * y) := by rw [c]
    _ = (n * x) * (v * y) := by rw [Int.mul_assoc, Int.mul_assoc, Int.mul_left_comm v x y]
theorem tot_fold : ∀ (as : List (Int × Int)) (n d : Int), 0 < d → (∀ a ∈ as, 0 < a.2) → as.foldl plusF (frc n d) = frc (as.foldl (fun f r => (f.1 * r.2 + r.1 * f.2, f.2 * r.2)) (n, d)).1 (as.foldl (fun f r => (f.1 * r.2 + r.1 * f.2, f.2 * r.2)) (n, d)).2
  | [], n, d, _, _ => rfl
  | a :: r, n, d, hd, h => by
    have ha := h a (.head _)
    rw [List.foldl_cons, List.foldl_cons, plus_step (x := a.1) (y := a.2) hd ha]
    exact tot_fold r _ _ (Int.mul_pos hd ha) fun b hb => h b (.tail _ hb)
theorem pr_fold : ∀ (as : List (Int × Int)) (n d : Int), 0 < d → (∀ a ∈ as, 0 < a.2) → as.foldl timesF (frc n d) = frc (as.foldl (fun f r => (f.1 * r.1, f.2 * r.2)) (n, d)).1 (as.foldl (fun f r => (f.1 * r.1, f.2 * r.2)) (n, d)).2
  | [], n, d, _, _ => rfl
  | a :: r, n, d, hd, h => by
    have ha := h a (.head _)
    rw [List.foldl_cons, List.foldl_cons, times_step (x := a.1) (y := a.2) hd ha]
    exact pr_fold r _ _ (Int.mul_pos hd ha) fun b hb => h b (.tail _ hb)
theorem frc_01 : frc 0 1 = (0, 1) := by decide
theorem frc_11 : frc 1 1 = (1, 1) := by decide
theorem totF_eq {as : List (Int × Int)} (h : ∀ a ∈ as, 0 < a.2) : totF as = frc (totN as).1 (totN as).2 := by
  have := tot_fold as 0 1 (by decide) h
  rw [frc_01] at this
  exact this
theorem prF_eq {as : List (Int × Int)} (h : ∀ a ∈ as, 0 < a.2) : prF as = frc (prN as).1 (prN as).2 := by
  have := pr_fold as 1 1 (by decide) h
  rw [frc_11] at this
  exact this
end Ky

namespace Ky
open PySem PySem.Spec PyProof.Rows L2 TL
/-! ### rounding -/
def rndL (q m : Nat) : List Nat := if m = 0 then List.replicate (m + 1 - (numL q).length) 48 ++ numL q else
  (List.replicate (m + 1 - (numL q).length) 48 ++ numL q).take ((List.replicate (m + 1 - (numL q).length) 48 ++ numL q).length - m) ++ 46 ::
  (List.replicate (m + 1 - (numL q).length) 48 ++ numL q).drop ((List.replicate (m + 1 - (numL q).length) 48 ++ numL q).length - m)
theorem sIx_neg {n d m : Nat} (h0 : 0 < m) (h : m ≤ n) : HT.sIx n d (some (-(m : Int))) = n - m := by
  unfold HT.sIx
  show (if -(m : Int) < 0 then (-(m : Int) + (n : Int)).toNat else _) = n - m
  rw [if_pos (by omega)]
  omega
theorem sIx_sub {n d m : Nat} (h : m ≤ n) : HT.sIx n d (some ((n : Int) - (m : Int))) = n - m := by
  unfold HT.sIx
  show (if (n : Int) - (m : Int) < 0 then _ else min ((n : Int) - (m : Int)).toNat n) = n - m
  rw [if_neg (by omega)]
  omega
theorem cut_left {z : Str} {o : Option Int} {k : Nat} (h : HT.sIx (tl z).length (tl z).length o = k) : tl (cutS z none o) = (tl z).take k := by
  rw [tl_cut, h]
  rfl
theorem cut_right {z : Str} {o : Option Int} {k : Nat} (h : HT.sIx (tl z).length 0 o = k) : tl (cutS z o none) = (tl z).drop k := by
  rw [tl_cut, h]
  show List.take ((tl z).length - k) _ = _
  rw [List.take_of_length_le]
  rw [List.length_drop]
  exact Nat.le_refl _
/-! ### reading -/
theorem digitsVal_lt : ∀ (l : List Nat) (a b : Nat), NumText.AllDigits l → a < b → l.foldl (fun acc c => acc * 10 + (c - 48)) a < b * 10 ^ l.length
  | [], a, b, _, h => by simpa using h
  | c :: r, a, b, hd, h => by
    have hc := hd c (.head _)
    have := digitsVal_lt r (a * 10 + (c - 48)) (b * 10) (fun x hx => hd x (.tail _ hx)) (by omega)
    rw [List.foldl_cons, List.length_cons, Nat.pow_succ, Nat.mul_comm (10 ^ r.length) 10, ← Nat.mul_assoc]
    exact this
theorem dval_lt {l : List Nat} {k : Nat} (h : NumText.AllDigits l) (hl : l.length ≤ k) : NumText.digitsVal l < 10 ^ k := by
  have := digitsVal_lt l 0 1 h (by decide)
  rw [Nat.one_mul] at this
  exact Nat.lt_of_lt_of_le this (Nat.pow_le_pow_right (by decide) hl)
theorem dval_zeros (k : Nat) (l : List Nat) : NumText.digitsVal (List.replicate k 48 ++ l) = NumText.digitsVal l := by
  induction k with
  | zero => rfl
  | succ k ih =>
    rw [List.replicate_succ, List.cons_append]
    exact ih
theorem shL_free {a : Int × Int} {s : Nat} (h : s < 48 ∨ 57 < s) (h2 : s ≠ 45) (h3 : s ≠ 47) : s ∉ shL a := by
  unfold shL
  split
  · exact numI_free h h2
  · intro hm
    rcases List.mem_append.mp hm with z | z
    · exact numI_free h h2 z
    · rcases List.mem_cons.mp z with z | z
      · exact h3 z
      · exact numI_free h h2 z
theorem no_slash (i : Int) : (47 : Nat) ∉ numI i := numI_free (by decide) (by decide)
theorem last_split {c : Nat} : ∀ {x x' y y' : List Nat}, x ++ c :: y = x' ++ c :: y' → c ∉ y → c ∉ y' → y = y' := by
  intro x x' y y' h hy hy'
  have h2 := congrArg List.reverse h
  simp only [List.reverse_append, List.reverse_cons, List.append_assoc, List.singleton_append] at h2
  have key : ∀ (a b s t : List Nat), c ∉ a → c ∉ b → a ++ c :: s = b ++ c :: t → a = b := by
    intro a
    induction a with
    | nil =>
      intro b s t _ hb e
      cases b with
      | nil => rfl
      | cons z r =>
        rw [List.nil_append, List.cons_append] at e
        injection e with e1 _
        exact absurd (e1 ▸ List.mem_cons_self) hb
    | cons z r ih =>
      intro b s t ha hb e
      cases b with
      | nil =>
        rw [List.nil_append, List.cons_append] at e
        injection e with e1 _
        exact absurd (e1 ▸ List.mem_cons_self) ha
      | cons z' r' =>
        rw [List.cons_append, List.cons_append] at e
        injection e with e1 e2
        rw [e1, ih r' s t (fun h => ha (.tail _ h)) (fun h => hb (.tail _ h)) e2]
  have := key _ _ _ _ (by simpa using hy) (by simpa using hy') h2
  simpa using congrArg List.reverse this
theorem rdF_no1 {l : List Nat} (h : rdN (unsign (partL l).1) = none) : rdF l = none := by
  unfold rdF
  rw [h]
theorem rdF_no2 {l : List Nat} (h : (if (partL l).2.1 = true then rdN (partL l).2.2 else some 1) = none) : rdF l = none := by
  unfold rdF
  rw [h]
  cases rdN (unsign (partL l).1) <;> rfl
theorem rdF_yes {l : List Nat} {n d : Nat} (h1 : rdN (unsign (partL l).1) = some n) (h2 : (if (partL l).2.1 = true then rdN (partL l).2.2 else some 1) = some d) :
    rdF l = if d = 0 then none else if shL (frc (if (partL l).1.head? = some 45 then -(n : Int) else (n : Int)) (d : Int)) = l then some (frc (if (partL l).1.head? = some 45 then -(n : Int) else (n : Int)) (d : Int)) else none := by
  unfold rdF
  rw [h1, h2]
theorem rdF_some {l : List Nat} {a : Int × Int} (h : rdF l = some a) : Red a ∧ shL a = l := by
  unfold rdF at h
  split at h
  · rename_i n d _ _
    split at h
    · cases h
    · rename_i hd
      have hr : Red (frc (if (partL l).1.head? = some 45 then -(n : Int) else (n : Int)) (d : Int)) := frc_red (by omega)
      generalize frc (if (partL l).1.head? = some 45 then -(n : Int) else (n : Int)) (d : Int) = g at h hr
      split at h
      · rename_i hs
        have e := Option.some.inj h
        rw [← e]
        exact ⟨hr, hs⟩
      · cases h
  · cases h
theorem rdF_none {l : List Nat} (h : ∀ a, Red a → shL a ≠ l) : rdF l = none := by
  cases e : rdF l with
  | none => rfl
  | some a =>
    obtain ⟨h1, h2⟩ := rdF_some e
    exact absurd h2 (h a h1)
theorem numI_pos {i : Int} (h : 0 < i) : ∃ c r, numI i = c :: r ∧ 49 ≤ c := by
  unfold numI
  rw [if_neg (by omega)]
  obtain ⟨c, r, e, h1, _⟩ := numL_head (n := i.natAbs) (by omega)
  exact ⟨c, r, e, h1⟩
theorem bad_free {l : List Nat} {s : Nat} (hs : s ∈ l) (h : s < 48 ∨ 57 < s) (h2 : s ≠ 45) (h3 : s ≠ 47) : rdF l = none :=
  rdF_none fun a _ e => shL_free h h2 h3 (e ▸ hs)
theorem bad_zero_below (a : Int × Int) : rdF (shL a ++ [47, 48]) = none := rdF_none fun b hb e => by
  unfold shL at e
  split at e
  · have : (47 : Nat) ∈ numI b.1 := by
      rw [e]
      exact List.mem_append_right _ (.head _)
    exact no_slash _ this
  · have e2 := last_split (c := 47) (y' := [48]) e (no_slash _) (by decide)
    obtain ⟨c, r, e3, h3⟩ := numI_pos hb.1
    rw [e3] at e2
    injection e2 with e4 _
    omega
theorem shL_ne (a : Int × Int) : shL a ≠ [] := by
  unfold shL
  split
  · exact numI_ne _
  · intro h
    have := congrArg List.length h
    simp at this
theorem bad_zero_ahead (a : Int × Int) : rdF (48 :: shL a) = none := rdF_none fun b hb e => by
  have hh : (shL b).head? = some 48 := by rw [e]; rfl
  have hd : ∀ t : List Nat, (numI b.1 ++ t).head? = some 48 → b.1 = 0 := fun t ht => by
    rcases Int.lt_trichotomy b.1 0 with h | h | h
    · unfold numI at ht
      rw [if_pos h] at ht
      cases ht
    · exact h
    · obtain ⟨c, r, e3, h3⟩ := numI_pos h
      rw [e3] at ht
      have : c = 48 := Option.some.inj ht
      omega
  have b0 : b.1 = 0 := by
    unfold shL at hh
    split at hh
    · exact hd [] (by rw [List.append_nil]; exact hh)
    · exact hd _ hh
  have b1 : b.2 = 1 := by
    obtain ⟨p, g⟩ := hb
    rw [b0] at g
    have : Nat.gcd (0 : Int).natAbs b.2.natAbs = b.2.natAbs := Nat.gcd_zero_left _
    omega
  unfold shL at e
  rw [if_pos b1, b0] at e
  have : numI 0 = [48] := numL_zero
  rw [this] at e
  injection e with _ e2
  exact shL_ne a (by unfold shL; exact e2.symm)
theorem unsign_numI (i : Int) : unsign (numI i) = numL i.natAbs := by
  unfold numI
  split
  · rfl
  · unfold unsign
    cases h : numL i.natAbs with
    | nil => exact absurd h (numL_ne _)
    | cons a r =>
      have := numL_digits i.natAbs a (by rw [h]; exact .head _)
      show (if a = 45 then r else a :: r) = a :: r
      rw [if_neg (by omega)]
theorem sign_numI (i : Int) : (if (numI i).head? = some 45 then -((i.natAbs : Nat) : Int) else ((i.natAbs : Nat) : Int)) = i := by
  unfold numI
  split
  · rename_i h
    rw [if_pos (show (45 :: numL i.natAbs).head? = some 45 from rfl)]
    omega
  · rename_i h
    have : ¬ (numL i.natAbs).head? = some 45 := by
      cases h : numL i.natAbs with
      | nil => exact absurd h (numL_ne _)
      | cons a r =>
        have := numL_digits i.natAbs a (by rw [h]; exact .head _)
        intro e
        have : a = 45 := Option.some.inj e
        omega
    rw [if_neg this]
    omega
theorem partL_no {l : List Nat} (h : 47 ∉ l) : partL l = (l, false, []) := by
  unfold partL
  rw [par_none1 h]
theorem partL_yes {l r : List Nat} (h : 47 ∉ l) : partL (l ++ 47 :: r) = (l, true, r) := by
  unfold partL
  have := par_part1 (s := 47) (S := []) (p := l) (rest := r) (acc := []) h
  rw [show l ++ 47 :: r = l ++ ([47] ++ r) from rfl, this]
  rfl
theorem rdF_shL {a : Int × Int} (h : Red a) : rdF (shL a) = some a := by
  have hs := frc_self h
  have p := h.1
  have n2 : ((a.2.natAbs : Nat) : Int) = a.2 := by omega
  by_cases e : a.2 = 1
  · have e1 : shL a = numI a.1 := by
      unfold shL
      rw [if_pos e]
    have e2 : partL (shL a) = (numI a.1, false, []) := by
      rw [e1]
      exact partL_no (no_slash _)
    unfold rdF
    rw [e2]
    show (match rdN (unsign (numI a.1)), (if false = true then rdN [] else some 1) with | some n, some d => _ | _, _ => none) = some a
    rw [unsign_numI, rdN_numL]
    show (if (1 : Nat) = 0 then none else if shL (frc (if (numI a.1).head? = some 45 then -((a.1.natAbs : Nat) : Int) else ((a.1.natAbs : Nat) : Int)) ((1 : Nat) : Int)) = shL a then some (frc (if (numI a.1).head? = some 45 then -((a.1.natAbs : Nat) : Int) else ((a.1.natAbs : Nat) : Int)) ((1 : Nat) : Int)) else none) = some a
    rw [sign_numI, if_neg (by decide), show ((1 : Nat) : Int) = a.2 by omega, hs, if_pos rfl]
  · have e1 : shL a = numI a.1 ++ 47 :: numI a.2 := by
      unfold shL
      rw [if_neg e]
    have e2 : partL (shL a) = (numI a.1, true, numI a.2) := by
      rw [e1]
      exact partL_yes (no_slash _)
    have e3 : numI a.2 = numL a.2.natAbs := by
      unfold numI
      rw [if_neg (by omega)]
    unfold rdF
    rw [e2]
    show (match rdN (unsign (numI a.1)), (if true = true then rdN (numI a.2) else some 1) with | some n, some d => _ | _, _ => none) = some a
    rw [unsign_numI, rdN_numL, e3, if_pos rfl, rdN_numL]
    show (if a.2.natAbs = 0 then none else if shL (frc (if (numI a.1).head? = some 45 then -((a.1.natAbs : Nat) : Int) else ((a.1.natAbs : Nat) : Int)) ((a.2.natAbs : Nat) : Int)) = shL a then some (frc (if (numI a.1).head? = some 45 then -((a.1.natAbs : Nat) : Int) else ((a.1.natAbs : Nat) : Int)) ((a.2.natAbs : Nat) : Int)) else none) = some a
    rw [sign_numI, if_neg (by omega), n2, hs, if_pos rfl]
theorem bad_fixed : ∀ l ∈ [[45, 48], [], [49, 47, 49], [50, 47, 52], [49, 47, 45, 50], [49, 47, 48], [120], [45], [51, 47]], rdF l = none := by decide +kernel
end Ky

namespace Ky
open PySem PySem.Spec PyProof.Rows L2
def topS (i : Nat) : Stmt := PySem.Challenge.pw_countsworn_k00_fractions_reckoned.main.body.getD i (.Pass ⟨0, 0, 0, 0⟩)
abbrev s_show_number : Stmt := topS 4
abbrev n_show_number : List Str := ["n", "rest", "parts", "low"]
theorem sc_show_number : FnScope n_show_number ["n"] (defScope s_show_number) := ⟨rfl, rfl, rfl, by decide +kernel, rfl, by decide +kernel, by decide +kernel⟩
abbrev s_read_number : Stmt := topS 5
abbrev n_read_number : List Str := ["text", "n", "padded", "at"]
theorem sc_read_number : FnScope n_read_number ["text"] (defScope s_read_number) := ⟨rfl, rfl, rfl, by decide +kernel, rfl, by decide +kernel, by decide +kernel⟩
abbrev s_fraction : Stmt := topS 7
abbrev n_fraction : List Str := ["n", "d", "common"]
theorem sc_fraction : FnScope n_fraction ["n", "d"] (defScope s_fraction) := ⟨rfl, rfl, rfl, by decide +kernel, rfl, by decide +kernel, by decide +kernel⟩
abbrev s_plus : Stmt := topS 8
abbrev n_plus : List Str := ["a", "b"]
theorem sc_plus : FnScope n_plus ["a", "b"] (defScope s_plus) := ⟨rfl, rfl, rfl, by decide +kernel, rfl, by decide +kernel, by decide +kernel⟩
abbrev s_minus : Stmt := topS 9
abbrev n_minus : List Str := ["a", "b"]
theorem sc_minus : FnScope n_minus ["a", "b"] (defScope s_minus) := ⟨rfl, rfl, rfl, by decide +kernel, rfl, by decide +kernel, by decide +kernel⟩
abbrev s_times : Stmt := topS 10
abbrev n_times : List Str := ["a", "b"]
theorem sc_times : FnScope n_times ["a", "b"] (defScope s_times) := ⟨rfl, rfl, rfl, by decide +kernel, rfl, by decide +kernel, by decide +kernel⟩
abbrev s_over : Stmt := topS 11
abbrev n_over : List Str := ["a", "b"]
theorem sc_over : FnScope n_over ["a", "b"] (defScope s_over) := ⟨rfl, rfl, rfl, by decide +kernel, rfl, by decide +kernel, by decide +kernel⟩
abbrev s_less : Stmt := topS 12
abbrev n_less : List Str := ["a", "b"]
theorem sc_less : FnScope n_less ["a", "b"] (defScope s_less) := ⟨rfl, rfl, rfl, by decide +kernel, rfl, by decide +kernel, by decide +kernel⟩
abbrev s_greatest : Stmt := topS 13
abbrev n_greatest : List Str := ["a", "b"]
theorem sc_greatest : FnScope n_greatest ["a", "b"] (defScope s_greatest) := ⟨rfl, rfl, rfl, by decide +kernel, rfl, by decide +kernel, by decide +kernel⟩
abbrev s_total : Stmt := topS 14
abbrev n_total : List Str := ["row", "found", "a"]
theorem sc_total : FnScope n_total ["row"] (defScope s_total) := ⟨rfl, rfl, rfl, by decide +kernel, rfl, by decide +kernel, by decide +kernel⟩
abbrev s_product : Stmt := topS 15
abbrev n_product : List Str := ["row", "found", "a"]
theorem sc_product : FnScope n_product ["row"] (defScope s_product) := ⟨rfl, rfl, rfl, by decide +kernel, rfl, by decide +kernel, by decide +kernel⟩
abbrev s_show_fraction : Stmt := topS 16
abbrev n_show_fraction : List Str := ["a"]
theorem sc_show_fraction : FnScope n_show_fraction ["a"] (defScope s_show_fraction) := ⟨rfl, rfl, rfl, by decide +kernel, rfl, by decide +kernel, by decide +kernel⟩
abbrev s_read_fraction : Stmt := topS 17
abbrev n_read_fraction : List Str := ["text", "above", "slash", "below", "n", "d", "found"]
theorem sc_read_fraction : FnScope n_read_fraction ["text"] (defScope s_read_fraction) := ⟨rfl, rfl, rfl, by decide +kernel, rfl, by decide +kernel, by decide +kernel⟩
abbrev s_rounded : Stmt := topS 18
abbrev n_rounded : List Str := ["a", "places", "scale", "_", "digits"]
theorem sc_rounded : FnScope n_rounded ["a", "places"] (defScope s_rounded) := ⟨rfl, rfl, rfl, by decide +kernel, rfl, by decide +kernel, by decide +kernel⟩
abbrev s_l_draw : Stmt := topS 20
abbrev n_l_draw : List Str := ["script", "seed", "cell"]
theorem sc_l_draw : FnScope n_l_draw ["script"] (defScope s_l_draw) := ⟨rfl, rfl, rfl, by decide +kernel, rfl, by decide +kernel, by decide +kernel⟩
abbrev s_l_take : Stmt := topS 21
abbrev n_l_take : List Str := ["draw", "many", "found"]
theorem sc_l_take : FnScope n_l_take ["draw", "many"] (defScope s_l_take) := ⟨rfl, rfl, rfl, by decide +kernel, rfl, by decide +kernel, by decide +kernel⟩
abbrev s_l_gcd : Stmt := topS 26
abbrev n_l_gcd : List Str := ["a", "b", "c"]
theorem sc_l_gcd : FnScope n_l_gcd ["a", "b"] (defScope s_l_gcd) := ⟨rfl, rfl, rfl, by decide +kernel, rfl, by decide +kernel, by decide +kernel⟩
abbrev s_l_fraction : Stmt := topS 27
abbrev n_l_fraction : List Str := ["n", "d", "common"]
theorem sc_l_fraction : FnScope n_l_fraction ["n", "d"] (defScope s_l_fraction) := ⟨rfl, rfl, rfl, by decide +kernel, rfl, by decide +kernel, by decide +kernel⟩
abbrev s_l_total : Stmt := topS 34
abbrev n_l_total : List Str := ["rows", "n", "d", "row"]
theorem sc_l_total : FnScope n_l_total ["rows"] (defScope s_l_total) := ⟨rfl, rfl, rfl, by decide +kernel, rfl, by decide +kernel, by decide +kernel⟩
abbrev s_l_pair : Stmt := topS 35
abbrev n_l_pair : List Str := ["draw", "n", "d"]
theorem sc_l_pair : FnScope n_l_pair ["draw"] (defScope s_l_pair) := ⟨rfl, rfl, rfl, by decide +kernel, rfl, by decide +kernel, by decide +kernel⟩
abbrev s_l_rounded : Stmt := topS 36
abbrev n_l_rounded : List Str := ["a", "places", "scale", "k", "number", "text"]
theorem sc_l_rounded : FnScope n_l_rounded ["a", "places"] (defScope s_l_rounded) := ⟨rfl, rfl, rfl, by decide +kernel, rfl, by decide +kernel, by decide +kernel⟩
abbrev s_law : Stmt := topS 37
abbrev n_law : List Str := ["script", "draw", "j", "one", "two", "a", "b", "smaller", "text", "bad", "places", "row", "n", "d", "item"]
theorem sc_law : FnScope n_law ["script"] (defScope s_law) := ⟨rfl, rfl, rfl, by decide +kernel, rfl, by decide +kernel, by decide +kernel⟩
end Ky

namespace Ky
open PySem PySem.Spec PyProof.Rows L2
local macro_rules | `(tactic| walk_at "rd") => `(tactic| repeat (first
  | with_reducible refine w_seq ?_
  | with_reducible refine w_asg ?_
  | with_reducible refine w_ret ?_
  | with_reducible refine w_drop ?_
  | with_reducible refine w_ifs ?_
  | ((with_reducible refine' w_var ?hh ?_); (case hh => exact rfl))
  | with_reducible refine w_c ?_
  | with_reducible refine w_op ?_
  | with_reducible refine w_un ?_
  | with_reducible refine w_I0 ?_
  | with_reducible refine w_U ?_
  | with_reducible refine w_nil ?_
  | with_reducible refine w_cons ?_
  | with_reducible refine w_call ?_
  | with_reducible refine w_cb ?_
  | with_reducible refine w_test ?_
  | with_reducible refine w_B ?_
  | with_reducible refine w_bl ?_
  | with_reducible refine w_and ?_
  | with_reducible refine w_or ?_
  | with_reducible refine w_not ?_
  | with_reducible refine w_ife ?_
  | with_reducible refine w_tup ?_
  | with_reducible refine w_lst ?_
  | with_reducible refine w_next ?_
  | with_reducible refine w_bm ?_
  | with_reducible refine w_sl ?_
  | with_reducible refine w_part ?_
  | with_reducible refine w_nop ?_
  | with_reducible refine w_isI ?_
  | with_reducible refine w_yes ?_
  | with_reducible refine w_gn ?_
  | with_reducible refine w_gsub ?_
  | ((with_reducible refine' w_setL ?h1 ?h2 ?_); (case h1 => first | assumption | exact upd_same); (case h2 => exact rfl))
  | with_reducible refine w_asgG ?_
  | with_reducible refine w_m1 ?_
  | with_reducible refine w_isS ?_
  | with_reducible refine w_tyS ?_
  | ((with_reducible refine' w_tyL ?h1 ?_); (case h1 => first | assumption | exact upd_same))
  | ((with_reducible refine' w_ixT ?h1 ?h2 ?_); (case h1 => first | assumption | exact upd_same); (case h2 => exact rfl))
  | ((with_reducible refine' w_ixL ?h1 ?h2 ?_); (case h1 => first | assumption | exact upd_same); (case h2 => exact rfl))
  | ((with_reducible refine w_eq ?h1 ?_); (case h1 => exact rfl))
  | ((with_reducible refine w_ne ?h1 ?_); (case h1 => exact rfl))
  | dsimp only [List.set_cons_zero, List.set_cons_succ, List.append_nil, List.cons_append, List.nil_append, cxOf]))

structure Txt (K : PySem.W.Frag) (mg : Str → Option Value) (uP uD : Value) : Prop where
  z_abs : mg "abs" = none
  z_len : mg "len" = none
  z_int : mg "int" = none
  z_str : mg "str" = none
  z_list : mg "list" = none
  z_range : mg "range" = none
  z_all : mg "all" = none
  z_gcd : mg "gcd" = some (.builtin "math.gcd")
  g_PART : mg "_PART" = some uP
  v_PART : RelV (.int 1000000000000000000000000000000000000000000000000000000000000) uP
  g_PART_DIGITS : mg "_PART_DIGITS" = some uD
  v_PART_DIGITS : RelV (.int 60) uD
section
variable {P : Program} {w : World} {K : PySem.W.Frag} {mg : Str → Option Value} {base : Heap} {uP uD : Value} {f : Addr} {fd : FuncData}
theorem log_of {i : Int} {b : Nat} (h : i.natAbs < 2 ^ b) (h0 : 0 < b) : i.natAbs.log2 < b := PySem.Flt.log2_lt_of h0 h
theorem frc_ne {n d : Int} (hd : d ≠ 0) : Nat.gcd n.natAbs d.natAbs ≠ 0 := by
  intro h
  have := Nat.eq_zero_of_gcd_eq_zero_right h
  omega
theorem gcd_le_r {n d : Int} (hd : d ≠ 0) : Nat.gcd n.natAbs d.natAbs ≤ d.natAbs := Nat.gcd_le_right _ (by omega)
theorem ok_fraction (F : Fun K "fraction" "fraction" s_fraction f fd) (T : Txt K mg uP uD) : FnOk P w K mg base CX0 1 f fd ["n", "d"] spFrac := by
  refine F.ok sc_fraction (fun vs H Q E h => ?_) (fun cdv A outer s H vs Q E hr h => ?_)
  · obtain ⟨n, d, rfl, _⟩ := h
    rfl
  · obtain ⟨n, d, rfl, hd, bn, bd, k⟩ := h
    refine ⟨_, (pss_cons (ps_set (i := 2) sc_fraction.nd rfl (.inl rfl) (pe_callBfun cr_gcd (by rfl) T.z_gcd (pa_cons (pv 0) (pa_cons (pv 1) pa_nil))))
    (pss_cons (ps_if (pt_cmpR op_lt (pv 1) pe_int (nomark _))
      (pss_one (ps_set (i := 2) sc_fraction.nd rfl (.inl rfl) (pe_un un_neg (pv 2))))
      pss_nil)
    (pss_one (ps_ret (pe_tup (pa_cons (pe_op op_fdivA (pv 0) (pv 2)) (pa_cons (pe_op op_fdivA (pv 1) (pv 2)) pa_nil))))))), ?_⟩
    rw [show start n_fraction [(.int n : V), (.int d : V)] = ([some (.int n), some (.int d), none] : List (Option V)) from rfl]
    walk_at "rd"
    refine ⟨n, d, rfl, ?_⟩
    walk_at "rd"
    have cont : ∀ c : Int, c = (if d < 0 then -((Nat.gcd n.natAbs d.natAbs : Nat) : Int) else ((Nat.gcd n.natAbs d.natAbs : Nat) : Int)) →
        tRet (tTup (tCons (tOp (rI CDivA fun i j => V.int (i.fdiv j)) (tVar 0) (tVar 2)) (tCons (tOp (rI CDivA fun i j => V.int (i.fdiv j)) (tVar 1) (tVar 2)) tNil)))
          { nx := fun x H' => Q V.non H', rt := Q } [some (V.int n), some (V.int d), some (V.int c)] H := fun c hc => by
      have g0 := frc_ne (n := n) hd
      have g1 := gcd_le_r (n := n) hd
      have bc : c.natAbs < 2 ^ 1000 := by
        have : c.natAbs = Nat.gcd n.natAbs d.natAbs := by
          rw [hc]
          split <;> omega
        omega
      have c0 : c ≠ 0 := by
        rw [hc]
        split <;> omega
      walk_at "rd"
      refine w_I (divA c0 bc (by decide) (by decide)) ?_
      walk_at "rd"
      refine w_I (divA c0 bc (by decide) (by decide)) ?_
      walk_at "rd"
      refine ⟨by show 2 ≤ sizeLine; decide, fun p hp => k p _ hp (Kept.new hp) ?_⟩
      show upd H p _ p = _
      rw [upd_same, hc]
      rfl
    refine ite2 (fun e => ?_) (fun e => ?_)
    · have e' := of_decide_eq_true e
      exact ⟨_, rfl, _, rfl, cont _ (by rw [if_pos e'])⟩
    · have e' : ¬ d < 0 := fun z => e (decide_eq_true z)
      exact cont _ (by rw [if_neg e'])
/-- the promise of an operation on two fractions -/
def spTwo (C : (Int × Int) → (Int × Int) → Prop) (g : (Int × Int) → (Int × Int) → Int × Int) : Sp := fun vs H Q _ => ∃ (p q : Addr) (a b : Int × Int), vs = [.ref p, .ref q] ∧ FrAt H p a ∧ FrAt H q b ∧ Small 400 a ∧ Small 400 b ∧ C a b ∧
  ∀ r H', H r = none → Kept H H' → FrAt H' r (g a b) → Q (.ref r) H'
def minusF (a b : Int × Int) : Int × Int := frc (a.1 * b.2 - b.1 * a.2) (a.2 * b.2)
def overF (a b : Int × Int) : Int × Int := frc (a.1 * b.2) (a.2 * b.1)
abbrev Pos2 (a b : Int × Int) : Prop := 0 < a.2 ∧ 0 < b.2
theorem mul_small {x y : Int} (hx : x.natAbs < 2 ^ 400) (hy : y.natAbs < 2 ^ 400) : (x * y).natAbs < 2 ^ 800 := wide_lt hx hy
theorem mul_ok {x y : Int} (hx : x.natAbs < 2 ^ 400) (hy : y.natAbs < 2 ^ 400) : CMulW x y := wide_mul hx hy (by decide) (by decide) (by decide)
theorem pow_up {x : Nat} (h : x < 2 ^ 800) : x < 2 ^ 1000 := Nat.lt_of_lt_of_le h (Nat.pow_le_pow_right (by decide) (by decide))
theorem add_small {x y : Int} (hx : x.natAbs < 2 ^ 800) (hy : y.natAbs < 2 ^ 800) : (x + y).natAbs < 2 ^ 1000 := by
  have h : (2 : Nat) ^ 800 + 2 ^ 800 ≤ 2 ^ 1000 := by decide
  omega
theorem sub_small {x y : Int} (hx : x.natAbs < 2 ^ 800) (hy : y.natAbs < 2 ^ 800) : (x - y).natAbs < 2 ^ 1000 := by
  have h : (2 : Nat) ^ 800 + 2 ^ 800 ≤ 2 ^ 1000 := by decide
  omega
theorem mul_ne {x y : Int} (hx : 0 < x) (hy : 0 < y) : x * y ≠ 0 := Int.mul_ne_zero (by omega) (by omega)
theorem ok_plus (F : Fun K "plus" "plus" s_plus f fd) (D_fraction : Df P w K mg base 1 "fraction" ["n", "d"] spFrac) : FnOk P w K mg base CX0 2 f fd ["a", "b"] (spTwo Pos2 plusF) := by
  refine F.ok sc_plus (fun vs H Q E h => ?_) (fun cdv A outer s H vs Q E hr h => ?_)
  · obtain ⟨p, q, a, b, rfl, _⟩ := h
    rfl
  · obtain ⟨p, q, a, b, rfl, hp, hq, sa, sb, ⟨pa, pb⟩, k⟩ := h
    unfold FrAt at hp hq
    refine ⟨_, (pss_one (ps_ret (pe_df D_fraction (hr.mono (by decide)) (by rfl) (pa_cons (pe_op op_add (pe_op op_mulW (pe_ix ix_tup (pv 0) pe_int (fun _ _ => rfl)) (pe_ix ix_tup (pv 1) pe_int (fun _ _ => rfl))) (pe_op op_mulW (pe_ix ix_tup (pv 1) pe_int (fun _ _ => rfl)) (pe_ix ix_tup (pv 0) pe_int (fun _ _ => rfl)))) (pa_cons (pe_op op_mulW (pe_ix ix_tup (pv 0) pe_int (fun _ _ => rfl)) (pe_ix ix_tup (pv 1) pe_int (fun _ _ => rfl))) pa_nil))))), ?_⟩
    rw [show start n_plus [(.ref p : V), (.ref q : V)] = ([some (.ref p), some (.ref q)] : List (Option V)) from rfl]
    walk_at "rd"
    refine w_I (mul_ok sa.1 sb.2) ?_
    walk_at "rd"
    refine w_I (mul_ok sb.1 sa.2) ?_
    walk_at "rd"
    refine w_I (mul_ok sa.2 sb.2) ?_
    walk_at "rd"
    exact ⟨_, _, rfl, mul_ne pa pb, add_small (mul_small sa.1 sb.2) (mul_small sb.1 sa.2), pow_up (mul_small sa.2 sb.2), k⟩
theorem ok_minus (F : Fun K "minus" "minus" s_minus f fd) (D_fraction : Df P w K mg base 1 "fraction" ["n", "d"] spFrac) : FnOk P w K mg base CX0 2 f fd ["a", "b"] (spTwo Pos2 minusF) := by
  refine F.ok sc_minus (fun vs H Q E h => ?_) (fun cdv A outer s H vs Q E hr h => ?_)
  · obtain ⟨p, q, a, b, rfl, _⟩ := h
    rfl
  · obtain ⟨p, q, a, b, rfl, hp, hq, sa, sb, ⟨pa, pb⟩, k⟩ := h
    unfold FrAt at hp hq
    refine ⟨_, (pss_one (ps_ret (pe_df D_fraction (hr.mono (by decide)) (by rfl) (pa_cons (pe_op op_sub (pe_op op_mulW (pe_ix ix_tup (pv 0) pe_int (fun _ _ => rfl)) (pe_ix ix_tup (pv 1) pe_int (fun _ _ => rfl))) (pe_op op_mulW (pe_ix ix_tup (pv 1) pe_int (fun _ _ => rfl)) (pe_ix ix_tup (pv 0) pe_int (fun _ _ => rfl)))) (pa_cons (pe_op op_mulW (pe_ix ix_tup (pv 0) pe_int (fun _ _ => rfl)) (pe_ix ix_tup (pv 1) pe_int (fun _ _ => rfl))) pa_nil))))), ?_⟩
    rw [show start n_minus [(.ref p : V), (.ref q : V)] = ([some (.ref p), some (.ref q)] : List (Option V)) from rfl]
    walk_at "rd"
    refine w_I (mul_ok sa.1 sb.2) ?_
    walk_at "rd"
    refine w_I (mul_ok sb.1 sa.2) ?_
    walk_at "rd"
    refine w_I (mul_ok sa.2 sb.2) ?_
    walk_at "rd"
    exact ⟨_, _, rfl, mul_ne pa pb, sub_small (mul_small sa.1 sb.2) (mul_small sb.1 sa.2), pow_up (mul_small sa.2 sb.2), k⟩
theorem ok_times (F : Fun K "times" "times" s_times f fd) (D_fraction : Df P w K mg base 1 "fraction" ["n", "d"] spFrac) : FnOk P w K mg base CX0 2 f fd ["a", "b"] (spTwo Pos2 timesF) := by
  refine F.ok sc_times (fun vs H Q E h => ?_) (fun cdv A outer s H vs Q E hr h => ?_)
  · obtain ⟨p, q, a, b, rfl, _⟩ := h
    rfl
  · obtain ⟨p, q, a, b, rfl, hp, hq, sa, sb, ⟨pa, pb⟩, k⟩ := h
    unfold FrAt at hp hq
    refine ⟨_, (pss_one (ps_ret (pe_df D_fraction (hr.mono (by decide)) (by rfl) (pa_cons (pe_op op_mulW (pe_ix ix_tup (pv 0) pe_int (fun _ _ => rfl)) (pe_ix ix_tup (pv 1) pe_int (fun _ _ => rfl))) (pa_cons (pe_op op_mulW (pe_ix ix_tup (pv 0) pe_int (fun _ _ => rfl)) (pe_ix ix_tup (pv 1) pe_int (fun _ _ => rfl))) pa_nil))))), ?_⟩
    rw [show start n_times [(.ref p : V), (.ref q : V)] = ([some (.ref p), some (.ref q)] : List (Option V)) from rfl]
    walk_at "rd"
    refine w_I (mul_ok sa.1 sb.1) ?_
    walk_at "rd"
    refine w_I (mul_ok sa.2 sb.2) ?_
    walk_at "rd"
    exact ⟨_, _, rfl, mul_ne pa pb, pow_up (mul_small sa.1 sb.1), pow_up (mul_small sa.2 sb.2), k⟩
theorem ok_over (F : Fun K "over" "over" s_over f fd) (D_fraction : Df P w K mg base 1 "fraction" ["n", "d"] spFrac) : FnOk P w K mg base CX0 2 f fd ["a", "b"] (spTwo (fun a b => 0 < a.2 ∧ b.1 ≠ 0) overF) := by
  refine F.ok sc_over (fun vs H Q E h => ?_) (fun cdv A outer s H vs Q E hr h => ?_)
  · obtain ⟨p, q, a, b, rfl, _⟩ := h
    rfl
  · obtain ⟨p, q, a, b, rfl, hp, hq, sa, sb, ⟨pa, pb⟩, k⟩ := h
    unfold FrAt at hp hq
    refine ⟨_, (pss_one (ps_ret (pe_df D_fraction (hr.mono (by decide)) (by rfl) (pa_cons (pe_op op_mulW (pe_ix ix_tup (pv 0) pe_int (fun _ _ => rfl)) (pe_ix ix_tup (pv 1) pe_int (fun _ _ => rfl))) (pa_cons (pe_op op_mulW (pe_ix ix_tup (pv 0) pe_int (fun _ _ => rfl)) (pe_ix ix_tup (pv 1) pe_int (fun _ _ => rfl))) pa_nil))))), ?_⟩
    rw [show start n_over [(.ref p : V), (.ref q : V)] = ([some (.ref p), some (.ref q)] : List (Option V)) from rfl]
    walk_at "rd"
    refine w_I (mul_ok sa.1 sb.2) ?_
    walk_at "rd"
    refine w_I (mul_ok sa.2 sb.1) ?_
    walk_at "rd"
    exact ⟨_, _, rfl, Int.mul_ne_zero (by omega) pb, pow_up (mul_small sa.1 sb.2), pow_up (mul_small sa.2 sb.1), k⟩
def lessF (a b : Int × Int) : Bool := decide (a.1 * b.2 < b.1 * a.2)
def spLess : Sp := fun vs H Q _ => ∃ (p q : Addr) (a b : Int × Int), vs = [.ref p, .ref q] ∧ FrAt H p a ∧ FrAt H q b ∧ Small 400 a ∧ Small 400 b ∧ Q (.bl (lessF a b)) H
theorem ok_less (F : Fun K "less" "less" s_less f fd) : FnOk P w K mg base CX0 1 f fd ["a", "b"] spLess := by
  refine F.ok sc_less (fun vs H Q E h => ?_) (fun cdv A outer s H vs Q E hr h => ?_)
  · obtain ⟨p, q, a, b, rfl, _⟩ := h
    rfl
  · obtain ⟨p, q, a, b, rfl, hp, hq, sa, sb, k⟩ := h
    unfold FrAt at hp hq
    refine ⟨_, (pss_one (ps_ret (pe_cmpR op_lt (pe_op op_mulW (pe_ix ix_tup (pv 0) pe_int (fun _ _ => rfl)) (pe_ix ix_tup (pv 1) pe_int (fun _ _ => rfl))) (pe_op op_mulW (pe_ix ix_tup (pv 1) pe_int (fun _ _ => rfl)) (pe_ix ix_tup (pv 0) pe_int (fun _ _ => rfl))) (nomark _)))), ?_⟩
    rw [show start n_less [(.ref p : V), (.ref q : V)] = ([some (.ref p), some (.ref q)] : List (Option V)) from rfl]
    walk_at "rd"
    refine w_I (mul_ok sa.1 sb.2) ?_
    walk_at "rd"
    refine w_I (mul_ok sb.1 sa.2) ?_
    walk_at "rd"
    exact k
def spGreatest : Sp := fun vs H Q _ => ∃ (p q : Addr) (a b : Int × Int), vs = [.ref p, .ref q] ∧ FrAt H p a ∧ FrAt H q b ∧ Small 400 a ∧ Small 400 b ∧ Q (.ref (if lessF a b = true then q else p)) H
theorem ok_greatest (F : Fun K "greatest" "greatest" s_greatest f fd) (D_less : Df P w K mg base 1 "less" ["a", "b"] spLess) : FnOk P w K mg base CX0 2 f fd ["a", "b"] spGreatest := by
  refine F.ok sc_greatest (fun vs H Q E h => ?_) (fun cdv A outer s H vs Q E hr h => ?_)
  · obtain ⟨p, q, a, b, rfl, _⟩ := h
    rfl
  · obtain ⟨p, q, a, b, rfl, hp, hq, sa, sb, k⟩ := h
    refine ⟨_, (pss_cons (ps_if (pt_val (pe_df D_less (hr.mono (by decide)) (by rfl) (pa_cons (pv 0) (pa_cons (pv 1) pa_nil))))
      (pss_one (ps_ret (pv 1)))
      pss_nil)
    (pss_one (ps_ret (pv 0)))), ?_⟩
    rw [show start n_greatest [(.ref p : V), (.ref q : V)] = ([some (.ref p), some (.ref q)] : List (Option V)) from rfl]
    walk_at "rd"
    refine ⟨p, q, a, b, rfl, hp, hq, sa, sb, ?_⟩
    walk_at "rd"
    cases e : lessF a b with
    | true =>
      refine if_t rfl ?_
      walk_at "rd"
      rw [e] at k
      exact k
    | false =>
      refine if_f rfl ?_
      walk_at "rd"
      rw [e] at k
      exact k
end
end Ky

namespace Ky
open PySem PySem.Spec PyProof.Rows L2
local macro_rules | `(tactic| walk_at "rd") => `(tactic| repeat (first
  | with_reducible refine w_seq ?_
  | with_reducible refine w_asg ?_
  | with_reducible refine w_ret ?_
  | with_reducible refine w_drop ?_
  | with_reducible refine w_ifs ?_
  | ((with_reducible refine' w_var ?hh ?_); (case hh => exact rfl))
  | with_reducible refine w_c ?_
  | with_reducible refine w_op ?_
  | with_reducible refine w_un ?_
  | with_reducible refine w_I0 ?_
  | with_reducible refine w_U ?_
  | with_reducible refine w_nil ?_
  | with_reducible refine w_cons ?_
  | with_reducible refine w_call ?_
  | with_reducible refine w_cb ?_
  | with_reducible refine w_test ?_
  | with_reducible refine w_B ?_
  | with_reducible refine w_bl ?_
  | with_reducible refine w_and ?_
  | with_reducible refine w_or ?_
  | with_reducible refine w_not ?_
  | with_reducible refine w_ife ?_
  | with_reducible refine w_tup ?_
  | with_reducible refine w_lst ?_
  | with_reducible refine w_next ?_
  | with_reducible refine w_bm ?_
  | with_reducible refine w_sl ?_
  | with_reducible refine w_part ?_
  | with_reducible refine w_nop ?_
  | with_reducible refine w_isI ?_
  | with_reducible refine w_yes ?_
  | with_reducible refine w_gn ?_
  | with_reducible refine w_gsub ?_
  | ((with_reducible refine' w_setL ?h1 ?h2 ?_); (case h1 => first | assumption | exact upd_same); (case h2 => exact rfl))
  | with_reducible refine w_asgG ?_
  | with_reducible refine w_m1 ?_
  | with_reducible refine w_isS ?_
  | with_reducible refine w_tyS ?_
  | ((with_reducible refine' w_tyL ?h1 ?_); (case h1 => first | assumption | exact upd_same))
  | ((with_reducible refine' w_ixT ?h1 ?h2 ?_); (case h1 => first | assumption | exact upd_same); (case h2 => exact rfl))
  | ((with_reducible refine' w_ixL ?h1 ?h2 ?_); (case h1 => first | assumption | exact upd_same); (case h2 => exact rfl))
  | ((with_reducible refine w_eq ?h1 ?_); (case h1 => exact rfl))
  | ((with_reducible refine w_ne ?h1 ?_); (case h1 => exact rfl))
  | dsimp only [List.set_cons_zero, List.set_cons_succ, List.append_nil, List.cons_append, List.nil_append, cxOf]))

open TL
section
variable {P : Program} {w : World} {K : PySem.W.Frag} {mg : Str → Option Value} {base : Heap} {uP uD : Value} {f : Addr} {fd : FuncData}
def ten60 : Nat := 1000000000000000000000000000000000000000000000000000000000000
theorem ten60_lt : ten60 < 2 ^ 200 := by decide
theorem ten60_pow : ten60 = 10 ^ 60 := by decide
theorem numS_len {i : Int} (h : i.natAbs < ten60) : (numS i).length ≤ 61 := by
  rw [len_tl, tl_numS]
  exact numI_len (k := 60) (by decide) (by rw [← ten60_pow]; exact h)
theorem log_60 {i : Int} (h : i.natAbs < ten60) : i.natAbs.log2 < 1920 := Nat.lt_of_lt_of_le (PySem.Flt.log2_lt_of (show 0 < 200 by decide) (Nat.lt_trans h ten60_lt)) (by decide)
theorem abs_nat (n : Int) : (if n < 0 then -n else n) = ((n.natAbs : Nat) : Int) := by split <;> omega
def minusT : Str := Str.ofString "-"
theorem tl_minus : tl minusT = [45] := by
  unfold minusT
  rw [tl_ofString]
  rfl
theorem empty_tl : tl (Str.ofString "") = [] := by
  rw [tl_ofString]
  rfl
theorem join_neg {n : Int} (h : n < 0) : Txt.join (Str.ofString "") [minusT, numS ((n.natAbs : Nat) : Int)] = numS n := by
  rw [join_two _ _ _ empty_tl]
  apply ext_tl
  rw [tl_append, tl_minus, tl_nat, tl_numS]
  unfold numI
  rw [if_pos h]
  rfl
def spShowN : Sp := fun vs H Q _ => ∃ n : Int, vs = [.int n] ∧ n.natAbs < ten60 ∧ ∀ H', Kept H H' → Q (.str (numS n)) H'
theorem ok_show_number (F : Fun K "show_number" "show_number" s_show_number f fd) (T : Txt K mg uP uD) : FnOk P w K mg base CX0 1 f fd ["n"] spShowN := by
  refine F.ok sc_show_number (fun vs H Q E h => ?_) (fun cdv A outer s H vs Q E hr h => ?_)
  · obtain ⟨n, rfl, _⟩ := h
    rfl
  · obtain ⟨n, rfl, hn, k⟩ := h
    have hn' : ((n.natAbs : Nat) : Int).natAbs < ten60 := by omega
    have hl : ((n.natAbs : Nat) : Int) < 1000000000000000000000000000000000000000000000000000000000000 := by
      unfold ten60 at hn
      omega
    refine ⟨_, (pss_cons (ps_set (i := 1) sc_show_number.nd rfl (.inl rfl) (pe_callB call_abs (by rfl) T.z_abs (by decide +kernel) (pa_cons (pv 0) pa_nil)))
    (pss_cons (ps_set (i := 2) sc_show_number.nd rfl (.inl rfl) (pe_lst pa_nil))
    (pss_cons (ps_while PassesOwn.never (pt_cmpR op_ge (pv 1) (pe_glob (by rfl) T.g_PART T.v_PART) (nomark _)) pss_never)
    (pss_cons (ps_expr (pe_bm PySem.F.plainAttrs_list PySem.F.slot_list_append PySem.F.type_list_append mt_append (pv 2) (pa_cons (pe_callTy call_str_int (by rfl) T.z_str (by decide +kernel) (pa_cons (pv 1) pa_nil)) pa_nil)))
    (pss_cons (ps_if (pt_cmpR op_lt (pv 0) pe_int (nomark _))
      (pss_one (ps_expr (pe_bm PySem.F.plainAttrs_list PySem.F.slot_list_append PySem.F.type_list_append mt_append (pv 2) (pa_cons pe_str pa_nil))))
      pss_nil)
    (pss_one (ps_ret (pe_join pe_str (pe_revL (pv 2)))))))))), ?_⟩
    rw [show start n_show_number [(.int n : V)] = ([some (.int n), none, none, none] : List (Option V)) from rfl]
    walk_at "rd"
    refine ⟨n, rfl, ?_⟩
    walk_at "rd"
    rw [abs_nat]
    refine ⟨Nat.zero_le _, fun p hp => ?_⟩
    refine w_seq ?_
    refine ⟨fun m σ' H' => σ' = [some (.int n), some (.int ((n.natAbs : Nat) : Int)), some (.ref p), none] ∧ H' = upd H p (.lst []), ⟨0, rfl, rfl⟩, fun m σ' H' hW => ?_⟩
    obtain ⟨rfl, rfl⟩ := hW
    walk_at "rd"
    refine if_f (decide_eq_false (by omega)) ?_
    walk_at "rd"
    refine ⟨_, rfl, log_60 hn', ?_⟩
    walk_at "rd"
    refine w_app upd_same (by decide) ?_
    walk_at "rd"
    have e1 : Kept H (upd (upd H p (.lst [])) p (.lst [V.str (numS ((n.natAbs : Nat) : Int))])) := Kept.mut (Kept.new hp) hp
    have ln := numS_len hn'
    refine ite2 (fun e => ?_) (fun e => ?_)
    · have e' := of_decide_eq_true e
      walk_at "rd"
      refine w_app upd_same (by show 1 < sizeLine; decide) ?_
      walk_at "rd"
      have e2 : Kept H (upd (upd (upd H p (.lst [])) p (.lst [V.str (numS ((n.natAbs : Nat) : Int))])) p (.lst [V.str (numS ((n.natAbs : Nat) : Int)), V.str minusT])) := Kept.mut e1 hp
      refine ⟨_, rfl, p, _, rfl, SqL.of upd_same, fun r hr => ?_⟩
      refine ⟨_, r, [minusT, numS ((n.natAbs : Nat) : Int)], rfl, rfl, .inl (SqL.of upd_same), ?_, ?_⟩
      · show minusT.length + ((numS ((n.natAbs : Nat) : Int)).length + 0) + 2 * (Str.ofString "").length ≤ 16777216
        rw [len_tl minusT, tl_minus, len_tl (Str.ofString ""), empty_tl, List.length_singleton, List.length_nil]
        omega
      · show Q (.str (Txt.join (Str.ofString "") [minusT, numS ((n.natAbs : Nat) : Int)])) _
        rw [join_neg e']
        exact k _ (Kept.mut e2 (e2.free _ hr))
    · have e' : ¬ n < 0 := fun z => e (decide_eq_true z)
      walk_at "rd"
      refine ⟨_, rfl, p, _, rfl, SqL.of upd_same, fun r hr => ?_⟩
      refine ⟨_, r, [numS ((n.natAbs : Nat) : Int)], rfl, rfl, .inl (SqL.of upd_same), ?_, ?_⟩
      · show ((numS ((n.natAbs : Nat) : Int)).length + 0) + 1 * (Str.ofString "").length ≤ 16777216
        rw [len_tl (Str.ofString ""), empty_tl, List.length_nil]
        omega
      · show Q (.str (Txt.join (Str.ofString "") [numS ((n.natAbs : Nat) : Int)])) _
        have en : numS ((n.natAbs : Nat) : Int) = numS n := congrArg numS (show ((n.natAbs : Nat) : Int) = n by omega)
        rw [join_one, en]
        exact k _ (Kept.mut e1 (e1.free _ hr))
def spShowF : Sp := fun vs H Q _ => ∃ (p : Addr) (a : Int × Int), vs = [.ref p] ∧ FrAt H p a ∧ a.1.natAbs < ten60 ∧ a.2.natAbs < ten60 ∧ ∀ H', Kept H H' → Q (.str (shF a)) H'
theorem ok_show_fraction (F : Fun K "show_fraction" "show_fraction" s_show_fraction f fd) (D_show_number : Df P w K mg base 1 "show_number" ["n"] spShowN) : FnOk P w K mg base CX0 2 f fd ["a"] spShowF := by
  refine F.ok sc_show_fraction (fun vs H Q E h => ?_) (fun cdv A outer s H vs Q E hr h => ?_)
  · obtain ⟨p, a, rfl, _⟩ := h
    rfl
  · obtain ⟨p, a, rfl, hp, h1, h2, k⟩ := h
    unfold FrAt at hp
    refine ⟨_, (pss_cons (ps_if (pt_cmpR op_eq (pe_ix ix_tup (pv 0) pe_int (fun _ _ => rfl)) pe_int (nomark _))
      (pss_one (ps_ret (pe_df D_show_number (hr.mono (by decide)) (by rfl) (pa_cons (pe_ix ix_tup (pv 0) pe_int (fun _ _ => rfl)) pa_nil))))
      pss_nil)
    (pss_one (ps_ret (pe_op op_add_str (pe_op op_add_str (pe_df D_show_number (hr.mono (by decide)) (by rfl) (pa_cons (pe_ix ix_tup (pv 0) pe_int (fun _ _ => rfl)) pa_nil)) pe_str) (pe_df D_show_number (hr.mono (by decide)) (by rfl) (pa_cons (pe_ix ix_tup (pv 0) pe_int (fun _ _ => rfl)) pa_nil)))))), ?_⟩
    rw [show start n_show_fraction [(.ref p : V)] = ([some (.ref p)] : List (Option V)) from rfl]
    walk_at "rd"
    by_cases e : a.2 = 1
    · refine if_t (decide_eq_true (by rw [e])) ?_
      walk_at "rd"
      refine ⟨_, rfl, h1, fun H1 k1 => ?_⟩
      have e2 : shF a = numS a.1 := by
        unfold shF
        rw [if_pos e]
      rw [← e2]
      exact k _ k1
    · refine if_f (decide_eq_false (fun z => e (V.int.inj z))) ?_
      walk_at "rd"
      refine ⟨_, rfl, h1, fun H1 k1 => ?_⟩
      have hp1 := k1.tup hp
      walk_at "rd"
      have l1 := numS_len h1
      have l2 := numS_len h2
      have ls : slash.length = 1 := by rw [len_tl, tl_slash]; rfl
      have l3 : (numS a.1 ++ slash).length = (numS a.1).length + 1 := by rw [len_tl, tl_append, List.length_append, ← len_tl, tl_slash]; rfl
      refine ⟨numS a.1, slash, rfl, rfl, ?_, ?_⟩
      · rw [ls]
        exact Nat.le_trans (Nat.add_le_add_right l1 1) (by decide)
      walk_at "rd"
      refine ⟨_, rfl, h2, fun H2 k2 => ?_⟩
      refine ⟨numS a.1 ++ slash, numS a.2, rfl, rfl, ?_, ?_⟩
      · rw [l3]
        exact Nat.le_trans (Nat.add_le_add (Nat.add_le_add_right l1 1) l2) (by decide)
      · have e2 : shF a = numS a.1 ++ slash ++ numS a.2 := by
          unfold shF
          rw [if_neg e]
        rw [← e2]
        exact k _ (k1.trans k2)
end
end Ky

namespace Ky
open PySem PySem.Spec PyProof.Rows L2
local macro_rules | `(tactic| walk_at "rd") => `(tactic| repeat (first
  | with_reducible refine w_seq ?_
  | with_reducible refine w_asg ?_
  | with_reducible refine w_ret ?_
  | with_reducible refine w_drop ?_
  | with_reducible refine w_ifs ?_
  | ((with_reducible refine' w_var ?hh ?_); (case hh => exact rfl))
  | with_reducible refine w_c ?_
  | with_reducible refine w_op ?_
  | with_reducible refine w_un ?_
  | with_reducible refine w_I0 ?_
  | with_reducible refine w_U ?_
  | with_reducible refine w_nil ?_
  | with_reducible refine w_cons ?_
  | with_reducible refine w_call ?_
  | with_reducible refine w_cb ?_
  | with_reducible refine w_test ?_
  | with_reducible refine w_B ?_
  | with_reducible refine w_bl ?_
  | with_reducible refine w_and ?_
  | with_reducible refine w_or ?_
  | with_reducible refine w_not ?_
  | with_reducible refine w_ife ?_
  | with_reducible refine w_tup ?_
  | with_reducible refine w_lst ?_
  | with_reducible refine w_next ?_
  | with_reducible refine w_bm ?_
  | with_reducible refine w_sl ?_
  | with_reducible refine w_part ?_
  | with_reducible refine w_nop ?_
  | with_reducible refine w_isI ?_
  | with_reducible refine w_yes ?_
  | with_reducible refine w_gn ?_
  | with_reducible refine w_gsub ?_
  | ((with_reducible refine' w_setL ?h1 ?h2 ?_); (case h1 => first | assumption | exact upd_same); (case h2 => exact rfl))
  | with_reducible refine w_asgG ?_
  | with_reducible refine w_m1 ?_
  | with_reducible refine w_isS ?_
  | with_reducible refine w_tyS ?_
  | ((with_reducible refine' w_tyL ?h1 ?_); (case h1 => first | assumption | exact upd_same))
  | ((with_reducible refine' w_ixT ?h1 ?h2 ?_); (case h1 => first | assumption | exact upd_same); (case h2 => exact rfl))
  | ((with_reducible refine' w_ixL ?h1 ?h2 ?_); (case h1 => first | assumption | exact upd_same); (case h2 => exact rfl))
  | ((with_reducible refine w_eq ?h1 ?_); (case h1 => exact rfl))
  | ((with_reducible refine w_ne ?h1 ?_); (case h1 => exact rfl))
  | dsimp only [List.set_cons_zero, List.set_cons_succ, List.append_nil, List.cons_append, List.nil_append, cxOf]))

section
variable {P : Program} {w : World} {K : PySem.W.Frag} {mg : Str → Option Value} {base : Heap} {uP uD : Value} {f : Addr} {fd : FuncData}
theorem ok_l_draw (F : Fun K "_law_draw" "_law_draw" s_l_draw f fd) (T : Txt K mg uP uD) : FnOk P w K mg base CX0 1 f fd ["script"] (spDraw K) := by
  refine F.ok sc_l_draw (fun vs H Q E h => ?_) (fun cdv A outer s H vs Q E hr h => ?_)
  · obtain ⟨a, ns, rfl, _⟩ := h
    rfl
  · obtain ⟨a, ns, rfl, hS, hlen, k⟩ := h
    refine ⟨_, (pss_cons (ps_set (i := 1) sc_l_draw.nd rfl (.inl rfl) pe_int)
    (pss_cons (ps_for PassesOwn.never rfl (pi_list (pv 0)) (pg_name (i := 2) sc_l_draw.nd rfl (.inl rfl))
      (pss_one (ps_set (i := 1) sc_l_draw.nd rfl (.inl rfl) (pe_op op_mod (pe_callTy call_int1 (by rfl) T.z_int (by decide +kernel) (pa_cons (pe_op op_add (pe_op op_add (pe_op op_mul (pv 1) pe_int) (pe_op op_mod (pe_callB call_abs (by rfl) T.z_abs (by decide +kernel) (pa_cons (pe_callTy call_int1 (by rfl) T.z_int (by decide +kernel) (pa_cons (pv 2) pa_nil)) pa_nil)) pe_int)) pe_int) pa_nil)) pe_int))))
    (pss_one (ps_ret (pe_lst (pa_cons (pe_lc (own := [("cell", 2)]) (g := gName 2) (by rfl) sc_l_draw.nd (pi_list (pv 0)) (blkOk_by (own := [("cell", 2)]) (N := n_l_draw) (sc := defScope s_l_draw) (by decide +kernel)) (fun _ _ _ _ _ => pg_name (i := 2) sc_l_draw.nd rfl (Or.inl rfl)) (fun _ _ _ _ _ => pts_nil) (fun _ _ _ _ _ => (pe_callB call_abs (by rfl) T.z_abs (by decide +kernel) (pa_cons (pe_callTy call_int1 (by rfl) T.z_int (by decide +kernel) (pa_cons (pv 2) pa_nil)) pa_nil)))) (pa_cons (pe_un un_neg pe_int) (pa_cons pe_int (pa_cons (pv 1) pa_nil))))))))), ?_⟩
    rw [show start n_l_draw [(.ref a : V)] = ([some (.ref a), none, none] : List (Option V)) from rfl]
    walk_at "rd"
    refine ⟨_, rfl, a, rfl, ⟨_, hS⟩, for_list (K := K) (a := a) (xs := ns.map V.int) (fun i σ' H' => ∃ z v, σ' = [some (.ref a), some (.int z), v] ∧ H' = H) ⟨7, none, rfl, rfl⟩ (fun i σ' H' _ h => by
      obtain ⟨_, _, _, rfl⟩ := h
      exact hS) ?_ ?_⟩
    · rintro i y σ' H' hi ⟨z, v, rfl, rfl⟩
      obtain ⟨u, rfl, _⟩ := map_int hi
      walk_at "rd"
      refine w_I (.inr ⟨by decide, by decide⟩) ?_
      walk_at "rd"
      refine .inl ⟨_, rfl, ?_⟩
      walk_at "rd"
      refine ⟨_, rfl, ?_⟩
      walk_at "rd"
      refine w_I (by show (0 : Int) < 65521; decide) ?_
      walk_at "rd"
      refine .inl ⟨_, rfl, ?_⟩
      walk_at "rd"
      refine w_I (by show (0 : Int) < 2147483647; decide) ?_
      exact ⟨_, _, rfl, rfl⟩
    · rintro σ' H' ⟨z, v, rfl, rfl⟩
      walk_at "rd"
      refine ⟨_, rfl, a, rfl, ⟨_, hS⟩, fun D hD => lc_list (K := K) (xs := ns.map V.int) (fun i H1 => ∃ acc : List Int, H1 D = some (.lst (acc.map V.int)) ∧ acc.length = i ∧ Kept H' H1) ⟨[], upd_same, rfl, Kept.new hD⟩ (fun i H1 _ h => by
        obtain ⟨_, _, _, k1⟩ := h
        exact k1.sq hS) ?_ ?_⟩
      · rintro i y H1 hi ⟨acc, h1, h2, k1⟩
        obtain ⟨u, rfl, hu⟩ := map_int hi
        have hi2 : i < ns.length := (List.getElem?_eq_some_iff.mp hu).1
        refine ⟨rfl, ?_⟩
        walk_at "rd"
        refine if_t rfl ?_
        walk_at "rd"
        refine .inl ⟨_, rfl, ?_⟩
        walk_at "rd"
        refine ⟨_, rfl, ?_⟩
        refine ⟨acc.map V.int, h1, ?_, acc ++ [if u < 0 then -u else u], ?_, ?_, Kept.mut k1 hD⟩
        · rw [List.length_map]
          exact small1000 (by omega)
        · rw [List.map_append]
          exact upd_same
        · rw [List.length_append, h2]
          rfl
      · rintro H1 ⟨acc, h1, h2, k1⟩
        walk_at "rd"
        refine ⟨by show 4 ≤ sizeLine; decide, fun d hd => ?_⟩
        refine k d _ (k1.free _ hd) (k1.trans (Kept.new hd)) ⟨D, acc, -1, 0, z, upd_same, ?_, by decide⟩
        rw [upd_ne (ne_of_none h1 hd)]
        exact h1
theorem ok_l_take (F : Fun K "_law_take" "_law_take" s_l_take f fd) (T : Txt K mg uP uD) : FnOk P w K mg base CX0 1 f fd ["draw", "many"] (spTake K) := by
  refine F.ok sc_l_take (fun vs H Q E h => ?_) (fun cdv A outer s H vs Q E hr h => ?_)
  · obtain ⟨d, m, rfl, _⟩ := h
    rfl
  · obtain ⟨d, m, rfl, m0, m1, hD, k⟩ := h
    have hD0 := hD
    obtain ⟨c, ns, a, u, z, hd, hc, ha⟩ := hD
    have ne : c ≠ d := fun e => by
      rw [e, hd] at hc
      have := congrArg (fun o => match o with | some (HO.lst (V.ref _ :: _)) => true | _ => false) hc
      cases ns <;> cases this
    have st0 : TakeSt H c d H := ⟨fun _ _ => rfl, a, u, z, hd, ha⟩
    refine ⟨_, (Evl.pss_cut (ps_if (pt_cmpR op_eq (pe_ix ix_list (pv 0) pe_int (fun _ _ => rfl)) pe_int (nomark _))
      (pss_cons (ps_asg (pe_op op_add (pe_ix ix_list (pv 0) pe_int (fun _ _ => rfl)) pe_int) (pg_sub (pv 0) pe_int set_list))
    (Evl.pss_cut (ps_if (pt_cmpR op_lt (pe_ix ix_list (pv 0) pe_int (fun _ _ => rfl)) (pe_callB call_len_seq (by rfl) T.z_len (by decide +kernel) (pa_cons (pe_ix ix_list (pv 0) pe_int (fun _ _ => rfl)) pa_nil)) (nomark _))
      (pss_one (ps_asg (pe_ix ix_list (pe_ix ix_list (pv 0) pe_int (fun _ _ => rfl)) (pe_ix ix_list (pv 0) pe_int (fun _ _ => rfl)) (fun _ _ => rfl)) (pg_sub (pv 0) pe_int set_list)))
      pss_nil)
    (pss_one (ps_if (pt_cmpR op_eq (pe_ix ix_list (pv 0) pe_int (fun _ _ => rfl)) pe_int (nomark _))
      (pss_cons (ps_asg (pe_op op_mod (pe_callTy call_int1 (by rfl) T.z_int (by decide +kernel) (pa_cons (pe_op op_add (pe_op op_mul (pe_ix ix_list (pv 0) pe_int (fun _ _ => rfl)) pe_int) pe_int) pa_nil)) pe_int) (pg_sub (pv 0) pe_int set_list))
    (pss_one (ps_asg (pe_ix ix_list (pv 0) pe_int (fun _ _ => rfl)) (pg_sub (pv 0) pe_int set_list))))
      pss_nil))))
      pss_nil)
    (pss_cons (ps_set (i := 2) sc_l_take.nd rfl (.inl rfl) (pe_op op_mod (pe_callTy call_int1 (by rfl) T.z_int (by decide +kernel) (pa_cons (pe_ix ix_list (pv 0) pe_int (fun _ _ => rfl)) pa_nil)) (pv 1)))
    (pss_cons (ps_asg (pe_op op_fdivW (pe_ix ix_list (pv 0) pe_int (fun _ _ => rfl)) (pv 1)) (pg_sub (pv 0) pe_int set_list))
    (pss_one (ps_ret (pv 2)))))), ?_⟩
    rw [show start n_l_take [(.ref d : V), (.int m : V)] = ([some (.ref d), some (.int m), none] : List (Option V)) from rfl]
    refine ⟨fun σ' H' => σ' = [some (.ref d), some (.int m), none] ∧ TakeSt H c d H', ?_, ?_⟩
    · walk_at "rd"
      refine ite2 (fun _ => ?_) (fun _ => ?_)
      · walk_at "rd"
        refine ⟨fun σ' H' => σ' = [some (.ref d), some (.int m), none] ∧ TakeSt H c d H', ?_, ?_⟩
        · have st1 : TakeSt H c d (upd H d (.lst [.ref c, .int (a + 1), .int u, .int z])) := st0.upd (by omega)
          have hc1 : (upd H d (.lst [.ref c, .int (a + 1), .int u, .int z])) c = some (.lst (ns.map V.int)) := by rw [st1.1 c ne]; exact hc
          walk_at "rd"
          refine ⟨c, ns.map V.int, rfl, .inl (SqL.of hc1), ?_⟩
          walk_at "rd"
          refine ite2 (fun e => ?_) (fun _ => ⟨rfl, st1⟩)
          have e' : a + 1 < (ns.length : Int) := by
            have := of_decide_eq_true e
            rw [List.length_map] at this
            exact this
          obtain ⟨v, _, hv⟩ := pick_int (ns := ns) (r := a + 1) (by omega) e'
          walk_at "rd"
          refine w_ixL hc1 hv ?_
          walk_at "rd"
          exact ⟨rfl, st1.upd (by omega)⟩
        · rintro σ' H' ⟨rfl, st1⟩
          have st2 := st1
          obtain ⟨_, a1, u1, z1, hd1, ha1⟩ := st2
          walk_at "rd"
          refine ite2 (fun _ => ?_) (fun _ => ⟨rfl, st1⟩)
          walk_at "rd"
          refine w_I (.inr ⟨by decide, by decide⟩) ?_
          walk_at "rd"
          refine .inl ⟨_, rfl, ?_⟩
          walk_at "rd"
          refine w_I (by show (0 : Int) < 2147483647; decide) ?_
          walk_at "rd"
          exact ⟨rfl, (st1.upd ha1).upd ha1⟩
      · exact ⟨rfl, st0⟩
    · rintro σ' H' ⟨rfl, st1⟩
      have st2 := st1
      obtain ⟨_, a1, u1, z1, hd1, ha1⟩ := st2
      walk_at "rd"
      refine .inl ⟨_, rfl, ?_⟩
      walk_at "rd"
      refine w_I m0 ?_
      walk_at "rd"
      refine w_I (wide_div (b := 62) m0 (by omega) (by decide) (by decide)) ?_
      walk_at "rd"
      exact k _ _ (Int.emod_nonneg _ (by omega)) (Int.emod_lt_of_pos _ m0) ((st1.upd ha1).kept hd hc ne)
/-- a pair of numbers drawn -/
def spPair (K : PySem.W.Frag) : Sp := fun vs H Q _ => ∃ (d : Addr), vs = [.ref d] ∧ Drw K H d ∧ ∀ (p : Addr) H' (n m : Int), H p = none → KeptD K d H H' → H' p = some (.tup [.int n, .int m]) → n.natAbs < 10 ^ 12 → m ≠ 0 → m.natAbs < 2 ^ 31 → Q (.ref p) H'
theorem ok_l_pair (F : Fun K "_law_pair" "_law_pair" s_l_pair f fd) (D_l_take : Df P w K mg base 1 "_law_take" ["draw", "many"] (spTake K)) : FnOk P w K mg base CX0 2 f fd ["draw"] (spPair K) := by
  refine F.ok sc_l_pair (fun vs H Q E h => ?_) (fun cdv A outer s H vs Q E hr h => ?_)
  · obtain ⟨d, rfl, _⟩ := h
    rfl
  · obtain ⟨d, rfl, hD, k⟩ := h
    refine ⟨_, (pss_cons (ps_set (i := 1) sc_l_pair.nd rfl (.inl rfl) (pe_ix ix_list (pe_lst (pa_cons pe_int (pa_cons pe_int (pa_cons (pe_un un_neg pe_int) (pa_cons (pe_op op_sub (pe_df D_l_take (hr.mono (by decide)) (by rfl) (pa_cons (pv 0) (pa_cons pe_int pa_nil))) pe_int) (pa_cons (pe_df D_l_take (hr.mono (by decide)) (by rfl) (pa_cons (pv 0) (pa_cons (pe_op op_pow pe_int pe_int) pa_nil))) pa_nil)))))) (pe_df D_l_take (hr.mono (by decide)) (by rfl) (pa_cons (pv 0) (pa_cons pe_int pa_nil))) (fun _ _ => rfl)))
    (pss_cons (ps_set (i := 2) sc_l_pair.nd rfl (.inl rfl) (pe_ix ix_list (pe_lst (pa_cons pe_int (pa_cons pe_int (pa_cons pe_int (pa_cons (pe_un un_neg pe_int) (pa_cons (pe_op op_add pe_int (pe_df D_l_take (hr.mono (by decide)) (by rfl) (pa_cons (pv 0) (pa_cons pe_int pa_nil)))) (pa_cons (pe_op op_add (pe_op op_pow pe_int pe_int) pe_int) pa_nil))))))) (pe_df D_l_take (hr.mono (by decide)) (by rfl) (pa_cons (pv 0) (pa_cons pe_int pa_nil))) (fun _ _ => rfl)))
    (pss_one (ps_ret (pe_tup (pa_cons (pv 1) (pa_cons (pv 2) pa_nil))))))), ?_⟩
    rw [show start n_l_pair [(.ref d : V)] = ([some (.ref d), none, none] : List (Option V)) from rfl]
    walk_at "rd"
    refine ⟨d, 60, rfl, by decide, by decide, hD, fun r1 H1 l1 g1 k1 => ?_⟩
    walk_at "rd"
    refine w_I ⟨by decide, by decide, by decide⟩ ?_
    walk_at "rd"
    refine ⟨d, _, rfl, by decide, by decide, k1.drw hD, fun r2 H2 l2 g2 k2 => ?_⟩
    walk_at "rd"
    refine ⟨by show 5 ≤ sizeLine; decide, fun p hp => ?_⟩
    have k3 := k1.trans k2
    have D3 := k3.drw hD
    have pd : p ≠ d := fun e => by
      obtain ⟨xs, hx⟩ := D3.ne
      rw [e, hx] at hp
      cases hp
    have D4 := (Kept.new (o := .lst [V.int 0, V.int 1, V.int (-1), V.int (r1 - 30), V.int r2]) hp).toD.drw D3
    walk_at "rd"
    refine ⟨d, 5, rfl, by decide, by decide, D4, fun r3 H3 l3 g3 k4 => ?_⟩
    obtain ⟨n, hn, en⟩ := pick_int (ns := [0, 1, -1, r1 - 30, r2]) l3 g3
    refine w_ixL (k4.lst pd upd_same) en ?_
    have bn : n.natAbs < 10 ^ 12 := by
      simp only [List.mem_cons, List.mem_singleton, List.not_mem_nil, or_false] at hn
      have : r2 < 1000000000000 := g2
      rcases hn with rfl | rfl | rfl | rfl | rfl <;> omega
    have k5 := (k3.trans (Kept.new (o := .lst [V.int 0, V.int 1, V.int (-1), V.int (r1 - 30), V.int r2]) hp).toD).trans k4
    walk_at "rd"
    refine ⟨d, 40, rfl, by decide, by decide, k5.drw hD, fun r4 H4 l4 g4 k6 => ?_⟩
    walk_at "rd"
    refine w_I ⟨by decide, by decide, by decide⟩ ?_
    walk_at "rd"
    refine ⟨by show 6 ≤ sizeLine; decide, fun q hq => ?_⟩
    have k7 := k5.trans k6
    have D7 := k7.drw hD
    have qd : q ≠ d := fun e => by
      obtain ⟨xs, hx⟩ := D7.ne
      rw [e, hx] at hq
      cases hq
    have k8 := k7.trans (Kept.new (o := .lst [V.int 1, V.int 2, V.int 12, V.int (-3), V.int (1 + r4), V.int (10 ^ 9 + 7)]) hq).toD
    walk_at "rd"
    refine ⟨d, 6, rfl, by decide, by decide, k8.drw hD, fun r5 H5 l5 g5 k9 => ?_⟩
    obtain ⟨m, hm, em⟩ := pick_int (ns := [1, 2, 12, -3, 1 + r4, 10 ^ 9 + 7]) l5 g5
    refine w_ixL (k9.lst qd upd_same) em ?_
    have bm : m ≠ 0 ∧ m.natAbs < 2 ^ 31 := by
      simp only [List.mem_cons, List.mem_singleton, List.not_mem_nil, or_false] at hm
      rcases hm with rfl | rfl | rfl | rfl | rfl | rfl <;> refine ⟨?_, ?_⟩ <;> first | omega | decide
    walk_at "rd"
    have k10 := k8.trans k9
    refine ⟨by show 2 ≤ sizeLine; decide, fun t ht => k t _ n m (k10.free _ ht) (k10.trans (Kept.new ht).toD) upd_same bn bm.1 bm.2⟩
end
end Ky

namespace Ky
open PySem PySem.Spec PyProof.Rows L2
local macro_rules | `(tactic| walk_at "rd") => `(tactic| repeat (first
  | with_reducible refine w_seq ?_
  | with_reducible refine w_asg ?_
  | with_reducible refine w_ret ?_
  | with_reducible refine w_drop ?_
  | with_reducible refine w_ifs ?_
  | ((with_reducible refine' w_var ?hh ?_); (case hh => exact rfl))
  | with_reducible refine w_c ?_
  | with_reducible refine w_op ?_
  | with_reducible refine w_un ?_
  | with_reducible refine w_I0 ?_
  | with_reducible refine w_U ?_
  | with_reducible refine w_nil ?_
  | with_reducible refine w_cons ?_
  | with_reducible refine w_call ?_
  | with_reducible refine w_cb ?_
  | with_reducible refine w_test ?_
  | with_reducible refine w_B ?_
  | with_reducible refine w_bl ?_
  | with_reducible refine w_and ?_
  | with_reducible refine w_or ?_
  | with_reducible refine w_not ?_
  | with_reducible refine w_ife ?_
  | with_reducible refine w_tup ?_
  | with_reducible refine w_lst ?_
  | with_reducible refine w_next ?_
  | with_reducible refine w_bm ?_
  | with_reducible refine w_sl ?_
  | with_reducible refine w_part ?_
  | with_reducible refine w_nop ?_
  | with_reducible refine w_isI ?_
  | with_reducible refine w_yes ?_
  | with_reducible refine w_gn ?_
  | with_reducible refine w_gsub ?_
  | ((with_reducible refine' w_setL ?h1 ?h2 ?_); (case h1 => first | assumption | exact upd_same); (case h2 => exact rfl))
  | with_reducible refine w_asgG ?_
  | with_reducible refine w_m1 ?_
  | with_reducible refine w_isS ?_
  | with_reducible refine w_tyS ?_
  | ((with_reducible refine' w_tyL ?h1 ?_); (case h1 => first | assumption | exact upd_same))
  | ((with_reducible refine' w_ixT ?h1 ?h2 ?_); (case h1 => first | assumption | exact upd_same); (case h2 => exact rfl))
  | ((with_reducible refine' w_ixL ?h1 ?h2 ?_); (case h1 => first | assumption | exact upd_same); (case h2 => exact rfl))
  | ((with_reducible refine w_eq ?h1 ?_); (case h1 => exact rfl))
  | ((with_reducible refine w_ne ?h1 ?_); (case h1 => exact rfl))
  | dsimp only [List.set_cons_zero, List.set_cons_succ, List.append_nil, List.cons_append, List.nil_append, cxOf]))

section
variable {P : Program} {w : World} {K : PySem.W.Frag} {mg : Str → Option Value} {base : Heap} {uP uD : Value} {f : Addr} {fd : FuncData}
theorem abs_natI (n : Int) : (if n < 0 then -n else n) = ((n.natAbs : Nat) : Int) := by split <;> omega
def spGcd : Sp := fun vs H Q _ => ∃ a b : Nat, vs = [.int (a : Int), .int (b : Int)] ∧ a < 2 ^ 1000 ∧ b < 2 ^ 1000 ∧ Q (.int ((Nat.gcd a b : Nat) : Int)) H
theorem ok_l_gcd (F : Fun K "_law_gcd" "_law_gcd" s_l_gcd f fd) : FnOk P w K mg base CX0 1 f fd ["a", "b"] spGcd := by
  refine F.ok sc_l_gcd (fun vs H Q E h => ?_) (fun cdv A outer s H vs Q E hr h => ?_)
  · obtain ⟨a, b, rfl, _⟩ := h
    rfl
  · obtain ⟨a, b, rfl, ba, bb, k⟩ := h
    refine ⟨_, (pss_cons (ps_while PassesOwn.never (pt_cmpR op_ne (pv 1) pe_int (nomark _))
      (pss_cons (ps_set (i := 2) sc_l_gcd.nd rfl (.inl rfl) (pe_op op_sub (pv 0) (pe_op op_mulW (pv 1) (pe_op op_fdivW (pv 0) (pv 1)))))
    (pss_cons (ps_set (i := 0) sc_l_gcd.nd rfl (.inl rfl) (pv 1))
    (pss_one (ps_set (i := 1) sc_l_gcd.nd rfl (.inl rfl) (pv 2))))))
    (pss_one (ps_ret (pv 0)))), ?_⟩
    rw [show start n_l_gcd [(.int (a : Int) : V), (.int (b : Int) : V)] = ([some (.int (a : Int)), some (.int (b : Int)), none] : List (Option V)) from rfl]
    refine w_seq ?_
    refine ⟨fun m σ' H' => ∃ (x y : Nat) (v : Option V), σ' = [some (.int (x : Int)), some (.int (y : Int)), v] ∧ H' = H ∧ x < 2 ^ 1000 ∧ y < 2 ^ 1000 ∧ Nat.gcd x y = Nat.gcd a b ∧ m = y, ⟨b, a, b, none, rfl, rfl, ba, bb, rfl, rfl⟩, fun m σ' H' hW => ?_⟩
    obtain ⟨x, y, v, rfl, rfl, bx, by1, hg, rfl⟩ := hW
    walk_at "rd"
    by_cases h0 : m = 0
    · subst h0
      refine if_f rfl ?_
      walk_at "rd"
      rw [Nat.gcd_zero_right] at hg
      rw [hg]
      exact k
    · refine if_t (congrArg Bool.not (decide_eq_false (fun z => h0 (Int.ofNat.inj (V.int.inj z))))) ?_
      have hm : (0 : Int) < (m : Int) := by omega
      have hq : ((x : Int) / (m : Int)).natAbs < 2 ^ 1000 := by
        rw [← Int.natCast_ediv, Int.natAbs_natCast]
        exact Nat.lt_of_le_of_lt (Nat.div_le_self _ _) bx
      have hmod : (x : Int) - (m : Int) * ((x : Int) / (m : Int)) = ((x % m : Nat) : Int) := by
        have := Int.emod_add_mul_ediv (x : Int) (m : Int)
        rw [Int.natCast_emod]
        omega
      refine ⟨fun σ' H'' => ∃ m', m' < m ∧ ∃ (x' y' : Nat) (v : Option V), σ' = [some (.int (x' : Int)), some (.int (y' : Int)), v] ∧ H'' = H' ∧ x' < 2 ^ 1000 ∧ y' < 2 ^ 1000 ∧ Nat.gcd x' y' = Nat.gcd a b ∧ m' = y', fun _ _ h => h, ?_⟩
      walk_at "rd"
      refine w_I (wide_div (b := 1000) hm (by rw [Int.natAbs_natCast]; exact by1) (by decide) (by decide)) ?_
      refine w_I (wide_mul (a := 1000) (b := 1000) (by rw [Int.natAbs_natCast]; exact by1) hq (by decide) (by decide) (by decide)) ?_
      walk_at "rd"
      rw [hmod]
      refine ⟨x % m, Nat.mod_lt _ (by omega), m, x % m, _, rfl, rfl, by1, Nat.lt_trans (Nat.mod_lt _ (by omega)) by1, ?_, rfl⟩
      rw [← hg, Nat.gcd_comm x m, Nat.gcd_rec m x, Nat.gcd_comm]
theorem ok_l_fraction (F : Fun K "_law_fraction" "_law_fraction" s_l_fraction f fd) (T : Txt K mg uP uD) (D_l_gcd : Df P w K mg base 1 "_law_gcd" ["a", "b"] spGcd) : FnOk P w K mg base CX0 2 f fd ["n", "d"] spFrac := by
  refine F.ok sc_l_fraction (fun vs H Q E h => ?_) (fun cdv A outer s H vs Q E hr h => ?_)
  · obtain ⟨n, d, rfl, _⟩ := h
    rfl
  · obtain ⟨n, d, rfl, hd, bn, bd, k⟩ := h
    refine ⟨_, (pss_cons (ps_set (i := 2) sc_l_fraction.nd rfl (.inl rfl) (pe_df D_l_gcd (hr.mono (by decide)) (by rfl) (pa_cons (pe_callB call_abs (by rfl) T.z_abs (by decide +kernel) (pa_cons (pv 0) pa_nil)) (pa_cons (pe_callB call_abs (by rfl) T.z_abs (by decide +kernel) (pa_cons (pv 1) pa_nil)) pa_nil))))
    (pss_cons (ps_if (pt_cmpR op_lt (pv 1) pe_int (nomark _))
      (pss_one (ps_set (i := 2) sc_l_fraction.nd rfl (.inl rfl) (pe_un un_neg (pv 2))))
      pss_nil)
    (pss_one (ps_ret (pe_tup (pa_cons (pe_op op_fdivA (pv 0) (pv 2)) (pa_cons (pe_op op_fdivA (pv 1) (pv 2)) pa_nil))))))), ?_⟩
    rw [show start n_l_fraction [(.int n : V), (.int d : V)] = ([some (.int n), some (.int d), none] : List (Option V)) from rfl]
    walk_at "rd"
    refine ⟨n, rfl, ?_⟩
    walk_at "rd"
    refine ⟨d, rfl, ?_⟩
    walk_at "rd"
    rw [abs_natI, abs_natI]
    refine ⟨n.natAbs, d.natAbs, rfl, bn, bd, ?_⟩
    walk_at "rd"
    have cont : ∀ c : Int, c = (if d < 0 then -((Nat.gcd n.natAbs d.natAbs : Nat) : Int) else ((Nat.gcd n.natAbs d.natAbs : Nat) : Int)) →
        tRet (tTup (tCons (tOp (rI CDivA fun i j => V.int (i.fdiv j)) (tVar 0) (tVar 2)) (tCons (tOp (rI CDivA fun i j => V.int (i.fdiv j)) (tVar 1) (tVar 2)) tNil)))
          { nx := fun x H' => Q V.non H', rt := Q } [some (V.int n), some (V.int d), some (V.int c)] H := fun c hc => by
      have g0 := frc_ne (n := n) hd
      have g1 := gcd_le_r (n := n) hd
      have bc : c.natAbs < 2 ^ 1000 := by
        have : c.natAbs = Nat.gcd n.natAbs d.natAbs := by
          rw [hc]
          split <;> omega
        omega
      have c0 : c ≠ 0 := by
        rw [hc]
        split <;> omega
      walk_at "rd"
      refine w_I (divA c0 bc (by decide) (by decide)) ?_
      walk_at "rd"
      refine w_I (divA c0 bc (by decide) (by decide)) ?_
      walk_at "rd"
      refine ⟨by show 2 ≤ sizeLine; decide, fun p hp => k p _ hp (Kept.new hp) ?_⟩
      show upd H p _ p = _
      rw [upd_same, hc]
      rfl
    refine ite2 (fun e => ?_) (fun e => ?_)
    · have e' := of_decide_eq_true e
      exact ⟨_, rfl, _, rfl, cont _ (by rw [if_pos e'])⟩
    · have e' : ¬ d < 0 := fun z => e (decide_eq_true z)
      exact cont _ (by rw [if_neg e'])
/-! sums and products of up to three -/
/-- the list at l holds the fractions as -/
def FrsAt (K : PySem.W.Frag) (H : Hp) (l : Addr) (as : List (Int × Int)) : Prop := ∃ ps : List Addr, SqL K H l (ps.map V.ref) ∧ ps.length = as.length ∧ ∀ (i : Nat) p, ps[i]? = some p → ∃ a, as[i]? = some a ∧ FrAt H p a
def spRow (K : PySem.W.Frag) (g : List (Int × Int) → Int × Int) : Sp := fun vs H Q _ => ∃ (l : Addr) (as : List (Int × Int)), vs = [.ref l] ∧ FrsAt K H l as ∧ as.length ≤ 3 ∧ (∀ a ∈ as, 0 < a.2 ∧ Small 50 a) ∧
  ∀ r H', H r = none → Kept H H' → FrAt H' r (g as) → Q (.ref r) H'
theorem Kept.fr {H H' : Hp} {p : Addr} {a : Int × Int} (e : Kept H H') (h : FrAt H p a) : FrAt H' p a := Kept.tup e h
theorem map_ref {ps : List Addr} {i : Nat} {y : V} (h : (ps.map V.ref)[i]? = some y) : ∃ p, y = V.ref p ∧ ps[i]? = some p := by
  rw [List.getElem?_map] at h
  cases e : ps[i]? with
  | none =>
    rw [e] at h
    cases h
  | some u =>
    rw [e] at h
    exact ⟨u, (Option.some.inj h).symm, rfl⟩
theorem foldl_take {α β : Type} (g : β → α → β) (b : β) (as : List α) {i : Nat} {a : α} (h : as[i]? = some a) : (as.take (i + 1)).foldl g b = g ((as.take i).foldl g b) a := by
  rw [List.take_add_one, h, List.foldl_append]
  rfl
theorem lt_mul {x y : Int} {a b : Nat} (hx : x.natAbs < 2 ^ a) (hy : y.natAbs < 2 ^ b) {c : Nat} (h : a + b ≤ c) : (x * y).natAbs < 2 ^ c := Nat.lt_of_lt_of_le (wide_lt hx hy) (Nat.pow_le_pow_right (by decide) h)
theorem lt_add {x y : Int} {a : Nat} (hx : x.natAbs < 2 ^ a) (hy : y.natAbs < 2 ^ a) {c : Nat} (h : a + 1 ≤ c) : (x + y).natAbs < 2 ^ c := by
  have h2 : 2 ^ (a + 1) ≤ 2 ^ c := Nat.pow_le_pow_right (by decide) h
  rw [Nat.pow_succ] at h2
  omega
theorem lt_up {x : Nat} {a b : Nat} (hx : x < 2 ^ a) (h : a ≤ b) : x < 2 ^ b := Nat.lt_of_lt_of_le hx (Nat.pow_le_pow_right (by decide) h)
theorem plus_small {x y : Int × Int} {s : Nat} (h1 : Small s x) (h2 : Small 50 y) (p1 : 0 < x.2) (p2 : 0 < y.2) : Small (s + 60) (plusF x y) :=
  frc_small (mul_ne p1 p2) (lt_add (lt_mul h1.1 h2.2 (c := s + 50) (by omega)) (lt_mul h2.1 h1.2 (c := s + 50) (by omega)) (by omega)) (lt_mul h1.2 h2.2 (by omega))
theorem times_small {x y : Int × Int} {s : Nat} (h1 : Small s x) (h2 : Small 50 y) (p1 : 0 < x.2) (p2 : 0 < y.2) : Small (s + 60) (timesF x y) :=
  frc_small (mul_ne p1 p2) (lt_mul h1.1 h2.1 (by omega)) (lt_mul h1.2 h2.2 (by omega))
theorem small_one {z : Int} (h : z.natAbs ≤ 1 := by decide) : Small (60 * 0 + 1) (z, 1) := ⟨Nat.lt_of_le_of_lt h (by decide), show (1 : Int).natAbs < 2 ^ (60 * 0 + 1) by decide⟩
theorem Small.up {a : Int × Int} {m n : Nat} (h : Small m a) (l : m ≤ n) : Small n a := ⟨lt_up h.1 l, lt_up h.2 l⟩
theorem ok_total (F : Fun K "total" "total" s_total f fd) (D_plus : Df P w K mg base 2 "plus" ["a", "b"] (spTwo Pos2 plusF)) : FnOk P w K mg base CX0 3 f fd ["row"] (spRow K totF) := by
  refine F.ok sc_total (fun vs H Q E h => ?_) (fun cdv A outer s H vs Q E hr h => ?_)
  · obtain ⟨l, as, rfl, _⟩ := h
    rfl
  · obtain ⟨l, as, rfl, ⟨ps, hS, hl, hp⟩, hn, ha, k⟩ := h
    refine ⟨_, (pss_cons (ps_set (i := 1) sc_total.nd rfl (.inl rfl) (pe_tup (pa_cons pe_int (pa_cons pe_int pa_nil))))
    (pss_cons (ps_for PassesOwn.never rfl (pi_list (pv 0)) (pg_name (i := 2) sc_total.nd rfl (.inl rfl))
      (pss_one (ps_set (i := 1) sc_total.nd rfl (.inl rfl) (pe_df D_plus (hr.mono (by decide)) (by rfl) (pa_cons (pv 1) (pa_cons (pv 2) pa_nil))))))
    (pss_one (ps_ret (pv 1))))), ?_⟩
    rw [show start n_total [(.ref l : V)] = ([some (.ref l), none, none] : List (Option V)) from rfl]
    walk_at "rd"
    refine ⟨by show 2 ≤ sizeLine; decide, fun q hq => ?_⟩
    walk_at "rd"
    refine ⟨_, rfl, l, rfl, ⟨_, (Kept.new hq).sq hS⟩, for_list (K := K) (a := l) (xs := ps.map V.ref) (fun i σ' H' => ∃ (r : Addr) (v : Option V), σ' = [some (.ref l), some (.ref r), v] ∧ Kept H H' ∧ H r = none ∧ FrAt H' r ((as.take i).foldl plusF (0, 1)) ∧ Small (60 * i + 1) ((as.take i).foldl plusF (0, 1)) ∧ 0 < ((as.take i).foldl plusF (0, 1)).2) ⟨q, none, rfl, Kept.new hq, hq, upd_same, small_one, Int.one_pos⟩ (fun i σ' H' _ h => by
      obtain ⟨_, _, _, e, _⟩ := h
      exact e.sq hS) ?_ ?_⟩
    · rintro i y σ' H' hi ⟨r, v, rfl, e, hr0, hf, hs, hp0⟩
      obtain ⟨p, rfl, hpi⟩ := map_ref hi
      obtain ⟨a, hai, hfa⟩ := hp i p hpi
      have hi3 : i < as.length := (List.getElem?_eq_some_iff.mp hai).1
      have ha' := ha a (List.mem_of_getElem? hai)
      walk_at "rd"
      refine ⟨r, p, _, a, rfl, hf, e.fr hfa, hs.up (by omega), ha'.2.up (by decide), ⟨hp0, ha'.1⟩, fun r2 H2 hr2 e2 hf2 => ?_⟩
      refine ⟨r2, _, rfl, e.trans e2, e.free _ hr2, ?_, ?_, ?_⟩
      · rw [foldl_take plusF _ as hai]
        exact hf2
      · rw [foldl_take plusF _ as hai]
        exact (plus_small hs ha'.2 hp0 ha'.1).up (by omega)
      · rw [foldl_take plusF _ as hai]
        exact frc_pos (mul_ne hp0 ha'.1)
    · rintro σ' H' ⟨r, v, rfl, e, hr0, hf, _⟩
      rw [List.length_map, hl, List.take_length] at hf
      walk_at "rd"
      exact k r _ hr0 e hf
theorem ok_product (F : Fun K "product" "product" s_product f fd) (D_times : Df P w K mg base 2 "times" ["a", "b"] (spTwo Pos2 timesF)) : FnOk P w K mg base CX0 3 f fd ["row"] (spRow K prF) := by
  refine F.ok sc_product (fun vs H Q E h => ?_) (fun cdv A outer s H vs Q E hr h => ?_)
  · obtain ⟨l, as, rfl, _⟩ := h
    rfl
  · obtain ⟨l, as, rfl, ⟨ps, hS, hl, hp⟩, hn, ha, k⟩ := h
    refine ⟨_, (pss_cons (ps_set (i := 1) sc_product.nd rfl (.inl rfl) (pe_tup (pa_cons pe_int (pa_cons pe_int pa_nil))))
    (pss_cons (ps_for PassesOwn.never rfl (pi_list (pv 0)) (pg_name (i := 2) sc_product.nd rfl (.inl rfl))
      (pss_one (ps_set (i := 1) sc_product.nd rfl (.inl rfl) (pe_df D_times (hr.mono (by decide)) (by rfl) (pa_cons (pv 1) (pa_cons (pv 2) pa_nil))))))
    (pss_one (ps_ret (pv 1))))), ?_⟩
    rw [show start n_product [(.ref l : V)] = ([some (.ref l), none, none] : List (Option V)) from rfl]
    walk_at "rd"
    refine ⟨by show 2 ≤ sizeLine; decide, fun q hq => ?_⟩
    walk_at "rd"
    refine ⟨_, rfl, l, rfl, ⟨_, (Kept.new hq).sq hS⟩, for_list (K := K) (a := l) (xs := ps.map V.ref) (fun i σ' H' => ∃ (r : Addr) (v : Option V), σ' = [some (.ref l), some (.ref r), v] ∧ Kept H H' ∧ H r = none ∧ FrAt H' r ((as.take i).foldl timesF (1, 1)) ∧ Small (60 * i + 1) ((as.take i).foldl timesF (1, 1)) ∧ 0 < ((as.take i).foldl timesF (1, 1)).2) ⟨q, none, rfl, Kept.new hq, hq, upd_same, small_one, Int.one_pos⟩ (fun i σ' H' _ h => by
      obtain ⟨_, _, _, e, _⟩ := h
      exact e.sq hS) ?_ ?_⟩
    · rintro i y σ' H' hi ⟨r, v, rfl, e, hr0, hf, hs, hp0⟩
      obtain ⟨p, rfl, hpi⟩ := map_ref hi
      obtain ⟨a, hai, hfa⟩ := hp i p hpi
      have hi3 : i < as.length := (List.getElem?_eq_some_iff.mp hai).1
      have ha' := ha a (List.mem_of_getElem? hai)
      walk_at "rd"
      refine ⟨r, p, _, a, rfl, hf, e.fr hfa, hs.up (by omega), ha'.2.up (by decide), ⟨hp0, ha'.1⟩, fun r2 H2 hr2 e2 hf2 => ?_⟩
      refine ⟨r2, _, rfl, e.trans e2, e.free _ hr2, ?_, ?_, ?_⟩
      · rw [foldl_take timesF _ as hai]
        exact hf2
      · rw [foldl_take timesF _ as hai]
        exact (times_small hs ha'.2 hp0 ha'.1).up (by omega)
      · rw [foldl_take timesF _ as hai]
        exact frc_pos (mul_ne hp0 ha'.1)
    · rintro σ' H' ⟨r, v, rfl, e, hr0, hf, _⟩
      rw [List.length_map, hl, List.take_length] at hf
      walk_at "rd"
      exact k r _ hr0 e hf
theorem ok_l_total (F : Fun K "_law_total" "_law_total" s_l_total f fd) (D_l_fraction : Df P w K mg base 2 "_law_fraction" ["n", "d"] spFrac) : FnOk P w K mg base CX0 3 f fd ["rows"] (spRow K fun as => frc (totN as).1 (totN as).2) := by
  refine F.ok sc_l_total (fun vs H Q E h => ?_) (fun cdv A outer s H vs Q E hr h => ?_)
  · obtain ⟨l, as, rfl, _⟩ := h
    rfl
  · obtain ⟨l, as, rfl, ⟨ps, hS, hl, hp⟩, hn, ha, k⟩ := h
    refine ⟨_, (pss_cons (ps_set (i := 1) sc_l_total.nd rfl (.inl rfl) pe_int)
    (pss_cons (ps_set (i := 2) sc_l_total.nd rfl (.inl rfl) pe_int)
    (pss_cons (ps_for PassesOwn.never rfl (pi_list (pv 0)) (pg_name (i := 3) sc_l_total.nd rfl (.inl rfl))
      (pss_cons (ps_set (i := 1) sc_l_total.nd rfl (.inl rfl) (pe_op op_add (pe_op op_mulW (pv 1) (pe_ix ix_tup (pv 3) pe_int (fun _ _ => rfl))) (pe_op op_mulW (pe_ix ix_tup (pv 3) pe_int (fun _ _ => rfl)) (pv 2))))
    (pss_one (ps_set (i := 2) sc_l_total.nd rfl (.inl rfl) (pe_op op_mulW (pv 2) (pe_ix ix_tup (pv 3) pe_int (fun _ _ => rfl)))))))
    (pss_one (ps_ret (pe_df D_l_fraction (hr.mono (by decide)) (by rfl) (pa_cons (pv 1) (pa_cons (pv 2) pa_nil)))))))), ?_⟩
    rw [show start n_l_total [(.ref l : V)] = ([some (.ref l), none, none, none] : List (Option V)) from rfl]
    walk_at "rd"
    refine ⟨_, rfl, l, rfl, ⟨_, hS⟩, for_list (K := K) (a := l) (xs := ps.map V.ref) (fun i σ' H' => ∃ (g : Int × Int) (v : Option V), σ' = [some (.ref l), some (.int g.1), some (.int g.2), v] ∧ H' = H ∧ g = (as.take i).foldl (fun f r => (f.1 * r.2 + r.1 * f.2, f.2 * r.2)) (0, 1) ∧ Small (60 * i + 1) g ∧ 0 < g.2) ⟨(0, 1), none, rfl, rfl, rfl, small_one, Int.one_pos⟩ (fun i σ' H' _ h => by
      obtain ⟨_, _, _, e, _⟩ := h
      rw [e]
      exact hS) ?_ ?_⟩
    · rintro i y σ' H' hi ⟨g, v, rfl, rfl, eg, hs, hp0⟩
      obtain ⟨p, rfl, hpi⟩ := map_ref hi
      obtain ⟨a, hai, hfa⟩ := hp i p hpi
      unfold FrAt at hfa
      have hi3 : i < as.length := (List.getElem?_eq_some_iff.mp hai).1
      have ha' := ha a (List.mem_of_getElem? hai)
      walk_at "rd"
      refine w_I (wide_mul hs.1 ha'.2.2 (by omega) (by decide) (by omega)) ?_
      walk_at "rd"
      refine w_I (wide_mul ha'.2.1 hs.2 (by decide) (by omega) (by omega)) ?_
      walk_at "rd"
      refine w_I (wide_mul hs.2 ha'.2.2 (by omega) (by decide) (by omega)) ?_
      refine ⟨(g.1 * a.2 + a.1 * g.2, g.2 * a.2), _, rfl, rfl, ?_, ⟨lt_add (lt_mul hs.1 ha'.2.2 (c := 60 * i + 51) (by omega)) (lt_mul ha'.2.1 hs.2 (c := 60 * i + 51) (by omega)) (by omega), lt_mul hs.2 ha'.2.2 (by omega)⟩, Int.mul_pos hp0 ha'.1⟩
      rw [foldl_take _ _ as hai, ← eg]
    · rintro σ' H' ⟨g, v, rfl, rfl, eg, hs, hp0⟩
      rw [List.length_map, hl, List.take_length] at eg
      rw [List.length_map, hl] at hs
      walk_at "rd"
      have eg' : g = totN as := eg
      exact ⟨_, _, rfl, by omega, lt_up hs.1 (by omega), lt_up hs.2 (by omega), fun r H2 hr e2 hf => k r H2 hr e2 (by rw [eg'] at hf; exact hf)⟩
end
end Ky

namespace Ky
open PySem PySem.Spec PyProof.Rows L2
local macro_rules | `(tactic| walk_at "rd") => `(tactic| repeat (first
  | with_reducible refine w_seq ?_
  | with_reducible refine w_asg ?_
  | with_reducible refine w_ret ?_
  | with_reducible refine w_drop ?_
  | with_reducible refine w_ifs ?_
  | ((with_reducible refine' w_var ?hh ?_); (case hh => exact rfl))
  | with_reducible refine w_c ?_
  | with_reducible refine w_op ?_
  | with_reducible refine w_un ?_
  | with_reducible refine w_I0 ?_
  | with_reducible refine w_U ?_
  | with_reducible refine w_nil ?_
  | with_reducible refine w_cons ?_
  | with_reducible refine w_call ?_
  | with_reducible refine w_cb ?_
  | with_reducible refine w_test ?_
  | with_reducible refine w_B ?_
  | with_reducible refine w_bl ?_
  | with_reducible refine w_and ?_
  | with_reducible refine w_or ?_
  | with_reducible refine w_not ?_
  | with_reducible refine w_ife ?_
  | with_reducible refine w_tup ?_
  | with_reducible refine w_lst ?_
  | with_reducible refine w_next ?_
  | with_reducible refine w_bm ?_
  | with_reducible refine w_sl ?_
  | with_reducible refine w_part ?_
  | with_reducible refine w_nop ?_
  | with_reducible refine w_isI ?_
  | with_reducible refine w_yes ?_
  | with_reducible refine w_gn ?_
  | with_reducible refine w_gsub ?_
  | ((with_reducible refine' w_setL ?h1 ?h2 ?_); (case h1 => first | assumption | exact upd_same); (case h2 => exact rfl))
  | with_reducible refine w_asgG ?_
  | with_reducible refine w_m1 ?_
  | with_reducible refine w_isS ?_
  | with_reducible refine w_tyS ?_
  | ((with_reducible refine' w_tyL ?h1 ?_); (case h1 => first | assumption | exact upd_same))
  | ((with_reducible refine' w_ixT ?h1 ?h2 ?_); (case h1 => first | assumption | exact upd_same); (case h2 => exact rfl))
  | ((with_reducible refine' w_ixL ?h1 ?h2 ?_); (case h1 => first | assumption | exact upd_same); (case h2 => exact rfl))
  | ((with_reducible refine w_eq ?h1 ?_); (case h1 => exact rfl))
  | ((with_reducible refine w_ne ?h1 ?_); (case h1 => exact rfl))
  | dsimp only [List.set_cons_zero, List.set_cons_succ, List.append_nil, List.cons_append, List.nil_append, cxOf]))

open TL
section
variable {P : Program} {w : World} {K : PySem.W.Frag} {mg : Str → Option Value} {base : Heap} {uP uD : Value} {f : Addr} {fd : FuncData}
/-! ### rounded -/
theorem pad_ok : ∀ m : Nat, m ≤ 5 → PadOk ((m : Int) + 1) = true := by decide +kernel
theorem ten_small : ∀ i : Nat, i ≤ 5 → ((10 : Int) ^ i).natAbs < 2 ^ 20 := by decide +kernel
theorem ten_pos : ∀ i : Nat, i ≤ 5 → (0 : Int) < (10 : Int) ^ i := by decide +kernel
/-- the number that is written -/
def rndQ (a : Int × Int) (m : Nat) : Int := (2 * a.1 * 10 ^ m + a.2) / (2 * a.2)
def spRound : Sp := fun vs H Q _ => ∃ (p : Addr) (a : Int × Int) (m : Nat), vs = [.ref p, .int (m : Int)] ∧ FrAt H p a ∧ 0 ≤ a.1 ∧ 0 < a.2 ∧ Small 40 a ∧ m ≤ 5 ∧
  ∀ H' z, Kept H H' → tl z = rndL (rndQ a m).toNat m → Q (.str z) H'
theorem rndQ_pos {a : Int × Int} {m : Nat} (h0 : 0 ≤ a.1) (h1 : 0 < a.2) (hm : m ≤ 5) : 0 ≤ rndQ a m := by
  have ht := ten_pos m hm
  have h2 : 0 ≤ 2 * a.1 * 10 ^ m := Int.mul_nonneg (by omega) (by omega)
  exact Int.ediv_nonneg (by omega) (by omega)
theorem rndQ_lt {a : Int × Int} {m : Nat} (h0 : 0 ≤ a.1) (h1 : 0 < a.2) (hs : Small 40 a) (hm : m ≤ 5) : rndQ a m < 2 ^ 64 := by
  have ht := ten_small m hm
  have hp := ten_pos m hm
  have h2 : (2 * a.1 * 10 ^ m).natAbs < 2 ^ (41 + 20) := wide_lt (by have := hs.1; omega) ht
  have h3 : 0 ≤ 2 * a.1 * 10 ^ m := Int.mul_nonneg (by omega) (by omega)
  have h4 : rndQ a m ≤ 2 * a.1 * 10 ^ m + a.2 := Int.ediv_le_self _ (by omega)
  have := hs.2
  omega
theorem rndL_len {q m : Nat} (h : (numL q).length ≤ 61) (hm : m ≤ 5) : (List.replicate (m + 1 - (numL q).length) 48 ++ numL q).length ≤ 61 ∧ m + 1 ≤ (List.replicate (m + 1 - (numL q).length) 48 ++ numL q).length := by
  rw [List.length_append, List.length_replicate]
  omega
theorem num_head (q : Nat) : ∀ c, (numL q).head? = some c → c ≠ 43 ∧ c ≠ 45 := by
  intro c h
  cases e : numL q with
  | nil =>
    rw [e] at h
    cases h
  | cons a r =>
    rw [e] at h
    have := numL_digits q a (by rw [e]; exact .head _)
    have : a = c := Option.some.inj h
    omega
theorem dot_len : (Str.ofString ".").length = 1 := by
  rw [len_tl, tl_ofString]
  rfl
theorem tl_dot : tl (Str.ofString ".") = [46] := by
  rw [tl_ofString]
  rfl
theorem app_len (x y : Str) : (x ++ y).length = x.length + y.length := by rw [len_tl, tl_append, List.length_append, ← len_tl, ← len_tl]
theorem numL_len19 {q : Int} (h0 : 0 ≤ q) (h : q < 2 ^ 64) : (numL q.toNat).length ≤ 20 := numL_len (by decide) (by omega)
theorem lit_le (n : Nat) (h : n ≤ 1000 := by omega) : n ≤ sizeLine := Nat.le_trans h (by decide)
theorem ok_rounded (F : Fun K "rounded" "rounded" s_rounded f fd) (T : Txt K mg uP uD) (D_show_number : Df P w K mg base 1 "show_number" ["n"] spShowN) : FnOk P w K mg base CX0 2 f fd ["a", "places"] spRound := by
  refine F.ok sc_rounded (fun vs H Q E h => ?_) (fun cdv A outer s H vs Q E hr h => ?_)
  · obtain ⟨p, a, m, rfl, _⟩ := h
    rfl
  · obtain ⟨p, a, m, rfl, hp, h0, h1, hs, hm, k⟩ := h
    have q0 := rndQ_pos h0 h1 hm
    have q1 := rndQ_lt h0 h1 hs hm
    have ql := numL_len19 q0 q1
    unfold FrAt at hp
    have ht := ten_small m hm
    have hs1 := hs.1
    have hs2 := hs.2
    refine ⟨_, (pss_cons (ps_set (i := 2) sc_rounded.nd rfl (.inl rfl) pe_int)
    (pss_cons (ps_for PassesOwn.never rfl (pi_range1 (by rfl) T.z_range (pa_cons (pv 1) pa_nil)) (pg_name (i := 3) sc_rounded.nd rfl (.inl rfl))
      (pss_one (ps_set (i := 2) sc_rounded.nd rfl (.inl rfl) (pe_op op_mulW (pv 2) pe_int))))
    (pss_cons (ps_set (i := 4) sc_rounded.nd rfl (.inl rfl) (pe_bm PySem.F.plainAttrs_str PySem.F.slot_str_zfill PySem.F.type_str_zfill mt_zfill (pe_df D_show_number (hr.mono (by decide)) (by rfl) (pa_cons (pe_op op_fdivW (pe_op op_add (pe_op op_mulW (pe_op op_mulW pe_int (pe_ix ix_tup (pv 0) pe_int (fun _ _ => rfl))) (pv 2)) (pe_ix ix_tup (pv 0) pe_int (fun _ _ => rfl))) (pe_op op_mulW pe_int (pe_ix ix_tup (pv 0) pe_int (fun _ _ => rfl)))) pa_nil)) (pa_cons (pe_op op_add (pv 1) pe_int) pa_nil)))
    (pss_cons (ps_if (pt_cmpR op_eq (pv 1) pe_int (nomark _))
      (pss_one (ps_ret (pv 4)))
      pss_nil)
    (pss_one (ps_ret (pe_op op_add_str (pe_op op_add_str (pe_slice sl_str (pv 4) po_none (po_some (pe_un un_neg (pv 1)))) pe_str) (pe_slice sl_str (pv 4) (po_some (pe_un un_neg (pv 1))) po_none)))))))), ?_⟩
    rw [show start n_rounded [(.ref p : V), (.int (m : Int) : V)] = ([some (.ref p), some (.int (m : Int)), none, none, none] : List (Option V)) from rfl]
    walk_at "rd"
    refine ⟨_, rfl, (m : Int), rfl, by omega, by omega, for_range (lo := 0) (n := m) (fun i σ' H' => ∃ v, σ' = [some (.ref p), some (.int (m : Int)), some (.int (10 ^ i)), v, none] ∧ H' = H) ⟨none, rfl, rfl⟩ ?_ ?_⟩
    · rintro i σ' H' hi ⟨v, rfl, rfl⟩
      walk_at "rd"
      refine w_I (wide_mul (ten_small i (by omega)) (show (10 : Int).natAbs < 2 ^ 4 by decide) (by decide) (by decide) (by decide)) ?_
      exact ⟨_, by rw [← Int.pow_succ], rfl⟩
    · rintro σ' H' ⟨v, rfl, rfl⟩
      walk_at "rd"
      refine w_I (wide_mul (show (2 : Int).natAbs < 2 ^ 2 by decide) hs1 (by decide) (by decide) (by decide)) ?_
      walk_at "rd"
      refine w_I (wide_mul (a := 41) (by omega) ht (by decide) (by decide) (by decide)) ?_
      walk_at "rd"
      refine w_I (wide_mul (show (2 : Int).natAbs < 2 ^ 2 by decide) hs2 (by decide) (by decide) (by decide)) ?_
      refine w_I (wide_div (b := 41) (by omega) (by omega) (by decide) (by decide)) ?_
      walk_at "rd"
      show spShowN [V.int (rndQ a m)] H' _ E0
      have qn : (rndQ a m).natAbs < ten60 := Nat.lt_trans (show (rndQ a m).natAbs < 2 ^ 64 by omega) (by decide)
      refine ⟨_, rfl, qn, fun H1 k1 => ?_⟩
      walk_at "rd"
      refine ⟨_, _, rfl, rfl, pad_ok m hm, ?_⟩
      walk_at "rd"
      have en : rndQ a m = (((rndQ a m).toNat : Nat) : Int) := by omega
      have el : tl (numS (rndQ a m)) = numL (rndQ a m).toNat := by
        rw [en]
        exact tl_nat _
      have ez : tl (Txt.zfill (numS (rndQ a m)) ((m : Int) + 1)) = List.replicate (m + 1 - (numL (rndQ a m).toNat).length) 48 ++ numL (rndQ a m).toNat := by
        rw [zfill_plain (by rw [el]; exact num_head _), el]
        rfl
      obtain ⟨l1, l2⟩ := rndL_len (q := (rndQ a m).toNat) (m := m) (by omega) hm
      generalize hz : Txt.zfill (numS (rndQ a m)) ((m : Int) + 1) = z at ez
      refine ite2 (fun e => ?_) (fun e => ?_)
      · have e0 : m = 0 := by
          have := V.int.inj (of_decide_eq_true e)
          omega
        walk_at "rd"
        refine k _ _ k1 ?_
        rw [ez]
        unfold rndL
        rw [if_pos e0]
      · have e0 : ¬ m = 0 := fun z => e (decide_eq_true (by rw [z]; rfl))
        have zl : z.length ≤ sizeLine := by
          rw [len_tl, ez]
          exact lit_le _
        have c1 : tl (cutS z none (some (-(m : Int)))) = (tl z).take ((tl z).length - m) := cut_left (sIx_neg (by omega) (by rw [ez]; omega))
        have c2 : tl (cutS z (some (-(m : Int))) none) = (tl z).drop ((tl z).length - m) := cut_right (sIx_neg (by omega) (by rw [ez]; omega))
        walk_at "rd"
        refine ⟨_, rfl, zl, ?_⟩
        walk_at "rd"
        refine ⟨_, _, rfl, rfl, ?_, ?_⟩
        · rw [dot_len, len_tl, c1, ez, List.length_take]
          exact lit_le _
        walk_at "rd"
        refine ⟨_, rfl, zl, ?_⟩
        refine ⟨_, _, rfl, rfl, ?_, ?_⟩
        · rw [app_len, dot_len, len_tl, c1, ez, List.length_take, len_tl, c2, ez, List.length_drop]
          exact lit_le _
        refine k _ _ k1 ?_
        rw [tl_append, tl_append, c1, c2, ez, tl_dot]
        unfold rndL
        rw [if_neg e0, List.append_assoc]
        rfl
theorem tl_zero : tl (Str.ofString "0") = [48] := by
  rw [tl_ofString]
  rfl
theorem zero_len : (Str.ofString "0").length = 1 := by
  rw [len_tl, tl_zero]
  rfl
theorem ok_l_rounded (F : Fun K "_law_rounded" "_law_rounded" s_l_rounded f fd) (T : Txt K mg uP uD) : FnOk P w K mg base CX0 1 f fd ["a", "places"] spRound := by
  refine F.ok sc_l_rounded (fun vs H Q E h => ?_) (fun cdv A outer s H vs Q E hr h => ?_)
  · obtain ⟨p, a, m, rfl, _⟩ := h
    rfl
  · obtain ⟨p, a, m, rfl, hp, h0, h1, hs, hm, k⟩ := h
    have q0 := rndQ_pos h0 h1 hm
    have q1 := rndQ_lt h0 h1 hs hm
    have ql := numL_len19 q0 q1
    unfold FrAt at hp
    have ht := ten_small m hm
    have hs1 := hs.1
    have hs2 := hs.2
    refine ⟨_, (pss_cons (ps_set (i := 2) sc_l_rounded.nd rfl (.inl rfl) pe_int)
    (pss_cons (ps_for PassesOwn.never rfl (pi_range1 (by rfl) T.z_range (pa_cons (pv 1) pa_nil)) (pg_name (i := 3) sc_l_rounded.nd rfl (.inl rfl))
      (pss_one (ps_set (i := 2) sc_l_rounded.nd rfl (.inl rfl) (pe_op op_mulW (pv 2) pe_int))))
    (pss_cons (ps_set (i := 4) sc_l_rounded.nd rfl (.inl rfl) (pe_op op_fdivW (pe_op op_add (pe_op op_mulW (pe_op op_mulW (pe_ix ix_tup (pv 0) pe_int (fun _ _ => rfl)) (pv 2)) pe_int) (pe_ix ix_tup (pv 0) pe_int (fun _ _ => rfl))) (pe_op op_mulW (pe_ix ix_tup (pv 0) pe_int (fun _ _ => rfl)) pe_int)))
    (pss_cons (ps_set (i := 5) sc_l_rounded.nd rfl (.inl rfl) (pe_callTy call_str_int (by rfl) T.z_str (by decide +kernel) (pa_cons (pv 4) pa_nil)))
    (pss_cons (ps_while PassesOwn.never (pt_cmpR op_lt (pe_callB call_len_str (by rfl) T.z_len (by decide +kernel) (pa_cons (pv 5) pa_nil)) (pe_op op_add (pv 1) pe_int) (nomark _))
      (pss_one (ps_set (i := 5) sc_l_rounded.nd rfl (.inl rfl) (pe_op op_add_str pe_str (pv 5)))))
    (pss_cons (ps_if (pt_cmpR op_eq (pv 1) pe_int (nomark _))
      (pss_one (ps_ret (pv 5)))
      pss_nil)
    (pss_one (ps_ret (pe_op op_add_str (pe_op op_add_str (pe_slice sl_str (pv 5) po_none (po_some (pe_op op_sub (pe_callB call_len_str (by rfl) T.z_len (by decide +kernel) (pa_cons (pv 5) pa_nil)) (pv 1)))) pe_str) (pe_slice sl_str (pv 5) (po_some (pe_op op_sub (pe_callB call_len_str (by rfl) T.z_len (by decide +kernel) (pa_cons (pv 5) pa_nil)) (pv 1))) po_none)))))))))), ?_⟩
    rw [show start n_l_rounded [(.ref p : V), (.int (m : Int) : V)] = ([some (.ref p), some (.int (m : Int)), none, none, none, none] : List (Option V)) from rfl]
    walk_at "rd"
    refine ⟨_, rfl, (m : Int), rfl, by omega, by omega, for_range (lo := 0) (n := m) (fun i σ' H' => ∃ v, σ' = [some (.ref p), some (.int (m : Int)), some (.int (10 ^ i)), v, none, none] ∧ H' = H) ⟨none, rfl, rfl⟩ ?_ ?_⟩
    · rintro i σ' H' hi ⟨v, rfl, rfl⟩
      walk_at "rd"
      refine w_I (wide_mul (ten_small i (by omega)) (show (10 : Int).natAbs < 2 ^ 4 by decide) (by decide) (by decide) (by decide)) ?_
      exact ⟨_, by rw [← Int.pow_succ], rfl⟩
    · rintro σ' H' ⟨v, rfl, rfl⟩
      have hb : (a.1 * 10 ^ m).natAbs < 2 ^ 60 := wide_lt hs1 ht
      walk_at "rd"
      refine w_I (wide_mul hs1 ht (by decide) (by decide) (by decide)) ?_
      walk_at "rd"
      refine w_I (wide_mul hb (show (2 : Int).natAbs < 2 ^ 2 by decide) (by decide) (by decide) (by decide)) ?_
      walk_at "rd"
      refine w_I (wide_mul hs2 (show (2 : Int).natAbs < 2 ^ 2 by decide) (by decide) (by decide) (by decide)) ?_
      refine w_I (wide_div (b := 41) (by omega) (by omega) (by decide) (by decide)) ?_
      have en : (a.1 * 10 ^ m * 2 + a.2) / (a.2 * 2) = (((rndQ a m).toNat : Nat) : Int) := by
        have : (a.1 * 10 ^ m * 2 + a.2) / (a.2 * 2) = rndQ a m := by
          unfold rndQ
          rw [Int.mul_comm a.2 2, Int.mul_comm _ 2, ← Int.mul_assoc]
        omega
      rw [en]
      have qn : ((((rndQ a m).toNat : Nat) : Int)).natAbs < ten60 := Nat.lt_trans (show ((((rndQ a m).toNat : Nat) : Int)).natAbs < 2 ^ 64 by omega) (by decide)
      walk_at "rd"
      refine ⟨_, rfl, log_60 qn, ?_⟩
      walk_at "rd"
      have el : tl (numS (((rndQ a m).toNat : Nat) : Int)) = numL (rndQ a m).toNat := tl_nat _
      generalize (rndQ a m).toNat = q at *
      obtain ⟨l1, l2⟩ := rndL_len (q := q) (m := m) (by omega) hm
      refine ⟨fun n σ' H'' => ∃ (z : Str) (j : Nat), σ' = [some (.ref p), some (.int (m : Int)), some (.int (10 ^ m)), v, some (.int (q : Int)), some (.str z)] ∧ H'' = H' ∧ tl z = List.replicate j 48 ++ numL q ∧ j ≤ m + 1 - (numL q).length ∧ n = m + 1 - (numL q).length - j, ⟨_, numS (q : Int), 0, rfl, rfl, el, Nat.zero_le _, rfl⟩, fun n σ' H'' hW => ?_⟩
      obtain ⟨z, j, rfl, rfl, hz, hj, hn⟩ := hW
      have zl : z.length = j + (numL q).length := by rw [len_tl, hz, List.length_append, List.length_replicate]
      walk_at "rd"
      refine ⟨_, rfl, lit_le _, ?_⟩
      walk_at "rd"
      refine ite2 (fun e => ?_) (fun e => ?_)
      · have e' : ((z.length : Nat) : Int) < (m : Int) + 1 := of_decide_eq_true e
        refine ⟨fun σ' H3 => ∃ n', n' < n ∧ ∃ (z : Str) (j : Nat), σ' = [some (.ref p), some (.int (m : Int)), some (.int (10 ^ m)), v, some (.int (q : Int)), some (.str z)] ∧ H3 = H'' ∧ tl z = List.replicate j 48 ++ numL q ∧ j ≤ m + 1 - (numL q).length ∧ n' = m + 1 - (numL q).length - j, fun _ _ h => h, ?_⟩
        walk_at "rd"
        refine ⟨_, _, rfl, rfl, ?_, ?_⟩
        · rw [zero_len, zl]
          exact lit_le _
        refine ⟨m + 1 - (numL q).length - (j + 1), by omega, _, j + 1, rfl, rfl, ?_, by omega, rfl⟩
        rw [tl_append, tl_zero, hz, List.replicate_succ]
        rfl
      · have e' : ¬ ((z.length : Nat) : Int) < (m : Int) + 1 := fun x => e (decide_eq_true x)
        have ej : j = m + 1 - (numL q).length := by omega
        subst ej
        walk_at "rd"
        refine ite2 (fun e => ?_) (fun e => ?_)
        · have e0 : m = 0 := by
            have := V.int.inj (of_decide_eq_true e)
            omega
          walk_at "rd"
          refine k _ _ (Kept.refl _) ?_
          rw [hz]
          unfold rndL
          rw [if_pos e0]
        · have e0 : ¬ m = 0 := fun z => e (decide_eq_true (by rw [z]; rfl))
          have zs : z.length ≤ sizeLine := by
            rw [zl]
            exact lit_le _
          have lz : (tl z).length = z.length := (len_tl z).symm
          have hzl : m ≤ z.length := by omega
          have c1 : tl (cutS z none (some ((z.length : Int) - (m : Int)))) = (tl z).take ((tl z).length - m) := cut_left (by rw [← lz]; exact sIx_sub (by omega))
          have c2 : tl (cutS z (some ((z.length : Int) - (m : Int))) none) = (tl z).drop ((tl z).length - m) := cut_right (by rw [← lz]; exact sIx_sub (by omega))
          walk_at "rd"
          refine ⟨_, rfl, zs, ?_⟩
          walk_at "rd"
          refine ⟨_, rfl, zs, ?_⟩
          walk_at "rd"
          refine ⟨_, _, rfl, rfl, ?_, ?_⟩
          · rw [dot_len, len_tl, c1, hz, List.length_take]
            exact lit_le _
          walk_at "rd"
          refine ⟨_, rfl, zs, ?_⟩
          walk_at "rd"
          refine ⟨_, rfl, zs, ?_⟩
          refine ⟨_, _, rfl, rfl, ?_, ?_⟩
          · rw [app_len, dot_len, len_tl, c1, hz, List.length_take, len_tl, c2, hz, List.length_drop]
            exact lit_le _
          refine k _ _ (Kept.refl _) ?_
          rw [tl_append, tl_append, c1, c2, hz, tl_dot]
          unfold rndL
          rw [if_neg e0, List.append_assoc]
          rfl
end
end Ky

namespace Ky
open PySem PySem.Spec PyProof.Rows L2
local macro_rules | `(tactic| walk_at "rd") => `(tactic| repeat (first
  | with_reducible refine w_seq ?_
  | with_reducible refine w_asg ?_
  | with_reducible refine w_ret ?_
  | with_reducible refine w_drop ?_
  | with_reducible refine w_ifs ?_
  | ((with_reducible refine' w_var ?hh ?_); (case hh => exact rfl))
  | with_reducible refine w_c ?_
  | with_reducible refine w_op ?_
  | with_reducible refine w_un ?_
  | with_reducible refine w_I0 ?_
  | with_reducible refine w_U ?_
  | with_reducible refine w_nil ?_
  | with_reducible refine w_cons ?_
  | with_reducible refine w_call ?_
  | with_reducible refine w_cb ?_
  | with_reducible refine w_test ?_
  | with_reducible refine w_B ?_
  | with_reducible refine w_bl ?_
  | with_reducible refine w_and ?_
  | with_reducible refine w_or ?_
  | with_reducible refine w_not ?_
  | with_reducible refine w_ife ?_
  | with_reducible refine w_tup ?_
  | with_reducible refine w_lst ?_
  | with_reducible refine w_next ?_
  | with_reducible refine w_bm ?_
  | with_reducible refine w_sl ?_
  | with_reducible refine w_part ?_
  | with_reducible refine w_nop ?_
  | with_reducible refine w_isI ?_
  | with_reducible refine w_yes ?_
  | with_reducible refine w_gn ?_
  | with_reducible refine w_gsub ?_
  | ((with_reducible refine' w_setL ?h1 ?h2 ?_); (case h1 => first | assumption | exact upd_same); (case h2 => exact rfl))
  | with_reducible refine w_asgG ?_
  | with_reducible refine w_m1 ?_
  | with_reducible refine w_isS ?_
  | with_reducible refine w_tyS ?_
  | ((with_reducible refine' w_tyL ?h1 ?_); (case h1 => first | assumption | exact upd_same))
  | ((with_reducible refine' w_ixT ?h1 ?h2 ?_); (case h1 => first | assumption | exact upd_same); (case h2 => exact rfl))
  | ((with_reducible refine' w_ixL ?h1 ?h2 ?_); (case h1 => first | assumption | exact upd_same); (case h2 => exact rfl))
  | ((with_reducible refine w_eq ?h1 ?_); (case h1 => exact rfl))
  | ((with_reducible refine w_ne ?h1 ?_); (case h1 => exact rfl))
  | dsimp only [List.set_cons_zero, List.set_cons_succ, List.append_nil, List.cons_append, List.nil_append, cxOf]))

open TL
section
variable {P : Program} {w : World} {K : PySem.W.Frag} {mg : Str → Option Value} {base : Heap} {uP uD : Value} {f c Pt : Addr} {fd : FuncData}
theorem tl_zero1 : tl (Str.ofString "0") = [48] := by
  rw [tl_ofString]
  rfl
theorem str_eq_iff {x y : Str} : (V.str x = V.str y) ↔ tl x = tl y := ⟨fun h => by rw [V.str.inj h], fun h => by rw [ext_tl h]⟩
theorem digs_tl : tl (Str.ofString "0123456789") = [48, 49, 50, 51, 52, 53, 54, 55, 56, 57] := by
  rw [tl_ofString]
  rfl
theorem dig_mem (c : Nat) : decide (c ∈ (Str.ofString "0123456789").cps.toList) = dig c := by
  show decide (c ∈ tl (Str.ofString "0123456789")) = dig c
  rw [digs_tl]
  unfold dig
  rw [Bool.eq_iff_iff, Bool.and_eq_true, decide_eq_true_eq, decide_eq_true_eq, decide_eq_true_eq]
  simp only [List.mem_cons, List.not_mem_nil, or_false]
  omega
def spReadN (Pt : Addr) : Sp := fun vs H Q _ => ∃ t : Str, vs = [.str t] ∧ (tl t).length ≤ 60 ∧ GxR.TabG H Pt ∧
  (∀ H', Kept H H' → rdN (tl t) = none → Q .non H') ∧ ∀ H' (n : Nat), Kept H H' → rdN (tl t) = some n → n < ten60 → Q (.int (n : Int)) H'
theorem ok_read_number (F : FunC K "read_number" s_read_number f fd c) (T : Txt K mg uP uD) (TB : GxR.TabB base mg c Pt) : FnOk P w K mg base CX0 1 f fd ["text"] (spReadN Pt) := by
  refine F.ok sc_read_number (fun vs H Q E h => ?_) (fun A outer s H vs Q E hr h => ?_)
  · obtain ⟨t, rfl, _⟩ := h
    rfl
  · obtain ⟨t, rfl, ht, hT, kn, ks⟩ := h
    have tlen : t.length = (tl t).length := len_tl t
    have tsz : t.length ≤ sizeLine := by
      rw [tlen]
      exact Nat.le_trans ht (by decide)
    refine ⟨_, (Evl.pss_cut (ps_if (PW.pt (pw_or (pt_cmpR op_eq (pv 0) pe_str (nomark _)) (pw_or1 (PW.pt (pw_and (pt_cmpR op_eq (pe_ix ix_str (pv 0) pe_int (fun _ _ => rfl)) pe_str (nomark _)) (pw_and1 (pt_cmpR op_ne (pv 0) pe_str (nomark _))))))))
      (pss_one (ps_ret pe_non))
      pss_nil)
    (Evl.pss_cut (ps_if (pt_not (pt_val (GxR.pe_allS hr (by rfl) T.z_all (by decide +kernel) TB rfl ⟨rfl, rfl, by decide +kernel, rfl, rfl, fun y hy h => absurd h ((by decide +kernel : ∀ y ∈ _, y.2 ≠ NameKind.free) y hy)⟩ (pv 0) (elt_in rfl rfl) (fun _ => rfl))))
      (pss_one (ps_ret pe_non))
      pss_nil)
    (pss_cons (ps_set (i := 1) sc_read_number.nd rfl (.inl rfl) pe_int)
    (pss_cons (ps_set (i := 2) sc_read_number.nd rfl (.inl rfl) (pe_bm PySem.F.plainAttrs_str PySem.F.slot_str_zfill PySem.F.type_str_zfill mt_zfill (pv 0) (pa_cons (pe_op op_add (pe_callB call_len_str (by rfl) T.z_len (by decide +kernel) (pa_cons (pv 0) pa_nil)) (pe_op op_mod (pe_un un_neg (pe_callB call_len_str (by rfl) T.z_len (by decide +kernel) (pa_cons (pv 0) pa_nil))) (pe_glob (by rfl) T.g_PART_DIGITS T.v_PART_DIGITS))) pa_nil)))
    (pss_cons (ps_for PassesOwn.never rfl (pi_range3 (by rfl) T.z_range (pa_cons pe_int (pa_cons (pe_callB call_len_str (by rfl) T.z_len (by decide +kernel) (pa_cons (pv 2) pa_nil)) (pa_cons (pe_glob (by rfl) T.g_PART_DIGITS T.v_PART_DIGITS) pa_nil)))) (pg_name (i := 3) sc_read_number.nd rfl (.inl rfl))
      (pss_one (ps_set (i := 1) sc_read_number.nd rfl (.inl rfl) (pe_op op_add (pe_op op_mulW (pv 1) (pe_glob (by rfl) T.g_PART T.v_PART)) (pe_callTy call_int_str (by rfl) T.z_int (by decide +kernel) (pa_cons (pe_slice sl_str (pv 2) (po_some (pv 3)) (po_some (pe_op op_add (pv 3) (pe_glob (by rfl) T.g_PART_DIGITS T.v_PART_DIGITS)))) pa_nil))))))
    (pss_one (ps_ret (pv 1)))))))), ?_⟩
    rw [show start n_read_number [(.str t : V)] = ([some (.str t), none, none, none] : List (Option V)) from rfl]
    refine ⟨fun σ' H' => σ' = [some (.str t), none, none, none] ∧ H' = H ∧ tl t ≠ [] ∧ ¬ ((tl t).head? = some 48 ∧ tl t ≠ [48]), ?_, ?_⟩
    · walk_at "rd"
      by_cases e0 : tl t = []
      · refine if_t (decide_eq_true (str_eq_iff.mpr (by rw [e0, empty_tl]))) ?_
        refine if_t rfl ?_
        walk_at "rd"
        refine kn _ (Kept.refl _) ?_
        unfold rdN
        rw [if_pos e0]
      · refine if_f (decide_eq_false (fun z => e0 (by rw [str_eq_iff.mp z, empty_tl]))) ?_
        obtain ⟨a, r, ea⟩ : ∃ a r, tl t = a :: r := by
          cases h : tl t with
          | nil => exact absurd h e0
          | cons a r => exact ⟨a, r, rfl⟩
        walk_at "rd"
        refine ⟨t, 0, a, rfl, rfl, tsz, atI_nat (j := 0) (by rw [show t.cps.toList = a :: r from ea]; rfl), ?_⟩
        walk_at "rd"
        have sa : ∀ x : Nat, tl (⟨#[x]⟩ : Str) = [x] := fun _ => rfl
        by_cases e2 : a = 48
        · refine if_t (decide_eq_true (str_eq_iff.mpr (by rw [sa, tl_zero1, e2]))) ?_
          walk_at "rd"
          by_cases e1 : tl t = [48]
          · refine if_f (by rw [decide_eq_true (str_eq_iff.mpr (by rw [e1, tl_zero1]))]; rfl) ?_
            exact ⟨rfl, rfl, e0, fun z => z.2 e1⟩
          · refine if_t (by rw [decide_eq_false (fun z => e1 (by rw [str_eq_iff.mp z, tl_zero1]))]; rfl) ?_
            walk_at "rd"
            refine kn _ (Kept.refl _) ?_
            unfold rdN
            rw [if_neg e0, if_pos ⟨by rw [ea, e2]; rfl, e1⟩]
        · refine if_f (decide_eq_false (fun z => e2 (by have := str_eq_iff.mp z; rw [sa, tl_zero1] at this; injection this))) ?_
          refine ⟨rfl, rfl, e0, fun z => e2 ?_⟩
          have := z.1
          rw [ea] at this
          exact Option.some.inj this
    · rintro σ' H' ⟨rfl, rfl, e0, hcut⟩
      refine ⟨fun σ' H2 => σ' = [some (.str t), none, none, none] ∧ Kept H' H2 ∧ (tl t).all dig = true, ?_, ?_⟩
      · walk_at "rd"
        refine ⟨_, rfl, t, rfl, hT, fun H2 hH => ?_⟩
        have k2 := Kept.tabbed hT hH
        have ed : (t.cps.toList.all fun c => decide (c ∈ (Str.ofString "0123456789").cps.toList)) = (tl t).all dig := by
          congr 1
          funext c
          exact dig_mem c
        rw [ed]
        walk_at "rd"
        cases e : (tl t).all dig with
        | true =>
          refine if_f rfl ?_
          exact ⟨rfl, k2, rfl⟩
        | false =>
          refine if_t rfl ?_
          walk_at "rd"
          refine kn _ k2 ?_
          unfold rdN
          rw [if_neg e0, if_neg hcut, if_neg (by rw [e]; decide)]
      · rintro σ' H2 ⟨rfl, k2, ea⟩
        have hd := dig_all ea
        have ev : rdN (tl t) = some (NumText.digitsVal (tl t)) := by
          unfold rdN
          rw [if_neg e0, if_neg hcut, if_pos ea]
        have l0 : 0 < (tl t).length := by
          cases h : tl t with
          | nil => exact absurd h e0
          | cons a r => exact Nat.succ_pos _
        walk_at "rd"
        refine ⟨_, rfl, tsz, ?_⟩
        walk_at "rd"
        refine ⟨_, rfl, tsz, ?_⟩
        walk_at "rd"
        refine w_I (by show (0 : Int) < 60; decide) ?_
        walk_at "rd"
        have e60 : (t.length : Int) + -(t.length : Int) % 60 = 60 := by omega
        rw [e60]
        refine ⟨_, _, rfl, rfl, by decide, ?_⟩
        walk_at "rd"
        have hh : ∀ c, (tl t).head? = some c → c ≠ 43 ∧ c ≠ 45 := fun c hc => by
          have := hd c (List.mem_of_mem_head? hc)
          omega
        have ez : tl (Txt.zfill t 60) = List.replicate (60 - (tl t).length) 48 ++ tl t := zfill_plain hh
        generalize Txt.zfill t 60 = z at ez
        have zl : z.length = 60 := by
          rw [len_tl, ez, List.length_append, List.length_replicate]
          omega
        have zsz : z.length ≤ sizeLine := by
          rw [zl]
          decide
        have zd : NumText.AllDigits (tl z) := by
          rw [ez]
          intro c hc
          rcases List.mem_append.mp hc with q | q
          · have := List.eq_of_mem_replicate q
            omega
          · exact hd c q
        refine ⟨_, rfl, _, rfl, zsz, ?_⟩
        rw [zl]
        refine ⟨0, 60, 60, 1, rfl, ⟨by decide, by decide, by decide, by decide⟩, for_rangeC (lo := 0) (c := 60) (n := 1) (fun i σ' H3 => ∃ v, σ' = [some (.str t), some (.int (if i = 0 then 0 else (NumText.digitsVal (tl t) : Nat))), some (.str z), v] ∧ H3 = H2) ⟨none, rfl, rfl⟩ ?_ ?_⟩
        · rintro i σ' H3 hi ⟨v, rfl, rfl⟩
          have hi0 : i = 0 := by omega
          subst hi0
          walk_at "rd"
          refine w_I (wide_mul (a := 2) (b := 200) (by show (0 : Int).natAbs < 2 ^ 2; decide) (by decide) (by decide) (by decide) (by decide)) ?_
          walk_at "rd"
          refine ⟨z, rfl, zsz, ?_⟩
          walk_at "rd"
          have ec : tl (cutS z (some (0 + ((0 : Nat) : Int) * 60)) (some (0 + ((0 : Nat) : Int) * 60 + 60))) = tl z := by
            rw [tl_cut]
            have hz : (tl z).length = 60 := by rw [← len_tl]; exact zl
            rw [hz]
            show (List.drop 0 (tl z)).take (60 - 0) = tl z
            rw [List.drop_zero, List.take_of_length_le (by rw [hz]; exact Nat.le_refl _)]
          rw [ext_tl ec]
          have ei := PySem.intText_digits (x := z) zd (fun h => by
            have : z.length = 0 := by rw [len_tl]; show (z.cps.toList).length = 0; rw [h]; rfl
            omega) (by rw [zl]; decide)
          refine ⟨z, _, rfl, ei, by rw [zl]; decide, ?_⟩
          refine w_I0 ?_
          refine ⟨some (V.int (0 + ((0 : Nat) : Int) * 60)), ?_, rfl⟩
          show [some (V.str t), some (V.int (0 * 1000000000000000000000000000000000000000000000000000000000000 + ((NumText.digitsVal (tl z) : Nat) : Int))), some (V.str z), some (V.int (0 + ((0 : Nat) : Int) * 60))] = [some (V.str t), some (V.int (((NumText.digitsVal (tl t) : Nat) : Int))), some (V.str z), some (V.int (0 + ((0 : Nat) : Int) * 60))]
          rw [ez, dval_zeros, Int.zero_mul, Int.zero_add]
        · rintro σ' H3 ⟨v, rfl, rfl⟩
          walk_at "rd"
          refine ks _ _ k2 ev ?_
          have := dval_lt (k := 60) hd ht
          rw [ten60_pow]
          exact this
/-! ### read_fraction -/
theorem part_of (t : Str) : tl (Txt.partition t slash).1 = (partL (tl t)).1 ∧ ((Txt.partition t slash).2.1 = if (partL (tl t)).2.1 = true then slash else Str.empty) ∧ tl (Txt.partition t slash).2.2 = (partL (tl t)).2.2 := by
  have hs : tl slash ≠ [] := by rw [tl_slash]; decide
  rw [partition_par t slash hs, tl_slash]
  unfold partL
  cases par [47] [] (tl t) with
  | none => exact ⟨rfl, rfl, rfl⟩
  | some p => exact ⟨rfl, rfl, rfl⟩
theorem partL_len (l : List Nat) : (partL l).1.length ≤ l.length ∧ (partL l).2.2.length ≤ l.length := by
  have key : ∀ (r acc : List Nat) a b, par [47] acc r = some (a, b) → a.length ≤ acc.length + r.length ∧ b.length ≤ r.length := by
    intro r
    induction r with
    | nil =>
      intro acc a b h
      cases h
    | cons c r ih =>
      intro acc a b h
      unfold par at h
      split at h
      · cases h
        rw [List.length_cons, List.length_drop, List.length_cons]
        omega
      · have := ih _ _ _ h
        rw [List.length_append, List.length_singleton] at this
        rw [List.length_cons]
        omega
  unfold partL
  cases h : par [47] [] l with
  | none => exact ⟨Nat.le_refl _, Nat.zero_le _⟩
  | some p =>
    have := key l [] p.1 p.2 h
    rw [List.length_nil] at this
    exact ⟨show p.1.length ≤ l.length by omega, show p.2.length ≤ l.length by omega⟩
theorem unsign_len (l : List Nat) : (unsign l).length ≤ l.length := by
  unfold unsign
  cases l with
  | nil => exact Nat.le_refl _
  | cons a r =>
    show (if a = 45 then r else a :: r).length ≤ (a :: r).length
    split
    · rw [List.length_cons]
      omega
    · exact Nat.le_refl _
theorem tl_minus1 : tl (Str.ofString "-") = [45] := by
  rw [tl_ofString]
  rfl
def spReadF (Pt : Addr) : Sp := fun vs H Q _ => ∃ t : Str, vs = [.str t] ∧ (tl t).length ≤ 59 ∧ GxR.TabG H Pt ∧
  (∀ H', Kept H H' → rdF (tl t) = none → Q .non H') ∧ ∀ H' p a, Kept H H' → H p = none → rdF (tl t) = some a → FrAt H' p a → Q (.ref p) H'
def optV : Option Nat → V
  | none => .non
  | some n => .int (n : Int)
theorem ok_read_fraction (F : Fun K "read_fraction" "read_fraction" s_read_fraction f fd) (T : Txt K mg uP uD) (D_read_number : Df P w K mg base 1 "read_number" ["text"] (spReadN Pt))
    (D_fraction : Df P w K mg base 1 "fraction" ["n", "d"] spFrac) (D_show_fraction : Df P w K mg base 2 "show_fraction" ["a"] spShowF) : FnOk P w K mg base CX0 3 f fd ["text"] (spReadF Pt) := by
  refine F.ok sc_read_fraction (fun vs H Q E h => ?_) (fun cdv A outer s H vs Q E hr h => ?_)
  · obtain ⟨t, rfl, _⟩ := h
    rfl
  · obtain ⟨t, rfl, ht, hT, kn, ks⟩ := h
    have tsz : t.length ≤ sizeLine := by
      rw [len_tl]
      exact Nat.le_trans ht (by decide)
    obtain ⟨p1, p2, p3⟩ := part_of t
    obtain ⟨q1, q2⟩ := partL_len (tl t)
    have bl : (Txt.partition t slash).1.length ≤ sizeLine := by
      rw [len_tl, p1]
      exact Nat.le_trans (Nat.le_trans q1 ht) (by decide)
    refine ⟨_, (pss_cons (ps_asg (pe_partition (pv 0) pe_str) (pg_tup (by rfl) (pgs_cons (pg_name (i := 1) sc_read_fraction.nd rfl (.inl rfl)) (pgs_cons (pg_name (i := 2) sc_read_fraction.nd rfl (.inl rfl)) (pgs_cons (pg_name (i := 3) sc_read_fraction.nd rfl (.inl rfl)) pgs_nil)))))
    (Evl.pss_cut (ps_set (i := 4) sc_read_fraction.nd rfl (.inl rfl) (pe_df D_read_number (hr.mono (by decide)) (by rfl) (pa_cons (pe_bm PySem.F.plainAttrs_str PySem.F.slot_str_removeprefix PySem.F.type_str_removeprefix mt_removeprefix (pv 1) (pa_cons pe_str pa_nil)) pa_nil)))
    (Evl.pss_cut (ps_set (i := 5) sc_read_fraction.nd rfl (.inl rfl) (pe_ifExp (pt_truth (pv 2) (by intro _; rfl)) (pe_df D_read_number (hr.mono (by decide)) (by rfl) (pa_cons (pv 3) pa_nil)) pe_int))
    (pss_cons (ps_if (PW.pt (pw_or (pt_cmpR op_isN (pv 4) pe_non (nomark _)) (pw_or (pt_cmpR op_isN (pv 5) pe_non (nomark _)) (pw_or1 (pt_cmpR op_eq (pv 5) pe_int (nomark _))))))
      (pss_one (ps_ret pe_non))
      pss_nil)
    (pss_cons (ps_set (i := 6) sc_read_fraction.nd rfl (.inl rfl) (pe_df D_fraction (hr.mono (by decide)) (by rfl) (pa_cons (pe_ifExp (pt_val (pe_bm PySem.F.plainAttrs_str PySem.F.slot_str_startswith PySem.F.type_str_startswith mt_startswith (pv 1) (pa_cons pe_str pa_nil))) (pe_un un_neg (pv 4)) (pv 4)) (pa_cons (pv 5) pa_nil))))
    (pss_cons (ps_if (pt_cmpR op_ne (pe_df D_show_fraction (hr.mono (by decide)) (by rfl) (pa_cons (pv 6) pa_nil)) (pv 0) (nomark _))
      (pss_one (ps_ret pe_non))
      pss_nil)
    (pss_one (ps_ret (pv 6))))))))), ?_⟩
    rw [show start n_read_fraction [(.str t : V)] = ([some (.str t), none, none, none, none, none, none] : List (Option V)) from rfl]
    walk_at "rd"
    refine ⟨t, slash, rfl, rfl, ?_, tsz, fun p hp => ?_⟩
    · rw [len_tl, tl_slash]
      rfl
    refine ⟨p, _, rfl, SqT.of upd_same, rfl, _, _, rfl, _, _, rfl, _, _, rfl, rfl, ?_⟩
    have k1 : Kept H (upd H p (.tup [.str (Txt.partition t slash).1, .str (Txt.partition t slash).2.1, .str (Txt.partition t slash).2.2])) := Kept.new hp
    walk_at "rd"
    have eu : tl (Txt.removeprefix (Txt.partition t slash).1 (Str.ofString "-")) = unsign (partL (tl t)).1 := by
      rw [removeprefix_one tl_minus1, p1]
      rfl
    have hn1 : (tl (Txt.removeprefix (Txt.partition t slash).1 (Str.ofString "-"))).length ≤ 60 := by
      rw [eu]
      have := unsign_len (partL (tl t)).1
      omega
    generalize (Txt.partition t slash).1 = above at p1 bl k1 eu hn1
    generalize (Txt.partition t slash).2.1 = mid at p2 k1
    generalize (Txt.partition t slash).2.2 = below at p3 k1
    have hb1 : (tl below).length ≤ 60 := by
      rw [p3]
      omega
    refine ⟨fun σ' H' => ∃ o : Option Nat, σ' = [some (.str t), some (.str above), some (.str mid), some (.str below), some (optV o), none, none] ∧ Kept H H' ∧ rdN (unsign (partL (tl t)).1) = o ∧ ∀ n, o = some n → n < ten60, ?_, ?_⟩
    · walk_at "rd"
      refine ⟨_, _, rfl, rfl, bl, ?_⟩
      walk_at "rd"
      refine ⟨_, rfl, hn1, k1.tab _ hT, fun H2 k2 e => ?_, fun H2 n k2 e hn => ?_⟩
      · exact ⟨none, rfl, k1.trans k2, by rw [← eu]; exact e, fun n h => by cases h⟩
      · exact ⟨some n, rfl, k1.trans k2, by rw [← eu]; exact e, fun m h => by cases h; exact hn⟩
    rintro σ' H2 ⟨o, rfl, k2, eo, bo⟩
    refine ⟨fun σ' H' => ∃ o2 : Option Nat, σ' = [some (.str t), some (.str above), some (.str mid), some (.str below), some (optV o), some (optV o2), none] ∧ Kept H H' ∧ (if (partL (tl t)).2.1 = true then rdN (partL (tl t)).2.2 else some 1) = o2 ∧ ∀ n, o2 = some n → n < ten60, ?_, ?_⟩
    · walk_at "rd"
      cases eb : (partL (tl t)).2.1 with
      | false =>
        have em : mid = Str.empty := by
          rw [p2, eb]
          rfl
        refine ⟨false, ⟨by rw [em]; decide, by rw [em]; rfl⟩, ?_⟩
        walk_at "rd"
        refine if_f rfl ?_
        walk_at "rd"
        exact ⟨some 1, rfl, k2, by rw [if_neg (by decide)], fun m h => by cases h; decide⟩
      | true =>
        have em : mid = slash := by
          rw [p2, eb]
          rfl
        have el : mid.length = 1 := by
          rw [em, len_tl, tl_slash]
          rfl
        refine ⟨true, ⟨by rw [el]; decide, by rw [el]; rfl⟩, ?_⟩
        walk_at "rd"
        refine if_t rfl ?_
        walk_at "rd"
        refine ⟨_, rfl, hb1, k2.tab _ hT, fun H3 k3 e => ?_, fun H3 n k3 e hn => ?_⟩
        · exact ⟨none, rfl, k2.trans k3, by rw [if_pos rfl, ← p3]; exact e, fun n h => by cases h⟩
        · exact ⟨some n, rfl, k2.trans k3, by rw [if_pos rfl, ← p3]; exact e, fun m h => by cases h; exact hn⟩
    · rintro σ' H3 ⟨o2, rfl, k3, eo2, bo2⟩
      walk_at "rd"
      cases o with
      | none =>
        refine ⟨rfl, ?_⟩
        walk_at "rd"
        refine if_t rfl ?_
        refine if_t rfl ?_
        walk_at "rd"
        exact kn _ k3 (rdF_no1 eo)
      | some n =>
        refine ⟨rfl, ?_⟩
        walk_at "rd"
        refine if_f rfl ?_
        walk_at "rd"
        cases o2 with
        | none =>
          refine ⟨rfl, ?_⟩
          walk_at "rd"
          refine if_t rfl ?_
          refine if_t rfl ?_
          walk_at "rd"
          exact kn _ k3 (rdF_no2 eo2)
        | some d =>
          have ey := rdF_yes eo eo2
          refine ⟨rfl, ?_⟩
          walk_at "rd"
          refine if_f rfl ?_
          walk_at "rd"
          by_cases hd : d = 0
          · refine if_t (decide_eq_true (by rw [hd]; rfl)) ?_
            walk_at "rd"
            refine kn _ k3 ?_
            rw [ey, if_pos hd]
          · refine if_f (decide_eq_false (fun z => hd (Int.ofNat.inj (V.int.inj z)))) ?_
            rw [if_neg hd] at ey
            have bn := bo n rfl
            have bd := bo2 d rfl
            have es : Txt.startswith above (Str.ofString "-") = decide ((partL (tl t)).1.head? = some 45) := by
              rw [startswith_one tl_minus1, p1]
            walk_at "rd"
            refine ⟨_, _, rfl, rfl, ?_⟩
            rw [es]
            walk_at "rd"
            have cont : ∀ x : Int, x = (if (partL (tl t)).1.head? = some 45 then -(n : Int) else (n : Int)) → ∀ R : VK, (∀ p H4, H3 p = none → Kept H3 H4 → FrAt H4 p (frc x (d : Int)) → R (.ref p) H4) → spFrac [V.int x, V.int (d : Int)] H3 R E0 := fun x hx R hR => by
              have hb : x.natAbs = n := by
                rw [hx]
                split <;> omega
              have h1000 : ten60 < 2 ^ 1000 := by decide
              exact ⟨x, (d : Int), rfl, by omega, by rw [hb]; exact Nat.lt_trans bn h1000, by rw [Int.natAbs_natCast]; exact Nat.lt_trans bd h1000, hR⟩
            have last : ∀ (x : Int) (p : Addr) (H4 : Hp), x = (if (partL (tl t)).1.head? = some 45 then -(n : Int) else (n : Int)) → H3 p = none → Kept H3 H4 → FrAt H4 p (frc x (d : Int)) →
                tSeq (tIfS (tTest (tOp rNe (tCall spShowF [] E0 (tCons (tVar 6) tNil)) (tVar 0))) (tRet (tC V.non)) tNext) (tRet (tVar 6)) { nx := fun x H' => Q V.non H', rt := Q }
                  [some (.str t), some (.str above), some (.str mid), some (.str below), some (optV (some n)), some (optV (some d)), some (.ref p)] H4 := fun x p H4 hx np k4 hf => by
              have hd' : (d : Int) ≠ 0 := by omega
              have hb : x.natAbs = n := by
                rw [hx]
                split <;> omega
              have l1 := (frc_le (n := x) hd').1
              have l2 := (frc_le (n := x) hd').2
              rw [← hx] at ey
              walk_at "rd"
              refine ⟨p, _, rfl, hf, by omega, by omega, fun H5 k5 => ?_⟩
              walk_at "rd"
              by_cases hs : shL (frc x (d : Int)) = tl t
              · refine if_f (by rw [decide_eq_true (str_eq_iff.mpr (by rw [tl_shF]; exact hs))]; rfl) ?_
                walk_at "rd"
                rw [if_pos hs] at ey
                exact ks _ _ _ (k3.trans (k4.trans k5)) (k3.free _ np) ey (k5.tup hf)
              · refine if_t (by rw [decide_eq_false (fun z => hs (by rw [← tl_shF]; exact str_eq_iff.mp z))]; rfl) ?_
                walk_at "rd"
                rw [if_neg hs] at ey
                exact kn _ (k3.trans (k4.trans k5)) ey
            by_cases hm : (partL (tl t)).1.head? = some 45
            · refine if_t (decide_eq_true hm) ?_
              walk_at "rd"
              refine w_U ?_
              walk_at "rd"
              exact cont _ (by rw [if_pos hm]) _ fun p H4 np k4 hf => last _ p H4 (by rw [if_pos hm]) np k4 hf
            · refine if_f (decide_eq_false hm) ?_
              walk_at "rd"
              exact cont _ (by rw [if_neg hm]) _ fun p H4 np k4 hf => last _ p H4 (by rw [if_neg hm]) np k4 hf
end
end Ky

namespace Ky
open PySem PySem.Spec PyProof.Rows L2
local macro_rules | `(tactic| walk_at "rd") => `(tactic| repeat (first
  | with_reducible refine w_seq ?_
  | with_reducible refine w_asg ?_
  | with_reducible refine w_ret ?_
  | with_reducible refine w_drop ?_
  | with_reducible refine w_ifs ?_
  | ((with_reducible refine' w_var ?hh ?_); (case hh => exact rfl))
  | with_reducible refine w_c ?_
  | with_reducible refine w_op ?_
  | with_reducible refine w_un ?_
  | with_reducible refine w_I0 ?_
  | with_reducible refine w_U ?_
  | with_reducible refine w_nil ?_
  | with_reducible refine w_cons ?_
  | with_reducible refine w_call ?_
  | with_reducible refine w_cb ?_
  | with_reducible refine w_test ?_
  | with_reducible refine w_B ?_
  | with_reducible refine w_bl ?_
  | with_reducible refine w_and ?_
  | with_reducible refine w_or ?_
  | with_reducible refine w_not ?_
  | with_reducible refine w_ife ?_
  | with_reducible refine w_tup ?_
  | with_reducible refine w_lst ?_
  | with_reducible refine w_next ?_
  | with_reducible refine w_bm ?_
  | with_reducible refine w_sl ?_
  | with_reducible refine w_part ?_
  | with_reducible refine w_nop ?_
  | with_reducible refine w_isI ?_
  | with_reducible refine w_yes ?_
  | with_reducible refine w_gn ?_
  | with_reducible refine w_gsub ?_
  | ((with_reducible refine' w_setL ?h1 ?h2 ?_); (case h1 => first | assumption | exact upd_same); (case h2 => exact rfl))
  | with_reducible refine w_asgG ?_
  | with_reducible refine w_m1 ?_
  | with_reducible refine w_isS ?_
  | with_reducible refine w_tyS ?_
  | ((with_reducible refine' w_tyL ?h1 ?_); (case h1 => first | assumption | exact upd_same))
  | ((with_reducible refine' w_ixT ?h1 ?h2 ?_); (case h1 => first | assumption | exact upd_same); (case h2 => exact rfl))
  | ((with_reducible refine' w_ixL ?h1 ?h2 ?_); (case h1 => first | assumption | exact upd_same); (case h2 => exact rfl))
  | ((with_reducible refine w_eq ?h1 ?_); (case h1 => exact rfl))
  | ((with_reducible refine w_ne ?h1 ?_); (case h1 => exact rfl))
  | dsimp only [List.set_cons_zero, List.set_cons_succ, List.append_nil, List.cons_append, List.nil_append, cxOf]))

open TL
section
variable {P : Program} {w : World} {K : PySem.W.Frag} {mg : Str → Option Value} {base : Heap} {uP uD : Value} {f c Pt : Addr} {fd : FuncData}
theorem w_neSame {H : Hp} {p q : Addr} {a : Int × Int} {Q : VK} (h1 : FrAt H p a) (h2 : FrAt H q a) (k : Q (.bl false) H) : rNeD K (.ref p) (.ref q) H Q := by
  have hs : SeqAt.shaped (.tuple [.int a.1, .int a.2]) = true := rfl
  refine ⟨.tuple [.int a.1, .int a.2], .tuple [.int a.1, .int a.2], .tup (SqT.of h1) (.cons (.int _) (.cons (.int _) .nil)), .tup (SqT.of h2) (.cons (.int _) (.cons (.int _) .nil)), hs, hs, ?_⟩
  rw [SeqAt.eqv_refl _ (SeqAt.canLay_of_shaped hs)]
  exact k
theorem w_forL {te : TE} {g : TG} {tb : TS} {D : Ends} {σ : L2.St} {H : Hp} (q : te σ H fun x H1 => ∃ a, x = .ref a ∧ (∃ xs, SqL K H1 a xs) ∧ ∃ W : Nat → Nat → L2.St → Hp → Prop, (∃ m, W 0 m σ H1) ∧ ∀ i m σ H, W i m σ H →
    ((Itl K a).stop i H ∧ D.nx σ H) ∨ ((Itl K a).go i H ∧ ∃ N : L2.St → Hp → Prop, (∀ σ' H', N σ' H' → ∃ m', m' < m ∧ W (i + 1) m' σ' H') ∧ ∀ x H', (Itl K a).yld i H x H' → g x σ H' fun σ2 H2 => tb { D with nx := N, ct := N, bk := D.nx } σ2 H2)) :
    tFor (iList K te) g tb D σ H := q
/-- what one round of the law holds -/
structure Cur (K : PySem.W.Frag) (d Pt pa pb : Addr) (a b : Int × Int) (H : Hp) : Prop where
  fa : FrAt H pa a
  fb : FrAt H pb b
  dr : Drw K H d
  tb : GxR.TabG H Pt
theorem Cur.kept {d pa pb : Addr} {a b : Int × Int} {H H' : Hp} (h : Cur K d Pt pa pb a b H) (e : Kept H H') : Cur K d Pt pa pb a b H' := ⟨e.fr h.fa, e.fr h.fb, e.toD.drw h.dr, e.tab _ h.tb⟩
theorem Cur.keptD {d pa pb : Addr} {a b : Int × Int} {H H' : Hp} (h : Cur K d Pt pa pb a b H) (e : KeptD K d H H') : Cur K d Pt pa pb a b H' := ⟨e.tup h.dr h.fa, e.tup h.dr h.fb, e.drw h.dr, e.tab _ h.tb⟩
def bads (a : Int × Int) : List Str := [shF a ++ Str.ofString " ", Str.ofString "+" ++ shF a, shF a ++ Str.ofString "/0", Str.ofString "0" ++ shF a, Str.ofString "-0", Str.ofString "", Str.ofString "1/1", Str.ofString "2/4", Str.ofString "1/-2", Str.ofString "1/0", Str.ofString "x", Str.ofString "-", Str.ofString "3/"]
theorem shL_len {a : Int × Int} (h1 : a.1.natAbs < 10 ^ 12) (h2 : a.2.natAbs < 2 ^ 31) : (shL a).length ≤ 30 := by
  have l1 := numI_len (k := 12) (by decide) h1
  have l2 := numI_len (i := a.2) (k := 10) (by decide) (Nat.lt_trans h2 (by decide))
  unfold shL
  split
  · omega
  · rw [List.length_append, List.length_cons]
    omega
theorem tl_lit (s : String) : tl (Str.ofString s) = s.toList.map Char.toNat := tl_ofString s
theorem bads_ok {a : Int × Int} (h1 : a.1.natAbs < 10 ^ 12) (h2 : a.2.natAbs < 2 ^ 31) : ∀ z ∈ bads a, rdF (tl z) = none ∧ (tl z).length ≤ 59 := by
  have hl := shL_len h1 h2
  have fx : ∀ (z : Str) (l : List Nat), tl z = l → l ∈ [[45, 48], [], [49, 47, 49], [50, 47, 52], [49, 47, 45, 50], [49, 47, 48], [120], [45], [51, 47]] → l.length ≤ 59 → rdF (tl z) = none ∧ (tl z).length ≤ 59 := fun z l e h hl => by
    rw [e]
    exact ⟨bad_fixed l h, hl⟩
  intro z hz
  simp only [bads, List.mem_cons, List.not_mem_nil, or_false] at hz
  rcases hz with rfl | rfl | rfl | rfl | rfl | rfl | rfl | rfl | rfl | rfl | rfl | rfl | rfl
  · rw [tl_append, tl_shF, tl_lit, show " ".toList.map Char.toNat = [32] from rfl]
    exact ⟨bad_free (s := 32) (List.mem_append_right _ (.head _)) (by decide) (by decide) (by decide), by rw [List.length_append, List.length_singleton]; omega⟩
  · rw [tl_append, tl_shF, tl_lit, show "+".toList.map Char.toNat = [43] from rfl]
    exact ⟨bad_free (s := 43) (.head _) (by decide) (by decide) (by decide), by rw [List.length_append, List.length_singleton]; omega⟩
  · rw [tl_append, tl_shF, tl_lit, show "/0".toList.map Char.toNat = [47, 48] from rfl]
    exact ⟨bad_zero_below a, by rw [List.length_append]; show _ + 2 ≤ 59; omega⟩
  · rw [tl_append, tl_shF, tl_lit, show "0".toList.map Char.toNat = [48] from rfl]
    exact ⟨bad_zero_ahead a, by rw [List.length_append, List.length_singleton]; omega⟩
  · exact fx _ [45, 48] (tl_lit _) (by decide) (by decide)
  · exact fx _ [] (tl_lit _) (by decide) (by decide)
  · exact fx _ [49, 47, 49] (tl_lit _) (by decide) (by decide)
  · exact fx _ [50, 47, 52] (tl_lit _) (by decide) (by decide)
  · exact fx _ [49, 47, 45, 50] (tl_lit _) (by decide) (by decide)
  · exact fx _ [49, 47, 48] (tl_lit _) (by decide) (by decide)
  · exact fx _ [120] (tl_lit _) (by decide) (by decide)
  · exact fx _ [45] (tl_lit _) (by decide) (by decide)
  · exact fx _ [51, 47] (tl_lit _) (by decide) (by decide)
theorem map_str {ps : List Str} {i : Nat} {y : V} (h : (ps.map V.str)[i]? = some y) : ∃ p, y = V.str p ∧ p ∈ ps := by
  rw [List.getElem?_map] at h
  cases e : ps[i]? with
  | none =>
    rw [e] at h
    cases h
  | some u =>
    rw [e] at h
    exact ⟨u, (Option.some.inj h).symm, List.mem_of_getElem? e⟩
theorem cut_take (xs : List V) {r : Int} (h : 0 ≤ r) : cutV xs none (some r) = xs.take r.toNat := by
  unfold cutV
  have e : HT.sIx xs.length xs.length (some r) = min r.toNat xs.length := by
    show (if r < 0 then _ else min r.toNat xs.length) = _
    rw [if_neg (by omega)]
  rw [e, HT.sIx_none, Nat.sub_zero, List.drop_zero]
  by_cases hl : r.toNat ≤ xs.length
  · rw [Nat.min_eq_left hl]
  · rw [Nat.min_eq_right (by omega), List.take_of_length_le (Nat.le_refl _), List.take_of_length_le (by omega)]
theorem FrsAt.kept {H H' : Hp} {l : Addr} {as : List (Int × Int)} (h : FrsAt K H l as) (e : Kept H H') : FrsAt K H' l as := by
  obtain ⟨ps, h1, h2, h3⟩ := h
  refine ⟨ps, e.sq h1, h2, fun i p hp => ?_⟩
  obtain ⟨a, ha, hf⟩ := h3 i p hp
  exact ⟨a, ha, e.fr hf⟩
def spLaw (K : PySem.W.Frag) (Pt : Addr) : Sp := fun vs H Q _ => ∃ (a : Addr) (ns : List Int), vs = [.ref a] ∧ SqL K H a (ns.map V.int) ∧ ns.length ≤ 63 ∧ GxR.TabG H Pt ∧ ∀ H', Q (.bl true) H'
theorem ok_law (F : Fun K "law" "law" s_law f fd) (T : Txt K mg uP uD)
    (D_l_draw : Df P w K mg base 1 "_law_draw" ["script"] (spDraw K)) (D_l_pair : Df P w K mg base 2 "_law_pair" ["draw"] (spPair K)) (D_l_take : Df P w K mg base 1 "_law_take" ["draw", "many"] (spTake K))
    (D_fraction : Df P w K mg base 1 "fraction" ["n", "d"] spFrac) (D_l_fraction : Df P w K mg base 2 "_law_fraction" ["n", "d"] spFrac)
    (D_plus : Df P w K mg base 2 "plus" ["a", "b"] (spTwo Pos2 plusF)) (D_minus : Df P w K mg base 2 "minus" ["a", "b"] (spTwo Pos2 minusF)) (D_times : Df P w K mg base 2 "times" ["a", "b"] (spTwo Pos2 timesF))
    (D_over : Df P w K mg base 2 "over" ["a", "b"] (spTwo (fun a b => 0 < a.2 ∧ b.1 ≠ 0) overF)) (D_less : Df P w K mg base 1 "less" ["a", "b"] spLess) (D_greatest : Df P w K mg base 2 "greatest" ["a", "b"] spGreatest)
    (D_show_fraction : Df P w K mg base 2 "show_fraction" ["a"] spShowF) (D_read_fraction : Df P w K mg base 3 "read_fraction" ["text"] (spReadF Pt))
    (D_rounded : Df P w K mg base 2 "rounded" ["a", "places"] spRound) (D_l_rounded : Df P w K mg base 1 "_law_rounded" ["a", "places"] spRound)
    (D_total : Df P w K mg base 3 "total" ["row"] (spRow K totF)) (D_product : Df P w K mg base 3 "product" ["row"] (spRow K prF)) (D_l_total : Df P w K mg base 3 "_law_total" ["rows"] (spRow K fun as => frc (totN as).1 (totN as).2)) :
    FnOk P w K mg base CX0 5 f fd ["script"] (spLaw K Pt) := by
  refine F.ok sc_law (fun vs H Q E h => ?_) (fun cdv A outer s H vs Q E hr h => ?_)
  · obtain ⟨a, ns, rfl, _⟩ := h
    rfl
  · obtain ⟨sa, ns, rfl, hS, hlen, hT, k⟩ := h
    refine ⟨_, (pss_cons (ps_set (i := 1) sc_law.nd rfl (.inl rfl) (pe_df D_l_draw (hr.mono (by decide)) (by rfl) (pa_cons (pv 0) pa_nil)))
    (pss_cons (ps_for PassesOwn.never rfl (pi_range1 (by rfl) T.z_range (pa_cons pe_int pa_nil)) (pg_name (i := 2) sc_law.nd rfl (.inl rfl))
      (pss_cons (ps_set (i := 3) sc_law.nd rfl (.inl rfl) (pe_df D_l_pair (hr.mono (by decide)) (by rfl) (pa_cons (pv 1) pa_nil)))
    (pss_cons (ps_set (i := 4) sc_law.nd rfl (.inl rfl) (pe_df D_l_pair (hr.mono (by decide)) (by rfl) (pa_cons (pv 1) pa_nil)))
    (pss_cons (ps_set (i := 5) sc_law.nd rfl (.inl rfl) (pe_df D_fraction (hr.mono (by decide)) (by rfl) (pa_cons (pe_ix ix_tup (pv 3) pe_int (fun _ _ => rfl)) (pa_cons (pe_ix ix_tup (pv 3) pe_int (fun _ _ => rfl)) pa_nil))))
    (pss_cons (ps_set (i := 6) sc_law.nd rfl (.inl rfl) (pe_df D_fraction (hr.mono (by decide)) (by rfl) (pa_cons (pe_ix ix_tup (pv 4) pe_int (fun _ _ => rfl)) (pa_cons (pe_ix ix_tup (pv 4) pe_int (fun _ _ => rfl)) pa_nil))))
    (pss_cons (ps_if (PW.pt (pw_or (pt_cmpR (op_neD hr.units) (pv 5) (pe_df D_l_fraction (hr.mono (by decide)) (by rfl) (pa_cons (pe_ix ix_tup (pv 3) pe_int (fun _ _ => rfl)) (pa_cons (pe_ix ix_tup (pv 3) pe_int (fun _ _ => rfl)) pa_nil))) (nomark _)) (pw_or (pt_cmpR (op_neD hr.units) (pv 6) (pe_df D_l_fraction (hr.mono (by decide)) (by rfl) (pa_cons (pe_ix ix_tup (pv 4) pe_int (fun _ _ => rfl)) (pa_cons (pe_ix ix_tup (pv 4) pe_int (fun _ _ => rfl)) pa_nil))) (nomark _)) (pw_or1 (pt_cmpR op_lt (pe_ix ix_tup (pv 5) pe_int (fun _ _ => rfl)) pe_int (nomark _))))))
      (pss_one (ps_ret pe_bl))
      pss_nil)
    (pss_cons (ps_if (pt_cmpR (op_neD hr.units) (pe_df D_plus (hr.mono (by decide)) (by rfl) (pa_cons (pv 5) (pa_cons (pv 6) pa_nil))) (pe_df D_l_fraction (hr.mono (by decide)) (by rfl) (pa_cons (pe_op op_add (pe_op op_mulW (pe_ix ix_tup (pv 5) pe_int (fun _ _ => rfl)) (pe_ix ix_tup (pv 6) pe_int (fun _ _ => rfl))) (pe_op op_mulW (pe_ix ix_tup (pv 6) pe_int (fun _ _ => rfl)) (pe_ix ix_tup (pv 5) pe_int (fun _ _ => rfl)))) (pa_cons (pe_op op_mulW (pe_ix ix_tup (pv 5) pe_int (fun _ _ => rfl)) (pe_ix ix_tup (pv 6) pe_int (fun _ _ => rfl))) pa_nil))) (nomark _))
      (pss_one (ps_ret pe_bl))
      pss_nil)
    (pss_cons (ps_if (pt_cmpR (op_neD hr.units) (pe_df D_minus (hr.mono (by decide)) (by rfl) (pa_cons (pv 5) (pa_cons (pv 6) pa_nil))) (pe_df D_l_fraction (hr.mono (by decide)) (by rfl) (pa_cons (pe_op op_sub (pe_op op_mulW (pe_ix ix_tup (pv 5) pe_int (fun _ _ => rfl)) (pe_ix ix_tup (pv 6) pe_int (fun _ _ => rfl))) (pe_op op_mulW (pe_ix ix_tup (pv 6) pe_int (fun _ _ => rfl)) (pe_ix ix_tup (pv 5) pe_int (fun _ _ => rfl)))) (pa_cons (pe_op op_mulW (pe_ix ix_tup (pv 5) pe_int (fun _ _ => rfl)) (pe_ix ix_tup (pv 6) pe_int (fun _ _ => rfl))) pa_nil))) (nomark _))
      (pss_one (ps_ret pe_bl))
      pss_nil)
    (pss_cons (ps_if (pt_cmpR (op_neD hr.units) (pe_df D_times (hr.mono (by decide)) (by rfl) (pa_cons (pv 5) (pa_cons (pv 6) pa_nil))) (pe_df D_l_fraction (hr.mono (by decide)) (by rfl) (pa_cons (pe_op op_mulW (pe_ix ix_tup (pv 5) pe_int (fun _ _ => rfl)) (pe_ix ix_tup (pv 6) pe_int (fun _ _ => rfl))) (pa_cons (pe_op op_mulW (pe_ix ix_tup (pv 5) pe_int (fun _ _ => rfl)) (pe_ix ix_tup (pv 6) pe_int (fun _ _ => rfl))) pa_nil))) (nomark _))
      (pss_one (ps_ret pe_bl))
      pss_nil)
    (Evl.pss_cut (ps_if (PW.pt (pw_and (pt_cmpR op_ne (pe_ix ix_tup (pv 6) pe_int (fun _ _ => rfl)) pe_int (nomark _)) (pw_and1 (pt_cmpR (op_neD hr.units) (pe_df D_over (hr.mono (by decide)) (by rfl) (pa_cons (pv 5) (pa_cons (pv 6) pa_nil))) (pe_df D_l_fraction (hr.mono (by decide)) (by rfl) (pa_cons (pe_op op_mulW (pe_ix ix_tup (pv 5) pe_int (fun _ _ => rfl)) (pe_ix ix_tup (pv 6) pe_int (fun _ _ => rfl))) (pa_cons (pe_op op_mulW (pe_ix ix_tup (pv 5) pe_int (fun _ _ => rfl)) (pe_ix ix_tup (pv 6) pe_int (fun _ _ => rfl))) pa_nil))) (nomark _)))))
      (pss_one (ps_ret pe_bl))
      pss_nil)
    (pss_cons (ps_set (i := 7) sc_law.nd rfl (.inl rfl) (pe_cmpR op_lt (pe_op op_mulW (pe_ix ix_tup (pv 5) pe_int (fun _ _ => rfl)) (pe_ix ix_tup (pv 6) pe_int (fun _ _ => rfl))) (pe_op op_mulW (pe_ix ix_tup (pv 6) pe_int (fun _ _ => rfl)) (pe_ix ix_tup (pv 5) pe_int (fun _ _ => rfl))) (nomark _)))
    (Evl.pss_cut (ps_if (PW.pt (pw_or (pt_cmpR op_ne (pe_df D_less (hr.mono (by decide)) (by rfl) (pa_cons (pv 5) (pa_cons (pv 6) pa_nil))) (pv 7) (nomark _)) (pw_or1 (pt_cmpR (op_neD hr.units) (pe_df D_greatest (hr.mono (by decide)) (by rfl) (pa_cons (pv 5) (pa_cons (pv 6) pa_nil))) (pe_ifExp (pt_val (pv 7)) (pv 6) (pv 5)) (nomark _)))))
      (pss_one (ps_ret pe_bl))
      pss_nil)
    (Evl.pss_cut (ps_set (i := 8) sc_law.nd rfl (.inl rfl) (pe_ifExp (pt_cmpR op_eq (pe_ix ix_tup (pv 5) pe_int (fun _ _ => rfl)) pe_int (nomark _)) (pe_callTy call_str_int (by rfl) T.z_str (by decide +kernel) (pa_cons (pe_ix ix_tup (pv 5) pe_int (fun _ _ => rfl)) pa_nil)) (pe_op op_add_str (pe_op op_add_str (pe_callTy call_str_int (by rfl) T.z_str (by decide +kernel) (pa_cons (pe_ix ix_tup (pv 5) pe_int (fun _ _ => rfl)) pa_nil)) pe_str) (pe_callTy call_str_int (by rfl) T.z_str (by decide +kernel) (pa_cons (pe_ix ix_tup (pv 5) pe_int (fun _ _ => rfl)) pa_nil)))))
    (pss_cons (ps_if (PW.pt (pw_or (pt_cmpR op_ne (pe_df D_show_fraction (hr.mono (by decide)) (by rfl) (pa_cons (pv 5) pa_nil)) (pv 8) (nomark _)) (pw_or1 (pt_cmpR (op_neD hr.units) (pe_df D_read_fraction (hr.mono (by decide)) (by rfl) (pa_cons (pv 8) pa_nil)) (pv 5) (nomark _)))))
      (pss_one (ps_ret pe_bl))
      pss_nil)
    (pss_cons (ps_for PassesOwn.never rfl (pi_list (pe_lst (pa_cons (pe_op op_add_str (pv 8) pe_str) (pa_cons (pe_op op_add_str pe_str (pv 8)) (pa_cons (pe_op op_add_str (pv 8) pe_str) (pa_cons (pe_op op_add_str pe_str (pv 8)) (pa_cons pe_str (pa_cons pe_str (pa_cons pe_str (pa_cons pe_str (pa_cons pe_str (pa_cons pe_str (pa_cons pe_str (pa_cons pe_str (pa_cons pe_str pa_nil))))))))))))))) (pg_name (i := 9) sc_law.nd rfl (.inl rfl))
      (pss_one (ps_if (pt_cmpR op_notN (pe_df D_read_fraction (hr.mono (by decide)) (by rfl) (pa_cons (pv 9) pa_nil)) pe_non (nomark _))
      (pss_one (ps_ret pe_bl))
      pss_nil)))
    (pss_cons (ps_set (i := 10) sc_law.nd rfl (.inl rfl) (pe_df D_l_take (hr.mono (by decide)) (by rfl) (pa_cons (pv 1) (pa_cons pe_int pa_nil))))
    (Evl.pss_cut (ps_if (PW.pt (pw_and (pt_cmpR op_ge (pe_ix ix_tup (pv 5) pe_int (fun _ _ => rfl)) pe_int (nomark _)) (pw_and1 (pt_cmpR op_ne (pe_df D_rounded (hr.mono (by decide)) (by rfl) (pa_cons (pv 5) (pa_cons (pv 10) pa_nil))) (pe_df D_l_rounded (hr.mono (by decide)) (by rfl) (pa_cons (pv 5) (pa_cons (pv 10) pa_nil))) (nomark _)))))
      (pss_one (ps_ret pe_bl))
      pss_nil)
    (pss_cons (ps_set (i := 11) sc_law.nd rfl (.inl rfl) (pe_slice sl_list (pe_lst (pa_cons (pv 5) (pa_cons (pv 6) (pa_cons (pe_df D_l_fraction (hr.mono (by decide)) (by rfl) (pa_cons pe_int (pa_cons pe_int pa_nil))) pa_nil)))) po_none (po_some (pe_df D_l_take (hr.mono (by decide)) (by rfl) (pa_cons (pv 1) (pa_cons pe_int pa_nil))))))
    (pss_cons (ps_set (i := 12) sc_law.nd rfl (.inl rfl) pe_int)
    (pss_cons (ps_set (i := 13) sc_law.nd rfl (.inl rfl) pe_int)
    (pss_cons (ps_for PassesOwn.never rfl (pi_list (pv 11)) (pg_name (i := 14) sc_law.nd rfl (.inl rfl))
      (pss_cons (ps_set (i := 12) sc_law.nd rfl (.inl rfl) (pe_op op_mulW (pv 12) (pe_ix ix_tup (pv 14) pe_int (fun _ _ => rfl))))
    (pss_one (ps_set (i := 13) sc_law.nd rfl (.inl rfl) (pe_op op_mulW (pv 13) (pe_ix ix_tup (pv 14) pe_int (fun _ _ => rfl)))))))
    (pss_one (ps_if (PW.pt (pw_or (pt_cmpR (op_neD hr.units) (pe_df D_total (hr.mono (by decide)) (by rfl) (pa_cons (pe_callTy call_list_of (by rfl) T.z_list (by decide +kernel) (pa_cons (pv 11) pa_nil)) pa_nil)) (pe_df D_l_total (hr.mono (by decide)) (by rfl) (pa_cons (pv 11) pa_nil)) (nomark _)) (pw_or1 (pt_cmpR (op_neD hr.units) (pe_df D_product (hr.mono (by decide)) (by rfl) (pa_cons (pe_callTy call_list_of (by rfl) T.z_list (by decide +kernel) (pa_cons (pv 11) pa_nil)) pa_nil)) (pe_df D_l_fraction (hr.mono (by decide)) (by rfl) (pa_cons (pv 12) (pa_cons (pv 13) pa_nil))) (nomark _)))))
      (pss_one (ps_ret pe_bl))
      pss_nil)))))))))))))))))))))))
    (pss_one (ps_ret pe_bl)))), ?_⟩
    rw [show start n_law [(.ref sa : V)] = ([some (.ref sa), none, none, none, none, none, none, none, none, none, none, none, none, none, none] : List (Option V)) from rfl]
    walk_at "rd"
    refine ⟨sa, ns, rfl, hS, hlen, fun d H1 nd e1 hD => ?_⟩
    have hT1 := e1.tab _ hT
    walk_at "rd"
    refine ⟨4, rfl, by decide, by decide, for_range (lo := 0) (n := 4) (fun i σ' H' => ∃ x2 x3 x4 x5 x6 x7 x8 x9 x10 x11 x12 x13 x14, σ' = [some (.ref sa), some (.ref d), x2, x3, x4, x5, x6, x7, x8, x9, x10, x11, x12, x13, x14] ∧ Drw K H' d ∧ GxR.TabG H' Pt)
      ⟨_, _, _, _, _, _, _, _, _, _, _, _, _, rfl, hD, hT1⟩ ?_ (fun σ' H' h => ?_)⟩
    · rintro i σ' H' hi ⟨x2, x3, x4, x5, x6, x7, x8, x9, x10, x11, x12, x13, x14, rfl, hD, hT⟩
      walk_at "rd"
      refine ⟨d, rfl, hD, fun p1 H2 n1 m1 _ k2 f1 bn1 m10 bm1 => ?_⟩
      walk_at "rd"
      refine ⟨d, rfl, k2.drw hD, fun p2 H3 n2 m2 _ k3 f2 bn2 m20 bm2 => ?_⟩
      have f1' := k3.tup (k2.drw hD) f1
      have hD3 := k3.drw (k2.drw hD)
      have hT3 := k3.tab _ (k2.tab _ hT)
      have b12 : (10 : Nat) ^ 12 < 2 ^ 40 := by decide
      have up : ∀ {x : Nat}, x < 2 ^ 40 → x < 2 ^ 1000 := fun h => lt_up h (by decide)
      have up3 : ∀ {x : Nat}, x < 2 ^ 31 → x < 2 ^ 40 := fun h => lt_up h (by decide)
      walk_at "rd"
      refine ⟨n1, m1, rfl, m10, up (Nat.lt_trans bn1 b12), up (up3 bm1), fun pa H4 _ k4 fa => ?_⟩
      have f2' := k4.tup f2
      have f1'' := k4.tup f1'
      walk_at "rd"
      refine ⟨n2, m2, rfl, m20, up (Nat.lt_trans bn2 b12), up (up3 bm2), fun pb H5 _ k5 fb => ?_⟩
      have g1 := k5.tup f1''
      have g2 := k5.tup f2'
      have C5 : Cur K d Pt pa pb (frc n1 m1) (frc n2 m2) H5 := ⟨k5.fr fa, fb, (k4.trans k5).toD.drw hD3, (k4.trans k5).tab _ hT3⟩
      have ra := frc_red (n := n1) m10
      have rb := frc_red (n := n2) m20
      have la := frc_le (n := n1) m10
      have lb := frc_le (n := n2) m20
      walk_at "rd"
      refine ⟨n1, m1, rfl, m10, up (Nat.lt_trans bn1 b12), up (up3 bm1), fun q6 H6 _ k6 h6 => ?_⟩
      have C6 := C5.kept k6
      refine w_neSame C6.fa h6 ?_
      walk_at "rd"
      refine if_f rfl ?_
      have g26 := k6.tup g2
      walk_at "rd"
      refine ⟨n2, m2, rfl, m20, up (Nat.lt_trans bn2 b12), up (up3 bm2), fun q7 H7 _ k7 h7 => ?_⟩
      have C7 := C6.kept k7
      refine w_neSame C7.fb h7 ?_
      walk_at "rd"
      refine if_f rfl ?_
      have ta := C7.fa
      unfold FrAt at ta
      walk_at "rd"
      have sa40 : Small 40 (frc n1 m1) := frc_small m10 (Nat.lt_trans bn1 b12) (up3 bm1)
      have sb40 : Small 40 (frc n2 m2) := frc_small m20 (Nat.lt_trans bn2 b12) (up3 bm2)
      have ba1 : (frc n1 m1).1.natAbs < 10 ^ 12 := Nat.lt_of_le_of_lt la.1 bn1
      have ba2 : (frc n1 m1).2.natAbs < 2 ^ 31 := Nat.lt_of_le_of_lt la.2 bm1
      clear g1 g2 f1 f2 f1' f2' f1'' g26 fa fb ta
      generalize frc n1 m1 = a at *
      generalize frc n2 m2 = b at *
      have pa0 := ra.1
      have pb0 := rb.1
      refine if_f (decide_eq_false (by omega)) ?_
      have Sa := sa40.up (n := 400) (by decide)
      have Sb := sb40.up (n := 400) (by decide)
      clear m10 m20 bn1 bn2 bm1 bm2 la lb
      walk_at "rd"
      refine ⟨pa, pb, a, b, rfl, C7.fa, C7.fb, Sa, Sb, ⟨pa0, pb0⟩, fun r8 H8 _ k8 h8 => ?_⟩
      have C8 := C7.kept k8
      have ta8 := C8.fa
      have tb8 := C8.fb
      unfold FrAt at ta8 tb8
      walk_at "rd"
      refine w_I (mul_ok Sa.1 Sb.2) ?_
      walk_at "rd"
      refine w_I (mul_ok Sb.1 Sa.2) ?_
      walk_at "rd"
      refine w_I (mul_ok Sa.2 Sb.2) ?_
      walk_at "rd"
      refine ⟨_, _, rfl, mul_ne pa0 pb0, add_small (mul_small Sa.1 Sb.2) (mul_small Sb.1 Sa.2), pow_up (mul_small Sa.2 Sb.2), fun r9 H9 _ k9 h9 => ?_⟩
      refine w_neSame (k9.fr h8) h9 ?_
      have C9 := C8.kept k9
      walk_at "rd"
      refine if_f rfl ?_
      walk_at "rd"
      refine ⟨pa, pb, a, b, rfl, C9.fa, C9.fb, Sa, Sb, ⟨pa0, pb0⟩, fun r10 H10 _ k10 h10 => ?_⟩
      have C10 := C9.kept k10
      have ta10 := C10.fa
      have tb10 := C10.fb
      unfold FrAt at ta10 tb10
      walk_at "rd"
      refine w_I (mul_ok Sa.1 Sb.2) ?_
      walk_at "rd"
      refine w_I (mul_ok Sb.1 Sa.2) ?_
      walk_at "rd"
      refine w_I (mul_ok Sa.2 Sb.2) ?_
      walk_at "rd"
      refine ⟨_, _, rfl, mul_ne pa0 pb0, sub_small (mul_small Sa.1 Sb.2) (mul_small Sb.1 Sa.2), pow_up (mul_small Sa.2 Sb.2), fun r11 H11 _ k11 h11 => ?_⟩
      refine w_neSame (k11.fr h10) h11 ?_
      have C11 := C10.kept k11
      walk_at "rd"
      refine if_f rfl ?_
      walk_at "rd"
      refine ⟨pa, pb, a, b, rfl, C11.fa, C11.fb, Sa, Sb, ⟨pa0, pb0⟩, fun r12 H12 _ k12 h12 => ?_⟩
      have C12 := C11.kept k12
      have ta12 := C12.fa
      have tb12 := C12.fb
      unfold FrAt at ta12 tb12
      walk_at "rd"
      refine w_I (mul_ok Sa.1 Sb.1) ?_
      walk_at "rd"
      refine w_I (mul_ok Sa.2 Sb.2) ?_
      walk_at "rd"
      refine ⟨_, _, rfl, mul_ne pa0 pb0, pow_up (mul_small Sa.1 Sb.1), pow_up (mul_small Sa.2 Sb.2), fun r13 H13 _ k13 h13 => ?_⟩
      refine w_neSame (k13.fr h12) h13 ?_
      have C13 := C12.kept k13
      walk_at "rd"
      refine if_f rfl ?_
      refine w_next ?_
      clear C7 C8 C9 C10 C11 C12 ta8 tb8 ta10 tb10 ta12 tb12 h8 h9 h10 h11 h12 h13
      -- over
      refine ⟨fun σ' H' => σ' = [some (.ref sa), some (.ref d), some (.int (0 + (i : Nat))), some (.ref p1), some (.ref p2), some (.ref pa), some (.ref pb), x7, x8, x9, x10, x11, x12, x13, x14] ∧ Cur K d Pt pa pb a b H', ?_, ?_⟩
      · have tb := C13.fb
        unfold FrAt at tb
        walk_at "rd"
        by_cases hb0 : b.1 = 0
        · refine if_f (by rw [decide_eq_true (by rw [hb0])]; rfl) ?_
          exact ⟨rfl, C13⟩
        · refine if_t (by rw [decide_eq_false (fun z => hb0 (V.int.inj z))]; rfl) ?_
          walk_at "rd"
          refine ⟨pa, pb, a, b, rfl, C13.fa, C13.fb, Sa, Sb, ⟨pa0, hb0⟩, fun r14 H14 _ k14 h14 => ?_⟩
          have C14 := C13.kept k14
          have ta14 := C14.fa
          have tb14 := C14.fb
          unfold FrAt at ta14 tb14
          walk_at "rd"
          refine w_I (mul_ok Sa.1 Sb.2) ?_
          walk_at "rd"
          refine w_I (mul_ok Sa.2 Sb.1) ?_
          walk_at "rd"
          refine ⟨_, _, rfl, Int.mul_ne_zero (by omega) hb0, pow_up (mul_small Sa.1 Sb.2), pow_up (mul_small Sa.2 Sb.1), fun r15 H15 _ k15 h15 => ?_⟩
          refine w_neSame (k15.fr h14) h15 ?_
          walk_at "rd"
          refine if_f rfl ?_
          exact ⟨rfl, C14.kept k15⟩
      rintro σ' H16 ⟨rfl, C16⟩
      have ta16 := C16.fa
      have tb16 := C16.fb
      unfold FrAt at ta16 tb16
      walk_at "rd"
      refine w_I (mul_ok Sa.1 Sb.2) ?_
      walk_at "rd"
      refine w_I (mul_ok Sb.1 Sa.2) ?_
      walk_at "rd"
      -- less, greatest
      refine ⟨fun σ' H' => σ' = [some (.ref sa), some (.ref d), some (.int (0 + (i : Nat))), some (.ref p1), some (.ref p2), some (.ref pa), some (.ref pb), some (.bl (lessF a b)), x8, x9, x10, x11, x12, x13, x14] ∧ Cur K d Pt pa pb a b H', ?_, ?_⟩
      · walk_at "rd"
        refine ⟨pa, pb, a, b, rfl, C16.fa, C16.fb, Sa, Sb, ?_⟩
        walk_at "rd"
        refine if_f (by
          show (!decide (V.bl (lessF a b) = V.bl (lessF a b))) = false
          rw [decide_eq_true rfl]
          rfl) ?_
        walk_at "rd"
        refine ⟨pa, pb, a, b, rfl, C16.fa, C16.fb, Sa, Sb, ?_⟩
        walk_at "rd"
        show (if lessF a b = true then _ else _)
        cases el : lessF a b with
        | true =>
          refine if_t rfl ?_
          walk_at "rd"
          refine w_neSame (show FrAt H16 pb b from C16.fb) C16.fb ?_
          walk_at "rd"
          refine if_f rfl ?_
          exact ⟨by rw [← el]; rfl, C16⟩
        | false =>
          refine if_f rfl ?_
          walk_at "rd"
          refine w_neSame (show FrAt H16 pa a from C16.fa) C16.fa ?_
          walk_at "rd"
          refine if_f rfl ?_
          exact ⟨by rw [← el]; rfl, C16⟩
      rintro σ' H17 ⟨rfl, C17⟩
      -- text
      refine ⟨fun σ' H' => σ' = [some (.ref sa), some (.ref d), some (.int (0 + (i : Nat))), some (.ref p1), some (.ref p2), some (.ref pa), some (.ref pb), some (.bl (lessF a b)), some (.str (shF a)), x9, x10, x11, x12, x13, x14] ∧ Cur K d Pt pa pb a b H', ?_, ?_⟩
      · have ta := C17.fa
        unfold FrAt at ta
        have l1 : a.1.natAbs < ten60 := Nat.lt_trans ba1 (by decide)
        have l2 : a.2.natAbs < ten60 := Nat.lt_trans ba2 (by decide)
        walk_at "rd"
        by_cases e1 : a.2 = 1
        · refine if_t (decide_eq_true (by rw [e1])) ?_
          walk_at "rd"
          refine ⟨_, rfl, log_60 l1, ?_⟩
          have es : shF a = numS a.1 := by
            unfold shF
            rw [if_pos e1]
          refine ⟨?_, C17⟩
          rw [es]
          rfl
        · refine if_f (decide_eq_false (fun z => e1 (V.int.inj z))) ?_
          have es : shF a = numS a.1 ++ slash ++ numS a.2 := by
            unfold shF
            rw [if_neg e1]
          have n1 := numS_len l1
          have n2 := numS_len l2
          have ls : slash.length = 1 := by rw [len_tl, tl_slash]; rfl
          walk_at "rd"
          refine ⟨_, rfl, log_60 l1, ?_⟩
          walk_at "rd"
          refine ⟨numS a.1, slash, rfl, rfl, ?_, ?_⟩
          · rw [ls]
            exact lit_le _
          walk_at "rd"
          refine ⟨_, rfl, log_60 l2, ?_⟩
          refine ⟨numS a.1 ++ slash, numS a.2, rfl, rfl, ?_, ?_⟩
          · rw [app_len, ls]
            exact lit_le _
          refine ⟨?_, C17⟩
          rw [es]
      rintro σ' H18 ⟨rfl, C18⟩
      walk_at "rd"
      have ln := shL_len ba1 ba2
      have l1 : a.1.natAbs < ten60 := Nat.lt_trans ba1 (by decide)
      have l2 : a.2.natAbs < ten60 := Nat.lt_trans ba2 (by decide)
      refine ⟨pa, a, rfl, C18.fa, l1, l2, fun H19 k19 => ?_⟩
      have C19 := C18.kept k19
      walk_at "rd"
      refine if_f (by rw [decide_eq_true rfl]; rfl) ?_
      walk_at "rd"
      refine ⟨shF a, rfl, by rw [tl_shF]; omega, C19.tb, fun H20 k20 e => ?_, fun H20 q a' k20 nq e hq => ?_⟩
      · rw [tl_shF, rdF_shL ra] at e
        cases e
      rw [tl_shF, rdF_shL ra] at e
      cases e
      have C20 := C19.kept k20
      walk_at "rd"
      refine w_neSame hq C20.fa ?_
      walk_at "rd"
      refine if_f rfl ?_
      walk_at "rd"
      -- the bad texts
      have sl : (shF a).length ≤ 30 := by rw [len_tl, tl_shF]; exact ln
      have lit : ∀ x : String, (Str.ofString x).length = x.toList.length := fun x => by rw [len_tl, tl_lit, List.length_map]
      refine w_forL ?_
      walk_at "rd"
      refine ⟨_, _, rfl, rfl, by rw [lit]; exact Nat.le_trans (Nat.add_le_add_right sl 1) (by decide), ?_⟩
      walk_at "rd"
      refine ⟨_, _, rfl, rfl, by rw [lit]; exact Nat.le_trans (Nat.add_le_add_left sl 1) (by decide), ?_⟩
      walk_at "rd"
      refine ⟨_, _, rfl, rfl, by rw [lit]; exact Nat.le_trans (Nat.add_le_add_right sl 2) (by decide), ?_⟩
      walk_at "rd"
      refine ⟨_, _, rfl, rfl, by rw [lit]; exact Nat.le_trans (Nat.add_le_add_left sl 1) (by decide), ?_⟩
      walk_at "rd"
      refine ⟨by show 13 ≤ sizeLine; decide, fun l hl => ?_⟩
      have bok := bads_ok ba1 ba2
      refine ⟨l, rfl, ⟨_, SqL.of upd_same⟩, for_list (K := K) (a := l) (D := { nx := _, rt := Q }) (xs := (bads a).map V.str) (fun j σ' H' => ∃ x9, σ' = [some (.ref sa), some (.ref d), some (.int (0 + (i : Nat))), some (.ref p1), some (.ref p2), some (.ref pa), some (.ref pb), some (.bl (lessF a b)), some (.str (shF a)), x9, x10, x11, x12, x13, x14] ∧ Cur K d Pt pa pb a b H' ∧ H' l = some (.lst ((bads a).map V.str))) ⟨x9, rfl, C20.kept (Kept.new hl), upd_same⟩ (fun j σ' H' _ h => by
        obtain ⟨_, _, _, h⟩ := h
        exact SqL.of h) ?_ ?_⟩
      · rintro j y σ' H21 hj ⟨x9, rfl, C21, h21⟩
        obtain ⟨z, rfl, hz⟩ := map_str hj
        obtain ⟨z1, z2⟩ := bok z hz
        walk_at "rd"
        refine ⟨z, rfl, z2, C21.tb, fun H22 k22 _ => ?_, fun H22 q a' k22 nq e hq => ?_⟩
        · walk_at "rd"
          refine ⟨rfl, ?_⟩
          walk_at "rd"
          refine if_f rfl ?_
          exact ⟨_, rfl, C21.kept k22, k22.lst h21⟩
        · rw [z1] at e
          cases e
      rintro σ' H23 ⟨x9, rfl, C23, _⟩
      walk_at "rd"
      refine ⟨_, rfl, ?_⟩
      walk_at "rd"
      -- places
      refine ⟨d, 6, rfl, by decide, by decide, C23.dr, fun r H24 r0 r6 k24 => ?_⟩
      obtain ⟨m, rfl⟩ : ∃ m : Nat, r = (m : Int) := ⟨r.toNat, by omega⟩
      have C24 := C23.keptD k24
      walk_at "rd"
      refine ⟨fun σ' H' => σ' = [some (.ref sa), some (.ref d), some (.int (0 + (i : Nat))), some (.ref p1), some (.ref p2), some (.ref pa), some (.ref pb), some (.bl (lessF a b)), some (.str (shF a)), x9, some (.int (m : Int)), x11, x12, x13, x14] ∧ Cur K d Pt pa pb a b H', ?_, ?_⟩
      · have ta := C24.fa
        unfold FrAt at ta
        walk_at "rd"
        by_cases h0 : 0 ≤ a.1
        · refine if_t (decide_eq_true h0) ?_
          walk_at "rd"
          refine ⟨pa, a, m, rfl, C24.fa, h0, pa0, sa40, by omega, fun H25 z k25 hz => ?_⟩
          have C25 := C24.kept k25
          walk_at "rd"
          refine ⟨pa, a, m, rfl, C25.fa, h0, pa0, sa40, by omega, fun H26 z' k26 hz' => ?_⟩
          walk_at "rd"
          refine if_f (by rw [decide_eq_true (str_eq_iff.mpr (by rw [hz, hz']))]; rfl) ?_
          exact ⟨rfl, C25.kept k26⟩
        · refine if_f (decide_eq_false h0) ?_
          exact ⟨rfl, C24⟩
      rintro σ' H27 ⟨rfl, C27⟩
      walk_at "rd"
      -- row
      refine ⟨1, 3, rfl, by decide, by decide, by decide, fun p3 H28 _ k28 h28 => ?_⟩
      have C28 := C27.kept k28
      walk_at "rd"
      refine ⟨by show 3 ≤ sizeLine; decide, fun l hl => ?_⟩
      have C29 := C28.kept (Kept.new (o := .lst [V.ref pa, V.ref pb, V.ref p3]) hl)
      have h29 := Kept.fr (Kept.new (o := .lst [V.ref pa, V.ref pb, V.ref p3]) hl) h28
      have ld : l ≠ d := fun e => by
        obtain ⟨xs, hx⟩ := C28.dr.ne
        rw [e, hx] at hl
        cases hl
      walk_at "rd"
      refine ⟨d, 4, rfl, by decide, by decide, C29.dr, fun r H30 r0 r4 k30 => ?_⟩
      have C30 := C29.keptD k30
      have h30 : FrAt H30 p3 (frc 1 3) := k30.tup C29.dr h29
      have hL := k30.lst ld upd_same
      walk_at "rd"
      refine ⟨l, _, rfl, SqL.of hL, fun q hq => ?_⟩
      have k31 := Kept.new (o := .lst (cutV [V.ref pa, V.ref pb, V.ref p3] none (some r))) hq
      have C31 := C30.kept k31
      have h31 := Kept.fr k31 h30
      have er : cutV [V.ref pa, V.ref pb, V.ref p3] none (some r) = ([pa, pb, p3].take r.toNat).map V.ref := by
        rw [cut_take _ r0, List.map_take]
        rfl
      have F31 : FrsAt K (upd H30 q (.lst (cutV [V.ref pa, V.ref pb, V.ref p3] none (some r)))) q ([a, b, frc 1 3].take r.toNat) := by
        refine ⟨[pa, pb, p3].take r.toNat, SqL.of (by rw [upd_same, er]), by rw [List.length_take, List.length_take]; rfl, fun j p hp => ?_⟩
        have hj : j < r.toNat := by
          have := (List.getElem?_eq_some_iff.mp hp).1
          rw [List.length_take] at this
          omega
        rw [List.getElem?_take_of_lt hj] at hp
        rw [List.getElem?_take_of_lt hj]
        match j, hp with
        | 0, hp =>
          cases hp
          exact ⟨a, rfl, C31.fa⟩
        | 1, hp =>
          cases hp
          exact ⟨b, rfl, C31.fb⟩
        | 2, hp =>
          cases hp
          exact ⟨_, rfl, h31⟩
      generalize upd H30 q (.lst (cutV [V.ref pa, V.ref pb, V.ref p3] none (some r))) = H31 at F31 C31
      have as3 : ([a, b, frc 1 3].take r.toNat).length ≤ 3 := by
        rw [List.length_take]
        exact Nat.min_le_right _ _
      have asP : ∀ x ∈ [a, b, frc 1 3].take r.toNat, 0 < x.2 ∧ Small 50 x := fun x hx => by
        have := List.mem_of_mem_take hx
        simp only [List.mem_cons, List.not_mem_nil, or_false] at this
        rcases this with rfl | rfl | rfl
        · exact ⟨pa0, sa40.up (by decide)⟩
        · exact ⟨pb0, sb40.up (by decide)⟩
        · exact ⟨by decide, ⟨by decide, by decide⟩⟩
      generalize [a, b, frc 1 3].take r.toNat = as at F31 as3 asP
      have F31' := F31
      obtain ⟨ps, hS31, hl31, hp31⟩ := F31'
      walk_at "rd"
      refine ⟨_, rfl, q, rfl, ⟨_, hS31⟩, for_list (K := K) (a := q) (D := { nx := _, rt := Q }) (xs := ps.map V.ref) (fun j σ' H' => ∃ (g : Int × Int) (v : Option V), σ' = [some (.ref sa), some (.ref d), some (.int (0 + (i : Nat))), some (.ref p1), some (.ref p2), some (.ref pa), some (.ref pb), some (.bl (lessF a b)), some (.str (shF a)), x9, some (.int (m : Int)), some (.ref q), some (.int g.1), some (.int g.2), v] ∧ H' = H31 ∧ g = (as.take j).foldl (fun f r => (f.1 * r.1, f.2 * r.2)) (1, 1) ∧ Small (60 * j + 1) g ∧ 0 < g.2) ⟨(1, 1), x14, rfl, rfl, rfl, small_one, Int.one_pos⟩ (fun j σ' H' _ h => by
        obtain ⟨_, _, _, e, _⟩ := h
        rw [e]
        exact hS31) ?_ ?_⟩
      · rintro j y σ' H' hj ⟨g, v, rfl, rfl, eg, hs, hp0⟩
        obtain ⟨p, rfl, hpi⟩ := map_ref hj
        obtain ⟨c, hai, hfa⟩ := hp31 j p hpi
        unfold FrAt at hfa
        have hi3 : j < as.length := (List.getElem?_eq_some_iff.mp hai).1
        have ha' := asP c (List.mem_of_getElem? hai)
        walk_at "rd"
        refine w_I (wide_mul hs.1 ha'.2.1 (by omega) (by decide) (by omega)) ?_
        walk_at "rd"
        refine w_I (wide_mul hs.2 ha'.2.2 (by omega) (by decide) (by omega)) ?_
        refine ⟨(g.1 * c.1, g.2 * c.2), _, rfl, rfl, ?_, ⟨lt_mul hs.1 ha'.2.1 (by omega), lt_mul hs.2 ha'.2.2 (by omega)⟩, Int.mul_pos hp0 ha'.1⟩
        rw [foldl_take _ _ as hai, ← eg]
      rintro σ' H' ⟨g, v, rfl, rfl, eg, hs, hp0⟩
      rw [List.length_map, hl31, List.take_length] at eg
      rw [List.length_map, hl31] at hs
      have eg' : g = prN as := eg
      walk_at "rd"
      refine ⟨q, _, rfl, .inl hS31, fun l2 hl2 => ?_⟩
      have k32 := Kept.new (o := .lst (ps.map V.ref)) hl2
      have C32 := C31.kept k32
      have F32 : FrsAt K (upd H' l2 (.lst (ps.map V.ref))) l2 as := ⟨ps, SqL.of upd_same, hl31, fun j p hp => by
        obtain ⟨c, h1, h2⟩ := hp31 j p hp
        exact ⟨c, h1, k32.fr h2⟩⟩
      have G32 := F31.kept k32
      walk_at "rd"
      refine ⟨l2, as, rfl, F32, as3, asP, fun r33 H33 _ k33 h33 => ?_⟩
      walk_at "rd"
      refine ⟨q, as, rfl, G32.kept k33, as3, asP, fun r34 H34 _ k34 h34 => ?_⟩
      have et := totF_eq (as := as) fun x hx => (asP x hx).1
      refine w_neSame (k34.fr h33) (by rw [et]; exact h34) ?_
      have C34 := (C32.kept k33).kept k34
      have G34 := (G32.kept k33).kept k34
      walk_at "rd"
      refine if_f rfl ?_
      have G34' := G34
      obtain ⟨ps4, hS34, hl34, hp34⟩ := G34'
      walk_at "rd"
      refine ⟨q, _, rfl, .inl hS34, fun l5 hl5 => ?_⟩
      have k35 := Kept.new (o := .lst (ps4.map V.ref)) hl5
      have C35 := C34.kept k35
      have F35 : FrsAt K (upd H34 l5 (.lst (ps4.map V.ref))) l5 as := ⟨ps4, SqL.of upd_same, hl34, fun j p hp => by
        obtain ⟨c, h1, h2⟩ := hp34 j p hp
        exact ⟨c, h1, k35.fr h2⟩⟩
      walk_at "rd"
      refine ⟨l5, as, rfl, F35, as3, asP, fun r36 H36 _ k36 h36 => ?_⟩
      walk_at "rd"
      refine ⟨g.1, g.2, rfl, by omega, lt_up hs.1 (by omega), lt_up hs.2 (by omega), fun r37 H37 _ k37 h37 => ?_⟩
      have ep := prF_eq (as := as) fun x hx => (asP x hx).1
      refine w_neSame (k37.fr h36) (by rw [ep, ← eg']; exact h37) ?_
      have C37 := (C35.kept k36).kept k37
      walk_at "rd"
      refine if_f rfl ?_
      walk_at "rd"
      exact ⟨_, _, _, _, _, _, _, _, _, _, _, _, _, rfl, C37.dr, C37.tb⟩
    · obtain ⟨_, _, _, _, _, _, _, _, _, _, _, _, _, rfl, _, _⟩ := h
      walk_at "rd"
      exact k _
end
end Ky

namespace Ky
open PySem PySem.Spec PyProof.Rows L2
/-- the end of a row by what the top has left: the law's promise may lean on the tables of code objects -/
theorem walk_own {l : PySem.W.OpenLaw} {n k : Nat} {q : Program} {loose : List Str} {XP : (Str → Option Value) → Heap → Prop} {YP : World → Heap → Prop} {d : DefRec} {K : Params → PySem.W.Frag} {x : Str}
    (hn : l.most = some n) (hn2 : n ≤ sizeLine) (hdf : d.params.defaults = []) (hr : Room k callerA) (hK : ∀ (w : World) (h : Heap), YP w h → (K w.params).In h)
    (F : ∀ (w : World) (s0 : Shared) (mg mb : Str → Option Value) (fa : Addr) (h : Heap), PySem.W.Ground q loose [] XP w s0 mg mb h → YP w h →
      mg d.name = some (.ref fa) → (K w.params).In h → LamX.LawAtS l w (K w.params) CX0 k n x mg fa h) :
    PySem.W.WalkO q loose XP YP l.row.toRowW d [] (fun f vs => PySem.call f vs) :=
  Att.attach_callB hn hdf fun w s0 s1 mg mb fa _ _ _ _ a _ ns G Y _ _ _ hm ho hi hl hz hg => by
    have X := hK w s1.heap Y
    obtain ⟨fd, cs, sp, t1, t2, t3, t4, t5, t6⟩ := F w s0 mg mb fa s1.heap G Y hm X
    have T := G.T
    exact LamX.law_callTs X T.g T.b T.builtins T.nolimit hg t1 t2 t3 T.bmain ho hi (Nat.le_trans hl hn2) hr t6 t4 (fun H a1 a2 => t5 H a ns hl hz a1 a2) fun _ _ _ z => z
theorem df_of {P : Program} {w : World} {K : PySem.W.Frag} {mg : Str → Option Value} {base : Heap} {k : Nat} {x : Str} {ps : List Str} {sp : Sp} {f : Addr} {fd : FuncData} (F : FnOk P w K mg base CX0 k f fd ps sp) (m : mg x = some (.ref f)) (kp : PySem.W.keepIn K (.ref f) = true) (b : Binds K fd ps []) : Df P w K mg base k x ps sp := ⟨f, fd, F, m, kp, b⟩
theorem func_mk {K : PySem.W.Frag} {x : Str} {st : Stmt} {f c : Addr} {oc : Value} {od an : Option Addr} {osl : Array (Option Value)} {kV doc pm ct : Value} (l : K.lookup f = some ⟨oc, od, .func (PySem.W.fnOf x x (defArgs st) (defBody st) (defScope st) .none kV doc pm an (.ref c) ct), osl⟩) (b : PySem.W.codeIn K (.ref c) x = true) : FunC K x st f (PySem.W.fnOf x x (defArgs st) (defBody st) (defScope st) .none kV doc pm an (.ref c) ct) c := ⟨⟨oc, od, kV, doc, pm, an, ct, osl, rfl, l, b⟩⟩
theorem tab_in {K : PySem.W.Frag} {x : Str} {f c t : Addr} {oc e : Value} {od dd : Option Addr} {fd : FuncData} {sl sv : Array (Option Value)} {vs : Array Value} (a : PySem.W.nsIn K mainGlobals x = some (some (.ref f))) (l : K.lookup f = some ⟨oc, od, .func fd, sl⟩) (hc : fd.code = .ref c)
    (lc : K.lookup c = some ⟨e, dd, .fields vs, sv⟩) (lv : vs[11]? = some (.ref t)) : PySem.W.tabIn K x = some (c, t) := by
  unfold PySem.W.tabIn
  simp only [a, l, hc, lc, lv]
theorem all_mk {l : PySem.W.OpenLaw} {w : World} {K : PySem.W.Frag} {q : Program} {lo : List Str} {lv : List (Str × PySem.W.WData)} {s0 : Shared} {h : Heap} {mg mb : Str → Option Value} {fa : Addr} {dR : DefRec} (X : K.In h)
    (G : PySem.W.Ground q lo [] (PySem.W.XL q lv) w s0 mg mb h) (hfa : mg "law" = some (.ref fa)) (hR : (recsOf q).find? (fun e => e.name == ("read_number" : Str)) = some dR) (hv : (("_PART" : Str), PySem.W.WData.int 1000000000000000000000000000000000000000000000000000000000000) ∈ lv)
    {f_show_number : Addr} {od_show_number an_show_number : Option Addr} {sl_show_number : Array (Option Value)} {oc_show_number kV_show_number dc_show_number pm_show_number cd_show_number ct_show_number : Value}
    (a_show_number : PySem.W.nsIn K mainGlobals "show_number" = some (some (.ref f_show_number))) (l_show_number : K.lookup f_show_number = some ⟨oc_show_number, od_show_number, .func (PySem.W.fnOf "show_number" "show_number" (defArgs s_show_number) (defBody s_show_number) (defScope s_show_number) .none kV_show_number dc_show_number pm_show_number an_show_number (cd_show_number) ct_show_number), sl_show_number⟩)
    (b_show_number : PySem.W.codeIn K (cd_show_number) "show_number" = true) (k_show_number : PySem.W.keepIn K (.ref f_show_number) = true)
    {f_read_number : Addr} {od_read_number an_read_number : Option Addr} {sl_read_number : Array (Option Value)} {oc_read_number kV_read_number dc_read_number pm_read_number ct_read_number : Value} {c_read_number t_read_number : Addr}
    (a_read_number : PySem.W.nsIn K mainGlobals "read_number" = some (some (.ref f_read_number))) (l_read_number : K.lookup f_read_number = some ⟨oc_read_number, od_read_number, .func (PySem.W.fnOf "read_number" "read_number" (defArgs s_read_number) (defBody s_read_number) (defScope s_read_number) .none kV_read_number dc_read_number pm_read_number an_read_number (.ref c_read_number) ct_read_number), sl_read_number⟩)
    (b_read_number : PySem.W.codeIn K (.ref c_read_number) "read_number" = true) (k_read_number : PySem.W.keepIn K (.ref f_read_number) = true)
    {f_fraction : Addr} {od_fraction an_fraction : Option Addr} {sl_fraction : Array (Option Value)} {oc_fraction kV_fraction dc_fraction pm_fraction cd_fraction ct_fraction : Value}
    (a_fraction : PySem.W.nsIn K mainGlobals "fraction" = some (some (.ref f_fraction))) (l_fraction : K.lookup f_fraction = some ⟨oc_fraction, od_fraction, .func (PySem.W.fnOf "fraction" "fraction" (defArgs s_fraction) (defBody s_fraction) (defScope s_fraction) .none kV_fraction dc_fraction pm_fraction an_fraction (cd_fraction) ct_fraction), sl_fraction⟩)
    (b_fraction : PySem.W.codeIn K (cd_fraction) "fraction" = true) (k_fraction : PySem.W.keepIn K (.ref f_fraction) = true)
    {f_plus : Addr} {od_plus an_plus : Option Addr} {sl_plus : Array (Option Value)} {oc_plus kV_plus dc_plus pm_plus cd_plus ct_plus : Value}
    (a_plus : PySem.W.nsIn K mainGlobals "plus" = some (some (.ref f_plus))) (l_plus : K.lookup f_plus = some ⟨oc_plus, od_plus, .func (PySem.W.fnOf "plus" "plus" (defArgs s_plus) (defBody s_plus) (defScope s_plus) .none kV_plus dc_plus pm_plus an_plus (cd_plus) ct_plus), sl_plus⟩)
    (b_plus : PySem.W.codeIn K (cd_plus) "plus" = true) (k_plus : PySem.W.keepIn K (.ref f_plus) = true)
    {f_minus : Addr} {od_minus an_minus : Option Addr} {sl_minus : Array (Option Value)} {oc_minus kV_minus dc_minus pm_minus cd_minus ct_minus : Value}
    (a_minus : PySem.W.nsIn K mainGlobals "minus" = some (some (.ref f_minus))) (l_minus : K.lookup f_minus = some ⟨oc_minus, od_minus, .func (PySem.W.fnOf "minus" "minus" (defArgs s_minus) (defBody s_minus) (defScope s_minus) .none kV_minus dc_minus pm_minus an_minus (cd_minus) ct_minus), sl_minus⟩)
    (b_minus : PySem.W.codeIn K (cd_minus) "minus" = true) (k_minus : PySem.W.keepIn K (.ref f_minus) = true)
    {f_times : Addr} {od_times an_times : Option Addr} {sl_times : Array (Option Value)} {oc_times kV_times dc_times pm_times cd_times ct_times : Value}
    (a_times : PySem.W.nsIn K mainGlobals "times" = some (some (.ref f_times))) (l_times : K.lookup f_times = some ⟨oc_times, od_times, .func (PySem.W.fnOf "times" "times" (defArgs s_times) (defBody s_times) (defScope s_times) .none kV_times dc_times pm_times an_times (cd_times) ct_times), sl_times⟩)
    (b_times : PySem.W.codeIn K (cd_times) "times" = true) (k_times : PySem.W.keepIn K (.ref f_times) = true)
    {f_over : Addr} {od_over an_over : Option Addr} {sl_over : Array (Option Value)} {oc_over kV_over dc_over pm_over cd_over ct_over : Value}
    (a_over : PySem.W.nsIn K mainGlobals "over" = some (some (.ref f_over))) (l_over : K.lookup f_over = some ⟨oc_over, od_over, .func (PySem.W.fnOf "over" "over" (defArgs s_over) (defBody s_over) (defScope s_over) .none kV_over dc_over pm_over an_over (cd_over) ct_over), sl_over⟩)
    (b_over : PySem.W.codeIn K (cd_over) "over" = true) (k_over : PySem.W.keepIn K (.ref f_over) = true)
    {f_less : Addr} {od_less an_less : Option Addr} {sl_less : Array (Option Value)} {oc_less kV_less dc_less pm_less cd_less ct_less : Value}
    (a_less : PySem.W.nsIn K mainGlobals "less" = some (some (.ref f_less))) (l_less : K.lookup f_less = some ⟨oc_less, od_less, .func (PySem.W.fnOf "less" "less" (defArgs s_less) (defBody s_less) (defScope s_less) .none kV_less dc_less pm_less an_less (cd_less) ct_less), sl_less⟩)
    (b_less : PySem.W.codeIn K (cd_less) "less" = true) (k_less : PySem.W.keepIn K (.ref f_less) = true)
    {f_greatest : Addr} {od_greatest an_greatest : Option Addr} {sl_greatest : Array (Option Value)} {oc_greatest kV_greatest dc_greatest pm_greatest cd_greatest ct_greatest : Value}
    (a_greatest : PySem.W.nsIn K mainGlobals "greatest" = some (some (.ref f_greatest))) (l_greatest : K.lookup f_greatest = some ⟨oc_greatest, od_greatest, .func (PySem.W.fnOf "greatest" "greatest" (defArgs s_greatest) (defBody s_greatest) (defScope s_greatest) .none kV_greatest dc_greatest pm_greatest an_greatest (cd_greatest) ct_greatest), sl_greatest⟩)
    (b_greatest : PySem.W.codeIn K (cd_greatest) "greatest" = true) (k_greatest : PySem.W.keepIn K (.ref f_greatest) = true)
    {f_total : Addr} {od_total an_total : Option Addr} {sl_total : Array (Option Value)} {oc_total kV_total dc_total pm_total cd_total ct_total : Value}
    (a_total : PySem.W.nsIn K mainGlobals "total" = some (some (.ref f_total))) (l_total : K.lookup f_total = some ⟨oc_total, od_total, .func (PySem.W.fnOf "total" "total" (defArgs s_total) (defBody s_total) (defScope s_total) .none kV_total dc_total pm_total an_total (cd_total) ct_total), sl_total⟩)
    (b_total : PySem.W.codeIn K (cd_total) "total" = true) (k_total : PySem.W.keepIn K (.ref f_total) = true)
    {f_product : Addr} {od_product an_product : Option Addr} {sl_product : Array (Option Value)} {oc_product kV_product dc_product pm_product cd_product ct_product : Value}
    (a_product : PySem.W.nsIn K mainGlobals "product" = some (some (.ref f_product))) (l_product : K.lookup f_product = some ⟨oc_product, od_product, .func (PySem.W.fnOf "product" "product" (defArgs s_product) (defBody s_product) (defScope s_product) .none kV_product dc_product pm_product an_product (cd_product) ct_product), sl_product⟩)
    (b_product : PySem.W.codeIn K (cd_product) "product" = true) (k_product : PySem.W.keepIn K (.ref f_product) = true)
    {f_show_fraction : Addr} {od_show_fraction an_show_fraction : Option Addr} {sl_show_fraction : Array (Option Value)} {oc_show_fraction kV_show_fraction dc_show_fraction pm_show_fraction cd_show_fraction ct_show_fraction : Value}
    (a_show_fraction : PySem.W.nsIn K mainGlobals "show_fraction" = some (some (.ref f_show_fraction))) (l_show_fraction : K.lookup f_show_fraction = some ⟨oc_show_fraction, od_show_fraction, .func (PySem.W.fnOf "show_fraction" "show_fraction" (defArgs s_show_fraction) (defBody s_show_fraction) (defScope s_show_fraction) .none kV_show_fraction dc_show_fraction pm_show_fraction an_show_fraction (cd_show_fraction) ct_show_fraction), sl_show_fraction⟩)
    (b_show_fraction : PySem.W.codeIn K (cd_show_fraction) "show_fraction" = true) (k_show_fraction : PySem.W.keepIn K (.ref f_show_fraction) = true)
    {f_read_fraction : Addr} {od_read_fraction an_read_fraction : Option Addr} {sl_read_fraction : Array (Option Value)} {oc_read_fraction kV_read_fraction dc_read_fraction pm_read_fraction cd_read_fraction ct_read_fraction : Value}
    (a_read_fraction : PySem.W.nsIn K mainGlobals "read_fraction" = some (some (.ref f_read_fraction))) (l_read_fraction : K.lookup f_read_fraction = some ⟨oc_read_fraction, od_read_fraction, .func (PySem.W.fnOf "read_fraction" "read_fraction" (defArgs s_read_fraction) (defBody s_read_fraction) (defScope s_read_fraction) .none kV_read_fraction dc_read_fraction pm_read_fraction an_read_fraction (cd_read_fraction) ct_read_fraction), sl_read_fraction⟩)
    (b_read_fraction : PySem.W.codeIn K (cd_read_fraction) "read_fraction" = true) (k_read_fraction : PySem.W.keepIn K (.ref f_read_fraction) = true)
    {f_rounded : Addr} {od_rounded an_rounded : Option Addr} {sl_rounded : Array (Option Value)} {oc_rounded kV_rounded dc_rounded pm_rounded cd_rounded ct_rounded : Value}
    (a_rounded : PySem.W.nsIn K mainGlobals "rounded" = some (some (.ref f_rounded))) (l_rounded : K.lookup f_rounded = some ⟨oc_rounded, od_rounded, .func (PySem.W.fnOf "rounded" "rounded" (defArgs s_rounded) (defBody s_rounded) (defScope s_rounded) .none kV_rounded dc_rounded pm_rounded an_rounded (cd_rounded) ct_rounded), sl_rounded⟩)
    (b_rounded : PySem.W.codeIn K (cd_rounded) "rounded" = true) (k_rounded : PySem.W.keepIn K (.ref f_rounded) = true)
    {f_l_draw : Addr} {od_l_draw an_l_draw : Option Addr} {sl_l_draw : Array (Option Value)} {oc_l_draw kV_l_draw dc_l_draw pm_l_draw cd_l_draw ct_l_draw : Value}
    (a_l_draw : PySem.W.nsIn K mainGlobals "_law_draw" = some (some (.ref f_l_draw))) (l_l_draw : K.lookup f_l_draw = some ⟨oc_l_draw, od_l_draw, .func (PySem.W.fnOf "_law_draw" "_law_draw" (defArgs s_l_draw) (defBody s_l_draw) (defScope s_l_draw) .none kV_l_draw dc_l_draw pm_l_draw an_l_draw (cd_l_draw) ct_l_draw), sl_l_draw⟩)
    (b_l_draw : PySem.W.codeIn K (cd_l_draw) "_law_draw" = true) (k_l_draw : PySem.W.keepIn K (.ref f_l_draw) = true)
    {f_l_take : Addr} {od_l_take an_l_take : Option Addr} {sl_l_take : Array (Option Value)} {oc_l_take kV_l_take dc_l_take pm_l_take cd_l_take ct_l_take : Value}
    (a_l_take : PySem.W.nsIn K mainGlobals "_law_take" = some (some (.ref f_l_take))) (l_l_take : K.lookup f_l_take = some ⟨oc_l_take, od_l_take, .func (PySem.W.fnOf "_law_take" "_law_take" (defArgs s_l_take) (defBody s_l_take) (defScope s_l_take) .none kV_l_take dc_l_take pm_l_take an_l_take (cd_l_take) ct_l_take), sl_l_take⟩)
    (b_l_take : PySem.W.codeIn K (cd_l_take) "_law_take" = true) (k_l_take : PySem.W.keepIn K (.ref f_l_take) = true)
    {f_l_gcd : Addr} {od_l_gcd an_l_gcd : Option Addr} {sl_l_gcd : Array (Option Value)} {oc_l_gcd kV_l_gcd dc_l_gcd pm_l_gcd cd_l_gcd ct_l_gcd : Value}
    (a_l_gcd : PySem.W.nsIn K mainGlobals "_law_gcd" = some (some (.ref f_l_gcd))) (l_l_gcd : K.lookup f_l_gcd = some ⟨oc_l_gcd, od_l_gcd, .func (PySem.W.fnOf "_law_gcd" "_law_gcd" (defArgs s_l_gcd) (defBody s_l_gcd) (defScope s_l_gcd) .none kV_l_gcd dc_l_gcd pm_l_gcd an_l_gcd (cd_l_gcd) ct_l_gcd), sl_l_gcd⟩)
    (b_l_gcd : PySem.W.codeIn K (cd_l_gcd) "_law_gcd" = true) (k_l_gcd : PySem.W.keepIn K (.ref f_l_gcd) = true)
    {f_l_fraction : Addr} {od_l_fraction an_l_fraction : Option Addr} {sl_l_fraction : Array (Option Value)} {oc_l_fraction kV_l_fraction dc_l_fraction pm_l_fraction cd_l_fraction ct_l_fraction : Value}
    (a_l_fraction : PySem.W.nsIn K mainGlobals "_law_fraction" = some (some (.ref f_l_fraction))) (l_l_fraction : K.lookup f_l_fraction = some ⟨oc_l_fraction, od_l_fraction, .func (PySem.W.fnOf "_law_fraction" "_law_fraction" (defArgs s_l_fraction) (defBody s_l_fraction) (defScope s_l_fraction) .none kV_l_fraction dc_l_fraction pm_l_fraction an_l_fraction (cd_l_fraction) ct_l_fraction), sl_l_fraction⟩)
    (b_l_fraction : PySem.W.codeIn K (cd_l_fraction) "_law_fraction" = true) (k_l_fraction : PySem.W.keepIn K (.ref f_l_fraction) = true)
    {f_l_total : Addr} {od_l_total an_l_total : Option Addr} {sl_l_total : Array (Option Value)} {oc_l_total kV_l_total dc_l_total pm_l_total cd_l_total ct_l_total : Value}
    (a_l_total : PySem.W.nsIn K mainGlobals "_law_total" = some (some (.ref f_l_total))) (l_l_total : K.lookup f_l_total = some ⟨oc_l_total, od_l_total, .func (PySem.W.fnOf "_law_total" "_law_total" (defArgs s_l_total) (defBody s_l_total) (defScope s_l_total) .none kV_l_total dc_l_total pm_l_total an_l_total (cd_l_total) ct_l_total), sl_l_total⟩)
    (b_l_total : PySem.W.codeIn K (cd_l_total) "_law_total" = true) (k_l_total : PySem.W.keepIn K (.ref f_l_total) = true)
    {f_l_pair : Addr} {od_l_pair an_l_pair : Option Addr} {sl_l_pair : Array (Option Value)} {oc_l_pair kV_l_pair dc_l_pair pm_l_pair cd_l_pair ct_l_pair : Value}
    (a_l_pair : PySem.W.nsIn K mainGlobals "_law_pair" = some (some (.ref f_l_pair))) (l_l_pair : K.lookup f_l_pair = some ⟨oc_l_pair, od_l_pair, .func (PySem.W.fnOf "_law_pair" "_law_pair" (defArgs s_l_pair) (defBody s_l_pair) (defScope s_l_pair) .none kV_l_pair dc_l_pair pm_l_pair an_l_pair (cd_l_pair) ct_l_pair), sl_l_pair⟩)
    (b_l_pair : PySem.W.codeIn K (cd_l_pair) "_law_pair" = true) (k_l_pair : PySem.W.keepIn K (.ref f_l_pair) = true)
    {f_l_rounded : Addr} {od_l_rounded an_l_rounded : Option Addr} {sl_l_rounded : Array (Option Value)} {oc_l_rounded kV_l_rounded dc_l_rounded pm_l_rounded cd_l_rounded ct_l_rounded : Value}
    (a_l_rounded : PySem.W.nsIn K mainGlobals "_law_rounded" = some (some (.ref f_l_rounded))) (l_l_rounded : K.lookup f_l_rounded = some ⟨oc_l_rounded, od_l_rounded, .func (PySem.W.fnOf "_law_rounded" "_law_rounded" (defArgs s_l_rounded) (defBody s_l_rounded) (defScope s_l_rounded) .none kV_l_rounded dc_l_rounded pm_l_rounded an_l_rounded (cd_l_rounded) ct_l_rounded), sl_l_rounded⟩)
    (b_l_rounded : PySem.W.codeIn K (cd_l_rounded) "_law_rounded" = true) (k_l_rounded : PySem.W.keepIn K (.ref f_l_rounded) = true)
    {f_law : Addr} {od_law an_law : Option Addr} {sl_law : Array (Option Value)} {oc_law kV_law dc_law pm_law cd_law ct_law : Value}
    (a_law : PySem.W.nsIn K mainGlobals "law" = some (some (.ref f_law))) (l_law : K.lookup f_law = some ⟨oc_law, od_law, .func (PySem.W.fnOf "law" "law" (defArgs s_law) (defBody s_law) (defScope s_law) .none kV_law dc_law pm_law an_law (cd_law) ct_law), sl_law⟩)
    (b_law : PySem.W.codeIn K (cd_law) "law" = true) (k_law : PySem.W.keepIn K (.ref f_law) = true)
    {e_read_number : Value} {dd_read_number : Option Addr} {vs_read_number : Array Value} {sv_read_number : Array (Option Value)} (lc_read_number : K.lookup c_read_number = some ⟨e_read_number, dd_read_number, .fields vs_read_number, sv_read_number⟩) (lv_read_number : vs_read_number[11]? = some (.ref t_read_number)) (nt_read_number : K.lookup t_read_number = none)
    (z_abs : PySem.W.nsIn K mainGlobals "abs" = some none)
    (z_len : PySem.W.nsIn K mainGlobals "len" = some none)
    (z_int : PySem.W.nsIn K mainGlobals "int" = some none)
    (z_str : PySem.W.nsIn K mainGlobals "str" = some none)
    (z_list : PySem.W.nsIn K mainGlobals "list" = some none)
    (z_range : PySem.W.nsIn K mainGlobals "range" = some none)
    (z_all : PySem.W.nsIn K mainGlobals "all" = some none)
    {u__PART_DIGITS : Value} (g__PART_DIGITS : PySem.W.nsIn K mainGlobals "_PART_DIGITS" = some (some u__PART_DIGITS)) (v__PART_DIGITS : RelV (.int 60) u__PART_DIGITS)
    (z_gcd : PySem.W.nsIn K mainGlobals "gcd" = some (some (.builtin "math.gcd"))) : LamX.LawAtS l w K CX0 5 63 "script" mg fa h := by
  have Gg := G.T.g
  have e := hfa.symm.trans (PySem.W.mg_of X Gg a_law)
  cases e
  obtain ⟨uP, gP, rP⟩ := G.X.2.val _ hv
  have vP : RelV (.int 1000000000000000000000000000000000000000000000000000000000000) uP := by
    cases rP
    exact ⟨_, rfl⟩
  have T : Txt K mg uP u__PART_DIGITS := ⟨PySem.W.mg_none_of X Gg z_abs, PySem.W.mg_none_of X Gg z_len, PySem.W.mg_none_of X Gg z_int, PySem.W.mg_none_of X Gg z_str, PySem.W.mg_none_of X Gg z_list, PySem.W.mg_none_of X Gg z_range, PySem.W.mg_none_of X Gg z_all,
    PySem.W.mg_of X Gg z_gcd, gP, vP, PySem.W.mg_of X Gg g__PART_DIGITS, v__PART_DIGITS⟩
  obtain ⟨CH, tE⟩ := PySem.W.tab_of G.T X hR (tab_in a_read_number l_read_number rfl lc_read_number lv_read_number)
  have F_show_number := fun_mk (st := s_show_number) l_show_number b_show_number k_show_number
  have F_read_number := func_mk (st := s_read_number) l_read_number b_read_number
  have F_fraction := fun_mk (st := s_fraction) l_fraction b_fraction k_fraction
  have F_plus := fun_mk (st := s_plus) l_plus b_plus k_plus
  have F_minus := fun_mk (st := s_minus) l_minus b_minus k_minus
  have F_times := fun_mk (st := s_times) l_times b_times k_times
  have F_over := fun_mk (st := s_over) l_over b_over k_over
  have F_less := fun_mk (st := s_less) l_less b_less k_less
  have F_greatest := fun_mk (st := s_greatest) l_greatest b_greatest k_greatest
  have F_total := fun_mk (st := s_total) l_total b_total k_total
  have F_product := fun_mk (st := s_product) l_product b_product k_product
  have F_show_fraction := fun_mk (st := s_show_fraction) l_show_fraction b_show_fraction k_show_fraction
  have F_read_fraction := fun_mk (st := s_read_fraction) l_read_fraction b_read_fraction k_read_fraction
  have F_rounded := fun_mk (st := s_rounded) l_rounded b_rounded k_rounded
  have F_l_draw := fun_mk (st := s_l_draw) l_l_draw b_l_draw k_l_draw
  have F_l_take := fun_mk (st := s_l_take) l_l_take b_l_take k_l_take
  have F_l_gcd := fun_mk (st := s_l_gcd) l_l_gcd b_l_gcd k_l_gcd
  have F_l_fraction := fun_mk (st := s_l_fraction) l_l_fraction b_l_fraction k_l_fraction
  have F_l_total := fun_mk (st := s_l_total) l_l_total b_l_total k_l_total
  have F_l_pair := fun_mk (st := s_l_pair) l_l_pair b_l_pair k_l_pair
  have F_l_rounded := fun_mk (st := s_l_rounded) l_l_rounded b_l_rounded k_l_rounded
  have F_law := fun_mk (st := s_law) l_law b_law k_law
  refine ⟨PySem.W.fnOf "law" "law" (defArgs s_law) (defBody s_law) (defScope s_law) .none kV_law dc_law pm_law an_law cd_law ct_law, [(c_read_number, t_read_number)], spLaw K t_read_number, ?_, ?_, ?_, fun s v => .of_eq rfl, ?_, fun base KB MB hTB => ?_⟩
  · intro p hp
    rcases List.mem_singleton.mp hp with rfl
    exact tE
  · intro p hp
    rcases List.mem_singleton.mp hp with rfl
    exact nt_read_number
  · intro p hp
    rcases List.mem_singleton.mp hp with rfl
    exact CH
  · intro H a ns hl _ ht hS
    exact ⟨a, ns, rfl, hS, hl, ⟨#[], ht _ (.head _), True.intro⟩, fun _ => rfl⟩
  have TB0 := hTB _ (.head _)
  have TB : GxR.TabB base mg c_read_number t_read_number := ⟨TB0.code, TB0.bm, TB0.gP⟩
  have D_show_number : Df l.prog w K mg base 1 "show_number" ["n"] spShowN := df_of (ok_show_number F_show_number T) (PySem.W.mg_of X Gg a_show_number) k_show_number (Binds.all fun us hl => match us, hl with | [_], _ => rfl)
  have D_read_number : Df l.prog w K mg base 1 "read_number" ["text"] (spReadN t_read_number) := df_of (ok_read_number F_read_number T TB) (PySem.W.mg_of X Gg a_read_number) k_read_number (Binds.all fun us hl => match us, hl with | [_], _ => rfl)
  have D_fraction : Df l.prog w K mg base 1 "fraction" ["n", "d"] spFrac := df_of (ok_fraction F_fraction T) (PySem.W.mg_of X Gg a_fraction) k_fraction (Binds.all fun us hl => match us, hl with | [_, _], _ => rfl)
  have D_plus : Df l.prog w K mg base 2 "plus" ["a", "b"] (spTwo Pos2 plusF) := df_of (ok_plus F_plus D_fraction) (PySem.W.mg_of X Gg a_plus) k_plus (Binds.all fun us hl => match us, hl with | [_, _], _ => rfl)
  have D_minus : Df l.prog w K mg base 2 "minus" ["a", "b"] (spTwo Pos2 minusF) := df_of (ok_minus F_minus D_fraction) (PySem.W.mg_of X Gg a_minus) k_minus (Binds.all fun us hl => match us, hl with | [_, _], _ => rfl)
  have D_times : Df l.prog w K mg base 2 "times" ["a", "b"] (spTwo Pos2 timesF) := df_of (ok_times F_times D_fraction) (PySem.W.mg_of X Gg a_times) k_times (Binds.all fun us hl => match us, hl with | [_, _], _ => rfl)
  have D_over : Df l.prog w K mg base 2 "over" ["a", "b"] (spTwo (fun a b => 0 < a.2 ∧ b.1 ≠ 0) overF) := df_of (ok_over F_over D_fraction) (PySem.W.mg_of X Gg a_over) k_over (Binds.all fun us hl => match us, hl with | [_, _], _ => rfl)
  have D_less : Df l.prog w K mg base 1 "less" ["a", "b"] spLess := df_of (ok_less F_less) (PySem.W.mg_of X Gg a_less) k_less (Binds.all fun us hl => match us, hl with | [_, _], _ => rfl)
  have D_greatest : Df l.prog w K mg base 2 "greatest" ["a", "b"] spGreatest := df_of (ok_greatest F_greatest D_less) (PySem.W.mg_of X Gg a_greatest) k_greatest (Binds.all fun us hl => match us, hl with | [_, _], _ => rfl)
  have D_total : Df l.prog w K mg base 3 "total" ["row"] (spRow K totF) := df_of (ok_total F_total D_plus) (PySem.W.mg_of X Gg a_total) k_total (Binds.all fun us hl => match us, hl with | [_], _ => rfl)
  have D_product : Df l.prog w K mg base 3 "product" ["row"] (spRow K prF) := df_of (ok_product F_product D_times) (PySem.W.mg_of X Gg a_product) k_product (Binds.all fun us hl => match us, hl with | [_], _ => rfl)
  have D_show_fraction : Df l.prog w K mg base 2 "show_fraction" ["a"] spShowF := df_of (ok_show_fraction F_show_fraction D_show_number) (PySem.W.mg_of X Gg a_show_fraction) k_show_fraction (Binds.all fun us hl => match us, hl with | [_], _ => rfl)
  have D_read_fraction : Df l.prog w K mg base 3 "read_fraction" ["text"] (spReadF t_read_number) := df_of (ok_read_fraction F_read_fraction T D_read_number D_fraction D_show_fraction) (PySem.W.mg_of X Gg a_read_fraction) k_read_fraction (Binds.all fun us hl => match us, hl with | [_], _ => rfl)
  have D_rounded : Df l.prog w K mg base 2 "rounded" ["a", "places"] spRound := df_of (ok_rounded F_rounded T D_show_number) (PySem.W.mg_of X Gg a_rounded) k_rounded (Binds.all fun us hl => match us, hl with | [_, _], _ => rfl)
  have D_l_draw : Df l.prog w K mg base 1 "_law_draw" ["script"] (spDraw K) := df_of (ok_l_draw F_l_draw T) (PySem.W.mg_of X Gg a_l_draw) k_l_draw (Binds.all fun us hl => match us, hl with | [_], _ => rfl)
  have D_l_take : Df l.prog w K mg base 1 "_law_take" ["draw", "many"] (spTake K) := df_of (ok_l_take F_l_take T) (PySem.W.mg_of X Gg a_l_take) k_l_take (Binds.all fun us hl => match us, hl with | [_, _], _ => rfl)
  have D_l_gcd : Df l.prog w K mg base 1 "_law_gcd" ["a", "b"] spGcd := df_of (ok_l_gcd F_l_gcd) (PySem.W.mg_of X Gg a_l_gcd) k_l_gcd (Binds.all fun us hl => match us, hl with | [_, _], _ => rfl)
  have D_l_fraction : Df l.prog w K mg base 2 "_law_fraction" ["n", "d"] spFrac := df_of (ok_l_fraction F_l_fraction T D_l_gcd) (PySem.W.mg_of X Gg a_l_fraction) k_l_fraction (Binds.all fun us hl => match us, hl with | [_, _], _ => rfl)
  have D_l_total : Df l.prog w K mg base 3 "_law_total" ["rows"] (spRow K fun as => frc (totN as).1 (totN as).2) := df_of (ok_l_total F_l_total D_l_fraction) (PySem.W.mg_of X Gg a_l_total) k_l_total (Binds.all fun us hl => match us, hl with | [_], _ => rfl)
  have D_l_pair : Df l.prog w K mg base 2 "_law_pair" ["draw"] (spPair K) := df_of (ok_l_pair F_l_pair D_l_take) (PySem.W.mg_of X Gg a_l_pair) k_l_pair (Binds.all fun us hl => match us, hl with | [_], _ => rfl)
  have D_l_rounded : Df l.prog w K mg base 1 "_law_rounded" ["a", "places"] spRound := df_of (ok_l_rounded F_l_rounded T) (PySem.W.mg_of X Gg a_l_rounded) k_l_rounded (Binds.all fun us hl => match us, hl with | [_, _], _ => rfl)
  exact ok_law F_law T D_l_draw D_l_pair D_l_take D_fraction D_l_fraction D_plus D_minus D_times D_over D_less D_greatest D_show_fraction D_read_fraction D_rounded D_l_rounded D_total D_product D_l_total
end Ky
open PySem PySem.W PyProof.Rows in
set_option maxRecDepth 100000 in
set_option maxHeartbeats 0 in
theorem PySem.Challenge.cw_countsworn_k00_fractions_reckoned_holds : PySem.Challenge.rw_countsworn_k00_fractions_reckoned.Holds := by
  w_on; o_law; k_head; (case hw => w_witness2)
  k_fill
  refine Ky.walk_own (l := PySem.Challenge.rw_countsworn_k00_fractions_reckoned) (n := 63) (k := 5) (x := "script") rfl (by decide) rfl ⟨rfl, by decide, by decide⟩ (fun w h Y => PySem.W.kIn_of Y) ?F
  case F =>
    intro w s0 mg mb fa h G Y hmg KX
    refine' Ky.all_mk KX G hmg ?hR ?hv ?a_show_number ?l_show_number ?b_show_number ?k_show_number ?a_read_number ?l_read_number ?b_read_number ?k_read_number ?a_fraction ?l_fraction ?b_fraction ?k_fraction ?a_plus ?l_plus ?b_plus ?k_plus ?a_minus ?l_minus ?b_minus ?k_minus ?a_times ?l_times ?b_times ?k_times ?a_over ?l_over ?b_over ?k_over ?a_less ?l_less ?b_less ?k_less ?a_greatest ?l_greatest ?b_greatest ?k_greatest ?a_total ?l_total ?b_total ?k_total ?a_product ?l_product ?b_product ?k_product ?a_show_fraction ?l_show_fraction ?b_show_fraction ?k_show_fraction ?a_read_fraction ?l_read_fraction ?b_read_fraction ?k_read_fraction ?a_rounded ?l_rounded ?b_rounded ?k_rounded ?a_l_draw ?l_l_draw ?b_l_draw ?k_l_draw ?a_l_take ?l_l_take ?b_l_take ?k_l_take ?a_l_gcd ?l_l_gcd ?b_l_gcd ?k_l_gcd ?a_l_fraction ?l_l_fraction ?b_l_fraction ?k_l_fraction ?a_l_total ?l_l_total ?b_l_total ?k_l_total ?a_l_pair ?l_l_pair ?b_l_pair ?k_l_pair ?a_l_rounded ?l_l_rounded ?b_l_rounded ?k_l_rounded ?a_law ?l_law ?b_law ?k_law ?lc_read_number ?lv_read_number ?nt_read_number ?z_abs ?z_len ?z_int ?z_str ?z_list ?z_range ?z_all ?g__PART_DIGITS ?v__PART_DIGITS ?z_gcd
    (case hR => rfl)
    (case hv => exact List.mem_cons_self)
    (case a_show_number => k_is)
    (case l_show_number => k_is)
    (case b_show_number => k_is)
    (case k_show_number => k_is)
    (case a_read_number => k_is)
    (case l_read_number => k_is)
    (case b_read_number => k_is)
    (case k_read_number => k_is)
    (case a_fraction => k_is)
    (case l_fraction => k_is)
    (case b_fraction => k_is)
    (case k_fraction => k_is)
    (case a_plus => k_is)
    (case l_plus => k_is)
    (case b_plus => k_is)
    (case k_plus => k_is)
    (case a_minus => k_is)
    (case l_minus => k_is)
    (case b_minus => k_is)
    (case k_minus => k_is)
    (case a_times => k_is)
    (case l_times => k_is)
    (case b_times => k_is)
    (case k_times => k_is)
    (case a_over => k_is)
    (case l_over => k_is)
    (case b_over => k_is)
    (case k_over => k_is)
    (case a_less => k_is)
    (case l_less => k_is)
    (case b_less => k_is)
    (case k_less => k_is)
    (case a_greatest => k_is)
    (case l_greatest => k_is)
    (case b_greatest => k_is)
    (case k_greatest => k_is)
    (case a_total => k_is)
    (case l_total => k_is)
    (case b_total => k_is)
    (case k_total => k_is)
    (case a_product => k_is)
    (case l_product => k_is)
    (case b_product => k_is)
    (case k_product => k_is)
    (case a_show_fraction => k_is)
    (case l_show_fraction => k_is)
    (case b_show_fraction => k_is)
    (case k_show_fraction => k_is)
    (case a_read_fraction => k_is)
    (case l_read_fraction => k_is)
    (case b_read_fraction => k_is)
    (case k_read_fraction => k_is)
    (case a_rounded => k_is)
    (case l_rounded => k_is)
    (case b_rounded => k_is)
    (case k_rounded => k_is)
    (case a_l_draw => k_is)
    (case l_l_draw => k_is)
    (case b_l_draw => k_is)
    (case k_l_draw => k_is)
    (case a_l_take => k_is)
    (case l_l_take => k_is)
    (case b_l_take => k_is)
    (case k_l_take => k_is)
    (case a_l_gcd => k_is)
    (case l_l_gcd => k_is)
    (case b_l_gcd => k_is)
    (case k_l_gcd => k_is)
    (case a_l_fraction => k_is)
    (case l_l_fraction => k_is)
    (case b_l_fraction => k_is)
    (case k_l_fraction => k_is)
    (case a_l_total => k_is)
    (case l_l_total => k_is)
    (case b_l_total => k_is)
    (case k_l_total => k_is)
    (case a_l_pair => k_is)
    (case l_l_pair => k_is)
    (case b_l_pair => k_is)
    (case k_l_pair => k_is)
    (case a_l_rounded => k_is)
    (case l_l_rounded => k_is)
    (case b_l_rounded => k_is)
    (case k_l_rounded => k_is)
    (case a_law => k_is)
    (case l_law => k_is)
    (case b_law => k_is)
    (case k_law => k_is)
    (case lc_read_number => k_is)
    (case lv_read_number => exact rfl)
    (case nt_read_number => first | exact rfl | decide +kernel)
    (case z_abs => k_is)
    (case z_len => k_is)
    (case z_int => k_is)
    (case z_str => k_is)
    (case z_list => k_is)
    (case z_range => k_is)
    (case z_all => k_is)
    (case g__PART_DIGITS => k_is)
    (case v__PART_DIGITS => exact ⟨_, rfl⟩)
    (case z_gcd => k_is)

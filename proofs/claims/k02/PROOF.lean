import PyProof.Rows.All
import Wide.All
import OpenK.AllK
import Wide.FinOn
import HandS.ForMost
import HandS.IsInst
import HandS.Style
import HandS.Wide
import PySem.Challenge.RW_ringhue_k02_roads
set_option Elab.async false
set_option linter.all false
set_option maxRecDepth 100000
set_option maxHeartbeats 2000000
namespace Rg
open PySem PySem.Spec PyProof.Rows L2

/-! ### steps of a reading, from the left -/
section
variable {σ : L2.St} {H : Hp} {Q : VK} {ta tb te to ti : TE} {t u : TT} {tr ts : TA} {r : R2} {v x y : V} {i j : Int} {K : PySem.W.Frag} {nx bk ct : L2.St → Hp → Prop} {rt : VK}
theorem kVar {i : Nat} (h : σ[i]? = some (some v)) (q : Q v H) : tVar i σ H Q := ⟨v, h, q⟩
theorem kC (q : Q v H) : tC v σ H Q := q
theorem kOp (h : ta σ H fun x H1 => tb σ H1 fun y H2 => r x y H2 Q) : tOp r ta tb σ H Q := h
theorem kUn {r : V → Hp → VK → Prop} (h : ta σ H fun x H1 => r x H1 Q) : tUn r ta σ H Q := h
theorem kI0 {g : Int → Int → V} (q : Q (g i j) H) : rI0 g (.int i) (.int j) H Q := ⟨i, j, rfl, rfl, q⟩
theorem kI {C : Int → Int → Prop} {g : Int → Int → V} (c : C i j) (q : Q (g i j) H) : rI C g (.int i) (.int j) H Q := ⟨i, j, rfl, rfl, c, q⟩
theorem kU {g : Int → V} (q : Q (g i) H) : rU g (.int i) H Q := ⟨i, rfl, q⟩
theorem kEq (s : scal x y = true) (q : Q (.bl (decide (x = y))) H) : rEq x y H Q := ⟨s, q⟩
theorem kNe (s : scal x y = true) (q : Q (.bl (!decide (x = y))) H) : rNe x y H Q := ⟨s, q⟩
theorem kTest {Q : Bool → Hp → Prop} (h : te σ H fun x H1 => ∃ k, x = .bl k ∧ Q k H1) : tTest te σ H Q := h
theorem kTB {Q : Bool → Hp → Prop} (h : te σ H fun x H1 => ∃ k, x = .bl k ∧ Q k H1) : tB te σ H Q := h
theorem kBl {b : Bool} {P : Bool → Prop} (q : P b) : ∃ k, V.bl b = .bl k ∧ P k := ⟨b, rfl, q⟩
theorem kAnd {Q : Bool → Hp → Prop} (h : t σ H fun c H1 => if c = true then u σ H1 Q else Q false H1) : tAnd t u σ H Q := h
theorem kOr {Q : Bool → Hp → Prop} (h : t σ H fun c H1 => if c = true then Q true H1 else u σ H1 Q) : tOr t u σ H Q := h
theorem kNot {Q : Bool → Hp → Prop} (h : t σ H fun c H1 => Q (!c) H1) : tNot t σ H Q := h
theorem kAndV (h : ta σ H fun x H1 => ∃ c, x = .bl c ∧ if c = true then tb σ H1 Q else Q (.bl false) H1) : tAndV ta tb σ H Q := h
theorem kOrV (h : ta σ H fun x H1 => ∃ c, x = .bl c ∧ if c = true then Q (.bl true) H1 else tb σ H1 Q) : tOrV ta tb σ H Q := h
theorem kNotV (h : ta σ H fun x H1 => ∃ c, x = .bl c ∧ Q (.bl (!c)) H1) : tNotV ta σ H Q := h
theorem kIf (h : t σ H fun c H1 => if c = true then ta σ H1 Q else tb σ H1 Q) : tIf t ta tb σ H Q := h
theorem kChain {r r' : R2} {tc : TE} (h : ta σ H fun x H1 => tb σ H1 fun y H2 => r x y H2 fun z H3 => ∃ k, z = .bl k ∧ (if k = true then tc σ H3 fun w' H4 => r' y w' H4 Q else Q (.bl false) H3)) : tChain r r' ta tb tc σ H Q := h
theorem kNil {Q : List V → Hp → Prop} (q : Q [] H) : tNil σ H Q := q
theorem kCons {Q : List V → Hp → Prop} (h : ta σ H fun x H1 => tr σ H1 fun xs H2 => Q (x :: xs) H2) : tCons ta tr σ H Q := h
theorem kCB {r : List V → Hp → VK → Prop} (h : tr σ H fun vs H1 => r vs H1 Q) : tCB r tr σ H Q := h
theorem kCall {sp : Sp} {E : XK} (h : tr σ H fun vs H1 => sp vs H1 Q E) : tCall sp [] E tr σ H Q := by
  unfold tCall
  simpa only [List.append_nil] using h
theorem kBM {T : String} {r : V → List V → Hp → VK → Prop} (h : to σ H fun x H1 => tyV K T x H1 ∧ tr σ H1 fun xs H2 => r x xs H2 Q) : tBM K T r to tr σ H Q := h
theorem kBM0 {T : String} {r : V → List V → Hp → VK → Prop} (h : to σ H fun x H1 => tyV K T x H1 ∧ r x [] H1 Q) : tBM0 K T r to σ H Q := h
theorem kNoPart {Q : Option Int → Hp → Prop} (q : Q none H) : tNoPart σ H Q := q
theorem kPart {Q : Option Int → Hp → Prop} (h : te σ H fun x H1 => ∃ i, x = .int i ∧ Q (some i) H1) : tPart te σ H Q := h
theorem kInt {i : Int} {P : Int → Prop} (q : P i) : ∃ k, V.int i = .int k ∧ P k := ⟨i, rfl, q⟩
theorem kSl {r : V → Option Int → Option Int → Hp → VK → Prop} {tl th : TO} (h : te σ H fun x H1 => tl σ H1 fun l H2 => th σ H2 fun u H3 => r x l u H3 Q) : tSl r te tl th σ H Q := h
theorem kSeq {a b : TS} (h : a (Ends.mk (b (Ends.mk nx rt bk ct)) rt bk ct) σ H) : tSeq a b (Ends.mk nx rt bk ct) σ H := h
theorem kSeqA {e : TE} {g : TG} {b : TS} (h : tAsg e g (Ends.mk (b (Ends.mk nx rt bk ct)) rt bk ct) σ H) : tSeq (tAsg e g) b (Ends.mk nx rt bk ct) σ H := h
theorem kSeqD {e : TE} {b : TS} (h : tDrop e (Ends.mk (b (Ends.mk nx rt bk ct)) rt bk ct) σ H) : tSeq (tDrop e) b (Ends.mk nx rt bk ct) σ H := h
theorem kAsg {i : Nat} (h : te σ H fun x H1 => nx (σ.set i (some x)) H1) : tAsg te (gName i) (Ends.mk nx rt bk ct) σ H := h
theorem kAsgSub {s : TSet} (h : te σ H fun x H1 => to σ H1 fun o H2 => ti σ H2 fun i H3 => s o i x H3 fun H4 => nx σ H4) : tAsg te (gSub to ti s) (Ends.mk nx rt bk ct) σ H := h
theorem kDrop (h : te σ H fun _ H1 => nx σ H1) : tDrop te (Ends.mk nx rt bk ct) σ H := h
theorem kRet (h : te σ H rt) : tRet te (Ends.mk nx rt bk ct) σ H := h
theorem kIfS {c : TT} {a b : TS} {D : Ends} (h : c σ H fun k H1 => if k = true then a D σ H1 else b D σ H1) : tIfS c a b D σ H := h
theorem kNext (h : nx σ H) : tNext (Ends.mk nx rt bk ct) σ H := h
theorem kBrk (h : bk σ H) : tBreak (Ends.mk nx rt bk ct) σ H := h
theorem kCont (h : ct σ H) : tCont (Ends.mk nx rt bk ct) σ H := h
theorem kG {i : Nat} {Q : L2.St → Hp → Prop} (q : Q (σ.set i (some v)) H) : gName i v σ H Q := q
theorem kSetL {p : Addr} {xs : List V} {k : Int} {j : Nat} {R : Hp → Prop} (h : H p = some (.lst xs)) (e : ixN xs.length k = some j) (q : R (upd H p (.lst (xs.set j v)))) : rSetL (.ref p) (.int k) v H R := ⟨p, xs, k, j, rfl, rfl, h, e, q⟩
theorem kIxL {p : Addr} {xs : List V} {k : Int} (h : SqL K H p xs) (a : atI xs k = some v) (q : Q v H) : rIxL K (.ref p) (.int k) H Q := ⟨p, xs, k, v, rfl, rfl, h, a, q⟩
theorem kIxT {p : Addr} {xs : List V} {k : Int} (h : SqT K H p xs) (a : atI xs k = some v) (q : Q v H) : rIxT K (.ref p) (.int k) H Q := ⟨p, xs, k, v, rfl, rfl, h, a, q⟩
theorem kIxS {z : Str} {k : Int} {c : Nat} (h : z.length ≤ sizeLine) (a : atI z.cps.toList k = some c) (q : Q (.str ⟨#[c]⟩) H) : rIxS (.str z) (.int k) H Q := ⟨z, k, c, rfl, rfl, h, a, q⟩
theorem kIxSeqL {p : Addr} {xs : List V} {k : Int} (h : SqL K H p xs) (a : atI xs k = some v) (q : Q v H) : rIx K (.ref p) (.int k) H Q := .inl ⟨p, xs, k, v, rfl, rfl, h, a, q⟩
theorem kSlL {p : Addr} {xs : List V} {lo hi : Option Int} (h : SqL K H p xs) (q : ∀ l, H l = none → Q (.ref l) (upd H l (.lst (cutV xs lo hi)))) : rSlL K (.ref p) lo hi H Q := ⟨p, xs, rfl, h, q⟩
theorem kAppend {p : Addr} {xs : List V} (h : H p = some (.lst xs)) (l : xs.length < sizeLine) (q : Q .non (upd H p (.lst (xs ++ [v])))) : rAppend (.ref p) [v] H Q := ⟨p, xs, v, rfl, rfl, h, l, q⟩
theorem kTyL {p : Addr} {xs : List V} {P : Prop} (h : H p = some (.lst xs)) (q : P) : tyV K "list" (.ref p) H ∧ P := ⟨.inl ⟨rfl, xs, .inl (.inl h)⟩, q⟩
end

/-! ### calls with a name -/
def rLen2 (K : PySem.W.Frag) : List V → Hp → VK → Prop := fun xs H Q => ∃ p ys, xs = [.ref p] ∧ (SqL K H p ys ∨ SqT K H p ys) ∧ Q (.int ys.length) H
def rMax2 : List V → Hp → VK → Prop := fun xs H Q => ∃ i j, xs = [.int i, .int j] ∧ Q (.int (if j > i then j else i)) H
def rMin2 : List V → Hp → VK → Prop := fun xs H Q => ∃ i j, xs = [.int i, .int j] ∧ Q (.int (if j < i then j else i)) H
def rInt2 : List V → Hp → VK → Prop := fun xs H Q => (∃ i, xs = [.int i] ∧ Q (.int i) H) ∨ ∃ k, xs = [.bl k] ∧ Q (.int (if k then 1 else 0)) H
def rList2 (K : PySem.W.Frag) : List V → Hp → VK → Prop := fun xs H Q => ∃ p ys, xs = [.ref p] ∧ (SqL K H p ys ∨ SqT K H p ys) ∧ ∀ l, H l = none → Q (.ref l) (upd H l (.lst ys))
def rTuple2 (K : PySem.W.Frag) : List V → Hp → VK → Prop := fun xs H Q => ∃ p ys, xs = [.ref p] ∧ ((SqL K H p ys ∧ ∀ l, H l = none → Q (.ref l) (upd H l (.tup ys))) ∨ (SqT K H p ys ∧ Q (.ref p) H))
section
variable {X : Cx}
theorem c_len : CallR X (.builtin "len") (rLen2 X.K) := call_len_seq
theorem c_max (hc : X.calm = true) : CallR X (.builtin "max") rMax2 := call_max2 hc
theorem c_min (hc : X.calm = true) : CallR X (.builtin "min") rMin2 := call_min2 hc
theorem c_int : CallR X (.type "int") rInt2 := call_int1
theorem c_list : CallR X (.type "list") (rList2 X.K) := call_list_of
theorem c_tuple : CallR X (.type "tuple") (rTuple2 X.K) := call_tuple_of
end
section
variable {H : Hp} {Q : VK} {K : PySem.W.Frag} {p : Addr} {ys : List V} {i j : Int}
theorem kLenL (h : SqL K H p ys) (q : Q (.int ys.length) H) : rLen2 K [.ref p] H Q := ⟨p, ys, rfl, .inl h, q⟩
theorem kLenT (h : SqT K H p ys) (q : Q (.int ys.length) H) : rLen2 K [.ref p] H Q := ⟨p, ys, rfl, .inr h, q⟩
theorem kMax (q : Q (.int (if j > i then j else i)) H) : rMax2 [.int i, .int j] H Q := ⟨i, j, rfl, q⟩
theorem kMin (q : Q (.int (if j < i then j else i)) H) : rMin2 [.int i, .int j] H Q := ⟨i, j, rfl, q⟩
theorem kIntI (q : Q (.int i) H) : rInt2 [.int i] H Q := .inl ⟨i, rfl, q⟩
theorem kIntB {k : Bool} (q : Q (.int (if k then 1 else 0)) H) : rInt2 [.bl k] H Q := .inr ⟨k, rfl, q⟩
theorem kListL (h : SqL K H p ys) (q : ∀ l, H l = none → Q (.ref l) (upd H l (.lst ys))) : rList2 K [.ref p] H Q := ⟨p, ys, rfl, .inl h, q⟩
theorem kTupleL (h : SqL K H p ys) (q : ∀ l, H l = none → Q (.ref l) (upd H l (.tup ys))) : rTuple2 K [.ref p] H Q := ⟨p, ys, rfl, .inl ⟨h, q⟩⟩
theorem kTupleT (h : SqT K H p ys) (q : Q (.ref p) H) : rTuple2 K [.ref p] H Q := ⟨p, ys, rfl, .inr ⟨h, q⟩⟩
theorem kIsi {x c : V} {t u : Value} {b : Bool} (k : ClsV c u) (ty : TyX K H x t) (e : PySem.W.kitOne K t u = some b) (q : Q (.bl b) H) : rIsi K [x, c] H Q := ⟨x, c, t, u, b, rfl, k, ty, e, q⟩
end

/-! ### what the top has left: a def of the text, the built-in names -/
structure Df (K : PySem.W.Frag) (mg : Str → Option Value) (x : Str) (st : Stmt) (ps : List Str) (f : Addr) (fd : FuncData) : Prop where
  F : Fun K x x st f fd
  g : mg x = some (.ref f)
  b : Binds K fd ps []
structure Bl (mg : Str → Option Value) : Prop where
  len : mg "len" = none
  range : mg "range" = none
  max : mg "max" = none
  min : mg "min" = none
  int : mg "int" = none
  bool : mg "bool" = none
  str : mg "str" = none
  list : mg "list" = none
  tuple : mg "tuple" = none
  isinstance : mg "isinstance" = none
  repr : mg "repr" = none
  all : mg "all" = none
  any : mg "any" = none
  enumerate : mg "enumerate" = none
  sorted : mg "sorted" = none
  ValueError : mg "ValueError" = none
theorem kitII : kitB "int" "int" = some true := by decide +kernel
theorem kitIB : kitB "int" "bool" = some false := by decide +kernel
theorem kitBI : kitB "bool" "int" = some true := by decide +kernel
theorem kitBB : kitB "bool" "bool" = some true := by decide +kernel
theorem kitLL : kitB "list" "list" = some true := by decide +kernel
theorem kitTT : kitB "tuple" "tuple" = some true := by decide +kernel
section
variable {H : Hp} {Q : VK} {K : PySem.W.Frag} {z : Int} {b : Bool} {p : Addr} {xs : List V}
theorem isiII (q : Q (.bl true) H) : rIsi K [.int z, .ty "int"] H Q := kIsi (.ty _) (.base (.int z)) (kit_ty kitII) q
theorem isiIB (q : Q (.bl false) H) : rIsi K [.int z, .ty "bool"] H Q := kIsi (.ty _) (.base (.int z)) (kit_ty kitIB) q
theorem isiBI (q : Q (.bl true) H) : rIsi K [.bl b, .ty "int"] H Q := kIsi (.ty _) (.base (.bl b)) (kit_ty kitBI) q
theorem isiBB (q : Q (.bl true) H) : rIsi K [.bl b, .ty "bool"] H Q := kIsi (.ty _) (.base (.bl b)) (kit_ty kitBB) q
theorem isiLL (h : H p = some (.lst xs)) (q : Q (.bl true) H) : rIsi K [.ref p, .ty "list"] H Q := kIsi (.ty _) (.base (.lst h)) (kit_ty kitLL) q
theorem isiTT (h : H p = some (.tup xs)) (q : Q (.bl true) H) : rIsi K [.ref p, .ty "tuple"] H Q := kIsi (.ty _) (.base (.tup h)) (kit_ty kitTT) q
end
/-! ### tests -/
theorem iteD {P A B : Prop} {d : Decidable P} (h1 : P → A) (h2 : ¬P → B) : if decide P = true then A else B := by
  by_cases h : P
  · rw [decide_eq_true h]
    exact h1 h
  · rw [decide_eq_false h]
    exact h2 h
theorem iteN {P A B : Prop} {d : Decidable P} (h1 : ¬P → A) (h2 : P → B) : if (!decide P) = true then A else B := by
  by_cases h : P
  · rw [decide_eq_true h]
    exact h2 h
  · rw [decide_eq_false h]
    exact h1 h
theorem iteB {b : Bool} {A B : Prop} (h1 : b = true → A) (h2 : b = false → B) : if b = true then A else B := by
  cases b with
  | true => exact h1 rfl
  | false => exact h2 rfl
theorem iteI {i j : Int} {A B : Prop} (h1 : i = j → A) (h2 : i ≠ j → B) : if decide (V.int i = V.int j) = true then A else B :=
  iteD (fun e => h1 (V.int.inj e)) fun e => h2 fun z => e (congrArg V.int z)
theorem iteIN {i j : Int} {A B : Prop} (h1 : i ≠ j → A) (h2 : i = j → B) : if (!decide (V.int i = V.int j)) = true then A else B :=
  iteN (fun e => h1 fun z => e (congrArg V.int z)) fun e => h2 (V.int.inj e)

/-! ### what is known of the heap: a ledger; the dice and a ledger -/
abbrev Led := List (Addr × HO)
structure Lg (L : Led) (H : Hp) : Prop where
  led : ∀ q ∈ L, H q.1 = some q.2
  nd : (L.map (·.1)).Nodup
/-- d the dice (it may change), n how often it was thrown at most, L what stands besides -/
def Kn (d : Addr) (n : Nat) (L : Led) (H : Hp) : Prop := ∃ (s : Addr) (a c r : Int) (ns : List Int), Lg ((d, .lst [.ref s, .int a, .int c, .int r]) :: (s, .lst (ns.map V.int)) :: L) H ∧ 0 ≤ a ∧ a ≤ n
section
variable {d : Addr} {n m : Nat} {L L' : Led} {H : Hp} {a : Addr} {o u : HO}
theorem Lg.at (k : Lg L H) (i : Nat) (h : L[i]? = some (a, o)) : H a = some o := k.led (a, o) (List.mem_of_getElem? h)
theorem Lg.perm (k : Lg L H) (h : L.Perm L') : Lg L' H := ⟨fun q hq => k.led q (h.mem_iff.mpr hq), (h.map _).nodup_iff.mp k.nd⟩
theorem Lg.sub (k : Lg L H) (h : List.Sublist L' L) : Lg L' H := ⟨fun q hq => k.led q (h.subset hq), k.nd.sublist (h.map _)⟩
/-- a new object -/
theorem Lg.new (k : Lg L H) (h : H a = none) : Lg ((a, o) :: L) (upd H a o) := by
  have hl : ∀ q ∈ L, q.1 ≠ a := fun q hq => ne_of_none (k.led q hq) h
  refine ⟨fun q hq => ?_, ?_⟩
  · rcases List.mem_cons.mp hq with rfl | hq
    · exact upd_same
    · rw [upd_ne (hl q hq)]
      exact k.led q hq
  · rw [List.map_cons, List.nodup_cons]
    refine ⟨fun z => ?_, k.nd⟩
    obtain ⟨q, hq, e⟩ := List.mem_map.mp z
    exact hl q hq e
/-- one of them changes -/
theorem Lg.put (k : Lg L H) (i : Nat) (h : L[i]? = some (a, o)) : Lg (L.set i (a, u)) (upd H a u) := by
  have hi : i < L.length := (List.getElem?_eq_some_iff.mp h).1
  have he : L[i] = (a, o) := (List.getElem?_eq_some_iff.mp h).2
  have hmap : (L.set i (a, u)).map (·.1) = L.map (·.1) := by
    apply List.ext_getElem?
    intro j
    rw [List.getElem?_map, List.getElem?_map, List.getElem?_set]
    by_cases e : i = j
    · subst e
      rw [if_pos rfl, if_pos hi, List.getElem?_eq_getElem hi, he]
      rfl
    · rw [if_neg e]
  refine ⟨fun q hq => ?_, by rw [hmap]; exact k.nd⟩
  obtain ⟨j, hj⟩ := List.getElem?_of_mem hq
  rw [List.getElem?_set] at hj
  by_cases e : i = j
  · rw [if_pos e, if_pos hi] at hj
    have hj' : (a, u) = q := Option.some.inj hj
    subst hj'
    exact upd_same
  · rw [if_neg e] at hj
    have hne : q.1 ≠ a := fun z => by
      have h1 : (L.map (·.1))[i]? = some a := by rw [List.getElem?_map, h]; rfl
      have h2 : (L.map (·.1))[j]? = some a := by rw [List.getElem?_map, hj]; exact congrArg some z
      exact e (nd_ix k.nd h1 h2)
    rw [upd_ne hne]
    exact k.led q (List.mem_of_getElem? hj)
theorem Kn.at (k : Kn d n L H) (i : Nat) (h : L[i]? = some (a, o)) : H a = some o := by
  obtain ⟨s, b, c, r, ns, l, _⟩ := k
  exact l.at (i + 2) h
theorem Kn.more (k : Kn d n L H) (h : n ≤ m) : Kn d m L H := by
  obtain ⟨s, b, c, r, ns, l, e1, e2⟩ := k
  exact ⟨s, b, c, r, ns, l, e1, by omega⟩
theorem Kn.new (k : Kn d n L H) (h : H a = none) : Kn d n ((a, o) :: L) (upd H a o) := by
  obtain ⟨s, b, c, r, ns, l, e1, e2⟩ := k
  refine ⟨s, b, c, r, ns, (l.new (o := o) h).perm ?_, e1, e2⟩
  exact (List.Perm.swap _ _ _).trans (List.Perm.cons _ (List.Perm.swap _ _ _))
theorem Kn.put (k : Kn d n L H) (i : Nat) (h : L[i]? = some (a, o)) : Kn d n (L.set i (a, u)) (upd H a u) := by
  obtain ⟨s, b, c, r, ns, l, e1, e2⟩ := k
  exact ⟨s, b, c, r, ns, l.put (i + 2) h, e1, e2⟩
theorem Kn.sub (k : Kn d n L H) (h : List.Sublist L' L) : Kn d n L' H := by
  obtain ⟨s, b, c, r, ns, l, e1, e2⟩ := k
  exact ⟨s, b, c, r, ns, l.sub ((h.cons₂ _).cons₂ _), e1, e2⟩
theorem Kn.tail {q : Addr × HO} (k : Kn d n (q :: L) H) : Kn d n L H := k.sub (List.sublist_cons_self _ _)
theorem Kn.drop (k : Kn d n L H) (i : Nat) : Kn d n (L.drop i) H := k.sub (List.drop_sublist _ _)
theorem at_of (i : Nat) (k : Kn d n L H) (h : L[i]? = some (a, o)) : H a = some o := k.at i h
theorem sqL_of {K : PySem.W.Frag} {xs : List V} (i : Nat) (k : Kn d n L H) (h : L[i]? = some (a, .lst xs)) : SqL K H a xs := .inl (.inl (k.at i h))
theorem sqT_of {K : PySem.W.Frag} {xs : List V} (i : Nat) (k : Kn d n L H) (h : L[i]? = some (a, .tup xs)) : SqT K H a xs := .inl (.inl (k.at i h))
theorem lat_of (i : Nat) (k : Lg L H) (h : L[i]? = some (a, o)) : H a = some o := k.at i h
theorem lsqL_of {K : PySem.W.Frag} {xs : List V} (i : Nat) (k : Lg L H) (h : L[i]? = some (a, .lst xs)) : SqL K H a xs := .inl (.inl (k.at i h))
theorem lsqT_of {K : PySem.W.Frag} {xs : List V} (i : Nat) (k : Lg L H) (h : L[i]? = some (a, .tup xs)) : SqT K H a xs := .inl (.inl (k.at i h))
end
/-! ### items of short lists; the dice's cells -/
section
variable {a b c e v : V} {l : List V} {p : Addr} {H : Hp} {R : Hp → Prop} {L : Led}
theorem at0 : atI (a :: l) 0 = some a := atI_nat (j := 0) rfl
theorem at1 : atI (a :: b :: l) 1 = some b := atI_nat (j := 1) rfl
theorem at2 : atI (a :: b :: c :: l) 2 = some c := atI_nat (j := 2) rfl
theorem at3 : atI (a :: b :: c :: e :: l) 3 = some e := atI_nat (j := 3) rfl
theorem kD1 (k : Lg ((p, .lst [a, b, c, e]) :: L) H) (q : ∀ H', Lg ((p, .lst [a, v, c, e]) :: L) H' → R H') : rSetL (.ref p) (.int 1) v H R := ⟨p, _, 1, 1, rfl, rfl, k.at 0 rfl, rfl, q _ (k.put 0 rfl)⟩
theorem kD2 (k : Lg ((p, .lst [a, b, c, e]) :: L) H) (q : ∀ H', Lg ((p, .lst [a, b, v, e]) :: L) H' → R H') : rSetL (.ref p) (.int 2) v H R := ⟨p, _, 2, 2, rfl, rfl, k.at 0 rfl, rfl, q _ (k.put 0 rfl)⟩
theorem kD3 (k : Lg ((p, .lst [a, b, c, e]) :: L) H) (q : ∀ H', Lg ((p, .lst [a, b, c, v]) :: L) H' → R H') : rSetL (.ref p) (.int 3) v H R := ⟨p, _, 3, 3, rfl, rfl, k.at 0 rfl, rfl, q _ (k.put 0 rfl)⟩
theorem lenPos {ns : List Int} (h : ns ≠ []) : (0 : Int) < ((ns.map V.int).length : Int) := by
  have h0 : 0 < ns.length := List.length_pos_iff.mpr h
  rw [List.length_map]
  omega
theorem atMod {ns : List Int} (h : ns ≠ []) (z : Int) : ∃ y, atI (ns.map V.int) (z % ((ns.map V.int).length : Int)) = some (.int y) := by
  rw [List.length_map]
  have h0 : 0 < ns.length := List.length_pos_iff.mpr h
  have h1 : 0 ≤ z % (ns.length : Int) := Int.emod_nonneg z (by omega)
  have h2 : z % (ns.length : Int) < (ns.length : Int) := Int.emod_lt_of_pos z (by omega)
  obtain ⟨j, hj⟩ : ∃ j : Nat, z % (ns.length : Int) = (j : Int) := ⟨(z % (ns.length : Int)).toNat, by omega⟩
  have hl : j < ns.length := by omega
  rw [hj]
  exact ⟨ns[j], atI_nat (by rw [List.getElem?_map, List.getElem?_eq_getElem hl]; rfl)⟩
end
/-- ways that meet behind a statement -/
theorem kJoin {x y : TS} {nx bk ct : L2.St → Hp → Prop} {rt : VK} {σ : L2.St} {H : Hp} (W : L2.St → Hp → Prop) (h2 : ∀ σ' H', W σ' H' → y (Ends.mk nx rt bk ct) σ' H')
    (h1 : ∀ N : L2.St → Hp → Prop, (∀ σ' H', W σ' H' → N σ' H') → x (Ends.mk N rt bk ct) σ H) : tSeq x y (Ends.mk nx rt bk ct) σ H := h1 _ h2
/-! ### with a ledger: new lists and tuples, append -/
def NewL (xs : List V) (Q : VK) (H : Hp) : Prop := xs.length ≤ sizeLine ∧ ∀ p, H p = none → Q (.ref p) (upd H p (.lst xs))
def NewT (xs : List V) (Q : VK) (H : Hp) : Prop := xs.length ≤ sizeLine ∧ ∀ p, H p = none → Q (.ref p) (upd H p (.tup xs))
section
variable {d : Addr} {n : Nat} {L : Led} {H : Hp} {σ : L2.St} {Q : VK} {tr : TA} {p : Addr} {v : V} {xs : List V} {K : PySem.W.Frag}
theorem kLst (h : tr σ H fun ys H1 => NewL ys Q H1) : tLst tr σ H Q := h
theorem kTup (h : tr σ H fun ys H1 => NewT ys Q H1) : tTup tr σ H Q := h
theorem kNewL (z : xs.length ≤ 100000) (k : Kn d n L H) (q : ∀ p H', Kn d n ((p, .lst xs) :: L) H' → Q (.ref p) H') : NewL xs Q H := ⟨Nat.le_trans z (by decide), fun p hp => q p _ (k.new hp)⟩
theorem kNewT (z : xs.length ≤ 100000) (k : Kn d n L H) (q : ∀ p H', Kn d n ((p, .tup xs) :: L) H' → Q (.ref p) H') : NewT xs Q H := ⟨Nat.le_trans z (by decide), fun p hp => q p _ (k.new hp)⟩
theorem kAppK (k : Kn d n L H) (i : Nat) (h : L[i]? = some (p, .lst xs)) (z : xs.length < 100000) (q : ∀ H', Kn d n (L.set i (p, .lst (xs ++ [v]))) H' → Q .non H') : rAppend (.ref p) [v] H Q :=
  ⟨p, xs, v, rfl, rfl, k.at i h, Nat.lt_of_lt_of_le z (by decide), q _ (k.put i h)⟩
theorem kSlLK {lo hi : Option Int} (h : SqL K H p xs) (k : Kn d n L H) (q : ∀ l H', Kn d n ((l, .lst (cutV xs lo hi)) :: L) H' → Q (.ref l) H') : rSlL K (.ref p) lo hi H Q := ⟨p, xs, rfl, h, fun l hl => q l _ (k.new hl)⟩
theorem kListK (h : SqL K H p xs) (k : Kn d n L H) (q : ∀ l H', Kn d n ((l, .lst xs) :: L) H' → Q (.ref l) H') : rList2 K [.ref p] H Q := ⟨p, xs, rfl, .inl h, fun l hl => q l _ (k.new hl)⟩
theorem kTupleK (h : SqL K H p xs) (k : Kn d n L H) (q : ∀ l H', Kn d n ((l, .tup xs) :: L) H' → Q (.ref l) H') : rTuple2 K [.ref p] H Q := ⟨p, xs, rfl, .inl ⟨h, fun l hl => q l _ (k.new hl)⟩⟩
end
theorem atMem {es : List Int} {z : Int} (h0 : 0 ≤ z) (h1 : z < es.length) : ∃ e, atI (es.map V.int) z = some (.int e) ∧ e ∈ es := by
  obtain ⟨j, rfl⟩ : ∃ j : Nat, z = (j : Int) := ⟨z.toNat, by omega⟩
  have hl : j < es.length := by omega
  exact ⟨es[j], atI_nat (by rw [List.getElem?_map, List.getElem?_eq_getElem hl]; rfl), List.getElem_mem hl⟩
theorem atLast (xs : List Int) (x : Int) : atI ((xs ++ [x]).map V.int) (-1) = some (.int x) := by
  rw [List.map_append]
  exact atI_last _ _
theorem szL {n : Nat} (h : n ≤ 100000) : n ≤ sizeLine := Nat.le_trans h (by decide)
theorem log_small {z : Int} (h0 : 0 < z) (h : z < 2 ^ 62) : z.natAbs.log2 < 9000 := Nat.lt_of_lt_of_le (PySem.Flt.log2_lt_of (k := 62) (by decide) (by omega)) (by decide)
theorem szL' {n : Nat} (h : n < 100000) : n < sizeLine := Nat.lt_of_lt_of_le h (by decide)

/-! ### whole numbers in lists compared -/
theorem dpInts {K : PySem.W.Frag} {H : Hp} : ∀ ns : List Int, DpAll K H (ns.map V.int) (ns.map PyData.int)
  | [] => .nil
  | n :: r => .cons (.int n) (dpInts r)
theorem layInts : ∀ ns : List Int, PyData.canLayAll0 (ns.map PyData.int) = true
  | [] => by simp [PyData.canLayAll0]
  | n :: r => by simp [PyData.canLayAll0, PyData.canLay0, layInts r]
theorem depInts : ∀ ns : List Int, PyData.depthAll (ns.map PyData.int) = 0
  | [] => by simp [PyData.depthAll]
  | n :: r => by simp [PyData.depthAll, PyData.depth, depInts r]
theorem shL (ns : List Int) : SeqAt.shaped (.list (ns.map PyData.int)) = true := by
  simp [SeqAt.shaped, PyData.canLay0, layInts, PyData.depth, depInts]
theorem shT (ns : List Int) : SeqAt.shaped (.tuple (ns.map PyData.int)) = true := by
  simp [SeqAt.shaped, PyData.canLay0, layInts, PyData.depth, depInts]
theorem eqvInts : ∀ xs ys : List Int, PyData.eqvAll (xs.map PyData.int) (ys.map PyData.int) = decide (xs = ys)
  | [], [] => by simp [PyData.eqvAll]
  | [], y :: ys => by simp [PyData.eqvAll]
  | x :: xs, [] => by simp [PyData.eqvAll]
  | x :: xs, y :: ys => by
    simp only [List.map_cons, PyData.eqvAll, PyData.eqv, eqvInts xs ys, List.cons.injEq]
    by_cases h : x = y <;> by_cases h2 : xs = ys <;> simp [h, h2]
section
variable {H : Hp} {Q : VK} {K : PySem.W.Frag} {p q : Addr} {xs ys : List Int}
theorem kNeL (h1 : SqL K H p (xs.map V.int)) (h2 : SqL K H q (ys.map V.int)) (k : Q (.bl (!decide (xs = ys))) H) : rNeD K (.ref p) (.ref q) H Q := by
  refine ⟨.list (xs.map PyData.int), .list (ys.map PyData.int), .lst h1 (dpInts xs), .lst h2 (dpInts ys), shL xs, shL ys, ?_⟩
  rw [PyData.eqv, eqvInts]
  exact k
theorem kEqL (h1 : SqL K H p (xs.map V.int)) (h2 : SqL K H q (ys.map V.int)) (k : Q (.bl (decide (xs = ys))) H) : rEqD K (.ref p) (.ref q) H Q := by
  refine ⟨.list (xs.map PyData.int), .list (ys.map PyData.int), .lst h1 (dpInts xs), .lst h2 (dpInts ys), shL xs, shL ys, ?_⟩
  rw [PyData.eqv, eqvInts]
  exact k
theorem kNeT (h1 : SqT K H p (xs.map V.int)) (h2 : SqT K H q (ys.map V.int)) (k : Q (.bl (!decide (xs = ys))) H) : rNeD K (.ref p) (.ref q) H Q := by
  refine ⟨.tuple (xs.map PyData.int), .tuple (ys.map PyData.int), .tup h1 (dpInts xs), .tup h2 (dpInts ys), shT xs, shT ys, ?_⟩
  rw [PyData.eqv, eqvInts]
  exact k
theorem kEqT (h1 : SqT K H p (xs.map V.int)) (h2 : SqT K H q (ys.map V.int)) (k : Q (.bl (decide (xs = ys))) H) : rEqD K (.ref p) (.ref q) H Q := by
  refine ⟨.tuple (xs.map PyData.int), .tuple (ys.map PyData.int), .tup h1 (dpInts xs), .tup h2 (dpInts ys), shT xs, shT ys, ?_⟩
  rw [PyData.eqv, eqvInts]
  exact k
end

theorem Kn.mem {d : Addr} {n : Nat} {L : Led} {H : Hp} {a : Addr} {o : HO} (k : Kn d n L H) (h : (a, o) ∈ L) : H a = some o := by
  obtain ⟨i, hi⟩ := List.getElem?_of_mem h
  exact k.at i hi
theorem Kn.seqL {d : Addr} {n : Nat} {L : Led} {H : Hp} {K : PySem.W.Frag} {a : Addr} {xs : List V} (k : Kn d n L H) (h : (a, .lst xs) ∈ L) : SqL K H a xs := .inl (.inl (k.mem h))
theorem Kn.seqT {d : Addr} {n : Nat} {L : Led} {H : Hp} {K : PySem.W.Frag} {a : Addr} {xs : List V} (k : Kn d n L H) (h : (a, .tup xs) ∈ L) : SqT K H a xs := .inl (.inl (k.mem h))
/-! ### a list comprehension over a list; the word: what is made so far -/
theorem kLcL {d : Addr} {n : Nat} {L : Led} {H : Hp} {K : PySem.W.Frag} {σ : L2.St} {Q : VK} {p : Addr} {xs : List V} {te0 te : TE} {tt : TT} {j : Nat} {vs : List Nat} (k : Kn d n L H) (hp : (p, .lst xs) ∈ L) (src : ∀ R : VK, R (.ref p) H → te0 σ H R)
    (hz : xs.length ≤ 100000) (acc : Nat → List V) (a0 : acc 0 = []) (al : ∀ i, (acc i).length ≤ i) (hw : ∀ x, wipe ((wipe σ vs).set j (some x)) vs = wipe σ vs)
    (turn : ∀ i x H' D, xs[i]? = some x → Kn d n ((D, .lst (acc i)) :: L) H' → ∀ (N1 : VK) (N2 : Hp → Prop), (∀ y H4, Kn d n ((D, .lst (acc i)) :: L) H4 → acc (i + 1) = acc i ++ [y] → N1 y H4) → (∀ H3, Kn d n ((D, .lst (acc i)) :: L) H3 → acc (i + 1) = acc i → N2 H3) →
      tt ((wipe σ vs).set j (some x)) H' fun b H3 => if b = true then te ((wipe σ vs).set j (some x)) H3 N1 else N2 H3)
    (q : ∀ D H', Kn d n ((D, .lst (acc xs.length)) :: L) H' → Q (.ref D) H') : tLc (iList K te0) (gName j) tt te vs σ H Q := by
  refine src _ ⟨p, rfl, ⟨xs, k.seqL hp⟩, fun D hD => lc_list (xs := xs) (fun i H' => Kn d n ((D, .lst (acc i)) :: L) H') ?_ (fun i H' _ kn => kn.seqL (List.mem_cons_of_mem _ hp)) (fun i x H' hx kn => ⟨hw x, ?_⟩) (fun H' kn => q D H' kn)⟩
  · rw [a0]
    exact k.new hD
  · have hi : i < xs.length := (List.getElem?_eq_some_iff.mp hx).1
    refine turn i x H' D hx kn _ _ (fun y H4 kn4 e => ⟨acc i, kn4.at 0 rfl, szL' (by have := al i; omega), ?_⟩) (fun H3 kn3 e => ?_)
    · rw [e]
      exact kn4.put 0 rfl
    · rw [e]
      exact kn3
/-! ### a law's first statement: dice = [list(script[:63]), 0, 0, 0] -/
theorem cutInts (ns : List Int) (lo hi : Option Int) : ∃ ms : List Int, cutV (ns.map V.int) lo hi = ms.map V.int :=
  ⟨(ns.drop (HT.sIx ns.length 0 lo)).take (HT.sIx ns.length ns.length hi - HT.sIx ns.length 0 lo), by unfold cutV; rw [List.length_map, List.map_take, List.map_drop]⟩
theorem kStart {K : PySem.W.Frag} {a : Addr} {ns : List Int} {σ : L2.St} {H : Hp} {i : Nat} {y : TS} {nx bk ct : L2.St → Hp → Prop} {rt : VK} (hS : SqL K H a (ns.map V.int)) (h0 : σ[0]? = some (some (.ref a)))
    (q : ∀ d H', Kn d 0 [] H' → y (Ends.mk nx rt bk ct) (σ.set i (some (.ref d))) H') :
    tSeq (tAsg (tLst (tCons (tCB (rList2 K) (tCons (tSl (rSlL K) (tVar 0) tNoPart (tPart (tC (.int 63)))) tNil)) (tCons (tC (.int 0)) (tCons (tC (.int 0)) (tCons (tC (.int 0)) tNil))))) (gName i)) y (Ends.mk nx rt bk ct) σ H := by
  obtain ⟨ms, hm⟩ := cutInts ns none (some 63)
  refine ⟨.ref a, h0, 63, rfl, a, _, rfl, hS, fun p hp => ?_⟩
  refine ⟨p, _, rfl, .inl (.inl (.inl upd_same)), fun s hs => ⟨szL (by show 4 ≤ 100000; decide), fun d hd => ?_⟩⟩
  have l0 : Lg [] H := ⟨fun _ hq => (List.not_mem_nil hq).elim, List.nodup_nil⟩
  have l1 := (((l0.new (o := .lst (cutV (ns.map V.int) none (some 63))) hp).sub (List.nil_sublist _)).new (o := .lst (cutV (ns.map V.int) none (some 63))) hs).new (o := .lst [.ref s, .int 0, .int 0, .int 0]) hd
  rw [hm] at l1 ⊢
  exact q d _ ⟨s, 0, 0, 0, ms, l1, by omega, by omega⟩
/-! ### loops -/
section
variable {σ : L2.St} {H : Hp} {tr : TA} {tb : TS} {j : Nat} {te : TE} {K : PySem.W.Frag} {nx bk ct : L2.St → Hp → Prop} {rt : VK}
/-- for x in range(n): the word holds at the start, a turn keeps it, behind the last what follows holds -/
theorem kRng1 {n : Int} (hn : 0 ≤ n ∧ n ≤ 100000) (Pv : Nat → L2.St → Hp → Prop) (h0 : Pv 0 σ H)
    (hs : ∀ (i : Nat) σ' H', (i : Int) < n → Pv i σ' H' → tb (Ends.mk (Pv (i + 1)) rt nx (Pv (i + 1))) (σ'.set j (some (.int (i : Int)))) H') (hd : ∀ σ' H', Pv n.toNat σ' H' → nx σ' H')
    (h : ∀ R : List V → Hp → Prop, R [.int n] H → tr σ H R) : tFor (iRng1 tr) (gName j) tb (Ends.mk nx rt bk ct) σ H := by
  refine h _ ⟨n, rfl, by omega, by omega, for_range (lo := 0) (n := n.toNat) Pv h0 (fun i σ' H' hi p => ?_) hd⟩
  have e0 : (0 : Int) + (i : Int) = (i : Int) := Int.zero_add _
  show tb (Ends.mk (Pv (i + 1)) rt nx (Pv (i + 1))) (σ'.set j (some (.int ((0 : Int) + (i : Int))))) H'
  rw [e0]
  exact hs i σ' H' (by omega) p
theorem kForL {p : Addr} {xs : List V} (Pv : Nat → L2.St → Hp → Prop) (hq : SqL K H p xs) (h0 : Pv 0 σ H) (hl : ∀ i σ' H', i ≤ xs.length → Pv i σ' H' → SqL K H' p xs)
    (hs : ∀ i x σ' H', xs[i]? = some x → Pv i σ' H' → tb (Ends.mk (Pv (i + 1)) rt nx (Pv (i + 1))) (σ'.set j (some x)) H') (hd : ∀ σ' H', Pv xs.length σ' H' → nx σ' H')
    (h : ∀ R : VK, R (.ref p) H → te σ H R) : tFor (iList K te) (gName j) tb (Ends.mk nx rt bk ct) σ H :=
  h _ ⟨p, rfl, ⟨xs, hq⟩, for_list (xs := xs) Pv h0 hl (fun i x σ' H' hx p => hs i x σ' H' hx p) hd⟩
theorem kForT {p : Addr} {xs : List V} (Pv : Nat → L2.St → Hp → Prop) (hq : SqT K H p xs) (h0 : Pv 0 σ H) (hl : ∀ i σ' H', i ≤ xs.length → Pv i σ' H' → SqT K H' p xs)
    (hs : ∀ i x σ' H', xs[i]? = some x → Pv i σ' H' → tb (Ends.mk (Pv (i + 1)) rt nx (Pv (i + 1))) (σ'.set j (some x)) H') (hd : ∀ σ' H', Pv xs.length σ' H' → nx σ' H')
    (h : ∀ R : VK, R (.ref p) H → te σ H R) : tFor (iTup K te) (gName j) tb (Ends.mk nx rt bk ct) σ H :=
  h _ ⟨p, rfl, ⟨xs, hq⟩, for_tup (xs := xs) Pv h0 hl (fun i x σ' H' hx p => hs i x σ' H' hx p) hd⟩
end
end Rg

set_option Elab.async false
set_option linter.all false
set_option maxRecDepth 100000
set_option maxHeartbeats 4000000
namespace Rg
open PySem PySem.Spec PyProof.Rows L2
def topS (i : Nat) : Stmt := PySem.Challenge.pw_ringhue_k02_roads.main.body.getD i (.Pass ⟨0, 0, 0, 0⟩)
local macro_rules | `(tactic| walk_at "lg") => `(tactic| first
  | exact at_of 0 (by assumption) rfl | exact at_of 1 (by assumption) rfl | exact at_of 2 (by assumption) rfl | exact at_of 3 (by assumption) rfl | exact at_of 4 (by assumption) rfl | exact at_of 5 (by assumption) rfl
  | exact sqL_of 0 (by assumption) rfl | exact sqL_of 1 (by assumption) rfl | exact sqL_of 2 (by assumption) rfl | exact sqL_of 3 (by assumption) rfl | exact sqL_of 4 (by assumption) rfl | exact sqL_of 5 (by assumption) rfl
  | exact sqT_of 0 (by assumption) rfl | exact sqT_of 1 (by assumption) rfl | exact sqT_of 2 (by assumption) rfl | exact sqT_of 3 (by assumption) rfl | exact sqT_of 4 (by assumption) rfl | exact sqT_of 5 (by assumption) rfl
  | exact lat_of 0 (by assumption) rfl | exact lat_of 1 (by assumption) rfl | exact lat_of 2 (by assumption) rfl | exact lat_of 3 (by assumption) rfl
  | exact lsqL_of 0 (by assumption) rfl | exact lsqL_of 1 (by assumption) rfl | exact lsqL_of 2 (by assumption) rfl | exact lsqL_of 3 (by assumption) rfl
  | exact lsqT_of 0 (by assumption) rfl | exact lsqT_of 1 (by assumption) rfl | exact lsqT_of 2 (by assumption) rfl | exact lsqT_of 3 (by assumption) rfl)
local macro_rules | `(tactic| walk_at "at") => `(tactic| first | exact at0 | exact at1 | exact at2 | exact at3)
local macro_rules | `(tactic| walk_at "len") => `(tactic| first
  | decide
  | (simp only [List.length_map, List.length_cons, List.length_nil, List.length_append]; omega))
local macro_rules | `(tactic| walk_at "side") => `(tactic| first
  | assumption
  | (show (0 : Int) < _; omega)
  | (show CMul _ _; first | exact Or.inl (by constructor <;> omega) | exact Or.inr (by constructor <;> omega))
  | (show CPow _ _; exact ⟨by omega, by omega, by omega⟩)
  | (show CDivW _ _; exact ⟨by omega, by first | decide | assumption⟩))
local macro_rules | `(tactic| walk_at "s1") => `(tactic| first
  | ((with_reducible refine' kVar ?ka ?kb); (case ka => exact rfl))
  | (with_reducible refine kSeqA ?_)
  | (with_reducible refine kSeqD ?_)
  | (with_reducible refine kAsg ?_)
  | (with_reducible refine kC ?_)
  | (with_reducible refine kOp ?_)
  | (with_reducible refine kI0 ?_)
  | (with_reducible refine kCons ?_)
  | (with_reducible refine kNil ?_)
  | (with_reducible refine kCB ?_)
  | (with_reducible refine kCall ?_)
  | (with_reducible refine kIfS ?_)
  | (with_reducible refine kTest ?_)
  | (with_reducible refine kTB ?_)
  | ((with_reducible refine' kEq ?ka ?kb); (case ka => exact rfl))
  | ((with_reducible refine' kNe ?ka ?kb); (case ka => exact rfl))
  | (with_reducible refine kBl ?_)
  | (with_reducible refine kRet ?_)
  | (with_reducible refine kNext ?_)
  | (with_reducible refine kDrop ?_)
  | (with_reducible refine kAsgSub ?_)
  | (with_reducible refine kAnd ?_)
  | (with_reducible refine kOr ?_)
  | (with_reducible refine kNot ?_)
  | (with_reducible refine kAndV ?_)
  | (with_reducible refine kOrV ?_)
  | (with_reducible refine kNotV ?_)
  | (with_reducible refine kIf ?_)
  | (with_reducible refine kUn ?_)
  | (with_reducible refine kU ?_)
  | (with_reducible refine kTup ?_)
  | (with_reducible refine kLst ?_)
  | (with_reducible refine kBM ?_)
  | (with_reducible refine kBM0 ?_)
  | (with_reducible refine kSl ?_)
  | (with_reducible refine kNoPart ?_)
  | (with_reducible refine kPart ?_)
  | (with_reducible refine kInt ?_)
  | (with_reducible refine kMax ?_)
  | (with_reducible refine kMin ?_)
  | (with_reducible refine isiII ?_)
  | (with_reducible refine isiIB ?_)
  | (with_reducible refine isiBI ?_)
  | (with_reducible refine isiBB ?_)
  | ((with_reducible refine' isiLL ?ka ?kb); (case ka => walk_at "lg"))
  | ((with_reducible refine' isiTT ?ka ?kb); (case ka => walk_at "lg"))
  | (with_reducible refine kIntI ?_)
  | (with_reducible refine kIntB ?_)
  | ((with_reducible refine' kIxL ?ka ?kb ?kc); (case ka => walk_at "lg"); (case kb => walk_at "at"))
  | ((with_reducible refine' kLenL ?ka ?kb); (case ka => walk_at "lg"))
  | ((with_reducible refine' kLenT ?ka ?kb); (case ka => walk_at "lg"))
  | ((with_reducible refine' kI ?ka ?kb); (case ka => walk_at "side"))
  | ((with_reducible refine' kNewL ?ka ?kb ?kc); (case kb => assumption); (case ka => walk_at "len"); intro _ _ _)
  | ((with_reducible refine' kNewT ?ka ?kb ?kc); (case kb => assumption); (case ka => walk_at "len"); intro _ _ _)
  | ((with_reducible refine' kTyL ?ka ?kb); (case ka => walk_at "lg"))
  | ((with_reducible refine' kAppK ?ka 0 ?kb ?kc ?kd); (case ka => assumption); (case kb => exact rfl); (case kc => walk_at "len"); intro _ _)
  | ((with_reducible refine' kAppK ?ka 1 ?kb ?kc ?kd); (case ka => assumption); (case kb => exact rfl); (case kc => walk_at "len"); intro _ _)
  | ((with_reducible refine' kAppK ?ka 2 ?kb ?kc ?kd); (case ka => assumption); (case kb => exact rfl); (case kc => walk_at "len"); intro _ _)
  | ((with_reducible refine' kSlLK ?ka ?kb ?kc); (case ka => walk_at "lg"); (case kb => assumption); intro _ _ _)
  | ((with_reducible refine' kListK ?ka ?kb ?kc); (case ka => walk_at "lg"); (case kb => assumption); intro _ _ _)
  | ((with_reducible refine' kTupleK ?ka ?kb ?kc); (case ka => walk_at "lg"); (case kb => assumption); intro _ _ _)
  | ((with_reducible refine' kD1 ?ka ?kb); (case ka => assumption); intro _ _)
  | ((with_reducible refine' kD2 ?ka ?kb); (case ka => assumption); intro _ _)
  | ((with_reducible refine' kD3 ?ka ?kb); (case ka => assumption); intro _ _))
local macro_rules | `(tactic| walk_at "go") => `(tactic| repeat walk_at "s1")

/-! ### a throw -/
abbrev s_law_roll : Stmt := topS 3
theorem sc_law_roll : FnScope ["dice", "size", "at", "cell", "seed", "rest"] ["dice", "size"] (defScope s_law_roll) := ⟨rfl, rfl, rfl, by decide +kernel, rfl, by decide +kernel, by decide +kernel⟩
def spRoll : Sp := fun vs H Q _ => ∃ (d : Addr) (n : Nat) (L : Led) (size : Int), vs = [.ref d, .int size] ∧ 0 < size ∧ size.natAbs.log2 < 9000 ∧ n ≤ 2 ^ 60 ∧ Kn d n L H ∧
  ∀ (r : Int) (H' : Hp), 0 ≤ r → r < size → Kn d (n + 1) L H' → Q (.int r) H'
section
variable {P : Program} {w : World} {K : PySem.W.Frag} {mg : Str → Option Value} {base : Heap}
theorem ok_law_roll {f : Addr} {fd : FuncData} {k : Nat} (D : Df K mg "_law_roll" s_law_roll ["dice", "size"] f fd) (M : Bl mg) : FnOk P w K mg base CX0 (k + 1) f fd ["dice", "size"] spRoll := by
  refine D.F.ok sc_law_roll (fun vs H Q E h => ?_) (fun cdv A outer s H vs Q E hr h => ?_)
  · obtain ⟨d, n, L, size, rfl, _⟩ := h
    rfl
  obtain ⟨d, n, L, size, rfl, h0, h9, hn, kn, q⟩ := h
  refine ⟨_, (pss_cons (ps_if (pt_cmpR op_eq (pe_ix ix_list (pv 0) pe_int (fun _ _ => rfl)) pe_int (nomark _)) (pss_cons (ps_set (i := 2) sc_law_roll.nd rfl (Or.inl rfl) (pe_ix ix_list (pv 0) pe_int (fun _ _ => rfl)))
    (pss_cons (ps_asg (pe_op op_add (pv 2) pe_int) (pg_sub (pv 0) pe_int set_list))
    (pss_cons (ps_set (i := 3) sc_law_roll.nd rfl (Or.inl rfl) pe_int)
    (pss_cons (ps_if (pt_cmpR (op_neD hr.units) (pe_ix ix_list (pv 0) pe_int (fun _ _ => rfl)) (pe_lst pa_nil) (nomark _)) (pss_one (ps_set (i := 3) sc_law_roll.nd rfl (Or.inl rfl) (pe_ix ix_seq (pe_ix ix_list (pv 0) pe_int (fun _ _ => rfl)) (pe_op op_mod (pv 2) (pe_callB c_len (by rfl) M.len PySem.boot_len (pa_cons (pe_ix ix_list (pv 0) pe_int (fun _ _ => rfl)) pa_nil))) (fun _ _ => rfl)))) pss_nil)
    (pss_cons (ps_if (PW.pt (pw_or (pt_cmpR op_ge (pv 2) (pe_callB c_len (by rfl) M.len PySem.boot_len (pa_cons (pe_ix ix_list (pv 0) pe_int (fun _ _ => rfl)) pa_nil)) (nomark _)) (pw_or1 (pt_cmpR op_lt (pv 3) (pe_op op_pow pe_int pe_int) (nomark _))))) (pss_cons (ps_set (i := 4) sc_law_roll.nd rfl (Or.inl rfl) (pe_op op_mod (pe_op op_mul (pe_op op_add (pe_op op_mod (pv 3) pe_int) pe_int) (pe_op op_add (pe_op op_add (pe_op op_mul (pv 2) (pv 2)) (pe_op op_mul pe_int (pv 2))) pe_int)) pe_int))
     (pss_cons (ps_set (i := 4) sc_law_roll.nd rfl (Or.inl rfl) (pe_op op_mod (pe_op op_pow (pv 4) pe_int) pe_int))
     (pss_one (ps_ret (pe_op op_mod (pe_op op_fdivW (pe_op op_mod (pe_op op_add (pv 4) (pe_op op_mul pe_int (pv 2))) pe_int) pe_int) (pv 1)))))) pss_nil)
    (pss_cons (ps_asg pe_int (pg_sub (pv 0) pe_int set_list))
    (pss_one (ps_asg (pe_op op_sub (pv 3) (pe_op op_pow pe_int pe_int)) (pg_sub (pv 0) pe_int set_list))))))))) pss_nil)
   (pss_cons (ps_asg (pe_op op_sub (pe_ix ix_list (pv 0) pe_int (fun _ _ => rfl)) pe_int) (pg_sub (pv 0) pe_int set_list))
   (pss_cons (ps_set (i := 5) sc_law_roll.nd rfl (Or.inl rfl) (pe_ix ix_list (pv 0) pe_int (fun _ _ => rfl)))
   (pss_cons (ps_asg (pe_op op_fdivW (pv 5) (pv 1)) (pg_sub (pv 0) pe_int set_list))
   (pss_one (ps_ret (pe_op op_mod (pv 5) (pv 1)))))))), ?_⟩
  obtain ⟨sa, a, c, r, ns, lg, a0, an⟩ := kn
  have hmod : ∀ z : Int, 0 ≤ z % size ∧ z % size < size := fun z => ⟨Int.emod_nonneg z (by omega), Int.emod_lt_of_pos z h0⟩
  refine kJoin (fun σ' H' => ∃ (a' c' r' : Int) (x y z : Option V), σ' = [some (.ref d), some (.int size), x, y, z, none] ∧ Lg ((d, .lst [.ref sa, .int a', .int c', .int r']) :: (sa, .lst (ns.map V.int)) :: L) H' ∧ 0 ≤ a' ∧ a' ≤ n + 1) (fun σ' H' hW => ?_) fun N join => ?_
  · obtain ⟨a', c', r', x, y, z, rfl, lg', b0, bn⟩ := hW
    walk_at "go"
    exact q _ _ (hmod _).1 (hmod _).2 ⟨sa, a', _, _, ns, by assumption, b0, by omega⟩
  walk_at "go"
  refine iteI (fun hc => ?_) (fun hc => ?_)
  · walk_at "go"
    rename_i H1 lg1
    refine kJoin (fun σ' H' => ∃ (z : Int), σ' = [some (.ref d), some (.int size), some (.int a), some (.int z), none, none] ∧ Lg ((d, .lst [.ref sa, .int (a + 1), .int c, .int r]) :: (sa, .lst (ns.map V.int)) :: L) H') (fun σ' H' hW => ?_) fun N' join' => ?_
    · obtain ⟨z, rfl, lg'⟩ := hW
      refine kJoin (fun σ'' H'' => σ'' = [some (.ref d), some (.int size), some (.int a), some (.int z), none, none] ∧ H'' = H') (fun σ'' H'' hW => ?_) fun N'' join'' => ?_
      · obtain ⟨rfl, rfl⟩ := hW
        walk_at "go"
        refine join _ _ ⟨a + 1, _, _, _, _, _, rfl, by assumption, by omega, by omega⟩
      refine kIfS ?_
      walk_at "go"
      refine iteD (fun _ => iteT ?_) (fun _ => ?_)
      · walk_at "go"
        exact q _ _ (hmod _).1 (hmod _).2 ⟨sa, a + 1, c, r, ns, lg', by omega, by omega⟩
      · walk_at "go"
        refine iteD (fun _ => ?_) (fun _ => ?_)
        · walk_at "go"
          exact q _ _ (hmod _).1 (hmod _).2 ⟨sa, a + 1, c, r, ns, lg', by omega, by omega⟩
        · walk_at "go"
          exact join'' _ _ ⟨rfl, rfl⟩
    · refine kIfS ?_
      walk_at "go"
      refine ⟨Nat.zero_le _, fun p hp => ?_⟩
      have lg2 := (lg1.new (o := .lst []) hp).sub (List.sublist_cons_self _ _)
      refine kNeL (xs := ns) (ys := []) (by walk_at "lg") (.inl (.inl upd_same)) ?_
      refine kBl (iteN (fun hne => ?_) (fun he => ?_))
      · obtain ⟨z, hz⟩ := atMod hne a
        have hpos := lenPos hne
        walk_at "go"
        refine kIxSeqL (by walk_at "lg") hz ?_
        walk_at "go"
        exact join' _ _ ⟨z, rfl, lg2⟩
      · walk_at "go"
        exact join' _ _ ⟨0, rfl, lg2⟩
  · walk_at "go"
    exact join _ _ ⟨a, c, r, none, none, none, rfl, lg, a0, by omega⟩
end
theorem kRoll {d : Addr} {n : Nat} {L : Led} {H : Hp} {size : Int} {Q : VK} {E : XK} (k : Kn d n L H) (h0 : 0 < size) (h1 : size < 2 ^ 62) (hn : n ≤ 2 ^ 60) (q : ∀ (r : Int) (H' : Hp), 0 ≤ r → r < size → Kn d (n + 1) L H' → Q (.int r) H') : spRoll [.ref d, .int size] H Q E :=
  ⟨d, n, L, size, rfl, h0, log_small h0 h1, hn, k, q⟩

/-! ### a drawn pointing -/
abbrev s_law_pointing : Stmt := topS 4
theorem sc_law_pointing : FnScope ["dice", "most", "way", "n", "found", "k", "free", "forms", "one"] ["dice", "most"] (defScope s_law_pointing) := ⟨rfl, rfl, rfl, by decide +kernel, rfl, by decide +kernel, by decide +kernel⟩
/-- a pointing of at most m houses -/
structure PtOk (m : Int) (xs : List Int) : Prop where
  two : 2 ≤ xs.length
  most : (xs.length : Int) ≤ m
  goal : ∀ (k : Nat) (x : Int), xs[k]? = some x → 0 ≤ x ∧ x < xs.length ∧ x ≠ k
def spPt : Sp := fun vs H Q _ => ∃ (d : Addr) (n : Nat) (L : Led) (m : Int), vs = [.ref d, .int m] ∧ 2 ≤ m ∧ m ≤ 1000 ∧ n ≤ 2 ^ 59 ∧ Kn d n L H ∧
  ∀ (p : Addr) (xs : List Int) (H' : Hp), PtOk m xs → Kn d (n + 3000) ((p, .tup (xs.map V.int)) :: L) H' → Q (.ref p) H'
theorem nextOk {n k : Int} (h2 : 2 ≤ n) (k0 : 0 ≤ k) (kn : k < n) : 0 ≤ (k + 1) % n ∧ (k + 1) % n < n ∧ (k + 1) % n ≠ k := by
  refine ⟨Int.emod_nonneg _ (by omega), Int.emod_lt_of_pos _ (by omega), fun e => ?_⟩
  by_cases h : k + 1 < n
  · rw [Int.emod_eq_of_lt (by omega) h] at e
    omega
  · have h3 : k + 1 = n := by omega
    rw [h3, Int.emod_self] at e
    omega
section
variable {P : Program} {w : World} {K : PySem.W.Frag} {mg : Str → Option Value} {base : Heap}
theorem ok_law_pointing {f a_law_roll : Addr} {fd fd_law_roll : FuncData} {k : Nat} (D : Df K mg "_law_pointing" s_law_pointing ["dice", "most"] f fd)
    (D_law_roll : Df K mg "_law_roll" s_law_roll ["dice", "size"] a_law_roll fd_law_roll) (M : Bl mg) : FnOk P w K mg base CX0 (k + 1 + 1) f fd ["dice", "most"] spPt := by
  have G_law_roll := ok_law_roll (P := P) (w := w) (base := base) (k := 0) D_law_roll M
  refine D.F.ok sc_law_pointing (fun vs H Q E h => ?_) (fun cdv A outer s H vs Q E hr h => ?_)
  · obtain ⟨d, n, L, size, rfl, _⟩ := h
    rfl
  obtain ⟨d, n0, L, m, rfl, m2, m1000, hn, kn, q⟩ := h
  refine ⟨_, (pss_cons (ps_set (i := 2) sc_law_pointing.nd rfl (Or.inl rfl) (pe_call G_law_roll (hr.mono (by omega)) (by rfl) D_law_roll.g D_law_roll.F.kp D_law_roll.b .nil pass0 (pa_cons (pv 0) (pa_cons pe_int pa_nil))))
   (pss_cons (ps_set (i := 3) sc_law_pointing.nd rfl (Or.inl rfl) (pe_op op_add pe_int (pe_call G_law_roll (hr.mono (by omega)) (by rfl) D_law_roll.g D_law_roll.F.kp D_law_roll.b .nil pass0 (pa_cons (pv 0) (pa_cons (pe_op op_sub (pv 1) pe_int) pa_nil)))))
   (pss_cons (ps_set (i := 4) sc_law_pointing.nd rfl (Or.inl rfl) (pe_lst pa_nil))
   (pss_cons (ps_for PassesOwn.never rfl (pi_range1 (by rfl) M.range (pa_cons (pv 3) pa_nil)) (pg_name (i := 5) sc_law_pointing.nd rfl (Or.inl rfl))
    (pss_cons (ps_set (i := 6) sc_law_pointing.nd rfl (Or.inl rfl) (pe_op op_mod (pe_op op_add (pe_op op_add (pv 5) pe_int) (pe_call G_law_roll (hr.mono (by omega)) (by rfl) D_law_roll.g D_law_roll.F.kp D_law_roll.b .nil pass0 (pa_cons (pv 0) (pa_cons (pe_op op_sub (pv 3) pe_int) pa_nil)))) (pv 3)))
    (pss_cons (ps_set (i := 7) sc_law_pointing.nd rfl (Or.inl rfl) (pe_lst (pa_cons (pv 6) (pa_cons (pv 6) (pa_cons (pe_op op_mod (pe_op op_add (pv 5) pe_int) (pv 3)) (pa_cons (pe_callB (c_max rfl) (by rfl) M.max (by decide +kernel) (pa_cons (pe_op op_sub (pv 5) pe_int) (pa_cons (pe_callTy c_int (by rfl) M.int (by decide +kernel) (pa_cons (pe_cmpR op_eq (pv 5) pe_int (nomark _)) pa_nil)) pa_nil))) (pa_cons (pe_callTy c_int (by rfl) M.int (by decide +kernel) (pa_cons (pe_cmpR op_eq (pv 5) pe_int (nomark _)) pa_nil)) (pa_cons (pe_callB (c_min rfl) (by rfl) M.min (by decide +kernel) (pa_cons (pe_op op_xor (pv 5) pe_int) (pa_cons (pe_op op_sub (pv 3) pe_int) pa_nil))) (pa_cons (pv 6) pa_nil)))))))))
    (pss_cons (ps_set (i := 8) sc_law_pointing.nd rfl (Or.inl rfl) (pe_ix ix_list (pv 7) (pv 2) (fun _ _ => rfl)))
    (pss_cons (ps_if (PW.pt (pw_or (pt_cmpR op_eq (pv 8) (pv 5) (nomark _)) (pw_or1 (PW.pt (pw_and (pt_cmpR op_eq (pv 2) pe_int (nomark _)) (pw_and1 (pt_cmpR op_eq (pe_call G_law_roll (hr.mono (by omega)) (by rfl) D_law_roll.g D_law_roll.F.kp D_law_roll.b .nil pass0 (pa_cons (pv 0) (pa_cons pe_int pa_nil))) pe_int (nomark _)))))))) (pss_one (ps_set (i := 8) sc_law_pointing.nd rfl (Or.inl rfl) (pe_op op_mod (pe_op op_add (pv 5) pe_int) (pv 3)))) pss_nil)
    (pss_one (ps_expr (pe_bm PySem.F.plainAttrs_list PySem.F.slot_list_append PySem.F.type_list_append mt_append (pv 4) (pa_cons (pv 8) pa_nil)))))))))
   (pss_one (ps_ret (pe_callTy c_tuple (by rfl) M.tuple (by decide +kernel) (pa_cons (pv 4) pa_nil)))))))), ?_⟩
  walk_at "go"
  refine kRoll kn (by omega) (by omega) (by omega) fun way H1 w0 w1 kn1 => ?_
  walk_at "go"
  refine kRoll kn1 (by omega) (by omega) (by omega) fun n' H2 n0' n1' kn2 => ?_
  walk_at "go"
  rename_i pf H3 kn3
  refine kSeq (kRng1 (n := 2 + n') (by omega) (fun i σ' H' => ∃ (xs : List Int) (x5 x6 x7 x8 : Option V), σ' = [some (.ref d), some (.int m), some (.int way), some (.int (2 + n')), some (.ref pf), x5, x6, x7, x8] ∧ xs.length = i ∧
      (∀ (j : Nat) (x : Int), xs[j]? = some x → 0 ≤ x ∧ x < 2 + n' ∧ x ≠ j) ∧ Kn d (n0 + 2 + 2 * i) ((pf, .lst (xs.map V.int)) :: L) H')
    ⟨[], none, none, none, none, rfl, rfl, fun j x h => by simp at h, kn3⟩ (fun i σ' H' hi hW => ?_) (fun σ' H' hW => ?_) fun R hR => by walk_at "go"; exact hR)
  · obtain ⟨xs, x5, x6, x7, x8, rfl, hl, hx, kn4⟩ := hW
    refine kSeqA ?_
    walk_at "go"
    refine kRoll kn4 (by omega) (by omega) (by omega) fun r H5 r0 r1 kn5 => ?_
    walk_at "go"
    rename_i pl H6 kn6
    have hfr : 0 ≤ ((i : Int) + 1 + r) % (2 + n') ∧ ((i : Int) + 1 + r) % (2 + n') < 2 + n' := ⟨Int.emod_nonneg _ (by omega), Int.emod_lt_of_pos _ (by omega)⟩
    have hnx := nextOk (n := 2 + n') (k := i) (by omega) (by omega) hi
    have hbx := Bits.bitXor_nonneg (x := i) (y := 1) (by omega) (by omega)
    obtain ⟨e, he, hm⟩ := atMem (es := [((i : Int) + 1 + r) % (2 + n'), ((i : Int) + 1 + r) % (2 + n'), ((i : Int) + 1) % (2 + n'),
      (if (if decide (V.int (i : Int) = V.int 0) = true then 1 else 0) > (i : Int) - 1 then if decide (V.int (i : Int) = V.int 0) = true then 1 else 0 else (i : Int) - 1),
      (if decide (V.int (i : Int) = V.int 0) = true then 1 else 0), (if 2 + n' - 1 < Builtin.bitXor (i : Int) 1 then 2 + n' - 1 else Builtin.bitXor (i : Int) 1), ((i : Int) + 1 + r) % (2 + n')]) w0 (by simpa using w1)
    have hb : 0 ≤ e ∧ e < 2 + n' := by
      simp only [List.mem_cons, List.not_mem_nil, or_false] at hm
      rcases hm with rfl | rfl | rfl | rfl | rfl | rfl | rfl
      · exact hfr
      · exact hfr
      · exact ⟨hnx.1, hnx.2.1⟩
      · by_cases z : V.int (i : Int) = V.int 0
        · have z' := V.int.inj z
          simp only [z, decide_true, if_true]
          split <;> omega
        · simp only [z, decide_false, if_false, Bool.false_eq_true]
          split <;> omega
      · split <;> omega
      · split <;> omega
      · exact hfr
    refine kIxL (by walk_at "lg") he ?_
    refine kJoin (fun σ' H' => ∃ (x6 x7 : Option V) (y : Int), σ' = [some (.ref d), some (.int m), some (.int way), some (.int (2 + n')), some (.ref pf), some (.int i), x6, x7, some (.int y)] ∧
      (0 ≤ y ∧ y < 2 + n' ∧ y ≠ i) ∧ Kn d (n0 + 2 + 2 * i + 2) ((pf, .lst (xs.map V.int)) :: L) H') (fun σ' H' hW => ?_) fun N join => ?_
    · obtain ⟨y6, y7, y, rfl, hy, kn7⟩ := hW
      walk_at "go"
      rename_i H8 kn8
      refine ⟨xs ++ [y], _, _, _, _, rfl, by simp [hl], fun j x h => ?_, ?_⟩
      · by_cases hj : j < xs.length
        · rw [List.getElem?_append_left hj] at h
          exact hx j x h
        · rw [List.getElem?_append_right (by omega)] at h
          have hj0 : j - xs.length = 0 := by
            cases hz : j - xs.length with
            | zero => rfl
            | succ z => rw [hz] at h; simp at h
          rw [hj0] at h
          have hyx : y = x := by simpa using h
          have hj1 : j = i := by omega
          subst hj1
          subst hyx
          exact hy
      · rw [List.map_append]
        exact kn8.more (by omega)
    · refine kIfS ?_
      walk_at "go"
      refine iteI (fun h1 => iteT ?_) (fun h1 => ?_)
      · walk_at "go"
        exact join _ _ ⟨_, _, _, rfl, hnx, kn6.tail.more (by omega)⟩
      · walk_at "go"
        refine iteI (fun h2 => ?_) (fun h2 => ?_)
        · walk_at "go"
          refine kRoll kn6.tail (by omega) (by omega) (by omega) fun r2 H8 r20 r21 kn8 => ?_
          walk_at "go"
          refine iteI (fun h3 => ?_) (fun h3 => ?_)
          · walk_at "go"
            exact join _ _ ⟨_, _, _, rfl, hnx, kn8.more (by omega)⟩
          · walk_at "go"
            exact join _ _ ⟨_, _, _, rfl, ⟨hb.1, hb.2, h1⟩, kn8.more (by omega)⟩
        · refine iteF ?_
          walk_at "go"
          exact join _ _ ⟨_, _, _, rfl, ⟨hb.1, hb.2, h1⟩, kn6.tail.more (by omega)⟩
  · obtain ⟨xs, x5, x6, x7, x8, rfl, hl, hx, kn4⟩ := hW
    walk_at "go"
    rename_i p H5 kn5
    refine q p xs H5 ⟨by omega, by omega, fun j x h => ?_⟩ ?_
    · have := hx j x h
      omega
    · exact (kn5.sub ((List.sublist_cons_self _ _).cons₂ _)).more (by omega)
end

/-! ### roads -/
def orb (xs : List Int) (h : Int) : Nat → Int
  | 0 => h
  | k + 1 => xs.getD (orb xs h k).toNat 0
def rd (xs : List Int) (h : Int) (k : Nat) : List Int := (List.range (k + 1)).map (orb xs h)
theorem rd_succ (xs : List Int) (h : Int) (k : Nat) : rd xs h (k + 1) = rd xs h k ++ [orb xs h (k + 1)] := by
  unfold rd
  rw [List.range_succ, List.map_append]
  rfl
theorem rd_len (xs : List Int) (h : Int) (k : Nat) : (rd xs h k).length = k + 1 := by
  unfold rd
  rw [List.length_map, List.length_range]
theorem rd_last (xs : List Int) (h : Int) (k : Nat) : ∃ ys, rd xs h k = ys ++ [orb xs h k] := ⟨(List.range k).map (orb xs h), by
  unfold rd
  rw [List.range_succ, List.map_append]
  rfl⟩
/-- all houses' nexts are houses -/
def Inn (xs : List Int) : Prop := ∀ (j : Nat) (x : Int), xs[j]? = some x → 0 ≤ x ∧ x < xs.length
theorem PtOk.inn {m : Int} {xs : List Int} (h : PtOk m xs) : Inn xs := fun j x e => ⟨(h.goal j x e).1, (h.goal j x e).2.1⟩
theorem getD_some {xs : List Int} {i : Int} (h0 : 0 ≤ i) (h1 : i < xs.length) : xs[i.toNat]? = some (xs.getD i.toNat 0) := by
  have hl : i.toNat < xs.length := by omega
  rw [List.getD_eq_getElem?_getD, List.getElem?_eq_getElem hl]
  rfl
theorem orb_in {xs : List Int} {h : Int} (hi : Inn xs) (h0 : 0 ≤ h) (h1 : h < xs.length) : ∀ k, 0 ≤ orb xs h k ∧ orb xs h k < xs.length
  | 0 => ⟨h0, h1⟩
  | k + 1 => hi _ _ (getD_some (orb_in hi h0 h1 k).1 (orb_in hi h0 h1 k).2)
theorem atT {xs : List Int} {i : Int} (h0 : 0 ≤ i) (h1 : i < xs.length) : atI (xs.map V.int) i = some (.int (xs.getD i.toNat 0)) := by
  obtain ⟨j, rfl⟩ : ∃ j : Nat, i = (j : Int) := ⟨i.toNat, by omega⟩
  have e := getD_some h0 h1
  exact atI_nat (by rw [List.getElem?_map, show xs[j]? = some (xs.getD (j : Int).toNat 0) from e]; rfl)
def spRoad : Sp := fun vs H Q _ => ∃ (d : Addr) (n : Nat) (L : Led) (p : Addr) (xs : List Int) (h k : Int), vs = [.ref p, .int h, .int k] ∧ Kn d n L H ∧ (p, .tup (xs.map V.int)) ∈ L ∧ Inn xs ∧ 0 ≤ h ∧ h < xs.length ∧ 0 ≤ k ∧ k ≤ 1000 ∧
  ∀ (l : Addr) (H' : Hp), Kn d n ((l, .lst ((rd xs h k.toNat).map V.int)) :: L) H' → Q (.ref l) H'
theorem kRoad {d : Addr} {n : Nat} {L : Led} {H : Hp} {p : Addr} {xs : List Int} {h k : Int} {Q : VK} {E : XK} (kn : Kn d n L H) (hp : (p, .tup (xs.map V.int)) ∈ L) (hi : Inn xs) (h0 : 0 ≤ h) (h1 : h < xs.length) (k0 : 0 ≤ k) (k1 : k ≤ 1000)
    (q : ∀ (l : Addr) (H' : Hp), Kn d n ((l, .lst ((rd xs h k.toNat).map V.int)) :: L) H' → Q (.ref l) H') : spRoad [.ref p, .int h, .int k] H Q E := ⟨d, n, L, p, xs, h, k, rfl, kn, hp, hi, h0, h1, k0, k1, q⟩

abbrev s_road : Stmt := topS 1
theorem sc_road : FnScope ["pointing", "house", "k", "told", "_"] ["pointing", "house", "k"] (defScope s_road) := ⟨rfl, rfl, rfl, by decide +kernel, rfl, by decide +kernel, by decide +kernel⟩
theorem ok_road {P : Program} {w : World} {K : PySem.W.Frag} {mg : Str → Option Value} {base : Heap} {f : Addr} {fd : FuncData} {k : Nat} (D : Df K mg "road" s_road ["pointing", "house", "k"] f fd) (M : Bl mg) : FnOk P w K mg base CX0 (k + 1) f fd ["pointing", "house", "k"] spRoad := by
  refine D.F.ok sc_road (fun vs H Q E h => ?_) (fun cdv A outer s H vs Q E hr h => ?_)
  · obtain ⟨d, n, L, p, xs, h, k, rfl, _⟩ := h
    rfl
  obtain ⟨d, n, L, p, xs, h, k, rfl, kn, hp, hi, h0, h1, k0, k1, q⟩ := h
  refine ⟨_, (pss_cons (ps_set (i := 3) sc_road.nd rfl (Or.inl rfl) (pe_lst (pa_cons (pv 1) pa_nil)))
   (pss_cons (ps_for PassesOwn.never rfl (pi_range1 (by rfl) M.range (pa_cons (pv 2) pa_nil)) (pg_name (i := 4) sc_road.nd rfl (Or.inl rfl))
    (pss_one (ps_expr (pe_bm PySem.F.plainAttrs_list PySem.F.slot_list_append PySem.F.type_list_append mt_append (pv 3) (pa_cons (pe_ix ix_tup (pv 0) (pe_ix ix_list (pv 3) (pe_un un_neg pe_int) (fun _ _ => rfl)) (fun _ _ => rfl)) pa_nil)))))
   (pss_one (ps_ret (pv 3))))), ?_⟩
  walk_at "go"
  rename_i l H1 kn1
  refine kSeq (kRng1 (n := k) (by omega) (fun i σ' H' => ∃ (x4 : Option V), σ' = [some (.ref p), some (.int h), some (.int k), some (.ref l), x4] ∧ Kn d n ((l, .lst ((rd xs h i).map V.int)) :: L) H') ⟨none, rfl, kn1⟩ (fun i σ' H' hi' hW => ?_) (fun σ' H' hW => ?_) fun R hR => by walk_at "go"; exact hR)
  · obtain ⟨x4, rfl, kn2⟩ := hW
    walk_at "go"
    obtain ⟨ys, hy⟩ := rd_last xs h i
    have ho := orb_in hi h0 h1 i
    refine kIxL (xs := (rd xs h i).map V.int) (by walk_at "lg") (by rw [hy]; exact atLast ys _) ?_
    refine kIxT (kn2.seqT (List.mem_cons_of_mem _ hp)) (atT ho.1 ho.2) ?_
    walk_at "go"
    refine kAppK kn2 0 rfl (by rw [List.length_map, rd_len]; omega) fun H3 kn3 => ⟨_, rfl, ?_⟩
    rw [rd_succ, List.map_append]
    exact kn3
  · obtain ⟨x4, rfl, kn2⟩ := hW
    walk_at "go"
    exact q l H' kn2

abbrev s_law_road : Stmt := topS 6
theorem sc_law_road : FnScope ["pointing", "house", "k", "found", "turn"] ["pointing", "house", "k"] (defScope s_law_road) := ⟨rfl, rfl, rfl, by decide +kernel, rfl, by decide +kernel, by decide +kernel⟩
theorem ok_law_road {P : Program} {w : World} {K : PySem.W.Frag} {mg : Str → Option Value} {base : Heap} {f : Addr} {fd : FuncData} {k : Nat} (D : Df K mg "_law_road" s_law_road ["pointing", "house", "k"] f fd) (M : Bl mg) : FnOk P w K mg base CX0 (k + 1) f fd ["pointing", "house", "k"] spRoad := by
  refine D.F.ok sc_law_road (fun vs H Q E h => ?_) (fun cdv A outer s H vs Q E hr h => ?_)
  · obtain ⟨d, n, L, p, xs, h, k, rfl, _⟩ := h
    rfl
  obtain ⟨d, n, L, p, xs, h, k, rfl, kn, hp, hi, h0, h1, k0, k1, q⟩ := h
  refine ⟨_, (pss_cons (ps_set (i := 3) sc_law_road.nd rfl (Or.inl rfl) (pe_lst (pa_cons (pv 1) pa_nil)))
   (pss_cons (ps_for PassesOwn.never rfl (pi_range1 (by rfl) M.range (pa_cons (pv 2) pa_nil)) (pg_name (i := 4) sc_law_road.nd rfl (Or.inl rfl))
    (pss_one (ps_expr (pe_bm PySem.F.plainAttrs_list PySem.F.slot_list_append PySem.F.type_list_append mt_append (pv 3) (pa_cons (pe_ix ix_tup (pv 0) (pe_ix ix_list (pv 3) (pe_un un_neg pe_int) (fun _ _ => rfl)) (fun _ _ => rfl)) pa_nil)))))
   (pss_one (ps_ret (pv 3))))), ?_⟩
  walk_at "go"
  rename_i l H1 kn1
  refine kSeq (kRng1 (n := k) (by omega) (fun i σ' H' => ∃ (x4 : Option V), σ' = [some (.ref p), some (.int h), some (.int k), some (.ref l), x4] ∧ Kn d n ((l, .lst ((rd xs h i).map V.int)) :: L) H') ⟨none, rfl, kn1⟩ (fun i σ' H' hi' hW => ?_) (fun σ' H' hW => ?_) fun R hR => by walk_at "go"; exact hR)
  · obtain ⟨x4, rfl, kn2⟩ := hW
    walk_at "go"
    obtain ⟨ys, hy⟩ := rd_last xs h i
    have ho := orb_in hi h0 h1 i
    refine kIxL (xs := (rd xs h i).map V.int) (by walk_at "lg") (by rw [hy]; exact atLast ys _) ?_
    refine kIxT (kn2.seqT (List.mem_cons_of_mem _ hp)) (atT ho.1 ho.2) ?_
    walk_at "go"
    refine kAppK kn2 0 rfl (by rw [List.length_map, rd_len]; omega) fun H3 kn3 => ⟨_, rfl, ?_⟩
    rw [rd_succ, List.map_append]
    exact kn3
  · obtain ⟨x4, rfl, kn2⟩ := hW
    walk_at "go"
    exact q l H' kn2

/-! ### a whole number is one -/
abbrev s_law_whole : Stmt := topS 5
theorem sc_law_whole : FnScope ["thing"] ["thing"] (defScope s_law_whole) := ⟨rfl, rfl, rfl, by decide +kernel, rfl, by decide +kernel, by decide +kernel⟩
def spWhole : Sp := fun vs H Q _ => ∃ z : Int, vs = [.int z] ∧ Q (.bl true) H
theorem ok_law_whole {P : Program} {w : World} {K : PySem.W.Frag} {mg : Str → Option Value} {base : Heap} {f : Addr} {fd : FuncData} {k : Nat} (D : Df K mg "_law_whole" s_law_whole ["thing"] f fd) (M : Bl mg) : FnOk P w K mg base CX0 (k + 1) f fd ["thing"] spWhole := by
  refine D.F.ok sc_law_whole (fun vs H Q E h => ?_) (fun cdv A outer s H vs Q E hr h => ?_)
  · obtain ⟨z, rfl, _⟩ := h
    rfl
  obtain ⟨z, rfl, q⟩ := h
  refine ⟨_, (pss_one (ps_ret (pe_and (pe_callB call_isi (by rfl) M.isinstance (by decide +kernel) (pa_cons (pv 0) (pa_cons (pe_bltn (v := .ty "int") (u := .type "int") (by rfl) M.int (by decide +kernel) rfl) pa_nil))) (pe_one (pe_not (pe_callB call_isi (by rfl) M.isinstance (by decide +kernel) (pa_cons (pv 0) (pa_cons (pe_bltn (v := .ty "bool") (u := .type "bool") (by rfl) M.bool (by decide +kernel) rfl) pa_nil)))))))), ?_⟩
  walk_at "go"
  refine iteT ?_
  walk_at "go"
  exact q

abbrev s_law : Stmt := topS 7
theorem sc_law : FnScope ["script", "dice", "turn", "pointing", "k", "house", "far", "due", "again", "told", "one"] ["script"] (defScope s_law) := ⟨rfl, rfl, rfl, by decide +kernel, rfl, by decide +kernel, by decide +kernel⟩
def spLaw (K : PySem.W.Frag) : Sp := fun vs H Q _ => ∃ (a : Addr) (ns : List Int), vs = [.ref a] ∧ SqL K H a (ns.map V.int) ∧ ns.length ≤ 63 ∧ ∀ H', Q (.bl true) H'
theorem ok_law {P : Program} {w : World} {K : PySem.W.Frag} {mg : Str → Option Value} {base : Heap} {f a_road a_law_roll a_law_pointing a_law_whole a_law_road : Addr} {fd fd_road fd_law_roll fd_law_pointing fd_law_whole fd_law_road : FuncData}
    (D_road : Df K mg "road" s_road ["pointing", "house", "k"] a_road fd_road) (D_law_roll : Df K mg "_law_roll" s_law_roll ["dice", "size"] a_law_roll fd_law_roll) (D_law_pointing : Df K mg "_law_pointing" s_law_pointing ["dice", "most"] a_law_pointing fd_law_pointing)
    (D_law_whole : Df K mg "_law_whole" s_law_whole ["thing"] a_law_whole fd_law_whole) (D_law_road : Df K mg "_law_road" s_law_road ["pointing", "house", "k"] a_law_road fd_law_road) (D : Df K mg "law" s_law ["script"] f fd) (M : Bl mg) : FnOk P w K mg base CX0 4 f fd ["script"] (spLaw K) := by
  have G_road := ok_road (P := P) (w := w) (base := base) (k := 0) D_road M
  have G_law_roll := ok_law_roll (P := P) (w := w) (base := base) (k := 0) D_law_roll M
  have G_law_pointing := ok_law_pointing (P := P) (w := w) (base := base) (k := 0) D_law_pointing D_law_roll M
  have G_law_whole := ok_law_whole (P := P) (w := w) (base := base) (k := 0) D_law_whole M
  have G_law_road := ok_law_road (P := P) (w := w) (base := base) (k := 0) D_law_road M
  refine D.F.ok sc_law (fun vs H Q E h => ?_) (fun cdv A outer s H vs Q E hr h => ?_)
  · obtain ⟨a, ns, rfl, _⟩ := h
    rfl
  obtain ⟨a, ns, rfl, hS, hl, q⟩ := h
  refine ⟨_, (pss_cons (ps_set (i := 1) sc_law.nd rfl (Or.inl rfl) (pe_lst (pa_cons (pe_callTy c_list (by rfl) M.list (by decide +kernel) (pa_cons (pe_slice sl_list (pv 0) po_none (po_some pe_int)) pa_nil)) (pa_cons pe_int (pa_cons pe_int (pa_cons pe_int pa_nil))))))
   (pss_cons (ps_for PassesOwn.never rfl (pi_range1 (by rfl) M.range (pa_cons pe_int pa_nil)) (pg_name (i := 2) sc_law.nd rfl (Or.inl rfl))
    (pss_cons (ps_set (i := 3) sc_law.nd rfl (Or.inl rfl) (pe_call G_law_pointing (hr.mono (by omega)) (by rfl) D_law_pointing.g D_law_pointing.F.kp D_law_pointing.b .nil pass0 (pa_cons (pv 1) (pa_cons (pe_ix ix_list (pe_lst (pa_cons pe_int (pa_cons pe_int (pa_cons pe_int pa_nil)))) (pe_call G_law_roll (hr.mono (by omega)) (by rfl) D_law_roll.g D_law_roll.F.kp D_law_roll.b .nil pass0 (pa_cons (pv 1) (pa_cons pe_int pa_nil))) (fun _ _ => rfl)) pa_nil))))
    (pss_one (ps_for PassesOwn.never rfl (pi_range1 (by rfl) M.range (pa_cons pe_int pa_nil)) (pg_name (i := 4) sc_law.nd rfl (Or.inl rfl))
     (pss_cons (ps_set (i := 5) sc_law.nd rfl (Or.inl rfl) (pe_call G_law_roll (hr.mono (by omega)) (by rfl) D_law_roll.g D_law_roll.F.kp D_law_roll.b .nil pass0 (pa_cons (pv 1) (pa_cons (pe_callB c_len (by rfl) M.len PySem.boot_len (pa_cons (pv 3) pa_nil)) pa_nil))))
     (pss_cons (ps_set (i := 6) sc_law.nd rfl (Or.inl rfl) (pe_call G_law_roll (hr.mono (by omega)) (by rfl) D_law_roll.g D_law_roll.F.kp D_law_roll.b .nil pass0 (pa_cons (pv 1) (pa_cons (pe_ix ix_list (pe_lst (pa_cons pe_int (pa_cons pe_int pa_nil))) (pe_call G_law_roll (hr.mono (by omega)) (by rfl) D_law_roll.g D_law_roll.F.kp D_law_roll.b .nil pass0 (pa_cons (pv 1) (pa_cons pe_int pa_nil))) (fun _ _ => rfl)) pa_nil))))
     (pss_cons (ps_set (i := 7) sc_law.nd rfl (Or.inl rfl) (pe_call G_law_road (hr.mono (by omega)) (by rfl) D_law_road.g D_law_road.F.kp D_law_road.b .nil pass0 (pa_cons (pv 3) (pa_cons (pv 5) (pa_cons (pv 6) pa_nil)))))
     (pss_one (ps_for PassesOwn.never rfl (pi_range1 (by rfl) M.range (pa_cons pe_int pa_nil)) (pg_name (i := 8) sc_law.nd rfl (Or.inl rfl))
      (pss_cons (ps_set (i := 9) sc_law.nd rfl (Or.inl rfl) (pe_call G_road (hr.mono (by omega)) (by rfl) D_road.g D_road.F.kp D_road.b .nil pass0 (pa_cons (pv 3) (pa_cons (pv 5) (pa_cons (pv 6) pa_nil)))))
      (pss_cons (ps_if (PW.pt (pw_or (pt_not (pt_val (pe_callB call_isi (by rfl) M.isinstance (by decide +kernel) (pa_cons (pv 9) (pa_cons (pe_bltn (v := .ty "list") (u := .type "list") (by rfl) M.list (by decide +kernel) rfl) pa_nil))))) (pw_or (pt_cmpR (op_neD hr.units) (pv 9) (pv 7) (nomark _)) (pw_or1 (pt_cmpR (op_neD hr.units) (pe_lc (own := [("one", 10)]) (g := gName 10) (by rfl) sc_law.nd (pi_list (pv 9)) (blkOk_by (own := [("one", 10)]) (N := ["script", "dice", "turn", "pointing", "k", "house", "far", "due", "again", "told", "one"]) (sc := defScope s_law) (by decide +kernel)) (fun _ _ _ _ _ => (pg_name (i := 10) sc_law.nd rfl (Or.inl rfl))) (fun _ _ _ _ _ => (pts_one (pt_not (pt_val (pe_call G_law_whole (hr.mono (by omega)) (by rfl) D_law_whole.g D_law_whole.F.kp D_law_whole.b .nil pass0 (pa_cons (pv 10) pa_nil)))))) (fun _ _ _ _ _ => (pv 10))) (pe_lst pa_nil) (nomark _)))))) (pss_one (ps_ret pe_bl)) pss_nil)
      (pss_one (ps_expr (pe_bm PySem.F.plainAttrs_list PySem.F.slot_list_append PySem.F.type_list_append mt_append (pv 9) (pa_cons (pv 5) pa_nil)))))))))))))))
   (pss_one (ps_ret pe_bl)))), ?_⟩
  refine kStart hS rfl fun d H1 kn => ?_
  refine kSeq (kRng1 (n := 3) (by omega) (fun i σ' H' => ∃ (x2 x3 x4 x5 x6 x7 x8 x9 x10 : Option V), σ' = [some (.ref a), some (.ref d), x2, x3, x4, x5, x6, x7, x8, x9, x10] ∧ Kn d (10000 * i) [] H') ⟨_, _, _, _, _, _, _, _, _, rfl, kn⟩ (fun i σ' H' hi hW => ?_) (fun σ' H' hW => ?_) fun R hR => by walk_at "go"; exact hR)
  · obtain ⟨x2, x3, x4, x5, x6, x7, x8, x9, x10, rfl, kn1⟩ := hW
    walk_at "go"
    rename_i pl H2 kn2
    refine kRoll kn2 (by omega) (by omega) (by omega) fun r H3 r0 r1 kn3 => ?_
    obtain ⟨mo, he, hm⟩ := atMem (es := [5, 20, 60]) r0 (by simpa using r1)
    have hmo : 2 ≤ mo ∧ mo ≤ 60 := by
      simp only [List.mem_cons, List.not_mem_nil, or_false] at hm
      rcases hm with rfl | rfl | rfl <;> omega
    refine kIxL (by walk_at "lg") he ?_
    walk_at "go"
    refine ⟨d, _, _, mo, rfl, hmo.1, by omega, by omega, kn3, fun p xs H4 hp kn4 => ?_⟩
    have kn5 := (kn4.sub (((List.Sublist.refl []).cons _).cons₂ _)).more (show _ ≤ 10000 * i + 3001 by omega)
    refine kRng1 (n := 10) (by omega) (fun j σ' H' => ∃ (x2 x4 x5 x6 x7 x8 x9 x10 : Option V), σ' = [some (.ref a), some (.ref d), x2, some (.ref p), x4, x5, x6, x7, x8, x9, x10] ∧ Kn d (10000 * i + 3001 + 10 * j) [(p, .tup (xs.map V.int))] H') ⟨_, _, _, _, _, _, _, _, rfl, kn5⟩ (fun j σ' H' hj hW => ?_) (fun σ' H' hW => ?_) fun R hR => by walk_at "go"; exact hR
    · obtain ⟨y2, y4, y5, y6, y7, y8, y9, y10, rfl, kn6⟩ := hW
      have hx2 := hp.two
      have hxm := hp.most
      walk_at "go"
      refine kRoll kn6 (by rw [List.length_map]; omega) (by rw [List.length_map]; omega) (by omega) fun hs H7 hs0 hs1 kn7 => ?_
      rw [List.length_map] at hs1
      walk_at "go"
      rename_i pq H8 kn8
      refine kRoll kn8 (by omega) (by omega) (by omega) fun r2 H9 r20 r21 kn9 => ?_
      obtain ⟨fr, he2, hm2⟩ := atMem (es := [4, 101]) r20 (by simpa using r21)
      have hfr : 0 < fr ∧ fr ≤ 101 := by
        simp only [List.mem_cons, List.not_mem_nil, or_false] at hm2
        rcases hm2 with rfl | rfl <;> omega
      refine kIxL (by walk_at "lg") he2 ?_
      walk_at "go"
      refine kRoll kn9 (by omega) (by omega) (by omega) fun far H10 f0 f1 kn10 => ?_
      walk_at "go"
      refine kRoad kn10.tail (List.mem_of_getElem? (i := 0) rfl) hp.inn hs0 hs1 f0 (by omega) fun due H11 kn11 => ?_
      have kn12 := kn11.more (show _ ≤ 10000 * i + 3001 + 10 * j + 10 by omega)
      refine kRng1 (n := 2) (by omega) (fun m σ' H' => ∃ (x2 x4 x8 x9 x10 : Option V), σ' = [some (.ref a), some (.ref d), x2, some (.ref p), x4, some (.int hs), some (.int far), some (.ref due), x8, x9, x10] ∧
        Kn d (10000 * i + 3001 + 10 * j + 10) [(due, .lst ((rd xs hs far.toNat).map V.int)), (p, .tup (xs.map V.int))] H') ⟨_, _, _, _, _, rfl, kn12⟩ (fun m σ' H' hj hW => ?_) (fun σ' H' hW => ?_) fun R hR => by walk_at "go"; exact hR
      · obtain ⟨z2, z4, z8, z9, z10, rfl, kn13⟩ := hW
        walk_at "go"
        refine kRoad kn13 (List.mem_of_getElem? (i := 1) rfl) hp.inn hs0 hs1 f0 (by omega) fun told H14 kn14 => ?_
        refine kSeq (kIfS ?_)
        walk_at "go"
        refine iteF ?_
        walk_at "go"
        refine kNeL (by walk_at "lg") (by walk_at "lg") ?_
        refine kBl (iteN (fun hne => absurd rfl hne) fun _ => ?_)
        walk_at "go"
        refine kLcL kn14 (List.mem_of_getElem? (i := 0) rfl) (fun R hR => by walk_at "go"; exact hR) (by rw [List.length_map, rd_len]; omega) (fun _ => []) rfl (fun _ => Nat.zero_le _) (fun _ => rfl) (fun c x H15 D hx kn15 N1 N2 _ h2 => ?_) fun D H15 kn15 => ?_
        · obtain ⟨zx, rfl⟩ : ∃ zx, x = V.int zx := by
            rw [List.getElem?_map] at hx
            cases hz : (rd xs hs far.toNat)[c]? with
            | none => rw [hz] at hx; cases hx
            | some zx => rw [hz] at hx; exact ⟨zx, (Option.some.inj hx).symm⟩
          walk_at "go"
          refine ⟨zx, rfl, ?_⟩
          walk_at "go"
          refine iteF ?_
          exact h2 _ kn15 rfl
        · walk_at "go"
          rename_i emp H16 kn16
          refine kNeL (xs := []) (ys := []) (by walk_at "lg") (by walk_at "lg") ?_
          refine kBl (iteN (fun hne => absurd rfl hne) fun _ => ?_)
          walk_at "go"
          refine kAppK kn16 2 rfl (by rw [List.length_map, rd_len]; omega) fun H17 kn17 => ?_
          exact ⟨_, _, _, _, _, rfl, kn17.drop 3⟩
      · obtain ⟨z2, z4, z8, z9, z10, rfl, kn13⟩ := hW
        exact ⟨_, _, _, _, _, _, _, _, rfl, (kn13.tail).more (by omega)⟩
    · obtain ⟨y2, y4, y5, y6, y7, y8, y9, y10, rfl, kn6⟩ := hW
      exact ⟨_, _, _, _, _, _, _, _, _, rfl, (kn6.tail).more (by omega)⟩
  · obtain ⟨x2, x3, x4, x5, x6, x7, x8, x9, x10, rfl, kn1⟩ := hW
    walk_at "go"
    exact q _
theorem all_mk {l : PySem.W.OpenLaw} {w : World} {K : PySem.W.Frag} {h : Heap} {mg : Str → Option Value} {fa f0 f1 f2 f3 f4 f5 : Addr} (X : K.In h) (G : h.Ns mainGlobals mg) (hfa : mg "law" = some (.ref fa)) {od0 an0 od1 an1 od2 an2 od3 an3 od4 an4 od5 an5 : Option Addr} {sl0 sl1 sl2 sl3 sl4 sl5 : Array (Option Value)} {oc0 kV0 dc0 pm0 cd0 ct0 oc1 kV1 dc1 pm1 cd1 ct1 oc2 kV2 dc2 pm2 cd2 ct2 oc3 kV3 dc3 pm3 cd3 ct3 oc4 kV4 dc4 pm4 cd4 ct4 oc5 kV5 dc5 pm5 cd5 ct5 : Value}
    (a0 : PySem.W.nsIn K mainGlobals "road" = some (some (.ref f0))) (l0 : K.lookup f0 = some ⟨oc0, od0, .func (PySem.W.fnOf "road" "road" (defArgs s_road) (defBody s_road) (defScope s_road) .none kV0 dc0 pm0 an0 cd0 ct0), sl0⟩) (c0 : PySem.W.codeIn K cd0 "road" = true) (k0 : PySem.W.keepIn K (.ref f0) = true)
    (a1 : PySem.W.nsIn K mainGlobals "_law_roll" = some (some (.ref f1))) (l1 : K.lookup f1 = some ⟨oc1, od1, .func (PySem.W.fnOf "_law_roll" "_law_roll" (defArgs s_law_roll) (defBody s_law_roll) (defScope s_law_roll) .none kV1 dc1 pm1 an1 cd1 ct1), sl1⟩) (c1 : PySem.W.codeIn K cd1 "_law_roll" = true) (k1 : PySem.W.keepIn K (.ref f1) = true)
    (a2 : PySem.W.nsIn K mainGlobals "_law_pointing" = some (some (.ref f2))) (l2 : K.lookup f2 = some ⟨oc2, od2, .func (PySem.W.fnOf "_law_pointing" "_law_pointing" (defArgs s_law_pointing) (defBody s_law_pointing) (defScope s_law_pointing) .none kV2 dc2 pm2 an2 cd2 ct2), sl2⟩) (c2 : PySem.W.codeIn K cd2 "_law_pointing" = true) (k2 : PySem.W.keepIn K (.ref f2) = true)
    (a3 : PySem.W.nsIn K mainGlobals "_law_whole" = some (some (.ref f3))) (l3 : K.lookup f3 = some ⟨oc3, od3, .func (PySem.W.fnOf "_law_whole" "_law_whole" (defArgs s_law_whole) (defBody s_law_whole) (defScope s_law_whole) .none kV3 dc3 pm3 an3 cd3 ct3), sl3⟩) (c3 : PySem.W.codeIn K cd3 "_law_whole" = true) (k3 : PySem.W.keepIn K (.ref f3) = true)
    (a4 : PySem.W.nsIn K mainGlobals "_law_road" = some (some (.ref f4))) (l4 : K.lookup f4 = some ⟨oc4, od4, .func (PySem.W.fnOf "_law_road" "_law_road" (defArgs s_law_road) (defBody s_law_road) (defScope s_law_road) .none kV4 dc4 pm4 an4 cd4 ct4), sl4⟩) (c4 : PySem.W.codeIn K cd4 "_law_road" = true) (k4 : PySem.W.keepIn K (.ref f4) = true)
    (a5 : PySem.W.nsIn K mainGlobals "law" = some (some (.ref f5))) (l5 : K.lookup f5 = some ⟨oc5, od5, .func (PySem.W.fnOf "law" "law" (defArgs s_law) (defBody s_law) (defScope s_law) .none kV5 dc5 pm5 an5 cd5 ct5), sl5⟩) (c5 : PySem.W.codeIn K cd5 "law" = true) (k5 : PySem.W.keepIn K (.ref f5) = true)
    (z0 : PySem.W.nsIn K mainGlobals "len" = some none)
    (z1 : PySem.W.nsIn K mainGlobals "range" = some none)
    (z2 : PySem.W.nsIn K mainGlobals "max" = some none)
    (z3 : PySem.W.nsIn K mainGlobals "min" = some none)
    (z4 : PySem.W.nsIn K mainGlobals "int" = some none)
    (z5 : PySem.W.nsIn K mainGlobals "bool" = some none)
    (z6 : PySem.W.nsIn K mainGlobals "str" = some none)
    (z7 : PySem.W.nsIn K mainGlobals "list" = some none)
    (z8 : PySem.W.nsIn K mainGlobals "tuple" = some none)
    (z9 : PySem.W.nsIn K mainGlobals "isinstance" = some none)
    (z10 : PySem.W.nsIn K mainGlobals "repr" = some none)
    (z11 : PySem.W.nsIn K mainGlobals "all" = some none)
    (z12 : PySem.W.nsIn K mainGlobals "any" = some none)
    (z13 : PySem.W.nsIn K mainGlobals "enumerate" = some none)
    (z14 : PySem.W.nsIn K mainGlobals "sorted" = some none)
    (z15 : PySem.W.nsIn K mainGlobals "ValueError" = some none) :
    ∃ fd : FuncData, (∀ (s : Shared) (v : Value), BindsTo s fd ⟨[v], []⟩ [("script", v)]) ∧ ∀ base : Heap, K.In base → base.Ns mainGlobals mg → FnOk l.prog w K mg base CX0 4 fa fd ["script"] (spLaw K) := by
  have e := hfa.symm.trans (PySem.W.mg_of X G a5)
  cases e
  have M : Bl mg := ⟨PySem.W.mg_none_of X G z0, PySem.W.mg_none_of X G z1, PySem.W.mg_none_of X G z2, PySem.W.mg_none_of X G z3, PySem.W.mg_none_of X G z4, PySem.W.mg_none_of X G z5, PySem.W.mg_none_of X G z6, PySem.W.mg_none_of X G z7, PySem.W.mg_none_of X G z8, PySem.W.mg_none_of X G z9, PySem.W.mg_none_of X G z10, PySem.W.mg_none_of X G z11, PySem.W.mg_none_of X G z12, PySem.W.mg_none_of X G z13, PySem.W.mg_none_of X G z14, PySem.W.mg_none_of X G z15⟩
  have F0 := fun_mk (st := s_road) l0 c0 k0
  have D0 : Df K mg "road" s_road ["pointing", "house", "k"] _ _ := ⟨F0, PySem.W.mg_of X G a0, F0.binds (ps := ["pointing", "house", "k"]) fun _ _ _ _ _ _ us hl => match us, hl with | [_, _, _], _ => rfl⟩
  have F1 := fun_mk (st := s_law_roll) l1 c1 k1
  have D1 : Df K mg "_law_roll" s_law_roll ["dice", "size"] _ _ := ⟨F1, PySem.W.mg_of X G a1, F1.binds (ps := ["dice", "size"]) fun _ _ _ _ _ _ us hl => match us, hl with | [_, _], _ => rfl⟩
  have F2 := fun_mk (st := s_law_pointing) l2 c2 k2
  have D2 : Df K mg "_law_pointing" s_law_pointing ["dice", "most"] _ _ := ⟨F2, PySem.W.mg_of X G a2, F2.binds (ps := ["dice", "most"]) fun _ _ _ _ _ _ us hl => match us, hl with | [_, _], _ => rfl⟩
  have F3 := fun_mk (st := s_law_whole) l3 c3 k3
  have D3 : Df K mg "_law_whole" s_law_whole ["thing"] _ _ := ⟨F3, PySem.W.mg_of X G a3, F3.binds (ps := ["thing"]) fun _ _ _ _ _ _ us hl => match us, hl with | [_], _ => rfl⟩
  have F4 := fun_mk (st := s_law_road) l4 c4 k4
  have D4 : Df K mg "_law_road" s_law_road ["pointing", "house", "k"] _ _ := ⟨F4, PySem.W.mg_of X G a4, F4.binds (ps := ["pointing", "house", "k"]) fun _ _ _ _ _ _ us hl => match us, hl with | [_, _, _], _ => rfl⟩
  have F5 := fun_mk (st := s_law) l5 c5 k5
  have D5 : Df K mg "law" s_law ["script"] _ _ := ⟨F5, PySem.W.mg_of X G a5, F5.binds (ps := ["script"]) fun _ _ _ _ _ _ us hl => match us, hl with | [_], _ => rfl⟩
  exact ⟨PySem.W.fnOf "law" "law" (defArgs s_law) (defBody s_law) (defScope s_law) .none kV5 dc5 pm5 an5 cd5 ct5, fun s v => .of_eq rfl, fun base _ _ => ok_law D0 D1 D2 D3 D4 D5 M⟩
end Rg
open PySem PySem.W PyProof.Rows
set_option maxRecDepth 100000 in
set_option maxHeartbeats 0 in
theorem PySem.Challenge.cw_ringhue_k02_roads_holds : PySem.Challenge.rw_ringhue_k02_roads.Holds := by
  w_on; o_law; k_head; (case hw => w_witness2)
  k_fill
  refine L2.walk_of (l := PySem.Challenge.rw_ringhue_k02_roads) (n := 63) (k := 4) (x := "script") (CX := fun _ => L2.CX0) (sp := fun w => Rg.spLaw _) rfl (by decide) rfl ⟨rfl, by decide, by decide⟩ (fun w h Y => PySem.W.kIn_of Y) ?F (fun _ _ a ns hl _ hS => ⟨a, ns, rfl, hS, hl, fun _ => rfl⟩) (fun _ _ _ _ _ h => h)
  case F =>
    intro w mg fa h KX G hmg
    refine' Rg.all_mk KX G hmg ?a0 ?l0 ?c0 ?k0 ?a1 ?l1 ?c1 ?k1 ?a2 ?l2 ?c2 ?k2 ?a3 ?l3 ?c3 ?k3 ?a4 ?l4 ?c4 ?k4 ?a5 ?l5 ?c5 ?k5 ?z0 ?z1 ?z2 ?z3 ?z4 ?z5 ?z6 ?z7 ?z8 ?z9 ?z10 ?z11 ?z12 ?z13 ?z14 ?z15
    (case a0 => k_is)
    (case l0 => k_is)
    (case c0 => k_is)
    (case k0 => k_is)
    (case a1 => k_is)
    (case l1 => k_is)
    (case c1 => k_is)
    (case k1 => k_is)
    (case a2 => k_is)
    (case l2 => k_is)
    (case c2 => k_is)
    (case k2 => k_is)
    (case a3 => k_is)
    (case l3 => k_is)
    (case c3 => k_is)
    (case k3 => k_is)
    (case a4 => k_is)
    (case l4 => k_is)
    (case c4 => k_is)
    (case k4 => k_is)
    (case a5 => k_is)
    (case l5 => k_is)
    (case c5 => k_is)
    (case k5 => k_is)
    (case z0 => k_is)
    (case z1 => k_is)
    (case z2 => k_is)
    (case z3 => k_is)
    (case z4 => k_is)
    (case z5 => k_is)
    (case z6 => k_is)
    (case z7 => k_is)
    (case z8 => k_is)
    (case z9 => k_is)
    (case z10 => k_is)
    (case z11 => k_is)
    (case z12 => k_is)
    (case z13 => k_is)
    (case z14 => k_is)
    (case z15 => k_is)



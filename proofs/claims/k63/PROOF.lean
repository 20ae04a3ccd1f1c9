import PyProof.Rows.All
import Wide.All
import OpenK.AllK
import Wide.FinOn
import HandS.Conv
import HandS.EndBits
import HandS.EndTab
import HandS.ExcField
import HandS.ExcInit
import HandS.ExcIs
import HandS.ExcOwn
import HandS.Flow
import HandS.ForMost
import HandS.HotCalls
import HandS.IsInst
import HandS.Lambda
import HandS.List
import HandS.More
import HandS.Nested
import HandS.SetFor
import HandS.SetKeys
import HandS.SortInts
import HandS.SortRule
import HandS.StrMore
import HandS.Strs
import HandS.Style
import HandS.Text
import HandS.TupAny
import HandS.TupLe
import HandS.TupMul
import HandS.Walk
import HandS.Wide
import HandS.WideBits
import HandS.WordsExc
import HandS.Zip
import KE.BitLaws
import KE.GoesEnum
import KE.GoesMore
import KE.KExcHand
import KE.KExcIs
import KE.KExcSuper
import KE.KIsAll
import KE.KRevSl
import KE.SortData
import KE.SortKeyHeap
import PyProof.ReprRoads
import PyProof.Rows.SetFrom
import PyProof.WalkInts
import PyProof.WalksMore
import PySem.Challenge.RW_ringhue_k63_pairs_looked_at
set_option Elab.async false
set_option linter.all false
set_option maxRecDepth 100000
set_option maxHeartbeats 2000000
namespace Rg
open PySem PySem.Spec PyProof.Rows L2

/-! ### steps of a reading, from the left -/
section
variable {σ : L2.St} {H : Hp} {Q : VK} {ta tb te to ti : TE} {t u : TT} {tr ts : TA} {r : R2} {v x y : V} {i j : Int} {K : PySem.W.Frag} {nx bk ct : L2.St → Hp → Prop} {rt : VK}
theorem kVar {i : Nat} (h : σ[i]? = some (some v)) (q : Q v H) : tVar i σ H Q := ⟨v, h, q⟩
theorem kC (q : Q v H) : tC v σ H Q := q
theorem kOp (h : ta σ H fun x H1 => tb σ H1 fun y H2 => r x y H2 Q) : tOp r ta tb σ H Q := h
theorem kUn {r : V → Hp → VK → Prop} (h : ta σ H fun x H1 => r x H1 Q) : tUn r ta σ H Q := h
theorem kI0 {g : Int → Int → V} (q : Q (g i j) H) : rI0 g (.int i) (.int j) H Q := ⟨i, j, rfl, rfl, q⟩
theorem kI {C : Int → Int → Prop} {g : Int → Int → V} (c : C i j) (q : Q (g i j) H) : rI C g (.int i) (.int j) H Q := ⟨i, j, rfl, rfl, c, q⟩
theorem kU {g : Int → V} (q : Q (g i) H) : rU g (.int i) H Q := ⟨i, rfl, q⟩
theorem kEq (s : scal x y = true) (q : Q (.bl (decide (x = y))) H) : rEq x y H Q := ⟨s, q⟩
theorem kNe (s : scal x y = true) (q : Q (.bl (!decide (x = y))) H) : rNe x y H Q := ⟨s, q⟩
theorem kTest {Q : Bool → Hp → Prop} (h : te σ H fun x H1 => ∃ k, x = .bl k ∧ Q k H1) : tTest te σ H Q := h
theorem kTB {Q : Bool → Hp → Prop} (h : te σ H fun x H1 => ∃ k, x = .bl k ∧ Q k H1) : tB te σ H Q := h
theorem kBl {b : Bool} {P : Bool → Prop} (q : P b) : ∃ k, V.bl b = .bl k ∧ P k := ⟨b, rfl, q⟩
theorem kAnd {Q : Bool → Hp → Prop} (h : t σ H fun c H1 => if c = true then u σ H1 Q else Q false H1) : tAnd t u σ H Q := h
theorem kOr {Q : Bool → Hp → Prop} (h : t σ H fun c H1 => if c = true then Q true H1 else u σ H1 Q) : tOr t u σ H Q := h
theorem kNot {Q : Bool → Hp → Prop} (h : t σ H fun c H1 => Q (!c) H1) : tNot t σ H Q := h
theorem kAndV (h : ta σ H fun x H1 => ∃ c, x = .bl c ∧ if c = true then tb σ H1 Q else Q (.bl false) H1) : tAndV ta tb σ H Q := h
theorem kOrV (h : ta σ H fun x H1 => ∃ c, x = .bl c ∧ if c = true then Q (.bl true) H1 else tb σ H1 Q) : tOrV ta tb σ H Q := h
theorem kNotV (h : ta σ H fun x H1 => ∃ c, x = .bl c ∧ Q (.bl (!c)) H1) : tNotV ta σ H Q := h
theorem kIf (h : t σ H fun c H1 => if c = true then ta σ H1 Q else tb σ H1 Q) : tIf t ta tb σ H Q := h
theorem kChain {r r' : R2} {tc : TE} (h : ta σ H fun x H1 => tb σ H1 fun y H2 => r x y H2 fun z H3 => ∃ k, z = .bl k ∧ (if k = true then tc σ H3 fun w' H4 => r' y w' H4 Q else Q (.bl false) H3)) : tChain r r' ta tb tc σ H Q := h
theorem kNil {Q : List V → Hp → Prop} (q : Q [] H) : tNil σ H Q := q
theorem kCons {Q : List V → Hp → Prop} (h : ta σ H fun x H1 => tr σ H1 fun xs H2 => Q (x :: xs) H2) : tCons ta tr σ H Q := h
theorem kCB {r : List V → Hp → VK → Prop} (h : tr σ H fun vs H1 => r vs H1 Q) : tCB r tr σ H Q := h
theorem kCall {sp : Sp} {E : XK} (h : tr σ H fun vs H1 => sp vs H1 Q E) : tCall sp [] E tr σ H Q := by
  unfold tCall
  simpa only [List.append_nil] using h
theorem kBM {T : String} {r : V → List V → Hp → VK → Prop} (h : to σ H fun x H1 => tyV K T x H1 ∧ tr σ H1 fun xs H2 => r x xs H2 Q) : tBM K T r to tr σ H Q := h
theorem kBM0 {T : String} {r : V → List V → Hp → VK → Prop} (h : to σ H fun x H1 => tyV K T x H1 ∧ r x [] H1 Q) : tBM0 K T r to σ H Q := h
theorem kNoPart {Q : Option Int → Hp → Prop} (q : Q none H) : tNoPart σ H Q := q
theorem kPart {Q : Option Int → Hp → Prop} (h : te σ H fun x H1 => ∃ i, x = .int i ∧ Q (some i) H1) : tPart te σ H Q := h
theorem kInt {i : Int} {P : Int → Prop} (q : P i) : ∃ k, V.int i = .int k ∧ P k := ⟨i, rfl, q⟩
theorem kSl {r : V → Option Int → Option Int → Hp → VK → Prop} {tl th : TO} (h : te σ H fun x H1 => tl σ H1 fun l H2 => th σ H2 fun u H3 => r x l u H3 Q) : tSl r te tl th σ H Q := h
theorem kSeq {a b : TS} (h : a (Ends.mk (b (Ends.mk nx rt bk ct)) rt bk ct) σ H) : tSeq a b (Ends.mk nx rt bk ct) σ H := h
theorem kSeqA {e : TE} {g : TG} {b : TS} (h : tAsg e g (Ends.mk (b (Ends.mk nx rt bk ct)) rt bk ct) σ H) : tSeq (tAsg e g) b (Ends.mk nx rt bk ct) σ H := h
theorem kSeqD {e : TE} {b : TS} (h : tDrop e (Ends.mk (b (Ends.mk nx rt bk ct)) rt bk ct) σ H) : tSeq (tDrop e) b (Ends.mk nx rt bk ct) σ H := h
theorem kAsg {i : Nat} (h : te σ H fun x H1 => nx (σ.set i (some x)) H1) : tAsg te (gName i) (Ends.mk nx rt bk ct) σ H := h
theorem kAsgSub {s : TSet} (h : te σ H fun x H1 => to σ H1 fun o H2 => ti σ H2 fun i H3 => s o i x H3 fun H4 => nx σ H4) : tAsg te (gSub to ti s) (Ends.mk nx rt bk ct) σ H := h
theorem kDrop (h : te σ H fun _ H1 => nx σ H1) : tDrop te (Ends.mk nx rt bk ct) σ H := h
theorem kRet (h : te σ H rt) : tRet te (Ends.mk nx rt bk ct) σ H := h
theorem kIfS {c : TT} {a b : TS} {D : Ends} (h : c σ H fun k H1 => if k = true then a D σ H1 else b D σ H1) : tIfS c a b D σ H := h
theorem kNext (h : nx σ H) : tNext (Ends.mk nx rt bk ct) σ H := h
theorem kBrk (h : bk σ H) : tBreak (Ends.mk nx rt bk ct) σ H := h
theorem kCont (h : ct σ H) : tCont (Ends.mk nx rt bk ct) σ H := h
theorem kG {i : Nat} {Q : L2.St → Hp → Prop} (q : Q (σ.set i (some v)) H) : gName i v σ H Q := q
theorem kSetL {p : Addr} {xs : List V} {k : Int} {j : Nat} {R : Hp → Prop} (h : H p = some (.lst xs)) (e : ixN xs.length k = some j) (q : R (upd H p (.lst (xs.set j v)))) : rSetL (.ref p) (.int k) v H R := ⟨p, xs, k, j, rfl, rfl, h, e, q⟩
theorem kIxL {p : Addr} {xs : List V} {k : Int} (h : SqL K H p xs) (a : atI xs k = some v) (q : Q v H) : rIxL K (.ref p) (.int k) H Q := ⟨p, xs, k, v, rfl, rfl, h, a, q⟩
theorem kIxT {p : Addr} {xs : List V} {k : Int} (h : SqT K H p xs) (a : atI xs k = some v) (q : Q v H) : rIxT K (.ref p) (.int k) H Q := ⟨p, xs, k, v, rfl, rfl, h, a, q⟩
theorem kIxS {z : Str} {k : Int} {c : Nat} (h : z.length ≤ sizeLine) (a : atI z.cps.toList k = some c) (q : Q (.str ⟨#[c]⟩) H) : rIxS (.str z) (.int k) H Q := ⟨z, k, c, rfl, rfl, h, a, q⟩
theorem kIxSeqL {p : Addr} {xs : List V} {k : Int} (h : SqL K H p xs) (a : atI xs k = some v) (q : Q v H) : rIx K (.ref p) (.int k) H Q := .inl ⟨p, xs, k, v, rfl, rfl, h, a, q⟩
theorem kSlL {p : Addr} {xs : List V} {lo hi : Option Int} (h : SqL K H p xs) (q : ∀ l, H l = none → Q (.ref l) (upd H l (.lst (cutV xs lo hi)))) : rSlL K (.ref p) lo hi H Q := ⟨p, xs, rfl, h, q⟩
theorem kAppend {p : Addr} {xs : List V} (h : H p = some (.lst xs)) (l : xs.length < sizeLine) (q : Q .non (upd H p (.lst (xs ++ [v])))) : rAppend (.ref p) [v] H Q := ⟨p, xs, v, rfl, rfl, h, l, q⟩
theorem kTyL {p : Addr} {xs : List V} {P : Prop} (h : H p = some (.lst xs)) (q : P) : tyV K "list" (.ref p) H ∧ P := ⟨.inl ⟨rfl, xs, .inl (.inl h)⟩, q⟩
end

/-! ### calls with a name -/
def rLen2 (K : PySem.W.Frag) : List V → Hp → VK → Prop := fun xs H Q => ∃ p ys, xs = [.ref p] ∧ (SqL K H p ys ∨ SqT K H p ys) ∧ Q (.int ys.length) H
def rMax2 : List V → Hp → VK → Prop := fun xs H Q => ∃ i j, xs = [.int i, .int j] ∧ Q (.int (if j > i then j else i)) H
def rMin2 : List V → Hp → VK → Prop := fun xs H Q => ∃ i j, xs = [.int i, .int j] ∧ Q (.int (if j < i then j else i)) H
def rInt2 : List V → Hp → VK → Prop := fun xs H Q => (∃ i, xs = [.int i] ∧ Q (.int i) H) ∨ ∃ k, xs = [.bl k] ∧ Q (.int (if k then 1 else 0)) H
def rList2 (K : PySem.W.Frag) : List V → Hp → VK → Prop := fun xs H Q => ∃ p ys, xs = [.ref p] ∧ (SqL K H p ys ∨ SqT K H p ys) ∧ ∀ l, H l = none → Q (.ref l) (upd H l (.lst ys))
def rTuple2 (K : PySem.W.Frag) : List V → Hp → VK → Prop := fun xs H Q => ∃ p ys, xs = [.ref p] ∧ ((SqL K H p ys ∧ ∀ l, H l = none → Q (.ref l) (upd H l (.tup ys))) ∨ (SqT K H p ys ∧ Q (.ref p) H))
section
variable {X : Cx}
theorem c_len : CallR X (.builtin "len") (rLen2 X.K) := call_len_seq
theorem c_max (hc : X.calm = true) : CallR X (.builtin "max") rMax2 := call_max2 hc
theorem c_min (hc : X.calm = true) : CallR X (.builtin "min") rMin2 := call_min2 hc
theorem c_int : CallR X (.type "int") rInt2 := call_int1
theorem c_list : CallR X (.type "list") (rList2 X.K) := call_list_of
theorem c_tuple : CallR X (.type "tuple") (rTuple2 X.K) := call_tuple_of
end
section
variable {H : Hp} {Q : VK} {K : PySem.W.Frag} {p : Addr} {ys : List V} {i j : Int}
theorem kLenL (h : SqL K H p ys) (q : Q (.int ys.length) H) : rLen2 K [.ref p] H Q := ⟨p, ys, rfl, .inl h, q⟩
theorem kLenT (h : SqT K H p ys) (q : Q (.int ys.length) H) : rLen2 K [.ref p] H Q := ⟨p, ys, rfl, .inr h, q⟩
theorem kMax (q : Q (.int (if j > i then j else i)) H) : rMax2 [.int i, .int j] H Q := ⟨i, j, rfl, q⟩
theorem kMin (q : Q (.int (if j < i then j else i)) H) : rMin2 [.int i, .int j] H Q := ⟨i, j, rfl, q⟩
theorem kIntI (q : Q (.int i) H) : rInt2 [.int i] H Q := .inl ⟨i, rfl, q⟩
theorem kIntB {k : Bool} (q : Q (.int (if k then 1 else 0)) H) : rInt2 [.bl k] H Q := .inr ⟨k, rfl, q⟩
theorem kListL (h : SqL K H p ys) (q : ∀ l, H l = none → Q (.ref l) (upd H l (.lst ys))) : rList2 K [.ref p] H Q := ⟨p, ys, rfl, .inl h, q⟩
theorem kTupleL (h : SqL K H p ys) (q : ∀ l, H l = none → Q (.ref l) (upd H l (.tup ys))) : rTuple2 K [.ref p] H Q := ⟨p, ys, rfl, .inl ⟨h, q⟩⟩
theorem kTupleT (h : SqT K H p ys) (q : Q (.ref p) H) : rTuple2 K [.ref p] H Q := ⟨p, ys, rfl, .inr ⟨h, q⟩⟩
theorem kIsi {x c : V} {t u : Value} {b : Bool} (k : ClsV c u) (ty : TyX K H x t) (e : PySem.W.kitOne K t u = some b) (q : Q (.bl b) H) : rIsi K [x, c] H Q := ⟨x, c, t, u, b, rfl, k, ty, e, q⟩
end

/-! ### what the top has left: a def of the text, the built-in names -/
structure Df (K : PySem.W.Frag) (mg : Str → Option Value) (x : Str) (st : Stmt) (ps : List Str) (f : Addr) (fd : FuncData) : Prop where
  F : Fun K x x st f fd
  g : mg x = some (.ref f)
  b : Binds K fd ps []
structure Bl (mg : Str → Option Value) : Prop where
  len : mg "len" = none
  range : mg "range" = none
  max : mg "max" = none
  min : mg "min" = none
  int : mg "int" = none
  bool : mg "bool" = none
  str : mg "str" = none
  list : mg "list" = none
  tuple : mg "tuple" = none
  isinstance : mg "isinstance" = none
  repr : mg "repr" = none
  all : mg "all" = none
  any : mg "any" = none
  enumerate : mg "enumerate" = none
  sorted : mg "sorted" = none
  ValueError : mg "ValueError" = none
  zip : mg "zip" = none
  sum : mg "sum" = none
  set : mg "set" = none
  reversed : mg "reversed" = none
  divmod : mg "divmod" = none
  dict : mg "dict" = none
theorem kitII : kitB "int" "int" = some true := by decide +kernel
theorem kitIB : kitB "int" "bool" = some false := by decide +kernel
theorem kitBI : kitB "bool" "int" = some true := by decide +kernel
theorem kitBB : kitB "bool" "bool" = some true := by decide +kernel
theorem kitLL : kitB "list" "list" = some true := by decide +kernel
theorem kitTT : kitB "tuple" "tuple" = some true := by decide +kernel
section
variable {H : Hp} {Q : VK} {K : PySem.W.Frag} {z : Int} {b : Bool} {p : Addr} {xs : List V}
theorem isiII (q : Q (.bl true) H) : rIsi K [.int z, .ty "int"] H Q := kIsi (.ty _) (.base (.int z)) (kit_ty kitII) q
theorem isiIB (q : Q (.bl false) H) : rIsi K [.int z, .ty "bool"] H Q := kIsi (.ty _) (.base (.int z)) (kit_ty kitIB) q
theorem isiBI (q : Q (.bl true) H) : rIsi K [.bl b, .ty "int"] H Q := kIsi (.ty _) (.base (.bl b)) (kit_ty kitBI) q
theorem isiBB (q : Q (.bl true) H) : rIsi K [.bl b, .ty "bool"] H Q := kIsi (.ty _) (.base (.bl b)) (kit_ty kitBB) q
theorem isiLL (h : H p = some (.lst xs)) (q : Q (.bl true) H) : rIsi K [.ref p, .ty "list"] H Q := kIsi (.ty _) (.base (.lst h)) (kit_ty kitLL) q
theorem isiTT (h : H p = some (.tup xs)) (q : Q (.bl true) H) : rIsi K [.ref p, .ty "tuple"] H Q := kIsi (.ty _) (.base (.tup h)) (kit_ty kitTT) q
end
/-! ### tests -/
theorem iteD {P A B : Prop} {d : Decidable P} (h1 : P → A) (h2 : ¬P → B) : if decide P = true then A else B := by
  by_cases h : P
  · rw [decide_eq_true h]
    exact h1 h
  · rw [decide_eq_false h]
    exact h2 h
theorem iteN {P A B : Prop} {d : Decidable P} (h1 : ¬P → A) (h2 : P → B) : if (!decide P) = true then A else B := by
  by_cases h : P
  · rw [decide_eq_true h]
    exact h2 h
  · rw [decide_eq_false h]
    exact h1 h
theorem iteB {b : Bool} {A B : Prop} (h1 : b = true → A) (h2 : b = false → B) : if b = true then A else B := by
  cases b with
  | true => exact h1 rfl
  | false => exact h2 rfl
theorem iteI {i j : Int} {A B : Prop} (h1 : i = j → A) (h2 : i ≠ j → B) : if decide (V.int i = V.int j) = true then A else B :=
  iteD (fun e => h1 (V.int.inj e)) fun e => h2 fun z => e (congrArg V.int z)
theorem iteIN {i j : Int} {A B : Prop} (h1 : i ≠ j → A) (h2 : i = j → B) : if (!decide (V.int i = V.int j)) = true then A else B :=
  iteN (fun e => h1 fun z => e (congrArg V.int z)) fun e => h2 (V.int.inj e)

/-! ### what is known of the heap: a ledger; the dice and a ledger -/
abbrev Led := List (Addr × HO)
structure Lg (L : Led) (H : Hp) : Prop where
  led : ∀ q ∈ L, H q.1 = some q.2
  nd : (L.map (·.1)).Nodup
/-- d the dice (it may change), n how often it was thrown at most, L what stands besides -/
def Kn (d : Addr) (n : Nat) (L : Led) (H : Hp) : Prop := ∃ (s : Addr) (a c r : Int) (ns : List Int), Lg ((d, .lst [.ref s, .int a, .int c, .int r]) :: (s, .lst (ns.map V.int)) :: L) H ∧ 0 ≤ a ∧ a ≤ n
section
variable {d : Addr} {n m : Nat} {L L' : Led} {H : Hp} {a : Addr} {o u : HO}
theorem Lg.at (k : Lg L H) (i : Nat) (h : L[i]? = some (a, o)) : H a = some o := k.led (a, o) (List.mem_of_getElem? h)
theorem Lg.perm (k : Lg L H) (h : L.Perm L') : Lg L' H := ⟨fun q hq => k.led q (h.mem_iff.mpr hq), (h.map _).nodup_iff.mp k.nd⟩
theorem Lg.sub (k : Lg L H) (h : List.Sublist L' L) : Lg L' H := ⟨fun q hq => k.led q (h.subset hq), k.nd.sublist (h.map _)⟩
/-- a new object -/
theorem Lg.new (k : Lg L H) (h : H a = none) : Lg ((a, o) :: L) (upd H a o) := by
  have hl : ∀ q ∈ L, q.1 ≠ a := fun q hq => ne_of_none (k.led q hq) h
  refine ⟨fun q hq => ?_, ?_⟩
  · rcases List.mem_cons.mp hq with rfl | hq
    · exact upd_same
    · rw [upd_ne (hl q hq)]
      exact k.led q hq
  · rw [List.map_cons, List.nodup_cons]
    refine ⟨fun z => ?_, k.nd⟩
    obtain ⟨q, hq, e⟩ := List.mem_map.mp z
    exact hl q hq e
/-- one of them changes -/
theorem Lg.put (k : Lg L H) (i : Nat) (h : L[i]? = some (a, o)) : Lg (L.set i (a, u)) (upd H a u) := by
  have hi : i < L.length := (List.getElem?_eq_some_iff.mp h).1
  have he : L[i] = (a, o) := (List.getElem?_eq_some_iff.mp h).2
  have hmap : (L.set i (a, u)).map (·.1) = L.map (·.1) := by
    apply List.ext_getElem?
    intro j
    rw [List.getElem?_map, List.getElem?_map, List.getElem?_set]
    by_cases e : i = j
    · subst e
      rw [if_pos rfl, if_pos hi, List.getElem?_eq_getElem hi, he]
      rfl
    · rw [if_neg e]
  refine ⟨fun q hq => ?_, by rw [hmap]; exact k.nd⟩
  obtain ⟨j, hj⟩ := List.getElem?_of_mem hq
  rw [List.getElem?_set] at hj
  by_cases e : i = j
  · rw [if_pos e, if_pos hi] at hj
    have hj' : (a, u) = q := Option.some.inj hj
    subst hj'
    exact upd_same
  · rw [if_neg e] at hj
    have hne : q.1 ≠ a := fun z => by
      have h1 : (L.map (·.1))[i]? = some a := by rw [List.getElem?_map, h]; rfl
      have h2 : (L.map (·.1))[j]? = some a := by rw [List.getElem?_map, hj]; exact congrArg some z
      exact e (nd_ix k.nd h1 h2)
    rw [upd_ne hne]
    exact k.led q (List.mem_of_getElem? hj)
theorem Kn.at (k : Kn d n L H) (i : Nat) (h : L[i]? = some (a, o)) : H a = some o := by
  obtain ⟨s, b, c, r, ns, l, _⟩ := k
  exact l.at (i + 2) h
theorem Kn.more (k : Kn d n L H) (h : n ≤ m) : Kn d m L H := by
  obtain ⟨s, b, c, r, ns, l, e1, e2⟩ := k
  exact ⟨s, b, c, r, ns, l, e1, by omega⟩
theorem Kn.new (k : Kn d n L H) (h : H a = none) : Kn d n ((a, o) :: L) (upd H a o) := by
  obtain ⟨s, b, c, r, ns, l, e1, e2⟩ := k
  refine ⟨s, b, c, r, ns, (l.new (o := o) h).perm ?_, e1, e2⟩
  exact (List.Perm.swap _ _ _).trans (List.Perm.cons _ (List.Perm.swap _ _ _))
theorem Kn.put (k : Kn d n L H) (i : Nat) (h : L[i]? = some (a, o)) : Kn d n (L.set i (a, u)) (upd H a u) := by
  obtain ⟨s, b, c, r, ns, l, e1, e2⟩ := k
  exact ⟨s, b, c, r, ns, l.put (i + 2) h, e1, e2⟩
theorem Kn.sub (k : Kn d n L H) (h : List.Sublist L' L) : Kn d n L' H := by
  obtain ⟨s, b, c, r, ns, l, e1, e2⟩ := k
  exact ⟨s, b, c, r, ns, l.sub ((h.cons₂ _).cons₂ _), e1, e2⟩
theorem Kn.tail {q : Addr × HO} (k : Kn d n (q :: L) H) : Kn d n L H := k.sub (List.sublist_cons_self _ _)
theorem Kn.drop (k : Kn d n L H) (i : Nat) : Kn d n (L.drop i) H := k.sub (List.drop_sublist _ _)
theorem at_of (i : Nat) (k : Kn d n L H) (h : L[i]? = some (a, o)) : H a = some o := k.at i h
theorem sqL_of {K : PySem.W.Frag} {xs : List V} (i : Nat) (k : Kn d n L H) (h : L[i]? = some (a, .lst xs)) : SqL K H a xs := .inl (.inl (k.at i h))
theorem sqT_of {K : PySem.W.Frag} {xs : List V} (i : Nat) (k : Kn d n L H) (h : L[i]? = some (a, .tup xs)) : SqT K H a xs := .inl (.inl (k.at i h))
theorem lat_of (i : Nat) (k : Lg L H) (h : L[i]? = some (a, o)) : H a = some o := k.at i h
theorem lsqL_of {K : PySem.W.Frag} {xs : List V} (i : Nat) (k : Lg L H) (h : L[i]? = some (a, .lst xs)) : SqL K H a xs := .inl (.inl (k.at i h))
theorem lsqT_of {K : PySem.W.Frag} {xs : List V} (i : Nat) (k : Lg L H) (h : L[i]? = some (a, .tup xs)) : SqT K H a xs := .inl (.inl (k.at i h))
end
/-! ### items of short lists; the dice's cells -/
section
variable {a b c e v : V} {l : List V} {p : Addr} {H : Hp} {R : Hp → Prop} {L : Led}
theorem at0 : atI (a :: l) 0 = some a := atI_nat (j := 0) rfl
theorem at1 : atI (a :: b :: l) 1 = some b := atI_nat (j := 1) rfl
theorem at2 : atI (a :: b :: c :: l) 2 = some c := atI_nat (j := 2) rfl
theorem at3 : atI (a :: b :: c :: e :: l) 3 = some e := atI_nat (j := 3) rfl
theorem kD1 (k : Lg ((p, .lst [a, b, c, e]) :: L) H) (q : ∀ H', Lg ((p, .lst [a, v, c, e]) :: L) H' → R H') : rSetL (.ref p) (.int 1) v H R := ⟨p, _, 1, 1, rfl, rfl, k.at 0 rfl, rfl, q _ (k.put 0 rfl)⟩
theorem kD2 (k : Lg ((p, .lst [a, b, c, e]) :: L) H) (q : ∀ H', Lg ((p, .lst [a, b, v, e]) :: L) H' → R H') : rSetL (.ref p) (.int 2) v H R := ⟨p, _, 2, 2, rfl, rfl, k.at 0 rfl, rfl, q _ (k.put 0 rfl)⟩
theorem kD3 (k : Lg ((p, .lst [a, b, c, e]) :: L) H) (q : ∀ H', Lg ((p, .lst [a, b, c, v]) :: L) H' → R H') : rSetL (.ref p) (.int 3) v H R := ⟨p, _, 3, 3, rfl, rfl, k.at 0 rfl, rfl, q _ (k.put 0 rfl)⟩
theorem lenPos {ns : List Int} (h : ns ≠ []) : (0 : Int) < ((ns.map V.int).length : Int) := by
  have h0 : 0 < ns.length := List.length_pos_iff.mpr h
  rw [List.length_map]
  omega
theorem atMod {ns : List Int} (h : ns ≠ []) (z : Int) : ∃ y, atI (ns.map V.int) (z % ((ns.map V.int).length : Int)) = some (.int y) := by
  rw [List.length_map]
  have h0 : 0 < ns.length := List.length_pos_iff.mpr h
  have h1 : 0 ≤ z % (ns.length : Int) := Int.emod_nonneg z (by omega)
  have h2 : z % (ns.length : Int) < (ns.length : Int) := Int.emod_lt_of_pos z (by omega)
  obtain ⟨j, hj⟩ : ∃ j : Nat, z % (ns.length : Int) = (j : Int) := ⟨(z % (ns.length : Int)).toNat, by omega⟩
  have hl : j < ns.length := by omega
  rw [hj]
  exact ⟨ns[j], atI_nat (by rw [List.getElem?_map, List.getElem?_eq_getElem hl]; rfl)⟩
end
/-- ways that meet behind a statement -/
theorem kJoin {x y : TS} {nx bk ct : L2.St → Hp → Prop} {rt : VK} {σ : L2.St} {H : Hp} (W : L2.St → Hp → Prop) (h2 : ∀ σ' H', W σ' H' → y (Ends.mk nx rt bk ct) σ' H')
    (h1 : ∀ N : L2.St → Hp → Prop, (∀ σ' H', W σ' H' → N σ' H') → x (Ends.mk N rt bk ct) σ H) : tSeq x y (Ends.mk nx rt bk ct) σ H := h1 _ h2
/-! ### with a ledger: new lists and tuples, append -/
def NewL (xs : List V) (Q : VK) (H : Hp) : Prop := xs.length ≤ sizeLine ∧ ∀ p, H p = none → Q (.ref p) (upd H p (.lst xs))
def NewT (xs : List V) (Q : VK) (H : Hp) : Prop := xs.length ≤ sizeLine ∧ ∀ p, H p = none → Q (.ref p) (upd H p (.tup xs))
section
variable {d : Addr} {n : Nat} {L : Led} {H : Hp} {σ : L2.St} {Q : VK} {tr : TA} {p : Addr} {v : V} {xs : List V} {K : PySem.W.Frag}
theorem kLst (h : tr σ H fun ys H1 => NewL ys Q H1) : tLst tr σ H Q := h
theorem kTup (h : tr σ H fun ys H1 => NewT ys Q H1) : tTup tr σ H Q := h
theorem kNewL (z : xs.length ≤ 100000) (k : Kn d n L H) (q : ∀ p H', Kn d n ((p, .lst xs) :: L) H' → Q (.ref p) H') : NewL xs Q H := ⟨Nat.le_trans z (by decide), fun p hp => q p _ (k.new hp)⟩
theorem kNewT (z : xs.length ≤ 100000) (k : Kn d n L H) (q : ∀ p H', Kn d n ((p, .tup xs) :: L) H' → Q (.ref p) H') : NewT xs Q H := ⟨Nat.le_trans z (by decide), fun p hp => q p _ (k.new hp)⟩
theorem kAppK (k : Kn d n L H) (i : Nat) (h : L[i]? = some (p, .lst xs)) (z : xs.length < 100000) (q : ∀ H', Kn d n (L.set i (p, .lst (xs ++ [v]))) H' → Q .non H') : rAppend (.ref p) [v] H Q :=
  ⟨p, xs, v, rfl, rfl, k.at i h, Nat.lt_of_lt_of_le z (by decide), q _ (k.put i h)⟩
theorem kSlLK {lo hi : Option Int} (h : SqL K H p xs) (k : Kn d n L H) (q : ∀ l H', Kn d n ((l, .lst (cutV xs lo hi)) :: L) H' → Q (.ref l) H') : rSlL K (.ref p) lo hi H Q := ⟨p, xs, rfl, h, fun l hl => q l _ (k.new hl)⟩
theorem kListK (h : SqL K H p xs) (k : Kn d n L H) (q : ∀ l H', Kn d n ((l, .lst xs) :: L) H' → Q (.ref l) H') : rList2 K [.ref p] H Q := ⟨p, xs, rfl, .inl h, fun l hl => q l _ (k.new hl)⟩
theorem kTupleK (h : SqL K H p xs) (k : Kn d n L H) (q : ∀ l H', Kn d n ((l, .tup xs) :: L) H' → Q (.ref l) H') : rTuple2 K [.ref p] H Q := ⟨p, xs, rfl, .inl ⟨h, fun l hl => q l _ (k.new hl)⟩⟩
end
theorem atMem {es : List Int} {z : Int} (h0 : 0 ≤ z) (h1 : z < es.length) : ∃ e, atI (es.map V.int) z = some (.int e) ∧ e ∈ es := by
  obtain ⟨j, rfl⟩ : ∃ j : Nat, z = (j : Int) := ⟨z.toNat, by omega⟩
  have hl : j < es.length := by omega
  exact ⟨es[j], atI_nat (by rw [List.getElem?_map, List.getElem?_eq_getElem hl]; rfl), List.getElem_mem hl⟩
theorem atLast (xs : List Int) (x : Int) : atI ((xs ++ [x]).map V.int) (-1) = some (.int x) := by
  rw [List.map_append]
  exact atI_last _ _
theorem szL {n : Nat} (h : n ≤ 100000) : n ≤ sizeLine := Nat.le_trans h (by decide)
theorem log_small {z : Int} (h0 : 0 < z) (h : z < 2 ^ 62) : z.natAbs.log2 < 9000 := Nat.lt_of_lt_of_le (PySem.Flt.log2_lt_of (k := 62) (by decide) (by omega)) (by decide)
theorem szL' {n : Nat} (h : n < 100000) : n < sizeLine := Nat.lt_of_lt_of_le h (by decide)

/-! ### whole numbers in lists compared -/
theorem dpInts {K : PySem.W.Frag} {H : Hp} : ∀ ns : List Int, DpAll K H (ns.map V.int) (ns.map PyData.int)
  | [] => .nil
  | n :: r => .cons (.int n) (dpInts r)
theorem layInts : ∀ ns : List Int, PyData.canLayAll0 (ns.map PyData.int) = true
  | [] => by simp [PyData.canLayAll0]
  | n :: r => by simp [PyData.canLayAll0, PyData.canLay0, layInts r]
theorem depInts : ∀ ns : List Int, PyData.depthAll (ns.map PyData.int) = 0
  | [] => by simp [PyData.depthAll]
  | n :: r => by simp [PyData.depthAll, PyData.depth, depInts r]
theorem shL (ns : List Int) : SeqAt.shaped (.list (ns.map PyData.int)) = true := by
  simp [SeqAt.shaped, PyData.canLay0, layInts, PyData.depth, depInts]
theorem shT (ns : List Int) : SeqAt.shaped (.tuple (ns.map PyData.int)) = true := by
  simp [SeqAt.shaped, PyData.canLay0, layInts, PyData.depth, depInts]
theorem eqvInts : ∀ xs ys : List Int, PyData.eqvAll (xs.map PyData.int) (ys.map PyData.int) = decide (xs = ys)
  | [], [] => by simp [PyData.eqvAll]
  | [], y :: ys => by simp [PyData.eqvAll]
  | x :: xs, [] => by simp [PyData.eqvAll]
  | x :: xs, y :: ys => by
    simp only [List.map_cons, PyData.eqvAll, PyData.eqv, eqvInts xs ys, List.cons.injEq]
    by_cases h : x = y <;> by_cases h2 : xs = ys <;> simp [h, h2]
section
variable {H : Hp} {Q : VK} {K : PySem.W.Frag} {p q : Addr} {xs ys : List Int}
theorem kNeL (h1 : SqL K H p (xs.map V.int)) (h2 : SqL K H q (ys.map V.int)) (k : Q (.bl (!decide (xs = ys))) H) : rNeD K (.ref p) (.ref q) H Q := by
  refine ⟨.list (xs.map PyData.int), .list (ys.map PyData.int), .lst h1 (dpInts xs), .lst h2 (dpInts ys), shL xs, shL ys, ?_⟩
  rw [PyData.eqv, eqvInts]
  exact k
theorem kEqL (h1 : SqL K H p (xs.map V.int)) (h2 : SqL K H q (ys.map V.int)) (k : Q (.bl (decide (xs = ys))) H) : rEqD K (.ref p) (.ref q) H Q := by
  refine ⟨.list (xs.map PyData.int), .list (ys.map PyData.int), .lst h1 (dpInts xs), .lst h2 (dpInts ys), shL xs, shL ys, ?_⟩
  rw [PyData.eqv, eqvInts]
  exact k
theorem kNeT (h1 : SqT K H p (xs.map V.int)) (h2 : SqT K H q (ys.map V.int)) (k : Q (.bl (!decide (xs = ys))) H) : rNeD K (.ref p) (.ref q) H Q := by
  refine ⟨.tuple (xs.map PyData.int), .tuple (ys.map PyData.int), .tup h1 (dpInts xs), .tup h2 (dpInts ys), shT xs, shT ys, ?_⟩
  rw [PyData.eqv, eqvInts]
  exact k
theorem kEqT (h1 : SqT K H p (xs.map V.int)) (h2 : SqT K H q (ys.map V.int)) (k : Q (.bl (decide (xs = ys))) H) : rEqD K (.ref p) (.ref q) H Q := by
  refine ⟨.tuple (xs.map PyData.int), .tuple (ys.map PyData.int), .tup h1 (dpInts xs), .tup h2 (dpInts ys), shT xs, shT ys, ?_⟩
  rw [PyData.eqv, eqvInts]
  exact k
end

theorem Kn.mem {d : Addr} {n : Nat} {L : Led} {H : Hp} {a : Addr} {o : HO} (k : Kn d n L H) (h : (a, o) ∈ L) : H a = some o := by
  obtain ⟨i, hi⟩ := List.getElem?_of_mem h
  exact k.at i hi
theorem Kn.seqL {d : Addr} {n : Nat} {L : Led} {H : Hp} {K : PySem.W.Frag} {a : Addr} {xs : List V} (k : Kn d n L H) (h : (a, .lst xs) ∈ L) : SqL K H a xs := .inl (.inl (k.mem h))
theorem Kn.seqT {d : Addr} {n : Nat} {L : Led} {H : Hp} {K : PySem.W.Frag} {a : Addr} {xs : List V} (k : Kn d n L H) (h : (a, .tup xs) ∈ L) : SqT K H a xs := .inl (.inl (k.mem h))
/-! ### a list comprehension over a list; the word: what is made so far -/
theorem kLcL {d : Addr} {n : Nat} {L : Led} {H : Hp} {K : PySem.W.Frag} {σ : L2.St} {Q : VK} {p : Addr} {xs : List V} {te0 te : TE} {tt : TT} {j : Nat} {vs : List Nat} (k : Kn d n L H) (hp : (p, .lst xs) ∈ L) (src : ∀ R : VK, R (.ref p) H → te0 σ H R)
    (hz : xs.length ≤ 100000) (acc : Nat → List V) (a0 : acc 0 = []) (al : ∀ i, (acc i).length ≤ i) (hw : ∀ x, wipe ((wipe σ vs).set j (some x)) vs = wipe σ vs)
    (turn : ∀ i x H' D, xs[i]? = some x → Kn d n ((D, .lst (acc i)) :: L) H' → ∀ (N1 : VK) (N2 : Hp → Prop), (∀ y H4, Kn d n ((D, .lst (acc i)) :: L) H4 → acc (i + 1) = acc i ++ [y] → N1 y H4) → (∀ H3, Kn d n ((D, .lst (acc i)) :: L) H3 → acc (i + 1) = acc i → N2 H3) →
      tt ((wipe σ vs).set j (some x)) H' fun b H3 => if b = true then te ((wipe σ vs).set j (some x)) H3 N1 else N2 H3)
    (q : ∀ D H', Kn d n ((D, .lst (acc xs.length)) :: L) H' → Q (.ref D) H') : tLc (iList K te0) (gName j) tt te vs σ H Q := by
  refine src _ ⟨p, rfl, ⟨xs, k.seqL hp⟩, fun D hD => lc_list (xs := xs) (fun i H' => Kn d n ((D, .lst (acc i)) :: L) H') ?_ (fun i H' _ kn => kn.seqL (List.mem_cons_of_mem _ hp)) (fun i x H' hx kn => ⟨hw x, ?_⟩) (fun H' kn => q D H' kn)⟩
  · rw [a0]
    exact k.new hD
  · have hi : i < xs.length := (List.getElem?_eq_some_iff.mp hx).1
    refine turn i x H' D hx kn _ _ (fun y H4 kn4 e => ⟨acc i, kn4.at 0 rfl, szL' (by have := al i; omega), ?_⟩) (fun H3 kn3 e => ?_)
    · rw [e]
      exact kn4.put 0 rfl
    · rw [e]
      exact kn3
/-! ### a law's first statement makes the dice -/
theorem cutInts (ns : List Int) (lo hi : Option Int) : ∃ ms : List Int, cutV (ns.map V.int) lo hi = ms.map V.int :=
  ⟨(ns.drop (HT.sIx ns.length 0 lo)).take (HT.sIx ns.length ns.length hi - HT.sIx ns.length 0 lo), by unfold cutV; rw [List.length_map, List.map_take, List.map_drop]⟩
theorem kStart {K : PySem.W.Frag} {a : Addr} {ns : List Int} {σ : L2.St} {H : Hp} {i : Nat} {y : TS} {nx bk ct : L2.St → Hp → Prop} {rt : VK} (hS : SqL K H a (ns.map V.int)) (h0 : σ[0]? = some (some (.ref a)))
    (q : ∀ d H', Kn d 0 [] H' → y (Ends.mk nx rt bk ct) (σ.set i (some (.ref d))) H') :
    tSeq (tAsg (tLst (tCons (tCB (rList2 K) (tCons (tSl (rSlL K) (tVar 0) tNoPart (tPart (tC (.int 63)))) tNil)) (tCons (tC (.int 0)) (tCons (tC (.int 0)) (tCons (tC (.int 0)) tNil))))) (gName i)) y (Ends.mk nx rt bk ct) σ H := by
  obtain ⟨ms, hm⟩ := cutInts ns none (some 63)
  refine ⟨.ref a, h0, 63, rfl, a, _, rfl, hS, fun p hp => ?_⟩
  refine ⟨p, _, rfl, .inl (.inl (.inl upd_same)), fun s hs => ⟨szL (by show 4 ≤ 100000; decide), fun d hd => ?_⟩⟩
  have l0 : Lg [] H := ⟨fun _ hq => (List.not_mem_nil hq).elim, List.nodup_nil⟩
  have l1 := (((l0.new (o := .lst (cutV (ns.map V.int) none (some 63))) hp).sub (List.nil_sublist _)).new (o := .lst (cutV (ns.map V.int) none (some 63))) hs).new (o := .lst [.ref s, .int 0, .int 0, .int 0]) hd
  rw [hm] at l1 ⊢
  exact q d _ ⟨s, 0, 0, 0, ms, l1, by omega, by omega⟩
/-! ### loops -/
section
variable {σ : L2.St} {H : Hp} {tr : TA} {tb : TS} {j : Nat} {te : TE} {K : PySem.W.Frag} {nx bk ct : L2.St → Hp → Prop} {rt : VK}
/-- for x in range(n): the word holds at the start, a turn keeps it, behind the last what follows holds -/
theorem kRng1 {n : Int} (hn : 0 ≤ n ∧ n ≤ 100000) (Pv : Nat → L2.St → Hp → Prop) (h0 : Pv 0 σ H)
    (hs : ∀ (i : Nat) σ' H', (i : Int) < n → Pv i σ' H' → tb (Ends.mk (Pv (i + 1)) rt nx (Pv (i + 1))) (σ'.set j (some (.int (i : Int)))) H') (hd : ∀ σ' H', Pv n.toNat σ' H' → nx σ' H')
    (h : ∀ R : List V → Hp → Prop, R [.int n] H → tr σ H R) : tFor (iRng1 tr) (gName j) tb (Ends.mk nx rt bk ct) σ H := by
  refine h _ ⟨n, rfl, by omega, by omega, for_range (lo := 0) (n := n.toNat) Pv h0 (fun i σ' H' hi p => ?_) hd⟩
  have e0 : (0 : Int) + (i : Int) = (i : Int) := Int.zero_add _
  show tb (Ends.mk (Pv (i + 1)) rt nx (Pv (i + 1))) (σ'.set j (some (.int ((0 : Int) + (i : Int))))) H'
  rw [e0]
  exact hs i σ' H' (by omega) p
theorem kForL {p : Addr} {xs : List V} (Pv : Nat → L2.St → Hp → Prop) (hq : SqL K H p xs) (h0 : Pv 0 σ H) (hl : ∀ i σ' H', i ≤ xs.length → Pv i σ' H' → SqL K H' p xs)
    (hs : ∀ i x σ' H', xs[i]? = some x → Pv i σ' H' → tb (Ends.mk (Pv (i + 1)) rt nx (Pv (i + 1))) (σ'.set j (some x)) H') (hd : ∀ σ' H', Pv xs.length σ' H' → nx σ' H')
    (h : ∀ R : VK, R (.ref p) H → te σ H R) : tFor (iList K te) (gName j) tb (Ends.mk nx rt bk ct) σ H :=
  h _ ⟨p, rfl, ⟨xs, hq⟩, for_list (xs := xs) Pv h0 hl (fun i x σ' H' hx p => hs i x σ' H' hx p) hd⟩
theorem kForT {p : Addr} {xs : List V} (Pv : Nat → L2.St → Hp → Prop) (hq : SqT K H p xs) (h0 : Pv 0 σ H) (hl : ∀ i σ' H', i ≤ xs.length → Pv i σ' H' → SqT K H' p xs)
    (hs : ∀ i x σ' H', xs[i]? = some x → Pv i σ' H' → tb (Ends.mk (Pv (i + 1)) rt nx (Pv (i + 1))) (σ'.set j (some x)) H') (hd : ∀ σ' H', Pv xs.length σ' H' → nx σ' H')
    (h : ∀ R : VK, R (.ref p) H → te σ H R) : tFor (iTup K te) (gName j) tb (Ends.mk nx rt bk ct) σ H :=
  h _ ⟨p, rfl, ⟨xs, hq⟩, for_tup (xs := xs) Pv h0 hl (fun i x σ' H' hx p => hs i x σ' H' hx p) hd⟩
end
end Rg

set_option Elab.async false
set_option linter.all false
set_option maxRecDepth 100000
set_option maxHeartbeats 2000000
namespace Rg
open PySem PySem.Spec PyProof.Rows L2
/-! ### enumerate of a tuple -/
theorem enumNew {v : Value} {ob : Obj} {G : Heap → Prop} (B : Begins v ob G) : Meets (Builtin.«enumerate.__new__» ⟨[.type "enumerate", v], []⟩) (fun _ R s => G s.heap ∧
    R (.ok (.ret (.ref (s.heap.push ob).objs.size))) { s with heap := (s.heap.push ob).push { cls := .type "enumerate", data := .fields #[.none, .bool false, .ref s.heap.objs.size, rawInt 0, .none, .none] } }) := .of_wp fun prog w A R s hyp => by
  obtain ⟨hp, gs, dr, tk, os⟩ := s
  obtain ⟨g1, hyp⟩ := hyp
  have hsub := sub_enumerate
  have begun : ∀ {A' : Around} {E : Value → Shared → Prop} {Q : Value → Shared → Prop}, Q (.ref hp.objs.size) ⟨hp.push ob, gs, dr, tk, os⟩ → wpAny (model prog w) A' (pyIter v) Q E ⟨hp, gs, dr, tk, os⟩ :=
    fun z => B.iter prog w _ _ ⟨hp, gs, dr, tk, os⟩ _ g1 z
  wp_walk using begun
  refine wpAny_stack_any fun stk => wpAny_pure ?_
  split
  · rename_i cl _ _ _ _ _
    cases (cl == Value.type "enumerate") <;> (wp_walk using begun; exact ⟨_, rfl, hyp⟩)
  · wp_walk using begun
    exact ⟨_, rfl, hyp⟩
theorem callEnumT {prog : Program} {w : World} {A : Around} {E : Value → Shared → Prop} {s : Shared} {t : Addr} {items : Array Value} {Q : Value → Shared → Prop} (ht : s.heap.IsTuple t items)
    (h : ∀ h', IsEnum h' (s.heap.objs.size + 1) s.heap.objs.size 0 .none → h'.IsTupleIter s.heap.objs.size t 0 → (∀ b ob, s.heap.get? b = some ob → h'.get? b = some ob) → Q (.ref (s.heap.objs.size + 1)) { s with heap := h' }) :
    wpAny (model prog w) A (call (.type "enumerate") [.ref t]) Q E s := by
  refine callType_new F.called_enumerate (by decide) (F.typeCall_enumerate_1 _) (F.newCall_enumerate_1 _) (fun self => F.args_object_init_2 self _) F.entry_enumerate_new (enumNew (begins_tuple t items)) ⟨ht, ?_⟩
  have e1 : (s.heap.push { cls := .type "tuple_iterator", data := .fields #[.ref t, .int 0 0] }).objs.size = s.heap.objs.size + 1 := Heap.size_push ..
  show _ ∧ _
  rw [e1]
  have e2 : IsEnum ((s.heap.push { cls := .type "tuple_iterator", data := .fields #[.ref t, .int 0 0] }).push { cls := .type "enumerate", data := .fields #[.none, .bool false, .ref s.heap.objs.size, rawInt 0, .none, .none] })
      (s.heap.objs.size + 1) s.heap.objs.size 0 .none := by
    have z := Heap.get?_push_size (s.heap.push { cls := .type "tuple_iterator", data := .fields #[.ref t, .int 0 0] }) (o := { cls := .type "enumerate", data := .fields #[.none, .bool false, .ref s.heap.objs.size, rawInt 0, .none, .none] }) rfl
    rw [e1] at z
    exact z
  exact ⟨⟨_, e2, rfl⟩, h _ e2 ⟨_, Heap.get?_push_of_some _ (Heap.get?_push_size _ rfl), rfl, rfl⟩ fun b ob x => Heap.get?_push_of_some _ (Heap.get?_push_of_some _ x)⟩
/-- the tuple at a as it stands at each turn, each item in a new pair -/
def ItU (K : PySem.W.Frag) (a : Addr) : It where
  go := fun i H => ∃ (xs : List V) (x : V), SqT K H a xs ∧ xs[i]? = some x
  yld := fun i H v H' => ∃ T x, v = .ref T ∧ H T = none ∧ H' = upd H T (.tup [.int (i : Nat), x]) ∧ ∀ xs, SqT K H a xs → xs[i]? = some x
  stop := fun i H => ∃ xs : List V, SqT K H a xs ∧ xs.length = i
theorem enum_apart {h : Heap} {e it a : Addr} {i : Int} {old : Value} {items : Array Value} (he : IsEnum h e it i old) (ht : h.IsTuple a items) : e ≠ a := fun z => by
  obtain ⟨ob, h1, h2, _⟩ := ht
  rw [← z, he] at h1
  have h3 := Option.some.inj h1
  subst h3
  exact absurd (Value.type.inj h2) (by decide)
theorem iter_apart {h : Heap} {it a : Addr} {i : Nat} {items : Array Value} (hi : h.IsTupleIter it a i) (ht : h.IsTuple a items) : a ≠ it := fun z => by
  obtain ⟨ob, h1, h2, _⟩ := ht
  obtain ⟨oc, h4, h5, _⟩ := hi
  rw [z, h4] at h1
  have h3 := Option.some.inj h1
  subst h3
  rw [h5] at h2
  exact absurd (Value.type.inj h2) (by decide)
theorem turnU {P : Program} {w : World} {K : PySem.W.Frag} {elts : List Expr} {kk : Nat} {tpos : Pos} (a e it : Addr) :
    Turn P w K (.Tuple elts kk tpos) (ItU K a) [e, it] e (fun i h => (∃ old, IsEnum h e it ((i : Nat) : Int) old) ∧ h.IsTupleIter it a i ∧ e ≠ it) where
  mem := List.mem_cons_self
  obj := fun i h st b hb => by
    obtain ⟨⟨u, hu⟩, ⟨ob, h1, h2, h3⟩, _⟩ := st
    rcases List.mem_cons.mp hb with z | z
    · rw [z]
      exact ⟨_, hu, fun v q => nomatch q⟩
    · rw [List.mem_singleton.mp z]
      exact ⟨ob, h1, fun v q => by rw [h3] at q; cases q⟩
  keep := fun i h h' st k => ⟨st.1.imp fun u hu => k e List.mem_cons_self _ hu, st.2.1.at fun ob q => k it (List.mem_cons_of_mem _ List.mem_cons_self) ob q, st.2.2⟩
  item := by
    intro X hP hw hK hc i pins s σ H E I hf st hg
    subst hP hw hK
    obtain ⟨⟨u0, hu0⟩, hit, hei⟩ := st
    obtain ⟨xs, x, hq, hx⟩ := hg
    obtain ⟨its, rv, p, hz⟩ := I.tuple hq
    obtain ⟨ob, p1, p2, n, p3⟩ := id p
    have ht : s.heap.IsTuple a its.toArray := ⟨ob, p1, p2, n, p3⟩
    obtain ⟨y, hy, ry⟩ := rv.get hx
    have le : e < s.heap.objs.size := Heap.lt_size hu0
    have li : it < s.heap.objs.size := by
      obtain ⟨_, q, _⟩ := hit
      exact Heap.lt_size q
    have hil : i < its.toArray.size := by
      have := (List.getElem?_eq_some_iff.mp hy).1
      simpa using this
    have nea := enum_apart hu0 ht
    have nia := iter_apart hit ht
    refine wpAny_pyNext_enum_itemD (Draws.tuple (A := X.A.in1) (I.ok.hd hc) it a nia its.toArray) hu0 ⟨hit, ht⟩ hil hei (by simp [hei, nea]) fun x' h' tk hP ho hS hT hsz hk => ?_
    have exy : x' = y := by
      have q1 : its[i]? = some x' := by simpa using hP
      rw [hy] at q1
      exact (Option.some.inj q1).symm
    subst exy
    refine ⟨_, rfl, wpAny_letOwnedTupleGo_enum (s := { s with heap := h', toks := tk + 1 }) ho fun h'' he'' sb => ?_⟩
    have hT2 : h''.get? s.heap.objs.size = some { cls := .type "tuple", data := .seq #[.int i tk, x'] } := (sb.2 _ (Nat.ne_of_gt le)).trans hT
    have I1 : Inv X pins σ (upd H s.heap.objs.size (.tup [.int (i : Nat), x])) { s with heap := h'', toks := tk + 1 } := by
      refine I.turnedNew (ch := [e, it]) (fun b ob hb q => ?_) hf (Nat.le_refl _) ?_
      · have h1 : b ≠ e := fun z => hb (by simp [z])
        have h2 : b ≠ it := fun z => hb (by simp [z])
        exact (sb.2 b h1).trans (hk b ob h1 h2 q)
      · exact ⟨by show 2 ≤ sizeLine; decide, [.int i tk, x'], .cons ⟨_, rfl⟩ (.cons ry .nil), ⟨_, hT2, rfl, _, rfl⟩⟩
    refine ⟨.ref s.heap.objs.size, _, I1, rfl, ⟨_, x, rfl, I.hok.fresh (Nat.le_refl _), rfl, fun ys hy' => by rw [I.tuple_inj hy' hq]; exact hx⟩, ⟨⟨x', ?_⟩, hS.1.at fun ob q => (sb.2 it hei.symm).trans q, hei⟩, fun b hb => ?_⟩
    · rw [show ((i + 1 : Nat) : Int) = (i : Int) + 1 by omega]
      exact he''
    · have lb : b < s.heap.objs.size := by
        rcases List.mem_cons.mp hb with z | z
        · rw [z]; exact le
        · rw [List.mem_singleton.mp z]; exact li
      rw [upd_ne (Nat.ne_of_lt lb)]
      exact (hf b hb).1
  done := by
    intro X hP hw hK hc i pins s σ H E I hf st hg
    subst hP hw hK
    obtain ⟨⟨u0, hu0⟩, hit, hei⟩ := st
    obtain ⟨xs, hq, hx⟩ := hg
    obtain ⟨its, rv, p, hz⟩ := I.tuple hq
    obtain ⟨ob, p1, p2, n, p3⟩ := id p
    have ht : s.heap.IsTuple a its.toArray := ⟨ob, p1, p2, n, p3⟩
    obtain ⟨f0, f1, f2, f3, f4, f5⟩ := hf it (List.mem_cons_of_mem _ List.mem_cons_self)
    have hl := rv.length
    have nia := iter_apart hit ht
    have ei : i = its.toArray.size := by
      rw [List.size_toArray]
      omega
    rw [ei] at hit
    exact wpAny_pyNext_enum_endD (Draws.tuple (A := X.A.in1) (I.ok.hd hc) it a nia its.toArray) hu0 ⟨hit, ht⟩ fun h' eb => ⟨rfl, I.turned (t' := s.toks) (fun b ob hb q => eb b ob hb q) f0 f1 f3 f4 f5⟩
  self := fun A i s Q E st h => st.1.elim fun u hu => wpAny_pyIter_enum hu h
/-- for i, x in enumerate(t) -/
def iEnumU (K : PySem.W.Frag) (ta : TA) : TI := fun σ H R => ta σ H fun vs H1 => ∃ a xs, vs = [.ref a] ∧ SqT K H1 a xs ∧ R (ItU K a) H1
theorem pi_enumU {X : Cx} {e : Expr} {ta : TA} {p pos tpos : Pos} {elts : List Expr} {kk : Nat} (hg : Gl X "enumerate") (hm : X.mg "enumerate" = none) (ha : PA X [e] ta)
    (hs : starEach [e] X.env = [(false, eval e X.env)] := by rfl) : PI X (.Tuple elts kk tpos) (.Call (.Name "enumerate" p) [e] [] pos) (iEnumU X.K ta) := by
  refine ⟨fun pins s σ H R I hyp => Call_ (ld_blt I hg hm boot_enumerate (PyProof.Rows.callWith_type1 (thn (ha.run pos pins s σ H _ I hyp) fun us s1 got => ?_) hs rfl))⟩
  obtain ⟨vs, H1, I1, r1, a, xs, rfl, hq, q⟩ := got
  cases r1 with
  | cons r rr =>
    cases rr
    cases r
    obtain ⟨its, rv, ⟨ob, p1, p2, n, p3⟩, hz⟩ := I1.tuple hq
    refine callEnumT (items := its.toArray) ⟨ob, p1, p2, n, p3⟩ fun h' he hit hk => wpAny_pyIter_enum he ?_
    have I2 : Inv X pins σ H1 { s1 with heap := h' } := I1.kept (t' := s1.toks) hk
    refine ⟨s1.heap.objs.size + 1, [s1.heap.objs.size + 1, s1.heap.objs.size], _, _, H1, rfl, I2, turnU a (s1.heap.objs.size + 1) s1.heap.objs.size, ⟨⟨.none, he⟩, hit, Nat.succ_ne_self _⟩, fun b hb => ?_, q⟩
    have hle : s1.heap.objs.size ≤ b := by
      rcases List.mem_cons.mp hb with z | z
      · rw [z]
        exact Nat.le_succ _
      · rw [List.mem_singleton.mp z]
        exact Nat.le_refl _
    exact I1.fpOk hle (I1.hok.fresh hle)
theorem walkU {K : PySem.W.Frag} {a : Addr} {xs : List V} : Walk (ItU K a) xs.length (fun H => SqT K H a xs) (YPair (fun i => some (.int (i : Nat))) (fun i => xs[i]?)) := by
  refine ⟨fun i H hi hq => ⟨xs, xs[i], hq, by simp [hi]⟩, fun H hq => ⟨xs, hq, rfl⟩, fun i H v H' _ hq y => ?_⟩
  obtain ⟨T, x, h1, h2, h3, h4⟩ := y
  exact ⟨T, .int (i : Nat), x, h1, h2, h3, rfl, h4 xs hq⟩
end Rg

set_option Elab.async false
set_option linter.all false
set_option maxRecDepth 100000
set_option maxHeartbeats 2000000
namespace Rg
open PySem PySem.Spec PyProof.Rows L2
/-! ### texts: rules with a name -/
def rM0 (g : Str → V) : V → List V → Hp → VK → Prop := fun x xs H Q => ∃ a, x = .str a ∧ xs = [] ∧ True ∧ Q (g a) H
def rM1 (g : Str → Str → V) : V → List V → Hp → VK → Prop := fun x xs H Q => ∃ a b, x = .str a ∧ xs = [.str b] ∧ Q (g a b) H
def rSplit2 : V → List V → Hp → VK → Prop := fun x xs H Q => ∃ a b, x = .str a ∧ xs = [.str b] ∧ (b.length == 0) = false ∧ a.length + 2 ≤ sizeLine ∧ rNewStrs (Txt.split a b) H Q
def rJoin2 (K : PySem.W.Frag) : V → List V → Hp → VK → Prop := fun x xs H Q => ∃ a p, ∃ ys : List Str, x = .str a ∧ xs = [.ref p] ∧ (SqL K H p (ys.map V.str) ∨ SqT K H p (ys.map V.str)) ∧
  (ys.map (·.length)).sum + ys.length * a.length ≤ 16777216 ∧ Q (.str (Txt.join a ys)) H
def rLenS2 : List V → Hp → VK → Prop := fun xs H Q => ∃ z, xs = [.str z] ∧ z.length ≤ sizeLine ∧ Q (.int z.length) H
def rStrI : List V → Hp → VK → Prop := fun xs H Q => ∃ i, xs = [.int i] ∧ i.natAbs.log2 < 1920 ∧ Q (.str (toString i)) H
def rIntS : List V → Hp → VK → Prop := fun xs H Q => ∃ a n, xs = [.str a] ∧ PySem.intText? a = some n ∧ a.length ≤ 640 ∧ Q (.int n) H
def rAddS2 : R2 := fun x y H Q => ∃ i j, x = .str i ∧ y = .str j ∧ i.length + j.length ≤ sizeLine ∧ Q (.str (i ++ j)) H
section
variable {X : Cx}
theorem c_isascii : MtR X "str.isascii" (rM0 fun a => .bl (Txt.isascii a)) := mt_isascii
theorem c_isdigit : MtR X "str.isdigit" (rM0 fun a => .bl (Txt.isdigit a)) := mt_isdigit
theorem c_startswith : MtR X "str.startswith" (rM1 fun a b => .bl (Txt.startswith a b)) := mt_startswith
theorem c_split : MtR X "str.split" rSplit2 := mt_split
theorem c_join : MtR X "str.join" (rJoin2 X.K) := mt_join
theorem c_lenS : CallR X (.builtin "len") rLenS2 := call_len_str
theorem c_strI : CallR X (.type "str") rStrI := call_str_int
theorem c_intS : CallR X (.type "int") rIntS := call_int_str
theorem c_addS : OpR X (binaryOp .Add) rAddS2 := op_add_str
end
section
variable {d : Addr} {n : Nat} {L : Led} {H : Hp} {σ : L2.St} {Q : VK} {to te : TE} {K : PySem.W.Frag} {a b : Str} {i : Int} {p : Addr}
theorem kM0 {g : Str → V} (h : to σ H fun x H1 => ∃ a, x = .str a ∧ Q (g a) H1) (mono : ∀ R R' : VK, (∀ v H1, R v H1 → R' v H1) → to σ H R → to σ H R') : tM0 (rM0 g) to σ H Q :=
  mono _ _ (fun _ _ ⟨a, e, q⟩ => ⟨⟨a, e⟩, a, e, rfl, True.intro, q⟩) h
theorem kM0v {g : Str → V} {j : Nat} (h : σ[j]? = some (some (.str a))) (q : Q (g a) H) : tM0 (rM0 g) (tVar j) σ H Q := ⟨_, h, ⟨a, rfl⟩, a, rfl, rfl, True.intro, q⟩
theorem kM1v {r : V → List V → Hp → VK → Prop} {j : Nat} (h : σ[j]? = some (some (.str a))) (q : te σ H fun y H2 => r (.str a) [y] H2 Q) : tM1 r (tVar j) te σ H Q := ⟨_, h, ⟨a, rfl⟩, q⟩
theorem kM1c {r : V → List V → Hp → VK → Prop} (q : te σ H fun y H2 => r (.str a) [y] H2 Q) : tM1 r (tC (.str a)) te σ H Q := ⟨⟨a, rfl⟩, q⟩
theorem kR1 {g : Str → Str → V} (q : Q (g a b) H) : rM1 g (.str a) [.str b] H Q := ⟨a, b, rfl, rfl, q⟩
theorem kSplitK (hb : (b.length == 0) = false) (hz : a.length ≤ 100000) (k : Kn d n L H) (q : ∀ p H', Kn d n ((p, .lst ((Txt.split a b).map V.str)) :: L) H' → Q (.ref p) H') : rSplit2 (.str a) [.str b] H Q :=
  ⟨a, b, rfl, rfl, hb, Nat.le_trans (Nat.add_le_add_right hz 2) (by decide), fun p hp => q p _ (k.new hp)⟩
theorem kJoinS {ys : List Str} (h : SqL K H p (ys.map V.str)) (hz : (ys.map (·.length)).sum + ys.length * a.length ≤ 16777216) (q : Q (.str (Txt.join a ys)) H) : rJoin2 K (.str a) [.ref p] H Q := ⟨a, p, ys, rfl, rfl, .inl h, hz, q⟩
theorem kLenS (hz : a.length ≤ 100000) (q : Q (.int a.length) H) : rLenS2 [.str a] H Q := ⟨a, rfl, szL hz, q⟩
theorem kStrI (hz : i.natAbs.log2 < 1920) (q : Q (.str (toString i)) H) : rStrI [.int i] H Q := ⟨i, rfl, hz, q⟩
theorem kIntS (h : PySem.intText? a = some i) (hz : a.length ≤ 640) (q : Q (.int i) H) : rIntS [.str a] H Q := ⟨a, i, rfl, h, hz, q⟩
theorem kAddS (hz : a.length + b.length ≤ 100000) (q : Q (.str (a ++ b)) H) : rAddS2 (.str a) (.str b) H Q := ⟨a, b, rfl, rfl, szL hz, q⟩
end
theorem iteS {a b : Str} {A B : Prop} (h1 : a = b → A) (h2 : a ≠ b → B) : if decide (V.str a = V.str b) = true then A else B :=
  iteD (fun e => h1 (V.str.inj e)) fun e => h2 fun z => e (congrArg V.str z)
theorem iteSN {a b : Str} {A B : Prop} (h1 : a ≠ b → A) (h2 : a = b → B) : if (!decide (V.str a = V.str b)) = true then A else B :=
  iteN (fun e => h1 fun z => e (congrArg V.str z)) fun e => h2 (V.str.inj e)

theorem kYes {σ : L2.St} {H : Hp} {Q : Bool → Hp → Prop} (q : Q true H) : tYes σ H Q := q
/-! ### comprehensions over a tuple, over enumerate(tuple) -/
theorem kLcT {d : Addr} {n : Nat} {L : Led} {H : Hp} {K : PySem.W.Frag} {σ : L2.St} {Q : VK} {p : Addr} {xs : List V} {te0 te : TE} {tt : TT} {j : Nat} {vs : List Nat} (k : Kn d n L H) (hp : (p, .tup xs) ∈ L) (src : ∀ R : VK, R (.ref p) H → te0 σ H R)
    (hz : xs.length ≤ 100000) (acc : Nat → List V) (a0 : acc 0 = []) (al : ∀ i, (acc i).length ≤ i) (hw : ∀ x, wipe ((wipe σ vs).set j (some x)) vs = wipe σ vs)
    (turn : ∀ i x H' D, xs[i]? = some x → Kn d n ((D, .lst (acc i)) :: L) H' → ∀ (N1 : VK) (N2 : Hp → Prop), (∀ y H4, Kn d n ((D, .lst (acc i)) :: L) H4 → acc (i + 1) = acc i ++ [y] → N1 y H4) → (∀ H3, Kn d n ((D, .lst (acc i)) :: L) H3 → acc (i + 1) = acc i → N2 H3) →
      tt ((wipe σ vs).set j (some x)) H' fun b H3 => if b = true then te ((wipe σ vs).set j (some x)) H3 N1 else N2 H3)
    (q : ∀ D H', Kn d n ((D, .lst (acc xs.length)) :: L) H' → Q (.ref D) H') : tLc (iTup K te0) (gName j) tt te vs σ H Q := by
  refine src _ ⟨p, rfl, ⟨xs, k.seqT hp⟩, fun D hD => lc_tup (xs := xs) (fun i H' => Kn d n ((D, .lst (acc i)) :: L) H') ?_ (fun i H' _ kn => kn.seqT (List.mem_cons_of_mem _ hp)) (fun i x H' hx kn => ⟨hw x, ?_⟩) (fun H' kn => q D H' kn)⟩
  · rw [a0]
    exact k.new hD
  · have hi : i < xs.length := (List.getElem?_eq_some_iff.mp hx).1
    refine turn i x H' D hx kn _ _ (fun y H4 kn4 e => ⟨acc i, kn4.at 0 rfl, szL' (by have := al i; omega), ?_⟩) (fun H3 kn3 e => ?_)
    · rw [e]
      exact kn4.put 0 rfl
    · rw [e]
      exact kn3
theorem kLcE {d : Addr} {n : Nat} {L : Led} {H : Hp} {K : PySem.W.Frag} {σ : L2.St} {Q : VK} {p : Addr} {xs : List V} {te0 te : TE} {tt : TT} {j l : Nat} {vs : List Nat} (k : Kn d n L H) (hp : (p, .tup xs) ∈ L) (src : ∀ R : VK, R (.ref p) H → te0 σ H R)
    (hz : xs.length ≤ 100000) (acc : Nat → List V) (a0 : acc 0 = []) (al : ∀ i, (acc i).length ≤ i) (hw : ∀ x y, wipe (((wipe σ vs).set j (some x)).set l (some y)) vs = wipe σ vs)
    (turn : ∀ (i : Nat) x H' D T, xs[i]? = some x → Kn d n ((T, .tup [.int i, x]) :: (D, .lst (acc i)) :: L) H' → ∀ (N1 : VK) (N2 : Hp → Prop), (∀ y H4, Kn d n ((T, .tup [.int i, x]) :: (D, .lst (acc i)) :: L) H4 → acc (i + 1) = acc i ++ [y] → N1 y H4) →
      (∀ H3, Kn d n ((T, .tup [.int i, x]) :: (D, .lst (acc i)) :: L) H3 → acc (i + 1) = acc i → N2 H3) →
      tt (((wipe σ vs).set j (some (.int (i : Int)))).set l (some x)) H' fun b H3 => if b = true then te (((wipe σ vs).set j (some (.int (i : Int)))).set l (some x)) H3 N1 else N2 H3)
    (q : ∀ D H', Kn d n ((D, .lst (acc xs.length)) :: L) H' → Q (.ref D) H') : tLc (iEnumU K (tCons te0 tNil)) (gTup K 2 (gCons (gName j) (gCons (gName l) gNil))) tt te vs σ H Q := by
  refine src _ ⟨p, xs, rfl, k.seqT hp, fun D hD => lc_it (walkU (xs := xs)) (fun i H' => Kn d n ((D, .lst (acc i)) :: L) H') ?_ (fun i H' _ kn => kn.seqT (List.mem_cons_of_mem _ hp)) (fun i v H1 H' hi kn y => ?_) (fun H' kn => q D H' kn)⟩
  · rw [a0]
    exact k.new hD
  · obtain ⟨T, x1, x, rfl, hT, rfl, e1, hx⟩ := y
    have e1' := Option.some.inj e1
    subst e1'
    have kt := kn.new (o := .tup [.int (i : Int), x]) hT
    refine ⟨T, [.int (i : Int), x], rfl, kt.seqT List.mem_cons_self, rfl, _, _, rfl, _, _, rfl, rfl, hw _ _, ?_⟩
    refine turn i x _ D T hx kt _ _ (fun y H4 kn4 e => ⟨acc i, kn4.at 1 rfl, szL' (by have := al i; omega), ?_⟩) (fun H3 kn3 e => ?_)
    · rw [e]
      exact (kn4.put 1 rfl).tail
    · rw [e]
      exact kn3.tail
/-! ### all of a list of truths -/
def rAll2 (K : PySem.W.Frag) : List V → Hp → VK → Prop := fun vs H Q => ∃ (a : Addr) (bs : List Bool), vs = [V.ref a] ∧ SqL K H a (bs.map V.bl) ∧ Q (.bl (bs.all id)) H
theorem c_all {X : Cx} (hc : X.calm = true) : CallR X (.builtin "all") (rAll2 X.K) := cr_all hc
theorem kAll {K : PySem.W.Frag} {H : Hp} {Q : VK} {p : Addr} {bs : List Bool} (h : SqL K H p (bs.map V.bl)) (q : Q (.bl (bs.all id)) H) : rAll2 K [.ref p] H Q := ⟨p, bs, rfl, h, q⟩
/-! ### is, of truths -/
theorem kIsB {H : Hp} {Q : VK} {a b : Bool} (q : Q (.bl (decide (a = b))) H) : rIsB (.bl a) (.bl b) H Q := ⟨a, b, rfl, rfl, q⟩
theorem kNotB {H : Hp} {Q : VK} {a b : Bool} (q : Q (.bl (!decide (a = b))) H) : rNotB (.bl a) (.bl b) H Q := ⟨a, b, rfl, rfl, q⟩
end Rg

set_option Elab.async false
set_option linter.all false
set_option maxRecDepth 100000
set_option maxHeartbeats 2000000
namespace Rg
open PySem PySem.Spec PyProof.Rows L2
/-! ### lists: insert, times, plus, in, index, an item stored -/
def rIns2 : V → List V → Hp → VK → Prop := fun x vs H Q => ∃ (l : Addr) (xs : List V) (i : Int) (y : V), x = .ref l ∧ vs = [.int i, y] ∧ H l = some (.lst xs) ∧ xs.length < sizeLine ∧ 0 ≤ i ∧ i < 2 ^ 63 ∧
  Q .non (upd H l (.lst (xs.take i.toNat ++ [y] ++ xs.drop i.toNat)))
theorem c_insert {X : Cx} : MtR X "list.insert" rIns2 := mt_insert
section
variable {d : Addr} {n : Nat} {L : Led} {H : Hp} {σ : L2.St} {Q : VK} {K : PySem.W.Frag} {p q : Addr} {v : V} {xs ys : List V} {k : Int}
theorem kInsK (kn : Kn d n L H) (j : Nat) (h : L[j]? = some (p, .lst xs)) (z : xs.length < 100000) (k0 : 0 ≤ k) (k1 : k < 100000) (g : ∀ H', Kn d n (L.set j (p, .lst (xs.take k.toNat ++ [v] ++ xs.drop k.toNat))) H' → Q .non H') : rIns2 (.ref p) [.int k, v] H Q :=
  ⟨p, xs, k, v, rfl, rfl, kn.at j h, szL' z, k0, by omega, g _ (kn.put j h)⟩
theorem kRepK (kn : Kn d n L H) (h : (p, .lst xs) ∈ L) (k0 : 0 ≤ k) (k1 : k ≤ 100000) (z : xs.length * k.toNat ≤ 100000) (g : ∀ l H', Kn d n ((l, .lst (List.replicate k.toNat xs).flatten) :: L) H' → Q (.ref l) H') : rRep (.ref p) (.int k) H Q :=
  ⟨p, k, xs, rfl, rfl, kn.mem h, by omega, by omega, szL z, fun l hl => g l _ (kn.new hl)⟩
theorem kCatK (kn : Kn d n L H) (h1 : (p, .lst xs) ∈ L) (h2 : (q, .lst ys) ∈ L) (z : xs.length + ys.length ≤ 100000) (g : ∀ l H', Kn d n ((l, .lst (xs ++ ys)) :: L) H' → Q (.ref l) H') : rCat (.ref p) (.ref q) H Q :=
  ⟨p, q, xs, ys, rfl, rfl, kn.mem h1, kn.mem h2, szL z, fun l hl => g l _ (kn.new hl)⟩
theorem flatInts : ∀ ns : List Int, (ns.map V.int).all flatV = true
  | [] => rfl
  | _ :: r => by
    rw [List.map_cons, List.all_cons, flatInts r]
    rfl
theorem inInts (x : Int) : ∀ ns : List Int, inV (.int x) (ns.map V.int) = decide (x ∈ ns)
  | [] => rfl
  | y :: r => by
    have ih := inInts x r
    unfold inV at ih ⊢
    rw [List.map_cons, List.any_cons, ih]
    by_cases h1 : y = x
    · subst h1
      simp [eqV]
    · have h2 : ¬ x = y := fun e => h1 e.symm
      simp [eqV, h1, h2]
theorem kInL {x : Int} {ns : List Int} (h : SqL K H p (ns.map V.int)) (g : Q (.bl (decide (x ∈ ns))) H) : rIn K false (.int x) (.ref p) H Q := by
  refine ⟨p, _, rfl, .inl h, rfl, flatInts ns, ?_⟩
  rw [if_neg Bool.false_ne_true, inInts]
  exact g
theorem kIndex {x : Int} {ns : List Int} {j : Nat} (h : SqL K H p (ns.map V.int)) (hj : ns[j]? = some x) (hm : ∀ m < j, ns[m]? ≠ some x) (g : Q (.int (j : Int)) H) : rIndex K (.ref p) [.int x] H Q := by
  refine ⟨p, _, .int x, j, .int x, rfl, rfl, h, rfl, flatInts ns, by rw [List.getElem?_map, hj]; rfl, by simp [eqV], fun m z' hmj hz => ?_, g⟩
  rw [List.getElem?_map] at hz
  cases e : ns[m]? with
  | none => rw [e] at hz; cases hz
  | some y =>
    rw [e] at hz
    have hy : V.int y = z' := Option.some.inj hz
    rw [← hy]
    have : y ≠ x := fun z => hm m hmj (by rw [e, z])
    simp [eqV, this]
theorem kSetK (kn : Kn d n L H) (i : Nat) (h : L[i]? = some (p, .lst xs)) {j : Nat} (e : k = (j : Int)) (hj : j < xs.length) {R : Hp → Prop} (g : ∀ H', Kn d n (L.set i (p, .lst (xs.set j v))) H' → R H') : rSetL (.ref p) (.int k) v H R := by
  subst e
  refine ⟨p, xs, _, j, rfl, rfl, kn.at i h, ?_, g _ (kn.put i h)⟩
  unfold ixN
  rw [if_pos (by omega), if_pos (by omega)]
  simp
end
theorem cutDrop (xs : List V) (k : Nat) (h : k ≤ xs.length) : cutV xs (some (k : Int)) none = xs.drop k := by
  unfold cutV
  rw [HT.sIx_nat, HT.sIx_none, Nat.min_eq_left h]
  exact List.take_of_length_le (by rw [List.length_drop]; exact Nat.le_refl _)
theorem cutTake (xs : List V) (k : Nat) (h : k ≤ xs.length) : cutV xs none (some (k : Int)) = xs.take k := by
  unfold cutV
  rw [HT.sIx_nat, HT.sIx_none, Nat.min_eq_left h, Nat.sub_zero, List.drop_zero]
/-! ### comprehensions over a range -/
theorem kLcR {d : Addr} {n : Nat} {L : Led} {H : Hp} {σ : L2.St} {Q : VK} {lo : Int} {N : Nat} {wi : TI} {te : TE} {tt : TT} {j : Nat} {vs : List Nat} (k : Kn d n L H) (src : ∀ R : It → Hp → Prop, R (Itr lo N) H → wi σ H R)
    (hz : N ≤ 100000) (acc : Nat → List V) (a0 : acc 0 = []) (al : ∀ i, (acc i).length ≤ i) (hw : ∀ x, wipe ((wipe σ vs).set j (some x)) vs = wipe σ vs)
    (turn : ∀ (i : Nat) H' D, i < N → Kn d n ((D, .lst (acc i)) :: L) H' → ∀ (N1 : VK) (N2 : Hp → Prop), (∀ y H4, Kn d n ((D, .lst (acc i)) :: L) H4 → acc (i + 1) = acc i ++ [y] → N1 y H4) → (∀ H3, Kn d n ((D, .lst (acc i)) :: L) H3 → acc (i + 1) = acc i → N2 H3) →
      tt ((wipe σ vs).set j (some (.int (lo + (i : Int))))) H' fun b H3 => if b = true then te ((wipe σ vs).set j (some (.int (lo + (i : Int))))) H3 N1 else N2 H3)
    (q : ∀ D H', Kn d n ((D, .lst (acc N)) :: L) H' → Q (.ref D) H') : tLc wi (gName j) tt te vs σ H Q := by
  refine src _ fun D hD => lc_range (lo := lo) (n := N) (fun i H' => Kn d n ((D, .lst (acc i)) :: L) H') ?_ (fun i H' hi kn => ⟨hw _, ?_⟩) (fun H' kn => q D H' kn)
  · rw [a0]
    exact k.new hD
  · refine turn i H' D hi kn _ _ (fun y H4 kn4 e => ⟨acc i, kn4.at 0 rfl, szL' (by have := al i; omega), ?_⟩) (fun H3 kn3 e => ?_)
    · rw [e]
      exact kn4.put 0 rfl
    · rw [e]
      exact kn3
theorem srcR1 {σ : L2.St} {H : Hp} {ta : TA} {n : Int} (h : ∀ R : List V → Hp → Prop, R [.int n] H → ta σ H R) (h0 : 0 ≤ n) (h1 : n ≤ 100000) (R : It → Hp → Prop) (q : R (Itr 0 n.toNat) H) : iRng1 ta σ H R := h _ ⟨n, rfl, by omega, by omega, q⟩
theorem srcR2 {σ : L2.St} {H : Hp} {ta : TA} {lo n : Int} (h : ∀ R : List V → Hp → Prop, R [.int lo, .int n] H → ta σ H R) (h0 : 0 ≤ lo) (h1 : n ≤ 100000) (h2 : lo ≤ 100000) (h3 : -100000 ≤ n) (R : It → Hp → Prop) (q : R (Itr lo (n - lo).toNat) H) : iRng2 ta σ H R :=
  h _ ⟨lo, n, rfl, ⟨by omega, by omega, by omega, by omega⟩, q⟩
/-! ### for i, x in enumerate(t) -/
theorem kForE {σ : L2.St} {H : Hp} {tb : TS} {j l : Nat} {te : TE} {K : PySem.W.Frag} {nx bk ct : L2.St → Hp → Prop} {rt : VK} {p : Addr} {xs : List V} (Pv : Nat → L2.St → Hp → Prop) (hq : SqT K H p xs) (h0 : Pv 0 σ H) (hl : ∀ i σ' H', i ≤ xs.length → Pv i σ' H' → SqT K H' p xs)
    (hs : ∀ (i : Nat) x σ' H' T, xs[i]? = some x → Pv i σ' H' → H' T = none → tb (Ends.mk (Pv (i + 1)) rt nx (Pv (i + 1))) ((σ'.set j (some (.int (i : Int)))).set l (some x)) (upd H' T (.tup [.int (i : Int), x]))) (hd : ∀ σ' H', Pv xs.length σ' H' → nx σ' H')
    (h : ∀ R : VK, R (.ref p) H → te σ H R) : tFor (iEnumU K (tCons te tNil)) (gTup K 2 (gCons (gName j) (gCons (gName l) gNil))) tb (Ends.mk nx rt bk ct) σ H := by
  refine h _ ⟨p, xs, rfl, hq, for_it (walkU (xs := xs)) Pv h0 hl (fun i v σ' H1 H' hi hp y => ?_) hd⟩
  obtain ⟨T, x1, x, rfl, hT, rfl, e1, hx⟩ := y
  have e1' := Option.some.inj e1
  subst e1'
  exact ⟨T, [.int (i : Int), x], rfl, .inl (.inl upd_same), rfl, _, _, rfl, _, _, rfl, rfl, hs i x σ' H1 T hx hp hT⟩
/-! ### so many different ones, and no more -/
theorem php : ∀ (n : Nat) (l : List Nat), l.Nodup → (∀ x ∈ l, x < n) → l.length ≤ n
  | 0, l, _, h => by
    cases l with
    | nil => exact Nat.le_refl _
    | cons x r => exact absurd (h x List.mem_cons_self) (Nat.not_lt_zero _)
  | n + 1, l, nd, h => by
    by_cases hm : n ∈ l
    · have ih := php n (l.erase n) (nd.erase n) fun x hx => by
        have h1 := h x (List.mem_of_mem_erase hx)
        have h2 : x ≠ n := fun e => by
          subst e
          exact (nd.not_mem_erase) hx
        omega
      rw [List.length_erase_of_mem hm] at ih
      omega
    · have ih := php n l nd fun x hx => by
        have h1 := h x hx
        have h2 : x ≠ n := fun e => hm (e ▸ hx)
        omega
      omega
theorem php_all {n : Nat} {l : List Nat} (nd : l.Nodup) (h : ∀ x ∈ l, x < n) (hl : l.length = n) {j : Nat} (hj : j < n) : j ∈ l := by
  by_cases hm : j ∈ l
  · exact hm
  · have := php n (j :: l) (List.nodup_cons.mpr ⟨hm, nd⟩) fun x hx => by
      rcases List.mem_cons.mp hx with rfl | hx
      · exact hj
      · exact h x hx
    rw [List.length_cons] at this
    omega
/-! ### rules whose written part is named -/
section
variable {X : Cx} {K : PySem.W.Frag}
theorem ixL (e : X.K = K) : IxR X (rIxL K) := e ▸ ix_list
theorem ixT (e : X.K = K) : IxR X (rIxT K) := e ▸ ix_tup
theorem ixQ (e : X.K = K) : IxR X (rIx K) := e ▸ ix_seq
theorem slL (e : X.K = K) : SlR X (rSlL K) := e ▸ sl_list
theorem inQ (e : X.K = K) : OpR X (compareOp .In) (rIn K false) := e ▸ op_in_seq
theorem niQ (e : X.K = K) : OpR X (compareOp .NotIn) (rIn K true) := e ▸ op_notIn_seq
theorem lenQ (e : X.K = K) : CallR X (.builtin "len") (rLen2 K) := e ▸ c_len
theorem isiQ (e : X.K = K) : CallR X (.builtin "isinstance") (rIsi K) := e ▸ call_isi
theorem eqQ (e : X.K = K) (hu : X.A.units + 64 < cLine) : OpR X (compareOp .Eq) (rEqD K) := e ▸ op_eqD hu
theorem neQ (e : X.K = K) (hu : X.A.units + 64 < cLine) : OpR X (compareOp .NotEq) (rNeD K) := e ▸ op_neD hu
end
end Rg

set_option Elab.async false
set_option linter.all false
set_option maxRecDepth 100000
set_option maxHeartbeats 2000000
/-! # A refusal with an __init__ of its own: super().__init__(message), self.field = field -/
namespace Rg
open PySem PySem.W PySem.Calls PySem.HandSPX PyProof.Rows
def inB (fld : Str) (msg : Expr) (p0 p1 p2 p3 p4 q1 q2 q3 q4 : Pos) : List Stmt :=
  [.Expr (.Call (.Attribute (.Call (.Name "super" p0) [] [] p1) "__init__" p2) [msg] [] p3) p4, .Assign [.Attribute (.Name "self" q1) fld q2] (.Name fld q3) q4]
/-- how the call of the base's __init__ goes -/
def SupForm (msg : Expr) (p0 p1 p2 p3 : Pos) (env : Env) : Prop := ∃ pl : Sem Bool, eval (.Call (.Attribute (.Call (.Name "super" p0) [] [] p1) "__init__" p2) [msg] [] p3) env = do
  let ov ← attributeBase (.Call (.Name "super" p0) [] [] p1) "__init__" env (eval (.Call (.Name "super" p0) [] [] p1) env)
  standAt p2.atName
  let (f, first) ← holding [ov] (getMethod ov "__init__" pl)
  callWith p3 f first (backTo p3 (starEach [msg] env)) []
/-- what the written part says of a refusal's class at C, of its __init__ at fI -/
structure ExT (prog : Program) (K : Frag) (mg : Str → Option Value) (fld : Str) (C fI : Addr) (bmB : List Value) : Prop where
  cls : ∃ nm q N bs bm sn sub ab col dd k0 k1 k2 k3 k5, K.lookup C = some (excClassObj nm q C N bs bm true sn sub ab col dd k0 k1 k2 k3 k5 "ValueError.__new__") ∧ refsVE bm = true
  base : ExcBaseFacts "ValueError" "ValueError.__new__" "ValueError.__init__" bmB
  exIn : excInitIn K C bmB "ValueError.__new__" = true
  sa : findIn K (.ref C) "__setattr__" = some (some (.builtin "object.__setattr__"))
  noN : findIn K (.ref C) fld = some none
  iC : findIn K (.ref C) "__init__" = some (some (.ref fI))
  tI : typeIn K (.ref fI) = some (.type "function")
  kC : keepIn K (.ref C) = true
  exC : subIn K (.ref C) (.type "BaseException") = some true
  veC : subIn K (.ref C) (.type "ValueError") = some true
  ccC : subIn K (.ref C) (.ref C) = some true
  tyC : typeIn K (.ref C) = some (.type "type")
  sup : ks_superIn K C C "__init__" = some (some (.builtin "ValueError.__init__"))
  noO : nsIn K cStatics "thirdparty.any" = some none
  msup : mg "super" = none
  top : (prog.main.scope.names.lookup ("super" : Str)).isSome = false
/-- its __init__, the message written -/
structure ExI (prog : Program) (K : Frag) (fld : Str) (C fI : Addr) (fd : FuncData) (msg : Expr) : Prop where
  fn : ∃ oc od osl, K.lookup fI = some ⟨oc, od, .func fd, osl⟩
  body : ∃ p0 p1 p2 p3 p4 q1 q2 q3 q4, fd.body = .stmts (inB fld msg p0 p1 p2 p3 p4 q1 q2 q3 q4) ∧ (∀ env : Env, SupForm msg p0 p1 p2 p3 env) ∧ (∀ env : Env, starEach [msg] env = (false, eval msg env) :: starEach [] env) ∧ (∀ env : Env, swapsWith (.Call (.Attribute (.Call (.Name "super" p0) [] [] p1) "__init__" p2) [msg] [] p3) none p4.line env = pure false)
  bind : ∀ (s : Shared) (x v : Value), BindsTo s fd ⟨[x, v], []⟩ [("self", x), (fld, v)]
  noc : ∀ x ∈ fd.scope.names, x.2 ≠ .cell
  cor : fd.scope.isCoroutine = false
  gen : fd.scope.isGenerator = false
  kind : fd.scope.kind = .function
  kself : fd.scope.names.lookup ("self" : Str) = some .local
  kfld : fd.scope.names.lookup fld = some .local
  ksup : fd.scope.names.lookup ("super" : Str) = some .globalImplicit
  kcls : fd.scope.names.lookup ("__class__" : Str) = some .free
  code : ∃ cda c1 e1 vs s1 file tf, fd.code = .ref cda ∧ K.lookup cda = some ⟨c1, e1, .fields vs, s1⟩ ∧ vs[2]? = some (.str file tf) ∧ ((prog.main.file : Str) == file) = true
  crec : codeIn K fd.code fd.qualname = true
  clo : ∃ cc c2 e2 s2, fd.closure.lookup ("__class__" : Str) = some cc ∧ K.lookup cc = some ⟨c2, e2, .cell (some (.ref C)), s2⟩
  gl : fd.globals = mainGlobals
  bu : fd.builtins = builtinsNs
  hd : ∃ ar, (fd.params.posonlyargs ++ fd.params.args).head? = some ar ∧ ar.arg = ("self" : Str)
  dbg : (fld == ("__debug__" : Str)) = false
  nsf : fld ≠ ("self" : Str)
/-- a message is made wherever the field's name holds such a value -/
def MsgOk (prog : Program) (w : World) (fld : Str) (msg : Expr) (G : Value → Prop) : Prop := ∀ (A : Around) (E : Value → Shared → Prop) (s : Shared) (env : Env) (m : Str → Option Value) (v : Value) (Q : Value → Shared → Prop),
  env.scope.kind = .function → s.heap.Ns env.locals m → m fld = some v → env.kindOf fld = some .local → G v → (∀ u tk, Q u { s with toks := tk }) → wpAny (model prog w) A (eval msg env) Q E s
theorem msg_const {prog : Program} {w : World} {fld : Str} {x : Str} {j : Nat} {pos : Pos} {G : Value → Prop} : MsgOk prog w fld (.Constant (.str x) j pos) G := fun A E s env m v Q _ _ _ _ _ q => Constant_str (q _ _)
/-- the exception behind its __init__ -/
structure InEnd (fld : Str) (h0 h h' : Heap) (x C dx : Addr) (v : Value) : Prop where
  keep : ∀ b o, b ≠ x → h0.get? b = some o → h'.get? b = some o
  obj : ∃ t1 : Addr, h'.get? x = some { cls := .ref C, dict := some dx, data := .fields #[.ref t1, .none, .none, .none, .bool false, .none] }
  dbig : h.objs.size ≤ dx
  dne : dx ≠ x
  ns : h'.Ns1 dx (fun y => if y = fld then some v else none)
theorem size_one (v : Value) : [v].length ≤ sizeLine := by
  rw [sizeLine_eq]
  exact (by decide : 1 ≤ 16777216)
section
variable {prog : Program} {w : World} {A : Around} {R : Result → Shared → Prop} {K : Frag} {mg mb : Str → Option Value} {C fI : Addr} {fld : Str} {msg : Expr} {G : Value → Prop} {fd : FuncData} {bmB : List Value}
theorem ex_init (T : ExT prog K mg fld C fI bmB) (J : ExI prog K fld C fI fd msg) (hmsg : MsgOk prog w fld msg G) {h0 hp : Heap} {gs : Array GenState} {dr : Drawn} {tk : Nat} {os : OsState} {x t0 : Addr} {v : Value}
    (X0 : K.In h0) (k0 : ∀ b o, h0.get? b = some o → hp.get? b = some o) (x0 : h0.get? x = none) (sz0 : h0.objs.size ≤ hp.objs.size) (hlim : hp.NoLimit)
    (hg : hp.Ns mainGlobals mg) (hb : hp.Ns builtinsNs mb) (hbb : mb "super" = some (.type "super")) (hx : hp.get? x = some (excO C t0)) (hroom : A.depth < recursionLimit) (hv : G v)
    (hq : ∀ h' tk dx, InEnd fld h0 hp h' x C dx v → R (.ok (.ret .none)) ⟨h', gs, dr, tk, os⟩) : codeAny (model prog w) A (.call (.ref fI) ⟨[.ref x, v], []⟩) R ⟨hp, gs, dr, tk, os⟩ := by
  obtain ⟨oc, od, osl, hfn⟩ := J.fn
  obtain ⟨p0, p1, p2, p3, p4, q1, q2, q3, q4, hbody, hform, hstar, hswap⟩ := J.body
  obtain ⟨cda, c1, e1, vs, s1, file, tf, hcode, hcda, hvs, hfile⟩ := J.code
  obtain ⟨cc, c2, e2, s2, hclo, hcc⟩ := J.clo
  obtain ⟨ar, har, hself⟩ := J.hd
  obtain ⟨nm, qn, N, bs, bm, sn, sub, ab, col, dd, k1, k2, k3, k4, k5, hC, hbm⟩ := T.cls
  have hcl : clsIn K C = some { name := nm, bases := bs, mro := .ref C :: bm, ns := N, qualname := qn, hasDict := true, slotNames := sn, subclasses := sub, abstract := ab, collection := col, hasDel := false } := by unfold clsIn; rw [hC] <;> rfl
  have X : K.In hp := X0.keeps k0
  refine ks_codeAny_call_defAt (fd := fd) (binds := [("self", .ref x), (fld, v)]) hroom (X _ _ hfn) rfl hlim (codeRec_of X J.crec) hbody (J.bind _ _ _) J.noc (fun y hy => ?_) (fun h₁ hns hk₁ => ?_) J.cor J.gen J.kind
  · rcases List.mem_cons.mp hy with rfl | hy
    · exact J.kself
    · rw [List.mem_singleton.mp hy]
      exact J.kfld
  have hmself : (fun y : Str => List.lookup y ([(("self" : Str), Value.ref x), (fld, v)] : List (Str × Value)).reverse) "self" = some (.ref x) := by
    have z : (("self" : Str) == fld) = false := by simpa using Ne.symm J.nsf
    show List.lookup ("self" : Str) [(fld, v), (("self" : Str), Value.ref x)] = _
    simp [List.lookup, z]
  have hmfld : (fun y : Str => List.lookup y ([(("self" : Str), Value.ref x), (fld, v)] : List (Str × Value)).reverse) fld = some v := by
    show List.lookup fld [(fld, v), (("self" : Str), Value.ref x)] = _
    simp [List.lookup]
  have X₁ : K.In h₁ := X.keeps hk₁
  have hx₁ := hk₁ _ _ hx
  have hxL : x < hp.objs.size := Heap.lt_size hx
  have F₁ : Fr h0 hp.objs.size h₁ (fun y : Str => List.lookup y ([(("self" : Str), Value.ref x), (fld, v)] : List (Str × Value)).reverse) := ⟨hns, fun b o e => hk₁ _ _ (k0 _ _ e), sz0⟩
  have kN : ∀ {y : Str} {k : NameKind}, fd.scope.names.lookup y = some k → (callEnv fd hp.objs.size fI).kindOf y = some k := fun e => e
  have kK : (callEnv fd hp.objs.size fI).scope.kind = .function := J.kind
  have gG : h₁.Ns (callEnv fd hp.objs.size fI).globals mg := by
    show h₁.Ns fd.globals mg
    rw [J.gl]
    exact hg.keeps hk₁
  have gB : h₁.Ns (callEnv fd hp.objs.size fI).builtins mb := by
    show h₁.Ns fd.builtins mb
    rw [J.bu]
    exact hb.keeps hk₁
  have no0 : ∀ {b : Addr}, h0.objs.size ≤ b → h0.get? b = none := fun {b} le => by
    cases e : h0.get? b with
    | none => rfl
    | some o => exact absurd (Nat.lt_of_lt_of_le (Heap.lt_size e) le) (Nat.lt_irrefl _)
  have hL₁ : hp.objs.size < h₁.objs.size := hns.lt
  refine ks_wpAt_execs_cons (ks_wpAt_Expr_any ?_ (by first | rfl | (unfold interactive; rw [kK] <;> rfl)) (hswap _))
  obtain ⟨pl, hpl⟩ := hform (callEnv fd hp.objs.size fI)
  refine ks_wpAt_MethodCall (ks_wpAt_super_base (cc := cda) (f := fI) (ar := ar) (file := file) (tf := tf) (vs := vs) (fd := fd) (kN J.ksup) (kN J.kcls) rfl rfl (X₁ _ _ hfn) rfl har hcode (X₁ _ _ hcda) rfl hvs hfile T.top ?_) hpl
  refine ks_loadName_global kK (kN J.ksup) (loadGlobal_builtin gG T.msup gB hbb ⟨rfl, ?_⟩)
  refine wpAny_loadName_free kK (kN J.kcls) hclo ⟨_, X₁ _ _ hcc, rfl⟩ ?_
  rw [hself]
  refine wpAny_loadName_local kK (kN J.kself) hns hmself ?_
  refine ks_wpAny_isType_cls (X₁ _ _ hC) rfl ⟨rfl, ?_⟩
  refine ks_wpAny_call_super (X₁ _ _ hC) rfl hx₁ rfl (fun c e => by cases e) (looks_subIn X₁ T.ccC) (fun h₂ hso hk₂ => ?_)
  have F₂ : Fr h0 hp.objs.size h₂ (fun y : Str => List.lookup y ([(("self" : Str), Value.ref x), (fld, v)] : List (Str × Value)).reverse) := ⟨F₁.ns.keeps hk₂, fun b o e => hk₂ _ _ (F₁.keep _ _ e), sz0⟩
  have hx₂ := hk₂ _ _ hx₁
  have nsx : h₁.objs.size ≠ x := Nat.ne_of_gt (Nat.lt_trans hxL hL₁)
  have N₂ : News h0 hp.objs.size h₂ [(h₁.objs.size, ks_superObj C x C), (x, excObj C t0 none .none)] := by
    intro p hp'
    rcases List.mem_cons.mp hp' with rfl | hp'
    · exact ⟨hso, Nat.ne_of_gt hL₁, no0 (Nat.le_trans sz0 (Nat.le_of_lt hL₁))⟩
    · rw [List.mem_singleton.mp hp']
      exact ⟨hx₂, Nat.ne_of_lt hxL, x0⟩
  refine kxs_method kxs_ValueError F₂ X0 N₂ List.mem_cons_self (ox := excO C t0) (odx := none) ⟨hx₂, rfl, rfl, trivial⟩ T.noO T.sup T.veC rfl (fun q h₃ F₃ N₃ hq₃ => ?_)
  have nqx : q ≠ x := (Nat.ne_of_lt (hq₃ _ (List.mem_cons_of_mem _ List.mem_cons_self))).symm
  refine kxs_callWith1 N₃ List.mem_cons_self (spliced_more (hmsg _ _ _ _ _ v _ kK F₃.ns hmfld (kN J.kfld) hv (fun u tk₃ => spliced_none ⟨kxs_at N₃ List.mem_cons_self, ?_⟩)) (hstar _)) (hstar _)
  refine kxs_call F₃ X0 N₃ T.base T.exIn List.mem_cons_self (UpdF.tail nqx (UpdF.tail nsx (UpdF.head (by intro p hp'; cases hp')))) (size_one _) (fun t' h₄ F₄ N₄ _ => ?_)
  have hx₄ : h₄.get? x = some (excO C t') := (N₄ (x, excObj C t' none .none) (by simp)).1
  have X₄ : K.In h₄ := X0.keeps F₄.keep
  show PySem.wpAt _ _ _ _ _ _ _
  refine ks_wpAt_execs_cons (ks_wpAt_Assign_Attr (wpAt_of_wpAny (wpAny_Name (wpAny_loadName_local kK (kN J.kfld) F₄.ns hmfld ?_) J.dbg)) rfl)
  refine wpAny_Name (wpAny_loadName_local kK (kN J.kself) F₄.ns hmself ?_) (by decide)
  refine set_plain X₄ (ox := excO C t') (od := none) ⟨hx₄, rfl, rfl, trivial⟩ T.sa ?_
  refine exc_osa X₄ hx₄ hcl (show refsVE (.ref C :: bm) = true from hbm) rfl T.noN (fun h₅ tk₅ dx k₅ dn dne hx₅ hn₅ => ?_)
  have hL₄ : hp.objs.size < h₄.objs.size := F₄.ns.lt
  exact wpAt_of_wpAny (wpAny_execs_nil (hq h₅ tk₅ dx ⟨fun b o hb e => k₅ b o hb (F₄.keep b o e), ⟨t', hx₅⟩, Nat.le_of_lt (Nat.lt_of_lt_of_le hL₄ dn), dne, hn₅⟩))
/-- a made refusal -/
structure Made (fld : Str) (h h' : Heap) (e C d : Addr) (v : Value) : Prop where
  keep : ∀ b o, h.get? b = some o → h'.get? b = some o
  new : h.objs.size ≤ e
  obj : ∃ t1 : Addr, h'.get? e = some { cls := .ref C, dict := some d, data := .fields #[.ref t1, .none, .none, .none, .bool false, .none] }
  dbig : h.objs.size ≤ d
  dne : d ≠ e
  ns : h'.Ns1 d (fun y => if y = fld then some v else none)
theorem ex_made (T : ExT prog K mg fld C fI bmB) (J : ExI prog K fld C fI fd msg) (hmsg : MsgOk prog w fld msg G) {hp : Heap} {gs : Array GenState} {dr : Drawn} {tk : Nat} {os : OsState} {v : Value}
    (X : K.In hp) (hlim : hp.NoLimit) (hg : hp.Ns mainGlobals mg) (hb : hp.Ns builtinsNs mb) (hbb : mb "super" = some (.type "super")) (hroom : A.depth + 1 < recursionLimit) (hv : G v)
    (hq : ∀ h' tk e d, Made fld hp h' e C d v → R (.ok (.ret (.ref e))) ⟨h', gs, dr, tk, os⟩) : codeAny (model prog w) A (.call (.ref C) ⟨[v], []⟩) R ⟨hp, gs, dr, tk, os⟩ := by
  obtain ⟨nm, q, N, bs, bm, sn, sub, ab, col, dd, k0, k1, k2, k3, k5, hC, hbm⟩ := T.cls
  have k : ∀ b o, hp.get? b = some o → ((hp.push (kdv_tup [v])).push (excO C hp.objs.size)).get? b = some o := fun b o e => Heap.get?_push_of_some _ (Heap.get?_push_of_some _ e)
  have hget : ((hp.push (kdv_tup [v])).push (excO C hp.objs.size)).get? (hp.objs.size + 1) = some (excO C hp.objs.size) := by heap_get
  have x0 : hp.get? (hp.objs.size + 1) = none := by
    cases e : hp.get? (hp.objs.size + 1) with
    | none => rfl
    | some o => exact absurd (Nat.lt_of_succ_lt (Heap.lt_size e)) (Nat.lt_irrefl _)
  have hs : hp.objs.size ≤ ((hp.push (kdv_tup [v])).push (excO C hp.objs.size)).objs.size := by
    rw [Heap.size_push, Heap.size_push]
    exact Nat.le_succ_of_le (Nat.le_succ _)
  refine call_own F.excBase_ValueError (fun X => refsVE_contains X bm hbm) (X _ _ hC) (looks_findIn X T.iC) (fun self => bind_fn X self T.tI) (size_one v) ?_
  refine ex_init T J hmsg X k x0 hs (hlim.keeps k) (hg.keeps k) (hb.keeps k) hbb hget ?_ hv fun h' tk' dx ⟨k', hx, dn, dne, hns⟩ => ?_
  · show A.depth + 1 < recursionLimit
    exact hroom
  · have old : ∀ b o, hp.get? b = some o → h'.get? b = some o := fun b o e => k' b o (Nat.ne_of_lt (Nat.lt_succ_of_lt (Heap.lt_size e))) e
    have z : hp.objs.size ≤ dx := Nat.le_trans hs dn
    exact ⟨rfl, hq h' tk' (hp.objs.size + 1) dx ⟨old, Nat.le_succ _, hx, z, dne, hns⟩⟩
end
end Rg
namespace Rg
open PySem PySem.Spec PyProof.Rows L2
theorem relO_fld {v : V} {v' : Value} {fld : Str} (r : RelV v v') (f : Str) : RelO (List.lookup f [(fld, v)]) (if f = fld then some v' else none) := by
  by_cases hw : f = fld
  · subst hw
    rw [if_pos rfl]
    have q : List.lookup f [(f, v)] = some v := by simp [List.lookup]
    rw [q]
    exact r
  · rw [if_neg hw]
    have qw : (f == fld) = false := by simpa using hw
    have q2 : List.lookup f [(fld, v)] = none := by simp [List.lookup, qw]
    rw [q2]
    trivial
section
variable {X : Cx} {C fI : Addr} {fld : Str} {msg : Expr} {G : Value → Prop} {fd : FuncData} {bmB : List Value}
/-- C(e) -/
def tMkR (C : Addr) (fld : Str) (ta : TA) : L2.St → Hp → XK → Prop := fun σ H Q => ta σ H fun vs H1 => ∃ v, vs = [v] ∧ ∀ d, H1 d = none → Q (.ref C) (some d) (upd H1 d (.xd [(fld, v)]))
theorem pmk_r {x : Str} {a : Expr} {ta : TA} {p pos : Pos} {k : Nat} (T : ExT X.prog X.K X.mg fld C fI bmB) (J : ExI X.prog X.K fld C fI fd msg) (hmsg : MsgOk X.prog X.w fld msg (fun _ => True)) (hr : Room k X.A) (ha : PA X [a] ta) (hm : X.mg x = some (.ref C)) (hg : Gl X x := by rfl)
    (hd : (x == ("__debug__" : Str)) = false := by rfl) (he : starEach (a :: []) X.env = (false, eval a X.env) :: starEach [] X.env := by rfl) (hpl : (backTo pos (starEach [] X.env)).any (·.1) = false := by rfl) :
    PMk X (.Call (.Name x p) [a] [] pos) (tMkR C fld ta) := by
  intro pins s σ H Q I h
  refine wpAny_Call_Name_kw (ld_glob I hg hm ?_ hd)
  refine PySem.W.callWith_K (h₀ := X.base) I.ok.mod.kin T.kC (thn (ha.run pos pins s σ H _ I h) fun us s1 hh => ?_) he hpl
  obtain ⟨vs, H1, I1, r1, v, ev, q1⟩ := hh
  subst ev
  refine ⟨I1.kIn, ?_⟩
  cases r1 with
  | cons rv rn =>
    rename_i v' us'
    cases rn
    show wpAny _ _ (call (.ref C) [v']) _ _ _
    have hlim := I1.nolimit
    obtain ⟨mb, hmb, hbt⟩ := I1.ok.mod.blt
    have hgl : s1.heap.Ns mainGlobals X.mg := I1.ok.mod.glob.keeps I1.bk
    have hbl : s1.heap.Ns builtinsNs mb := hmb.keeps I1.bk
    obtain ⟨hp, g, dr, tk, os⟩ := s1
    refine wpAny_call (ex_made T J hmsg I1.kIn hlim hgl hbl ((hbt _ (by decide)).trans rfl) (by have := hr.dp; omega) trivial fun h' tk' e d M => ?_)
    show MkP X pins σ Q (.ref e) ⟨h', g, dr, tk', os⟩
    obtain ⟨t1, hoe⟩ := M.obj
    have hns := M.ns
    obtain ⟨G', g1, g2⟩ := restrict h' fun b => decide (b ≠ e)
    have gk : ∀ b, b ≠ e → G'.get? b = h'.get? b := fun b hb => g1 b (decide_eq_true hb)
    have ge : G'.get? e = none := g2 e (by simp)
    have old : ∀ b o, hp.get? b = some o → G'.get? b = some o := fun b o q => (gk b (Nat.ne_of_lt (Nat.lt_of_lt_of_le (Heap.lt_size q) M.new))).trans (M.keep b o q)
    have ob : ObjOk X.prog X.w (upd H1 d (.xd [(fld, v)])) G' d (.xd [(fld, v)]) :=
      ⟨_, hns.at (fun o q => (gk d M.dne).trans q), fun f => relO_fld rv f⟩
    have J : L2.Inv X pins σ (upd H1 d (.xd [(fld, v)])) ⟨G', g, dr, tk', os⟩ := I1.laid (t' := tk') old M.dbig ob
    refine ⟨e, _, _, ⟨G', g, dr, tk', os⟩, _, .ref C, some d, rfl, J, fun b o q => ?_, ge, hoe, ⟨rfl, rfl⟩, rfl, rfl, ?_, rfl, I1.bare, raises_own T.exC T.tyC, q1 d (I1.hok.fresh M.dbig)⟩
    · by_cases hb : b = e
      · have q' : G'.get? b = some o := q
        rw [hb, ge] at q'; cases q'
      · exact (gk b hb).symm.trans q
    · rw [upd_ne (Ne.symm M.dne)]
      exact I1.hok.fresh M.new
/-- raise C(e) -/
def tRaiseR (C : Addr) (fld : Str) (W : WX) (ta : TA) : TS := fun _ σ H => tMkR C fld ta σ H fun cls d H' => W cls d σ H'
theorem ps_raiseR {x : Str} {a : Expr} {ta : TA} {W : WX} {p pos pos2 : Pos} {k : Nat} (hc : X.calm = true) (T : ExT X.prog X.K X.mg fld C fI bmB) (J : ExI X.prog X.K fld C fI fd msg) (hmsg : MsgOk X.prog X.w fld msg (fun _ => True)) (hr : Room k X.A) (tk : Takes X W) (ha : PA X [a] ta) (hm : X.mg x = some (.ref C)) (hg : Gl X x := by rfl)
    (hd : (x == ("__debug__" : Str)) = false := by rfl) (he : starEach (a :: []) X.env = (false, eval a X.env) :: starEach [] X.env := by rfl) (hpl : (backTo pos (starEach [] X.env)).any (·.1) = false := by rfl) :
    PS X (.Raise (some (.Call (.Name x p) [a] [] pos)) none pos2) (tRaiseR C fld W ta) := ps_raise hc tk (pmk_r T J hmsg hr ha hm hg hd he hpl)
end
end Rg

set_option Elab.async false
set_option linter.all false
set_option maxRecDepth 100000
set_option maxHeartbeats 2000000
/-! # A caught exception that is kept by a name behind the try -/
namespace Rg
open PySem PySem.W PySem.Spec PySem.HandSPX PyProof.Rows L2
/-- what the ledger says of a kept exception -/
def exh (a : Addr) (cls : Value) (d : Option Addr) : HO := .ext fun h => ∃ oe vs, h.get? a = some oe ∧ Zc cls d oe ∧ oe.data = .fields vs
def wHold (K : Frag) (c : Value) (i : Nat) (ts : Addr → Value → Option Addr → TS) (D : Ends) : WX := fun cls d σ H =>
  exmOne K cls c = some true ∧ ∀ a : Addr, H a = none → ts a cls d { nx := fun σ' H' => D.nx (List.set σ' i none) (upd H' a (exh a cls d)), rt := D.rt, bk := fun σ' H' => D.bk (List.set σ' i none) H', ct := fun σ' H' => D.ct (List.set σ' i none) H' } (List.set σ i (some (V.ref a))) H
theorem looks_typeOf_ref {M : Model} {h : Heap} {a : Addr} {oe : Obj} (e : h.get? a = some oe) : Looks M h (typeOf (.ref a)) oe.cls := by
  refine looks_typeIn (K := [(a, oe)]) (fun b o q => ?_) ?_
  · by_cases hb : b = a
    · subst hb
      simp [List.lookup] at q
      rw [← q]
      exact e
    · have hb' : (b == a) = false := by simpa using hb
      simp [List.lookup, hb'] at q
  · simp [typeIn, List.lookup]
section
variable {X : Cx}
theorem hold_it {pins : List (Addr × Obj)} {σ : L2.St} {H : Hp} {s : Shared} {a : Addr} {oe : Obj} {cls : Value} {d : Option Addr} (hz : Zc cls d oe) (hf : ∃ vs, oe.data = Data.fields vs) (J : L2.Inv X pins σ H s) (hget : s.heap.get? a = some oe)
    (ha : H a = none) (hl : a ≠ X.env.locals) (h0 : X.s_0.heap.get? a = none) (hcl : ∀ (x : Str) (c : Addr), X.env.cells.lookup x = some c → c ≠ a) (hpn : ∀ p ∈ X.pn ++ pins, p.1 ≠ a) :
    L2.Inv X pins σ (upd H a (exh a cls d)) s := by
  obtain ⟨vs, hdat⟩ := hf
  have nz : ∀ {b : Addr} {o : Obj}, X.s_0.heap.get? b = some o → b ≠ a := fun {b o} e z => by rw [z, h0] at e; cases e
  have nH : ∀ {b : Addr} {u : HO}, H b = some u → b ≠ a := fun {b u} e z => by rw [z, ha] at e; cases e
  refine ⟨J.ok, J.os, J.bare, ⟨J.base.keep, J.base.slot, fun b o e hb nx => ?_, J.base.there, fun b xs e => ?_, fun b o u e => ?_, fun b ps e => ?_⟩, J.loc, J.cell, ?_, fun x c e => ?_, fun p hp => ?_, fun b o e => ?_, J.len⟩
  · rw [upd_ne (nz e)]
    exact J.base.free b o e hb nx
  · have q := J.base.tups b xs e
    rw [upd_ne (nH q)]
    exact q
  · have q := J.base.frzs b o u e
    rw [upd_ne (nH q)]
    exact q
  · obtain ⟨more, q⟩ := J.base.tbls b ps e
    exact ⟨more, by rw [upd_ne (nH q)]; exact q⟩
  · rw [upd_ne (Ne.symm hl)]
    exact J.free
  · rw [upd_ne (hcl x c e)]
    exact J.freeC x c e
  · obtain ⟨p1, p2, p3⟩ := J.pin p hp
    exact ⟨p1, by rw [upd_ne (hpn p hp)]; exact p2, p3⟩
  · by_cases hb : b = a
    · subst hb
      rw [upd_same] at e
      cases e
      refine ⟨⟨oe, vs, hget, hz, hdat⟩, ⟨oe, hget⟩, fun h1 h2 ⟨o', v', e1, z1, d1⟩ k => ⟨o', v', k _ e1, z1, d1⟩⟩
    · rw [upd_ne hb] at e
      refine (J.hok b o e).stay (fun _ _ _ e => e) (fun b' e' => ?_) (fun b' xs e' => ?_)
      · rw [upd_ne (nH e')]
        exact e'
      · rw [upd_ne (nH e')]
        exact e'
theorem ps_hold {x n : Str} {c : Value} {i : Nat} {body suite : List Stmt} {b₀ : Stmt} {np pos pos' : Pos} {tb : WX → TS} {ts : Addr → Value → Option Addr → TS}
    (hs : X.stack = X.env :: X.outer) (hf : X.env.frame = some X.env.locals) (hex : X.ex = []) (hN : X.N.Nodup) (hi : X.N[i]? = some n) (hln : X.env.kindOf n = some .local) (hg : Gl X x) (hc : X.mg x = some c)
    (hb : ∀ (W : WX) (pn : List (Addr × Obj)) (xe : Value → Shared → Prop), Takes (X.tr pn xe) W → PSs (X.tr pn xe) body (tb W))
    (hsu : ∀ (a : Addr) (oe : Obj) (cls : Value) (d : Option Addr) (pn : List (Addr × Obj)), Zc cls d oe → (∃ vs, oe.data = Data.fields vs) → PSs (X.suite a ((a, oe) :: pn)) (b₀ :: suite) (ts a cls d))
    (hd : (x == ("__debug__" : Str)) = false := by rfl) :
    PS X (.Try body [.ExceptHandler (some (.Name x np)) (some n) (b₀ :: suite) pos'] [] [] pos) (fun D σ H => tb (wHold X.K c i ts D) D σ H) := by
  refine ⟨fun pins s σ H D I h => wpAny_Try_except ?_⟩
  have hfr : X.A.frames = some (X.env :: X.outer) := I.ok.frames.trans (by rw [hs])
  have key : ∀ (E : Value → Shared → Prop), (∀ e s₁, wpAny (model X.prog X.w) X.A (noteFrame e X.env) (fun _ s₂ => wpAny (model X.prog X.w) X.A (setFlight e none) (fun _ s₃ => wpAny (model X.prog X.w) X.A (handleBy e X.env [.ExceptHandler (some (.Name x np)) (some n) (b₀ :: suite) pos']) (SP X pins D) X.xe s₃) X.xe s₂) X.xe s₁ → E e s₁) → Takes (X.tr (X.pn ++ pins) E) (wHold X.K c i ts D) := by
    intro E hE u s' ⟨a, B, sI, pins1, σ1, H1, cls, d, hu, I1, kp, up, sky, ha, hos, hbr, hm, hts⟩
    subst hu
    have J0 : L2.Inv X pins σ1 H1 sI := I1.ofTry I.ok
    refine hE _ _ ?_
    have sky' : Sky B (X.env :: X.outer) a (Zc cls d) X.env.locals s'.heap := by rw [← hs]; exact sky
    have kp' : ∀ (b : Addr) (o : Obj), sI.heap.get? b = some o → ¬b ∈ frs X.stack → B.get? b = some o := kp
    refine Sky.land Zc.steady hfr hf sky' (fun h1 fl1 up1 => ?_)
    have tr : ∀ {h2 : Heap}, s'.heap.UpToSlots h2 → sI.heap.UpToSlots h2 := fun {h2} u2 b o e nf => by
      obtain ⟨sl, e1⟩ := up b o e nf
      have q := u2 b _ e1 nf
      exact q
    -- what holds wherever it flies
    have at_ : ∀ {h2 : Heap}, HandSPX.FlyingZ B (X.env :: X.outer) a (Zc cls d) h2 → s'.heap.UpToSlots h2 → ∃ oe vs, h2.get? a = some oe ∧ Zc cls d oe ∧ oe.data = .fields vs ∧ a ≠ X.env.locals ∧ a ∉ frs X.stack ∧
        L2.Inv (X.suite a ((a, oe) :: (X.pn ++ pins))) [] σ1 H1 ⟨h2, s'.gens, s'.drawn, s'.toks, s'.os⟩ := by
      intro h2 fl u2
      have J1 : L2.Inv X pins σ1 H1 ⟨h2, s'.gens, s'.drawn, s'.toks, s'.os⟩ := J0.landed kp' fl.1 (tr u2) hos hbr
      obtain ⟨oe, vs, hoe, hz, hdat⟩ := fl.there
      have hnfr : a ∉ frs (X.env :: X.outer) := fun m => by
        obtain ⟨_, o, ho, nf⟩ := fl.2.2.1.mem m
        rw [hoe] at ho
        cases ho
        exact nf _ hdat
      have hnl : a ≠ X.env.locals := fun e => hnfr (by
        show a ∈ List.filterMap (fun x => x.frame) (X.env :: X.outer)
        exact List.mem_filterMap.mpr ⟨X.env, List.mem_cons_self, by rw [hf, e]⟩)
      have hnfs : a ∉ X.fs := fun m => hnfr (by
        obtain ⟨e, he, hf'⟩ := List.mem_filterMap.mp m
        exact List.mem_filterMap.mpr ⟨e, List.mem_cons_of_mem _ he, hf'⟩)
      exact ⟨oe, vs, hoe, hz, hdat, hnl, by rw [hs]; exact hnfr, J1.suite hoe hdat ha hnl hnfs⟩
    have B0 : B.get? a = none := fl1.2.1
    obtain ⟨oe1, vs1, hoe1, hz1, hdat1, hnl, hnfr, J1⟩ := at_ fl1 up1
    have h0 : X.s_0.heap.get? a = none := by
      cases e : X.s_0.heap.get? a with
      | none => rfl
      | some o =>
        obtain ⟨o', e'⟩ := J0.base.there a o e (by rw [hex]; exact List.not_mem_nil)
        have := kp' a o' e' hnfr
        rw [B0] at this
        cases this
    have hpn : ∀ p ∈ X.pn ++ pins, p.1 ≠ a := fun p hp e => by
      have q := (J0.pin p hp).1
      rw [e] at q
      have := kp' a _ q hnfr
      rw [B0] at this
      cases this
    have hcl : ∀ (y : Str) (cc : Addr), X.env.cells.lookup y = some cc → cc ≠ a := fun y cc e z => by
      obtain ⟨v, o, ho, hd⟩ := J1.cell y cc e
      rw [z] at ho
      have ho' : h1.get? a = some o := ho
      rw [hoe1] at ho'
      cases ho'
      rw [hdat1] at hd
      cases hd
    refine exc_clause_as (ld_glob J1 hg hc ⟨true, exm_one J1.kIn (by rw [← hz1.1]; exact looks_typeOf_ref hoe1) hm, ?_⟩ hd)
    rw [if_pos rfl]
    refine lands_againZ fl1 (fun h2 fl2 up2 => ?_)
    have up12 : s'.heap.UpToSlots h2 := fun b o e nf => by
      obtain ⟨sl, e1⟩ := up1 b o e nf
      have q := up2 b _ e1 nf
      exact q
    obtain ⟨oe2, vs2, hoe2, hz2, hdat2, _, _, J2⟩ := at_ fl2 up12
    refine store_ok (X := X.suite a ((a, oe2) :: (X.pn ++ pins))) J2 hN hi (Or.inl hln) (v := .ref a) rfl (fun s3 J4 => ?_) (Or.inr hln)
    have run := (hsu a oe2 cls d (X.pn ++ pins) hz2 ⟨_, hdat2⟩).run [] s3 _ H1 _ J4 (hts a ha)
    refine wpAny_mono run (fun f s4 hh => ?_) (fun e s4 no => no.elim)
    cases f with
    | next =>
      obtain ⟨σ', H', J5, q⟩ := hh
      refine gone_ok (X := X.suite a ((a, oe2) :: (X.pn ++ pins))) J5 hN hi hln (fun s5 J6 => ?_)
      obtain ⟨g1, g2, _⟩ := J6.pin (a, oe2) List.mem_cons_self
      exact ⟨_, _, hold_it hz2 ⟨_, hdat2⟩ (J6.unsuite I.ok) g1 g2 hnl h0 hcl hpn, q⟩
    | brk =>
      obtain ⟨σ', H', J5, q⟩ := hh
      refine gone_ok (X := X.suite a ((a, oe2) :: (X.pn ++ pins))) J5 hN hi hln (fun s5 J6 => ?_)
      exact ⟨_, _, J6.unsuite I.ok, q⟩
    | cont =>
      obtain ⟨σ', H', J5, q⟩ := hh
      refine gone_ok (X := X.suite a ((a, oe2) :: (X.pn ++ pins))) J5 hN hi hln (fun s5 J6 => ?_)
      exact ⟨_, _, J6.unsuite I.ok, q⟩
    | ret u =>
      obtain ⟨v, σ', H', J5, r, q⟩ := hh
      refine gone_ok (X := X.suite a ((a, oe2) :: (X.pn ++ pins))) J5 hN hi hln (fun s5 J6 => ?_)
      exact ⟨v, _, _, J6.unsuite I.ok, r, q⟩
  have okT : ∀ E, (X.tr (X.pn ++ pins) E).Ok := fun E => by
    have o := I.ok
    exact ⟨o.mod, o.kind, o.glob, o.blt, o.above, o.inj, o.has, o.cab, o.hd, o.frames, o.stk, o.exf, o.bs, o.bsz, o.noex, o.exfs, o.funs, o.frf⟩
  have iT : ∀ E, L2.Inv (X.tr (X.pn ++ pins) E) [] σ H s := fun E => ⟨okT E, I.os, I.bare, I.base, I.loc, I.cell, I.free, I.freeC, fun p hp => I.pin p (by simpa using hp), I.hok, I.len⟩
  refine thn ((hb _ _ _ (key _ fun e s₁ q => q)).run [] s σ H D (iT _) h) (fun f s1 hh => ?_)
  cases f with
  | next =>
    obtain ⟨σ', H', J5, q⟩ := hh
    exact wpAny_execs_nil ⟨_, _, J5.ofTry I.ok, q⟩
  | brk =>
    obtain ⟨σ', H', J5, q⟩ := hh
    exact ⟨_, _, J5.ofTry I.ok, q⟩
  | cont =>
    obtain ⟨σ', H', J5, q⟩ := hh
    exact ⟨_, _, J5.ofTry I.ok, q⟩
  | ret u =>
    obtain ⟨v, σ', H', J5, r, q⟩ := hh
    exact ⟨v, _, _, J5.ofTry I.ok, r, q⟩
end
end Rg
/-! ### asked behind the try -/
namespace Rg
open PySem PySem.W PySem.Spec PySem.HandSPX PyProof.Rows L2
section
variable {X : Cx} {K : Frag}
/-- the ledger tells a kept exception of the class at C, its field -/
def Kept (H : Hp) (a C d : Addr) (fs : List (Str × V)) : Prop := H a = some (exh a (.ref C) (some d)) ∧ H d = some (.xd fs)
theorem held_inst {pins : List (Addr × Obj)} {σ : L2.St} {H : Hp} {s : Shared} {a C d : Addr} {fs : List (Str × V)} (I : L2.Inv X pins σ H s) (k : Kept H a C d fs) :
    ∃ oe od, W.InstAt s.heap a oe C (some od) ∧ (∃ mA : Str → Option Value, (∀ name : Str, lookIn name od = some (mA name)) ∧ ∀ f : Str, RelO (fs.lookup f) (mA f)) := by
  obtain ⟨⟨oe, vs, hget, hz, hdat⟩, _⟩ := (I.hok a _ k.1 : ObjOk _ _ _ _ _ (.ext _))
  obtain ⟨mA, hns, hr⟩ := (I.hok d _ k.2 : ObjOk _ _ _ _ _ (.xd _))
  obtain ⟨od, ho, hl⟩ := lookIn_ns hns
  exact ⟨oe, od, ⟨hget, hz.1, by unfold PySem.W.notCls; rw [hdat] <;> rfl, by rw [hz.2]; exact ho⟩, mA, hl, hr⟩
theorem held_kit {C a : Addr} {oe : Obj} {od : Option Obj} (T : L2.ExcC K C) : KitX K (.ref a) (.ref C) (fun h => W.InstAt h a oe C od) :=
  kitx_exc (by have := T.hd; unfold hasDictIn at this; cases e : clsIn K C with | none => rw [e] at this; simp at this | some _ => rfl) T.hg T.hk T.hs T.ha T.hn T.ht T.hm
/-- isinstance of a kept exception: one class, a tuple of classes -/
def rIsH (K : Frag) : List V → Hp → VK → Prop := fun xs H Q => ∃ (a C d : Addr) (fs : List (Str × V)) (c : V) (u : Value) (b : Bool), xs = [.ref a, c] ∧ Kept H a C d fs ∧ L2.ExcC K C ∧ ClsV c u ∧ kitOne K (.ref C) u = some b ∧ Q (.bl b) H
def rIsHT (K : Frag) : List V → Hp → VK → Prop := fun xs H Q => ∃ (a C d tp : Addr) (fs : List (Str × V)) (cs : List V) (us : List Value) (b : Bool), xs = [.ref a, .ref tp] ∧ Kept H a C d fs ∧ L2.ExcC K C ∧ H tp = some (.tup cs) ∧ Paired ClsV cs us ∧ kitAny K (.ref C) us = some b ∧ Q (.bl b) H
theorem call_isH : CallR X (.builtin "isinstance") (rIsH X.K) := by
  intro pins s σ H xs us Q I rv ⟨a, C, d, fs, c, u, b, hx, k, T, hc, hb, q⟩
  subst hx
  cases rv with
  | cons r1 rr =>
    cases rr with
    | cons r2 rn =>
      cases rn
      obtain rfl : _ = Value.ref a := r1
      obtain ⟨oe, od, hi, _⟩ := held_inst I k
      rw [hc.eq r2] at *
      refine kia_one (held_kit T) I.kIn hi hb (by intro e; cases e) (fun tk => ⟨.bl b, H, I.tok tk, rfl, q⟩)
theorem call_isHT : CallR X (.builtin "isinstance") (rIsHT X.K) := by
  intro pins s σ H xs us Q I rv ⟨a, C, d, tp, fs, cs, vs, b, hx, k, T, ht, hc, hb, q⟩
  subst hx
  cases rv with
  | cons r1 rr =>
    cases rr with
    | cons r2 rn =>
      cases rn
      obtain rfl : _ = Value.ref a := r1
      obtain rfl : _ = Value.ref tp := r2
      obtain ⟨oe, od, hi, _⟩ := held_inst I k
      obtain ⟨its, hv, hT, _⟩ := I.tuple (.inl (.inl ht))
      have hh := ClsV.all hc hv
      subst hh
      obtain ⟨⟨c0, d0, dt0, sl0⟩, hg, hc0, n, hd0⟩ := hT
      subst hc0
      subst hd0
      exact kia_tup (held_kit T) I.kIn hi hg hb (by intro e; cases e) (fun tk => ⟨.bl b, H, I.tok tk, rfl, q⟩)
/-- caught.f -/
def tHf (K : Frag) (f : Str) (te : TE) : TE := fun σ H Q => te σ H fun x H1 => ∃ (a C d : Addr) (fs : List (Str × V)) (v : V), x = .ref a ∧ Kept H1 a C d fs ∧ XfC K C ∧ PySem.W.findIn K (.ref C) f = some none ∧ fs.lookup f = some v ∧ Q v H1
theorem pe_hf {e : Expr} {te : TE} {f : Str} {pos : Pos} (he : PE X e te) (hb : attributeBase e f X.env (eval e X.env) = eval e X.env := by rfl) : PE X (.Attribute e f pos) (tHf X.K f te) := by
  refine ⟨fun pins s σ H Q I h => ?_⟩
  refine attr_of hb (thn (he.run pins s σ H _ I h) fun u s1 hh => ?_)
  obtain ⟨x, H1, I1, rx, a, C, d, fs, v, ex, k, T, noN, hl, q⟩ := hh
  subst ex
  obtain rfl : u = Value.ref a := rx
  obtain ⟨oe, od, hi, mA, hla, hr⟩ := held_inst I1 k
  obtain ⟨u, hu, ru⟩ := RelO.some_of (v := v) (o := mA f) (by rw [← hl]; exact hr f)
  exact HandSPX.exc_get I1.kIn hi T.ga T.gg T.exC (PySem.W.findObj_own T.hdC noN rfl (by rw [hla, hu])) (handed_of ru) ⟨v, H1, I1.tok _, ru, q⟩
end
end Rg

set_option Elab.async false
set_option linter.all false
set_option maxRecDepth 100000
set_option maxHeartbeats 2000000
namespace Rg
open PySem PySem.Spec PyProof.Rows L2
/-! ### xs[a:b] = ys -/
def gSlc (to : TE) (tl th : TO) : TG := fun v σ H Q => to σ H fun x H1 => tl σ H1 fun lo H2 => th σ H2 fun hi H3 => ∃ (l b : Addr) (xs ys : List V) (i j : Int), x = .ref l ∧ v = .ref b ∧ lo = some i ∧ hi = some j ∧ H3 l = some (.lst xs) ∧ H3 b = some (.lst ys) ∧
  l ≠ b ∧ 0 ≤ i ∧ i ≤ j ∧ j ≤ xs.length ∧ xs.length + ys.length ≤ sizeLine ∧ Q σ (upd H3 l (.lst (xs.take i.toNat ++ ys ++ xs.drop j.toNat)))
theorem pg_slc {X : Cx} {o : Expr} {lo hi : Option Expr} {to : TE} {tl th : TO} {pos p2 : Pos} (ho : PE X o to) (hl : PO X lo tl) (hh : PO X hi th) :
    PG X (.Subscript o (.Slice lo hi none p2) pos) (gSlc to tl th) := by
  refine ⟨fun pins s σ H v u Q I rv h => ?_⟩
  rw [arm_assign_Subscript]
  refine wpAny_bind (wpAny_holding (thn (ho.run pins s σ H _ I h) fun ov s1 hh1 => ?_))
  obtain ⟨x, H1, I1, rx, h1⟩ := hh1
  refine wpAny_bind (wpAny_holding (wpAny_Slice (thn (hl.run pins s1 σ H1 _ I1 h1) fun vl s2 hh2 => ?_)))
  obtain ⟨a1, H2, I2, pl, h2⟩ := hh2
  refine thn (hh.run pins s2 σ H2 _ I2 h2) fun vu s3 hh3 => ?_
  obtain ⟨a2, H3, I3, pu, l, b, xs, ys, i, j, ex, ev, e1, e2, hL, hB, ne, i0, ij, jl, sz, q⟩ := hh3
  subst ex
  subst ev
  subst e1
  subst e2
  obtain rfl : ov = Value.ref l := rx
  obtain rfl : u = Value.ref b := rv
  refine evalPart_none_step (wpAny_bind (wpAny_standAt (wpAny_bind (wpAny_holding ?_))))
  have I4 : L2.Inv X pins σ H3 ⟨s3.heap.push { cls := Value.type "slice", data := Data.fields #[vl, vu, .none] }, s3.gens, s3.drawn, s3.toks, s3.os⟩ := I3.kept fun b o e => Heap.get?_push_of_some _ e
  cases pl with
  | int _ ti =>
    cases pu with
    | int _ tj =>
      exact set_slice I4 hL hB ne (Heap.IsSliceOf.new _ _ _ _) ⟨_, rfl⟩ ⟨_, rfl⟩ i0 ij jl sz fun s' J => wpAny_release ⟨σ, _, J, q⟩
/-! ### a text so many times -/
def repS (z : Str) (n : Nat) : Str := { cps := List.foldl (fun x1 x2 => x1 ++ x2) #[] (List.replicate n z.cps) }
theorem foldl_size (a : Array Nat) : ∀ (n : Nat) (b : Array Nat), (List.foldl (fun x1 x2 => x1 ++ x2) b (List.replicate n a)).size = b.size + n * a.size
  | 0, b => by simp
  | n + 1, b => by
    rw [List.replicate_succ, List.foldl_cons, foldl_size a n (b ++ a), Array.size_append]
    rw [Nat.add_mul]
    omega
theorem repS_len (z : Str) (n : Nat) : (repS z n).length = n * z.length := by
  have := foldl_size z.cps n #[]
  rw [Array.size_empty, Nat.zero_add] at this
  exact this
def rRepS : R2 := fun x y H Q => ∃ (z : Str) (n : Nat), x = .str z ∧ y = .int (n : Int) ∧ 2 ≤ n ∧ n ≤ 10000 ∧ 1 ≤ z.length ∧ z.length ≤ 1000 ∧ Q (.str (repS z n)) H
theorem op_repS {X : Cx} : OpR X (binaryOp .Mult) rRepS := by
  intro pins s σ H x y v u Q I rv ru ⟨z, n, ex, ey, h2, hn, z1, zz, q⟩
  subst ex
  subst ey
  obtain ⟨t, rfl⟩ := rv
  obtain ⟨t', rfl⟩ := ru
  have hp : z.length * n ≤ 1000 * 10000 := Nat.mul_le_mul zz hn
  have hb : ((n : Int) == 1 || z.length == 0) = false := by
    have a1 : ((n : Int) == 1) = false := by simp; omega
    have a2 : (z.length == 0) = false := by simp; omega
    rw [a1, a2]
    rfl
  refine P.mul_str (by simp; omega) (fun _ _ => ?_) (fun _ _ => ?_) ?_
  · have h1 : (z.length : Int) ≤ (2 ^ 63 - 1) / (n : Int) := by
      rw [Int.le_ediv_iff_mul_le (by omega)]
      have h3 : ((z.length * n : Nat) : Int) ≤ ((1000 * 10000 : Nat) : Int) := Int.ofNat_le.mpr hp
      rw [Int.natCast_mul] at h3
      omega
    omega
  · unfold Builtin.Str.tooLong
    rw [decide_eq_false]
    rw [Int.toNat_natCast, sizeLine_eq]
    omega
  · rw [if_neg (by omega), hb, if_neg Bool.false_ne_true, Int.toNat_natCast]
    refine ⟨?_, .str (repS z n), H, I.tok _, ⟨_, rfl⟩, q⟩
    show (repS z n).length ≤ sizeLine
    rw [repS_len, Nat.mul_comm, sizeLine_eq]
    omega
section
variable {H : Hp} {Q : VK} {z : Str} {n : Nat} {lo hi : Option Int}
theorem kRepS (h2 : 2 ≤ n) (hn : n ≤ 10000) (z1 : 1 ≤ z.length) (zz : z.length ≤ 1000) (q : Q (.str (repS z n)) H) : rRepS (.str z) (.int (n : Int)) H Q := ⟨z, n, rfl, rfl, h2, hn, z1, zz, q⟩
theorem kSlS (hz : z.length ≤ 100000) (q : Q (.str (cutS z lo hi)) H) : rSlS (.str z) lo hi H Q := ⟨z, rfl, szL hz, q⟩
theorem cutS_len (z : Str) (lo hi : Option Int) : (cutS z lo hi).length ≤ z.length := by
  show (List.toArray _).size ≤ z.cps.size
  rw [List.size_toArray, List.length_take, List.length_drop, Array.length_toList]
  omega
end
/-! ### list(range(n)) -/
section
variable {σ : L2.St} {H : Hp} {Q : VK} {d : Addr} {n : Nat} {L : Led} {te : TE}
theorem kListRg {t : L2.St → Hp → (Int → Int → Hp → Prop) → Prop} (h : t σ H fun a b H1 => RgOk a b ∧ ∀ q, H1 q = none → Q (.ref q) (upd H1 q (.lst (rgV a b)))) : tLstRg t σ H Q := h
theorem kRg1 {R : Int → Int → Hp → Prop} (h : te σ H fun x H1 => ∃ n, x = .int n ∧ R 0 n H1) : tRg1 te σ H R := h
end
theorem kRepT {d : Addr} {n : Nat} {L : Led} {H : Hp} {Q : VK} {K : PySem.W.Frag} {p : Addr} {xs : List V} {k : Int} (kn : Kn d n L H) (h : (p, .tup xs) ∈ L) (hne : xs ≠ []) (k0 : 2 ≤ k) (k1 : k ≤ 1000) (z : xs.length ≤ 1000) (g : ∀ l H', Kn d n ((l, .tup (List.replicate k.toNat xs).flatten) :: L) H' → Q (.ref l) H') : rRepT K (.ref p) (.int k) H Q :=
  ⟨p, k, xs, rfl, rfl, kn.seqT h, hne, k0, k1, z, fun l hl => g l _ (kn.new hl)⟩
end Rg

set_option Elab.async false
set_option linter.all false
set_option maxRecDepth 100000
set_option maxHeartbeats 2000000
namespace Rg
open PySem PySem.Spec PyProof.Rows L2
/-! ### the truth of lists; what a def that may raise lets out where it does not -/
section
variable {σ : L2.St} {H : Hp} {Q : VK} {te : TE} {K : PySem.W.Frag} {p : Addr} {xs : List V}
theorem kNotT (h : te σ H fun x H1 => ∃ k, TruV K x H1 k ∧ Q (.bl (!k)) H1) : tNotT K te σ H Q := h
theorem truL {k : Bool} (h : SqL K H p xs) (e : k = !xs.isEmpty) : TruV K (.ref p) H k := .inl ⟨xs, h, e⟩
theorem kTruL {P : Bool → Prop} (h : SqL K H p xs) (q : P (!xs.isEmpty)) : ∃ k, TruV K (.ref p) H k ∧ P k := ⟨_, truL h rfl, q⟩
def tTruth (K : PySem.W.Frag) (ta : TE) : L2.TT := fun σ H Q => ta σ H fun x H' => ∃ k, TruV K x H' k ∧ Q k H'
theorem kTruth {Q : Bool → Hp → Prop} (h : te σ H fun x H1 => ∃ k, TruV K x H1 k ∧ Q k H1) : tTruth K te σ H Q := h
theorem pt_tru {X : Cx} {a : Expr} {ta : TE} (ha : PE X a ta) (he : ∀ whole, isTrue a X.env whole = (do let v ← whole; standAt a.pos; holding [v] (truthy v))) : PT X a (tTruth X.K ta) := pt_truth ha he
theorem kBits {n : Int} (h : te σ H fun x H1 => ∃ i, x = .int i ∧ Q (.int (Builtin.Int.intBits i : Nat)) H1) : tBits te σ H Q := h
theorem kBI {i : Int} (q : Q (.int (Builtin.Int.intBits i : Nat)) H) : ∃ j, V.int i = .int j ∧ Q (.int (Builtin.Int.intBits j : Nat)) H := ⟨i, rfl, q⟩
theorem kCallS {sp : Sp} {E : L2.St → XK} {tr : TA} (h : tr σ H fun vs H1 => sp vs H1 Q (E σ)) : tCallS sp E tr σ H Q := h
end
theorem Kn.perm {d : Addr} {n : Nat} {L L' : Led} {H : Hp} (k : Kn d n L H) (h : L.Perm L') : Kn d n L' H := by
  obtain ⟨s, a, c, r, ns, l, e1, e2⟩ := k
  exact ⟨s, a, c, r, ns, l.perm ((h.cons _).cons _), e1, e2⟩
theorem kAsgT {σ : L2.St} {H : Hp} {te : TE} {K : PySem.W.Frag} {n : Nat} {gs : TGs} {nx bk ct : L2.St → Hp → Prop} {rt : VK} (h : te σ H fun x H1 => ∃ a xs, x = .ref a ∧ SqT K H1 a xs ∧ xs.length = n ∧ gs xs σ H1 nx) : tAsg te (gTup K n gs) (Ends.mk nx rt bk ct) σ H := h
theorem passX {P : Program} {w : World} {X : Cx} : Passes (L2.CX P w) X E0 := fun _ _ _ _ _ _ _ h => by
  obtain ⟨_, _, _, _, _, _, _, _, _, _, _, _, h⟩ := h
  exact h.elim
theorem atI_at {α : Type} {l : List α} {x : Int} {j : Nat} {v : α} (e : x = (j : Int)) (h : l[j]? = some v) : atI l x = some v := by
  subst e
  exact atI_nat h
/-! ### the least place of unlike bits, as & and - tell it -/
theorem and_half (a b : Nat) : (a &&& b) / 2 = a / 2 &&& b / 2 := by
  apply Nat.eq_of_testBit_eq
  intro i
  rw [Nat.testBit_and, Nat.testBit_div_two, Nat.testBit_div_two, Nat.testBit_div_two, Nat.testBit_and]
theorem xor_half (a b : Nat) : (a ^^^ b) / 2 = a / 2 ^^^ b / 2 := by
  apply Nat.eq_of_testBit_eq
  intro i
  rw [Nat.testBit_xor, Nat.testBit_div_two, Nat.testBit_div_two, Nat.testBit_div_two, Nat.testBit_xor]
theorem and_two (a b : Nat) : (a &&& b) % 2 = (a % 2) * (b % 2) := by
  have h := Nat.testBit_and a b 0
  simp only [Nat.testBit_zero] at h
  rcases Nat.mod_two_eq_zero_or_one a with ha | ha <;> rcases Nat.mod_two_eq_zero_or_one b with hb | hb <;> rcases Nat.mod_two_eq_zero_or_one (a &&& b) with hc | hc <;> simp [ha, hb, hc] at h ⊢
theorem xor_two (a b : Nat) : (a ^^^ b) % 2 = (a + b) % 2 := by
  have h := Nat.testBit_xor a b 0
  simp only [Nat.testBit_zero] at h
  rcases Nat.mod_two_eq_zero_or_one a with ha | ha <;> rcases Nat.mod_two_eq_zero_or_one b with hb | hb <;> rcases Nat.mod_two_eq_zero_or_one (a ^^^ b) with hc | hc <;> simp [ha, hb, hc] at h ⊢ <;> omega
theorem xor_and_sum : ∀ (n a b : Nat), a + b ≤ n → (a ^^^ b) + 2 * (a &&& b) = a + b
  | 0, a, b, h => by
    have ha : a = 0 := by omega
    have hb : b = 0 := by omega
    subst ha
    subst hb
    rfl
  | n + 1, a, b, h => by
    by_cases h0 : a + b = 0
    · have ha : a = 0 := by omega
      have hb : b = 0 := by omega
      subst ha
      subst hb
      rfl
    have ih := xor_and_sum n (a / 2) (b / 2) (by omega)
    have h1 := and_half a b
    have h2 := xor_half a b
    have h3 := and_two a b
    have h4 := xor_two a b
    rw [← h1, ← h2] at ih
    have h5 : (a % 2) * (b % 2) = if a % 2 = 1 ∧ b % 2 = 1 then 1 else 0 := by
      rcases Nat.mod_two_eq_zero_or_one a with ha | ha <;> rcases Nat.mod_two_eq_zero_or_one b with hb | hb <;> simp [ha, hb]
    rw [h5] at h3
    split at h3 <;> omega
theorem bitXor_nat (a b : Nat) : Builtin.bitXor (a : Int) (b : Int) = ((a ^^^ b : Nat) : Int) := by
  rw [bitXor_and]
  have h : Builtin.bitAnd (a : Int) (b : Int) = ((a &&& b : Nat) : Int) := by
    unfold Builtin.bitAnd
    rw [decide_eq_true (Int.natCast_nonneg a), decide_eq_true (Int.natCast_nonneg b)]
    rfl
  rw [h]
  have := xor_and_sum (a + b) a b (Nat.le_refl _)
  omega
def lowB (u : Nat) : Nat := u - (u &&& (u - 1))
theorem bitAnd_neg {u : Nat} (h : 0 < u) : Builtin.bitAnd (u : Int) (-(u : Int)) = ((lowB u : Nat) : Int) := by
  unfold Builtin.bitAnd
  rw [decide_eq_true (Int.natCast_nonneg u), decide_eq_false (by omega)]
  show (u : Int) - (((u : Int).toNat &&& (-(-(u : Int)) - 1).toNat : Nat) : Int) = _
  have e : (-(-(u : Int)) - 1).toNat = u - 1 := by omega
  rw [e, Int.toNat_natCast]
  unfold lowB
  have : u &&& (u - 1) ≤ u := Nat.and_le_left
  omega
theorem low_odd {u : Nat} (h : u % 2 = 1) : lowB u = 1 := by
  unfold lowB
  have h1 := and_half u (u - 1)
  have h2 := and_two u (u - 1)
  have h3 : (u - 1) / 2 = u / 2 := by omega
  have h4 : (u - 1) % 2 = 0 := by omega
  rw [h3, Nat.and_self] at h1
  rw [h4, Nat.mul_zero] at h2
  omega
theorem low_even {v : Nat} (h : 0 < v) : lowB (2 * v) = 2 * lowB v := by
  unfold lowB
  have h1 := and_half (2 * v) (2 * v - 1)
  have h2 := and_two (2 * v) (2 * v - 1)
  have h3 : (2 * v - 1) / 2 = v - 1 := by omega
  have h4 : (2 * v) % 2 = 0 := by omega
  have h5 : 2 * v / 2 = v := by omega
  rw [h3, h5] at h1
  rw [h4, Nat.zero_mul] at h2
  omega
theorem xor_pos {a b : Nat} (h : a ≠ b) : 0 < a ^^^ b := by
  rcases Nat.eq_zero_or_pos (a ^^^ b) with e | e
  · refine absurd ?_ h
    apply Nat.eq_of_testBit_eq
    intro i
    have := Nat.testBit_xor a b i
    rw [e, Nat.zero_testBit] at this
    revert this
    cases a.testBit i <;> cases b.testBit i <;> simp
  · exact e
theorem bits_pow (k : Nat) : Builtin.Int.intBits ((2 ^ k : Nat) : Int) = k + 1 := by
  unfold Builtin.Int.intBits
  have hp : 0 < 2 ^ k := Nat.two_pow_pos k
  have hz : ¬ (((2 ^ k : Nat) : Int) == 0) = true := by
    rw [beq_iff_eq]
    omega
  rw [if_neg hz]
  have : (((2 ^ k : Nat) : Int)).natAbs = 2 ^ k := Int.natAbs_natCast _
  rw [this, Nat.log2_two_pow]
end Rg

set_option Elab.async false
set_option linter.all false
set_option maxRecDepth 100000
set_option maxHeartbeats 2000000
namespace Rg
open PySem PySem.Spec PyProof.Rows L2
/-! ### max, min of a tuple of whole numbers -/
section
variable {prog : Program} {w : World} {A : Around} {E : Value → Shared → Prop} {s : Shared} {l : Addr} {its : List Value} {ns : List Int} {Q : Value → Shared → Prop} {xs : Array (Int × Tok)}
theorem iter_intTup {Q : Value → Shared → Prop} (hl : s.heap.IsTuple l (intItems xs))
    (h : ∀ s₂ : Shared, s₂ = { s with heap := s.heap.push { cls := .type "tuple_iterator", data := .fields #[.ref l, .int 0 0] } } →
      (s₂.heap.IsTupleIter s.heap.objs.size l 0 ∧ s₂.heap.IsTuple l (intItems xs)) → (∀ b ∈ [s.heap.objs.size, l], b < s₂.heap.objs.size) → l ≠ s.heap.objs.size → Q (.ref s.heap.objs.size) s₂) :
    wpAny (model prog w) A (pyIter (.ref l)) Q E s := by
  have hlt : l < s.heap.objs.size := by obtain ⟨_, e, _⟩ := hl; exact Heap.lt_size e
  refine wpAny_pyIter_tuple hl (h _ rfl ⟨⟨_, Heap.get?_push_size _ rfl, rfl, rfl⟩, hl.push _⟩ (fun b hb => ?_) (Nat.ne_of_lt hlt))
  show b < (s.heap.push _).objs.size
  rw [Heap.size_push]
  rcases List.mem_cons.mp hb with rfl | hb
  · exact Nat.lt_succ_self _
  · rcases List.mem_cons.mp hb with rfl | hb
    · exact Nat.lt_succ_of_lt hlt
    · cases hb
theorem old_keptT {h' : Heap} (hk : ∀ b o, b ∉ [s.heap.objs.size] → (s.heap.push { cls := .type "tuple_iterator", data := .fields #[.ref l, .int 0 0] }).get? b = some o → h'.get? b = some o) :
    ∀ b o, s.heap.get? b = some o → h'.get? b = some o := fun b o e => by
  refine hk b o (fun hm => ?_) (Heap.get?_push_of_some _ e)
  rcases List.mem_cons.mp hm with e1 | hm
  · exact absurd (e1 ▸ Heap.lt_size e) (Nat.lt_irrefl _)
  · cases hm
theorem max_rawT (hh : A.handled = none) (hl : s.heap.IsTuple l its.toArray) (hi : IntsAre its ns) (hne : 0 < ns.length)
    (h : ∀ h' tk M t', (∀ b o, s.heap.get? b = some o → h'.get? b = some o) → M ∈ ns → (∀ a, a ∈ ns → a ≤ M) → Q (.int M t') { s with heap := h', toks := tk }) : wpAny (model prog w) A (call (.builtin "max") [.ref l]) Q E s := by
  obtain ⟨xs, e⟩ := hi.allInts.items
  have hn : numsOf (intItems xs).toList = ns := by rw [← e]; exact hi.numsOf
  rw [nums_intItems] at hn
  subst hn
  rw [e] at hl
  have hsz : 0 < xs.size := by simpa using hne
  refine call_max_walk (iter_intTup hl fun s₂ e st hfp hlI => ?_)
  subst e
  refine ⟨_, _, _, _, _, _, _, rfl, Walks.tuple (A := A.in1) hh _ l hlI (intItems xs), st, hfp, by simpa [intItems] using hsz, CmpOf.ints_gt (numAt xs) (fun _ _ => intItems_at), fun v h' tk hP hk => ?_⟩
  have hv : (intItems xs)[argBest (fun i j => decide (numAt xs i > numAt xs j)) (xs.size - 1)]? = some v := by simpa [intItems] using hP
  obtain ⟨t, rfl⟩ := intItems_at hv
  obtain ⟨h1, h2⟩ := argBest_gt (numAt xs) (xs.size - 1)
  refine h h' tk _ t (old_keptT hk) ?_ fun a ha => ?_
  · rw [numAt_eq]; exact PySem.getD_mem (by rw [List.length_map, Array.length_toList]; omega)
  · obtain ⟨j, hj, rfl⟩ := mem_getD ha
    rw [List.length_map, Array.length_toList] at hj
    rw [← numAt_eq]; exact h2 j (by omega)
theorem min_rawT (hh : A.handled = none) (hl : s.heap.IsTuple l its.toArray) (hi : IntsAre its ns) (hne : 0 < ns.length)
    (h : ∀ h' tk M t', (∀ b o, s.heap.get? b = some o → h'.get? b = some o) → M ∈ ns → (∀ a, a ∈ ns → M ≤ a) → Q (.int M t') { s with heap := h', toks := tk }) : wpAny (model prog w) A (call (.builtin "min") [.ref l]) Q E s := by
  obtain ⟨xs, e⟩ := hi.allInts.items
  have hn : numsOf (intItems xs).toList = ns := by rw [← e]; exact hi.numsOf
  rw [nums_intItems] at hn
  subst hn
  rw [e] at hl
  have hsz : 0 < xs.size := by simpa using hne
  refine call_min_walk (iter_intTup hl fun s₂ e st hfp hlI => ?_)
  subst e
  refine ⟨_, _, _, _, _, _, _, rfl, Walks.tuple (A := A.in1) hh _ l hlI (intItems xs), st, hfp, by simpa [intItems] using hsz, CmpOf.ints_lt (numAt xs) (fun _ _ => intItems_at), fun v h' tk hP hk => ?_⟩
  have hv : (intItems xs)[argBest (fun i j => decide (numAt xs i < numAt xs j)) (xs.size - 1)]? = some v := by simpa [intItems] using hP
  obtain ⟨t, rfl⟩ := intItems_at hv
  obtain ⟨h1, h2⟩ := argBest_lt (numAt xs) (xs.size - 1)
  refine h h' tk _ t (old_keptT hk) ?_ fun a ha => ?_
  · rw [numAt_eq]; exact PySem.getD_mem (by rw [List.length_map, Array.length_toList]; omega)
  · obtain ⟨j, hj, rfl⟩ := mem_getD ha
    rw [List.length_map, Array.length_toList] at hj
    rw [← numAt_eq]; exact h2 j (by omega)
end
section
variable {X : Cx}
def rMaxT (K : PySem.W.Frag) : List V → Hp → VK → Prop := fun vs H Q => ∃ (a : Addr) (ns : List Int), vs = [V.ref a] ∧ SqT K H a (ns.map V.int) ∧ 0 < ns.length ∧ ∀ m, m ∈ ns → (∀ y, y ∈ ns → y ≤ m) → Q (.int m) H
def rMinT (K : PySem.W.Frag) : List V → Hp → VK → Prop := fun vs H Q => ∃ (a : Addr) (ns : List Int), vs = [V.ref a] ∧ SqT K H a (ns.map V.int) ∧ 0 < ns.length ∧ ∀ m, m ∈ ns → (∀ y, y ∈ ns → m ≤ y) → Q (.int m) H
theorem cr_maxT (hc : X.calm = true) : CallR X (.builtin "max") (rMaxT X.K) := by
  intro pins s σ H vs us Q I r h
  obtain ⟨a, ns, rfl, hs, hne, q⟩ := h
  obtain ⟨its, rv, p, hz⟩ := I.tuple hs
  obtain ⟨ob, p1, p2, n, p3⟩ := id p
  have ht : s.heap.IsTuple a its.toArray := ⟨ob, p1, p2, n, p3⟩
  rw [Vals.ref1 r]
  exact max_rawT (I.ok.hd hc) ht rv.ints hne fun h' tk m t' hk h1 h2 => ⟨.int _, H, I.kept hk, ⟨_, rfl⟩, q m h1 h2⟩
theorem cr_minT (hc : X.calm = true) : CallR X (.builtin "min") (rMinT X.K) := by
  intro pins s σ H vs us Q I r h
  obtain ⟨a, ns, rfl, hs, hne, q⟩ := h
  obtain ⟨its, rv, p, hz⟩ := I.tuple hs
  obtain ⟨ob, p1, p2, n, p3⟩ := id p
  have ht : s.heap.IsTuple a its.toArray := ⟨ob, p1, p2, n, p3⟩
  rw [Vals.ref1 r]
  exact min_rawT (I.ok.hd hc) ht rv.ints hne fun h' tk m t' hk h1 h2 => ⟨.int _, H, I.kept hk, ⟨_, rfl⟩, q m h1 h2⟩
end
section
variable {K : PySem.W.Frag} {H : Hp} {Q : VK} {p : Addr} {ns : List Int}
theorem kMaxT (h : SqT K H p (ns.map V.int)) (h0 : 0 < ns.length) (q : ∀ m, m ∈ ns → (∀ y, y ∈ ns → y ≤ m) → Q (.int m) H) : rMaxT K [.ref p] H Q := ⟨p, ns, rfl, h, h0, q⟩
theorem kMinT (h : SqT K H p (ns.map V.int)) (h0 : 0 < ns.length) (q : ∀ m, m ∈ ns → (∀ y, y ∈ ns → m ≤ y) → Q (.int m) H) : rMinT K [.ref p] H Q := ⟨p, ns, rfl, h, h0, q⟩
theorem kMinL (h : SqL K H p (ns.map V.int)) (h0 : 0 < ns.length) (q : ∀ m, m ∈ ns → (∀ y, y ∈ ns → m ≤ y) → Q (.int m) H) : rMin K [.ref p] H Q := ⟨p, ns, rfl, h, h0, q⟩
end
/-! ### for x, y in zip(xs, ys) -/
theorem kForZ {σ : L2.St} {H : Hp} {tb : TS} {j l : Nat} {ta : TA} {K : PySem.W.Frag} {nx bk ct : L2.St → Hp → Prop} {rt : VK} (G : Addr → Addr → List V → List V → Hp → Prop)
    (src : ∀ R : List V → Hp → Prop, (∀ a b xs ys H', G a b xs ys H' → R [.ref a, .ref b] H') → ta σ H R)
    (body : ∀ a b xs ys H1, G a b xs ys H1 → SqL K H1 a xs ∧ SqL K H1 b ys ∧ ∃ Pv : Nat → L2.St → Hp → Prop, Pv 0 σ H1 ∧ (∀ i σ' H', Pv i σ' H' → SqL K H' a xs ∧ SqL K H' b ys) ∧
      (∀ (i : Nat) x y σ' H' T, xs[i]? = some x → ys[i]? = some y → Pv i σ' H' → H' T = none → tb (Ends.mk (Pv (i + 1)) rt nx (Pv (i + 1))) ((σ'.set j (some x)).set l (some y)) (upd H' T (.tup [x, y]))) ∧ ∀ σ' H', Pv (min xs.length ys.length) σ' H' → nx σ' H') :
    tFor (iZip K ta) (gTup K 2 (gCons (gName j) (gCons (gName l) gNil))) tb (Ends.mk nx rt bk ct) σ H := by
  refine src _ fun a b xs ys H1 hG => ?_
  obtain ⟨ha, hb, Pv, h0, hl, hs, hd⟩ := body a b xs ys H1 hG
  refine ⟨a, b, xs, ys, rfl, ha, hb, for_it (walk_zip (xs := xs) (ys := ys) rfl) Pv h0 (fun i σ' H' _ p => hl i σ' H' p) (fun i v σ' H' H2 hi hp y => ?_) hd⟩
  obtain ⟨T, x1, x2, rfl, hT, rfl, e1, e2⟩ := y
  exact ⟨T, [x1, x2], rfl, .inl (.inl upd_same), rfl, _, _, rfl, _, _, rfl, rfl, hs i x1 x2 σ' H' T e1 e2 hp hT⟩
end Rg

set_option Elab.async false
set_option linter.all false
set_option maxRecDepth 100000
set_option maxHeartbeats 2000000
/-! # Defs that are called within an except suite, with the exception that is handled; they raise nothing -/
namespace Rg
open PySem PySem.W PySem.Spec PySem.HandSPX PyProof.Rows L2
abbrev SpP := Addr → Value → Option Addr → Sp
/-- what a def promises there: p is the exception -/
structure FnP (P : Program) (w : World) (K : PySem.W.Frag) (mg : Str → Option Value) (base : Heap) (k : Nat) (f : Addr) (fd : FuncData) (ps : List Str) (sp : SpP) : Prop where
  len : ∀ a cls d vs H Q E, sp a cls d vs H Q E → vs.length = ps.length
  run : ∀ (A : Around) (outer : List Env) (s : Shared) (H : Hp) (args : Args) (us : List Value) (vs : List V) (Q : VK) (E : XK) (p : Addr × Obj) (cls : Value) (d : Option Addr), L2H.RoomH k A → L2H.PinOk outer H s p → Zc cls d p.2 → (∃ vs, p.2.data = .fields vs) → Env0 P w K mg base A outer s H → BindsTo s fd args (ps.zip us) → Vals vs us →
    sp p.1 cls d vs H Q E → codeAny (model P w) A (.call (.ref f) args) (CR CX0 outer P w H s Q E) s
theorem fn_ofP {P : Program} {w : World} {K : PySem.W.Frag} {mg : Str → Option Value} {base : Heap} {k : Nat} {f : Addr} {name qual : Str} {params : Arguments} {body : List Stmt} {scope : Scope} {dV kV doc pm cdv ct oc : Value} {an od : Option Addr}
    {osl : Array (Option Value)} {N ps : List Str} {sp : SpP} (lk : K.lookup f = some ⟨oc, od, .func (PySem.W.fnOf name qual params body scope dV kV doc pm an cdv ct), osl⟩) (hcd : PySem.W.codeIn K cdv qual = true) (S : FnScope N ps scope)
    (len : ∀ a cls d vs H Q E, sp a cls d vs H Q E → vs.length = ps.length)
    (hbody : ∀ (A : Around) (outer : List Env) (s : Shared) (H : Hp) (vs : List V) (Q : VK) (E : XK) (p : Addr × Obj) (cls : Value) (d : Option Addr), Zc cls d p.2 → (∃ vs, p.2.data = .fields vs) → L2H.RoomH k (A.deeper (envOfC qual scope s.heap.objs.size f cdv)) → sp p.1 cls d vs H Q E →
      ∃ t, PSs (L2H.cxH CX0 P w K mg base N qual scope f cdv A outer s H E p) body t ∧ t { nx := fun _ H' => Q .non H', rt := Q } (L2.start N vs) H) :
    FnP P w K mg base (k + 1) f (PySem.W.fnOf name qual params body scope dV kV doc pm an cdv ct) ps sp := by
  refine ⟨len, fun A outer s H args us vs Q E p cls d hr hpin hz hf e0 hb r hsp => ?_⟩
  have hl := len _ _ _ _ _ _ _ hsp
  have KX : K.In s.heap := e0.mod.kin.keeps fun b o e => (e0.bs b o e).1
  have lim : s.heap.NoLimit := e0.mod.nolimit.keeps fun b o e => (e0.bs b o e).1
  have hkind : ∀ y ∈ ps.zip us, scope.names.lookup y.1 = some .local ∨ (scope.names.lookup y.1 = some .cell ∧ ((cellsFrom (s.heap.objs.size + 1) scope.names []).lookup y.1).isSome = true) := fun ⟨n, v⟩ hy => by
    rcases S.par n (List.of_mem_zip hy).1 with q | q
    · exact .inl q
    · exact .inr ⟨q, PySem.W.cellsFrom_some _ _ _ (.inl q)⟩
  refine codeAny_call_function hr.depth (KX _ _ lk) rfl S.co S.gen rfl (PySem.W.codeRec_of KX hcd) (hb _ _ _ _ ?_)
  refine wpAny_newFunctionEnv_cells S.kind hkind fun env he s1 x => ?_
  subst he
  refine ⟨lim.keeps x.toInCall.keep, codeAny_func ?_⟩
  obtain ⟨t, ht, hq⟩ := hbody A outer s H vs Q E p cls d hz hf (hr.deeper _) hsp
  have I : L2.Inv (L2H.cxH CX0 P w K mg base N qual scope f cdv A outer s H E p) [] (L2.start N vs) H s1 := L2H.inv_startH S hpin e0 hl r x
  refine wpAny_mono (ht.run [] s1 (L2.start N vs) H _ I hq) (fun fl s' hs => ?_) fun e s' hs => hs
  have fin : ∀ {σ' : L2.St} {H' : Hp} {v : V} {u : Value}, L2.Inv (L2H.cxH CX0 P w K mg base N qual scope f cdv A outer s H E p) [] σ' H' s' → RelV v u → Q v H' → CE outer P w H s Q u s' :=
    fun {σ' H' v u} J rv q => ⟨v, H', J.os, J.bare, J.base, J.hok, rv, q⟩
  cases fl with
  | ret u =>
    obtain ⟨v, σ', H', J, rv, q⟩ := hs
    exact fin J rv q
  | next =>
    obtain ⟨σ', H', J, q⟩ := hs
    exact fin (v := V.non) (u := Value.none) J rfl q
  | brk =>
    obtain ⟨_, _, _, q⟩ := hs
    exact False.elim q
  | cont =>
    obtain ⟨_, _, _, q⟩ := hs
    exact False.elim q
theorem okP {P : Program} {w : World} {K : PySem.W.Frag} {mg : Str → Option Value} {base : Heap} {x qual : Str} {st : Stmt} {f : Addr} {fd : FuncData} {N ps : List Str} {k : Nat} {sp : SpP} (F : Fun K x qual st f fd) (S : FnScope N ps (defScope st)) (len : ∀ a cls d vs H Q E, sp a cls d vs H Q E → vs.length = ps.length)
    (hbody : ∀ (cdv : Value) (A : Around) (outer : List Env) (s : Shared) (H : Hp) (vs : List V) (Q : VK) (E : XK) (p : Addr × Obj) (cls : Value) (d : Option Addr), Zc cls d p.2 → (∃ vs, p.2.data = .fields vs) → L2H.RoomH k (A.deeper (envOfC qual (defScope st) s.heap.objs.size f cdv)) → sp p.1 cls d vs H Q E →
      ∃ t, PSs (L2H.cxH CX0 P w K mg base N qual (defScope st) f cdv A outer s H E p).nox (defBody st) t ∧ t { nx := fun _ H' => Q .non H', rt := Q } (L2.start N vs) H) : FnP P w K mg base (k + 1) f fd ps sp := by
  obtain ⟨oc, od, kV, doc, pm, an, cdv, ct, osl, rfl, lk, hcd⟩ := F.ex
  refine fn_ofP lk hcd S len fun A outer s H vs Q E p cls d hz hf hr hsp => ?_
  obtain ⟨t, h, q⟩ := hbody cdv A outer s H vs Q E p cls d hz hf hr hsp
  exact ⟨t, h.nox, q⟩
section
variable {X : Cx} {k : Nat} {f : Addr} {fd : FuncData} {ps : List Str} {sp : SpP} {x : Str} {q pos : Pos} {e : Expr} {es : List Expr} {t : TA} {p : Addr × Obj} {cls : Value} {d : Option Addr}
def tCallP (sp : Sp) (t : TA) : TE := fun σ H Q => t σ H fun vs H1 => sp vs H1 Q E0
theorem kCallP {σ : L2.St} {H : Hp} {Q : VK} {sp : Sp} (h : t σ H fun vs H1 => sp vs H1 Q E0) : tCallP sp t σ H Q := h
theorem pe_callP {a : Addr} {oe : Obj} (F : FnP X.prog X.w X.K X.mg X.base k f fd ps sp) (hr : L2H.RoomH k X.A) (hp : (a, oe) ∈ X.pn) (hz : Zc cls d oe) (hf : ∃ vs, oe.data = .fields vs) (hg : Gl X x) (hm : X.mg x = some (.ref f)) (hk : PySem.W.keepIn X.K (.ref f) = true) (hb : Binds X.K fd ps [])
    (ha : PA X (e :: es) t) (hdb : (x == ("__debug__" : Str)) = false := by decide) (he : starEach (e :: es) X.env = (false, eval e X.env) :: starEach es X.env := by rfl) (hpl : (backTo pos (starEach es X.env)).any (·.1) = false := by rfl) :
    PE X (.Call (.Name x q) (e :: es) [] pos) (tCallP (sp a cls d) t) := by
  refine ⟨fun pins s σ H Q I h => ?_⟩
  refine wpAny_Call_Name_kw (ld_glob I hg hm ?_ hdb)
  refine PySem.W.callWith_K (h₀ := X.base) I.ok.mod.kin hk (thn (ha.run pos pins s σ H _ I h) fun us s1 ⟨vs, H1, I1, r, q⟩ => ⟨I1.kIn, ?_⟩) he hpl
  have hl : us.length = ps.length := by rw [← r.length]; exact F.len _ _ _ _ _ _ _ q
  have b := hb s1 us I1.kIn (by rw [List.append_nil]; exact hl)
  rw [List.append_nil] at b
  have P1 := I1.pin (a, oe) (List.mem_append_left _ hp)
  have hpin : L2H.PinOk X.stack H1 s1 (a, oe) := ⟨P1.1, P1.2.1, fun hm => (List.mem_cons.mp (I1.stkSub a hm)).elim P1.2.2.1 P1.2.2.2.1, P1.2.2.2.2⟩
  refine wpAny_call (codeAny_mono (F.run X.A X.stack s1 H1 ⟨us, []⟩ us vs Q E0 (a, oe) cls d hr hpin hz hf I1.env0 b r q) fun r s' hq => ?_)
  cases r with
  | error e => exact False.elim hq
  | ok fl =>
    cases fl with
    | ret u => exact I1.after hq
    | next => exact False.elim hq
    | brk => exact False.elim hq
    | cont => exact False.elim hq
/-- isinstance(e, c) of it -/
def rIsP (K : Frag) (a : Addr) (cls : Value) (d : Option Addr) : List V → Hp → VK → Prop := fun xs H Q => ∃ (C dd : Addr) (fs : List (Str × V)) (c : V) (u : Value) (b : Bool), xs = [.ref a, c] ∧ cls = .ref C ∧ d = some dd ∧ H dd = some (.xd fs) ∧ L2.ExcC K C ∧ ClsV c u ∧ kitOne K (.ref C) u = some b ∧ Q (.bl b) H
theorem inst_pin {pins : List (Addr × Obj)} {σ : L2.St} {H : Hp} {s : Shared} {C dd : Addr} {fs : List (Str × V)} (I : L2.Inv X pins σ H s) (hp : p ∈ X.pn) (hz : Zc (.ref C) (some dd) p.2) (hf : ∃ vs, p.2.data = .fields vs) (hx : H dd = some (.xd fs)) :
    ∃ od, W.InstAt s.heap p.1 p.2 C (some od) ∧ (∃ mA : Str → Option Value, (∀ name : Str, lookIn name od = some (mA name)) ∧ ∀ f : Str, RelO (fs.lookup f) (mA f)) := by
  obtain ⟨vs, hdat⟩ := hf
  have hget := (I.pin p (List.mem_append_left _ hp)).1
  obtain ⟨mA, hns, hr⟩ := (I.hok dd _ hx : ObjOk _ _ _ _ _ (.xd _))
  obtain ⟨od, ho, hl⟩ := lookIn_ns hns
  exact ⟨od, ⟨hget, hz.1, by unfold PySem.W.notCls; rw [hdat] <;> rfl, by rw [hz.2]; exact ho⟩, mA, hl, hr⟩
theorem call_isP (hp : p ∈ X.pn) (hz : Zc cls d p.2) (hf : ∃ vs, p.2.data = .fields vs) : CallR X (.builtin "isinstance") (rIsP X.K p.1 cls d) := by
  intro pins s σ H xs us Q I rv ⟨C, dd, fs, c, u, b, hx, ec, ed, hxd, T, hc, hb, q⟩
  subst hx
  subst ec
  subst ed
  cases rv with
  | cons r1 rr =>
    cases rr with
    | cons r2 rn =>
      cases rn
      obtain rfl : _ = Value.ref p.1 := r1
      obtain ⟨od, hi, _⟩ := inst_pin I hp hz hf hxd
      rw [hc.eq r2] at *
      refine kia_one (held_kit T) I.kIn hi hb (by intro e; cases e) (fun tk => ⟨.bl b, H, I.tok tk, rfl, q⟩)
/-- e.f -/
def tPf (K : Frag) (a : Addr) (cls : Value) (d : Option Addr) (f : Str) (te : TE) : TE := fun σ H Q => te σ H fun x H1 => ∃ (C dd : Addr) (fs : List (Str × V)) (v : V), x = .ref a ∧ cls = .ref C ∧ d = some dd ∧ H1 dd = some (.xd fs) ∧ XfC K C ∧ PySem.W.findIn K (.ref C) f = some none ∧ fs.lookup f = some v ∧ Q v H1
theorem pe_pf {f : Str} {te : TE} (hp : p ∈ X.pn) (hz : Zc cls d p.2) (hf : ∃ vs, p.2.data = .fields vs) (he : PE X e te) (hb : attributeBase e f X.env (eval e X.env) = eval e X.env := by rfl) : PE X (.Attribute e f pos) (tPf X.K p.1 cls d f te) := by
  refine ⟨fun pins s σ H Q I h => ?_⟩
  refine attr_of hb (thn (he.run pins s σ H _ I h) fun u s1 hh => ?_)
  obtain ⟨x, H1, I1, rx, C, dd, fs, v, ex, ec, ed, hxd, T, noN, hl, q⟩ := hh
  subst ex
  subst ec
  subst ed
  obtain rfl : u = Value.ref p.1 := rx
  obtain ⟨od, hi, mA, hla, hr⟩ := inst_pin I1 hp hz hf hxd
  obtain ⟨u, hu, ru⟩ := RelO.some_of (v := v) (o := mA f) (by rw [← hl]; exact hr f)
  exact HandSPX.exc_get I1.kIn hi T.ga T.gg T.exC (PySem.W.findObj_own T.hdC noN rfl (by rw [hla, hu])) (handed_of ru) ⟨v, H1, I1.tok _, ru, q⟩
end
section
variable {σ : L2.St} {H : Hp} {Q : VK} {K : Frag} {a C dd : Addr} {fs : List (Str × V)} {te : TE} {c : V} {u : Value} {b : Bool}
theorem kIsP (hx : H dd = some (.xd fs)) (T : L2.ExcC K C) (hc : ClsV c u) (hb : kitOne K (.ref C) u = some b) (q : Q (.bl b) H) : rIsP K a (.ref C) (some dd) [.ref a, c] H Q := ⟨C, dd, fs, c, u, b, rfl, rfl, rfl, hx, T, hc, hb, q⟩
theorem kPf {f : Str} {cls : Value} {d : Option Addr} (h : te σ H fun x H1 => ∃ (C dd : Addr) (fs : List (Str × V)) (v : V), x = .ref a ∧ cls = .ref C ∧ d = some dd ∧ H1 dd = some (.xd fs) ∧ XfC K C ∧ PySem.W.findIn K (.ref C) f = some none ∧ fs.lookup f = some v ∧ Q v H1) : tPf K a cls d f te σ H Q := h
end
theorem roomS {k : Nat} {A : Around} {h : Option Value} (r : Room k A) : L2H.RoomH k (A.mark h) := ⟨r.dp, r.un⟩
/-! ### except x as n, the exception gone behind it -/
theorem noTk {X : Cx} : Takes X (fun _ _ _ _ => False) := fun u s' x => by
  obtain ⟨_, _, _, _, _, _, _, _, _, _, _, _, _, _, _, _, h⟩ := x
  exact h.elim
theorem ps_gone {X : Cx} {x n : Str} {c : Value} {i : Nat} {body suite : List Stmt} {b₀ : Stmt} {np pos pos' : Pos} {tb : WX → TS} {ts : Addr → Value → Option Addr → TS}
    (hs : X.stack = X.env :: X.outer) (hf : X.env.frame = some X.env.locals) (hN : X.N.Nodup) (hi : X.N[i]? = some n) (hln : X.env.kindOf n = some .local) (hg : Gl X x) (hc : X.mg x = some c)
    (hb : ∀ (W : WX) (pn : List (Addr × Obj)) (xe : Value → Shared → Prop), Takes (X.tr pn xe) W → PSs (X.tr pn xe) body (tb W))
    (hsu : ∀ (a : Addr) (oe : Obj) (cls : Value) (d : Option Addr) (pn : List (Addr × Obj)), Zc cls d oe → (∃ vs, oe.data = Data.fields vs) → PSs (X.suite a ((a, oe) :: pn)) (b₀ :: suite) (ts a cls d))
    (hd : (x == ("__debug__" : Str)) = false := by rfl) :
    PS X (.Try body [.ExceptHandler (some (.Name x np)) (some n) (b₀ :: suite) pos'] [] [] pos) (fun D σ H => tb (wAs X.K c i ts (fun _ _ _ _ => False) D) D σ H) :=
  ps_try_as hs hf hN hi hln ⟨hg, hd, .inl hc⟩ noTk (fun W pn xe tk _ => hb W pn xe tk) hsu
end Rg

set_option Elab.async false
set_option linter.all false
set_option maxRecDepth 100000
set_option maxHeartbeats 2000000
/-! # A refusal made and kept as a value -/
namespace Rg
open PySem PySem.W PySem.Spec PySem.HandSPX PyProof.Rows L2
section
variable {X : Cx} {C fI : Addr} {fld : Str} {msg : Expr} {G : Value → Prop} {fd : FuncData} {bmB : List Value}
/-- C(e), the exception itself -/
def tMkV (C : Addr) (fld : Str) (ta : TA) : TE := fun σ H Q => ta σ H fun vs H1 => ∃ v, vs = [v] ∧ ∀ d e, H1 d = none → H1 e = none → d ≠ e → Q (.ref e) (upd (upd H1 d (.xd [(fld, v)])) e (exh e (.ref C) (some d)))
theorem pe_mkV {x : Str} {a : Expr} {ta : TA} {p pos : Pos} {k : Nat} (hex : X.ex = []) (T : ExT X.prog X.K X.mg fld C fI bmB) (J : ExI X.prog X.K fld C fI fd msg) (hmsg : MsgOk X.prog X.w fld msg (fun _ => True)) (hr : Room k X.A) (ha : PA X [a] ta) (hm : X.mg x = some (.ref C)) (hg : Gl X x := by rfl)
    (hd : (x == ("__debug__" : Str)) = false := by rfl) (he : starEach (a :: []) X.env = (false, eval a X.env) :: starEach [] X.env := by rfl) (hpl : (backTo pos (starEach [] X.env)).any (·.1) = false := by rfl) :
    PE X (.Call (.Name x p) [a] [] pos) (tMkV C fld ta) := by
  refine ⟨fun pins s σ H Q I h => ?_⟩
  refine wpAny_Call_Name_kw (ld_glob I hg hm ?_ hd)
  refine PySem.W.callWith_K (h₀ := X.base) I.ok.mod.kin T.kC (thn (ha.run pos pins s σ H _ I h) fun us s1 hh => ?_) he hpl
  obtain ⟨vs, H1, I1, r1, v, ev, q1⟩ := hh
  subst ev
  refine ⟨I1.kIn, ?_⟩
  cases r1 with
  | cons rv rn =>
    rename_i v' us'
    cases rn
    show wpAny _ _ (call (.ref C) [v']) _ _ _
    have hlim := I1.nolimit
    obtain ⟨mb, hmb, hbt⟩ := I1.ok.mod.blt
    have hgl : s1.heap.Ns mainGlobals X.mg := I1.ok.mod.glob.keeps I1.bk
    have hbl : s1.heap.Ns builtinsNs mb := hmb.keeps I1.bk
    obtain ⟨m0, hns0, _⟩ := I1.loc
    have hloc : X.env.locals < s1.heap.objs.size := hns0.lt
    obtain ⟨hp, g, dr, tk, os⟩ := s1
    refine wpAny_call (ex_made T J hmsg I1.kIn hlim hgl hbl ((hbt _ (by decide)).trans rfl) (by have := hr.dp; omega) trivial fun h' tk' e d M => ?_)
    obtain ⟨t1, hoe⟩ := M.obj
    have hns := M.ns
    have ob : ObjOk X.prog X.w (upd H1 d (.xd [(fld, v)])) h' d (.xd [(fld, v)]) := ⟨_, hns.at (fun o q => q), fun f => relO_fld rv f⟩
    have J1 : L2.Inv X pins σ (upd H1 d (.xd [(fld, v)])) ⟨h', g, dr, tk', os⟩ := I1.laid (t' := tk') M.keep M.dbig ob
    have lte : ∀ {b : Addr} {o : Obj}, hp.get? b = some o → b ≠ e := fun q z => by
      have h1 := Heap.lt_size q
      have h2 := M.new
      rw [z] at h1
      exact absurd (Nat.lt_of_lt_of_le h1 h2) (Nat.lt_irrefl _)
    have hHd : H1 d = none := I1.hok.fresh M.dbig
    have hHe : H1 e = none := I1.hok.fresh M.new
    have hne : (upd H1 d (.xd [(fld, v)])) e = none := by rw [upd_ne (Ne.symm M.dne)]; exact hHe
    refine ⟨.ref e, _, ?_, rfl, q1 d e hHd hHe M.dne⟩
    refine hold_it (cls := .ref C) (d := some d) (oe := _) ⟨rfl, rfl⟩ ⟨_, rfl⟩ J1 hoe hne (fun z => ?_) ?_ (fun y c ec z => ?_) (fun p hp' z => ?_)
    · have h1 := hloc
      rw [← z] at h1
      exact absurd (Nat.lt_of_lt_of_le h1 M.new) (Nat.lt_irrefl _)
    · cases e0 : X.s_0.heap.get? e with
      | none => rfl
      | some o =>
        obtain ⟨o', e'⟩ := I1.base.there e o e0 (by rw [hex]; exact List.not_mem_nil)
        exact absurd rfl (lte e')
    · obtain ⟨_, o, ho, _⟩ := I1.cell y c ec
      exact lte ho z
    · exact lte (I1.pin p hp').1 z
/-- e.f, the ledger named -/
theorem pe_hfQ {K : Frag} {e : Expr} {te : TE} {f : Str} {pos : Pos} (eK : X.K = K) (he : PE X e te) (hb : attributeBase e f X.env (eval e X.env) = eval e X.env := by rfl) : PE X (.Attribute e f pos) (tHf K f te) := eK ▸ pe_hf he hb
end
section
variable {σ : L2.St} {H : Hp} {Q : VK} {K : Frag} {te : TE} {ta : TA} {C : Addr} {fld f : Str} {v : V} {d : Addr} {n : Nat} {L : Led}
def MkC (C : Addr) (fld : Str) (Q : VK) (vs : List V) (H : Hp) : Prop := ∃ v, vs = [v] ∧ ∀ d e, H d = none → H e = none → d ≠ e → Q (.ref e) (upd (upd H d (.xd [(fld, v)])) e (exh e (.ref C) (some d)))
theorem kMkV (h : ta σ H fun vs H1 => MkC C fld Q vs H1) : tMkV C fld ta σ H Q := h
theorem kMkK (kn : Kn d n L H) (q : ∀ e x H', Kn d n ((e, exh e (.ref C) (some x)) :: (x, .xd [(fld, v)]) :: L) H' → Q (.ref e) H') : MkC C fld Q [v] H :=
  ⟨v, rfl, fun x e hx he hne => q e x _ ((kn.new hx).new (by rw [upd_ne (Ne.symm hne)]; exact he))⟩
theorem kHf (h : te σ H fun x H1 => ∃ (a C d : Addr) (fs : List (Str × V)) (v : V), x = .ref a ∧ Kept H1 a C d fs ∧ XfC K C ∧ PySem.W.findIn K (.ref C) f = some none ∧ fs.lookup f = some v ∧ Q v H1) : tHf K f te σ H Q := h
theorem kIsH {a x : Addr} {fs : List (Str × V)} {c : V} {u : Value} {b : Bool} (k : Kept H a C x fs) (T : L2.ExcC K C) (hc : ClsV c u) (hb : kitOne K (.ref C) u = some b) (q : Q (.bl b) H) : rIsH K [.ref a, c] H Q := ⟨a, C, x, fs, c, u, b, rfl, k, T, hc, hb, q⟩
end
end Rg

set_option Elab.async false
set_option linter.all false
set_option maxRecDepth 100000
set_option maxHeartbeats 2000000
namespace Rg
open PySem PySem.Spec PyProof.Rows L2
/-! ### comprehensions whose ledger grows; S tells what is made so far, the dice's count, the ledger -/
theorem kLcLS {d : Addr} {n : Nat} {L : Led} {H : Hp} {K : PySem.W.Frag} {σ : L2.St} {Q : VK} {p : Addr} {xs : List V} {te0 te : TE} {tt : TT} {j : Nat} {vs : List Nat} (k : Kn d n L H) (hp : (p, .lst xs) ∈ L) (src : ∀ R : VK, R (.ref p) H → te0 σ H R)
    (hz : xs.length ≤ 100000) (S : Nat → List V → Nat → Led → Prop) (s0 : S 0 [] n L) (sl : ∀ i l m L2, S i l m L2 → l.length ≤ i ∧ (p, .lst xs) ∈ L2) (hw : ∀ x, wipe ((wipe σ vs).set j (some x)) vs = wipe σ vs)
    (turn : ∀ i x H' D acc m L2, xs[i]? = some x → S i acc m L2 → Kn d m ((D, .lst acc) :: L2) H' → ∀ (N1 : VK) (N2 : Hp → Prop), (∀ y H4 m3 L3, S (i + 1) (acc ++ [y]) m3 L3 → Kn d m3 ((D, .lst acc) :: L3) H4 → N1 y H4) → (∀ H3 m3 L3, S (i + 1) acc m3 L3 → Kn d m3 ((D, .lst acc) :: L3) H3 → N2 H3) →
      tt ((wipe σ vs).set j (some x)) H' fun b H3 => if b = true then te ((wipe σ vs).set j (some x)) H3 N1 else N2 H3)
    (q : ∀ D acc m L2 H', S xs.length acc m L2 → Kn d m ((D, .lst acc) :: L2) H' → Q (.ref D) H') : tLc (iList K te0) (gName j) tt te vs σ H Q := by
  refine src _ ⟨p, rfl, ⟨xs, k.seqL hp⟩, fun D hD => lc_list (xs := xs) (fun i H' => ∃ acc m L2, S i acc m L2 ∧ Kn d m ((D, .lst acc) :: L2) H') ⟨[], n, L, s0, k.new hD⟩ (fun i H' _ kn => by obtain ⟨acc, m, L2, hS, kn⟩ := kn; exact kn.seqL (List.mem_cons_of_mem _ (sl _ _ _ _ hS).2)) (fun i x H' hx kn => ⟨hw x, ?_⟩) (fun H' kn => by obtain ⟨acc, m, L2, hS, kn⟩ := kn; exact q D acc m L2 H' hS kn)⟩
  obtain ⟨acc, m, L2, hS, kn⟩ := kn
  have hi : i < xs.length := (List.getElem?_eq_some_iff.mp hx).1
  have hl := (sl _ _ _ _ hS).1
  exact turn i x H' D acc m L2 hx hS kn _ _ (fun y H4 m3 L3 e kn4 => ⟨acc, kn4.at 0 rfl, szL' (by omega), acc ++ [y], m3, L3, e, kn4.put 0 rfl⟩) (fun H3 m3 L3 e kn3 => ⟨acc, m3, L3, e, kn3⟩)
theorem kLcTS {d : Addr} {n : Nat} {L : Led} {H : Hp} {K : PySem.W.Frag} {σ : L2.St} {Q : VK} {p : Addr} {xs : List V} {te0 te : TE} {tt : TT} {j : Nat} {vs : List Nat} (k : Kn d n L H) (hp : (p, .tup xs) ∈ L) (src : ∀ R : VK, R (.ref p) H → te0 σ H R)
    (hz : xs.length ≤ 100000) (S : Nat → List V → Nat → Led → Prop) (s0 : S 0 [] n L) (sl : ∀ i l m L2, S i l m L2 → l.length ≤ i ∧ (p, .tup xs) ∈ L2) (hw : ∀ x, wipe ((wipe σ vs).set j (some x)) vs = wipe σ vs)
    (turn : ∀ i x H' D acc m L2, xs[i]? = some x → S i acc m L2 → Kn d m ((D, .lst acc) :: L2) H' → ∀ (N1 : VK) (N2 : Hp → Prop), (∀ y H4 m3 L3, S (i + 1) (acc ++ [y]) m3 L3 → Kn d m3 ((D, .lst acc) :: L3) H4 → N1 y H4) → (∀ H3 m3 L3, S (i + 1) acc m3 L3 → Kn d m3 ((D, .lst acc) :: L3) H3 → N2 H3) →
      tt ((wipe σ vs).set j (some x)) H' fun b H3 => if b = true then te ((wipe σ vs).set j (some x)) H3 N1 else N2 H3)
    (q : ∀ D acc m L2 H', S xs.length acc m L2 → Kn d m ((D, .lst acc) :: L2) H' → Q (.ref D) H') : tLc (iTup K te0) (gName j) tt te vs σ H Q := by
  refine src _ ⟨p, rfl, ⟨xs, k.seqT hp⟩, fun D hD => lc_tup (xs := xs) (fun i H' => ∃ acc m L2, S i acc m L2 ∧ Kn d m ((D, .lst acc) :: L2) H') ⟨[], n, L, s0, k.new hD⟩ (fun i H' _ kn => by obtain ⟨acc, m, L2, hS, kn⟩ := kn; exact kn.seqT (List.mem_cons_of_mem _ (sl _ _ _ _ hS).2)) (fun i x H' hx kn => ⟨hw x, ?_⟩) (fun H' kn => by obtain ⟨acc, m, L2, hS, kn⟩ := kn; exact q D acc m L2 H' hS kn)⟩
  obtain ⟨acc, m, L2, hS, kn⟩ := kn
  have hi : i < xs.length := (List.getElem?_eq_some_iff.mp hx).1
  have hl := (sl _ _ _ _ hS).1
  exact turn i x H' D acc m L2 hx hS kn _ _ (fun y H4 m3 L3 e kn4 => ⟨acc, kn4.at 0 rfl, szL' (by omega), acc ++ [y], m3, L3, e, kn4.put 0 rfl⟩) (fun H3 m3 L3 e kn3 => ⟨acc, m3, L3, e, kn3⟩)
theorem kLcRG {d : Addr} {n : Nat} {L : Led} {H : Hp} {σ : L2.St} {Q : VK} {lo : Int} {N : Nat} {wi : TI} {te : TE} {tt : TT} {j : Nat} {vs : List Nat} (k : Kn d n L H) (src : ∀ R : It → Hp → Prop, R (Itr lo N) H → wi σ H R)
    (hz : N ≤ 100000) (S : Nat → List V → Nat → Led → Prop) (s0 : S 0 [] n L) (sl : ∀ i l m L2, S i l m L2 → l.length ≤ i) (hw : ∀ x, wipe ((wipe σ vs).set j (some x)) vs = wipe σ vs)
    (turn : ∀ (i : Nat) H' D acc m L2, i < N → S i acc m L2 → Kn d m ((D, .lst acc) :: L2) H' → ∀ (N1 : VK) (N2 : Hp → Prop), (∀ y H4 m3 L3, S (i + 1) (acc ++ [y]) m3 L3 → Kn d m3 ((D, .lst acc) :: L3) H4 → N1 y H4) → (∀ H3 m3 L3, S (i + 1) acc m3 L3 → Kn d m3 ((D, .lst acc) :: L3) H3 → N2 H3) →
      tt ((wipe σ vs).set j (some (.int (lo + (i : Int))))) H' fun b H3 => if b = true then te ((wipe σ vs).set j (some (.int (lo + (i : Int))))) H3 N1 else N2 H3)
    (q : ∀ D acc m L2 H', S N acc m L2 → Kn d m ((D, .lst acc) :: L2) H' → Q (.ref D) H') : tLc wi (gName j) tt te vs σ H Q := by
  refine src _ fun D hD => lc_range (lo := lo) (n := N) (fun i H' => ∃ acc m L2, S i acc m L2 ∧ Kn d m ((D, .lst acc) :: L2) H') ⟨[], n, L, s0, k.new hD⟩ (fun i H' hi kn => ⟨hw _, ?_⟩) (fun H' kn => by obtain ⟨acc, m, L2, hS, kn⟩ := kn; exact q D acc m L2 H' hS kn)
  obtain ⟨acc, m, L2, hS, kn⟩ := kn
  have hl := sl _ _ _ _ hS
  exact turn i H' D acc m L2 hi hS kn _ _ (fun y H4 m3 L3 e kn4 => ⟨acc, kn4.at 0 rfl, szL' (by omega), acc ++ [y], m3, L3, e, kn4.put 0 rfl⟩) (fun H3 m3 L3 e kn3 => ⟨acc, m3, L3, e, kn3⟩)
/-- over zip of two lists, made on the way -/
theorem kLcZS {d : Addr} {n : Nat} {H : Hp} {K : PySem.W.Frag} {σ : L2.St} {Q : VK} {ta : TA} {te : TE} {tt : L2.TT} {j l : Nat} {vs : List Nat} (G : Addr → Addr → List V → List V → Led → Hp → Prop)
    (src : ∀ R : List V → Hp → Prop, (∀ a b xs ys L1 H1, G a b xs ys L1 H1 → R [.ref a, .ref b] H1) → ta σ H R) (hw : ∀ x y, wipe (((wipe σ vs).set j (some x)).set l (some y)) vs = wipe σ vs)
    (body : ∀ a b xs ys L1 H1, G a b xs ys L1 H1 → Kn d n L1 H1 ∧ (a, .lst xs) ∈ L1 ∧ (b, .lst ys) ∈ L1 ∧ xs.length ≤ 100000 ∧ ∃ S : Nat → List V → Led → Prop, S 0 [] L1 ∧ (∀ i acc L2, S i acc L2 → acc.length ≤ i ∧ L1.Sublist L2) ∧
      (∀ (i : Nat) x y H' D T acc L2, xs[i]? = some x → ys[i]? = some y → S i acc L2 → Kn d n ((T, .tup [x, y]) :: (D, .lst acc) :: L2) H' → ∀ (N1 : VK) (N2 : Hp → Prop), (∀ z H4 L3, S (i + 1) (acc ++ [z]) L3 → Kn d n ((D, .lst acc) :: L3) H4 → N1 z H4) →
        (∀ H3 L3, S (i + 1) acc L3 → Kn d n ((D, .lst acc) :: L3) H3 → N2 H3) →
        tt (((wipe σ vs).set j (some x)).set l (some y)) H' fun b H3 => if b = true then te (((wipe σ vs).set j (some x)).set l (some y)) H3 N1 else N2 H3) ∧
      (∀ D acc L2 H', S (min xs.length ys.length) acc L2 → Kn d n ((D, .lst acc) :: L2) H' → Q (.ref D) H')) :
    tLc (iZip K ta) (gTup K 2 (gCons (gName j) (gCons (gName l) gNil))) tt te vs σ H Q := by
  refine src _ fun a b xs ys L1 H1 hG => ?_
  obtain ⟨k, ha, hb, hz, S, s0, sl, turn, q⟩ := body a b xs ys L1 H1 hG
  refine ⟨a, b, xs, ys, rfl, k.seqL ha, k.seqL hb, fun D hD => lc_it (walk_zip (xs := xs) (ys := ys) rfl) (fun i H' => ∃ acc L2, S i acc L2 ∧ Kn d n ((D, .lst acc) :: L2) H') ⟨[], L1, s0, k.new hD⟩ (fun i H' _ kn => by
    obtain ⟨acc, L2, hS, kn⟩ := kn
    have hs := (sl _ _ _ hS).2
    exact ⟨kn.seqL (List.mem_cons_of_mem _ (hs.subset ha)), kn.seqL (List.mem_cons_of_mem _ (hs.subset hb))⟩) (fun i v H2 H' hi kn y => ?_) (fun H' kn => by
    obtain ⟨acc, L2, hS, kn⟩ := kn
    exact q D acc L2 H' hS kn)⟩
  obtain ⟨acc, L2, hS, kn⟩ := kn
  have hl := (sl _ _ _ hS).1
  obtain ⟨T, x1, x2, rfl, hT, rfl, e1, e2⟩ := y
  have hxl : i < xs.length := (List.getElem?_eq_some_iff.mp e1).1
  have kt := kn.new (o := .tup [x1, x2]) hT
  refine ⟨T, [x1, x2], rfl, kt.seqT List.mem_cons_self, rfl, _, _, rfl, _, _, rfl, rfl, hw _ _, ?_⟩
  exact turn i x1 x2 _ D T acc L2 e1 e2 hS kt _ _ (fun y H4 L3 e kn4 => ⟨acc, kn4.at 0 rfl, szL' (by omega), acc ++ [y], L3, e, kn4.put 0 rfl⟩) (fun H3 L3 e kn3 => ⟨acc, L3, e, kn3⟩)
/-! ### divmod; items from behind -/
def rDm : List V → Hp → VK → Prop := fun xs H Q => ∃ i j, xs = [.int i, .int j] ∧ CDiv i j ∧ ∀ p, H p = none → Q (.ref p) (upd H p (.tup [.int (i / j), .int (i % j)]))
theorem c_divmod {X : Cx} : CallR X (.builtin "divmod") rDm := call_divmod
theorem kDm {d : Addr} {n : Nat} {L : Led} {H : Hp} {Q : VK} {i j : Int} (kn : Kn d n L H) (h0 : 0 < j) (h1 : j < 1000000) (q : ∀ p H', Kn d n ((p, .tup [.int (i / j), .int (i % j)]) :: L) H' → Q (.ref p) H') : rDm [.int i, .int j] H Q :=
  ⟨i, j, rfl, ⟨h0, by omega⟩, fun p hp => q p _ (kn.new hp)⟩
theorem atBack {α : Type} {l : List α} {k : Nat} {v : α} (h0 : 0 < k) (hk : k ≤ l.length) (h : l[l.length - k]? = some v) : atI l (-(k : Int)) = some v := by
  unfold atI ixN
  rw [if_neg (by omega), if_pos (by omega)]
  have e : (-(k : Int) + (l.length : Int)).toNat = l.length - k := by omega
  first
    | (show l[(-(k : Int) + (l.length : Int)).toNat]? = some v; rw [e]; exact h)
    | (show l[((l.length : Int) + -(k : Int)).toNat]? = some v; rw [Int.add_comm, e]; exact h)
/-- a tuple's two items into two names -/
theorem kTwo {K : PySem.W.Frag} {H : Hp} {p : Addr} {x y : V} {i j : Nat} {σ : L2.St} {R : L2.St → Hp → Prop} (h : SqT K H p [x, y]) (q : R ((σ.set i (some x)).set j (some y)) H) : ∃ a xs, V.ref p = .ref a ∧ SqT K H a xs ∧ xs.length = 2 ∧ (gCons (gName i) (gCons (gName j) gNil)) xs σ H R :=
  ⟨p, [x, y], rfl, h, rfl, _, _, rfl, _, _, rfl, rfl, q⟩
end Rg

set_option Elab.async false
set_option linter.all false
set_option maxRecDepth 100000
set_option maxHeartbeats 2000000
namespace Rg
open PySem PySem.Spec PyProof.Rows L2
/-! ### own instances: what the top has left of a class and its methods; fields, methods, making -/
structure Mf (K : PySem.W.Frag) (C : Addr) (m q : Str) (st : Stmt) (ps : List Str) (f : Addr) (fd : FuncData) : Prop where
  F : Fun K m q st f fd
  mt : Meth K C m f
  b : Binds K fd ps []
structure If (K : PySem.W.Frag) (mg : Str → Option Value) (x : Str) (C : Addr) (st : Stmt) (ps : List Str) (f : Addr) (fd : FuncData) : Prop where
  F : Fun K "__init__" (x ++ ".__init__") st f fd
  g : mg x = some (.ref C)
  b : Binds K fd ps []
  mke : Mk K C f
section
variable {X : Cx} {e : Expr} {f : Str} {pos : Pos} {ta : TE}
theorem pe_fldQ {K : PySem.W.Frag} (eK : X.K = K) (he : PE X e ta) (hb : attributeBase e f X.env (eval e X.env) = eval e X.env) : PE X (.Attribute e f pos) (tFld K ta f) := eK ▸ pe_fld he hb
end
section
variable {σ : L2.St} {H : Hp} {Q : VK} {K : PySem.W.Frag} {i : Nat} {a C dx : Addr} {fs : List (Str × V)} {f : Str} {v : V}
/-- a field of an instance in a slot -/
theorem kFld (h : σ[i]? = some (some (.ref a))) (ho : H a = some (.ins C dx fs)) (c : Cls K C) (n : NoAttr K C f) (l : fs.lookup f = some v) (q : Q v H) : tFld K (tVar i) f σ H Q :=
  ⟨.ref a, h, a, C, dx, fs, v, rfl, ho, c, n, l, q⟩
theorem kMeth {m : Str} {sp : Sp} {E : XK} {t : TA} (h : σ[i]? = some (some (.ref a))) (ho : H a = some (.ins C dx fs)) (l : fs.lookup m = none) (q : t σ H fun vs H2 => sp (.ref a :: vs) H2 Q E) : tMeth C m sp [] E (tVar i) t σ H Q := by
  refine ⟨.ref a, h, a, dx, fs, rfl, ho, l, ?_⟩
  simpa only [List.append_nil] using q
theorem kMake {sp : Sp} {E : XK} {t : TA} (q : t σ H fun vs H1 => ∀ x dx, H1 x = none → H1 dx = none → dx ≠ x → sp (.ref x :: vs) (upd (upd H1 dx (.own x)) x (.ins C dx [])) (fun v H2 => v = .non ∧ Q (.ref x) H2) E) : tMake C sp [] E t σ H Q := by
  unfold tMake
  simpa only [List.append_nil] using q
/-- storing a field -/
theorem kSetF {tv : TE} {nx bk ct : L2.St → Hp → Prop} {rt : VK} (h : tv σ H fun y H1 => σ[i]? = some (some (.ref a)) ∧ H1 a = some (.ins C dx fs) ∧ Cls K C ∧ NoAttr K C f ∧ fs.length < 1000 ∧ nx σ (upd H1 a (.ins C dx (putF f y fs)))) (mono : ∀ R R' : VK, (∀ v H1, R v H1 → R' v H1) → tv σ H R → tv σ H R') : sFld K (tVar i) tv f (Ends.mk nx rt bk ct) σ H := by
  refine mono _ _ (fun y H1 h => ?_) h
  obtain ⟨h1, h2, h3, h4, h5, h6⟩ := h
  exact ⟨.ref a, h1, a, C, dx, fs, rfl, h2, h3, h4, h5, h6⟩
end
theorem kFldV {σ : L2.St} {H : Hp} {K : PySem.W.Frag} {ta tv : TE} {f : Str} {D : Ends} (h : tv σ H fun y H1 => ta σ H1 fun x H2 => ∃ a C dx fs, x = .ref a ∧ H2 a = some (.ins C dx fs) ∧ Cls K C ∧ NoAttr K C f ∧ fs.length < 1000 ∧ D.nx σ (upd H2 a (.ins C dx (putF f y fs)))) : sFld K ta tv f D σ H := h
theorem kSetFld {σ : L2.St} {H : Hp} {K : PySem.W.Frag} {ta tv : TE} {f : Str} {nx bk ct : L2.St → Hp → Prop} {rt : VK} (h : tv σ H fun y H1 => ta σ H1 fun x H2 => ∃ a C dx fs, x = .ref a ∧ H2 a = some (.ins C dx fs) ∧ Cls K C ∧ NoAttr K C f ∧ fs.length < 1000 ∧ nx σ (upd H2 a (.ins C dx (putF f y fs)))) : sFld K ta tv f (Ends.mk nx rt bk ct) σ H := h
theorem putF_len (f : Str) (v : V) : ∀ fs : List (Str × V), (putF f v fs).length ≤ fs.length + 1
  | [] => Nat.le_refl _
  | (g, u) :: r => by
    have ih := putF_len f v r
    show (if g = f then (g, v) :: r else (g, u) :: putF f v r).length ≤ _
    split
    · rw [List.length_cons, List.length_cons]; omega
    · rw [List.length_cons, List.length_cons]; omega
theorem putF_lt {f : Str} {v : V} {fs : List (Str × V)} {k : Nat} (h : fs.length < k) : (putF f v fs).length < k + 1 := by
  have := putF_len f v fs
  omega
/-! ### a method that may raise, called where what is raised is wished for at the slots -/
section
variable {X : Cx} {CX : CXT} {k : Nat} {f C : Addr} {fd : FuncData} {ps : List Str} {sp : Sp} {E : L2.St → XK} {m : Str} {pos apos : Pos} {e o : Expr} {es : List Expr} {ta : TE} {t : TA}
def tMethS (C : Addr) (m : Str) (sp : Sp) (E : L2.St → XK) (ta : TE) (t : TA) : TE := fun σ H Q => ta σ H fun x H1 => ∃ a dx fs, x = .ref a ∧ H1 a = some (.ins C dx fs) ∧ fs.lookup m = none ∧
  t σ H1 fun vs H2 => sp (x :: vs) H2 Q (E σ)
theorem pe_methS {pl : Sem Bool} (he : PE X o ta) (c : Cls X.K C) (hm : Meth X.K C m f) (F : FnOk X.prog X.w X.K X.mg X.base CX k f fd ps sp) (hr : Room k X.A) (hb : Binds X.K fd ps []) (hx : ∀ σ, PassesAt CX X σ (E σ)) (ha : PA X (e :: es) t)
    (hst : starEach (e :: es) X.env = (false, eval e X.env) :: starEach es X.env := by rfl) (hpl : (backTo pos (starEach es X.env)).any (·.1) = false := by rfl)
    (ht : eval (.Call (.Attribute o m apos) (e :: es) [] pos) X.env = (do
      let ov ← eval o X.env
      standAt apos.atName
      let (f, first) ← holding [ov] (getMethod ov m pl)
      callWith pos f first (backTo pos (starEach (e :: es) X.env)) (backToKw pos (keywordEach [] X.env))) := by rfl) :
    PE X (.Call (.Attribute o m apos) (e :: es) [] pos) (tMethS C m sp E ta t) := by
  refine ⟨fun pins s σ H Q I h => ?_⟩
  refine PySem.W.methodCall_KW (pl := pl) (thn (he.run pins s σ H _ I h) fun u s1 ⟨x, H1, I1, rx, a, dx, fs, ex, ea, l, q⟩ => ?_) ht
  subst ex
  obtain rfl : u = Value.ref a := rx
  refine getmeth_ok I1 ea c hm l ?_
  refine PySem.W.callWith_K (first := [.ref a]) (h₀ := X.base) I1.ok.mod.kin hm.kp (thn (ha.run pos pins s1 σ H1 _ I1 q) fun us s2 ⟨vs, H2, I2, r, q2⟩ => ⟨I2.kIn, ?_⟩) hst hpl
  exact run_fnS (us := .ref a :: us) (vs := .ref a :: vs) F hr hb (hx σ) I2 (.cons rfl r) q2
theorem kMethS {σ : L2.St} {H : Hp} {Q : VK} {i : Nat} {a dx : Addr} {fs : List (Str × V)} (h : σ[i]? = some (some (.ref a))) (ho : H a = some (.ins C dx fs)) (l : fs.lookup m = none) (q : t σ H fun vs H2 => sp (.ref a :: vs) H2 Q (E σ)) : tMethS C m sp E (tVar i) t σ H Q :=
  ⟨.ref a, h, a, dx, fs, rfl, ho, l, q⟩
end
theorem unit1 {n m : Nat} (h : n + 64 < m) : n + 1 < m := by omega
theorem Kn.made {d : Addr} {n : Nat} {L : Led} {H : Hp} {x dx C : Addr} (k : Kn d n L H) (hx : H x = none) (hd : H dx = none) (ne : dx ≠ x) : Kn d n ((x, .ins C dx []) :: (dx, .own x) :: L) (upd (upd H dx (.own x)) x (.ins C dx [])) :=
  (k.new hd).new (by rw [upd_ne ne.symm]; exact hx)
end Rg

set_option Elab.async false
set_option linter.all false
set_option maxRecDepth 100000
set_option maxHeartbeats 2000000
namespace Rg
open PySem PySem.Spec PyProof.Rows L2
/-! ### sorted(range(len(xs)), key=lambda i: (xs[i], i)) -/
/-- the lambda's words: two names, one of the maker's cells and its own -/
structure LamK (qual : Str) (params : Arguments) (body : Expr) (scope : Scope) (a h : Str) : Prop where
  kind : scope.kind = .function
  co : scope.isCoroutine = false
  gen : scope.isGenerator = false
  nocell : ∀ x ∈ scope.names, x.2 ≠ .cell
  loc : scope.names.lookup h = some .local
  free : scope.names.lookup a = some .free
  bind : ∀ (cl : List (Str × Addr)) (pm cv ctv v : Value), bindArgs (PySem.W.kla_fn "<lambda>" qual params body scope cl pm cv ctv) ⟨[v], []⟩ = pure [(h, v)]
  words : ∃ (p1 p2 p3 p4 p5 : Pos) (k : Nat), body = .Tuple [.Subscript (.Name a p1) (.Name h p2) p3, .Name h p4] k p5
  da : (a == ("__debug__" : Str)) = false
  ca : (a == ("__classdict__" : Str)) = false
  dh : (h == ("__debug__" : Str)) = false
section
variable {prog : Program} {w : World} {A : Around} {s : Shared}
theorem key_eval {env : Env} {a h : Str} {cc t : Addr} {its : Array Value} {i : Nat} {tk tx : Tok} {x : Int} {m : Str → Option Value} {E : Value → Shared → Prop} {p1 p2 p3 p4 p5 : Pos} {kk : Nat} {Q : Value → Shared → Prop}
    (kind : env.scope.kind = .function) (loc : env.kindOf h = some .local) (free : env.kindOf a = some .free) (da : (a == ("__debug__" : Str)) = false) (ca : (a == ("__classdict__" : Str)) = false) (dh : (h == ("__debug__" : Str)) = false)
    (hns : s.heap.Ns env.locals m) (hm : m h = some (.int (i : Int) tk)) (hc : env.cells.lookup a = some cc) (hcell : s.heap.IsCell cc (some (.ref t))) (ht : IsTup s.heap t its) (hi : its[i]? = some (.int x tx)) (hz : its.size ≤ sizeLine)
    (q : Q (.ref s.heap.objs.size) { s with heap := s.heap.push { cls := .type "tuple", data := .seq #[.int x tx, .int (i : Int) tk] } }) :
    wpAny (model prog w) A (eval (.Tuple [.Subscript (.Name a p1) (.Name h p2) p3, .Name h p4] kk p5) env) Q E s := by
  have hlt : i < its.size := (Array.getElem?_eq_some_iff.mp hi).1
  have hl63 : (its.size : Int) < 2 ^ 63 := by
    have : sizeLine < 2 ^ 63 := by unfold sizeLine; decide
    omega
  have nh : ∀ (Q : Value → Shared → Prop) (p : Pos) (E : Value → Shared → Prop), Q (.int (i : Int) tk) s → wpAny (model prog w) A (eval (.Name h p) env) Q E s := fun Q p E q =>
    wpAny_Name (wpAny_loadName_local kind loc hns hm q) dh
  refine wpAny_Tuple_spliced (wpAny_items_cons ?_ rfl)
  refine wpAny_Subscript_Name slot_tuple_getitem.lookup ?_ (fun _ _ => rfl)
  refine wpAny_Name (wpAny_loadName_free (v := .ref t) kind free hc hcell ?_ ca) da
  refine nh _ _ _ ⟨ht.typeIs, getItem_tuple (j := i) ht (by omega) (by omega) ?_ hi ?_⟩
  · unfold seqIndex?
    have h0 : ¬ ((i : Int) < 0) := by omega
    simp [h0, hlt]
  · refine wpAny_items_cons (nh _ _ _ (wpAny_pure ⟨?_, q⟩)) rfl
    show 2 ≤ sizeLine
    unfold sizeLine
    decide
theorem key_turn {qual : Str} {params : Arguments} {body : Expr} {scope : Scope} {a h : Str} (L : LamK qual params body scope a h) {f c' cc t : Addr} {clos : List (Str × Addr)} {pm ctv : Value} {its : Array Value} {i : Nat} {tk tx : Tok} {x : Int}
    (hroom : A.depth < recursionLimit) (hf : s.heap.get? f = some (PySem.W.kla_obj "<lambda>" qual params body scope clos pm c' ctv)) (hcd : s.heap.CodeRec (.ref c') qual) (lim : s.heap.NoLimit)
    (hc : clos.lookup a = some cc) (hcell : s.heap.IsCell cc (some (.ref t))) (ht : IsTup s.heap t its) (hi : its[i]? = some (.int x tx)) (hz : its.size ≤ sizeLine) :
    wpAny (model prog w) A (call (.ref f) [.int (i : Int) tk]) (PySem.W.KeyPure (.tuple [.int x, .int (i : Int)]) s) (fun _ _ => False) s := by
  obtain ⟨p1, p2, p3, p4, p5, kk, rfl⟩ := L.words
  refine wpAny_call (codeAny_mono (R := fun r s' => ∃ v, r = .ok (.ret v) ∧ PySem.W.KeyPure (.tuple [.int x, .int (i : Int)]) s v s') ?_ fun r s' hq => ?_)
  · refine PySem.W.kla_callFunE hroom hf rfl L.co L.gen rfl hcd ?_
    rw [L.bind]
    refine wpAny_pure (wpAny_newFunctionEnv L.nocell (fun y hy => ?_) (fun h₁ hns hsb => ⟨lim.fresh _ hsb, ?_⟩) L.kind)
    · cases List.mem_singleton.mp hy
      exact L.loc
    · have kp : ∀ b o, s.heap.get? b = some o → h₁.get? b = some o := fun b o e => hsb.extBut b o (Nat.ne_of_lt (Heap.lt_size e)) (Heap.get?_push_of_some _ e)
      have hcell1 : h₁.IsCell cc (some (.ref t)) := by
        obtain ⟨o, e, d⟩ := hcell
        exact ⟨o, kp _ _ e, d⟩
      have ht1 : IsTup h₁ t its := by
        obtain ⟨o, e, r⟩ := ht
        exact ⟨o, kp _ _ e, r⟩
      refine PySem.W.kla_codeExpr (key_eval (i := i) (tk := tk) L.kind L.loc L.free L.da L.ca L.dh hns (by simp) hc hcell1 ht1 hi hz ?_)
      refine ⟨_, rfl, h₁.push _, _, rfl, fun b o e => Heap.get?_push_of_some _ (kp b o e), ?_⟩
      have r1 : ReadsAll (h₁.push { cls := .type "tuple", data := .seq #[.int x tx, .int (i : Int) tk] }) [.int x tx, .int (i : Int) tk] [.int x, .int (i : Int)] ([] ++ ([] ++ [])) := .cons (.int _ _) (.cons (.int _ _) .nil)
      exact .tuple (Heap.get?_push_size _ rfl) rfl rfl r1
  · obtain ⟨v, rfl, hk⟩ := hq
    exact hk
theorem each_range {its : List Value} {n : Nat} (hl : its.length = n) (h : ∀ (i : Nat) v, its[i]? = some v → ∃ t, v = Value.int (i : Int) t) : PySem.W.EachIs (fun v (i : Nat) => ∃ t, v = Value.int (i : Int) t) its (List.range n) := by
  have gen : ∀ (l : List Value) (ks : List Nat), l.length = ks.length → (∀ (i : Nat) v (k : Nat), l[i]? = some v → ks[i]? = some k → ∃ t, v = Value.int (k : Int) t) → PySem.W.EachIs (fun v (i : Nat) => ∃ t, v = Value.int (i : Int) t) l ks := by
    intro l
    induction l with
    | nil =>
      intro ks e _
      cases ks with
      | nil => exact .nil
      | cons k ks => cases e
    | cons v l ih =>
      intro ks e h
      cases ks with
      | nil => cases e
      | cons k ks => exact .cons (h 0 v k rfl rfl) (ih ks (by simpa using e) fun i v k a b => h (i + 1) v k (by simpa using a) (by simpa using b))
  refine gen its (List.range n) (by rw [List.length_range, hl]) fun i v k a b => ?_
  have hk : k = i := by
    have := List.getElem?_eq_some_iff.mp b
    obtain ⟨h1, h2⟩ := this
    rw [List.getElem_range] at h2
    exact h2.symm
  rw [hk]
  exact h i v a
def keyLe (lab : Nat → Int) : Nat → Nat → Bool := fun p q => decide (lab p < lab q ∨ (lab p = lab q ∧ (p : Int) ≤ (q : Int)))
theorem sorted_key_range {r f : Addr} {n : Nat} {lab : Nat → Int} {t u v : Tok} {Q E : Value → Shared → Prop} (hh : A.handled = none) (hr : IsRange s.heap r 0 (n : Int) 1 t u v) (hn : n ≤ 100000) (hu : A.units + 20 < cLine)
    (turn : ∀ (i : Nat) (t : Tok), i < n → ∀ (h : Heap) (tk : Nat), (∀ b o, s.heap.get? b = some o → h.get? b = some o) →
      wpAny (model prog w) A.in1.in1 (call (.ref f) [.int (i : Int) t]) (PySem.W.KeyPure (.tuple [.int (lab i), .int (i : Int)]) { s with heap := h, toks := tk }) (fun _ _ => False) { s with heap := h, toks := tk })
    (q : ∀ (h₁ : Heap) (D : Addr) (out : List Value) c h' tk, (∀ b o, s.heap.get? b = some o → h₁.get? b = some o) → (∀ b o, h₁.get? b = some o → h'.get? b = some o) → h₁.objs.size ≤ D → h'.get? D = some (seqObj "list" out.toArray c) → out.length = n →
      PySem.W.EachIs (fun v (i : Nat) => ∃ t, v = Value.int (i : Int) t) out ((List.range n).mergeSort (keyLe lab)) → Q (.ref D) { s with heap := h', toks := tk }) :
    wpAny (model prog w) A (call (.builtin "sorted") [.ref r] [(Str.ofString "key", .ref f)]) Q E s := by
  refine call_function_entry_kw kind_sorted plain_sorted entry_sorted (ksk_s1 _ _) ?_
  unfold Builtin.«sorted»
  refine wpAny_bind (m := checkCount "sorted" 1 1 _) (wpAny_pure ?_)
  have hsm : Builtin.Range.small 0 (n : Int) 1 = true := small_one (by omega) (by omega) (by omega) (by omega)
  have hsz : Builtin.Range.rangeSize 0 (n : Int) 1 = n := by rw [rangeSize_one]; split <;> omega
  refine wpAny_bind (collect_range (s := s) (n := n) (by exact hh) hr hsm hsz (by omega) fun h' tk acc hk hacc => ?_)
  have hln : acc.toList.length = n := by rw [Array.length_toList]; exact hacc.1
  have hL : acc.toList.length ≤ sizeLine := by rw [hln]; unfold sizeLine; omega
  refine wpAny_bind (wpAny_newList ?_ hL)
  have ho : (h'.push (seqObj "list" acc.toList.toArray 0)).get? h'.objs.size = some (seqObj "list" acc.toList.toArray 0) := Heap.get?_push_size _ rfl
  have kp : ∀ b o, s.heap.get? b = some o → (h'.push (seqObj "list" acc.toList.toArray 0)).get? b = some o := fun b o e => Heap.get?_push_of_some _ (hk b o e)
  have nD : ∀ b o, s.heap.get? b = some o → b ≠ h'.objs.size := fun b o e => Nat.ne_of_lt (Heap.lt_size (hk b o e))
  have each : PySem.W.EachIs (fun v (i : Nat) => ∃ t, v = Value.int (i : Int) t) acc.toList (List.range n) := each_range hln fun i v e => by
    obtain ⟨t, e'⟩ := hacc.2 i v (by simpa using e)
    exact ⟨t, by simpa using e'⟩
  refine wpAny_bind (wpAny_holding ?_)
  show wpAny (model prog w) A.in1 (call (.builtin "list.sort") [.ref h'.objs.size] [(Str.ofString "key", .ref f)]) _ _ { s with heap := h'.push (seqObj "list" acc.toList.toArray 0), toks := tk }
  refine PySem.W.list_sort_key_data (s := { s with heap := h'.push (seqObj "list" acc.toList.toArray 0), toks := tk }) (k := fun i : Nat => .tuple [.int (lab i), .int (i : Int)]) ho each ?_ ?_ (by rw [List.length_range]; unfold sizeLine; omega) ?_ (ksk_l1 _ _) (ksk_t1 _ _) ?_ ?_
  · exact .of fun i j => by simp [PySem.W.alike, PySem.W.alikeAll]
  · exact .tuples fun i => ⟨_, _, rfl⟩
  · intro i _
    simp only [PyData.depth, PyData.depthAll]
    show A.units + 1 + 1 + _ < cLine
    omega
  · rintro v i ⟨tv, rfl⟩ hi h2 tk2 kb
    exact turn i tv (List.mem_range.mp hi) h2 tk2 fun b o e => kb b o (nD b o e) (kp b o e)
  · intro out c h2 tk2 kb hD hlo ho2
    refine wpAny_pure ?_
    rw [List.length_range] at hlo
    rw [PySem.W.dataLe_ii] at ho2
    exact ⟨_, rfl, q h' _ out c h2 tk2 hk (fun b o e => kb b o (Nat.ne_of_lt (Heap.lt_size e)) (Heap.get?_push_of_some _ e)) (Nat.le_refl _) hD hlo ho2⟩
end
/-- the houses hue by hue -/
def byHue (labs : List Int) : List Nat := (List.range labs.length).mergeSort (keyLe fun i => labs.getD i 0)
theorem sqt_extN {K : PySem.W.Frag} {H H' : Hp} {a : Addr} {xs : List V} (q : SqT K H a xs) (e : LamX.ExtN H H') : SqT K H' a xs := by
  rcases q with q | q
  · refine .inl ?_
    rcases q with q | ⟨o, q⟩
    · exact .inl (e _ _ q fun ps z => by cases z)
    · exact .inr ⟨o, e _ _ q fun ps z => by cases z⟩
  · exact .inr q
def tSortK (K : PySem.W.Frag) (T : List (Addr × Str)) (j : Nat) (ta : TE) : TE := fun σ H Q => ta σ H fun x H1 => ∃ (tl : Addr) (labs : List Int), x = .int labs.length ∧ labs.length ≤ 100000 ∧ σ[j]? = some (some (.ref tl)) ∧ SqT K H1 tl (labs.map V.int) ∧ LamX.Tabs T H1 ∧
  ∀ H2 D, LamX.ExtN H1 H2 → LamX.Tabs T H2 → H2 D = none → Q (.ref D) (upd H2 D (.lst ((byHue labs).map fun (i : Nat) => V.int (i : Int))))
theorem each_vals : ∀ {out : List Value} {ks : List Nat}, PySem.W.EachIs (fun v (i : Nat) => ∃ t, v = Value.int (i : Int) t) out ks → Vals (ks.map fun (i : Nat) => V.int (i : Int)) out
  | _, _, .nil => .nil
  | _, _, .cons ⟨t, e⟩ r => .cons ⟨t, e⟩ (each_vals r)
/-- sorted(range(e), key=lambda h: (a[h], h)) -/
theorem pe_sortK {X : Cx} {p p2 p3 pos kp lpos : Pos} {ea : Expr} {ta : TE} {params : Arguments} {body : Expr} {scope : Scope} {T : List (Addr × Str)} {c P : Addr} {a h : Str} {j k : Nat}
    (hc : X.calm = true) (hr : Room (k + 2) X.A) (hg : Gl X "sorted") (hm : X.mg "sorted" = none) (hg2 : Gl X "range") (hm2 : X.mg "range" = none) (ha : PE X ea ta) (L : LamK (X.env.qual ++ "<lambda>") params body scope a h)
    (TB : LamX.TabB X.base X.mg c P) (hcode : X.env.code = .ref c) (hmT : (P, X.env.qual ++ "<lambda>") ∈ T) (hu : ∀ p ∈ T, p.1 = P → p.2 = X.env.qual ++ "<lambda>") (hdef : defaultsOf params X.env = ([], []))
    (hfree : ∀ y ∈ scope.names, y.2 = .free → X.env.scope.names.lookup y.1 = some .cell) (hN : X.N[j]? = some a) (na : starEach [ea] X.env = (false, eval ea X.env) :: starEach [] X.env := by rfl) :
    PE X (.Call (.Name "sorted" p) [.Call (.Name "range" p2) [ea] [] p3] [⟨some "key", .Lambda params body scope lpos, kp⟩] pos) (tSortK X.K T j ta) := by
  refine ⟨fun pins s σ H Q I h => ?_⟩
  refine wpAny_Call_Name_kw (ld_blt I hg hm boot_sorted ?_)
  refine PyProof.Rows.callWith_kw ?_
  show wpAny _ _ (spliced ((false, eval (.Call (.Name "range" p2) [ea] [] p3) X.env) :: backTo pos (starEach [] X.env))) _ _ s
  refine Calls.spliced_cons (Call_ (ld_blt I hg2 hm2 boot_range (PyProof.Rows.callWith_type1 (one_arg ha I h (fun v s2 x H2 I2 r q => ?_) na) na)))
  obtain ⟨tl, labs, rfl, hl, hs, hS, hT, q⟩ := q
  obtain ⟨tk, rfl⟩ := r
  refine call_range_1 (Calls.spliced_nil ?_)
  have I3 : Inv X pins σ H2 { s2 with heap := s2.heap.push { cls := .type "range", data := .fields #[.int 0 s2.toks, .int (labs.length : Int) tk, .int 1 (s2.toks + 1)] }, toks := s2.toks + 1 + 1 } :=
    I2.kept fun b u e => Heap.get?_push_of_some _ e
  have I4 : Inv X ((s2.heap.objs.size, { cls := .type "range", data := .fields #[.int 0 s2.toks, .int (labs.length : Int) tk, .int 1 (s2.toks + 1)] }) :: pins) σ H2 { s2 with heap := s2.heap.push { cls := .type "range", data := .fields #[.int 0 s2.toks, .int (labs.length : Int) tk, .int 1 (s2.toks + 1)] }, toks := s2.toks + 1 + 1 } := by
    refine I3.pins_of fun pr hp => ?_
    rcases List.mem_cons.mp hp with rfl | hp
    · exact ⟨Heap.get?_push_size _ rfl, I2.hok.fresh (Nat.le_refl _), Nat.ne_of_gt I2.lt, I2.nofs (Nat.le_refl _), fun v z => by cases z⟩
    · exact I3.pin pr (List.mem_append_right _ hp)
  refine PyProof.Rows.kws_cons (LamX.lam_make2 I4 TB hcode hmT hu hT hdef (fun y hy e => I4.ok.has _ (.inl (hfree y hy e))) fun f c' pm ctv H5 s5 I5 eN T5 hf hfn hfr hco => PyProof.Rows.kws_nil ?_)
  show wpAny (model X.prog X.w) X.A (call (.builtin "sorted") [.ref s2.heap.objs.size] [(Str.ofString "key", .ref f)]) (EP X pins σ Q) X.xe s5
  have hrg : IsRange s5.heap s2.heap.objs.size 0 (labs.length : Int) 1 s2.toks tk (s2.toks + 1) := (I5.pin _ (List.mem_append_right _ (List.mem_cons_self))).1
  obtain ⟨its, rv, ht, hz⟩ := I5.tuple (sqt_extN hS eN)
  have hfl : (a, NameKind.free) ∈ scope.names := PySem.mem_of_lookup L.free
  have hck : X.env.scope.names.lookup a = some .cell := hfree _ hfl rfl
  obtain ⟨cc, hcc⟩ := I5.ok.has a (.inl hck)
  obtain ⟨m, hn, hlk⟩ := I5.loc
  obtain ⟨u, hu1, hlook⟩ := hlk j a _ hN hs (.inr (.inl hck))
  cases hu1
  have hcell : s5.heap.IsCell cc (some (.ref tl)) := by
    rcases hlook with ⟨k', _⟩ | ⟨_, c3, e', z⟩
    · have k' : X.env.scope.names.lookup a = some .local := k'
      rw [hck] at k'
      cases k'
    · rw [hcc] at e'
      cases e'
      exact z
  have hclo : (cloFrom X.env.cells scope.names []).lookup a = some cc := NdefX.clo_has (fun y hy e => I5.ok.has _ (.inl (hfree y hy e))) hfl hcc
  have hdp := hr.dp
  have hun := hr.un
  refine sorted_key_range (n := labs.length) (lab := fun i => labs.getD i 0) (I5.ok.hd hc) hrg hl (by omega) (fun i t hi hp tk2 kp => ?_) fun h₁ D out c2 h2 tk2 k1 k2 hge hD hlo hout => ?_
  · obtain ⟨u, hu2, ru⟩ := rv.get (i := i) (x := V.int (labs.getD i 0)) (by rw [List.getElem?_map, List.getElem?_eq_getElem hi]; simp [List.getD, hi])
    obtain ⟨tx, rfl⟩ := ru
    have hcd : hp.CodeRec (.ref c') (X.env.qual ++ "<lambda>") := by
      obtain ⟨⟨oc, vs, t, h1, h2, h3⟩, _, _⟩ := I5.hok c' _ hco
      exact ⟨c', oc, vs, t, rfl, kp _ _ h1, h2, h3⟩
    refine key_turn (t := tl) L ?_ (kp _ _ hf) hcd (I5.nolimit.keeps kp) hclo ?_ (its := its.toArray) ?_ (by simpa using hu2) ?_
    · show X.A.depth < recursionLimit
      omega
    · obtain ⟨o, e, d⟩ := hcell
      exact ⟨o, kp _ _ e, d⟩
    · obtain ⟨o, e, r⟩ := ht
      exact ⟨o, kp _ _ e, r⟩
    · rw [List.size_toArray, ← rv.length]
      exact hz
  · have I6 : Inv X pins σ H5 { s5 with heap := h₁, toks := tk2 } := (I5.kept k1).pins_of fun pr hp => (I5.kept (t' := tk2) k1).pin pr (List.mem_append_right _ (List.mem_cons_of_mem _ hp))
    have hlen : ((byHue labs).map fun (i : Nat) => V.int (i : Int)).length ≤ sizeLine := by
      rw [List.length_map, byHue, List.length_mergeSort, List.length_range]
      unfold sizeLine
      omega
    exact ⟨.ref D, upd H5 D (.lst ((byHue labs).map fun (i : Nat) => V.int (i : Int))), I6.laid k2 hge ⟨hlen, out, c2, each_vals hout, hD⟩, rfl, q _ _ eN T5 (I6.hok.fresh hge)⟩
/-! ### a code object's table at the ledger's end: only the def that makes the lambda changes it -/
structure Tb (ps : Array Value) (cs : List Addr) : Prop where
  tri : TriplesOk ps.toList
  all : ∀ (pos : Pos) (cv : Value), codeAmong pos ps.toList = some cv → ∃ c ∈ cs, cv = .ref c
def tbL (P : Addr) (q : Str) (ps : Array Value) (cs : List Addr) : Led := (P, .tbl ps) :: cs.map fun c => (c, LamX.CodeO c q)
def NoT (L : Led) : Prop := ∀ e ∈ L, (∀ ps, e.2 ≠ .tbl ps) ∧ ∀ q, e.2 ≠ LamX.CodeO e.1 q
theorem NoT.nil : NoT [] := fun _ h => (List.not_mem_nil h).elim
theorem NoT.lst {a : Addr} {xs : List V} {L : Led} (h : NoT L) : NoT ((a, .lst xs) :: L) := fun e m => by
  rcases List.mem_cons.mp m with rfl | m
  · exact ⟨fun ps z => (by cases z), fun q z => (by unfold LamX.CodeO at z; cases z)⟩
  · exact h e m
theorem NoT.tup {a : Addr} {xs : List V} {L : Led} (h : NoT L) : NoT ((a, .tup xs) :: L) := fun e m => by
  rcases List.mem_cons.mp m with rfl | m
  · exact ⟨fun ps z => (by cases z), fun q z => (by unfold LamX.CodeO at z; cases z)⟩
  · exact h e m
theorem Tb.nil : Tb #[] [] := ⟨True.intro, fun pos cv h => by
  have z : codeAmong pos [] = some cv := h
  simp [codeAmong] at z⟩
theorem dedup : ∀ l : List Addr, ∃ l' : List Addr, l'.Nodup ∧ ∀ x, x ∈ l' ↔ x ∈ l
  | [] => ⟨[], List.nodup_nil, fun _ => Iff.rfl⟩
  | a :: l => by
    obtain ⟨l', n, h⟩ := dedup l
    by_cases ha : a ∈ l
    · refine ⟨l', n, fun x => ?_⟩
      rw [h, List.mem_cons]
      constructor
      · exact .inr
      · rintro (rfl | z)
        · exact ha
        · exact z
    · refine ⟨a :: l', List.nodup_cons.mpr ⟨fun z => ha ((h a).mp z), n⟩, fun x => ?_⟩
      rw [List.mem_cons, List.mem_cons, h]
def refOf : Value → List Addr
  | .ref c => [c]
  | _ => []
theorem among_mem {pos : Pos} {cv : Value} (l : List Value) (h : codeAmong pos l = some cv) : cv ∈ l := by
  fun_induction codeAmong pos l with
  | case1 a t b u v rest hc =>
    cases h
    simp
  | case2 a t b u v rest hc ih => exact List.mem_cons_of_mem _ (List.mem_cons_of_mem _ (List.mem_cons_of_mem _ (ih h)))
  | case3 l hl => cases h
theorem lg_tab {M : Led} {H H2 : Hp} {P : Addr} {q : Str} {ps : Array Value} {cs : List Addr} (l : Lg (M ++ tbL P q ps cs) H) (no : NoT M) (e : LamX.ExtN H H2) (t : LamX.Tabs [(P, q)] H2) :
    ∃ ps' cs', Tb ps' cs' ∧ Lg (M ++ tbL P q ps' cs') H2 := by
  obtain ⟨ps', hP, tri, hall⟩ := t (P, q) List.mem_cons_self
  obtain ⟨cs', nd, hm⟩ := dedup ((ps'.toList.flatMap refOf).filter fun c => @decide (H2 c = some (LamX.CodeO c q)) (Classical.propDecidable _))
  have hcs : ∀ c ∈ cs', H2 c = some (LamX.CodeO c q) := fun c hc => by
    have := (List.mem_filter.mp ((hm c).mp hc)).2
    exact @of_decide_eq_true _ (Classical.propDecidable _) this
  have hP1 : H P = some (.tbl ps) := l.led (P, .tbl ps) (List.mem_append_right _ List.mem_cons_self)
  have keep : ∀ x ∈ M, H2 x.1 = some x.2 := fun x hx => e _ _ (l.led x (List.mem_append_left _ hx)) fun ps' => (no x hx).1 ps'
  refine ⟨ps', cs', ⟨tri, fun pos cv h => ?_⟩, fun x hx => ?_, ?_⟩
  · obtain ⟨c, rfl, hc⟩ := hall pos cv h
    refine ⟨c, (hm c).mpr (List.mem_filter.mpr ⟨List.mem_flatMap.mpr ⟨.ref c, among_mem _ h, List.mem_singleton.mpr rfl⟩, ?_⟩), rfl⟩
    exact @decide_eq_true _ (Classical.propDecidable _) hc
  · rcases List.mem_append.mp hx with hx | hx
    · exact keep x hx
    · rcases List.mem_cons.mp hx with rfl | hx
      · exact hP
      · obtain ⟨c, hc, rfl⟩ := List.mem_map.mp hx
        exact hcs c hc
  · have hd := l.nd
    rw [List.map_append, List.nodup_append] at hd ⊢
    refine ⟨hd.1, ?_, fun a ha b hb => ?_⟩
    · show (P :: (cs'.map fun c => (c, LamX.CodeO c q)).map (·.1)).Nodup
      rw [List.map_map]
      have em : (cs'.map ((·.1) ∘ fun c => (c, LamX.CodeO c q))) = cs' := by
        have : ((fun x : Addr × HO => x.1) ∘ fun c => (c, LamX.CodeO c q)) = id := rfl
        rw [this, List.map_id]
      rw [em, List.nodup_cons]
      refine ⟨fun z => ?_, nd⟩
      have := hcs P z
      rw [hP] at this
      cases this
    · obtain ⟨x, hx, rfl⟩ := List.mem_map.mp ha
      obtain ⟨y, hy, rfl⟩ := List.mem_map.mp hb
      intro z
      have h1 := keep x hx
      rcases List.mem_cons.mp hy with rfl | hy
      · have z' : x.1 = P := z
        rw [z', hP] at h1
        exact (no x hx).1 _ (Option.some.inj h1).symm
      · obtain ⟨c, hc, rfl⟩ := List.mem_map.mp hy
        have z' : x.1 = c := z
        rw [z', hcs c hc] at h1
        exact (no x hx).2 q (by rw [z']; exact (Option.some.inj h1).symm)
theorem kn_tab {d : Addr} {n : Nat} {L : Led} {H H2 : Hp} {P : Addr} {q : Str} {ps : Array Value} {cs : List Addr} (k : Kn d n (L ++ tbL P q ps cs) H) (no : NoT L) (e : LamX.ExtN H H2) (t : LamX.Tabs [(P, q)] H2) :
    ∃ ps' cs', Tb ps' cs' ∧ Kn d n (L ++ tbL P q ps' cs') H2 := by
  obtain ⟨s, a, c, r, ns, l, h1, h2⟩ := k
  obtain ⟨ps', cs', tb, l'⟩ := lg_tab (M := (d, .lst [.ref s, .int a, .int c, .int r]) :: (s, .lst (ns.map V.int)) :: L) l no.lst.lst e t
  exact ⟨ps', cs', tb, s, a, c, r, ns, l', h1, h2⟩
theorem tabs_kn {d : Addr} {n : Nat} {L : Led} {H : Hp} {P : Addr} {q : Str} {ps : Array Value} {cs : List Addr} (k : Kn d n (L ++ tbL P q ps cs) H) (tb : Tb ps cs) : LamX.Tabs [(P, q)] H := fun p hp => by
  cases List.mem_singleton.mp hp
  refine ⟨ps, k.mem (List.mem_append_right _ List.mem_cons_self), tb.tri, fun pos cv h => ?_⟩
  obtain ⟨c, hc, rfl⟩ := tb.all pos cv h
  exact ⟨c, rfl, k.mem (List.mem_append_right _ (List.mem_cons_of_mem _ (List.mem_map.mpr ⟨c, hc, rfl⟩)))⟩
/-- a def by its body, its code object known -/
theorem okc {P : Program} {w : World} {K : PySem.W.Frag} {mg : Str → Option Value} {base : Heap} {x qual : Str} {st : Stmt} {f c : Addr} {fd : FuncData} {N ps : List Str} {k : Nat} {sp : Sp} (F : Fun K x qual st f fd) (hc : fd.code = .ref c) (S : FnScope N ps (defScope st)) (len : ∀ vs H Q E, sp vs H Q E → vs.length = ps.length)
    (hbody : ∀ (A : Around) (outer : List Env) (s : Shared) (H : Hp) (vs : List V) (Q : VK) (E : XK), Room k (A.deeper (envOfC qual (defScope st) s.heap.objs.size f (.ref c))) → sp vs H Q E →
      ∃ t, PSs (cxOf CX0 P w K mg base N qual (defScope st) f (.ref c) A outer s H E).nox (defBody st) t ∧ t { nx := fun _ H' => Q .non H', rt := Q } (start N vs) H) : FnOk P w K mg base CX0 (k + 1) f fd ps sp := by
  obtain ⟨oc, od, kV, doc, pm, an, cdv, ct, osl, rfl, lk, hcd⟩ := F.ex
  have hc' : cdv = .ref c := hc
  subst hc'
  refine fn_of lk hcd S len fun A outer s H vs Q E hr hsp => ?_
  obtain ⟨t, h, q⟩ := hbody A outer s H vs Q E hr hsp
  exact ⟨t, h.nox, q⟩
/-- the end of a law whose program makes a lambda in the def y -/
theorem walk_ofTab {l : PySem.W.OpenLaw} {n k : Nat} {q : Program} {loose : List Str} {XP : (Str → Option Value) → Heap → Prop} {YP : World → Heap → Prop} {d : DefRec} {K : Params → PySem.W.Frag} {CX : World → CXT} {x y : Str} {dy : DefRec}
    (hn : l.most = some n) (hn2 : n ≤ sizeLine) (hdf : d.params.defaults = []) (hr : Room k callerA) (hY : ∀ (w : World) (h : Heap), YP w h → (K w.params).In h) (hy : (recsOf q).find? (fun e => e.name == y) = some dy)
    (F : ∀ (w : World) (mg : Str → Option Value) (fa : Addr) (h : Heap), (K w.params).In h → h.Ns mainGlobals mg → mg d.name = some (.ref fa) →
      ∃ (fd : FuncData) (c P : Addr) (sp : Sp), PySem.W.tabIn (K w.params) y = some (c, P) ∧ (K w.params).lookup P = none ∧ (∀ (s : Shared) (u : Value), BindsTo s fd ⟨[u], []⟩ [(x, u)]) ∧
        (∀ (H : Hp) (a : Addr) (ns : List Int), ns.length ≤ n → H P = some (.tbl #[]) → SqL (K w.params) H a (ns.map V.int) → sp [.ref a] H (fun v _ => v = .bl true) fun _ _ _ => False) ∧
        ∀ base : Heap, (K w.params).In base → base.Ns mainGlobals mg → LamX.TabB base mg c P → FnOk l.prog w (K w.params) mg base (CX w) k fa fd [x] sp)
    (hCX : ∀ (w : World) (H : Hp) (s : Shared) (e : Value) (s' : Shared), CX w [] H s (fun _ _ _ => False) e s' → False) :
    PySem.W.WalkO q loose XP YP l.row.toRowW d [] (fun f vs => PySem.call f vs) := by
  refine Att.attach_callB hn hdf fun w s₀ s₁ mg mb fa o pm cd doc a vs ns G Y ho hd hcd hmg hobj hints hlen hbits hg => ?_
  have KX := hY w _ Y
  obtain ⟨fd, c, P, sp, ht, nP, hb, hsp, hF⟩ := F w mg fa _ KX G.T.g hmg
  obtain ⟨C, hP⟩ := PySem.W.tab_of G.T KX hy ht
  refine LamX.law_callTs (cs := [(c, P)]) KX G.T.g G.T.b G.T.builtins G.T.nolimit hg (fun p hp => ?_) (fun p hp => ?_) (fun p hp => ?_) G.T.bmain hobj hints (Nat.le_trans hlen hn2) hr (fun base h1 h2 h3 => hF base h1 h2 (h3 (c, P) List.mem_cons_self)) hb (fun H hH hS => hsp H a ns hlen (hH (c, P) List.mem_cons_self) hS) fun H e s' => hCX w H s₁ e s'
  · cases List.mem_singleton.mp hp
    exact hP
  · cases List.mem_singleton.mp hp
    exact nP
  · cases List.mem_singleton.mp hp
    exact C
/-- sorted, whole numbers -/
theorem kSortI {d : Addr} {n : Nat} {L : Led} {H : Hp} {Q : VK} {K : PySem.W.Frag} {p : Addr} {ns : List Int} (h : SqL K H p (ns.map V.int)) (kn : Kn d n L H) (q : ∀ r (ns' : List Int) H', ns'.Perm ns → ns'.Pairwise (· ≤ ·) → Kn d n ((r, .lst (ns'.map V.int)) :: L) H' → Q (.ref r) H') : rSortedI K [.ref p] H Q :=
  ⟨p, ns, rfl, h, fun ns' r hp hs hr => q r ns' _ hp hs (kn.new hr)⟩
theorem kAnyB {K : PySem.W.Frag} {H : Hp} {Q : VK} {p : Addr} {bs : List Bool} (h : SqL K H p (bs.map V.bl)) (q : Q (.bl (bs.any id)) H) : rAny K [.ref p] H Q := ⟨p, bs, rfl, h, q⟩
/-! ### tuples put together and cut, empty ones too -/
theorem kCatA {d : Addr} {n : Nat} {L : Led} {H : Hp} {Q : VK} {K : PySem.W.Frag} {a b : Addr} {xs ys : List V} (kn : Kn d n L H) (ha : (a, .tup xs) ∈ L) (hb : (b, .tup ys) ∈ L) (hz : xs.length + ys.length ≤ 100000) (q : ∀ r L2 H', (r, .tup (xs ++ ys)) ∈ L2 → L.Sublist L2 → Kn d n L2 H' → Q (.ref r) H') : rCatA K (.ref a) (.ref b) H Q := by
  refine ⟨a, b, xs, ys, rfl, rfl, kn.seqT ha, kn.seqT hb, szL hz, fun e => ?_, fun _ e => ?_, fun _ _ p hp => ?_⟩
  · subst e
    exact q b L H hb (List.Sublist.refl L) kn
  · subst e
    exact q a L H (by rw [List.append_nil]; exact ha) (List.Sublist.refl L) kn
  · exact q p _ _ List.mem_cons_self (List.sublist_cons_self _ _) (kn.new hp)
theorem kSlA {d : Addr} {n : Nat} {L : Led} {H : Hp} {Q : VK} {K : PySem.W.Frag} {a : Addr} {xs : List V} {lo hi : Option Int} (kn : Kn d n L H) (ha : (a, .tup xs) ∈ L) (q : ∀ r L2 H', (r, .tup (cutV xs lo hi)) ∈ L2 → L.Sublist L2 → Kn d n L2 H' → Q (.ref r) H') : rSlA K (.ref a) lo hi H Q := by
  refine ⟨a, xs, rfl, kn.seqT ha, fun e => ?_, fun _ p hp => ?_⟩
  · have ec : cutV xs lo hi = xs := by
      unfold cutV
      rw [e.1, e.2]
      simp
    exact q a L H (by rw [ec]; exact ha) (List.Sublist.refl L) kn
  · exact q p _ _ List.mem_cons_self (List.sublist_cons_self _ _) (kn.new hp)
theorem kCatN {d : Addr} {n : Nat} {L : Led} {H : Hp} {Q : VK} {K : PySem.W.Frag} {a b : Addr} {xs ys : List V} (kn : Kn d n ((b, .tup ys) :: (a, .tup xs) :: L) H) (hz : xs.length + ys.length ≤ 100000) (q : ∀ r H', Kn d n ((r, .tup (xs ++ ys)) :: L) H' → Q (.ref r) H') : rCatA K (.ref a) (.ref b) H Q := by
  refine ⟨a, b, xs, ys, rfl, rfl, kn.seqT (List.mem_cons_of_mem _ List.mem_cons_self), kn.seqT List.mem_cons_self, szL hz, fun e => ?_, fun _ e => ?_, fun _ _ p hp => ?_⟩
  · subst e
    exact q b H (kn.sub ((List.sublist_cons_self _ _).cons₂ _))
  · subst e
    rw [List.append_nil] at q
    exact q a H kn.tail
  · exact q p _ ((kn.new hp).sub (((List.Sublist.refl L).cons _).cons _ |>.cons₂ _))
theorem kSlN {d : Addr} {n : Nat} {L : Led} {H : Hp} {Q : VK} {K : PySem.W.Frag} {a : Addr} {xs : List V} {lo hi : Option Int} (kn : Kn d n L H) (ha : (a, .tup xs) ∈ L) (hne : (cutV xs lo hi).length ≠ xs.length) (q : ∀ r H', Kn d n ((r, .tup (cutV xs lo hi)) :: L) H' → Q (.ref r) H') : rSlA K (.ref a) lo hi H Q := by
  refine ⟨a, xs, rfl, kn.seqT ha, fun e => ?_, fun _ p hp => q p _ (kn.new hp)⟩
  refine absurd ?_ hne
  unfold cutV
  rw [e.1, e.2]
  simp
/-! ### a comprehension within a comprehension: its source's reading may not mention the block -/
theorem pi_listQ {X : Cx} {K : PySem.W.Frag} {tg l : Expr} {tl : TE} (eK : X.K = K) (hl : PE X l tl) : PI X tg l (iList K tl) := eK ▸ pi_list hl
theorem pi_tupQ {X : Cx} {K : PySem.W.Frag} {tg l : Expr} {tl : TE} (eK : X.K = K) (hl : PE X l tl) : PI X tg l (iTup K tl) := eK ▸ pi_tup hl
/-- a law's first statement makes the dice; the table stands in the ledger from the start -/
theorem kStartT {K : PySem.W.Frag} {a P : Addr} {q : Str} {ns : List Int} {σ : L2.St} {H : Hp} {i : Nat} {y : TS} {nx bk ct : L2.St → Hp → Prop} {rt : VK} (hP : H P = some (.tbl #[])) (hS : SqL K H a (ns.map V.int)) (h0 : σ[0]? = some (some (.ref a)))
    (g : ∀ d H', Kn d 0 (tbL P q #[] []) H' → y (Ends.mk nx rt bk ct) (σ.set i (some (.ref d))) H') :
    tSeq (tAsg (tLst (tCons (tCB (rList2 K) (tCons (tSl (rSlL K) (tVar 0) tNoPart (tPart (tC (.int 63)))) tNil)) (tCons (tC (.int 0)) (tCons (tC (.int 0)) (tCons (tC (.int 0)) tNil))))) (gName i)) y (Ends.mk nx rt bk ct) σ H := by
  obtain ⟨ms, hm⟩ := cutInts ns none (some 63)
  refine ⟨.ref a, h0, 63, rfl, a, _, rfl, hS, fun p hp => ?_⟩
  refine ⟨p, _, rfl, .inl (.inl (.inl upd_same)), fun s hs => ⟨szL (by show 4 ≤ 100000; decide), fun d hd => ?_⟩⟩
  have l0 : Lg (tbL P q #[] []) H := ⟨fun e he => by
    cases List.mem_singleton.mp he
    exact hP, List.nodup_cons.mpr ⟨List.not_mem_nil, List.nodup_nil⟩⟩
  have l1 := (((l0.new (o := .lst (cutV (ns.map V.int) none (some 63))) hp).sub (List.sublist_cons_self _ _)).new (o := .lst (cutV (ns.map V.int) none (some 63))) hs).new (o := .lst [.ref s, .int 0, .int 0, .int 0]) hd
  rw [hm] at l1 ⊢
  exact g d _ ⟨s, 0, 0, 0, ms, l1, by omega, by omega⟩
end Rg

set_option Elab.async false
set_option linter.all false
set_option maxRecDepth 100000
set_option maxHeartbeats 2000000
namespace Rg
open PySem PySem.Spec PyProof.Rows L2
/-! ### sets of whole numbers in the ledger -/
theorem setO_ne {w : World} {a : Addr} {S : Int → Bool} {n : Nat} {q : Str} : SetO w a S n ≠ LamX.CodeO a q := fun z => by
  unfold SetO LamX.CodeO at z
  have e := HO.ext.inj z
  have h0 : ∃ h : Heap, ∃ (oc : Obj) (vs : Array Value) (t : Tok), h.get? a = some oc ∧ oc.data = .fields vs ∧ vs[1]? = some (.str q t) := by
    refine ⟨{ objs := Array.replicate (a + 1) { cls := .none, data := .fields #[.none, .str q 0] } }, { cls := .none, data := .fields #[.none, .str q 0] }, _, 0, ?_, rfl, rfl⟩
    unfold Heap.get?
    simp
  obtain ⟨h, hc⟩ := h0
  have h1 : SetR w h a S n := by
    rw [congrFun e h]
    exact hc
  obtain ⟨o, es, ep, t, ho, _, hd, _⟩ := h1
  obtain ⟨oc, vs, t, h2, h3, _⟩ := hc
  rw [ho] at h2
  cases h2
  rw [hd] at h3
  cases h3
theorem NoT.set {w : World} {a : Addr} {S : Int → Bool} {n : Nat} {L : Led} (h : NoT L) : NoT ((a, SetO w a S n) :: L) := fun e m => by
  rcases List.mem_cons.mp m with rfl | m
  · exact ⟨fun ps z => (by unfold SetO at z; cases z), fun q => setO_ne⟩
  · exact h e m
section
variable {d : Addr} {n : Nat} {L : Led} {H : Hp} {σ : L2.St} {Q : VK} {w : World} {K : PySem.W.Frag} {to : TE} {t : TA}
theorem kSet0 (kn : Kn d n L H) (q : ∀ p H', Kn d n ((p, SetO w p (fun _ => false) 0) :: L) H' → Q (.ref p) H') : rSet0 w [] H Q := ⟨rfl, fun p hp => q p _ (kn.new hp)⟩
theorem kSAdd {a : Addr} {S : Int → Bool} {m : Nat} {k : Int} (kn : Kn d n L H) (i : Nat) (h : L[i]? = some (a, SetO w a S m)) (hm : m < 4000) (q : ∀ H', Kn d n (L.set i (a, SetO w a (fun j => S j || decide (j = k)) (if S k = true then m else m + 1))) H' → Q .non H')
    (ho : ∀ R : VK, R (.ref a) H → to σ H R) (ha : ∀ R : List V → Hp → Prop, R [.int k] H → t σ H R) : tSAdd w to t σ H Q :=
  ho _ ⟨⟨a, S, m, rfl, kn.at i h⟩, ha _ ⟨a, k, S, m, rfl, rfl, kn.at i h, by unfold scanBound; omega, q _ (kn.put i h)⟩⟩
theorem kSNotIn {a : Addr} {S : Int → Bool} {m : Nat} {k : Int} (h : H a = some (SetO w a S m)) (q : Q (.bl (!S k)) H) : rSNotIn w (.int k) (.ref a) H Q := ⟨k, a, S, m, rfl, rfl, h, q⟩
theorem kSIn {a : Addr} {S : Int → Bool} {m : Nat} {k : Int} (h : H a = some (SetO w a S m)) (q : Q (.bl (S k)) H) : rSIn w (.int k) (.ref a) H Q := ⟨k, a, S, m, rfl, rfl, h, q⟩
end
end Rg
namespace Rg
open PySem PySem.Spec PyProof.Rows L2
/-! ### pairs in the ledger -/
/-- the ledger has these pairs at these addresses -/
structure PairsAt (L : Led) (as : List Addr) (ps : List (Int × Int)) : Prop where
  len : as.length = ps.length
  at_ : ∀ (i : Nat) (a : Addr) (p : Int × Int), as[i]? = some a → ps[i]? = some p → (a, HO.tup [.int p.1, .int p.2]) ∈ L
theorem PairsAt.nil {L : Led} : PairsAt L [] [] := ⟨rfl, fun i a p h => by cases h⟩
theorem PairsAt.up {L L' : Led} {as : List Addr} {ps : List (Int × Int)} (h : PairsAt L as ps) (s : ∀ y, y ∈ L → y ∈ L') : PairsAt L' as ps := ⟨h.len, fun i a r h1 h2 => s _ (h.at_ i a r h1 h2)⟩
theorem PairsAt.snoc {L : Led} {as : List Addr} {ps : List (Int × Int)} {a : Addr} {p : Int × Int} (h : PairsAt L as ps) (hp : (a, HO.tup [.int p.1, .int p.2]) ∈ L) : PairsAt L (as ++ [a]) (ps ++ [p]) := by
  refine ⟨by rw [List.length_append, List.length_append, h.len]; rfl, fun i b r e1 e2 => ?_⟩
  have hl := h.len
  by_cases hi : i < as.length
  · rw [List.getElem?_append_left hi] at e1
    rw [List.getElem?_append_left (by omega)] at e2
    exact h.at_ i b r e1 e2
  · rw [List.getElem?_append_right (by omega)] at e1
    rw [List.getElem?_append_right (by omega), ← hl] at e2
    have h0 : i - as.length = 0 := by
      have := (List.getElem?_eq_some_iff.mp e1).1
      rw [List.length_singleton] at this
      omega
    rw [h0] at e1 e2
    cases e1
    cases e2
    exact hp
def pairLe (p q : Int × Int) : Prop := p.1 < q.1 ∨ (p.1 = q.1 ∧ p.2 ≤ q.2)
theorem pairLe_anti {p q : Int × Int} (h1 : pairLe p q) (h2 : pairLe q p) : p = q := by
  obtain ⟨a, b⟩ := p
  obtain ⟨c, e⟩ := q
  unfold pairLe at *
  simp only at *
  have : a = c ∧ b = e := by omega
  rw [this.1, this.2]
theorem pairs_one {l m : List (Int × Int)} (h : l.Perm m) (h1 : l.Pairwise pairLe) (h2 : m.Pairwise pairLe) : l = m := List.Perm.eq_of_pairwise (le := pairLe) (fun a b _ _ x y => pairLe_anti x y) h1 h2 h
def keyP (H : Hp) : V → Int × Int
  | .ref t => match H t with
    | some (.tup [.int i, .int j]) => (i, j)
    | _ => (0, 0)
  | _ => (0, 0)
def refA : V → Addr
  | .ref t => t
  | _ => 0
theorem kSortP {d : Addr} {n : Nat} {L L0 : Led} {H : Hp} {Q : VK} {K : PySem.W.Frag} {p : Addr} {as : List Addr} {ps : List (Int × Int)} (h : SqL K H p (as.map V.ref)) (hr : PairsAt L0 as ps) (kn : Kn d n L H) (hs0 : ∀ y, y ∈ L0 → y ∈ L)
    (q : ∀ r bs ps' H', PairsAt L0 bs ps' → ps'.Perm ps → ps'.Pairwise pairLe → Kn d n ((r, .lst (bs.map V.ref)) :: L) H' → Q (.ref r) H') : rSortedPO K [.ref p] H Q := by
  have hk : ∀ (i : Nat) (a : Addr) (pr : Int × Int), as[i]? = some a → ps[i]? = some pr → keyP H (.ref a) = pr ∧ H a = some (.tup [.int pr.1, .int pr.2]) := fun i a pr e1 e2 => by
    have hm := kn.mem (hs0 _ (hr.at_ i a pr e1 e2))
    refine ⟨?_, hm⟩
    show (match H a with
      | some (.tup [.int i, .int j]) => (i, j)
      | _ => (0, 0)) = pr
    rw [hm]
  have hl := hr.len
  have hget : ∀ t ∈ as, ∃ i pr, as[i]? = some t ∧ ps[i]? = some pr := fun t ht => by
    obtain ⟨i, hi⟩ := List.getElem?_of_mem ht
    have hlt := (List.getElem?_eq_some_iff.mp hi).1
    exact ⟨i, ps[i]'(by omega), hi, List.getElem?_eq_getElem (by omega)⟩
  have hps : ps = as.map fun a => keyP H (.ref a) := by
    apply List.ext_getElem?
    intro i
    rw [List.getElem?_map]
    cases e : as[i]? with
    | none => rw [List.getElem?_eq_none_iff] at e; rw [Option.map_none, List.getElem?_eq_none_iff]; omega
    | some a =>
      have hlt := (List.getElem?_eq_some_iff.mp e).1
      have e2 : ps[i]? = some (ps[i]'(by omega)) := List.getElem?_eq_getElem (by omega)
      rw [e2, Option.map_some, (hk i a _ e e2).1]
  refine ⟨p, as.map V.ref, keyP H, rfl, h, fun x hx => ?_, fun ys r hs hb hrn => ?_⟩
  · obtain ⟨t, ht, rfl⟩ := List.mem_map.mp hx
    obtain ⟨i, pr, e1, e2⟩ := hget t ht
    obtain ⟨h1, h2⟩ := hk i t pr e1 e2
    exact ⟨t, rfl, by rw [h1]; exact h2⟩
  · have hys : ys = (ys.map refA).map V.ref := by
      rw [List.map_map]
      have : ∀ y ∈ ys, (V.ref ∘ refA) y = y := fun y hy => by
        obtain ⟨t, _, rfl⟩ := List.mem_map.mp (hb.perm.mem_iff.mp hy)
        rfl
      conv => lhs; rw [← List.map_id ys]
      exact (List.map_congr_left (f := V.ref ∘ refA) (g := id) this).symm
    have hperm : (ys.map refA).Perm as := by
      have := hb.perm.map refA
      rw [List.map_map] at this
      have e : (as.map (refA ∘ V.ref)) = as := by
        have : (refA ∘ V.ref) = id := rfl
        rw [this, List.map_id]
      rwa [e] at this
    generalize ys.map refA = bs at *
    subst hys
    refine q r bs (bs.map fun a => keyP H (.ref a)) _ ⟨by rw [List.length_map], fun i a pr e1 e2 => ?_⟩ ?_ ?_ (kn.new hrn)
    · rw [List.getElem?_map, e1] at e2
      cases e2
      obtain ⟨j, pr, f1, f2⟩ := hget a (hperm.mem_iff.mp (List.mem_of_getElem? e1))
      have f3 := hr.at_ j a pr f1 f2
      rw [← (hk j a pr f1 f2).1] at f3
      exact f3
    · conv => rhs; rw [hps]
      exact hperm.map _
    · rw [List.pairwise_map]
      refine (List.pairwise_map.mp hs).imp fun {a b} hab => ?_
      have := SrtO.lexB_no.mp hab
      unfold pairLe
      omega
/-! ### isinstance of what may be None -/
theorem callR_or {X : Cx} {f : Value} {r1 r2 : List V → Hp → VK → Prop} (h1 : CallR X f r1) (h2 : CallR X f r2) : CallR X f fun xs H Q => r1 xs H Q ∨ r2 xs H Q := by
  intro pins s σ H xs us Q I rv h
  rcases h with h | h
  · exact h1 pins s σ H xs us Q I rv h
  · exact h2 pins s σ H xs us Q I rv h
theorem none_sub {K : PySem.W.Frag} {C : Addr} : PySem.W.subIn K (.type "NoneType") (.ref C) = some false := by
  have e : PySem.fastBuiltinMro "NoneType" = some [.type "NoneType", .type "object"] := by decide +kernel
  unfold PySem.W.subIn
  simp only [e, Option.map_some]
  rfl
theorem kitOne_non {K : PySem.W.Frag} {D : Addr} (hd : PySem.W.hasDictIn K D = true) (ht : PySem.W.typeIn K (.ref D) = some (.type "type")) : PySem.W.kitOne K (.type "NoneType") (.ref D) = some false := by
  have hcl : (PySem.W.clsIn K D).isSome = true := by
    unfold PySem.W.hasDictIn at hd
    cases e : PySem.W.clsIn K D with
    | none =>
      rw [e] at hd
      simp at hd
    | some _ => rfl
  unfold PySem.W.kitOne
  rw [if_neg (by simp)]
  show (if ((PySem.W.clsIn K D).isSome && PySem.W.typeIn K (.ref D) == some (.type "type")) = true then PySem.W.subIn K (.type "NoneType") (.ref D) else none) = some false
  rw [hcl, ht, none_sub]
  rfl
structure NoneK (K : PySem.W.Frag) (C_NotProper C_NoHouse C_NotReady C_NoText C_NoRow : Addr) : Prop where
  nP : PySem.W.kitOne K (.type "NoneType") (.ref C_NotProper) = some false
  nH : PySem.W.kitOne K (.type "NoneType") (.ref C_NoHouse) = some false
  nY : PySem.W.kitOne K (.type "NoneType") (.ref C_NotReady) = some false
  nT : PySem.W.kitOne K (.type "NoneType") (.ref C_NoText) = some false
  nR : PySem.W.kitOne K (.type "NoneType") (.ref C_NoRow) = some false
end Rg

set_option Elab.async false
set_option linter.all false
set_option maxRecDepth 100000
set_option maxHeartbeats 4000000
namespace Rg
open PySem PySem.Spec PyProof.Rows L2
/-! ### set(xs), xs a list of whole numbers of which few are unlike -/
theorem len_in : ∀ {l u : List Int}, l.Nodup → (∀ k ∈ l, k ∈ u) → l.length ≤ u.length
  | [], u, _, _ => Nat.zero_le _
  | a :: l, u, nd, h => by
    have nd := List.nodup_cons.mp nd
    have ha := h a List.mem_cons_self
    have ih := len_in (u := u.erase a) nd.2 fun k hk => (List.mem_erase_of_ne (fun z : k = a => nd.1 (z ▸ hk))).mpr (h k (List.mem_cons_of_mem _ hk))
    rw [List.length_erase_of_mem ha] at ih
    have := List.length_pos_of_mem ha
    rw [List.length_cons]
    omega
theorem setR_few {w : World} {h : Heap} {a : Addr} {S : Int → Bool} {c : Nat} {u : List Int} (R : SetR w h a S c) (hu : ∀ k, S k = true → k ∈ u) : c ≤ u.length := by
  obtain ⟨o, es, ep, t, _, _, _, _, nd, hm, _, _, hn, _⟩ := R
  have h3 : (es.toList.map keyOf).length ≤ u.length := len_in nd fun k hk => hu k ((hm k).mpr hk)
  rw [List.length_map, Array.length_toList] at h3
  omega
theorem setR_just {w : World} {h : Heap} {a : Addr} {S : Int → Bool} {c : Nat} {u : List Int} (R : SetR w h a S c) (nu : u.Nodup) (hu : ∀ k, S k = true ↔ k ∈ u) : c = u.length := by
  have h1 := setR_few R fun k => (hu k).mp
  obtain ⟨o, es, ep, t, _, _, _, _, nd, hm, _, _, hn, _⟩ := R
  have h2 : u.length ≤ (es.toList.map keyOf).length := len_in nu fun k hk => (hm k).mp ((hu k).mpr hk)
  rw [List.length_map] at h2
  have h4 : es.toList.length = es.size := Array.length_toList
  omega
section
variable {P : Program} {w : World} {A : Around} {E : Value → Shared → Prop}
/-- the loop, from the i-th item on -/
theorem fill_few {I : Addr} {fp wr : List Addr} {G : Array GenState → Array GenState → Prop} {n : Nat} {Pv : Nat → Value → Prop} {St : Nat → Shared → Prop} {R : Result → Shared → Prop} (W : WalksS P w A.in1 I fp wr G n Pv St) (S : Addr) (hSf : S ∉ fp)
    (ns u : List Int) (hn : n = ns.length) (hu : ∀ k ∈ ns, k ∈ u) (hb : u.length + 1 < scanBound) (hval : ∀ i v, Pv i v → ∃ k t, ns[i]? = some k ∧ v = .int k t) : ∀ (k i : Nat) (s : Shared), i + k = n → St i s → (∃ c, SetR w s.heap S (fun j => decide (j ∈ ns.take i)) c) →
      (∀ s' c, Moved (S :: wr) G s s' → SetR w s'.heap S (fun j => decide (j ∈ ns)) c → R (.ok (.ret .none)) s') → codeAny (model P w) A (.builtin "set.update.loop" ⟨[.ref S, .ref I], []⟩) R s
  | 0, i, s, hk, hst, ⟨c, hS⟩, hR => by
    obtain rfl : i = n := by omega
    refine codeAny_builtin F.entry_set_update_loop ?_
    rw [Around.under_plainId F.plain_set_update_loop]
    show wpAny _ A.in1 (pyNext (.ref I) >>= _) _ _ s
    refine wpAny_bind (W.done s _ _ hst fun s' hm => ?_)
    show wpAny _ A.in1 (ret Value.none) _ _ s'
    rw [show ns.take i = ns from List.take_of_length_le (by omega)] at hS
    exact wpAny_pure (hR s' c (hm.mono fun b hb => List.mem_cons_of_mem _ hb) (hS.at fun o e => hm.heap S o (fun z => hSf (W.sub _ z)) e))
  | k + 1, i, s, hk, hst, ⟨c, hS⟩, hR => by
    refine codeAny_builtin F.entry_set_update_loop ?_
    rw [Around.under_plainId F.plain_set_update_loop]
    show wpAny _ A.in1 (pyNext (.ref I) >>= _) _ _ s
    refine wpAny_bind (W.item i s _ _ (by omega) hst fun v s' hP hst' hm => ?_)
    obtain ⟨z, t, hz, rfl⟩ := hval i v hP
    have hS1 := hS.at (h' := s'.heap) fun o e => hm.heap S o (fun z => hSf (W.sub _ z)) e
    have hc := setR_few (u := u) hS1 fun j hj => hu j (List.mem_of_mem_take (of_decide_eq_true hj))
    show wpAny _ A.in1 (holding [Value.int z t] (setAdd S (.int z t)) >>= _) _ _ s'
    refine wpAny_bind (wpAny_holding ?_)
    unfold setAdd
    refine wpAny_holding (wpAny_bind ((intKind P w).pyHash (k := z) (intKind_is _ _ _ _) ?_))
    refine setR_add_hashed (s := { s' with toks := s'.toks + 1 }) hS1 (by omega) fun h' hsb hS2 => ?_
    refine wpAny_pure ⟨plainId_quiet F.plain_set_update_loop _, fill_few W S hSf ns u hn hu hb hval k (i + 1) _ (by omega) (W.frame _ s' _ _ hst' (Nat.le_succ _) fun b hb o e => ?_) ⟨_, hS2.congr fun j => ?_⟩ fun s2 c2 hm2 hS3 => ?_⟩
    · rw [hsb.2 b (fun z => hSf (z ▸ hb))]
      exact e
    · rw [List.take_add_one, hz]
      simp [List.mem_append]
    · refine hR s2 c2 (Moved.trans W.gtrans ((hm.mono fun b hb => List.mem_cons_of_mem _ hb).then_heap (Nat.le_succ _) fun b o hb e => ?_) hm2) hS3
      rw [hsb.2 b (fun z => hb (z ▸ List.mem_cons_self))]
      exact e
abbrev emptySet (w : World) : Obj := { cls := .type "set", dict := none, data := .set #[] 0 (.fresh 0 0 (!w.params.followText "set-order")) }
/-- the new set at a, its list at l: the filling -/
theorem init_few {s : Shared} {l a : Addr} {items : Array Value} {ns u : List Int} (hh : A.handled = none) (hl : s.heap.IsList l items) (hit : IntsAre items.toList ns) (hu : ∀ k ∈ ns, k ∈ u) (hb : u.length + 1 < scanBound) (ha : s.heap.get? a = some (emptySet w))
    {R : Result → Shared → Prop} (hR : ∀ (h' : Heap) (tk c : Nat), SetR w h' a (fun j => decide (j ∈ ns)) c → (∀ b o, b ≠ a → s.heap.get? b = some o → h'.get? b = some o) → R (.ok (.ret .none)) { s with heap := h', toks := tk }) :
    codeAny (model P w) A (.call (.builtin "set.__init__") ⟨[.ref a, .ref l], []⟩) R s := by
  have hT : s.TypeIs (.ref a) "set" := ⟨_, ha, rfl⟩
  refine codeAny_call_builtin F.called_set.init.plain F.entry_set_init (check_set_init_1 hT ?_)
  obtain ⟨⟨oc, od, odt, osl⟩, hol, hcl, nl, hdl⟩ := hl
  simp only at hcl hdl
  subst hcl
  subst hdl
  have hl1 : s.heap.IsList l items := ⟨_, hol, rfl, nl, rfl⟩
  have k1 := F.sub_list_set
  have k2 := F.sub_list_frozenset
  have k3 : (Value.type "list" == Value.type "dict") = false := by decide
  have hn : items.size = ns.length := by rw [← Array.length_toList]; exact IntsAre.length hit
  unfold Builtin.«set.__init__» noKeywords Builtin.Frozenset.updateFrom
  generalize hPI : pyIter = PI
  wp_walk
  subst hPI
  refine wpAny_pyIter_list hl1 (wpAny_bind (wpAny_runValue ?_))
  have hla := Heap.lt_size hol
  have haa := Heap.lt_size ha
  have hla2 : l ≠ a := fun z => by
    rw [z, ha] at hol
    have e := congrArg Obj.cls (Option.some.inj hol)
    simp at e
  refine fill_few ((Walks.list (by simp [hh]) _ l (Nat.ne_of_lt hla) items).toS) a (by simp only [List.mem_cons, List.not_mem_nil, or_false, not_or]; exact ⟨Nat.ne_of_lt haa, Ne.symm hla2⟩) ns u hn hu hb (fun i v hv => ?_) items.size 0 _ (by omega) ⟨⟨_, Heap.get?_push_size _ rfl, rfl, rfl⟩, hl1.push _⟩ ⟨0, setR_new_at (Heap.get?_push_of_some _ ha)⟩ fun s' c hm hS => ?_
  · have hi := (Array.getElem?_eq_some_iff.mp hv).1
    obtain ⟨t, e⟩ := IntsAre.int_at hit i v (by rw [Array.getElem?_toList]; exact hv)
    refine ⟨ns.getD i 0, t, ?_, e⟩
    rw [List.getD_eq_getElem?_getD, List.getElem?_eq_getElem (by omega : i < ns.length)]
    rfl
  · obtain ⟨h', g2, d2, tk, o2⟩ := s'
    obtain rfl : g2 = s.gens := hm.gens
    obtain rfl : d2 = s.drawn := hm.drawn
    obtain rfl : o2 = s.os := hm.os
    show wpAny _ _ _ _ _ _
    refine wpAny_pure ?_
    show wpAny _ _ (ret Value.none) _ _ _
    refine wpAny_pure (hR h' tk c hS fun b o hb e => hm.heap b o ?_ (Heap.get?_push_of_some _ e))
    simp only [List.mem_cons, List.not_mem_nil, or_false, not_or]
    exact ⟨hb, Nat.ne_of_lt (Heap.lt_size e)⟩
theorem call_setI {s : Shared} {l : Addr} {items : Array Value} {ns u : List Int} {Q : Value → Shared → Prop} (hh : A.handled = none) (hl : s.heap.IsList l items) (hit : IntsAre items.toList ns) (hu : ∀ k ∈ ns, k ∈ u) (hb : u.length + 1 < scanBound)
    (h : ∀ (h' : Heap) (tk c : Nat), SetR w h' s.heap.objs.size (fun j => decide (j ∈ ns)) c → (∀ b o, s.heap.get? b = some o → h'.get? b = some o) → Q (.ref s.heap.objs.size) { s with heap := h', toks := tk }) : wpAny (model P w) A (call (.type "set") [.ref l]) Q E s := by
  have ⟨c0, t0, hm0⟩ := F.called_set.mro
  have k1 := F.called_set.made
  have k2 := F.called_set.sub
  have k3 := F.called_set.notType
  have k4 := F.called_set.canCreate
  have k5 := F.typeCall_set_1 (.ref l)
  refine wpAny_call (codeAny_of_tree ?_)
  show wpAny _ _ (callAny (.type "set") _) _ _ _
  refine wpAny_pure ⟨Code.quiet_builtin _ (by decide +kernel), codeAny_builtin F.entry_type_call ?_⟩
  rw [Around.under_plain (weight_type_call_type "set" [.ref l] []) rfl]
  repeat (any_goals (first | assumption | wp_step))
  refine codeAny_mono (code_set_led1 (.ref l) (E := E) (Q₁ := fun obj s1 => obj = .ref s.heap.objs.size ∧ s1 = { s with heap := s.heap.push (emptySet w) }) ⟨rfl, rfl⟩) fun r s1 hr => ?_
  match r, hr with
  | .error e, hr => exact hr
  | .ok (.ret obj), ⟨e1, e2⟩ =>
    subst e1
    subst e2
    have hS : (s.heap.push (emptySet w)).get? s.heap.objs.size = some (emptySet w) := Heap.get?_push_size _ rfl
    have hT : Shared.TypeIs { s with heap := s.heap.push (emptySet w) } (.ref s.heap.objs.size) "set" := ⟨_, hS, rfl⟩
    have k6 := F.called_set.init.lookup
    have k7 := F.called_set.init.bind (.ref s.heap.objs.size)
    repeat (any_goals (first | assumption | wp_step))
    refine codeAny_mono (init_few (P := P) (A := A.in1) (s := { s with heap := s.heap.push (emptySet w) }) (R := wants (fun r s2 => r = .none ∧ ∃ h' tk c, s2 = { s with heap := h', toks := tk } ∧ SetR w h' s.heap.objs.size (fun j => decide (j ∈ ns)) c ∧ ∀ b o, s.heap.get? b = some o → h'.get? b = some o) E) (by simpa using hh) (hl.push _) hit hu hb hS fun h' tk c hR hk => ⟨rfl, h', tk, c, rfl, hR, fun b o e => hk b o (Nat.ne_of_lt (Heap.lt_size e)) (Heap.get?_push_of_some _ e)⟩) fun r2 s2 hr2 => ?_
    match r2, hr2 with
    | .error e, hr2 => exact hr2
    | .ok (.ret r), ⟨e1, h', tk, c, e2, hR, hk⟩ =>
      subst e1
      subst e2
      repeat (any_goals (first | assumption | wp_step))
      exact h _ _ _ hR hk
end
section
variable {X : Cx}
def rSetI (K : PySem.W.Frag) (w : World) : List V → Hp → VK → Prop := fun xs H Q => ∃ (l : Addr) (ns u : List Int), xs = [.ref l] ∧ SqL K H l (ns.map V.int) ∧ u.Nodup ∧ (∀ k, k ∈ u ↔ k ∈ ns) ∧ u.length < 4000 ∧
  ∀ p, H p = none → Q (.ref p) (upd H p (SetO w p (fun j => decide (j ∈ ns)) u.length))
theorem cr_setI (hc : X.calm = true) : CallR X (.type "set") (rSetI X.K X.w) := by
  intro pins s σ H xs us Q I r h
  obtain ⟨l, ns, u, rfl, hs, nu, hu, hb, q⟩ := h
  obtain ⟨its, rv, hl, hz⟩ := I.list hs
  rw [Vals.ref1 r]
  refine call_setI (I.ok.hd hc) hl.isList (by simpa using ints_of_vals rv) (fun k hk => (hu k).mpr hk) (by unfold scanBound; omega) fun h' tk c hR hk => ?_
  have e := setR_just hR nu fun k => by rw [decide_eq_true_eq]; exact (hu k).symm
  subst e
  exact ⟨.ref _, upd H s.heap.objs.size (SetO X.w s.heap.objs.size (fun j => decide (j ∈ ns)) u.length), I.laid (t' := tk) hk (Nat.le_refl _) (setO_new hR), rfl, q _ (I.hok.fresh (Nat.le_refl _))⟩
def rLenSet (w : World) : List V → Hp → VK → Prop := fun xs H Q => ∃ (a : Addr) (S : Int → Bool) (n : Nat), xs = [.ref a] ∧ H a = some (SetO w a S n) ∧ Q (.int (n : Int)) H
theorem c_lenSet : CallR X (.builtin "len") (rLenSet X.w) := by
  intro pins s σ H xs us Q I r h
  obtain ⟨a, S, n, rfl, ha, q⟩ := h
  rw [Vals.ref1 r]
  obtain ⟨o, es, ep, t, ho, hex, hd, _, _, _, hf, hfit, hn, _⟩ := setO_get I ha
  refine call_len_set ho hex hd hfit (by have := hf; unfold scanBound at this; omega) ?_
  rw [hn]
  exact ⟨.int (n : Int), H, I.tok _, ⟨_, rfl⟩, q⟩
end
section
variable {d : Addr} {n : Nat} {L : Led} {H : Hp} {Q : VK} {K : PySem.W.Frag} {w : World} {l : Addr} {ns u : List Int}
theorem kSetI (kn : Kn d n L H) (h : SqL K H l (ns.map V.int)) (nu : u.Nodup) (hu : ∀ k, k ∈ u ↔ k ∈ ns) (hb : u.length < 4000) (q : ∀ p H', Kn d n ((p, SetO w p (fun j => decide (j ∈ ns)) u.length) :: L) H' → Q (.ref p) H') : rSetI K w [.ref l] H Q :=
  ⟨l, ns, u, rfl, h, nu, hu, hb, fun p hp => q p _ (kn.new hp)⟩
theorem kLenSet {a : Addr} {S : Int → Bool} {m : Nat} (h : H a = some (SetO w a S m)) (q : Q (.int (m : Int)) H) : rLenSet w [.ref a] H Q := ⟨a, S, m, rfl, h, q⟩
theorem kSortSet {a : Addr} {S : Int → Bool} {m : Nat} (kn : Kn d n L H) (h : (a, SetO w a S m) ∈ L) (hm : m < 64) (q : ∀ (ys : List Int) r H', ys.Pairwise (· < ·) → (∀ k : Int, k ∈ ys ↔ S k = true) → ys.length = m → Kn d n ((r, .lst (ys.map V.int)) :: L) H' → Q (.ref r) H') : rSortedSet w [.ref a] H Q :=
  ⟨a, S, m, rfl, kn.mem h, hm, fun ys r h1 h2 h3 h4 => q ys r _ h1 h2 h3 (kn.new h4)⟩
end
/-- each once -/
def onceL : List Int → List Int
  | [] => []
  | a :: l => if a ∈ onceL l then onceL l else a :: onceL l
theorem mem_once : ∀ {l : List Int} {k : Int}, k ∈ onceL l ↔ k ∈ l
  | [], k => Iff.rfl
  | a :: l, k => by
    have ih := mem_once (l := l) (k := k)
    unfold onceL
    split
    · rename_i h
      rw [ih, List.mem_cons]
      exact ⟨.inr, fun z => z.elim (fun e => by rw [e]; exact mem_once.mp h) id⟩
    · rw [List.mem_cons, List.mem_cons, ih]
theorem once_nodup : ∀ l : List Int, (onceL l).Nodup
  | [] => List.nodup_nil
  | a :: l => by
    have ih := once_nodup l
    unfold onceL
    split
    · exact ih
    · rename_i h
      exact List.nodup_cons.mpr ⟨h, ih⟩
theorem once_le {l u : List Int} (h : ∀ k ∈ l, k ∈ u) : (onceL l).length ≤ u.length := len_in (once_nodup l) fun k hk => h k (mem_once.mp hk)
theorem once_of_nodup : ∀ {l : List Int}, l.Nodup → onceL l = l
  | [], _ => rfl
  | a :: l, nd => by
    have nd := List.nodup_cons.mp nd
    have ih := once_of_nodup nd.2
    unfold onceL
    rw [ih, if_neg nd.1]
/-- two rising rows of the same numbers are one -/
theorem rising_one : ∀ {l m : List Int}, l.Pairwise (· < ·) → m.Pairwise (· < ·) → (∀ k, k ∈ l ↔ k ∈ m) → l = m := fun {l m} h1 h2 h => by
  have nd : ∀ {l : List Int}, l.Pairwise (· < ·) → l.Nodup := fun h => h.imp fun z e => by omega
  refine List.Perm.eq_of_pairwise (le := (· ≤ ·)) (fun a b _ _ x y => by omega) (h1.imp fun z => by omega) (h2.imp fun z => by omega) ?_
  rw [List.perm_ext_iff_of_nodup (nd h1) (nd h2)]
  exact h
/-! ### [y for x in xs for y in x], the items tuples -/
theorem flat_len {row : Nat → List V} {c : Nat} (h : ∀ i, (row i).length ≤ c) : ∀ i, ((List.range i).flatMap row).length ≤ c * i
  | 0 => by simp
  | i + 1 => by
    have ih := flat_len h i
    have := h i
    rw [List.range_succ, List.flatMap_append, List.length_append, List.flatMap_cons, List.flatMap_nil, List.append_nil, Nat.mul_add, Nat.mul_one]
    omega
theorem kLc2P {d : Addr} {n : Nat} {L : Led} {H : Hp} {K : PySem.W.Frag} {σ : L2.St} {Q : VK} {p : Addr} {xs : List V} {te0 : TE} {j l : Nat} {vs vs1 : List Nat} (k : Kn d n L H) (hp : (p, .lst xs) ∈ L) (src : ∀ R : VK, R (.ref p) H → te0 σ H R) (row : Nat → List V)
    (hrow : ∀ i x, xs[i]? = some x → ∃ t, x = .ref t ∧ (t, .tup (row i)) ∈ L) (hz : xs.length ≤ 20000) (h4 : ∀ i, (row i).length ≤ 4) (hw : ∀ x, wipe ((wipe σ vs).set j (some x)) vs = wipe σ vs) (hj : ∀ x : V, ((wipe σ vs).set j (some x))[j]? = some (some x))
    (hw1 : ∀ x y, wipe ((wipe ((wipe σ vs).set j (some x)) vs1).set l (some y)) vs1 = wipe ((wipe σ vs).set j (some x)) vs1) (hl : ∀ x y : V, ((wipe ((wipe σ vs).set j (some x)) vs1).set l (some y))[l]? = some (some y))
    (q : ∀ D H', Kn d n ((D, .lst ((List.range xs.length).flatMap row)) :: L) H' → Q (.ref D) H') : tLc2 (iList K te0) (gName j) tYes (iTup K (tVar j)) (gName l) tYes (tVar l) vs vs1 σ H Q := by
  refine src _ ⟨p, rfl, ⟨xs, k.seqL hp⟩, fun D hD => ⟨fun i m H' => m = xs.length - i ∧ i ≤ xs.length ∧ Kn d n ((D, .lst ((List.range i).flatMap row)) :: L) H', ⟨xs.length, by simp, Nat.zero_le _, k.new hD⟩, ?_⟩⟩
  rintro i m H' ⟨rfl, hi, kn⟩
  have hs : SqL K H' p xs := kn.seqL (List.mem_cons_of_mem _ hp)
  by_cases hlt : i < xs.length
  · refine .inr ⟨⟨xs, xs[i], hs, by simp [hlt]⟩, fun H'' => Kn d n ((D, .lst ((List.range (i + 1)).flatMap row)) :: L) H'', fun H'' k' => ⟨xs.length - (i + 1), by omega, rfl, hlt, k'⟩, fun x H'' y => ?_⟩
    obtain ⟨rfl, y⟩ := y
    obtain ⟨t, rfl, ht⟩ := hrow i x (y xs hs)
    refine ⟨hw _, ?_⟩
    refine kYes (iteT ?_)
    have hfl := flat_len h4 i
    have h4i := h4 i
    refine ⟨.ref t, hj _, t, rfl, ⟨row i, kn.seqT (List.mem_cons_of_mem _ ht)⟩, fun u m2 H3 => m2 = (row i).length - u ∧ u ≤ (row i).length ∧ Kn d n ((D, .lst ((List.range i).flatMap row ++ (row i).take u)) :: L) H3, ⟨(row i).length, by simp, Nat.zero_le _, by simpa using kn⟩, ?_⟩
    rintro u m2 H3 ⟨rfl, hu, kn3⟩
    have hs3 : SqT K H3 t (row i) := kn3.seqT (List.mem_cons_of_mem _ ht)
    by_cases hul : u < (row i).length
    · refine .inr ⟨⟨row i, (row i)[u], hs3, by simp [hul]⟩, fun H4 => Kn d n ((D, .lst ((List.range i).flatMap row ++ (row i).take (u + 1))) :: L) H4, fun H4 k' => ⟨(row i).length - (u + 1), by omega, rfl, hul, k'⟩, fun x2 H4 y2 => ?_⟩
      obtain ⟨rfl, y2⟩ := y2
      have hx2 := y2 _ hs3
      refine ⟨hw1 _ _, ?_⟩
      refine kYes (iteT ?_)
      refine ⟨x2, hl _ _, _, kn3.at 0 rfl, szL' (by rw [List.length_append, List.length_take]; omega), ?_⟩
      have kn4 := kn3.put (u := .lst (((List.range i).flatMap row ++ (row i).take u) ++ [x2])) 0 rfl
      rw [List.take_add_one, hx2, ← List.append_assoc]
      exact kn4
    · have e : u = (row i).length := by omega
      subst e
      refine .inl ⟨⟨row i, hs3, Nat.le_refl _⟩, ?_⟩
      rw [List.take_length] at kn3
      rw [List.range_succ, List.flatMap_append, List.flatMap_cons, List.flatMap_nil, List.append_nil]
      exact kn3
  · have e : i = xs.length := by omega
    subst e
    exact .inl ⟨⟨xs, hs, Nat.le_refl _⟩, q D _ kn⟩
theorem anyQ {X : Cx} {K : PySem.W.Frag} (eK : X.K = K) (hc : X.calm = true) : CallR X (.builtin "any") (rAny K) := eK ▸ cr_any hc
end Rg

set_option Elab.async false
set_option linter.all false
set_option maxRecDepth 100000
set_option maxHeartbeats 4000000
namespace Rg
open PySem PySem.Spec PyProof.Rows L2
/-! ### defs that are called where no repr is under way -/
structure FnG (P : Program) (w : World) (K : PySem.W.Frag) (mg : Str → Option Value) (base : Heap) (k : Nat) (f : Addr) (fd : FuncData) (ps : List Str) (sp : Sp) : Prop where
  len : ∀ vs H Q E, sp vs H Q E → vs.length = ps.length
  run : ∀ (A : Around) (outer : List Env) (s : Shared) (H : Hp) (args : Args) (us : List Value) (vs : List V) (Q : VK) (E : XK), A.guards = some [] → Room k A → Env0 P w K mg base A outer s H → BindsTo s fd args (ps.zip us) → Vals vs us → sp vs H Q E →
    codeAny (model P w) A (.call (.ref f) args) (CR CX0 outer P w H s Q E) s
theorem fn_ofG {P : Program} {w : World} {K : PySem.W.Frag} {mg : Str → Option Value} {base : Heap} {k : Nat} {f : Addr} {name qual : Str} {params : Arguments} {body : List Stmt} {scope : Scope} {dV kV doc pm cdv ct oc : Value} {an od : Option Addr}
    {osl : Array (Option Value)} {N ps : List Str} {sp : Sp} (lk : K.lookup f = some ⟨oc, od, .func (PySem.W.fnOf name qual params body scope dV kV doc pm an cdv ct), osl⟩) (hcd : PySem.W.codeIn K cdv qual = true) (S : FnScope N ps scope)
    (len : ∀ vs H Q E, sp vs H Q E → vs.length = ps.length)
    (hbody : ∀ (A : Around) (outer : List Env) (s : Shared) (H : Hp) (vs : List V) (Q : VK) (E : XK), A.guards = some [] → Room k (A.deeper (envOfC qual scope s.heap.objs.size f cdv)) → sp vs H Q E →
      ∃ t, PSs (cxOf CX0 P w K mg base N qual scope f cdv A outer s H E) body t ∧ t { nx := fun _ H' => Q .non H', rt := Q } (L2.start N vs) H) :
    FnG P w K mg base (k + 1) f (PySem.W.fnOf name qual params body scope dV kV doc pm an cdv ct) ps sp := by
  refine ⟨len, fun A outer s H args us vs Q E hgd hr e0 hb r hsp => ?_⟩
  have hl := len _ _ _ _ hsp
  have KX : K.In s.heap := e0.mod.kin.keeps fun b o e => (e0.bs b o e).1
  have lim : s.heap.NoLimit := e0.mod.nolimit.keeps fun b o e => (e0.bs b o e).1
  have hkind : ∀ y ∈ ps.zip us, scope.names.lookup y.1 = some .local ∨ (scope.names.lookup y.1 = some .cell ∧ ((cellsFrom (s.heap.objs.size + 1) scope.names []).lookup y.1).isSome = true) := fun ⟨n, v⟩ hy => by
    rcases S.par n (List.of_mem_zip hy).1 with q | q
    · exact .inl q
    · exact .inr ⟨q, PySem.W.cellsFrom_some _ _ _ (.inl q)⟩
  refine codeAny_call_function hr.depth (KX _ _ lk) rfl S.co S.gen rfl (PySem.W.codeRec_of KX hcd) (hb _ _ _ _ ?_)
  refine wpAny_newFunctionEnv_cells S.kind hkind fun env he s1 x => ?_
  subst he
  refine ⟨lim.keeps x.toInCall.keep, codeAny_func ?_⟩
  obtain ⟨t, ht, hq⟩ := hbody A outer s H vs Q E hgd (hr.deeper _) hsp
  have I : L2.Inv (cxOf CX0 P w K mg base N qual scope f cdv A outer s H E) [] (L2.start N vs) H s1 := L2.inv_start S hr.hd e0 hl r x
  refine wpAny_mono (ht.run [] s1 (L2.start N vs) H _ I hq) (fun fl s' hs => ?_) fun e s' hs => hs
  have fin : ∀ {σ' : L2.St} {H' : Hp} {v : V} {u : Value}, L2.Inv (cxOf CX0 P w K mg base N qual scope f cdv A outer s H E) [] σ' H' s' → RelV v u → Q v H' → CE outer P w H s Q u s' :=
    fun {σ' H' v u} J rv q => ⟨v, H', J.os, J.bare, J.base, J.hok, rv, q⟩
  cases fl with
  | ret u =>
    obtain ⟨v, σ', H', J, rv, q⟩ := hs
    exact fin J rv q
  | next =>
    obtain ⟨σ', H', J, q⟩ := hs
    exact fin (v := V.non) (u := Value.none) J rfl q
  | brk =>
    obtain ⟨_, _, _, q⟩ := hs
    exact False.elim q
  | cont =>
    obtain ⟨_, _, _, q⟩ := hs
    exact False.elim q
theorem okG {P : Program} {w : World} {K : PySem.W.Frag} {mg : Str → Option Value} {base : Heap} {x qual : Str} {st : Stmt} {f : Addr} {fd : FuncData} {N ps : List Str} {k : Nat} {sp : Sp} (F : Fun K x qual st f fd) (S : FnScope N ps (defScope st)) (len : ∀ vs H Q E, sp vs H Q E → vs.length = ps.length)
    (hbody : ∀ (cdv : Value) (A : Around) (outer : List Env) (s : Shared) (H : Hp) (vs : List V) (Q : VK) (E : XK), A.guards = some [] → Room k (A.deeper (envOfC qual (defScope st) s.heap.objs.size f cdv)) → sp vs H Q E →
      ∃ t, PSs (cxOf CX0 P w K mg base N qual (defScope st) f cdv A outer s H E).nox (defBody st) t ∧ t { nx := fun _ H' => Q .non H', rt := Q } (L2.start N vs) H) : FnG P w K mg base (k + 1) f fd ps sp := by
  obtain ⟨oc, od, kV, doc, pm, an, cdv, ct, osl, rfl, lk, hcd⟩ := F.ex
  refine fn_ofG lk hcd S len fun A outer s H vs Q E hgd hr hsp => ?_
  obtain ⟨t, h, q⟩ := hbody cdv A outer s H vs Q E hgd hr hsp
  exact ⟨t, h.nox, q⟩
section
variable {X : Cx} {k : Nat} {f : Addr} {fd : FuncData} {ps : List Str} {sp : Sp} {x : Str} {q pos : Pos} {e : Expr} {es : List Expr} {t : TA}
theorem pe_callG (F : FnG X.prog X.w X.K X.mg X.base k f fd ps sp) (hgd : X.A.guards = some []) (hr : Room k X.A) (hg : Gl X x) (hm : X.mg x = some (.ref f)) (hk : PySem.W.keepIn X.K (.ref f) = true) (hb : Binds X.K fd ps [])
    (ha : PA X (e :: es) t) (hdb : (x == ("__debug__" : Str)) = false := by decide) (he : starEach (e :: es) X.env = (false, eval e X.env) :: starEach es X.env := by rfl) (hpl : (backTo pos (starEach es X.env)).any (·.1) = false := by rfl) :
    PE X (.Call (.Name x q) (e :: es) [] pos) (tCallP sp t) := by
  refine ⟨fun pins s σ H Q I h => ?_⟩
  refine wpAny_Call_Name_kw (ld_glob I hg hm ?_ hdb)
  refine PySem.W.callWith_K (h₀ := X.base) I.ok.mod.kin hk (thn (ha.run pos pins s σ H _ I h) fun us s1 ⟨vs, H1, I1, r, q⟩ => ⟨I1.kIn, ?_⟩) he hpl
  have hl : us.length = ps.length := by rw [← r.length]; exact F.len _ _ _ _ q
  have b := hb s1 us I1.kIn (by rw [List.append_nil]; exact hl)
  rw [List.append_nil] at b
  refine wpAny_call (codeAny_mono (F.run X.A X.stack s1 H1 ⟨us, []⟩ us vs Q E0 hgd hr I1.env0 b r q) fun r s' hq => ?_)
  cases r with
  | error e => exact False.elim hq
  | ok fl =>
    cases fl with
    | ret u => exact I1.after hq
    | next => exact False.elim hq
    | brk => exact False.elim hq
    | cont => exact False.elim hq
end
/-! ### the law's own call -/
/-- what is tracked at the law's call: the script, if it is none of the written part, and the tables -/
def H0 (K : PySem.W.Frag) (a : Addr) (o : Obj) (ns : List Int) (ts : List Addr) : Hp := fun b => if b = a then (if (K.lookup a).isNone = true then some (.frz o (.lst (ns.map V.int))) else none) else if b ∈ ts then some (.tbl #[]) else none
theorem H0_in {K : PySem.W.Frag} {a : Addr} {o : Obj} {ns : List Int} {ts : List Addr} {b : Addr} {u : HO} (h : H0 K a o ns ts b = some u) : (b = a ∧ (K.lookup a).isNone = true ∧ u = .frz o (.lst (ns.map V.int))) ∨ (b ≠ a ∧ b ∈ ts ∧ u = .tbl #[]) := by
  unfold H0 at h
  by_cases hb : b = a
  · rw [if_pos hb] at h
    by_cases hk : (K.lookup a).isNone = true
    · rw [if_pos hk] at h
      exact .inl ⟨hb, hk, (Option.some.inj h).symm⟩
    · rw [if_neg hk] at h
      cases h
  · rw [if_neg hb] at h
    by_cases ht : b ∈ ts
    · rw [if_pos ht] at h
      exact .inr ⟨hb, ht, (Option.some.inj h).symm⟩
    · rw [if_neg ht] at h
      cases h
abbrev tab0 : Obj := { cls := .none, data := .fields #[] }
theorem law_callG {P : Program} {w : World} {K : PySem.W.Frag} {mg mb : Str → Option Value} {k : Nat} {fa a : Addr} {cs : List (Addr × Addr)} {fd : FuncData} {x : Str} {sp : Sp} {s₁ : Shared} {vs : List Value} {ns : List Int}
    (KX : K.In s₁.heap) (hns : s₁.heap.Ns mainGlobals mg) (hb : s₁.heap.Ns builtinsNs mb) (hbb : ∀ x : Str, x ≠ "__name__" → mb x = bootBuiltins x) (hlim : s₁.heap.NoLimit) (hg : s₁.gens = #[]) (hT : ∀ p ∈ cs, s₁.heap.get? p.2 = some tab0) (nT : ∀ p ∈ cs, K.lookup p.2 = none)
    (C : ∀ p ∈ cs, PySem.W.CodeHd s₁.heap p.1 p.2) (hbm : ∃ (bm : Addr) (ob : Obj), mg "__builtins__" = some (.ref bm) ∧ bm ≠ builtinsNs ∧ s₁.heap.get? bm = some ob ∧ ob.cls = .type "module" ∧ ob.dict = some builtinsNs ∧ ob.data = .plain)
    (ha : s₁.heap.get? a = some { cls := .type "list", data := .seq vs.toArray }) (hi : IntsAre vs ns) (hl : ns.length ≤ sizeLine) (hr : Room k callerA) (F : ∀ base : Heap, K.In base → base.Ns mainGlobals mg → (∀ p ∈ cs, LamX.TabB base mg p.1 p.2) → FnG P w K mg base k fa fd [x] sp)
    (hbind : ∀ (s : Shared) (u : Value), BindsTo s fd ⟨[u], []⟩ [(x, u)]) (hsp : ∀ H : Hp, (∀ p ∈ cs, H p.2 = some (.tbl #[])) → SqL K H a (ns.map V.int) → sp [.ref a] H (fun v _ => v = .bl true) fun _ _ _ => False) :
    codeAny (model P w) callerA (.call (.ref fa) ⟨[.ref a], []⟩) (fun r s' => r = .ok (.ret (.bool true)) ∧ OldK s₁.heap s'.heap ∧ s'.os = s₁.os ∧ AllBare s'.gens) s₁ := by
  have rv := vals_ints hi
  have hal : ∀ p ∈ cs, p.2 ≠ a := fun p hp z => by
    have := hT p hp
    rw [z, ha] at this
    have e := congrArg Obj.cls (Option.some.inj this)
    simp at e
  obtain ⟨H, hH⟩ : ∃ H, H = H0 K a { cls := .type "list", data := .seq vs.toArray } ns (cs.map (·.2)) := ⟨_, rfl⟩
  have hin : ∀ {b u}, H b = some u → (b = a ∧ (K.lookup a).isNone = true ∧ u = .frz { cls := .type "list", data := .seq vs.toArray } (.lst (ns.map V.int))) ∨ (b ≠ a ∧ b ∈ cs.map (·.2) ∧ u = .tbl #[]) := fun {b u} h => H0_in (by rw [← hH]; exact h)
  have obj : ∀ {b u}, H b = some u → ∃ ob, s₁.heap.get? b = some ob ∧ (ob = { cls := .type "list", data := .seq vs.toArray } ∨ ob = tab0) := fun {b u} h => by
    rcases hin h with ⟨rfl, _⟩ | ⟨_, ht, _⟩
    · exact ⟨_, ha, .inl rfl⟩
    · obtain ⟨p, hp, rfl⟩ := List.mem_map.mp ht
      exact ⟨_, hT p hp, .inr rfl⟩
  have hTab : ∀ p ∈ cs, H p.2 = some (.tbl #[]) := fun p hp => by
    rw [hH]
    unfold H0
    rw [if_neg (hal p hp), if_pos (List.mem_map.mpr ⟨p, hp, rfl⟩)]
  have hok : HOk P w H s₁.heap := fun b u h => by
    rcases hin h with ⟨rfl, _, rfl⟩ | ⟨_, ht, rfl⟩
    · exact ⟨ha, by rw [List.length_map]; exact hl, vs, _, rv, ha⟩
    · obtain ⟨p, hp, rfl⟩ := List.mem_map.mp ht
      exact hT p hp
  -- what is of another kind than a list and an empty table is not tracked
  have free : ∀ {b : Addr} {o : Obj}, s₁.heap.get? b = some o → (∀ us n, o.data ≠ .seq us n) → o.data ≠ .fields #[] → (hidT s₁.heap H).get? b = some o := fun {b o} e h1 h2 => by
    refine hidT_get e ?_
    cases q : H b with
    | none => rfl
    | some u =>
      obtain ⟨ob, e2, e3⟩ := obj q
      rw [e] at e2
      cases e2
      rcases e3 with rfl | rfl
      · exact (h1 _ _ rfl).elim
      · exact (h2 rfl).elim
  have freeNs : ∀ {b : Addr} {m : Str → Option Value}, s₁.heap.Ns b m → (hidT s₁.heap H).Ns b m := fun {b m} ⟨o, es, ep, e, d, r⟩ => ⟨o, es, ep, free e (fun us n z => by rw [d] at z; cases z) (fun z => by rw [d] at z; cases z), d, r⟩
  have hKb : K.In (hidT s₁.heap H) := fun b o e => hidT_get (KX b o e) (by
    cases q : H b with
    | none => rfl
    | some u =>
      rcases hin q with ⟨rfl, hk, _⟩ | ⟨_, ht, _⟩
      · rw [e] at hk
        cases hk
      · obtain ⟨p, hp, rfl⟩ := List.mem_map.mp ht
        rw [nT p hp] at e
        cases e)
  have hS : SqL K H a (ns.map V.int) := by
    cases hk : K.lookup a with
    | some o =>
      have e := KX a o hk
      rw [ha] at e
      cases e
      refine .inr ⟨_, vs.toArray, _, hk, rfl, rfl, rfl, by rw [List.size_toArray, hi.length]; exact hl, by simpa using rv⟩
    | none =>
      refine .inl (.inr ⟨{ cls := .type "list", data := .seq vs.toArray }, ?_⟩)
      rw [hH]
      unfold H0
      rw [if_pos rfl, if_pos (by rw [hk]; rfl)]
  have hM : L2.Mod K mg (hidT s₁.heap H) := ⟨hKb, freeNs hns, ⟨mb, freeNs hb, hbb⟩, let ⟨mc, h1, h2⟩ := hlim; ⟨mc, freeNs h1, h2⟩⟩
  have hTB : ∀ p ∈ cs, LamX.TabB (hidT s₁.heap H) mg p.1 p.2 := fun p hp => by
    have hTp := hT p hp
    refine ⟨?_, ?_, fun z => ?_⟩
    · obtain ⟨o, us, file, tf, flags, tg, inF, text, tt, e1, r1, r2, r3, rest⟩ := C p hp
      exact ⟨o, us, file, tf, flags, tg, inF, text, tt, free e1 (fun us n z => by rw [r2] at z; cases z) (fun z => by
        rw [r2] at z
        cases z
        simp at r3), r1, r2, r3, rest⟩
    · obtain ⟨bm, ob, b1, b2, b3, b4, b5, b6⟩ := hbm
      refine ⟨bm, ob, b1, b2, fun z => ?_, fun z => ?_, free b3 (fun us n z => by rw [b6] at z; cases z) (fun z => by rw [b6] at z; cases z), b4, b5, b6⟩
      · obtain ⟨o, es, ep, e, hd, _⟩ := hns
        rw [z, e] at b3
        cases b3
        rw [hd] at b6
        cases b6
      · rw [z, hTp] at b3
        cases b3
        cases b6
    · obtain ⟨o, es, ep, e, hd, _⟩ := hns
      rw [z, hTp] at e
      cases e
      cases hd
  have e0 : Env0 P w K mg (hidT s₁.heap H) callerA [] s₁ H := ⟨rfl, hM, fun b o e => of_hidT e, Nat.le_of_eq (hidT_size _ _), trivial, fun b hb => (List.not_mem_nil (show b ∈ ([] : List Addr) from hb)).elim, hok, .of_eq hg⟩
  refine codeAny_mono ((F _ hKb (freeNs hns) hTB).run callerA [] s₁ H ⟨[.ref a], []⟩ [.ref a] [.ref a] _ _ rfl hr e0 (hbind s₁ (.ref a)) (.cons rfl .nil) (hsp H hTab hS)) fun r s' h => ?_
  match r, h with
  | .ok (.ret u), ⟨v, H', os, bare, un, hok', r', q⟩ =>
    have q' : v = .bl true := q
    subst q'
    obtain rfl : u = Value.bool true := r'
    have nf : ∀ b : Addr, b ∉ frs ([] : List Env) ∧ b ∉ ([] : List Addr) := fun b => ⟨fun z => (List.not_mem_nil (show b ∈ ([] : List Addr) from z)).elim, List.not_mem_nil⟩
    have go : ∀ b o, s₁.heap.get? b = some o → s'.heap.get? b = some o ∨ (b ∈ cs.map (·.2) ∧ o = tab0 ∧ ∃ more : Array Value, s'.heap.get? b = some { cls := .none, data := .fields more }) := fun b o e => by
      cases q : H b with
      | none => exact .inl (un.keep b o e q (nf b).1 (nf b).2)
      | some u =>
        rcases hin q with ⟨rfl, _, rfl⟩ | ⟨_, ht, rfl⟩
        · obtain ⟨e2, _⟩ := hok' b _ (un.frzs b _ _ q)
          rw [ha] at e
          cases e
          exact .inl e2
        · obtain ⟨more, z⟩ := un.tbls b #[] q
          obtain ⟨p, hp, rfl⟩ := List.mem_map.mp ht
          rw [hT p hp] at e
          exact .inr ⟨ht, (Option.some.inj e).symm, _, hok' _ _ z⟩
    refine ⟨rfl, ⟨fun b o e => ?_, fun b o e => ?_⟩, os, bare⟩
    · rcases go b o e with z | ⟨ht, eo, more, z⟩
      · exact .inl z
      · obtain ⟨p, hp, ep⟩ := List.mem_map.mp ht
        subst ep
        subst eo
        exact .inr (.inl ⟨((C p hp).tab (hT p hp)).isCodeTable, rfl, #[], more, rfl, by rw [Array.empty_append]; exact z⟩)
    · rcases go b o e with z | ⟨_, _, more, z⟩
      · exact ⟨o, z⟩
      · exact ⟨_, z⟩
theorem walk_ofG {l : PySem.W.OpenLaw} {n k : Nat} {q : Program} {loose : List Str} {XP : (Str → Option Value) → Heap → Prop} {YP : World → Heap → Prop} {d : DefRec} {K : Params → PySem.W.Frag} {sp : World → Sp} {x : Str}
    (hn : l.most = some n) (hn2 : n ≤ sizeLine) (hdf : d.params.defaults = []) (hr : Room k callerA) (hY : ∀ (w : World) (h : Heap), YP w h → (K w.params).In h)
    (F : ∀ (w : World) (mg : Str → Option Value) (fa : Addr) (h : Heap), (K w.params).In h → h.Ns mainGlobals mg → mg d.name = some (.ref fa) →
      ∃ fd : FuncData, (∀ (s : Shared) (u : Value), BindsTo s fd ⟨[u], []⟩ [(x, u)]) ∧ ∀ base : Heap, (K w.params).In base → base.Ns mainGlobals mg → FnG l.prog w (K w.params) mg base k fa fd [x] (sp w))
    (hsp : ∀ (w : World) (H : Hp) (a : Addr) (ns : List Int), ns.length ≤ n → SqL (K w.params) H a (ns.map V.int) → sp w [.ref a] H (fun v _ => v = .bl true) fun _ _ _ => False) :
    PySem.W.WalkO q loose XP YP l.row.toRowW d [] (fun f vs => PySem.call f vs) := by
  refine Att.attach_callB hn hdf fun w s₀ s₁ mg mb fa o pm cd doc a vs ns G Y ho hd hcd hmg hobj hints hlen hbits hg => ?_
  have KX := hY w _ Y
  obtain ⟨fd, hb, hF⟩ := F w mg fa _ KX G.T.g hmg
  exact law_callG (cs := []) KX G.T.g G.T.b G.T.builtins G.T.nolimit hg (fun p hp => (List.not_mem_nil hp).elim) (fun p hp => (List.not_mem_nil hp).elim) (fun p hp => (List.not_mem_nil hp).elim) G.T.bmain hobj hints (Nat.le_trans hlen hn2) hr (fun base h1 h2 _ => hF base h1 h2) hb fun H _ hS => hsp w H a ns hlen hS
theorem walk_ofTabG {l : PySem.W.OpenLaw} {n k : Nat} {q : Program} {loose : List Str} {XP : (Str → Option Value) → Heap → Prop} {YP : World → Heap → Prop} {d : DefRec} {K : Params → PySem.W.Frag} {x y : Str} {dy : DefRec}
    (hn : l.most = some n) (hn2 : n ≤ sizeLine) (hdf : d.params.defaults = []) (hr : Room k callerA) (hY : ∀ (w : World) (h : Heap), YP w h → (K w.params).In h) (hy : (recsOf q).find? (fun e => e.name == y) = some dy)
    (F : ∀ (w : World) (mg : Str → Option Value) (fa : Addr) (h : Heap), (K w.params).In h → h.Ns mainGlobals mg → mg d.name = some (.ref fa) →
      ∃ (fd : FuncData) (c P : Addr) (sp : Sp), PySem.W.tabIn (K w.params) y = some (c, P) ∧ (K w.params).lookup P = none ∧ (∀ (s : Shared) (u : Value), BindsTo s fd ⟨[u], []⟩ [(x, u)]) ∧
        (∀ (H : Hp) (a : Addr) (ns : List Int), ns.length ≤ n → H P = some (.tbl #[]) → SqL (K w.params) H a (ns.map V.int) → sp [.ref a] H (fun v _ => v = .bl true) fun _ _ _ => False) ∧
        ∀ base : Heap, (K w.params).In base → base.Ns mainGlobals mg → LamX.TabB base mg c P → FnG l.prog w (K w.params) mg base k fa fd [x] sp) :
    PySem.W.WalkO q loose XP YP l.row.toRowW d [] (fun f vs => PySem.call f vs) := by
  refine Att.attach_callB hn hdf fun w s₀ s₁ mg mb fa o pm cd doc a vs ns G Y ho hd hcd hmg hobj hints hlen hbits hg => ?_
  have KX := hY w _ Y
  obtain ⟨fd, c, P, sp, ht, nP, hb, hsp, hF⟩ := F w mg fa _ KX G.T.g hmg
  obtain ⟨C, hP⟩ := PySem.W.tab_of G.T KX hy ht
  have one : ∀ {R : Addr × Addr → Prop}, R (c, P) → ∀ p ∈ [(c, P)], R p := fun h p hp => by cases List.mem_singleton.mp hp; exact h
  exact law_callG (cs := [(c, P)]) KX G.T.g G.T.b G.T.builtins G.T.nolimit hg (one hP) (one nP) (one C) G.T.bmain hobj hints (Nat.le_trans hlen hn2) hr (fun base h1 h2 h3 => hF base h1 h2 (h3 (c, P) List.mem_cons_self)) hb fun H hH hS => hsp H a ns hlen (hH (c, P) List.mem_cons_self) hS
end Rg

set_option Elab.async false
set_option linter.all false
set_option maxRecDepth 100000
set_option maxHeartbeats 4000000
namespace Rg
open PySem PySem.Spec PyProof.Rows L2
/-! ### data of the ledger, and their texts -/
/-- v is, by the ledger, this data -/
inductive DpL (L : Led) : V → PyData → Prop where
  | non : DpL L .non .none
  | bl (b : Bool) : DpL L (.bl b) (.bool b)
  | int (i : Int) : DpL L (.int i) (.int i)
  | str (x : Str) : DpL L (.str x) (.str x)
  | lst {a : Addr} {xs : List V} {ds : List PyData} (h : (a, .lst xs) ∈ L) (hl : xs.length = ds.length) (hd : ∀ (i : Nat) x e, xs[i]? = some x → ds[i]? = some e → DpL L x e) : DpL L (.ref a) (.list ds)
  | tup {a : Addr} {xs : List V} {ds : List PyData} (h : (a, .tup xs) ∈ L) (hl : xs.length = ds.length) (hd : ∀ (i : Nat) x e, xs[i]? = some x → ds[i]? = some e → DpL L x e) : DpL L (.ref a) (.tuple ds)
theorem DpL.mono {L L' : Led} {v : V} {e : PyData} (h : DpL L v e) (s : ∀ q ∈ L, q ∈ L') : DpL L' v e := by
  induction h with
  | non => exact .non
  | bl b => exact .bl b
  | int i => exact .int i
  | str x => exact .str x
  | lst h hl hd ih => exact .lst (s _ h) hl ih
  | tup h hl hd ih => exact .tup (s _ h) hl ih
theorem dpAll_of {K : PySem.W.Frag} {H : Hp} : ∀ {xs : List V} {ds : List PyData}, xs.length = ds.length → (∀ (i : Nat) x e, xs[i]? = some x → ds[i]? = some e → Dp K H x e) → DpAll K H xs ds
  | [], [], _, _ => .nil
  | [], _ :: _, h, _ => by cases h
  | _ :: _, [], h, _ => by cases h
  | x :: xs, e :: ds, h, hd => .cons (hd 0 x e rfl rfl) (dpAll_of (by simpa using h) fun i y f h1 h2 => hd (i + 1) y f h1 h2)
theorem DpL.dp {d : Addr} {n : Nat} {L : Led} {H : Hp} {K : PySem.W.Frag} {v : V} {e : PyData} (kn : Kn d n L H) (h : DpL L v e) : Dp K H v e := by
  induction h with
  | non => exact .non
  | bl b => exact .bl b
  | int i => exact .int i
  | str x => exact .str x
  | lst h hl hd ih => exact .lst (kn.seqL h) (dpAll_of hl ih)
  | tup h hl hd ih => exact .tup (kn.seqT h) (dpAll_of hl ih)
/-- data of depth k at most, whose text has c signs at most -/
inductive Ds (L : Led) : Nat → Nat → V → Prop where
  | non {k c : Nat} (h : 5 ≤ c) : Ds L k c .non
  | bl {k c : Nat} (b : Bool) (h : 5 ≤ c) : Ds L k c (.bl b)
  | int {k c : Nat} {i : Int} (h : i.natAbs < 10 ^ 100) (hc : 101 ≤ c) : Ds L k c (.int i)
  | str {k c : Nat} {x : Str} (h : (reprText x).length ≤ c) : Ds L k c (.str x)
  | lst {k c c0 : Nat} {a : Addr} {xs : List V} (h : (a, .lst xs) ∈ L) (hd : ∀ x ∈ xs, Ds L k c0 x) (hc : (c0 + 2) * xs.length + 3 ≤ c) : Ds L (k + 1) c (.ref a)
  | tup {k c c0 : Nat} {a : Addr} {xs : List V} (h : (a, .tup xs) ∈ L) (hd : ∀ x ∈ xs, Ds L k c0 x) (hc : (c0 + 2) * xs.length + 3 ≤ c) : Ds L (k + 1) c (.ref a)
theorem Ds.mono {L L' : Led} {k c : Nat} {v : V} (h : Ds L k c v) (s : ∀ q ∈ L, q ∈ L') : Ds L' k c v := by
  induction h with
  | non h => exact .non h
  | bl b h => exact .bl b h
  | int h hc => exact .int h hc
  | str h => exact .str h
  | lst h hd hc ih => exact .lst (s _ h) ih hc
  | tup h hd hc ih => exact .tup (s _ h) ih hc
theorem Ds.more {L : Led} {k k' c c' : Nat} {v : V} (h : Ds L k c v) (hk : k ≤ k') (hc : c ≤ c') : Ds L k' c' v := by
  induction h generalizing k' c' with
  | non h => exact .non (by omega)
  | bl b h => exact .bl b (by omega)
  | int h h2 => exact .int h (by omega)
  | str h => exact .str (by omega)
  | lst h hd h2 ih =>
    obtain ⟨k2, rfl⟩ : ∃ k2, k' = k2 + 1 := ⟨k' - 1, by omega⟩
    exact .lst h (fun x hx => ih x hx (by omega) (Nat.le_refl _)) (by omega)
  | tup h hd h2 ih =>
    obtain ⟨k2, rfl⟩ : ∃ k2, k' = k2 + 1 := ⟨k' - 1, by omega⟩
    exact .tup h (fun x hx => ih x hx (by omega) (Nat.le_refl _)) (by omega)
theorem textFrom_up (c : Nat) : ∀ (ts : List Str) (k : Nat) (acc : Str), (∀ t ∈ ts, t.length ≤ c) → (textFrom k acc ts).length ≤ acc.length + (c + 2) * ts.length
  | [], k, acc, _ => Nat.le_refl _
  | t :: r, k, acc, h => by
    have ih := textFrom_up c r (k + 1) (acc ++ (if k > 0 then ", " else "" : String) ++ t) fun u hu => h u (List.mem_cons_of_mem _ hu)
    have ht := h t List.mem_cons_self
    have e : (acc ++ (if k > 0 then ", " else "" : String) ++ t).length = acc.length + (if k > 0 then 2 else 0) + t.length := by
      rw [strLen_append, strLen_append]
      split <;> rfl
    rw [e] at ih
    show (textFrom (k + 1) _ r).length ≤ _
    rw [List.length_cons, Nat.mul_succ]
    have : (if k > 0 then 2 else 0 : Nat) ≤ 2 := by split <;> omega
    omega
theorem listText_up {c : Nat} {ts : List Str} (h : ∀ t ∈ ts, t.length ≤ c) : (listText ts).length ≤ (c + 2) * ts.length + 3 := by
  have := textFrom_up c ts 0 "[" h
  unfold listText
  rw [strLen_append]
  have e1 : ("[" : Str).length = 1 := rfl
  have e2 : ("]" : Str).length = 1 := rfl
  omega
theorem piled_up {c : Nat} : ∀ {ts : List Str}, (∀ t ∈ ts, t.length ≤ c) → piled ts ≤ (c + 2) * ts.length
  | [], _ => by rw [piled_nil]; omega
  | t :: r, h => by
    have ih := piled_up fun u hu => h u (List.mem_cons_of_mem t hu)
    have ht := h t List.mem_cons_self
    rw [piled_cons, List.length_cons, Nat.mul_succ]
    omega
theorem tupleText_up {c : Nat} {ts : List Str} (h : ∀ t ∈ ts, t.length ≤ c) : (tupleText ts).length ≤ (c + 2) * ts.length + 3 := by
  have hp := piled_up h
  have hj : (Str.join ", " ts).length ≤ piled ts := by
    cases ts with
    | nil => exact Nat.le_of_eq rfl
    | cons t r =>
      have := join_length_add (t :: r) (by simp)
      omega
  unfold tupleText
  rw [strLen_append, strLen_append]
  have e1 : ("(" : Str).length = 1 := rfl
  have e2 : ((if ts.length == 1 then ",)" else ")" : String) : Str).length ≤ 2 := by
    split <;> decide
  omega
/-- its data, told once for all heaps -/
theorem Ds.data {L : Led} {k c : Nat} {v : V} (h : Ds L k c v) : ∃ e, DpL L v e ∧ e.showable = true ∧ e.hasDict = false ∧ e.depth ≤ k ∧ e.shown.length ≤ c := by
  have all : ∀ {xs : List V} {k c0 : Nat}, (∀ x ∈ xs, ∃ e, DpL L x e ∧ e.showable = true ∧ e.hasDict = false ∧ e.depth ≤ k ∧ e.shown.length ≤ c0) →
      ∃ ds : List PyData, xs.length = ds.length ∧ (∀ (i : Nat) x e, xs[i]? = some x → ds[i]? = some e → DpL L x e) ∧ PyData.showableAll ds = true ∧ PyData.hasDictAll ds = false ∧ PyData.depthAll ds ≤ k ∧ (PyData.shownAll ds).length = xs.length ∧ ∀ t ∈ PyData.shownAll ds, t.length ≤ c0 := by
    intro xs k c0 hx
    induction xs with
    | nil => exact ⟨[], rfl, fun i x e h => (by cases h), by simp [PyData.showableAll], by simp [PyData.hasDictAll], by simp [PyData.depthAll], by simp [PyData.shownAll], fun t ht => by simp [PyData.shownAll] at ht⟩
    | cons x xs ih =>
      obtain ⟨ds, h1, h2, h3, h4, h5, h6, h7⟩ := ih fun y hy => hx y (List.mem_cons_of_mem _ hy)
      obtain ⟨e, g1, g2, g3, g4, g5⟩ := hx x List.mem_cons_self
      refine ⟨e :: ds, by rw [List.length_cons, List.length_cons, h1], fun i y f a b => ?_, by simp [PyData.showableAll, g2, h3], by simp [PyData.hasDictAll, g3, h4], by simp only [PyData.depthAll]; omega, by simp [PyData.shownAll, h6], fun t ht => ?_⟩
      · cases i with
        | zero =>
          cases a
          cases b
          exact g1
        | succ i => exact h2 i y f a b
      · simp only [PyData.shownAll, List.mem_cons] at ht
        rcases ht with rfl | ht
        · exact g5
        · exact h7 t ht
  induction h with
  | non h => exact ⟨.none, .non, by simp [PyData.showable], by simp [PyData.hasDict], by simp [PyData.depth], by simp only [PyData.shown]; exact Nat.le_trans (by decide) h⟩
  | bl b h => exact ⟨.bool b, .bl b, by simp [PyData.showable], by simp [PyData.hasDict], by simp [PyData.depth], by
      simp only [PyData.shown]
      refine Nat.le_trans ?_ h
      cases b <;> decide⟩
  | @int k c i h hc =>
    refine ⟨.int i, .int i, ?_, by simp [PyData.hasDict], by simp [PyData.depth], ?_⟩
    · simp only [PyData.showable, decide_eq_true_eq]
      have h2 : i.natAbs < 2 ^ 400 := Nat.lt_of_lt_of_le h (by decide +kernel)
      by_cases h0 : i.natAbs = 0
      · rw [h0]
        decide
      · have := (Nat.log2_lt h0 (k := 400)).mpr h2
        omega
    · simp only [PyData.shown]
      rw [PySem.ofString_length]
      exact Nat.le_trans (int_text_length_le10 (k := 100) (by omega) h) (by omega)
  | str h => exact ⟨.str _, .str _, by simp [PyData.showable], by simp [PyData.hasDict], by simp [PyData.depth], by simp only [PyData.shown]; exact h⟩
  | lst h hd hc ih =>
    obtain ⟨ds, h1, h2, h3, h4, h5, h6, h7⟩ := all ih
    refine ⟨.list ds, .lst h h1 h2, by simp [PyData.showable, h3], by simp [PyData.hasDict, h4], by simp only [PyData.depth]; omega, ?_⟩
    simp only [PyData.shown]
    have := listText_up h7
    rw [h6] at this
    omega
  | tup h hd hc ih =>
    obtain ⟨ds, h1, h2, h3, h4, h5, h6, h7⟩ := all ih
    refine ⟨.tuple ds, .tup h h1 h2, by simp [PyData.showable, h3], by simp [PyData.hasDict, h4], by simp only [PyData.depth]; omega, ?_⟩
    simp only [PyData.shown]
    have := tupleText_up h7
    rw [h6] at this
    omega
section
variable {X : Cx}
/-- repr(v), where no repr is under way -/
def rReprD (K : PySem.W.Frag) : List V → Hp → VK → Prop := fun xs H Q => ∃ (v : V) (e : PyData), xs = [v] ∧ Dp K H v e ∧ e.showable = true ∧ e.hasDict = false ∧ e.depth ≤ 60 ∧ e.shown.length ≤ 16000000 ∧ Q (.str e.shown) H
theorem cr_reprD (hg : X.A.guards = some []) (hu : X.A.units + 100 < cLine) : CallR X (.builtin "repr") (rReprD X.K) := by
  intro pins s σ H xs us Q I r h
  obtain ⟨v, e, rfl, hd, h1, h2, h3, h4, q⟩ := h
  obtain ⟨u, rfl, ru⟩ := vals1 r
  have hsz : e.shown.length ≤ sizeLine := Nat.le_trans h4 (by decide)
  cases hd with
  | non =>
    cases ru
    exact PySem.P.repr_of_none ⟨.str _, H, I.tok _, ⟨_, rfl⟩, by simpa only [PyData.shown] using q⟩
  | bl b =>
    cases ru
    exact PySem.P.repr_of_bool ⟨.str _, H, I.tok _, ⟨_, rfl⟩, by simpa only [PyData.shown] using q⟩
  | int i =>
    obtain ⟨t, rfl⟩ := ru
    exact PySem.P.repr_of_int (by simpa [PyData.showable] using h1) ⟨.str _, H, I.tok _, ⟨_, rfl⟩, by simpa only [PyData.shown] using q⟩
  | str x =>
    obtain ⟨t, rfl⟩ := ru
    exact PySem.P.repr_of_str ⟨.str _, H, I.tok _, ⟨_, rfl⟩, by simpa only [PyData.shown] using q⟩ (by simpa only [PyData.shown] using hsz)
  | @lst a ys ds hs ha =>
    obtain ⟨as, hr⟩ := Dp.reads I _ _ _ (.lst hs ha) ru
    obtain rfl : u = Value.ref a := ru
    exact repr_of_reads' hr h1 (fun z => by rw [h2] at z; cases z) hg (by omega) (fun _ _ z => z) (fun h' u tk hk => ⟨.str _, H, I.kept (t' := tk) hk, ⟨u, rfl⟩, q⟩) hsz
  | @tup a ys ds hs ha =>
    obtain ⟨as, hr⟩ := Dp.reads I _ _ _ (.tup hs ha) ru
    obtain rfl : u = Value.ref a := ru
    exact repr_of_reads' hr h1 (fun z => by rw [h2] at z; cases z) hg (by omega) (fun _ _ z => z) (fun h' u tk hk => ⟨.str _, H, I.kept (t' := tk) hk, ⟨u, rfl⟩, q⟩) hsz
end
theorem kReprD {d : Addr} {n : Nat} {L : Led} {H : Hp} {Q : VK} {K : PySem.W.Frag} {v : V} {e : PyData} (kn : Kn d n L H) (hd : DpL L v e) (h1 : e.showable = true) (h2 : e.hasDict = false) (h3 : e.depth ≤ 60) (h4 : e.shown.length ≤ 16000000) (q : Q (.str e.shown) H) : rReprD K [v] H Q :=
  ⟨v, e, rfl, hd.dp kn, h1, h2, h3, h4, q⟩
theorem unit100 {k : Nat} {A : Around} (r : Room k A) : A.units + 100 < cLine := by
  have := r.un
  omega
end Rg

set_option Elab.async false
set_option linter.all false
set_option maxRecDepth 100000
set_option maxHeartbeats 4000000
namespace Rg
open PySem PySem.Spec PyProof.Rows L2
/-! ### t[::-1], t a tuple -/
section
variable {prog : Program} {w : World} {A : Around} {E : Value → Shared → Prop} {s : Shared}
theorem adjust_rev (n : Nat) : Builtin.Slice.sliceAdjust none none (-1) (n : Int) = ((n : Int) - 1, -1) := by
  unfold Builtin.Slice.sliceAdjust
  rfl
theorem places_rev (n : Nat) : Builtin.Slice.slicePlaces ((n : Int) - 1) (-1) (-1) = n := by
  unfold Builtin.Slice.slicePlaces
  rw [if_neg (by decide)]
  have e : (- -1 : Int) = 1 := by decide
  rw [e, Int.ediv_one]
  split <;> omega
theorem sliceApplied_rev {sl : Addr} {n : Nat} {u : Tok} {Q : Int × Int × Nat → Shared → Prop} (hs : s.heap.IsSliceOf sl .none .none (.int (-1) u))
    (h : Q ((n : Int) - 1, -1, n) s) : wpAny (model prog w) A (Builtin.Slice.sliceApplied (.ref sl) (pure (n : Int))) Q E s := by
  obtain ⟨os, hos, hcs, hds⟩ := id hs
  unfold Builtin.Slice.sliceApplied Builtin.Slice.sliceFields
  refine wpAny_bind (wpAny_bind (wpAny_field hos hds (x := .none) rfl (wpAny_bind (wpAny_field hos hds (x := .none) rfl (wpAny_bind (wpAny_field hos hds (x := .int (-1) u) rfl (wpAny_pure ?_)))))))
  refine wpAny_bind (slicePart_int ?_)
  show wpAny _ _ (if ((-1 : Int) == 0) = true then _ else _) _ _ s
  rw [if_neg (by decide)]
  refine wpAny_bind (slicePart_none (wpAny_bind (slicePart_none (wpAny_bind (wpAny_pure ?_)))))
  show wpAny _ _ (match Builtin.Slice.sliceAdjust none none (-1) (n : Int) with | (lo, hi) => pure (lo, (-1 : Int), Builtin.Slice.slicePlaces lo hi (-1))) _ _ s
  rw [adjust_rev n]
  show wpAny _ _ (pure ((n : Int) - 1, (-1 : Int), Builtin.Slice.slicePlaces ((n : Int) - 1) (-1) (-1))) _ _ s
  rw [places_rev]
  exact wpAny_pure h
theorem pick_rev (xs : Array Value) : ((List.range xs.size).filterMap fun (m : Nat) => xs[((xs.size : Int) - 1 + (m : Int) * (-1)).toNat]?).toArray = xs.toList.reverse.toArray := by
  have e : (List.range xs.size).filterMap (fun (m : Nat) => xs[((xs.size : Int) - 1 + (m : Int) * (-1)).toNat]?) = ((List.range xs.size).map fun k => xs.size - 1 - k).filterMap (xs[·]?) := by
    rw [List.filterMap_map]
    have e : (fun (m : Nat) => xs[((xs.size : Int) - 1 + (m : Int) * (-1)).toNat]?) = ((fun x : Nat => xs[x]?) ∘ fun k => xs.size - 1 - k) := by
      funext m
      have : ((xs.size : Int) - 1 + (m : Int) * (-1)).toNat = xs.size - 1 - m := by omega
      rw [this]
      rfl
    rw [e]
  rw [e, PySem.W.krv_range, List.filterMap_reverse, PySem.W.krv_all]
theorem getItem_tuple_rev {t sl : Addr} {items : Array Value} {u : Tok} {Q : Value → Shared → Prop} (ht : IsTup s.heap t items) (hs : s.heap.IsSliceOf sl .none .none (.int (-1) u))
    (h : Q (.ref s.heap.objs.size) { s with heap := s.heap.push { cls := .type "tuple", data := .seq items.toList.reverse.toArray } })
    (hsz : items.size ≤ sizeLine) : wpAny (model prog w) A (getItem (.ref t) (.ref sl)) Q E s := by
  have htake : sizeOk (.seq items.toList.reverse.toArray) := by
    show items.toList.reverse.toArray.size ≤ sizeLine
    rw [List.size_toArray, List.length_reverse, Array.length_toList]
    exact hsz
  obtain ⟨os, hos, hcs, hds⟩ := id hs
  have hTs : s.TypeIs (.ref sl) "slice" := ⟨os, hos, hcs⟩
  unfold getItem
  try with_reducible refine wpAny_holding ?_
  first | refine wpAny_bind (wpAny_pure ?_) | skip
  refine wpAny_bind (wpAny_sequenceKey ht.typeIs (by decide) ?_)
  refine wpAny_bind (wpAny_callSpecial?_slot (name := Str.ofString "__getitem__") ht.typeIs PyProof.Rows.slot_tuple_getitem
    (wpAny_call_entry PyProof.Rows.slot_tuple_getitem ht.typeIs entry_tuple_getitem ?_ (args_tuple_getitem _ _)))
  show wpAny _ _ (Builtin.Tuple.tupleItemsOf (.ref t) >>= _) _ _ s
  refine wpAny_bind (tupleItemsOf_ ht ?_)
  refine wpAny_bind (wpAny_typeOf hTs ?_)
  rw [if_pos (by decide)]
  refine wpAny_bind (sliceApplied_rev hs ?_)
  have hno : ¬ ((((items.size : Int) - 1) == 0 && (-1 : Int) == 1 && items.size == items.size) = true) := by
    intro q
    rw [Bool.and_eq_true, Bool.and_eq_true] at q
    have q1 : (-1 : Int) = 1 := eq_of_beq q.1.2
    omega
  show wpAny _ _ (if (((items.size : Int) - 1) == 0 && (-1 : Int) == 1 && items.size == items.size) = true then _ else _) _ _ s
  rw [if_neg hno, pick_rev]
  first
    | exact wpAny_bind (m := Builtin.Tuple.tupleExact _) (wpAny_newObj_type (wpAny_pure ⟨_, rfl, wpAny_pure h⟩) htake)
    | exact wpAny_bind (m := Builtin.Tuple.tupleExact _) (wpAny_newObj_type (wpAny_bind (wpAny_pure (wpAny_pure ⟨_, rfl, wpAny_pure h⟩))) htake)
    | exact wpAny_bind (wpAny_bind (m := Builtin.Tuple.tupleExact _) (wpAny_newObj_type (wpAny_pure (wpAny_pure ⟨_, rfl, wpAny_pure h⟩)) htake))
    | exact wpAny_bind (wpAny_bind (m := Builtin.Tuple.tupleExact _) (wpAny_newObj_type (wpAny_pure ⟨_, rfl, wpAny_pure h⟩) htake))
end
section
variable {X : Cx}
def rRevT (K : PySem.W.Frag) : V → Hp → VK → Prop := fun x H Q => ∃ a xs, x = .ref a ∧ SqT K H a xs ∧ ∀ p, H p = none → Q (.ref p) (upd H p (.tup xs.reverse))
def tRevT (r : V → Hp → VK → Prop) (te : TE) : TE := fun σ H Q => te σ H fun x H1 => r x H1 Q
theorem pe_revtup {e : Expr} {te : TE} {k : Nat} {p1 p2 p3 pos : Pos} (he : PE X e te) : PE X (.Subscript e (.Slice none none (some (.UnaryOp .USub (.Constant (.int 1) k p1) p2)) p3) pos) (tRevT (rRevT X.K) te) := by
  refine ⟨fun pins s σ H Q I h => ?_⟩
  refine Subscript_ (thn (he.run pins s σ H _ I h) fun v s1 ⟨x, H1, I1, r1, q1⟩ => ?_)
  obtain ⟨a, xs, ex, hx, q⟩ := q1
  subst ex
  cases r1
  have hst : PO X (some (.UnaryOp .USub (.Constant (.int 1) k p1) p2)) (tPart (tUn (rU fun i => .int (-i)) (tC (.int 1)))) := po_some (pe_un un_neg pe_int)
  refine wpAny_Slice (thn (po_none.run pins s1 σ H1 (fun o H2 => o = none ∧ H2 = H1) I1 ⟨rfl, rfl⟩) fun vl s2 ⟨l, H2, I2, pl, el, e2⟩ => ?_)
  subst el e2
  refine thn (po_none.run pins s2 σ H2 (fun o H3 => o = none ∧ H3 = H2) I2 ⟨rfl, rfl⟩) fun vu s3 ⟨u, H3, I3, pu, eu, e3⟩ => ?_
  subst eu e3
  refine thn (hst.run pins s3 σ H3 (fun o H4 => o = some (-1) ∧ H4 = H3) I3 ⟨1, rfl, -1, rfl, rfl, rfl⟩) fun vs s4 ⟨o, H4, I4, ps, eo, e4⟩ => ?_
  subst eo e4
  have I5 : Inv X pins σ H4 { s4 with heap := s4.heap.push { cls := .type "slice", data := .fields #[vl, vu, vs] } } := I4.kept (t' := s4.toks) fun b ob q => Heap.get?_push_of_some _ q
  obtain ⟨its, r, ht, hz⟩ := I5.tuple hx
  have hlen := r.length
  cases pl
  cases pu
  cases ps
  show wpAny (model X.prog X.w) X.A (subscriptTail e (.Slice none none (some (.UnaryOp .USub (.Constant (.int 1) k p1) p2)) p3) (.ref a) (.ref s4.heap.objs.size)) (EP X pins σ Q) X.xe { s4 with heap := s4.heap.push { cls := .type "slice", data := .fields #[.none, .none, .int (-1) _] } }
  refine tail_any (ops := [.ref a, .ref s4.heap.objs.size]) ht.typeIs (PyProof.Rows.slot_tuple_getitem.lookup) ?_ (by with_unfolding_all rfl)
  refine getItem_tuple_rev ht (Heap.IsSliceOf.new _ _ _ _) ?_ (by rw [List.size_toArray]; omega)
  refine ⟨.ref _, _, I5.laid (t' := s4.toks) (o := .tup xs.reverse) (fun b ob q => Heap.get?_push_of_some _ q) (Nat.le_refl _) ?_, rfl, q _ (I5.hok.fresh (Nat.le_refl _))⟩
  exact ⟨by rw [List.length_reverse]; exact hz, _, r.reverse, IsTup.new _ _⟩
end
theorem pe_revtupQ {X : Cx} {K : PySem.W.Frag} (eK : X.K = K) {e : Expr} {te : TE} {k : Nat} {p1 p2 p3 pos : Pos} (he : PE X e te) : PE X (.Subscript e (.Slice none none (some (.UnaryOp .USub (.Constant (.int 1) k p1) p2)) p3) pos) (tRevT (rRevT K) te) := eK ▸ pe_revtup he
/-- t <= u, pairs of whole numbers -/
theorem kLeP {K : PySem.W.Frag} {H : Hp} {Q : VK} {a b : Addr} {x1 x2 y1 y2 : Int} (h1 : SqT K H a [.int x1, .int x2]) (h2 : SqT K H b [.int y1, .int y2]) (q : Q (.bl (if x1 = y1 then decide (x2 ≤ y2) else decide (x1 ≤ y1))) H) : rLeT K (.ref a) (.ref b) H Q := by
  refine ⟨a, b, [x1, x2], [y1, y2], rfl, rfl, h1, h2, ?_⟩
  have e : Ob.lexAt (fun j => decide (([x1, x2] : List Int).getD j 0 = [y1, y2].getD j 0)) (fun j => decide (([x1, x2] : List Int).getD j 0 ≤ [y1, y2].getD j 0)) (decide (([x1, x2] : List Int).length ≤ [y1, y2].length)) 0 (min ([x1, x2] : List Int).length ([y1, y2] : List Int).length) = (if x1 = y1 then decide (x2 ≤ y2) else decide (x1 ≤ y1)) := by
    show (if decide (x1 = y1) = true then (if decide (x2 = y2) = true then decide (2 ≤ 2) else decide (x2 ≤ y2)) else decide (x1 ≤ y1)) = _
    by_cases h : x1 = y1
    · rw [decide_eq_true h, if_pos rfl, if_pos h]
      by_cases h' : x2 = y2
      · rw [decide_eq_true h', if_pos rfl, decide_eq_true (show x2 ≤ y2 by omega)]
        rfl
      · rw [decide_eq_false h', if_neg (by decide)]
    · rw [decide_eq_false h, if_neg (by decide), if_neg h]
  rw [e]
  exact q
theorem kRevT {d : Addr} {n : Nat} {L : Led} {H : Hp} {Q : VK} {K : PySem.W.Frag} {a : Addr} {xs : List V} (kn : Kn d n L H) (ha : (a, .tup xs) ∈ L) (q : ∀ r H', Kn d n ((r, .tup xs.reverse) :: L) H' → Q (.ref r) H') : rRevT K (.ref a) H Q :=
  ⟨a, xs, rfl, kn.seqT ha, fun p hp => q p _ (kn.new hp)⟩
end Rg

set_option Elab.async false
set_option linter.all false
set_option maxRecDepth 100000
set_option maxHeartbeats 4000000
namespace Rg
open PySem PySem.Spec PyProof.Rows L2
def topS (i : Nat) : Stmt := PySem.Challenge.pw_ringhue_k63_pairs_looked_at.main.body.getD i (.Pass ⟨0, 0, 0, 0⟩)
local macro_rules | `(tactic| walk_at "mem") => `(tactic| first | assumption | exact List.mem_cons_self | (refine List.mem_cons_of_mem _ ?_; walk_at "mem"))
local macro_rules | `(tactic| walk_at "lg") => `(tactic| first
  | exact at_of 0 (by assumption) rfl | exact at_of 1 (by assumption) rfl | exact at_of 2 (by assumption) rfl | exact at_of 3 (by assumption) rfl | exact at_of 4 (by assumption) rfl | exact at_of 5 (by assumption) rfl
  | exact sqL_of 0 (by assumption) rfl | exact sqL_of 1 (by assumption) rfl | exact sqL_of 2 (by assumption) rfl | exact sqL_of 3 (by assumption) rfl | exact sqL_of 4 (by assumption) rfl | exact sqL_of 5 (by assumption) rfl
  | exact sqT_of 0 (by assumption) rfl | exact sqT_of 1 (by assumption) rfl | exact sqT_of 2 (by assumption) rfl | exact sqT_of 3 (by assumption) rfl | exact sqT_of 4 (by assumption) rfl | exact sqT_of 5 (by assumption) rfl
  | exact Kn.mem (by assumption) (by walk_at "mem") | exact Kn.seqL (by assumption) (by walk_at "mem") | exact Kn.seqT (by assumption) (by walk_at "mem")
  | exact lat_of 0 (by assumption) rfl | exact lat_of 1 (by assumption) rfl | exact lat_of 2 (by assumption) rfl | exact lat_of 3 (by assumption) rfl
  | exact lsqL_of 0 (by assumption) rfl | exact lsqL_of 1 (by assumption) rfl | exact lsqL_of 2 (by assumption) rfl | exact lsqL_of 3 (by assumption) rfl
  | exact lsqT_of 0 (by assumption) rfl | exact lsqT_of 1 (by assumption) rfl | exact lsqT_of 2 (by assumption) rfl | exact lsqT_of 3 (by assumption) rfl)
local macro_rules | `(tactic| walk_at "at") => `(tactic| first | exact at0 | exact at1 | exact at2 | exact at3)
local macro_rules | `(tactic| walk_at "len") => `(tactic| first
  | decide
  | (simp only [List.length_map, List.length_cons, List.length_nil, List.length_append]; omega))
local macro_rules | `(tactic| walk_at "slen") => `(tactic| first | assumption | omega | decide)
local macro_rules | `(tactic| walk_at "side") => `(tactic| first
  | assumption
  | (show (0 : Int) < _; omega)
  | (show CMul _ _; first | exact Or.inl (by constructor <;> omega) | exact Or.inr (by constructor <;> omega))
  | (show CPow _ _; exact ⟨by omega, by omega, by omega⟩)
  | (show CDivW _ _; exact ⟨by omega, by first | decide | assumption⟩))
local macro_rules | `(tactic| walk_at "s1") => `(tactic| first
  | ((with_reducible refine' kVar ?ka ?kb); (case ka => exact rfl))
  | (with_reducible refine kSeqA ?_)
  | (with_reducible refine kSeqD ?_)
  | (with_reducible refine kAsg ?_)
  | (with_reducible refine kAsgT ?_)
  | (with_reducible refine kC ?_)
  | (with_reducible refine kOp ?_)
  | (with_reducible refine kI0 ?_)
  | (with_reducible refine kCons ?_)
  | (with_reducible refine kNil ?_)
  | (with_reducible refine kCB ?_)
  | (with_reducible refine kCall ?_)
  | (with_reducible refine kIfS ?_)
  | (with_reducible refine kCallS ?_)
  | (with_reducible refine kTruth ?_)
  | (with_reducible refine kTest ?_)
  | (with_reducible refine kTB ?_)
  | ((with_reducible refine' kEq ?ka ?kb); (case ka => exact rfl))
  | ((with_reducible refine' kNe ?ka ?kb); (case ka => exact rfl))
  | (with_reducible refine kBl ?_)
  | (with_reducible refine kRet ?_)
  | (with_reducible refine kNext ?_)
  | (with_reducible refine kDrop ?_)
  | (with_reducible refine kAsgSub ?_)
  | (with_reducible refine kAnd ?_)
  | (with_reducible refine kOr ?_)
  | (with_reducible refine kNot ?_)
  | (with_reducible refine kAndV ?_)
  | (with_reducible refine kOrV ?_)
  | (with_reducible refine kNotV ?_)
  | (with_reducible refine kIf ?_)
  | (with_reducible refine kChain ?_)
  | (with_reducible refine kUn ?_)
  | (with_reducible refine kU ?_)
  | (with_reducible refine kTup ?_)
  | (with_reducible refine kLst ?_)
  | (with_reducible refine kBM ?_)
  | (with_reducible refine kBM0 ?_)
  | (with_reducible refine kSl ?_)
  | (with_reducible refine kNoPart ?_)
  | (with_reducible refine kPart ?_)
  | (with_reducible refine kInt ?_)
  | (with_reducible refine kMax ?_)
  | (with_reducible refine kMin ?_)
  | (with_reducible refine isiII ?_)
  | (with_reducible refine isiIB ?_)
  | (with_reducible refine isiBI ?_)
  | (with_reducible refine isiBB ?_)
  | ((with_reducible refine' isiLL ?ka ?kb); (case ka => walk_at "lg"))
  | ((with_reducible refine' isiTT ?ka ?kb); (case ka => walk_at "lg"))
  | (with_reducible refine kIntI ?_)
  | (with_reducible refine kIntB ?_)
  | ((with_reducible refine' kIxL ?ka ?kb ?kc); (case ka => walk_at "lg"); (case kb => walk_at "at"))
  | ((with_reducible refine' kLenL ?ka ?kb); (case ka => walk_at "lg"))
  | ((with_reducible refine' kLenT ?ka ?kb); (case ka => walk_at "lg"))
  | ((with_reducible refine' kI ?ka ?kb); (case ka => walk_at "side"))
  | ((with_reducible refine' kM0v ?ka ?kb); (case ka => exact rfl))
  | ((with_reducible refine' kM1v ?ka ?kb); (case ka => exact rfl))
  | (with_reducible refine kM1c ?_)
  | (with_reducible refine kR1 ?_)
  | (with_reducible refine kIsB ?_)
  | (with_reducible refine kNotB ?_)
  | ((with_reducible refine' kSplitK ?ka ?kb ?kc ?kd); (case ka => exact rfl); (case kb => walk_at "slen"); (case kc => assumption); intro _ _ _)
  | ((with_reducible refine' kLenS ?ka ?kb); (case ka => walk_at "slen"))
  | ((with_reducible refine' kAddS ?ka ?kb); (case ka => walk_at "slen"))
  | ((with_reducible refine' kSlS ?ka ?kb); (case ka => walk_at "slen"))
  | ((with_reducible refine' kNewL ?ka ?kb ?kc); (case kb => assumption); (case ka => walk_at "len"); intro _ _ _)
  | ((with_reducible refine' kNewT ?ka ?kb ?kc); (case kb => assumption); (case ka => walk_at "len"); intro _ _ _)
  | ((with_reducible refine' kTyL ?ka ?kb); (case ka => walk_at "lg"))
  | ((with_reducible refine' kAppK ?ka 0 ?kb ?kc ?kd); (case ka => assumption); (case kb => exact rfl); (case kc => walk_at "len"); intro _ _)
  | ((with_reducible refine' kAppK ?ka 1 ?kb ?kc ?kd); (case ka => assumption); (case kb => exact rfl); (case kc => walk_at "len"); intro _ _)
  | ((with_reducible refine' kAppK ?ka 2 ?kb ?kc ?kd); (case ka => assumption); (case kb => exact rfl); (case kc => walk_at "len"); intro _ _)
  | ((with_reducible refine' kSlLK ?ka ?kb ?kc); (case ka => walk_at "lg"); (case kb => assumption); intro _ _ _)
  | ((with_reducible refine' kListK ?ka ?kb ?kc); (case ka => walk_at "lg"); (case kb => assumption); intro _ _ _)
  | ((with_reducible refine' kTupleK ?ka ?kb ?kc); (case ka => walk_at "lg"); (case kb => assumption); intro _ _ _)
  | ((with_reducible refine' kD1 ?ka ?kb); (case ka => assumption); intro _ _)
  | ((with_reducible refine' kD2 ?ka ?kb); (case ka => assumption); intro _ _)
  | ((with_reducible refine' kD3 ?ka ?kb); (case ka => assumption); intro _ _))
local macro_rules | `(tactic| walk_at "go") => `(tactic| repeat walk_at "s1")

/-! ### a throw -/
abbrev s_law_roll : Stmt := topS 32
theorem sc_law_roll : FnScope ["dice", "size", "at", "cell", "seed", "rest"] ["dice", "size"] (defScope s_law_roll) := ⟨rfl, rfl, rfl, by decide +kernel, rfl, by decide +kernel, by decide +kernel⟩
def spRoll : Sp := fun vs H Q _ => ∃ (d : Addr) (n : Nat) (L : Led) (size : Int), vs = [.ref d, .int size] ∧ 0 < size ∧ size.natAbs.log2 < 9000 ∧ n ≤ 2 ^ 60 ∧ Kn d n L H ∧
  ∀ (r : Int) (H' : Hp), 0 ≤ r → r < size → Kn d (n + 1) L H' → Q (.int r) H'
section
variable {P : Program} {w : World} {K : PySem.W.Frag} {mg : Str → Option Value} {base : Heap}
theorem ok_law_roll {f : Addr} {fd : FuncData} {k : Nat} (D : Df K mg "_law_roll" s_law_roll ["dice", "size"] f fd) (M : Bl mg) : FnOk P w K mg base CX0 (k + 1) f fd ["dice", "size"] spRoll := by
  refine D.F.ok sc_law_roll (fun vs H Q E h => ?_) (fun cdv A outer s H vs Q E hr h => ?_)
  · obtain ⟨d, n, L, size, rfl, _⟩ := h
    rfl
  obtain ⟨d, n, L, size, rfl, h0, h9, hn, kn, q⟩ := h
  refine ⟨_, (pss_cons (ps_if (pt_cmpR op_eq (pe_ix ix_list (pv 0) pe_int (fun _ _ => rfl)) pe_int (nomark _)) (pss_cons (ps_set (i := 2) sc_law_roll.nd rfl (Or.inl rfl) (pe_ix ix_list (pv 0) pe_int (fun _ _ => rfl)))
    (pss_cons (ps_asg (pe_op op_add (pv 2) pe_int) (pg_sub (pv 0) pe_int set_list))
    (pss_cons (ps_set (i := 3) sc_law_roll.nd rfl (Or.inl rfl) pe_int)
    (pss_cons (ps_if (pt_cmpR (op_neD hr.units) (pe_ix ix_list (pv 0) pe_int (fun _ _ => rfl)) (pe_lst pa_nil) (nomark _)) (pss_one (ps_set (i := 3) sc_law_roll.nd rfl (Or.inl rfl) (pe_ix ix_seq (pe_ix ix_list (pv 0) pe_int (fun _ _ => rfl)) (pe_op op_mod (pv 2) (pe_callB c_len (by rfl) M.len PySem.boot_len (pa_cons (pe_ix ix_list (pv 0) pe_int (fun _ _ => rfl)) pa_nil))) (fun _ _ => rfl)))) pss_nil)
    (pss_cons (ps_if (PW.pt (pw_or (pt_cmpR op_ge (pv 2) (pe_callB c_len (by rfl) M.len PySem.boot_len (pa_cons (pe_ix ix_list (pv 0) pe_int (fun _ _ => rfl)) pa_nil)) (nomark _)) (pw_or1 (pt_cmpR op_lt (pv 3) (pe_op op_pow pe_int pe_int) (nomark _))))) (pss_cons (ps_set (i := 4) sc_law_roll.nd rfl (Or.inl rfl) (pe_op op_mod (pe_op op_mul (pe_op op_add (pe_op op_mod (pv 3) pe_int) pe_int) (pe_op op_add (pe_op op_add (pe_op op_mul (pv 2) (pv 2)) (pe_op op_mul pe_int (pv 2))) pe_int)) pe_int))
     (pss_cons (ps_set (i := 4) sc_law_roll.nd rfl (Or.inl rfl) (pe_op op_mod (pe_op op_pow (pv 4) pe_int) pe_int))
     (pss_one (ps_ret (pe_op op_mod (pe_op op_fdivW (pe_op op_mod (pe_op op_add (pv 4) (pe_op op_mul pe_int (pv 2))) pe_int) pe_int) (pv 1)))))) pss_nil)
    (pss_cons (ps_asg pe_int (pg_sub (pv 0) pe_int set_list))
    (pss_one (ps_asg (pe_op op_sub (pv 3) (pe_op op_pow pe_int pe_int)) (pg_sub (pv 0) pe_int set_list))))))))) pss_nil)
   (pss_cons (ps_asg (pe_op op_sub (pe_ix ix_list (pv 0) pe_int (fun _ _ => rfl)) pe_int) (pg_sub (pv 0) pe_int set_list))
   (pss_cons (ps_set (i := 5) sc_law_roll.nd rfl (Or.inl rfl) (pe_ix ix_list (pv 0) pe_int (fun _ _ => rfl)))
   (pss_cons (ps_asg (pe_op op_fdivW (pv 5) (pv 1)) (pg_sub (pv 0) pe_int set_list))
   (pss_one (ps_ret (pe_op op_mod (pv 5) (pv 1)))))))), ?_⟩
  obtain ⟨sa, a, c, r, ns, lg, a0, an⟩ := kn
  have hmod : ∀ z : Int, 0 ≤ z % size ∧ z % size < size := fun z => ⟨Int.emod_nonneg z (by omega), Int.emod_lt_of_pos z h0⟩
  refine kJoin (fun σ' H' => ∃ (a' c' r' : Int) (x y z : Option V), σ' = [some (.ref d), some (.int size), x, y, z, none] ∧ Lg ((d, .lst [.ref sa, .int a', .int c', .int r']) :: (sa, .lst (ns.map V.int)) :: L) H' ∧ 0 ≤ a' ∧ a' ≤ n + 1) (fun σ' H' hW => ?_) fun N join => ?_
  · obtain ⟨a', c', r', x, y, z, rfl, lg', b0, bn⟩ := hW
    walk_at "go"
    exact q _ _ (hmod _).1 (hmod _).2 ⟨sa, a', _, _, ns, by assumption, b0, by omega⟩
  walk_at "go"
  refine iteI (fun hc => ?_) (fun hc => ?_)
  · walk_at "go"
    rename_i H1 lg1
    refine kJoin (fun σ' H' => ∃ (z : Int), σ' = [some (.ref d), some (.int size), some (.int a), some (.int z), none, none] ∧ Lg ((d, .lst [.ref sa, .int (a + 1), .int c, .int r]) :: (sa, .lst (ns.map V.int)) :: L) H') (fun σ' H' hW => ?_) fun N' join' => ?_
    · obtain ⟨z, rfl, lg'⟩ := hW
      refine kJoin (fun σ'' H'' => σ'' = [some (.ref d), some (.int size), some (.int a), some (.int z), none, none] ∧ H'' = H') (fun σ'' H'' hW => ?_) fun N'' join'' => ?_
      · obtain ⟨rfl, rfl⟩ := hW
        walk_at "go"
        refine join _ _ ⟨a + 1, _, _, _, _, _, rfl, by assumption, by omega, by omega⟩
      refine kIfS ?_
      walk_at "go"
      refine iteD (fun _ => iteT ?_) (fun _ => ?_)
      · walk_at "go"
        exact q _ _ (hmod _).1 (hmod _).2 ⟨sa, a + 1, c, r, ns, lg', by omega, by omega⟩
      · walk_at "go"
        refine iteD (fun _ => ?_) (fun _ => ?_)
        · walk_at "go"
          exact q _ _ (hmod _).1 (hmod _).2 ⟨sa, a + 1, c, r, ns, lg', by omega, by omega⟩
        · walk_at "go"
          exact join'' _ _ ⟨rfl, rfl⟩
    · refine kIfS ?_
      walk_at "go"
      refine ⟨Nat.zero_le _, fun p hp => ?_⟩
      have lg2 := (lg1.new (o := .lst []) hp).sub (List.sublist_cons_self _ _)
      refine kNeL (xs := ns) (ys := []) (by walk_at "lg") (.inl (.inl upd_same)) ?_
      refine kBl (iteN (fun hne => ?_) (fun he => ?_))
      · obtain ⟨z, hz⟩ := atMod hne a
        have hpos := lenPos hne
        walk_at "go"
        refine kIxSeqL (by walk_at "lg") hz ?_
        walk_at "go"
        exact join' _ _ ⟨z, rfl, lg2⟩
      · walk_at "go"
        exact join' _ _ ⟨0, rfl, lg2⟩
  · walk_at "go"
    exact join _ _ ⟨a, c, r, none, none, none, rfl, lg, a0, by omega⟩
end
theorem kRoll {d : Addr} {n : Nat} {L : Led} {H : Hp} {size : Int} {Q : VK} {E : XK} (k : Kn d n L H) (h0 : 0 < size) (h1 : size < 2 ^ 62) (hn : n ≤ 2 ^ 60) (q : ∀ (r : Int) (H' : Hp), 0 ≤ r → r < size → Kn d (n + 1) L H' → Q (.int r) H') : spRoll [.ref d, .int size] H Q E :=
  ⟨d, n, L, size, rfl, h0, log_small h0 h1, hn, k, q⟩

/-! ### a drawn pointing -/
abbrev s_law_pointing : Stmt := topS 33
theorem sc_law_pointing : FnScope ["dice", "most", "way", "n", "found", "k", "free", "forms", "one"] ["dice", "most"] (defScope s_law_pointing) := ⟨rfl, rfl, rfl, by decide +kernel, rfl, by decide +kernel, by decide +kernel⟩
/-- a pointing of at most m houses -/
structure PtOk (m : Int) (xs : List Int) : Prop where
  two : 2 ≤ xs.length
  most : (xs.length : Int) ≤ m
  goal : ∀ (k : Nat) (x : Int), xs[k]? = some x → 0 ≤ x ∧ x < xs.length ∧ x ≠ k
def spPt : Sp := fun vs H Q _ => ∃ (d : Addr) (n : Nat) (L : Led) (m : Int), vs = [.ref d, .int m] ∧ 2 ≤ m ∧ m ≤ 1000 ∧ n ≤ 2 ^ 59 ∧ Kn d n L H ∧
  ∀ (p : Addr) (xs : List Int) (H' : Hp), PtOk m xs → Kn d (n + 3000) ((p, .tup (xs.map V.int)) :: L) H' → Q (.ref p) H'
theorem nextOk {n k : Int} (h2 : 2 ≤ n) (k0 : 0 ≤ k) (kn : k < n) : 0 ≤ (k + 1) % n ∧ (k + 1) % n < n ∧ (k + 1) % n ≠ k := by
  refine ⟨Int.emod_nonneg _ (by omega), Int.emod_lt_of_pos _ (by omega), fun e => ?_⟩
  by_cases h : k + 1 < n
  · rw [Int.emod_eq_of_lt (by omega) h] at e
    omega
  · have h3 : k + 1 = n := by omega
    rw [h3, Int.emod_self] at e
    omega
section
variable {P : Program} {w : World} {K : PySem.W.Frag} {mg : Str → Option Value} {base : Heap}
theorem ok_law_pointing {f a_law_roll : Addr} {fd fd_law_roll : FuncData} {k : Nat} (D : Df K mg "_law_pointing" s_law_pointing ["dice", "most"] f fd)
    (D_law_roll : Df K mg "_law_roll" s_law_roll ["dice", "size"] a_law_roll fd_law_roll) (M : Bl mg) : FnOk P w K mg base CX0 (k + 1 + 1) f fd ["dice", "most"] spPt := by
  have G_law_roll := ok_law_roll (P := P) (w := w) (base := base) (k := 0) D_law_roll M
  refine D.F.ok sc_law_pointing (fun vs H Q E h => ?_) (fun cdv A outer s H vs Q E hr h => ?_)
  · obtain ⟨d, n, L, size, rfl, _⟩ := h
    rfl
  obtain ⟨d, n0, L, m, rfl, m2, m1000, hn, kn, q⟩ := h
  refine ⟨_, (pss_cons (ps_set (i := 2) sc_law_pointing.nd rfl (Or.inl rfl) (pe_call G_law_roll (hr.mono (by omega)) (by rfl) D_law_roll.g D_law_roll.F.kp D_law_roll.b .nil pass0 (pa_cons (pv 0) (pa_cons pe_int pa_nil))))
   (pss_cons (ps_set (i := 3) sc_law_pointing.nd rfl (Or.inl rfl) (pe_op op_add pe_int (pe_call G_law_roll (hr.mono (by omega)) (by rfl) D_law_roll.g D_law_roll.F.kp D_law_roll.b .nil pass0 (pa_cons (pv 0) (pa_cons (pe_op op_sub (pv 1) pe_int) pa_nil)))))
   (pss_cons (ps_set (i := 4) sc_law_pointing.nd rfl (Or.inl rfl) (pe_lst pa_nil))
   (pss_cons (ps_for PassesOwn.never rfl (pi_range1 (by rfl) M.range (pa_cons (pv 3) pa_nil)) (pg_name (i := 5) sc_law_pointing.nd rfl (Or.inl rfl))
    (pss_cons (ps_set (i := 6) sc_law_pointing.nd rfl (Or.inl rfl) (pe_op op_mod (pe_op op_add (pe_op op_add (pv 5) pe_int) (pe_call G_law_roll (hr.mono (by omega)) (by rfl) D_law_roll.g D_law_roll.F.kp D_law_roll.b .nil pass0 (pa_cons (pv 0) (pa_cons (pe_op op_sub (pv 3) pe_int) pa_nil)))) (pv 3)))
    (pss_cons (ps_set (i := 7) sc_law_pointing.nd rfl (Or.inl rfl) (pe_lst (pa_cons (pv 6) (pa_cons (pv 6) (pa_cons (pe_op op_mod (pe_op op_add (pv 5) pe_int) (pv 3)) (pa_cons (pe_callB (c_max rfl) (by rfl) M.max (by decide +kernel) (pa_cons (pe_op op_sub (pv 5) pe_int) (pa_cons (pe_callTy c_int (by rfl) M.int (by decide +kernel) (pa_cons (pe_cmpR op_eq (pv 5) pe_int (nomark _)) pa_nil)) pa_nil))) (pa_cons (pe_callTy c_int (by rfl) M.int (by decide +kernel) (pa_cons (pe_cmpR op_eq (pv 5) pe_int (nomark _)) pa_nil)) (pa_cons (pe_callB (c_min rfl) (by rfl) M.min (by decide +kernel) (pa_cons (pe_op op_xor (pv 5) pe_int) (pa_cons (pe_op op_sub (pv 3) pe_int) pa_nil))) (pa_cons (pv 6) pa_nil)))))))))
    (pss_cons (ps_set (i := 8) sc_law_pointing.nd rfl (Or.inl rfl) (pe_ix ix_list (pv 7) (pv 2) (fun _ _ => rfl)))
    (pss_cons (ps_if (PW.pt (pw_or (pt_cmpR op_eq (pv 8) (pv 5) (nomark _)) (pw_or1 (PW.pt (pw_and (pt_cmpR op_eq (pv 2) pe_int (nomark _)) (pw_and1 (pt_cmpR op_eq (pe_call G_law_roll (hr.mono (by omega)) (by rfl) D_law_roll.g D_law_roll.F.kp D_law_roll.b .nil pass0 (pa_cons (pv 0) (pa_cons pe_int pa_nil))) pe_int (nomark _)))))))) (pss_one (ps_set (i := 8) sc_law_pointing.nd rfl (Or.inl rfl) (pe_op op_mod (pe_op op_add (pv 5) pe_int) (pv 3)))) pss_nil)
    (pss_one (ps_expr (pe_bm PySem.F.plainAttrs_list PySem.F.slot_list_append PySem.F.type_list_append mt_append (pv 4) (pa_cons (pv 8) pa_nil)))))))))
   (pss_one (ps_ret (pe_callTy c_tuple (by rfl) M.tuple (by decide +kernel) (pa_cons (pv 4) pa_nil)))))))), ?_⟩
  walk_at "go"
  refine kRoll kn (by omega) (by omega) (by omega) fun way H1 w0 w1 kn1 => ?_
  walk_at "go"
  refine kRoll kn1 (by omega) (by omega) (by omega) fun n' H2 n0' n1' kn2 => ?_
  walk_at "go"
  rename_i pf H3 kn3
  refine kSeq (kRng1 (n := 2 + n') (by omega) (fun i σ' H' => ∃ (xs : List Int) (x5 x6 x7 x8 : Option V), σ' = [some (.ref d), some (.int m), some (.int way), some (.int (2 + n')), some (.ref pf), x5, x6, x7, x8] ∧ xs.length = i ∧
      (∀ (j : Nat) (x : Int), xs[j]? = some x → 0 ≤ x ∧ x < 2 + n' ∧ x ≠ j) ∧ Kn d (n0 + 2 + 2 * i) ((pf, .lst (xs.map V.int)) :: L) H')
    ⟨[], none, none, none, none, rfl, rfl, fun j x h => by simp at h, kn3⟩ (fun i σ' H' hi hW => ?_) (fun σ' H' hW => ?_) fun R hR => by walk_at "go"; exact hR)
  · obtain ⟨xs, x5, x6, x7, x8, rfl, hl, hx, kn4⟩ := hW
    refine kSeqA ?_
    walk_at "go"
    refine kRoll kn4 (by omega) (by omega) (by omega) fun r H5 r0 r1 kn5 => ?_
    walk_at "go"
    rename_i pl H6 kn6
    have hfr : 0 ≤ ((i : Int) + 1 + r) % (2 + n') ∧ ((i : Int) + 1 + r) % (2 + n') < 2 + n' := ⟨Int.emod_nonneg _ (by omega), Int.emod_lt_of_pos _ (by omega)⟩
    have hnx := nextOk (n := 2 + n') (k := i) (by omega) (by omega) hi
    have hbx := Bits.bitXor_nonneg (x := i) (y := 1) (by omega) (by omega)
    obtain ⟨e, he, hm⟩ := atMem (es := [((i : Int) + 1 + r) % (2 + n'), ((i : Int) + 1 + r) % (2 + n'), ((i : Int) + 1) % (2 + n'),
      (if (if decide (V.int (i : Int) = V.int 0) = true then 1 else 0) > (i : Int) - 1 then if decide (V.int (i : Int) = V.int 0) = true then 1 else 0 else (i : Int) - 1),
      (if decide (V.int (i : Int) = V.int 0) = true then 1 else 0), (if 2 + n' - 1 < Builtin.bitXor (i : Int) 1 then 2 + n' - 1 else Builtin.bitXor (i : Int) 1), ((i : Int) + 1 + r) % (2 + n')]) w0 (by simpa using w1)
    have hb : 0 ≤ e ∧ e < 2 + n' := by
      simp only [List.mem_cons, List.not_mem_nil, or_false] at hm
      rcases hm with rfl | rfl | rfl | rfl | rfl | rfl | rfl
      · exact hfr
      · exact hfr
      · exact ⟨hnx.1, hnx.2.1⟩
      · by_cases z : V.int (i : Int) = V.int 0
        · have z' := V.int.inj z
          simp only [z, decide_true, if_true]
          split <;> omega
        · simp only [z, decide_false, if_false, Bool.false_eq_true]
          split <;> omega
      · split <;> omega
      · split <;> omega
      · exact hfr
    refine kIxL (by walk_at "lg") he ?_
    refine kJoin (fun σ' H' => ∃ (x6 x7 : Option V) (y : Int), σ' = [some (.ref d), some (.int m), some (.int way), some (.int (2 + n')), some (.ref pf), some (.int i), x6, x7, some (.int y)] ∧
      (0 ≤ y ∧ y < 2 + n' ∧ y ≠ i) ∧ Kn d (n0 + 2 + 2 * i + 2) ((pf, .lst (xs.map V.int)) :: L) H') (fun σ' H' hW => ?_) fun N join => ?_
    · obtain ⟨y6, y7, y, rfl, hy, kn7⟩ := hW
      walk_at "go"
      rename_i H8 kn8
      refine ⟨xs ++ [y], _, _, _, _, rfl, by simp [hl], fun j x h => ?_, ?_⟩
      · by_cases hj : j < xs.length
        · rw [List.getElem?_append_left hj] at h
          exact hx j x h
        · rw [List.getElem?_append_right (by omega)] at h
          have hj0 : j - xs.length = 0 := by
            cases hz : j - xs.length with
            | zero => rfl
            | succ z => rw [hz] at h; simp at h
          rw [hj0] at h
          have hyx : y = x := by simpa using h
          have hj1 : j = i := by omega
          subst hj1
          subst hyx
          exact hy
      · rw [List.map_append]
        exact kn8.more (by omega)
    · refine kIfS ?_
      walk_at "go"
      refine iteI (fun h1 => iteT ?_) (fun h1 => ?_)
      · walk_at "go"
        exact join _ _ ⟨_, _, _, rfl, hnx, kn6.tail.more (by omega)⟩
      · walk_at "go"
        refine iteI (fun h2 => ?_) (fun h2 => ?_)
        · walk_at "go"
          refine kRoll kn6.tail (by omega) (by omega) (by omega) fun r2 H8 r20 r21 kn8 => ?_
          walk_at "go"
          refine iteI (fun h3 => ?_) (fun h3 => ?_)
          · walk_at "go"
            exact join _ _ ⟨_, _, _, rfl, hnx, kn8.more (by omega)⟩
          · walk_at "go"
            exact join _ _ ⟨_, _, _, rfl, ⟨hb.1, hb.2, h1⟩, kn8.more (by omega)⟩
        · refine iteF ?_
          walk_at "go"
          exact join _ _ ⟨_, _, _, rfl, ⟨hb.1, hb.2, h1⟩, kn6.tail.more (by omega)⟩
  · obtain ⟨xs, x5, x6, x7, x8, rfl, hl, hx, kn4⟩ := hW
    walk_at "go"
    rename_i p H5 kn5
    refine q p xs H5 ⟨by omega, by omega, fun j x h => ?_⟩ ?_
    · have := hx j x h
      omega
    · exact (kn5.sub ((List.sublist_cons_self _ _).cons₂ _)).more (by omega)
end

/-! ### labels of which none is its next's -/
/-- labels of which none is its next's -/
structure LbOk (xs ls : List Int) (top : Int) : Prop where
  len : ls.length = xs.length
  low : ∀ x ∈ ls, 0 ≤ x ∧ (x < top ∨ x < xs.length)
  own : ∀ (i : Nat) (x a b : Int), xs[i]? = some x → ls[i]? = some a → ls[x.toNat]? = some b → a ≠ b
theorem kNiL {H : Hp} {Q : VK} {K : PySem.W.Frag} {p : Addr} {x : Int} {ns : List Int} (h : SqL K H p (ns.map V.int)) (g : Q (.bl (!decide (x ∈ ns))) H) : rIn K true (.int x) (.ref p) H Q := by
  refine ⟨p, _, rfl, .inl h, rfl, flatInts ns, ?_⟩
  rw [if_pos rfl, inInts]
  exact g
/-- the labels of those that point to i, of the first c -/
def tiedTo (xs fs : List Int) (i c : Nat) : List Int := ((List.range c).filter (fun j => decide (xs.getD j 0 = (i : Int)))).map (fun j => fs.getD j 0)
theorem tied_more (xs fs : List Int) (i c : Nat) : tiedTo xs fs i (c + 1) = tiedTo xs fs i c ++ (if decide (xs.getD c 0 = (i : Int)) = true then [fs.getD c 0] else []) := by
  unfold tiedTo
  rw [List.range_succ, List.filter_append, List.map_append]
  by_cases h : decide (xs.getD c 0 = (i : Int)) = true
  · rw [if_pos h]
    simp only [List.filter_cons, h, if_true, List.filter_nil, List.map_cons, List.map_nil]
  · rw [if_neg h]
    simp only [List.filter_cons, h, if_false, List.filter_nil, List.map_nil, Bool.false_eq_true]
theorem tied_mem {xs fs : List Int} {i k : Nat} {a : Int} (hk : k < fs.length) (hl : fs.length = xs.length) (hx : xs[k]? = some (i : Int)) (ha : fs[k]? = some a) : a ∈ tiedTo xs fs i xs.length := by
  unfold tiedTo
  refine List.mem_map.mpr ⟨k, List.mem_filter.mpr ⟨List.mem_range.mpr (by omega), ?_⟩, ?_⟩
  · rw [List.getD_eq_getElem?_getD, hx]
    simp
  · rw [List.getD_eq_getElem?_getD, ha]
    rfl
theorem LbOk.set {xs fs : List Int} {top l : Int} {i : Nat} {m : Int} (h : LbOk xs fs top) (hp : PtOk m xs) (hi : i < xs.length) (l0 : 0 ≤ l) (l1 : l < top) (hn : ∀ x b, xs[i]? = some x → fs[x.toNat]? = some b → l ≠ b) (ht : l ∉ tiedTo xs fs i xs.length) : LbOk xs (fs.set i l) top := by
  refine ⟨by rw [List.length_set, h.len], fun x hx => ?_, fun k x a b hk ha hb => ?_⟩
  · rcases List.mem_or_eq_of_mem_set hx with hx | rfl
    · exact h.low x hx
    · exact ⟨l0, .inl l1⟩
  · have hg := hp.goal k x hk
    have hl := h.len
    rw [List.getElem?_set] at ha hb
    by_cases hki : i = k
    · subst hki
      rw [if_pos rfl, if_pos (by omega)] at ha
      rw [if_neg (by omega)] at hb
      rw [← Option.some.inj ha]
      exact hn x b hk hb
    · rw [if_neg hki] at ha
      by_cases hxi : i = x.toNat
      · rw [if_pos hxi, if_pos (by omega)] at hb
        rw [← Option.some.inj hb]
        have hx' : x = (i : Int) := by omega
        intro e
        subst e
        rw [hx'] at hk
        exact ht (tied_mem (List.getElem?_eq_some_iff.mp ha).1 hl hk ha)
      · rw [if_neg hxi] at hb
        exact h.own k x a b hk ha hb
theorem LbOk.first {xs : List Int} {top m : Int} (hp : PtOk m xs) : LbOk xs ((List.range xs.length).map (fun (i : Nat) => (i : Int))) top := by
  refine ⟨by simp, fun x hx => ?_, fun k x a b hk ha hb => ?_⟩
  · obtain ⟨j, hj, rfl⟩ := List.mem_map.mp hx
    have := List.mem_range.mp hj
    exact ⟨by omega, .inr (by omega)⟩
  · have hg := hp.goal k x hk
    rw [List.getElem?_map, List.getElem?_range (by have := (List.getElem?_eq_some_iff.mp hk).1; omega)] at ha
    rw [List.getElem?_map, List.getElem?_range (by omega)] at hb
    have ha' : (k : Int) = a := Option.some.inj ha
    have hb' : ((x.toNat : Nat) : Int) = b := Option.some.inj hb
    omega

/-! ### is_proper, asked by the laws -/
/-- the i-th house has not its next's label -/
def apartAt (xs ls : List Int) (i : Nat) : Bool := !decide (ls.getD i 0 = ls.getD (xs.getD i 0).toNat 0)
def properB (xs ls : List Int) : Bool := (List.range xs.length).all (apartAt xs ls)
def spIsProper : Sp := fun vs H Q _ => ∃ (d : Addr) (n : Nat) (L : Led) (p q : Addr) (xs ls : List Int), vs = [.ref p, .ref q] ∧ PtOk 60 xs ∧ ls.length = xs.length ∧ (p, .tup (xs.map V.int)) ∈ L ∧ (q, .tup (ls.map V.int)) ∈ L ∧ Kn d n L H ∧ ∀ H', Kn d n L H' → Q (.bl (properB xs ls)) H'
theorem getD_of {l : List Int} {i : Nat} {x : Int} (h : l[i]? = some x) : l.getD i 0 = x := by
  rw [List.getD_eq_getElem?_getD, h]
  rfl
theorem atInt {l : List Int} {i : Nat} {x : Int} (h : l[i]? = some x) : atI (l.map V.int) (i : Int) = some (.int x) := atI_nat (by rw [List.getElem?_map, h]; rfl)
theorem LbOk.proper {xs ls : List Int} {top m : Int} (h : LbOk xs ls top) (hp : PtOk m xs) : properB xs ls = true := by
  unfold properB
  rw [List.all_eq_true]
  intro i hi
  have hi' := List.mem_range.mp hi
  have hx : xs[i]? = some xs[i] := List.getElem?_eq_getElem hi'
  have hg := hp.goal i _ hx
  have hl := h.len
  have ha : ls[i]? = some ls[i] := List.getElem?_eq_getElem (by omega)
  have hb : ls[(xs[i]).toNat]? = some ls[(xs[i]).toNat] := List.getElem?_eq_getElem (by omega)
  unfold apartAt
  rw [getD_of ha, getD_of hx, getD_of hb]
  have := h.own i _ _ _ hx ha hb
  simp [this]

/-! ### clashing and is_proper of the program -/
abbrev s_clashing : Stmt := topS 7
theorem sc_clashing : FnScope ["pointing", "labels", "house", "goal"] ["pointing", "labels"] (defScope s_clashing) := ⟨rfl, rfl, rfl, by decide +kernel, rfl, by decide +kernel, by decide +kernel⟩
def clashL (xs ls : List Int) (c : Nat) : List Int := ((List.range c).filter (fun i => !apartAt xs ls i)).map (fun (i : Nat) => (i : Int))
theorem clash_more (xs ls : List Int) (c : Nat) : clashL xs ls (c + 1) = clashL xs ls c ++ (if apartAt xs ls c = true then [] else [(c : Int)]) := by
  unfold clashL
  rw [List.range_succ, List.filter_append, List.map_append]
  cases h : apartAt xs ls c <;> simp [List.filter_cons, h]
theorem clash_len (xs ls : List Int) (c : Nat) : (clashL xs ls c).length ≤ c := by
  unfold clashL
  rw [List.length_map]
  exact Nat.le_trans (List.length_filter_le _ _) (by rw [List.length_range]; exact Nat.le_refl _)
theorem clash_nil (xs ls : List Int) : (clashL xs ls xs.length).isEmpty = properB xs ls := by
  unfold clashL properB
  rw [List.isEmpty_map]
  cases h : (List.range xs.length).all (apartAt xs ls) with
  | true =>
    rw [List.all_eq_true] at h
    rw [List.isEmpty_iff, List.filter_eq_nil_iff]
    intro i hi
    rw [h i hi]
    exact Bool.false_ne_true
  | false =>
    rw [List.all_eq_false] at h
    obtain ⟨i, hi, hn⟩ := h
    cases he : (List.filter (fun i => !apartAt xs ls i) (List.range xs.length)) with
    | nil =>
      rw [List.filter_eq_nil_iff] at he
      exact absurd (by simp [hn]) (he i hi)
    | cons _ _ => rfl
def spClash : Sp := fun vs H Q _ => ∃ (d : Addr) (n : Nat) (L : Led) (p q : Addr) (xs ls : List Int), vs = [.ref p, .ref q] ∧ PtOk 60 xs ∧ ls.length = xs.length ∧ (p, .tup (xs.map V.int)) ∈ L ∧ (q, .tup (ls.map V.int)) ∈ L ∧ Kn d n L H ∧ ∀ l H', Kn d n ((l, .lst ((clashL xs ls xs.length).map V.int)) :: L) H' → Q (.ref l) H'
section
variable {P : Program} {w : World} {K : PySem.W.Frag} {mg : Str → Option Value} {base : Heap}
theorem ok_clashing {f : Addr} {fd : FuncData} {k : Nat} (D : Df K mg "clashing" s_clashing ["pointing", "labels"] f fd) (M : Bl mg) : FnOk P w K mg base CX0 (k + 1) f fd ["pointing", "labels"] spClash := by
  refine D.F.ok sc_clashing (fun vs H Q E h => ?_) (fun cdv A outer s H vs Q E hr h => ?_)
  · obtain ⟨d, n, L, p, q, xs, ls, rfl, _⟩ := h
    rfl
  obtain ⟨d, n, L, p, q, xs, ls, rfl, hp, hl, hpL, hqL, kn, g⟩ := h
  refine ⟨_, (pss_one (ps_ret (pe_lc (own := [("house", 2), ("goal", 3)]) (g := gTup K 2 (gCons (gName 2) (gCons (gName 3) gNil))) (by rfl) sc_clashing.nd (pi_enumU (by rfl) M.enumerate (pa_cons (pv 0) pa_nil)) (blkOk_by (own := [("house", 2), ("goal", 3)]) (N := ["pointing", "labels", "house", "goal"]) (sc := defScope s_clashing) (by decide +kernel)) (fun _ _ _ _ _ => (pg_tup rfl (pgs_cons (pg_name (i := 2) sc_clashing.nd rfl (Or.inl rfl)) (pgs_cons (pg_name (i := 3) sc_clashing.nd rfl (Or.inl rfl)) pgs_nil)))) (fun _ _ _ _ _ => (pts_one (pt_cmpR op_eq (pe_ix (ixT (K := K) rfl) (pv 1) (pv 2) (fun _ _ => rfl)) (pe_ix (ixT (K := K) rfl) (pv 1) (pv 3) (fun _ _ => rfl)) (nomark _)))) (fun _ _ _ _ _ => (pv 2))))), ?_⟩
  have h60 := hp.most
  walk_at "go"
  refine kLcE kn hpL (fun R hR => by walk_at "go"; exact hR) (by rw [List.length_map]; omega) (fun i => (clashL xs ls i).map V.int) rfl (fun i => by rw [List.length_map]; exact clash_len xs ls i) (fun _ _ => rfl) (fun i x H' D T hx kn1 N1 N2 h1 h2 => ?_) (fun D H' kn1 => ?_)
  · obtain ⟨z, hz, rfl⟩ : ∃ z, xs[i]? = some z ∧ x = V.int z := by
      rw [List.getElem?_map] at hx
      cases e : xs[i]? with
      | none => rw [e] at hx; cases hx
      | some z => rw [e] at hx; exact ⟨z, rfl, (Option.some.inj hx).symm⟩
    have hi' : i < xs.length := (List.getElem?_eq_some_iff.mp hz).1
    have hg := hp.goal i _ hz
    have ha : ls[i]? = some ls[i] := List.getElem?_eq_getElem (by omega)
    have hb : ls[z.toNat]? = some ls[z.toNat] := List.getElem?_eq_getElem (by omega)
    have eb : atI (ls.map V.int) z = some (V.int ls[z.toNat]) := atI_at (j := z.toNat) (by omega) (by rw [List.getElem?_map, hb]; rfl)
    have hap : apartAt xs ls i = !decide (ls[i] = ls[z.toNat]) := by
      unfold apartAt
      rw [getD_of ha, getD_of hz, getD_of hb]
    have mq := List.mem_cons_of_mem (T, HO.tup [.int (i : Int), .int z]) (List.mem_cons_of_mem (D, HO.lst ((clashL xs ls i).map V.int)) hqL)
    refine kTest ?_
    walk_at "go"
    refine kIxT (kn1.seqT mq) (atInt ha) ?_
    walk_at "go"
    refine kIxT (kn1.seqT mq) eb ?_
    walk_at "go"
    have nxt := clash_more xs ls i
    rw [hap] at nxt
    refine iteI (fun he => ?_) (fun he => ?_)
    · walk_at "go"
      refine h1 _ _ kn1 ?_
      rw [nxt, decide_eq_true he]
      simp
    · refine h2 _ kn1 ?_
      rw [nxt, decide_eq_false he]
      simp
  · rw [List.length_map] at kn1
    walk_at "go"
    exact g _ _ kn1
end
theorem no_clash {xs ls : List Int} (h : properB xs ls = true) {c : Int} {r : List Int} (e : clashL xs ls xs.length = c :: r) : False := by
  have := clash_nil xs ls
  rw [e, h] at this
  cases this

/-! ### while -/
theorem kWhile {σ : L2.St} {H : Hp} {c : L2.TT} {tb : TS} {nx bk ct : L2.St → Hp → Prop} {rt : VK} (W : Nat → L2.St → Hp → Prop) (m : Nat) (h0 : W m σ H)
    (hs : ∀ m σ H, W m σ H → c σ H fun b H1 => if b = true then tb (Ends.mk (fun σ' H' => ∃ m', m' < m ∧ W m' σ' H') rt nx (fun σ' H' => ∃ m', m' < m ∧ W m' σ' H')) σ H1 else nx σ H1)
    (mono : ∀ σ H Q Q', (∀ b H1, Q b H1 → Q' b H1) → c σ H Q → c σ H Q') : tWhile c tb (Ends.mk nx rt bk ct) σ H := by
  refine ⟨W, ⟨m, h0⟩, fun m σ H hw => mono _ _ _ _ (fun b H1 hh => ?_) (hs m σ H hw)⟩
  cases b with
  | true =>
    rw [if_pos rfl] at hh ⊢
    exact ⟨_, fun σ' H' h => h, hh⟩
  | false =>
    rw [if_neg Bool.false_ne_true] at hh ⊢
    exact hh

/-! ### the least place of unlike bits -/
def shortN (a b : Nat) : Nat := if h : a = b then 0 else if a % 2 = b % 2 then 2 + shortN (a / 2) (b / 2) else a % 2
termination_by a + b
decreasing_by omega
theorem short_like {a b : Nat} (h : a ≠ b) (e : a % 2 = b % 2) : shortN a b = 2 + shortN (a / 2) (b / 2) := by
  rw [shortN, dif_neg h, if_pos e]
theorem short_unlike {a b : Nat} (e : ¬ a % 2 = b % 2) : shortN a b = a % 2 := by
  rw [shortN, dif_neg (fun z => e (by rw [z])), if_neg e]
theorem short_bound : ∀ (k a b : Nat), a < 2 ^ k → b < 2 ^ k → shortN a b ≤ 2 * k
  | 0, a, b, ha, hb => by
    have : a = b := by omega
    rw [shortN, dif_pos this]
    exact Nat.zero_le _
  | k + 1, a, b, ha, hb => by
    rw [Nat.pow_succ] at ha hb
    by_cases h : a = b
    · rw [shortN, dif_pos h]
      exact Nat.zero_le _
    · by_cases e : a % 2 = b % 2
      · rw [short_like h e]
        have := short_bound k (a / 2) (b / 2) (by omega) (by omega)
        omega
      · rw [short_unlike e]
        omega
def spShorter : Sp := fun vs H Q _ => ∃ a b : Nat, vs = [.int (a : Int), .int (b : Int)] ∧ a < 2 ^ 62 ∧ b < 2 ^ 62 ∧ a ≠ b ∧ Q (.int (shortN a b : Int)) H

/-! ### one round of the laws: a step, a taking over -/
/-- all labels are from nought on, and small -/
def LbIn (ls : List Int) : Prop := ∀ x ∈ ls, 0 ≤ x ∧ x < 2 ^ 62
def stepAt (xs ls : List Int) (i : Nat) : Int := (shortN (ls.getD i 0).toNat (ls.getD (xs.getD i 0).toNat 0).toNat : Nat)
def overAt (xs ls : List Int) (i : Nat) : Int := ls.getD (xs.getD i 0).toNat 0
def roundL (xs ls : List Int) (w : Int) : List Int := (List.range xs.length).map (if w = 0 then stepAt xs ls else overAt xs ls)

/-- what the program's text says of a refusal with a field -/
structure Rf (P : Program) (K : PySem.W.Frag) (mg : Str → Option Value) (x fld : Str) (C fI : Addr) (fd : FuncData) (msg : Expr) (bmB : List Value) : Prop where
  T : ExT P K mg fld C fI bmB
  J : ExI P K fld C fI fd msg
  M : ∀ w, MsgOk P w fld msg (fun _ => True)
  g : mg x = some (.ref C)
theorem kRaiseR {σ : L2.St} {H : Hp} {C : Addr} {fld : Str} {W : WX} {ta : TA} {D : Ends} (h : ta σ H fun vs H1 => ∃ v, vs = [v] ∧ ∀ d, H1 d = none → W (.ref C) (some d) σ (upd H1 d (.xd [(fld, v)]))) : tRaiseR C fld W ta D σ H := h

/-! ### check_proper of the program -/
abbrev s_check_proper : Stmt := topS 8
theorem sc_check_proper : FnScope ["pointing", "labels", "houses"] ["pointing", "labels"] (defScope s_check_proper) := ⟨rfl, rfl, rfl, by decide +kernel, rfl, by decide +kernel, by decide +kernel⟩
theorem apart_ne {xs ls : List Int} {m : Int} (hp : PtOk m xs) (hl : ls.length = xs.length) (h : properB xs ls = true) {i : Nat} {z : Int} (hz : xs[i]? = some z) : ∃ a b : Int, ls[i]? = some a ∧ ls[z.toNat]? = some b ∧ a ≠ b := by
  have hi := (List.getElem?_eq_some_iff.mp hz).1
  have hg := hp.goal i _ hz
  have ha : ls[i]? = some ls[i] := List.getElem?_eq_getElem (by omega)
  have hb : ls[z.toNat]? = some ls[z.toNat] := List.getElem?_eq_getElem (by omega)
  refine ⟨_, _, ha, hb, ?_⟩
  unfold properB at h
  rw [List.all_eq_true] at h
  have := h i (List.mem_range.mpr hi)
  unfold apartAt at this
  rw [getD_of ha, getD_of hz, getD_of hb] at this
  simpa using this
def spCheck (C : Addr) : Sp := fun vs H Q E => ∃ (d : Addr) (n : Nat) (L : Led) (p q : Addr) (xs ls : List Int), vs = [.ref p, .ref q] ∧ PtOk 60 xs ∧ ls.length = xs.length ∧ (p, .tup (xs.map V.int)) ∈ L ∧ (q, .tup (ls.map V.int)) ∈ L ∧ Kn d n L H ∧
  (properB xs ls = true → ∀ H', Kn d n L H' → Q .non H') ∧ ∀ c r, clashL xs ls xs.length = c :: r → ∀ e H', Kn d n ((e, .xd [(("house" : Str), .int c)]) :: L) H' → E (.ref C) (some e) H'
section
variable {P : Program} {w : World} {K : PySem.W.Frag} {mg : Str → Option Value} {base : Heap} {C_NotProper fI_NotProper : Addr} {fd_NotProper : FuncData} {m_NotProper : Expr} {bm_NotProper : List Value}
theorem ok_check_proper (E_NotProper : Rf P K mg "NotProper" "house" C_NotProper fI_NotProper fd_NotProper m_NotProper bm_NotProper) {f a_clashing : Addr} {fd fd_clashing : FuncData} {k : Nat} (D : Df K mg "check_proper" s_check_proper ["pointing", "labels"] f fd) (D_clashing : Df K mg "clashing" s_clashing ["pointing", "labels"] a_clashing fd_clashing) (M : Bl mg) : FnOk P w K mg base (L2.CX P w) (k + 1 + 1) f fd ["pointing", "labels"] (spCheck C_NotProper) := by
  have G_clashing := ok_clashing (P := P) (w := w) (base := base) (k := 0) D_clashing M
  refine D.F.okX sc_check_proper (fun vs H Q E h => ?_) (fun cdv A outer s H vs Q E hr h => ?_)
  · obtain ⟨d, n, L, p, q, xs, ls, rfl, _⟩ := h
    rfl
  obtain ⟨d, n, L, p, q, xs, ls, rfl, hp, hl, hpL, hqL, kn, gR, gE⟩ := h
  refine ⟨_, (pss_cons (ps_set (i := 2) sc_check_proper.nd rfl (Or.inl rfl) (pe_call G_clashing (hr.mono (by omega)) (by rfl) D_clashing.g D_clashing.F.kp D_clashing.b .nil pass0 (pa_cons (pv 0) (pa_cons (pv 1) pa_nil))))
   (pss_one (ps_if (pt_tru (pv 2) (fun _ => rfl)) (pss_one (ps_raiseR (k := 1) rfl E_NotProper.T E_NotProper.J (E_NotProper.M _) (hr.mono (by omega)) (takes_of rfl rfl rfl rfl) (pa_cons (pe_ix ix_list (pv 2) pe_int (fun _ _ => rfl)) pa_nil) E_NotProper.g)) pss_nil))), ?_⟩
  walk_at "go"
  refine ⟨d, n, L, p, q, xs, ls, rfl, hp, hl, hpL, hqL, kn, fun l H1 kn1 => ?_⟩
  have hn := clash_nil xs ls
  walk_at "go"
  refine kTruL (kn1.seqL List.mem_cons_self) ?_
  rw [List.isEmpty_map]
  cases hc : clashL xs ls xs.length with
  | nil =>
    rw [hc] at hn
    refine iteF ?_
    walk_at "go"
    exact gR hn.symm _ kn1.tail
  | cons c r =>
    refine iteT ?_
    refine kRaiseR ?_
    rw [hc] at kn1
    walk_at "go"
    refine ⟨_, rfl, fun e he => ?_⟩
    exact gE c r hc e _ ((kn1.new he).sub (((List.Sublist.refl L).cons _).cons₂ _))
end

/-! ### check_proper, stepped, step of the program -/
abbrev s_unlike_place : Stmt := topS 10
theorem sc_unlike_place : FnScope ["one", "other", "unlike"] ["one", "other"] (defScope s_unlike_place) := ⟨rfl, rfl, rfl, by decide +kernel, rfl, by decide +kernel, by decide +kernel⟩
abbrev s_stepped : Stmt := topS 11
theorem sc_stepped : FnScope ["label", "goal_label", "place"] ["label", "goal_label"] (defScope s_stepped) := ⟨rfl, rfl, rfl, by decide +kernel, rfl, by decide +kernel, by decide +kernel⟩
def plN (a b : Nat) : Nat := if h : a = b then 0 else if a % 2 = b % 2 then 1 + plN (a / 2) (b / 2) else 0
termination_by a + b
decreasing_by omega
theorem plN_like {a b : Nat} (h : a ≠ b) (e : a % 2 = b % 2) : plN a b = 1 + plN (a / 2) (b / 2) := by
  rw [plN, dif_neg h, if_pos e]
theorem plN_unlike {a b : Nat} (e : ¬ a % 2 = b % 2) : plN a b = 0 := by
  rw [plN, dif_neg (fun z => e (by rw [z])), if_neg e]
theorem plN_low : ∀ (n a b : Nat), a + b ≤ n → a ≠ b → lowB (a ^^^ b) = 2 ^ plN a b ∧ shortN a b = 2 * plN a b + a / 2 ^ plN a b % 2
  | 0, a, b, h, hne => absurd (show a = b by omega) hne
  | n + 1, a, b, h, hne => by
    have h1 := xor_half a b
    have h2 := xor_two a b
    by_cases e : a % 2 = b % 2
    · have ih := plN_low n (a / 2) (b / 2) (by omega) (by omega)
      rw [plN_like hne e, short_like hne e, ih.2]
      have h3 : a ^^^ b = 2 * (a / 2 ^^^ b / 2) := by omega
      rw [h3, low_even (xor_pos (by omega)), ih.1]
      have h4 : (2 : Nat) ^ (1 + plN (a / 2) (b / 2)) = 2 * 2 ^ plN (a / 2) (b / 2) := by rw [Nat.add_comm, Nat.pow_succ, Nat.mul_comm]
      rw [h4]
      refine ⟨rfl, ?_⟩
      rw [← Nat.div_div_eq_div_mul]
      omega
    · rw [plN_unlike e, short_unlike e]
      have h3 : (a ^^^ b) % 2 = 1 := by omega
      rw [low_odd h3]
      simp
theorem plN_le {a b : Nat} (ha : a < 2 ^ 62) (hb : b < 2 ^ 62) (hne : a ≠ b) : plN a b ≤ 62 := by
  have h1 := (plN_low _ a b (Nat.le_refl _) hne).2
  have h2 := short_bound 62 a b ha hb
  omega
def spPlace : Sp := fun vs H Q _ => ∃ a b : Nat, vs = [.int (a : Int), .int (b : Int)] ∧ a < 2 ^ 62 ∧ b < 2 ^ 62 ∧ a ≠ b ∧ Q (.int (plN a b : Int)) H
section
variable {P : Program} {w : World} {K : PySem.W.Frag} {mg : Str → Option Value} {base : Heap}
theorem ok_unlike_place {f : Addr} {fd : FuncData} {k : Nat} (D : Df K mg "unlike_place" s_unlike_place ["one", "other"] f fd) (M : Bl mg) : FnOk P w K mg base CX0 (k + 1) f fd ["one", "other"] spPlace := by
  refine D.F.ok sc_unlike_place (fun vs H Q E h => ?_) (fun cdv A outer s H vs Q E hr h => ?_)
  · obtain ⟨a, b, rfl, _⟩ := h
    rfl
  obtain ⟨a, b, rfl, ha, hb, hne, q⟩ := h
  refine ⟨_, (pss_cons (ps_set (i := 2) sc_unlike_place.nd rfl (Or.inl rfl) (pe_op op_xor (pv 0) (pv 1)))
   (pss_one (ps_ret (pe_op op_sub (pe_bits (pe_op op_and (pv 2) (pe_un un_neg (pv 2)))) pe_int)))), ?_⟩
  have hx := xor_pos hne
  walk_at "go"
  refine kBits (n := 0) ?_
  walk_at "go"
  rw [bitXor_nat, bitAnd_neg hx, (plN_low _ a b (Nat.le_refl _) hne).1, bits_pow]
  have e : ((plN a b + 1 : Nat) : Int) - 1 = (plN a b : Int) := by omega
  rw [e]
  exact q
theorem ok_stepped {f a_unlike_place : Addr} {fd fd_unlike_place : FuncData} {k : Nat} (D : Df K mg "stepped" s_stepped ["label", "goal_label"] f fd) (D_unlike_place : Df K mg "unlike_place" s_unlike_place ["one", "other"] a_unlike_place fd_unlike_place) (M : Bl mg) : FnOk P w K mg base CX0 (k + 1 + 1) f fd ["label", "goal_label"] spShorter := by
  have G_unlike_place := ok_unlike_place (P := P) (w := w) (base := base) (k := 0) D_unlike_place M
  refine D.F.ok sc_stepped (fun vs H Q E h => ?_) (fun cdv A outer s H vs Q E hr h => ?_)
  · obtain ⟨a, b, rfl, _⟩ := h
    rfl
  obtain ⟨a, b, rfl, ha, hb, hne, q⟩ := h
  refine ⟨_, (pss_cons (ps_set (i := 2) sc_stepped.nd rfl (Or.inl rfl) (pe_call G_unlike_place (hr.mono (by omega)) (by rfl) D_unlike_place.g D_unlike_place.F.kp D_unlike_place.b .nil pass0 (pa_cons (pv 0) (pa_cons (pv 1) pa_nil))))
   (pss_one (ps_ret (pe_op op_add (pe_op op_mul pe_int (pv 2)) (pe_op op_and (pe_op op_shr (pv 0) (pv 2)) pe_int))))), ?_⟩
  have hp := plN_le ha hb hne
  walk_at "go"
  refine ⟨a, b, rfl, ha, hb, hne, ?_⟩
  walk_at "go"
  refine kI (show (0 : Int) ≤ _ by omega) ?_
  walk_at "go"
  have e : 2 * (plN a b : Int) + Builtin.bitAnd ((a : Int) / 2 ^ ((plN a b : Int)).toNat) 1 = ((shortN a b : Nat) : Int) := by
    rw [bitAnd_m1, (plN_low _ a b (Nat.le_refl _) hne).2, Int.toNat_natCast]
    norm_cast
  rw [e]
  exact q
end

abbrev s_step : Stmt := topS 12
theorem sc_step : FnScope ["pointing", "labels", "house", "goal"] ["pointing", "labels"] (defScope s_step) := ⟨rfl, rfl, rfl, by decide +kernel, rfl, by decide +kernel, by decide +kernel⟩
def spStep (C : Addr) : Sp := fun vs H Q E => ∃ (d : Addr) (n : Nat) (L : Led) (p q : Addr) (xs ls : List Int), vs = [.ref p, .ref q] ∧ PtOk 60 xs ∧ ls.length = xs.length ∧ LbIn ls ∧ (p, .tup (xs.map V.int)) ∈ L ∧ (q, .tup (ls.map V.int)) ∈ L ∧ Kn d n L H ∧
  (properB xs ls = true → ∀ r H', Kn d n ((r, .tup ((roundL xs ls 0).map V.int)) :: L) H' → Q (.ref r) H') ∧ ∀ c r, clashL xs ls xs.length = c :: r → ∀ e H', Kn d n ((e, .xd [(("house" : Str), .int c)]) :: L) H' → E (.ref C) (some e) H'

section
variable {P : Program} {w : World} {K : PySem.W.Frag} {mg : Str → Option Value} {base : Heap} {C_NotProper fI_NotProper : Addr} {fd_NotProper : FuncData} {m_NotProper : Expr} {bm_NotProper : List Value}
theorem ok_step (E_NotProper : Rf P K mg "NotProper" "house" C_NotProper fI_NotProper fd_NotProper m_NotProper bm_NotProper) {f a_clashing a_check_proper a_unlike_place a_stepped : Addr} {fd fd_clashing fd_check_proper fd_unlike_place fd_stepped : FuncData} {k : Nat} (D : Df K mg "step" s_step ["pointing", "labels"] f fd)
    (D_clashing : Df K mg "clashing" s_clashing ["pointing", "labels"] a_clashing fd_clashing) (D_check_proper : Df K mg "check_proper" s_check_proper ["pointing", "labels"] a_check_proper fd_check_proper) (D_unlike_place : Df K mg "unlike_place" s_unlike_place ["one", "other"] a_unlike_place fd_unlike_place)
    (D_stepped : Df K mg "stepped" s_stepped ["label", "goal_label"] a_stepped fd_stepped) (M : Bl mg) : FnOk P w K mg base (L2.CX P w) (k + 1 + 1 + 1) f fd ["pointing", "labels"] (spStep C_NotProper) := by
  have G_check_proper := ok_check_proper (w := w) (base := base) (k := 0) E_NotProper D_check_proper D_clashing M
  have G_stepped := ok_stepped (P := P) (w := w) (base := base) (k := 0) D_stepped D_unlike_place M
  refine D.F.okX sc_step (fun vs H Q E h => ?_) (fun cdv A outer s H vs Q E hr h => ?_)
  · obtain ⟨d, n, L, p, q, xs, ls, rfl, _⟩ := h
    rfl
  obtain ⟨d, n, L, p, q, xs, ls, rfl, hp, hl, hin, hpL, hqL, kn, gR, gE⟩ := h
  refine ⟨_, (pss_cons (ps_expr (pe_callS G_check_proper (hr.mono (by omega)) (by rfl) D_check_proper.g D_check_proper.F.kp D_check_proper.b (fun σ => passAt (takes_of rfl rfl rfl rfl) σ) (pa_cons (pv 0) (pa_cons (pv 1) pa_nil))))
   (pss_one (ps_ret (pe_callTy c_tuple (by rfl) M.tuple (by decide +kernel) (pa_cons (pe_lc (own := [("house", 2), ("goal", 3)]) (g := gTup K 2 (gCons (gName 2) (gCons (gName 3) gNil))) (by rfl) sc_step.nd (pi_enumU (by rfl) M.enumerate (pa_cons (pv 0) pa_nil)) (blkOk_by (own := [("house", 2), ("goal", 3)]) (N := ["pointing", "labels", "house", "goal"]) (sc := defScope s_step) (by decide +kernel)) (fun _ _ _ _ _ => (pg_tup rfl (pgs_cons (pg_name (i := 2) sc_step.nd rfl (Or.inl rfl)) (pgs_cons (pg_name (i := 3) sc_step.nd rfl (Or.inl rfl)) pgs_nil)))) (fun _ _ _ _ _ => pts_nil) (fun _ _ _ _ _ => (pe_call G_stepped (hr.mono (by omega)) (by rfl) D_stepped.g D_stepped.F.kp D_stepped.b .nil pass0 (pa_cons (pe_ix (ixT (K := K) rfl) (pv 1) (pv 2) (fun _ _ => rfl)) (pa_cons (pe_ix (ixT (K := K) rfl) (pv 1) (pv 3) (fun _ _ => rfl)) pa_nil))))) pa_nil))))), ?_⟩
  have h60 := hp.most
  walk_at "go"
  refine ⟨d, n, L, p, q, xs, ls, rfl, hp, hl, hpL, hqL, kn, fun hpr H1 kn1 => ?_, gE⟩
  walk_at "go"
  refine kLcE kn1 hpL (fun R hR => by walk_at "go"; exact hR) (by rw [List.length_map]; omega) (fun i => ((List.range i).map (stepAt xs ls)).map V.int) rfl (fun i => by simp) (fun _ _ => rfl) (fun i x H' D T hx kn2 N1 N2 h1 _ => ?_) (fun D H' kn2 => ?_)
  · obtain ⟨z, hz, rfl⟩ : ∃ z, xs[i]? = some z ∧ x = V.int z := by
      rw [List.getElem?_map] at hx
      cases e : xs[i]? with
      | none => rw [e] at hx; cases hx
      | some z => rw [e] at hx; exact ⟨z, rfl, (Option.some.inj hx).symm⟩
    obtain ⟨a, b, ha, hb, hab⟩ := apart_ne hp hl hpr hz
    have hg := hp.goal i _ hz
    have eb : atI (ls.map V.int) z = some (V.int b) := atI_at (j := z.toNat) (by omega) (by rw [List.getElem?_map, hb]; rfl)
    have b1 := hin a (List.mem_of_getElem? ha)
    have b2 := hin b (List.mem_of_getElem? hb)
    have mq := List.mem_cons_of_mem (T, HO.tup [.int (i : Int), .int z]) (List.mem_cons_of_mem (D, HO.lst (((List.range i).map (stepAt xs ls)).map V.int)) hqL)
    refine kYes (iteT ?_)
    walk_at "go"
    refine kIxT (kn2.seqT mq) (atInt ha) ?_
    walk_at "go"
    refine kIxT (kn2.seqT mq) eb ?_
    walk_at "go"
    refine ⟨a.toNat, b.toNat, ?_, by omega, by omega, by omega, ?_⟩
    · have e1 : ((a.toNat : Nat) : Int) = a := by omega
      have e2 : ((b.toNat : Nat) : Int) = b := by omega
      rw [e1, e2]
    refine h1 _ _ kn2 ?_
    have hs : stepAt xs ls i = ((shortN a.toNat b.toNat : Nat) : Int) := by
      unfold stepAt
      rw [getD_of ha, getD_of hz, getD_of hb]
    rw [List.range_succ, List.map_append, List.map_append, ← hs]
    rfl
  · rw [List.length_map] at kn2
    walk_at "go"
    rename_i r H3 kn3
    have e : roundL xs ls 0 = (List.range xs.length).map (stepAt xs ls) := by
      unfold roundL
      rw [if_pos rfl]
    rw [← e] at kn3
    exact gR hpr r _ (kn3.sub (((List.Sublist.refl L).cons _).cons₂ _))
end

/-! ### how many bits -/
def bitsN (n : Nat) : Nat := if n = 0 then 0 else Nat.log2 n + 1
theorem bits_half {n : Nat} (h : 0 < n) : bitsN n = bitsN (n / 2) + 1 := by
  unfold bitsN
  rw [if_neg (by omega)]
  by_cases h2 : n / 2 = 0
  · rw [if_pos h2]
    have : n = 1 := by omega
    subst this
    decide
  · rw [if_neg h2]
    rw [Nat.log2_def n, if_pos (by omega)]
def spBits : Sp := fun vs H Q _ => ∃ n : Nat, vs = [.int (n : Int)] ∧ n < 2 ^ 62 ∧ Q (.int (bitsN n : Int)) H
theorem bits_less {m : Nat} (h : 6 < m) : 2 * bitsN (m - 1) < m := by
  unfold bitsN
  rw [if_neg (by omega)]
  have h1 : 2 ^ Nat.log2 (m - 1) ≤ m - 1 := Nat.log2_self_le (by omega)
  have key : ∀ l : Nat, 3 ≤ l → 2 * l + 2 ≤ 2 ^ l := by
    intro l hl
    induction l with
    | zero => omega
    | succ k ih =>
      by_cases hk : 3 ≤ k
      · have := ih hk
        rw [Nat.pow_succ]
        omega
      · have : k = 2 := by omega
        subst this
        decide
  by_cases hl : 3 ≤ Nat.log2 (m - 1)
  · have := key _ hl
    omega
  · omega
def halv (m : Nat) : List Nat := if h : 6 < m then m :: halv (2 * bitsN (m - 1)) else [m]
termination_by m
decreasing_by exact bits_less h
theorem halv_big {m : Nat} (h : 6 < m) : halv m = m :: halv (2 * bitsN (m - 1)) := by
  rw [halv, dif_pos h]
theorem halv_end {m : Nat} (h : ¬ 6 < m) : halv m = [m] := by
  rw [halv, dif_neg h]
theorem halv_len (m : Nat) : (halv m).length ≤ m + 1 := by
  induction m using Nat.strongRecOn with
  | _ m ih =>
    by_cases h : 6 < m
    · rw [halv_big h, List.length_cons]
      have := ih _ (bits_less h)
      have := bits_less h
      omega
    · rw [halv_end h, List.length_singleton]
      omega
theorem bits_le {n : Nat} (h : n < 2 ^ 62) : bitsN n ≤ 62 := by
  unfold bitsN
  split
  · omega
  · rename_i h0
    have := (Nat.log2_lt h0).mpr h
    omega

/-! ### steps keep labels proper, and shorten them -/
theorem short_ne : ∀ (n a b c : Nat), a + b + c ≤ n → a ≠ b → b ≠ c → shortN a b ≠ shortN b c
  | 0, a, b, c, h, hab, _ => absurd (show a = b by omega) hab
  | n + 1, a, b, c, h, hab, hbc => by
    by_cases e1 : a % 2 = b % 2
    · rw [short_like hab e1]
      by_cases e2 : b % 2 = c % 2
      · rw [short_like hbc e2]
        have := short_ne n (a / 2) (b / 2) (c / 2) (by omega) (by omega) (by omega)
        omega
      · rw [short_unlike e2]
        omega
    · rw [short_unlike e1]
      by_cases e2 : b % 2 = c % 2
      · rw [short_like hbc e2]
        omega
      · rw [short_unlike e2]
        omega
theorem short_lt : ∀ (k a b : Nat), a < 2 ^ k → b < 2 ^ k → a ≠ b → shortN a b < 2 * k
  | 0, a, b, ha, hb, h => absurd (show a = b by omega) h
  | k + 1, a, b, ha, hb, h => by
    rw [Nat.pow_succ] at ha hb
    by_cases e : a % 2 = b % 2
    · rw [short_like h e]
      have := short_lt k (a / 2) (b / 2) (by omega) (by omega) (by omega)
      omega
    · rw [short_unlike e]
      omega
theorem lt_bits {n : Nat} : n < 2 ^ bitsN n := by
  unfold bitsN
  split
  · omega
  · exact Nat.lt_log2_self
theorem short_halv {m a b : Nat} (ha : a < m) (hb : b < m) (h : a ≠ b) : shortN a b < 2 * bitsN (m - 1) :=
  short_lt _ _ _ (Nat.lt_of_le_of_lt (by omega) (lt_bits (n := m - 1))) (Nat.lt_of_le_of_lt (by omega) (lt_bits (n := m - 1))) h
/-- what properB says -/
theorem proper_at {xs ls : List Int} {m : Int} (hp : PtOk m xs) (h : properB xs ls = true) {i : Nat} {x : Int} (hx : xs[i]? = some x) : ls.getD i 0 ≠ ls.getD x.toNat 0 := by
  unfold properB at h
  rw [List.all_eq_true] at h
  have := h i (List.mem_range.mpr (List.getElem?_eq_some_iff.mp hx).1)
  unfold apartAt at this
  rw [getD_of hx] at this
  simpa using this
theorem proper_of {xs ls : List Int} (h : ∀ (i : Nat) (x : Int), xs[i]? = some x → ls.getD i 0 ≠ ls.getD x.toNat 0) : properB xs ls = true := by
  unfold properB
  rw [List.all_eq_true]
  intro i hi
  have hi' := List.mem_range.mp hi
  have hx : xs[i]? = some xs[i] := List.getElem?_eq_getElem hi'
  unfold apartAt
  rw [getD_of hx]
  have := h i _ hx
  simpa using this
theorem roundL_len (xs ls : List Int) (w : Int) : (roundL xs ls w).length = xs.length := by
  unfold roundL
  rw [List.length_map, List.length_range]
theorem roundL_at {xs ls : List Int} {w : Int} {i : Nat} (hi : i < xs.length) : (roundL xs ls w).getD i 0 = (if w = 0 then stepAt xs ls else overAt xs ls) i := by
  unfold roundL
  rw [List.getD_eq_getElem?_getD, List.getElem?_map, List.getElem?_range hi]
  rfl
theorem getD_in {ls : List Int} (h : LbIn ls) {i : Nat} (hi : i < ls.length) : 0 ≤ ls.getD i 0 ∧ ls.getD i 0 < 2 ^ 62 := by
  rw [getD_of (List.getElem?_eq_getElem hi)]
  exact h _ (List.getElem_mem hi)
theorem round_proper {xs ls : List Int} {m w : Int} (hp : PtOk m xs) (hl : ls.length = xs.length) (hin : LbIn ls) (h : properB xs ls = true) : properB xs (roundL xs ls w) = true := by
  refine proper_of fun i x hx => ?_
  have hi := (List.getElem?_eq_some_iff.mp hx).1
  have hg := hp.goal i x hx
  have hxn : x.toNat < xs.length := by omega
  have hy : xs[x.toNat]? = some xs[x.toNat] := List.getElem?_eq_getElem hxn
  have hg2 := hp.goal x.toNat _ hy
  have h1 := proper_at hp h hx
  have h2 := proper_at hp h hy
  rw [roundL_at hi, roundL_at hxn]
  by_cases hw : w = 0
  · rw [if_pos hw]
    unfold stepAt
    rw [getD_of hx, getD_of hy]
    have b1 := getD_in hin (i := i) (by omega)
    have b2 := getD_in hin (i := x.toNat) (by omega)
    have b3 := getD_in hin (i := (xs[x.toNat]).toNat) (by omega)
    have := short_ne _ (ls.getD i 0).toNat (ls.getD x.toNat 0).toNat (ls.getD (xs[x.toNat]).toNat 0).toNat (Nat.le_refl _) (by omega) (by omega)
    intro e
    exact this (by exact_mod_cast e)
  · rw [if_neg hw]
    unfold overAt
    rw [getD_of hx, getD_of hy]
    exact h2
theorem roundL_in {xs ls : List Int} {m : Int} (hp : PtOk m xs) (hl : ls.length = xs.length) (hin : LbIn ls) : LbIn (roundL xs ls 0) := by
  intro y hy
  unfold roundL at hy
  obtain ⟨i, hi, rfl⟩ := List.mem_map.mp hy
  have hi' := List.mem_range.mp hi
  rw [if_pos rfl]
  unfold stepAt
  have hx : xs[i]? = some xs[i] := List.getElem?_eq_getElem hi'
  have hg := hp.goal i _ hx
  rw [getD_of hx]
  have b1 := getD_in hin (i := i) (by omega)
  have b2 := getD_in hin (i := (xs[i]).toNat) (by omega)
  have := short_bound 62 (ls.getD i 0).toNat (ls.getD (xs[i]).toNat 0).toNat (by omega) (by omega)
  omega

/-! ### the row of halvings -/
theorem halv_short {m : Nat} (h : m < 2 ^ 62) : (halv m).length ≤ 126 := by
  by_cases h6 : 6 < m
  · rw [halv_big h6, List.length_cons]
    have h1 := halv_len (2 * bitsN (m - 1))
    have h2 := bits_le (n := m - 1) (by omega)
    omega
  · rw [halv_end h6, List.length_singleton]
    omega
def vN (n : Nat) : V := .int (n : Int)
def spHalv : Sp := fun vs H Q _ => ∃ (d : Addr) (n : Nat) (L : Led) (m : Nat), vs = [.int (m : Int)] ∧ m < 2 ^ 62 ∧ Kn d n L H ∧ ∀ l H', Kn d n ((l, .lst ((halv m).map vN)) :: L) H' → Q (.ref l) H'
theorem halv_pos (m : Nat) : 1 ≤ (halv m).length := by
  by_cases h6 : 6 < m
  · rw [halv_big h6, List.length_cons]; omega
  · rw [halv_end h6, List.length_singleton]; omega

/-! ### halvings of the program -/
abbrev s_halvings : Stmt := topS 20
theorem sc_halvings : FnScope ["m", "told"] ["m"] (defScope s_halvings) := ⟨rfl, rfl, rfl, by decide +kernel, rfl, by decide +kernel, by decide +kernel⟩
theorem bits_int (n : Nat) : Builtin.Int.intBits (n : Int) = bitsN n := by
  unfold Builtin.Int.intBits bitsN
  by_cases h : n = 0
  · subst h
    rfl
  · rw [if_neg h, if_neg (by rw [beq_iff_eq]; omega), Int.natAbs_natCast]
theorem ok_halvings {P : Program} {w : World} {K : PySem.W.Frag} {mg : Str → Option Value} {base : Heap} {f : Addr} {fd : FuncData} {k : Nat} (D : Df K mg "halvings" s_halvings ["m"] f fd)
    (C1 : ∃ t, mg "SHORT" = some (.int 6 t)) (M : Bl mg) : FnOk P w K mg base CX0 (k + 1) f fd ["m"] spHalv := by
  obtain ⟨t1, g_SHORT⟩ := C1
  refine D.F.ok sc_halvings (fun vs H Q E h => ?_) (fun cdv A outer s H vs Q E hr h => ?_)
  · obtain ⟨d, n, L, m, rfl, _⟩ := h
    rfl
  obtain ⟨d, n, L, m, rfl, hm, kn, q⟩ := h
  refine ⟨_, (pss_cons (ps_set (i := 1) sc_halvings.nd rfl (Or.inl rfl) (pe_lst (pa_cons (pv 0) pa_nil)))
   (pss_cons (ps_while PassesOwn.never (pt_cmpR op_gt (pe_ix ix_list (pv 1) (pe_un un_neg pe_int) (fun _ _ => rfl)) (pe_glob (v := .int 6) (by rfl) g_SHORT ⟨_, rfl⟩) (nomark _))
    (pss_one (ps_expr (pe_bm PySem.F.plainAttrs_list PySem.F.slot_list_append PySem.F.type_list_append mt_append (pv 1) (pa_cons (pe_op op_mul pe_int (pe_bits (pe_op op_sub (pe_ix ix_list (pv 1) (pe_un un_neg pe_int) (fun _ _ => rfl)) pe_int))) pa_nil)))))
   (pss_one (ps_ret (pv 1))))), ?_⟩
  have hs := halv_short hm
  walk_at "go"
  rename_i l H1 kn1
  refine kSeq (kWhile (fun x σ' H' => ∃ acc : List Nat, σ' = [some (.int (m : Int)), some (.ref l)] ∧ x < 2 ^ 62 ∧ acc ++ halv x = halv m ∧ Kn d n ((l, .lst ((acc ++ [x]).map vN)) :: L) H') m ⟨[], rfl, hm, rfl, kn1⟩ (fun x σ' H' hW => ?_) (fun σ H Q Q' hm' hh => ?_))
  · obtain ⟨acc, rfl, hx, hacc, kn2⟩ := hW
    have hlen : (acc ++ [x]).length ≤ 126 := by
      have h1 := congrArg List.length hacc
      rw [List.length_append] at h1
      have h2 : 1 ≤ (halv x).length := by
        by_cases h6 : 6 < x
        · rw [halv_big h6, List.length_cons]; omega
        · rw [halv_end h6, List.length_singleton]; omega
      rw [List.length_append, List.length_singleton]
      omega
    have hlast : atI ((acc ++ [x]).map vN) (-1) = some (.int (x : Int)) := by
      have := atLast (acc.map (fun n : Nat => (n : Int))) (x : Int)
      rw [← this]
      congr 1
      simp [vN, Function.comp_def]
    walk_at "go"
    refine kIxL (kn2.seqL List.mem_cons_self) hlast ?_
    walk_at "go"
    refine iteD (fun h6 => ?_) (fun h6 => ?_)
    · have h6' : 6 < x := by omega
      have hbl := bits_less h6'
      have hb62 := bits_le (n := x - 1) (by omega)
      walk_at "go"
      refine kBits (n := 0) ?_
      walk_at "go"
      refine kIxL (kn2.seqL List.mem_cons_self) hlast ?_
      walk_at "go"
      have e : (x : Int) - 1 = ((x - 1 : Nat) : Int) := by omega
      rw [e, bits_int]
      refine kAppK kn2 0 rfl (by rw [List.length_map]; omega) fun H5 kn5 => ?_
      refine ⟨2 * bitsN (x - 1), hbl, acc ++ [x], rfl, by omega, ?_, ?_⟩
      · rw [List.append_assoc, List.singleton_append, ← halv_big h6']
        exact hacc
      · have e : (2 * (bitsN (x - 1) : Int)) = ((2 * bitsN (x - 1) : Nat) : Int) := by omega
        rw [e] at kn5
        rw [List.map_append]
        exact kn5
    · have h6' : ¬ 6 < x := by omega
      walk_at "go"
      rw [halv_end h6'] at hacc
      rw [hacc] at kn2
      exact q _ _ kn2
  · obtain ⟨v, hv, i, ei, p, xs, kk, vv, e1, e2, hS, ha, a, b, e3, e4, kb, ek, hq⟩ := hh
    exact ⟨v, hv, i, ei, p, xs, kk, vv, e1, e2, hS, ha, a, b, e3, e4, kb, ek, hm' _ _ hq⟩

/-! ### needed_steps of the program -/
abbrev s_needed_steps : Stmt := topS 21
theorem sc_needed_steps : FnScope ["m"] ["m"] (defScope s_needed_steps) := ⟨rfl, rfl, rfl, by decide +kernel, rfl, by decide +kernel, by decide +kernel⟩
def spNeeded : Sp := fun vs H Q _ => ∃ (d : Addr) (n : Nat) (L : Led) (m : Nat), vs = [.int (m : Int)] ∧ m < 2 ^ 62 ∧ Kn d n L H ∧ ∀ H', Kn d n L H' → Q (.int (((halv m).length - 1 : Nat) : Int)) H'
theorem ok_needed_steps {P : Program} {w : World} {K : PySem.W.Frag} {mg : Str → Option Value} {base : Heap} {k : Nat} {f a_halvings : Addr} {fd fd_halvings : FuncData} (D : Df K mg "needed_steps" s_needed_steps ["m"] f fd) (D_halvings : Df K mg "halvings" s_halvings ["m"] a_halvings fd_halvings) (C1 : ∃ t, mg "SHORT" = some (.int 6 t)) (M : Bl mg) : FnOk P w K mg base CX0 (k + 1 + 1) f fd ["m"] spNeeded := by
  have G_halvings := ok_halvings (P := P) (w := w) (base := base) (k := 0) D_halvings C1 M
  refine D.F.ok sc_needed_steps (fun vs H Q E h => ?_) (fun cdv A outer s H vs Q E hr h => ?_)
  · obtain ⟨d, n, L, m, rfl, _⟩ := h
    rfl
  obtain ⟨d, n, L, m, rfl, hm, kn, g⟩ := h
  refine ⟨_, (pss_one (ps_ret (pe_op op_sub (pe_callB c_len (by rfl) M.len PySem.boot_len (pa_cons (pe_call G_halvings (hr.mono (by omega)) (by rfl) D_halvings.g D_halvings.F.kp D_halvings.b .nil pass0 (pa_cons (pv 0) pa_nil)) pa_nil)) pe_int))), ?_⟩
  have h1 := halv_pos m
  walk_at "go"
  refine ⟨d, n, L, m, rfl, hm, kn, fun l H1 kn1 => ?_⟩
  walk_at "go"
  have e : ((List.map vN (halv m)).length : Int) - 1 = (((halv m).length - 1 : Nat) : Int) := by
    rw [List.length_map]
    omega
  rw [e]
  exact g _ kn1.tail

/-! ### for i in range(..) whose number is drawn on the way -/
theorem kRngD {σ : L2.St} {H : Hp} {tr : TA} {tb : TS} {j : Nat} {nx bk ct : L2.St → Hp → Prop} {rt : VK} (G : Int → Hp → Prop) (src : ∀ R : List V → Hp → Prop, (∀ n H1, G n H1 → R [.int n] H1) → tr σ H R)
    (body : ∀ n H1, G n H1 → (0 ≤ n ∧ n ≤ 100000) ∧ ∃ Pv : Nat → L2.St → Hp → Prop, Pv 0 σ H1 ∧ (∀ (i : Nat) σ' H', (i : Int) < n → Pv i σ' H' → tb (Ends.mk (Pv (i + 1)) rt nx (Pv (i + 1))) (σ'.set j (some (.int (i : Int)))) H') ∧ ∀ σ' H', Pv n.toNat σ' H' → nx σ' H') :
    tFor (iRng1 tr) (gName j) tb (Ends.mk nx rt bk ct) σ H := by
  refine src _ fun n H1 hG => ?_
  obtain ⟨hn, Pv, h0, hs, hd⟩ := body n H1 hG
  refine ⟨n, rfl, by omega, by omega, for_range (lo := 0) (n := n.toNat) Pv h0 (fun i σ' H' hi p => ?_) hd⟩
  have e0 : (0 : Int) + (i : Int) = (i : Int) := Int.zero_add _
  show tb (Ends.mk (Pv (i + 1)) rt nx (Pv (i + 1))) (σ'.set j (some (.int ((0 : Int) + (i : Int))))) H'
  rw [e0]
  exact hs i σ' H' (by omega) p

/-! ### step by step -/
def itL (xs : List Int) : Nat → List Int → List Int
  | 0, ls => ls
  | k + 1, ls => roundL xs (itL xs k ls) 0
def shortL (xs ls : List Int) (m : Nat) : List Int := itL xs ((halv m).length - 1) ls
/-- names of a pointing for m -/
structure NmOk (xs ls : List Int) (m : Nat) : Prop where
  len : ls.length = xs.length
  nd : ls.Nodup
  low : ∀ x ∈ ls, 0 ≤ x ∧ x < (m : Int)
theorem itL_ok {xs ls : List Int} {m : Int} (hp : PtOk m xs) (hl : ls.length = xs.length) (hin : LbIn ls) (hpr : properB xs ls = true) : ∀ k, (itL xs k ls).length = xs.length ∧ LbIn (itL xs k ls) ∧ properB xs (itL xs k ls) = true
  | 0 => ⟨hl, hin, hpr⟩
  | k + 1 => by
    obtain ⟨h1, h2, h3⟩ := itL_ok hp hl hin hpr k
    exact ⟨roundL_len _ _ _, roundL_in hp h1 h2, round_proper hp h1 h2 h3⟩
theorem NmOk.proper {xs ls : List Int} {m : Nat} {t : Int} (hp : PtOk t xs) (h : NmOk xs ls m) : properB xs ls = true := by
  refine proper_of fun i x hx => ?_
  have hg := hp.goal i x hx
  have hi := (List.getElem?_eq_some_iff.mp hx).1
  have hl := h.len
  have ha : ls[i]? = some ls[i] := List.getElem?_eq_getElem (by omega)
  have hb : ls[x.toNat]? = some ls[x.toNat] := List.getElem?_eq_getElem (by omega)
  rw [getD_of ha, getD_of hb]
  intro e
  have key := (List.getElem_inj h.nd).mp e
  omega
theorem NmOk.into {xs ls : List Int} {m : Nat} (h : NmOk xs ls m) (hm : m < 2 ^ 62) : LbIn ls := fun x hx => by
  have := h.low x hx
  omega
def spShort : Sp := fun vs H Q _ => ∃ (d : Addr) (n : Nat) (L : Led) (p q : Addr) (xs ls : List Int) (m : Nat), vs = [.ref p, .ref q, .int (m : Int)] ∧ PtOk 60 xs ∧ NmOk xs ls m ∧ m < 2 ^ 62 ∧ (p, .tup (xs.map V.int)) ∈ L ∧ (q, .tup (ls.map V.int)) ∈ L ∧ Kn d n L H ∧
  ∀ r L2 H', (r, .tup ((shortL xs ls m).map V.int)) ∈ L2 → L.Sublist L2 → Kn d n L2 H' → Q (.ref r) H'

theorem kForMade {σ : L2.St} {H : Hp} {K : PySem.W.Frag} {tb : TS} {j : Nat} {te : TE} {nx bk ct : L2.St → Hp → Prop} {rt : VK} (G : Addr → List V → Hp → Prop) (src : ∀ R : VK, (∀ p xs H', G p xs H' → R (.ref p) H') → te σ H R)
    (body : ∀ p xs H1, G p xs H1 → SqL K H1 p xs ∧ ∃ Pv : Nat → L2.St → Hp → Prop, Pv 0 σ H1 ∧ (∀ i σ' H', Pv i σ' H' → SqL K H' p xs) ∧ (∀ i x σ' H', xs[i]? = some x → Pv i σ' H' → tb (Ends.mk (Pv (i + 1)) rt nx (Pv (i + 1))) (σ'.set j (some x)) H') ∧ ∀ σ' H', Pv xs.length σ' H' → nx σ' H') :
    tFor (iList K te) (gName j) tb (Ends.mk nx rt bk ct) σ H := by
  refine src _ fun p xs H1 hG => ?_
  obtain ⟨hq, Pv, h0, hl, hs, hd⟩ := body p xs H1 hG
  exact ⟨p, rfl, ⟨xs, hq⟩, for_list (xs := xs) Pv h0 (fun i σ' H' _ p => hl i σ' H' p) (fun i x σ' H' hx p => hs i x σ' H' hx p) hd⟩
theorem atLastR {as : List Addr} {k : Nat} {a : Addr} (hl : as.length = k + 1) (ha : as[k]? = some a) : atI (as.map V.ref) (-1) = some (V.ref a) := by
  have e : as.map V.ref = (as.take k).map V.ref ++ [V.ref a] := by
    have e2 : as = as.take k ++ [a] := by
      have e3 : as.take (k + 1) = as.take k ++ [a] := by rw [List.take_add_one, ha]; rfl
      rw [List.take_of_length_le (by omega)] at e3
      exact e3
    conv => lhs; rw [e2, List.map_append]
    rfl
  rw [e]
  exact atI_last _ _

/-! ### shortenings, shortened of the program -/
abbrev s_shortenings : Stmt := topS 22
theorem sc_shortenings : FnScope ["pointing", "names", "m", "told", "_"] ["pointing", "names", "m"] (defScope s_shortenings) := ⟨rfl, rfl, rfl, by decide +kernel, rfl, by decide +kernel, by decide +kernel⟩
def spShortenings : Sp := fun vs H Q _ => ∃ (d : Addr) (n : Nat) (L : Led) (p q : Addr) (xs ls : List Int) (m : Nat), vs = [.ref p, .ref q, .int (m : Int)] ∧ PtOk 60 xs ∧ ls.length = xs.length ∧ LbIn ls ∧ properB xs ls = true ∧ m < 2 ^ 62 ∧ (p, .tup (xs.map V.int)) ∈ L ∧ (q, .tup (ls.map V.int)) ∈ L ∧ Kn d n L H ∧
  ∀ (l : Addr) (as : List Addr) (L2 : Led) H', as.length = (halv m).length → (∀ (i : Nat) a, as[i]? = some a → (a, .tup ((itL xs i ls).map V.int)) ∈ L2) → L.Sublist L2 → Kn d n ((l, .lst (as.map V.ref)) :: L2) H' → Q (.ref l) H'
section
variable {P : Program} {w : World} {K : PySem.W.Frag} {mg : Str → Option Value} {base : Heap} {C_NotProper fI_NotProper : Addr} {fd_NotProper : FuncData} {m_NotProper : Expr} {bm_NotProper : List Value}
theorem ok_shortenings (E_NotProper : Rf P K mg "NotProper" "house" C_NotProper fI_NotProper fd_NotProper m_NotProper bm_NotProper) {k : Nat} {f a_clashing a_check_proper a_unlike_place a_stepped a_step a_halvings a_needed_steps : Addr} {fd fd_clashing fd_check_proper fd_unlike_place fd_stepped fd_step fd_halvings fd_needed_steps : FuncData} (D : Df K mg "shortenings" s_shortenings ["pointing", "names", "m"] f fd) (D_clashing : Df K mg "clashing" s_clashing ["pointing", "labels"] a_clashing fd_clashing) (D_check_proper : Df K mg "check_proper" s_check_proper ["pointing", "labels"] a_check_proper fd_check_proper) (D_unlike_place : Df K mg "unlike_place" s_unlike_place ["one", "other"] a_unlike_place fd_unlike_place) (D_stepped : Df K mg "stepped" s_stepped ["label", "goal_label"] a_stepped fd_stepped) (D_step : Df K mg "step" s_step ["pointing", "labels"] a_step fd_step) (D_halvings : Df K mg "halvings" s_halvings ["m"] a_halvings fd_halvings) (D_needed_steps : Df K mg "needed_steps" s_needed_steps ["m"] a_needed_steps fd_needed_steps)
    (C1 : ∃ t, mg "SHORT" = some (.int 6 t)) (M : Bl mg) : FnOk P w K mg base (L2.CX P w) (k + 1 + 1 + 1 + 1) f fd ["pointing", "names", "m"] spShortenings := by
  have G_step := ok_step (w := w) (base := base) (k := 0) E_NotProper D_step D_clashing D_check_proper D_unlike_place D_stepped M
  have G_needed_steps := ok_needed_steps (P := P) (w := w) (base := base) (k := 0) D_needed_steps D_halvings C1 M
  refine D.F.okX sc_shortenings (fun vs H Q E h => ?_) (fun cdv A outer s H vs Q E hr h => ?_)
  · obtain ⟨d, n, L, p, q, xs, ls, m, rfl, _⟩ := h
    rfl
  obtain ⟨d, n, L, p, q, xs, ls, m, rfl, hp, hl, hin, hpr, hm, hpL, hqL, kn, g⟩ := h
  refine ⟨_, (pss_cons (ps_set (i := 3) sc_shortenings.nd rfl (Or.inl rfl) (pe_lst (pa_cons (pv 1) pa_nil)))
   (pss_cons (ps_for (passes_of rfl) rfl (pi_range1 (by rfl) M.range (pa_cons (pe_call G_needed_steps (hr.mono (by omega)) (by rfl) D_needed_steps.g D_needed_steps.F.kp D_needed_steps.b .nil pass0 (pa_cons (pv 2) pa_nil)) pa_nil)) (pg_name (i := 4) sc_shortenings.nd rfl (Or.inl rfl))
    (pss_one (ps_expr (pe_bm PySem.F.plainAttrs_list PySem.F.slot_list_append PySem.F.type_list_append mt_append (pv 3) (pa_cons (pe_callS G_step (hr.mono (by omega)) (by rfl) D_step.g D_step.F.kp D_step.b (fun σ => passAt (takes_of rfl rfl rfl rfl) σ) (pa_cons (pv 0) (pa_cons (pe_ix ix_list (pv 3) (pe_un un_neg pe_int) (fun _ _ => rfl)) pa_nil))) pa_nil)))))
   (pss_one (ps_ret (pv 3))))), ?_⟩
  have hs := halv_short hm
  have h1 := halv_pos m
  walk_at "go"
  rename_i l H1 kn1
  refine kSeq ?_
  refine kRngD (fun z H' => z = (((halv m).length - 1 : Nat) : Int) ∧ Kn d n ((l, HO.lst [V.ref q]) :: L) H') (fun R hR => ?_) (fun z H5 ⟨hz, kn6⟩ => ⟨by omega, fun j σ' H' => ∃ (y4 : Option V) (as : List Addr) (L2 : Led), σ' = [some (.ref p), some (.ref q), some (.int (m : Int)), some (.ref l), y4] ∧
      as.length = j + 1 ∧ (∀ (i : Nat) a, as[i]? = some a → (a, HO.tup ((itL xs i ls).map V.int)) ∈ L2) ∧ L.Sublist L2 ∧ Kn d n ((l, HO.lst (as.map V.ref)) :: L2) H', ⟨_, [q], L, rfl, rfl, fun i a hi => ?_, List.Sublist.refl _, kn6⟩, fun j σ' H' hj hW => ?_, fun σ' H' hW => ?_⟩)
  · walk_at "go"
    refine ⟨d, _, _, m, rfl, hm, kn1, fun H5 kn6 => ?_⟩
    walk_at "go"
    exact hR _ H5 ⟨rfl, kn6⟩
  · cases i with
    | zero =>
      have : q = a := by simpa using hi
      rw [← this]
      exact hqL
    | succ i => simp at hi
  · obtain ⟨y4, as, L2, rfl, hal, hat, hsub, k'⟩ := hW
    obtain ⟨g1, g2, g3⟩ := itL_ok hp hl hin hpr j
    obtain ⟨a, ha⟩ : ∃ a, as[j]? = some a := ⟨as[j], List.getElem?_eq_getElem (by omega)⟩
    have hlast : atI (as.map V.ref) (-1) = some (V.ref a) := by
      have e : as.map V.ref = (as.take j).map V.ref ++ [V.ref a] := by
        have e2 : as = as.take j ++ [a] := by
          have e3 : as.take (j + 1) = as.take j ++ [a] := by rw [List.take_add_one, ha]; rfl
          rw [List.take_of_length_le (by omega)] at e3
          exact e3
        conv => lhs; rw [e2, List.map_append]
        rfl
      rw [e]
      exact atI_last _ _
    have m1 := hat j a ha
    have mp : (p, HO.tup (xs.map V.int)) ∈ L2 := hsub.subset hpL
    walk_at "go"
    refine kIxL (k'.seqL List.mem_cons_self) hlast ?_
    walk_at "go"
    refine ⟨d, _, _, p, a, xs, itL xs j ls, rfl, hp, g1, g2, List.mem_cons_of_mem _ mp, List.mem_cons_of_mem _ m1, k', fun _ r H7 kn8 => ?_, fun c r hc => (no_clash g3 hc).elim⟩
    walk_at "go"
    refine ⟨_, as ++ [r], (r, HO.tup ((roundL xs (itL xs j ls) 0).map V.int)) :: L2, rfl, by simp [hal], fun i b hb => ?_, hsub.cons _, ?_⟩
    · by_cases hi : i < as.length
      · rw [List.getElem?_append_left hi] at hb
        exact List.mem_cons_of_mem _ (hat i b hb)
      · rw [List.getElem?_append_right (by omega)] at hb
        have hj0 : i - as.length = 0 := by
          cases hz : i - as.length with
          | zero => rfl
          | succ z => rw [hz] at hb; simp at hb
        rw [hj0] at hb
        have hyx : r = b := by simpa using hb
        have hj1 : i = j + 1 := by omega
        subst hj1
        subst hyx
        exact List.mem_cons_self
    · rename_i H9 kn9
      rw [List.map_append]
      exact kn9.perm (List.Perm.swap _ _ _)
  · obtain ⟨y4, as, L2, rfl, hal, hat, hsub, k'⟩ := hW
    walk_at "go"
    exact g l as L2 _ (by omega) hat hsub k'
end

/-! ### a hue eased away -/
/-- the least of 0, 1, 2 that is neither x nor y -/
def freeOf (x y : Int) : Int := if 0 ≠ x ∧ 0 ≠ y then 0 else if 1 ≠ x ∧ 1 ≠ y then 1 else 2
def easedAt (xs be ls : List Int) (hue : Int) (i : Nat) : Int := if ls.getD i 0 = hue then freeOf (ls.getD (xs.getD i 0).toNat 0) (be.getD i 0) else ls.getD i 0
def easedL (xs be ls : List Int) (hue : Int) : List Int := (List.range xs.length).map (easedAt xs be ls hue)

theorem freeOf_ne1 (x y : Int) : freeOf x y ≠ x := by
  unfold freeOf
  split
  · omega
  · split
    · omega
    · omega
theorem freeOf_ne2 (x y : Int) : freeOf x y ≠ y := by
  unfold freeOf
  split
  · omega
  · split
    · omega
    · omega
theorem freeOf_in (x y : Int) : 0 ≤ freeOf x y ∧ freeOf x y ≤ 2 := by
  unfold freeOf
  split
  · omega
  · split <;> omega
theorem easedL_len (xs be ls : List Int) (hue : Int) : (easedL xs be ls hue).length = xs.length := by
  unfold easedL
  rw [List.length_map, List.length_range]
theorem easedL_get {xs be ls : List Int} {hue : Int} {i : Nat} (hi : i < xs.length) : (easedL xs be ls hue)[i]? = some (easedAt xs be ls hue i) := by
  unfold easedL
  rw [List.getElem?_map, List.getElem?_range hi]
  rfl
theorem over_at {xs ls : List Int} {i : Nat} (hi : i < xs.length) : (roundL xs ls 1).getD i 0 = ls.getD (xs.getD i 0).toNat 0 := by
  rw [roundL_at hi, if_neg (by omega)]
  rfl
theorem over_len (xs ls : List Int) : (roundL xs ls 1).length = xs.length := roundL_len xs ls 1
theorem over_mem {xs ls : List Int} {m : Int} (hp : PtOk m xs) (hl : ls.length = xs.length) {P : Int → Prop} (h : ∀ y ∈ ls, P y) : ∀ y ∈ roundL xs ls 1, P y := by
  intro y hy
  unfold roundL at hy
  obtain ⟨i, hi, rfl⟩ := List.mem_map.mp hy
  have hi' := List.mem_range.mp hi
  rw [if_neg (by omega)]
  have hx : xs[i]? = some xs[i] := List.getElem?_eq_getElem hi'
  have hg := hp.goal i _ hx
  unfold overAt
  rw [getD_of hx, getD_of (List.getElem?_eq_getElem (show (xs[i]).toNat < ls.length by omega))]
  exact h _ (List.getElem_mem _)
/-- two rounds: what is there behind them -/
def twoL (xs ls : List Int) (hue : Int) : List Int := easedL xs ls (roundL xs ls 1) hue
theorem twoL_len (xs ls : List Int) (hue : Int) : (twoL xs ls hue).length = xs.length := easedL_len _ _ _ _
theorem twoL_proper {xs ls : List Int} {m hue : Int} (hp : PtOk m xs) (hl : ls.length = xs.length) (hpr : properB xs ls = true) : properB xs (twoL xs ls hue) = true := by
  refine proper_of fun i x hx => ?_
  have hi := (List.getElem?_eq_some_iff.mp hx).1
  have hg := hp.goal i x hx
  have hxn : x.toNat < xs.length := by omega
  have hy : xs[x.toNat]? = some xs[x.toNat] := List.getElem?_eq_getElem hxn
  have hzn := hp.goal x.toNat _ hy
  have h2 := proper_at hp hpr hy
  unfold twoL
  rw [getD_of (easedL_get hi), getD_of (easedL_get hxn)]
  unfold easedAt
  rw [over_at hi, over_at hxn, getD_of hx, getD_of hy, over_at hxn, over_at (by omega), getD_of hy]
  by_cases c1 : ls.getD x.toNat 0 = hue
  · have c2 : ¬ ls.getD (xs[x.toNat]).toNat 0 = hue := fun e => h2 (c1.trans e.symm)
    rw [if_pos c1, if_neg c2]
    exact freeOf_ne1 _ _
  · rw [if_neg c1]
    by_cases c2 : ls.getD (xs[x.toNat]).toNat 0 = hue
    · rw [if_pos c2]
      exact fun e => freeOf_ne2 _ _ e.symm
    · rw [if_neg c2]
      exact h2
theorem twoL_mem {xs ls : List Int} {m hue : Int} (hp : PtOk m xs) (hl : ls.length = xs.length) {P : Int → Prop} (h : ∀ y ∈ ls, y ≠ hue → P y) (hf : ∀ y, 0 ≤ y → y ≤ 2 → P y) : ∀ y ∈ twoL xs ls hue, P y := by
  intro y hy
  unfold twoL easedL at hy
  obtain ⟨i, hi, rfl⟩ := List.mem_map.mp hy
  have hi' := List.mem_range.mp hi
  have hx : xs[i]? = some xs[i] := List.getElem?_eq_getElem hi'
  have hg := hp.goal i _ hx
  unfold easedAt
  rw [over_at hi', getD_of hx]
  by_cases c1 : ls.getD (xs[i]).toNat 0 = hue
  · rw [if_pos c1]
    have := freeOf_in ((roundL xs ls 1).getD (xs[i]).toNat 0) (ls.getD i 0)
    exact hf _ this.1 this.2
  · rw [if_neg c1]
    refine h _ ?_ c1
    rw [getD_of (List.getElem?_eq_getElem (show (xs[i]).toNat < ls.length by omega))]
    exact List.getElem_mem _
theorem twoL_in {xs ls : List Int} {m hue : Int} (hp : PtOk m xs) (hl : ls.length = xs.length) (hin : LbIn ls) : LbIn (twoL xs ls hue) :=
  twoL_mem hp hl (fun y hy _ => hin y hy) fun y h0 h1 => ⟨h0, by omega⟩

/-! ### the second round of one house -/
abbrev s_given_up : Stmt := topS 27
theorem sc_given_up : FnScope ["ahead", "label", "goal_label", "hue", "left"] ["ahead", "label", "goal_label", "hue"] (defScope s_given_up) := ⟨rfl, rfl, rfl, by decide +kernel, rfl, by decide +kernel, by decide +kernel⟩
theorem kLcK {d : Addr} {n : Nat} {L : Led} {H : Hp} {K : PySem.W.Frag} {σ : L2.St} {Q : VK} {p : Addr} {xs : List V} {te0 te : TE} {tt : TT} {j : Nat} {vs : List Nat} (k : Kn d n L H) (hq : ∀ H, SqT K H p xs) (src : ∀ R : VK, R (.ref p) H → te0 σ H R)
    (hz : xs.length ≤ 100000) (acc : Nat → List V) (a0 : acc 0 = []) (al : ∀ i, (acc i).length ≤ i) (hw : ∀ x, wipe ((wipe σ vs).set j (some x)) vs = wipe σ vs)
    (turn : ∀ i x H' D, xs[i]? = some x → Kn d n ((D, .lst (acc i)) :: L) H' → ∀ (N1 : VK) (N2 : Hp → Prop), (∀ y H4, Kn d n ((D, .lst (acc i)) :: L) H4 → acc (i + 1) = acc i ++ [y] → N1 y H4) → (∀ H3, Kn d n ((D, .lst (acc i)) :: L) H3 → acc (i + 1) = acc i → N2 H3) →
      tt ((wipe σ vs).set j (some x)) H' fun b H3 => if b = true then te ((wipe σ vs).set j (some x)) H3 N1 else N2 H3)
    (q : ∀ D H', Kn d n ((D, .lst (acc xs.length)) :: L) H' → Q (.ref D) H') : tLc (iTup K te0) (gName j) tt te vs σ H Q := by
  refine src _ ⟨p, rfl, ⟨xs, hq H⟩, fun D hD => lc_tup (xs := xs) (fun i H' => Kn d n ((D, .lst (acc i)) :: L) H') ?_ (fun i H' _ kn => hq H') (fun i x H' hx kn => ⟨hw x, ?_⟩) (fun H' kn => q D H' kn)⟩
  · rw [a0]
    exact k.new hD
  · have hi : i < xs.length := (List.getElem?_eq_some_iff.mp hx).1
    refine turn i x H' D hx kn _ _ (fun y H4 kn4 e => ⟨acc i, kn4.at 0 rfl, szL' (by have := al i; omega), ?_⟩) (fun H3 kn3 e => ?_)
    · rw [e]
      exact kn4.put 0 rfl
    · rw [e]
      exact kn3
theorem kListT3 {d : Addr} {n : Nat} {L : Led} {H : Hp} {Q : VK} {K : PySem.W.Frag} {p : Addr} {xs : List V} (h : SqT K H p xs) (k : Kn d n L H) (q : ∀ l H', Kn d n ((l, .lst xs) :: L) H' → Q (.ref l) H') : rList2 K [.ref p] H Q := ⟨p, xs, rfl, .inr h, fun l hl => q l _ (k.new hl)⟩
theorem kNiT2 {H : Hp} {Q : VK} {K : PySem.W.Frag} {p : Addr} {x : Int} {ns : List Int} (h : SqT K H p (ns.map V.int)) (g : Q (.bl (!decide (x ∈ ns))) H) : rIn K true (.int x) (.ref p) H Q := by
  refine ⟨p, _, rfl, .inr h, rfl, flatInts ns, ?_⟩
  rw [if_pos rfl, inInts]
  exact g
def spGiven : Sp := fun vs H Q _ => ∃ (d : Addr) (n : Nat) (L : Led) (x a y hue : Int), vs = [.int x, .int a, .int y, .int hue] ∧ Kn d n L H ∧ ∀ H', Kn d n L H' → Q (.int (if a = hue then freeOf y x else a)) H'
theorem ok_given_up {P : Program} {w : World} {K : PySem.W.Frag} {mg : Str → Option Value} {base : Heap} {k : Nat} {f : Addr} {fd : FuncData} (D : Df K mg "given_up" s_given_up ["ahead", "label", "goal_label", "hue"] f fd)  (C2 : ∃ a, mg "LEFT_HUES" = some (.ref a) ∧ ∀ H, SqT K H a (([0, 1, 2] : List Int).map V.int)) (M : Bl mg) : FnOk P w K mg base CX0 (k + 1) f fd ["ahead", "label", "goal_label", "hue"] spGiven := by
  obtain ⟨A_LEFT_HUES, g_LEFT_HUES, hQ⟩ := C2
  refine D.F.ok sc_given_up (fun vs H Q E h => ?_) (fun cdv A outer s H vs Q E hr h => ?_)
  · obtain ⟨d, n, L, x, a, y, hue, rfl, _⟩ := h
    rfl
  obtain ⟨d, n, L, x, a, y, hue, rfl, kn, g⟩ := h
  refine ⟨_, (pss_cons (ps_if (pt_cmpR op_ne (pv 1) (pv 3) (nomark _)) (pss_one (ps_ret (pv 1))) pss_nil)
   (pss_one (ps_ret (pe_callB (cr_min rfl) (by rfl) M.min (by decide +kernel) (pa_cons (pe_lc (own := [("left", 4)]) (g := gName 4) (by rfl) sc_given_up.nd (pi_tup (pe_glob (v := .ref A_LEFT_HUES) (by rfl) g_LEFT_HUES rfl)) (blkOk_by (own := [("left", 4)]) (N := ["ahead", "label", "goal_label", "hue", "left"]) (sc := defScope s_given_up) (by decide +kernel)) (fun _ _ _ _ _ => (pg_name (i := 4) sc_given_up.nd rfl (Or.inl rfl))) (fun _ _ _ _ _ => (pts_one (pt_cmpR (niQ (K := K) rfl) (pv 4) (pe_tup (pa_cons (pv 0) (pa_cons (pv 2) pa_nil))) (by rfl)))) (fun _ _ _ _ _ => (pv 4))) pa_nil))))), ?_⟩
  refine kSeq (kIfS ?_)
  walk_at "go"
  refine iteIN (fun he => ?_) (fun he => ?_)
  · rw [if_neg he] at g
    walk_at "go"
    exact g _ kn
  rw [if_pos he] at g
  walk_at "go"
  refine kLcK kn hQ (fun R hR => by walk_at "go"; exact hR) (by decide) (fun i => ((([0, 1, 2] : List Int).take i).filter (fun h => !decide (h ∈ [x, y]))).map V.int) rfl (fun i => ?_) (fun _ => rfl) (fun i v H' D hx kn2 N1 N2 h1 h2 => ?_) (fun D H' kn2 => ?_)
  · rw [List.length_map]
    refine Nat.le_trans (List.length_filter_le _ _) ?_
    rw [List.length_take]
    exact Nat.min_le_left _ _
  · obtain ⟨z, hz, rfl⟩ : ∃ z, ([0, 1, 2] : List Int)[i]? = some z ∧ v = V.int z := by
      rw [List.getElem?_map] at hx
      cases e : ([0, 1, 2] : List Int)[i]? with
      | none => rw [e] at hx; cases hx
      | some z => rw [e] at hx; exact ⟨z, rfl, (Option.some.inj hx).symm⟩
    have nxt : (([0, 1, 2] : List Int).take (i + 1)).filter (fun h => !decide (h ∈ [x, y])) = (([0, 1, 2] : List Int).take i).filter (fun h => !decide (h ∈ [x, y])) ++ (if (!decide (z ∈ [x, y])) = true then [z] else []) := by
      rw [List.take_add_one, hz, List.filter_append]
      congr 1
      show List.filter _ [z] = _
      rw [List.filter_cons, List.filter_nil]
    refine kTest ?_
    walk_at "go"
    rename_i T H3 kn3
    refine kNiT2 (ns := [x, y]) (kn3.seqT List.mem_cons_self) ?_
    refine kBl ?_
    refine iteB (fun hb => ?_) (fun hb => ?_)
    · rw [hb, if_pos rfl] at nxt
      walk_at "go"
      refine h1 _ _ kn3.tail ?_
      rw [nxt, List.map_append]
      rfl
    · rw [hb, if_neg Bool.false_ne_true, List.append_nil] at nxt
      exact h2 _ kn3.tail (by rw [nxt])
  · have e3 : ([0, 1, 2] : List Int).take (([0, 1, 2] : List Int).map V.int).length = [0, 1, 2] := rfl
    rw [e3] at kn2
    have hm : freeOf y x ∈ ([0, 1, 2] : List Int).filter (fun h => !decide (h ∈ [x, y])) := by
      have h1 := freeOf_in y x
      have h2 := freeOf_ne1 y x
      have h3 := freeOf_ne2 y x
      rw [List.mem_filter]
      refine ⟨?_, by simp [h2, h3]⟩
      have : freeOf y x = 0 ∨ freeOf y x = 1 ∨ freeOf y x = 2 := by omega
      simp [this]
    have hleast : ∀ z ∈ ([0, 1, 2] : List Int).filter (fun h => !decide (h ∈ [x, y])), freeOf y x ≤ z := by
      intro z hz
      rw [List.mem_filter] at hz
      have h1 : z = 0 ∨ z = 1 ∨ z = 2 := by simpa using hz.1
      have h2 : ¬ z = x ∧ ¬ z = y := by simpa using hz.2
      unfold freeOf
      split
      · omega
      · split <;> omega
    walk_at "go"
    refine kMinL (ns := ([0, 1, 2] : List Int).filter (fun h => !decide (h ∈ [x, y]))) (kn2.seqL List.mem_cons_self) (List.length_pos_of_mem hm) fun m hm1 hm2 => ?_
    have e : m = freeOf y x := Int.le_antisymm (hm2 _ hm) (hleast _ hm1)
    rw [e]
    exact g _ kn2.tail

/-! ### a hue taken away, by the program -/
abbrev s_taken_over : Stmt := topS 26
theorem sc_taken_over : FnScope ["pointing", "labels", "goal"] ["pointing", "labels"] (defScope s_taken_over) := ⟨rfl, rfl, rfl, by decide +kernel, rfl, by decide +kernel, by decide +kernel⟩
abbrev s_both_rounds : Stmt := topS 28
theorem sc_both_rounds : FnScope ["pointing", "labels", "hue", "first", "second", "house", "goal"] ["pointing", "labels", "hue"] (defScope s_both_rounds) := ⟨rfl, rfl, rfl, by decide +kernel, rfl, by decide +kernel, by decide +kernel⟩
def spOver : Sp := fun vs H Q _ => ∃ (d : Addr) (n : Nat) (L : Led) (p q : Addr) (xs ls : List Int), vs = [.ref p, .ref q] ∧ PtOk 60 xs ∧ ls.length = xs.length ∧ (p, .tup (xs.map V.int)) ∈ L ∧ (q, .tup (ls.map V.int)) ∈ L ∧ Kn d n L H ∧ ∀ r H', Kn d n ((r, .tup ((roundL xs ls 1).map V.int)) :: L) H' → Q (.ref r) H'
def spBoth (C : Addr) : Sp := fun vs H Q E => ∃ (d : Addr) (n : Nat) (L : Led) (p q : Addr) (xs ls : List Int) (hue : Int), vs = [.ref p, .ref q, .int hue] ∧ PtOk 60 xs ∧ ls.length = xs.length ∧ (p, .tup (xs.map V.int)) ∈ L ∧ (q, .tup (ls.map V.int)) ∈ L ∧ Kn d n L H ∧
  (properB xs ls = true → ∀ l a b H', Kn d n ((l, .lst [.ref a, .ref b]) :: (b, .tup ((twoL xs ls hue).map V.int)) :: (a, .tup ((roundL xs ls 1).map V.int)) :: L) H' → Q (.ref l) H') ∧ ∀ c r, clashL xs ls xs.length = c :: r → ∀ e H', Kn d n ((e, .xd [(("house" : Str), .int c)]) :: L) H' → E (.ref C) (some e) H'
theorem ok_taken_over {P : Program} {w : World} {K : PySem.W.Frag} {mg : Str → Option Value} {base : Heap} {k : Nat} {f : Addr} {fd : FuncData} (D : Df K mg "taken_over" s_taken_over ["pointing", "labels"] f fd)  (M : Bl mg) : FnOk P w K mg base CX0 (k + 1) f fd ["pointing", "labels"] spOver := by
  refine D.F.ok sc_taken_over (fun vs H Q E h => ?_) (fun cdv A outer s H vs Q E hr h => ?_)
  · obtain ⟨d, n, L, p, q, xs, ls, rfl, _⟩ := h
    rfl
  obtain ⟨d, n, L, p, q, xs, ls, rfl, hp, hl, hpL, hqL, kn, g⟩ := h
  refine ⟨_, (pss_one (ps_ret (pe_callTy c_tuple (by rfl) M.tuple (by decide +kernel) (pa_cons (pe_lc (own := [("goal", 2)]) (g := gName 2) (by rfl) sc_taken_over.nd (pi_tup (pv 0)) (blkOk_by (own := [("goal", 2)]) (N := ["pointing", "labels", "goal"]) (sc := defScope s_taken_over) (by decide +kernel)) (fun _ _ _ _ _ => (pg_name (i := 2) sc_taken_over.nd rfl (Or.inl rfl))) (fun _ _ _ _ _ => pts_nil) (fun _ _ _ _ _ => (pe_ix (ixT (K := K) rfl) (pv 1) (pv 2) (fun _ _ => rfl)))) pa_nil)))), ?_⟩
  have h60 := hp.most
  walk_at "go"
  refine kLcT kn hpL (fun R hR => by walk_at "go"; exact hR) (by rw [List.length_map]; omega) (fun i => ((List.range i).map (overAt xs ls)).map V.int) rfl (fun i => by simp) (fun _ => rfl) (fun i x H' D hx kn2 N1 N2 h1 _ => ?_) (fun D H' kn2 => ?_)
  · obtain ⟨z, hz, rfl⟩ : ∃ z, xs[i]? = some z ∧ x = V.int z := by
      rw [List.getElem?_map] at hx
      cases e : xs[i]? with
      | none => rw [e] at hx; cases hx
      | some z => rw [e] at hx; exact ⟨z, rfl, (Option.some.inj hx).symm⟩
    have hg := hp.goal i _ hz
    have hb : ls[z.toNat]? = some ls[z.toNat] := List.getElem?_eq_getElem (by omega)
    refine kYes (iteT ?_)
    walk_at "go"
    refine kIxT (kn2.seqT (List.mem_cons_of_mem _ hqL)) (atI_at (j := z.toNat) (by omega) (by rw [List.getElem?_map, hb]; rfl)) ?_
    refine h1 _ _ kn2 ?_
    have e : overAt xs ls i = ls[z.toNat] := by
      unfold overAt
      rw [getD_of hz, getD_of hb]
    rw [List.range_succ, List.map_append, List.map_append, ← e]
    rfl
  · rw [List.length_map] at kn2
    walk_at "go"
    rename_i r H3 kn3
    have e : roundL xs ls 1 = (List.range xs.length).map (overAt xs ls) := by
      unfold roundL
      rw [if_neg (by omega)]
    rw [← e] at kn3
    exact g r _ (kn3.sub (((List.Sublist.refl L).cons _).cons₂ _))
section
variable {P : Program} {w : World} {K : PySem.W.Frag} {mg : Str → Option Value} {base : Heap} {C_NotProper fI_NotProper : Addr} {fd_NotProper : FuncData} {m_NotProper : Expr} {bm_NotProper : List Value}
theorem ok_both_rounds (E_NotProper : Rf P K mg "NotProper" "house" C_NotProper fI_NotProper fd_NotProper m_NotProper bm_NotProper) {k : Nat} {f a_clashing a_check_proper a_taken_over a_given_up : Addr} {fd fd_clashing fd_check_proper fd_taken_over fd_given_up : FuncData} (D : Df K mg "both_rounds" s_both_rounds ["pointing", "labels", "hue"] f fd) (D_clashing : Df K mg "clashing" s_clashing ["pointing", "labels"] a_clashing fd_clashing) (D_check_proper : Df K mg "check_proper" s_check_proper ["pointing", "labels"] a_check_proper fd_check_proper) (D_taken_over : Df K mg "taken_over" s_taken_over ["pointing", "labels"] a_taken_over fd_taken_over) (D_given_up : Df K mg "given_up" s_given_up ["ahead", "label", "goal_label", "hue"] a_given_up fd_given_up) (C2 : ∃ a, mg "LEFT_HUES" = some (.ref a) ∧ ∀ H, SqT K H a (([0, 1, 2] : List Int).map V.int)) (M : Bl mg) :
    FnOk P w K mg base (L2.CX P w) (k + 1 + 1 + 1) f fd ["pointing", "labels", "hue"] (spBoth C_NotProper) := by
  have G_check_proper := ok_check_proper (w := w) (base := base) (k := 0) E_NotProper D_check_proper D_clashing M
  have G_taken_over := ok_taken_over (P := P) (w := w) (base := base) (k := 0) D_taken_over M
  have G_given_up := ok_given_up (P := P) (w := w) (base := base) (k := 0) D_given_up C2 M
  refine D.F.okX sc_both_rounds (fun vs H Q E h => ?_) (fun cdv A outer s H vs Q E hr h => ?_)
  · obtain ⟨d, n, L, p, q, xs, ls, hue, rfl, _⟩ := h
    rfl
  obtain ⟨d, n, L, p, q, xs, ls, hue, rfl, hp, hl, hpL, hqL, kn, gR, gE⟩ := h
  refine ⟨_, (pss_cons (ps_expr (pe_callS G_check_proper (hr.mono (by omega)) (by rfl) D_check_proper.g D_check_proper.F.kp D_check_proper.b (fun σ => passAt (takes_of rfl rfl rfl rfl) σ) (pa_cons (pv 0) (pa_cons (pv 1) pa_nil))))
   (pss_cons (ps_set (i := 3) sc_both_rounds.nd rfl (Or.inr rfl) (pe_call G_taken_over (hr.mono (by omega)) (by rfl) D_taken_over.g D_taken_over.F.kp D_taken_over.b .nil pass0 (pa_cons (pv 0) (pa_cons (pv 1) pa_nil))))
   (pss_cons (ps_setLc (i := 4) (own := [("house", 5), ("goal", 6)]) (g := gTup K 2 (gCons (gName 5) (gCons (gName 6) gNil))) (by rfl) sc_both_rounds.nd rfl rfl (sw_true rfl rfl rfl (by decide +kernel)) (pi_enumU (by rfl) M.enumerate (pa_cons (pv 0) pa_nil)) (blkOk_by (own := [("house", 5), ("goal", 6)]) (N := ["pointing", "labels", "hue", "first", "second", "house", "goal"]) (sc := defScope s_both_rounds) (by decide +kernel)) (fun _ _ _ _ _ => (pg_tup rfl (pgs_cons (pg_name (i := 5) sc_both_rounds.nd rfl (Or.inl rfl)) (pgs_cons (pg_name (i := 6) sc_both_rounds.nd rfl (Or.inl rfl)) pgs_nil)))) (fun _ _ _ _ _ => pts_nil) (fun _ _ _ _ _ => (pe_call G_given_up (hr.mono (by omega)) (by rfl) D_given_up.g D_given_up.F.kp D_given_up.b .nil pass0 (pa_cons (pe_ix (ixT (K := K) rfl) (pv 1) (pv 5) (fun _ _ => rfl)) (pa_cons (pe_ix (ixT (K := K) rfl) (pv 3) (pv 5) (fun _ _ => rfl)) (pa_cons (pe_ix (ixT (K := K) rfl) (pv 3) (pv 6) (fun _ _ => rfl)) (pa_cons (pv 2) pa_nil)))))))
   (pss_one (ps_ret (pe_lst (pa_cons (pv 3) (pa_cons (pe_callTy c_tuple (by rfl) M.tuple (by decide +kernel) (pa_cons (pv 4) pa_nil)) pa_nil)))))))), ?_⟩
  have h60 := hp.most
  walk_at "go"
  refine ⟨d, n, L, p, q, xs, ls, rfl, hp, hl, hpL, hqL, kn, fun hpr H1 kn1 => ?_, gE⟩
  walk_at "go"
  refine ⟨d, n, L, p, q, xs, ls, rfl, hp, hl, hpL, hqL, kn1, fun a H2 kn2 => ?_⟩
  walk_at "go"
  have hfl := over_len xs ls
  refine kLcE kn2 (List.mem_cons_of_mem _ hpL) (fun R hR => by walk_at "go"; exact hR) (by rw [List.length_map]; omega) (fun i => ((List.range i).map (easedAt xs ls (roundL xs ls 1) hue)).map V.int) rfl (fun i => by simp) (fun _ _ => rfl) (fun i x H' D T hx kn3 N1 N2 h1 _ => ?_) (fun D H' kn3 => ?_)
  · obtain ⟨z, hz, rfl⟩ : ∃ z, xs[i]? = some z ∧ x = V.int z := by
      rw [List.getElem?_map] at hx
      cases e : xs[i]? with
      | none => rw [e] at hx; cases hx
      | some z => rw [e] at hx; exact ⟨z, rfl, (Option.some.inj hx).symm⟩
    have hi' : i < xs.length := (List.getElem?_eq_some_iff.mp hz).1
    have hg := hp.goal i _ hz
    have ha : ls[i]? = some ls[i] := List.getElem?_eq_getElem (by omega)
    have hb : (roundL xs ls 1)[i]? = some (roundL xs ls 1)[i] := List.getElem?_eq_getElem (by omega)
    have hc : (roundL xs ls 1)[z.toNat]? = some (roundL xs ls 1)[z.toNat] := List.getElem?_eq_getElem (by omega)
    have ec : atI ((roundL xs ls 1).map V.int) z = some (V.int (roundL xs ls 1)[z.toNat]) := atI_at (j := z.toNat) (by omega) (by rw [List.getElem?_map, hc]; rfl)
    have ea : easedAt xs ls (roundL xs ls 1) hue i = if (roundL xs ls 1)[i] = hue then freeOf (roundL xs ls 1)[z.toNat] ls[i] else (roundL xs ls 1)[i] := by
      unfold easedAt
      rw [getD_of ha, getD_of hz, getD_of hb, getD_of hc]
    have mq := List.mem_cons_of_mem (T, HO.tup [.int (i : Int), .int z]) (List.mem_cons_of_mem (D, HO.lst (((List.range i).map (easedAt xs ls (roundL xs ls 1) hue)).map V.int)) (List.mem_cons_of_mem (a, HO.tup ((roundL xs ls 1).map V.int)) hqL))
    have mf : (a, HO.tup ((roundL xs ls 1).map V.int)) ∈ (T, HO.tup [.int (i : Int), .int z]) :: (D, HO.lst (((List.range i).map (easedAt xs ls (roundL xs ls 1) hue)).map V.int)) :: (a, HO.tup ((roundL xs ls 1).map V.int)) :: L := List.mem_cons_of_mem _ (List.mem_cons_of_mem _ List.mem_cons_self)
    refine kYes (iteT ?_)
    walk_at "go"
    refine kIxT (kn3.seqT mq) (atInt ha) ?_
    walk_at "go"
    refine kIxT (kn3.seqT mf) (atInt hb) ?_
    walk_at "go"
    refine kIxT (kn3.seqT mf) ec ?_
    walk_at "go"
    refine ⟨d, n, _, _, _, _, hue, rfl, kn3, fun H5 kn5 => ?_⟩
    rw [← ea]
    refine h1 _ _ kn5 ?_
    rw [List.range_succ, List.map_append, List.map_append]
    rfl
  · rw [List.length_map] at kn3
    have e : (List.range xs.length).map (easedAt xs ls (roundL xs ls 1) hue) = twoL xs ls hue := rfl
    rw [e] at kn3
    walk_at "go"
    rename_i b H4 kn4 l H5 kn5
    refine gR hpr l a b _ ?_
    exact kn5.sub (((((List.Sublist.refl L).cons₂ _).cons _).cons₂ _).cons₂ _)
end

/-! ### rows in the ledger -/
/-- the ledger has these rows at these addresses -/
structure RowsAt (L : Led) (as : List Addr) (rows : List (List Int)) : Prop where
  len : as.length = rows.length
  at_ : ∀ (i : Nat) (a : Addr) (r : List Int), as[i]? = some a → rows[i]? = some r → (a, HO.tup (r.map V.int)) ∈ L
theorem RowsAt.up {L L' : Led} {as : List Addr} {rows : List (List Int)} (h : RowsAt L as rows) (s : ∀ y, y ∈ L → y ∈ L') : RowsAt L' as rows := ⟨h.len, fun i a r h1 h2 => s _ (h.at_ i a r h1 h2)⟩
theorem RowsAt.app {L : Led} {as bs : List Addr} {r1 r2 : List (List Int)} (h : RowsAt L as r1) (h2 : RowsAt L bs r2) : RowsAt L (as ++ bs) (r1 ++ r2) := by
  have hl := h.len
  refine ⟨by rw [List.length_append, List.length_append, hl, h2.len], fun i a r e1 e2 => ?_⟩
  by_cases hi : i < as.length
  · rw [List.getElem?_append_left hi] at e1
    rw [List.getElem?_append_left (by omega)] at e2
    exact h.at_ i a r e1 e2
  · rw [List.getElem?_append_right (by omega)] at e1
    rw [List.getElem?_append_right (by omega), ← hl] at e2
    exact h2.at_ _ a r e1 e2
theorem RowsAt.two {L : Led} {a b : Addr} {r s : List Int} (ha : (a, HO.tup (r.map V.int)) ∈ L) (hb : (b, HO.tup (s.map V.int)) ∈ L) : RowsAt L [a, b] [r, s] := by
  refine ⟨rfl, fun i x y e1 e2 => ?_⟩
  match i, e1, e2 with
  | 0, e1, e2 =>
    cases e1
    cases e2
    exact ha
  | 1, e1, e2 =>
    cases e1
    cases e2
    exact hb

/-! ### all labels, hues, rounds of the program -/
abbrev s_all_labels : Stmt := topS 29
theorem sc_all_labels : FnScope ["pointing", "names", "m", "told", "hue"] ["pointing", "names", "m"] (defScope s_all_labels) := ⟨rfl, rfl, rfl, by decide +kernel, rfl, by decide +kernel, by decide +kernel⟩
def goneL (xs : List Int) : List Int → List Int → List Int
  | l, [] => l
  | l, h :: r => goneL xs (twoL xs l h) r
def goneRows (xs : List Int) : List Int → List Int → List (List Int)
  | _, [] => []
  | l, h :: r => roundL xs l 1 :: twoL xs l h :: goneRows xs (twoL xs l h) r
theorem goneL_app (xs : List Int) : ∀ (hs : List Int) (l : List Int) (h : Int), goneL xs l (hs ++ [h]) = twoL xs (goneL xs l hs) h
  | [], l, h => rfl
  | g :: r, l, h => goneL_app xs r (twoL xs l g) h
theorem goneRows_app (xs : List Int) : ∀ (hs : List Int) (l : List Int) (h : Int), goneRows xs l (hs ++ [h]) = goneRows xs l hs ++ [roundL xs (goneL xs l hs) 1, twoL xs (goneL xs l hs) h]
  | [], l, h => rfl
  | g :: r, l, h => by
    show roundL xs l 1 :: twoL xs l g :: goneRows xs (twoL xs l g) (r ++ [h]) = _
    rw [goneRows_app xs r (twoL xs l g) h]
    rfl
theorem goneRows_len (xs : List Int) : ∀ (hs : List Int) (l : List Int), (goneRows xs l hs).length = 2 * hs.length
  | [], l => rfl
  | g :: r, l => by
    show (goneRows xs (twoL xs l g) r).length + 1 + 1 = _
    rw [goneRows_len xs r, List.length_cons]
    omega
theorem goneL_ok {xs : List Int} {m : Int} (hp : PtOk m xs) : ∀ (hs l : List Int), l.length = xs.length → LbIn l → properB xs l = true → (goneL xs l hs).length = xs.length ∧ LbIn (goneL xs l hs) ∧ properB xs (goneL xs l hs) = true
  | [], l, h1, h2, h3 => ⟨h1, h2, h3⟩
  | g :: r, l, h1, h2, h3 => goneL_ok hp r (twoL xs l g) (twoL_len _ _ _) (twoL_in hp h1 h2) (twoL_proper hp h1 h3)
def itRows (xs ls : List Int) (m : Nat) : List (List Int) := (List.range (halv m).length).map (fun i => itL xs i ls)
def rowsTo (xs ls : List Int) (m i : Nat) : List (List Int) := itRows xs ls m ++ goneRows xs (shortL xs ls m) (([5, 4, 3] : List Int).take i)
def lastTo (xs ls : List Int) (m i : Nat) : List Int := goneL xs (shortL xs ls m) (([5, 4, 3] : List Int).take i)
def allRows (xs ls : List Int) (m : Nat) : List (List Int) := rowsTo xs ls m 3
def huesL (xs ls : List Int) (m : Nat) : List Int := lastTo xs ls m 3
theorem itRows_len (xs ls : List Int) (m : Nat) : (itRows xs ls m).length = (halv m).length := by
  unfold itRows
  rw [List.length_map, List.length_range]
theorem rowsTo_len {xs ls : List Int} {m i : Nat} (hi : i ≤ 3) : (rowsTo xs ls m i).length = (halv m).length + 2 * i := by
  unfold rowsTo
  rw [List.length_append, itRows_len, goneRows_len, List.length_take]
  show (halv m).length + 2 * min i 3 = _
  omega
theorem lastTo_ok {xs ls : List Int} {m : Nat} {t : Int} (hp : PtOk t xs) (hl : ls.length = xs.length) (hin : LbIn ls) (hpr : properB xs ls = true) (i : Nat) : (lastTo xs ls m i).length = xs.length ∧ LbIn (lastTo xs ls m i) ∧ properB xs (lastTo xs ls m i) = true := by
  obtain ⟨g1, g2, g3⟩ := itL_ok hp hl hin hpr ((halv m).length - 1)
  exact goneL_ok hp _ _ g1 g2 g3
theorem rowsTo_last {xs ls : List Int} {m i : Nat} (hi : i ≤ 3) : (rowsTo xs ls m i)[(halv m).length + 2 * i - 1]? = some (lastTo xs ls m i) := by
  have h1 := halv_pos m
  unfold rowsTo lastTo
  have hz : i = 0 ∨ i = 1 ∨ i = 2 ∨ i = 3 := by omega
  rcases hz with rfl | rfl | rfl | rfl
  · show (itRows xs ls m ++ [])[(halv m).length + 2 * 0 - 1]? = some (shortL xs ls m)
    rw [List.append_nil]
    unfold itRows
    rw [List.getElem?_map, List.getElem?_range (by omega)]
    rfl
  · rw [List.getElem?_append_right (by rw [itRows_len]; omega), itRows_len]
    have e : (halv m).length + 2 * 1 - 1 - (halv m).length = 1 := by omega
    rw [e]
    rfl
  · rw [List.getElem?_append_right (by rw [itRows_len]; omega), itRows_len]
    have e : (halv m).length + 2 * 2 - 1 - (halv m).length = 3 := by omega
    rw [e]
    rfl
  · rw [List.getElem?_append_right (by rw [itRows_len]; omega), itRows_len]
    have e : (halv m).length + 2 * 3 - 1 - (halv m).length = 5 := by omega
    rw [e]
    rfl
theorem rowsTo_next {xs ls : List Int} {m i : Nat} {h : Int} (hh : ([5, 4, 3] : List Int)[i]? = some h) : rowsTo xs ls m (i + 1) = rowsTo xs ls m i ++ [roundL xs (lastTo xs ls m i) 1, twoL xs (lastTo xs ls m i) h] := by
  unfold rowsTo lastTo
  rw [List.take_add_one, hh]
  show itRows xs ls m ++ goneRows xs (shortL xs ls m) (([5, 4, 3] : List Int).take i ++ [h]) = _
  rw [goneRows_app, List.append_assoc]
def spAll : Sp := fun vs H Q _ => ∃ (d : Addr) (n : Nat) (L : Led) (p q : Addr) (xs ls : List Int) (m : Nat), vs = [.ref p, .ref q, .int (m : Int)] ∧ PtOk 60 xs ∧ ls.length = xs.length ∧ LbIn ls ∧ properB xs ls = true ∧ m < 2 ^ 62 ∧ (p, .tup (xs.map V.int)) ∈ L ∧ (q, .tup (ls.map V.int)) ∈ L ∧ Kn d n L H ∧
  ∀ (l : Addr) (as : List Addr) (L2 : Led) H', RowsAt L2 as (allRows xs ls m) → L.Sublist L2 → Kn d n ((l, .lst (as.map V.ref)) :: L2) H' → Q (.ref l) H'
def spHues : Sp := fun vs H Q _ => ∃ (d : Addr) (n : Nat) (L : Led) (p q : Addr) (xs ls : List Int) (m : Nat), vs = [.ref p, .ref q, .int (m : Int)] ∧ PtOk 60 xs ∧ ls.length = xs.length ∧ LbIn ls ∧ properB xs ls = true ∧ m < 2 ^ 62 ∧ (p, .tup (xs.map V.int)) ∈ L ∧ (q, .tup (ls.map V.int)) ∈ L ∧ Kn d n L H ∧
  ∀ (r : Addr) (L2 : Led) H', (r, .tup ((huesL xs ls m).map V.int)) ∈ L2 → L.Sublist L2 → Kn d n L2 H' → Q (.ref r) H'
section
variable {P : Program} {w : World} {K : PySem.W.Frag} {mg : Str → Option Value} {base : Heap} {C_NotProper fI_NotProper : Addr} {fd_NotProper : FuncData} {m_NotProper : Expr} {bm_NotProper : List Value}
theorem ok_all_labels (E_NotProper : Rf P K mg "NotProper" "house" C_NotProper fI_NotProper fd_NotProper m_NotProper bm_NotProper) {k : Nat} {f a_clashing a_check_proper a_unlike_place a_stepped a_step a_halvings a_needed_steps a_shortenings a_taken_over a_given_up a_both_rounds : Addr} {fd fd_clashing fd_check_proper fd_unlike_place fd_stepped fd_step fd_halvings fd_needed_steps fd_shortenings fd_taken_over fd_given_up fd_both_rounds : FuncData} (D : Df K mg "all_labels" s_all_labels ["pointing", "names", "m"] f fd) (D_clashing : Df K mg "clashing" s_clashing ["pointing", "labels"] a_clashing fd_clashing) (D_check_proper : Df K mg "check_proper" s_check_proper ["pointing", "labels"] a_check_proper fd_check_proper) (D_unlike_place : Df K mg "unlike_place" s_unlike_place ["one", "other"] a_unlike_place fd_unlike_place) (D_stepped : Df K mg "stepped" s_stepped ["label", "goal_label"] a_stepped fd_stepped) (D_step : Df K mg "step" s_step ["pointing", "labels"] a_step fd_step) (D_halvings : Df K mg "halvings" s_halvings ["m"] a_halvings fd_halvings) (D_needed_steps : Df K mg "needed_steps" s_needed_steps ["m"] a_needed_steps fd_needed_steps) (D_shortenings : Df K mg "shortenings" s_shortenings ["pointing", "names", "m"] a_shortenings fd_shortenings) (D_taken_over : Df K mg "taken_over" s_taken_over ["pointing", "labels"] a_taken_over fd_taken_over) (D_given_up : Df K mg "given_up" s_given_up ["ahead", "label", "goal_label", "hue"] a_given_up fd_given_up) (D_both_rounds : Df K mg "both_rounds" s_both_rounds ["pointing", "labels", "hue"] a_both_rounds fd_both_rounds)
    (C1 : ∃ t, mg "SHORT" = some (.int 6 t)) (C2 : ∃ a, mg "LEFT_HUES" = some (.ref a) ∧ ∀ H, SqT K H a (([0, 1, 2] : List Int).map V.int)) (C3 : ∃ a, mg "GONE_HUES" = some (.ref a) ∧ ∀ H, SqT K H a (([5, 4, 3] : List Int).map V.int)) (M : Bl mg) :
    FnOk P w K mg base (L2.CX P w) (k + 1 + 1 + 1 + 1 + 1) f fd ["pointing", "names", "m"] spAll := by
  have G_shortenings := ok_shortenings (w := w) (base := base) (k := 0) E_NotProper D_shortenings D_clashing D_check_proper D_unlike_place D_stepped D_step D_halvings D_needed_steps C1 M
  have G_both_rounds := ok_both_rounds (w := w) (base := base) (k := 0) E_NotProper D_both_rounds D_clashing D_check_proper D_taken_over D_given_up C2 M
  obtain ⟨A_GONE_HUES, g_GONE_HUES, hQ⟩ := C3
  refine D.F.okX sc_all_labels (fun vs H Q E h => ?_) (fun cdv A outer s H vs Q E hr h => ?_)
  · obtain ⟨d, n, L, p, q, xs, ls, m, rfl, _⟩ := h
    rfl
  obtain ⟨d, n, L, p, q, xs, ls, m, rfl, hp, hl, hin, hpr, hm, hpL, hqL, kn, g⟩ := h
  refine ⟨_, (pss_cons (ps_set (i := 3) sc_all_labels.nd rfl (Or.inl rfl) (pe_callS G_shortenings (hr.mono (by omega)) (by rfl) D_shortenings.g D_shortenings.F.kp D_shortenings.b (fun σ => passAt (takes_of rfl rfl rfl rfl) σ) (pa_cons (pv 0) (pa_cons (pv 1) (pa_cons (pv 2) pa_nil)))))
   (pss_cons (ps_for (passes_of rfl) rfl (pi_tup (pe_glob (v := .ref A_GONE_HUES) (by rfl) g_GONE_HUES rfl)) (pg_name (i := 4) sc_all_labels.nd rfl (Or.inl rfl))
    (pss_one (ps_expr (pe_bm PySem.F.plainAttrs_list PySem.F.slot_list_extend PySem.F.type_list_extend mt_extend (pv 3) (pa_cons (pe_callS G_both_rounds (hr.mono (by omega)) (by rfl) D_both_rounds.g D_both_rounds.F.kp D_both_rounds.b (fun σ => passAt (takes_of rfl rfl rfl rfl) σ) (pa_cons (pv 0) (pa_cons (pe_ix ix_list (pv 3) (pe_un un_neg pe_int) (fun _ _ => rfl)) (pa_cons (pv 4) pa_nil)))) pa_nil)))))
   (pss_one (ps_ret (pv 3))))), ?_⟩
  have h1 := halv_pos m
  have hs := halv_short hm
  walk_at "go"
  refine ⟨d, n, L, p, q, xs, ls, m, rfl, hp, hl, hin, hpr, hm, hpL, hqL, kn, fun l as L2 H1 hal hat hsub kn1 => ?_⟩
  walk_at "go"
  refine kSeq (kForT (K := K) (p := A_GONE_HUES) (xs := ([5, 4, 3] : List Int).map V.int) (fun i σ' H' => ∃ (x4 : Option V) (bs : List Addr) (L3 : Led), σ' = [some (.ref p), some (.ref q), some (.int (m : Int)), some (.ref l), x4] ∧ RowsAt L3 bs (rowsTo xs ls m i) ∧ L.Sublist L3 ∧ Kn d n ((l, .lst (bs.map V.ref)) :: L3) H') (hQ _)
    ⟨_, as, L2, rfl, ⟨by rw [rowsTo_len (by omega)]; omega, fun i a r ha hr => ?_⟩, hsub, kn1⟩ (fun _ _ _ _ _ => hQ _) (fun i x σ' H' hx hW => ?_) (fun σ' H' hW => ?_) fun R hR => by walk_at "go"; exact hR)
  · have hi : i < (halv m).length := by
      have := (List.getElem?_eq_some_iff.mp ha).1
      omega
    have e : (rowsTo xs ls m 0)[i]? = some (itL xs i ls) := by
      show (itRows xs ls m ++ [])[i]? = _
      rw [List.append_nil]
      unfold itRows
      rw [List.getElem?_map, List.getElem?_range hi]
      rfl
    rw [e] at hr
    rw [← Option.some.inj hr]
    exact hat i a ha
  · obtain ⟨x4, bs, L3, rfl, hrows, hs3, kn2⟩ := hW
    obtain ⟨z, hz, rfl⟩ : ∃ z, ([5, 4, 3] : List Int)[i]? = some z ∧ x = V.int z := by
      rw [List.getElem?_map] at hx
      cases e : ([5, 4, 3] : List Int)[i]? with
      | none => rw [e] at hx; cases hx
      | some z => rw [e] at hx; exact ⟨z, rfl, (Option.some.inj hx).symm⟩
    have hi : i < 3 := (List.getElem?_eq_some_iff.mp hz).1
    have hlen := hrows.len
    rw [rowsTo_len (by omega)] at hlen
    obtain ⟨a, ha⟩ : ∃ a, bs[(halv m).length + 2 * i - 1]? = some a := ⟨bs[(halv m).length + 2 * i - 1], List.getElem?_eq_getElem (by omega)⟩
    have hma := hrows.at_ _ a _ ha (rowsTo_last (by omega))
    obtain ⟨g1, g2, g3⟩ := lastTo_ok (m := m) hp hl hin hpr i
    walk_at "go"
    refine kIxL (kn2.seqL List.mem_cons_self) (atLastR (by omega) ha) ?_
    walk_at "go"
    refine ⟨d, n, _, p, a, xs, lastTo xs ls m i, z, rfl, hp, g1, List.mem_cons_of_mem _ (hs3.subset hpL), List.mem_cons_of_mem _ hma, kn2, fun _ l2 a1 b1 H3 kn3 => ?_, fun c r hc => (no_clash g3 hc).elim⟩
    walk_at "go"
    have kn4 := kn3.perm (L' := (l, .lst (bs.map V.ref)) :: (l2, .lst [.ref a1, .ref b1]) :: (b1, .tup ((twoL xs (lastTo xs ls m i) z).map V.int)) :: (a1, .tup ((roundL xs (lastTo xs ls m i) 1).map V.int)) :: L3) (by
      refine List.Perm.trans ?_ (List.Perm.swap _ _ _)
      refine List.Perm.cons _ ?_
      refine List.Perm.trans ?_ (List.Perm.swap _ _ _)
      exact List.Perm.cons _ (List.Perm.swap _ _ _))
    refine ⟨l, l2, bs.map V.ref, [.ref a1, .ref b1], rfl, rfl, kn4.at 0 rfl, kn4.at 1 rfl, ?_, ?_⟩
    · rw [List.length_map]
      exact szL (by simp; omega)
    refine ⟨_, bs ++ [a1, b1], (l2, .lst [.ref a1, .ref b1]) :: (b1, .tup ((twoL xs (lastTo xs ls m i) z).map V.int)) :: (a1, .tup ((roundL xs (lastTo xs ls m i) 1).map V.int)) :: L3, rfl, ?_, ((hs3.cons _).cons _).cons _, ?_⟩
    · rw [rowsTo_next hz]
      exact (hrows.up fun y hy => List.mem_cons_of_mem _ (List.mem_cons_of_mem _ (List.mem_cons_of_mem _ hy))).app (RowsAt.two (List.mem_cons_of_mem _ (List.mem_cons_of_mem _ List.mem_cons_self)) (List.mem_cons_of_mem _ List.mem_cons_self))
    · rw [List.map_append]
      exact kn4.put 0 rfl
  · obtain ⟨x4, bs, L3, rfl, hrows, hs3, kn2⟩ := hW
    walk_at "go"
    exact g l bs L3 _ hrows hs3 kn2
end
theorem goneRows_row {xs : List Int} : ∀ (hs l : List Int), l.length = xs.length → ∀ r ∈ goneRows xs l hs, r.length = xs.length
  | [], l, h, r, hr => by cases hr
  | g :: t, l, h, r, hr => by
    have hr' : r ∈ roundL xs l 1 :: twoL xs l g :: goneRows xs (twoL xs l g) t := hr
    rcases List.mem_cons.mp hr' with rfl | hr'
    · exact over_len xs l
    rcases List.mem_cons.mp hr' with rfl | hr'
    · exact twoL_len _ _ _
    exact goneRows_row t _ (twoL_len _ _ _) r hr'
theorem allRows_len {xs ls : List Int} {m : Nat} {t : Int} (hp : PtOk t xs) (hl : ls.length = xs.length) (hin : LbIn ls) (hpr : properB xs ls = true) {r : List Int} (hr : r ∈ allRows xs ls m) : r.length = xs.length := by
  unfold allRows rowsTo itRows at hr
  rcases List.mem_append.mp hr with hr | hr
  · obtain ⟨i, _, rfl⟩ := List.mem_map.mp hr
    exact (itL_ok hp hl hin hpr i).1
  · exact goneRows_row _ _ (itL_ok hp hl hin hpr _).1 r hr

abbrev s_hues : Stmt := topS 30
theorem sc_hues : FnScope ["pointing", "names", "m"] ["pointing", "names", "m"] (defScope s_hues) := ⟨rfl, rfl, rfl, by decide +kernel, rfl, by decide +kernel, by decide +kernel⟩
section
variable {P : Program} {w : World} {K : PySem.W.Frag} {mg : Str → Option Value} {base : Heap} {C_NotProper fI_NotProper : Addr} {fd_NotProper : FuncData} {m_NotProper : Expr} {bm_NotProper : List Value}
theorem ok_hues (E_NotProper : Rf P K mg "NotProper" "house" C_NotProper fI_NotProper fd_NotProper m_NotProper bm_NotProper) {k : Nat} {f a_clashing a_check_proper a_unlike_place a_stepped a_step a_halvings a_needed_steps a_shortenings a_taken_over a_given_up a_both_rounds a_all_labels : Addr} {fd fd_clashing fd_check_proper fd_unlike_place fd_stepped fd_step fd_halvings fd_needed_steps fd_shortenings fd_taken_over fd_given_up fd_both_rounds fd_all_labels : FuncData} (D : Df K mg "hues" s_hues ["pointing", "names", "m"] f fd) (D_clashing : Df K mg "clashing" s_clashing ["pointing", "labels"] a_clashing fd_clashing) (D_check_proper : Df K mg "check_proper" s_check_proper ["pointing", "labels"] a_check_proper fd_check_proper) (D_unlike_place : Df K mg "unlike_place" s_unlike_place ["one", "other"] a_unlike_place fd_unlike_place) (D_stepped : Df K mg "stepped" s_stepped ["label", "goal_label"] a_stepped fd_stepped) (D_step : Df K mg "step" s_step ["pointing", "labels"] a_step fd_step) (D_halvings : Df K mg "halvings" s_halvings ["m"] a_halvings fd_halvings) (D_needed_steps : Df K mg "needed_steps" s_needed_steps ["m"] a_needed_steps fd_needed_steps) (D_shortenings : Df K mg "shortenings" s_shortenings ["pointing", "names", "m"] a_shortenings fd_shortenings) (D_taken_over : Df K mg "taken_over" s_taken_over ["pointing", "labels"] a_taken_over fd_taken_over) (D_given_up : Df K mg "given_up" s_given_up ["ahead", "label", "goal_label", "hue"] a_given_up fd_given_up) (D_both_rounds : Df K mg "both_rounds" s_both_rounds ["pointing", "labels", "hue"] a_both_rounds fd_both_rounds) (D_all_labels : Df K mg "all_labels" s_all_labels ["pointing", "names", "m"] a_all_labels fd_all_labels)
    (C1 : ∃ t, mg "SHORT" = some (.int 6 t)) (C2 : ∃ a, mg "LEFT_HUES" = some (.ref a) ∧ ∀ H, SqT K H a (([0, 1, 2] : List Int).map V.int)) (C3 : ∃ a, mg "GONE_HUES" = some (.ref a) ∧ ∀ H, SqT K H a (([5, 4, 3] : List Int).map V.int)) (M : Bl mg) :
    FnOk P w K mg base (L2.CX P w) (k + 1 + 1 + 1 + 1 + 1 + 1) f fd ["pointing", "names", "m"] spHues := by
  have G_all_labels := ok_all_labels (w := w) (base := base) (k := 0) E_NotProper D_all_labels D_clashing D_check_proper D_unlike_place D_stepped D_step D_halvings D_needed_steps D_shortenings D_taken_over D_given_up D_both_rounds C1 C2 C3 M
  refine D.F.okX sc_hues (fun vs H Q E h => ?_) (fun cdv A outer s H vs Q E hr h => ?_)
  · obtain ⟨d, n, L, p, q, xs, ls, m, rfl, _⟩ := h
    rfl
  obtain ⟨d, n, L, p, q, xs, ls, m, rfl, hp, hl, hin, hpr, hm, hpL, hqL, kn, g⟩ := h
  refine ⟨_, (pss_one (ps_ret (pe_ix ix_list (pe_callS G_all_labels (hr.mono (by omega)) (by rfl) D_all_labels.g D_all_labels.F.kp D_all_labels.b (fun σ => passAt (takes_of rfl rfl rfl rfl) σ) (pa_cons (pv 0) (pa_cons (pv 1) (pa_cons (pv 2) pa_nil)))) (pe_un un_neg pe_int) (fun _ _ => rfl)))), ?_⟩
  have h1 := halv_pos m
  walk_at "go"
  refine ⟨d, n, L, p, q, xs, ls, m, rfl, hp, hl, hin, hpr, hm, hpL, hqL, kn, fun l as L2 H1 hrows hsub kn1 => ?_⟩
  have hlen := hrows.len
  unfold allRows at hlen
  rw [rowsTo_len (by omega)] at hlen
  obtain ⟨a, ha⟩ : ∃ a, as[(halv m).length + 2 * 3 - 1]? = some a := ⟨as[(halv m).length + 2 * 3 - 1], List.getElem?_eq_getElem (by omega)⟩
  have hma := hrows.at_ _ a _ ha (rowsTo_last (i := 3) (by omega))
  walk_at "go"
  refine kIxL (kn1.seqL List.mem_cons_self) (atLastR (by omega) ha) ?_
  exact g a L2 _ hma hsub kn1.tail
end

/-! ### the halvings fall; labels behind so many steps are below the next one -/
theorem halv_get {m : Nat} : ∀ (i : Nat), i + 1 < (halv m).length → 6 < (halv m).getD i 0 ∧ (halv m).getD (i + 1) 0 = 2 * bitsN ((halv m).getD i 0 - 1) := by
  induction m using Nat.strongRecOn with
  | _ m ih =>
    intro i hi
    by_cases h : 6 < m
    · rw [halv_big h] at hi ⊢
      rw [List.length_cons] at hi
      cases i with
      | zero =>
        refine ⟨h, ?_⟩
        show (halv (2 * bitsN (m - 1))).getD 0 0 = 2 * bitsN (m - 1)
        by_cases h2 : 6 < 2 * bitsN (m - 1)
        · rw [halv_big h2]; rfl
        · rw [halv_end h2]; rfl
      | succ i => exact ih _ (bits_less h) i (by omega)
    · rw [halv_end h] at hi
      simp at hi
theorem halv_head (m : Nat) : (halv m).getD 0 0 = m := by
  by_cases h2 : 6 < m
  · rw [halv_big h2]; rfl
  · rw [halv_end h2]; rfl
theorem halv_last (m : Nat) : (halv m).getD ((halv m).length - 1) 0 ≤ 6 := by
  induction m using Nat.strongRecOn with
  | _ m ih =>
    by_cases h : 6 < m
    · have h1 := ih _ (bits_less h)
      have hp : 1 ≤ (halv (2 * bitsN (m - 1))).length := halv_pos _
      rw [halv_big h, List.length_cons, Nat.add_sub_cancel]
      obtain ⟨k, hk⟩ : ∃ k, (halv (2 * bitsN (m - 1))).length = k + 1 := ⟨(halv (2 * bitsN (m - 1))).length - 1, by omega⟩
      rw [hk] at h1 ⊢
      exact h1
    · rw [halv_end h]
      show m ≤ 6
      omega
theorem halv_falls {m i : Nat} (hi : i + 1 < (halv m).length) : (halv m).getD (i + 1) 0 < (halv m).getD i 0 := by
  obtain ⟨h1, h2⟩ := halv_get i hi
  rw [h2]
  exact bits_less h1
theorem halv_below {m : Nat} : ∀ i, 0 < i → i < (halv m).length → (halv m).getD i 0 < m
  | 0, h, _ => absurd h (Nat.lt_irrefl 0)
  | 1, _, h => by
    have := halv_falls (m := m) (i := 0) h
    rw [halv_head] at this
    exact this
  | i + 2, _, h => Nat.lt_trans (halv_falls h) (halv_below (i + 1) (by omega) (by omega))
theorem roundL_lt {xs ls : List Int} {t : Int} {b : Nat} (hp : PtOk t xs) (hl : ls.length = xs.length) (hpr : properB xs ls = true) (h : ∀ y ∈ ls, 0 ≤ y ∧ y < (b : Int)) : ∀ y ∈ roundL xs ls 0, 0 ≤ y ∧ y < ((2 * bitsN (b - 1) : Nat) : Int) := by
  intro y hy
  unfold roundL at hy
  obtain ⟨i, hi, rfl⟩ := List.mem_map.mp hy
  have hi' := List.mem_range.mp hi
  rw [if_pos rfl]
  have hx : xs[i]? = some xs[i] := List.getElem?_eq_getElem hi'
  obtain ⟨u, v, hu, hv, huv⟩ := apart_ne hp hl hpr hx
  have h1 := h u (List.mem_of_getElem? hu)
  have h2 := h v (List.mem_of_getElem? hv)
  unfold stepAt
  rw [getD_of hu, getD_of hx, getD_of hv]
  have := short_halv (m := b) (a := u.toNat) (b := v.toNat) (by omega) (by omega) (by omega)
  omega
theorem itL_lt {xs ls : List Int} {t : Int} {m : Nat} (hp : PtOk t xs) (hnm : NmOk xs ls m) (hm : m < 2 ^ 62) : ∀ i, i < (halv m).length → ∀ y ∈ itL xs i ls, 0 ≤ y ∧ y < (((halv m).getD i 0 : Nat) : Int)
  | 0, _, y, hy => by
    have := hnm.low y hy
    rw [halv_head]
    exact this
  | i + 1, hi, y, hy => by
    obtain ⟨g1, g2, g3⟩ := itL_ok hp hnm.len (hnm.into hm) (hnm.proper hp) i
    rw [(halv_get i hi).2]
    exact roundL_lt hp g1 g3 (itL_lt hp hnm hm i (by omega)) y hy

/-! ### houses numbered otherwise -/
/-- os, rs are xs, ls with house i at f i -/
structure Mv (f : Nat → Nat) (xs ls os rs : List Int) : Prop where
  ol : os.length = xs.length
  rl : rs.length = xs.length
  inj : ∀ i j, i < xs.length → j < xs.length → f i = f j → i = j
  into : ∀ i, i < xs.length → f i < xs.length
  o : ∀ (i : Nat) (x : Int), xs[i]? = some x → os[f i]? = some ((f x.toNat : Nat) : Int)
  r : ∀ (i : Nat) (a : Int), ls[i]? = some a → rs[f i]? = some a
theorem Mv.onto {f : Nat → Nat} {xs ls os rs : List Int} (h : Mv f xs ls os rs) {k : Nat} (hk : k < xs.length) : ∃ i, i < xs.length ∧ f i = k := by
  have nd : ((List.range xs.length).map f).Nodup := by
    rw [List.nodup_iff_pairwise_ne, List.pairwise_map]
    refine List.Pairwise.imp_of_mem ?_ (List.nodup_range (n := xs.length))
    intro a b ha hb hne e
    exact hne (h.inj a b (List.mem_range.mp ha) (List.mem_range.mp hb) e)
  have := php_all nd (fun x hx => by
    obtain ⟨i, hi, rfl⟩ := List.mem_map.mp hx
    exact h.into i (List.mem_range.mp hi)) (by rw [List.length_map, List.length_range]) hk
  obtain ⟨i, hi, e⟩ := List.mem_map.mp this
  exact ⟨i, List.mem_range.mp hi, e⟩
theorem Mv.pt {f : Nat → Nat} {xs ls os rs : List Int} {m : Int} (h : Mv f xs ls os rs) (hp : PtOk m xs) : PtOk m os := by
  refine ⟨by rw [h.ol]; exact hp.two, by rw [h.ol]; exact hp.most, fun k x hk => ?_⟩
  have hk' : k < xs.length := by
    have := (List.getElem?_eq_some_iff.mp hk).1
    rw [h.ol] at this
    exact this
  obtain ⟨i, hi, rfl⟩ := h.onto hk'
  have hx : xs[i]? = some xs[i] := List.getElem?_eq_getElem hi
  have hg := hp.goal i _ hx
  have := h.o i _ hx
  rw [hk] at this
  have e := Option.some.inj this
  have h1 := h.into (xs[i]).toNat (by omega)
  rw [h.ol]
  refine ⟨by omega, by omega, fun z => ?_⟩
  have h2 := h.inj (xs[i]).toNat i (by omega) hi (by omega)
  omega
theorem Mv.lb {f : Nat → Nat} {xs ls os rs : List Int} (h : Mv f xs ls os rs) (hl : ls.length = xs.length) {P : Int → Prop} (hin : ∀ y ∈ ls, P y) : ∀ y ∈ rs, P y := by
  intro y hy
  obtain ⟨k, hk⟩ := List.getElem?_of_mem hy
  have hk' : k < xs.length := by
    have := (List.getElem?_eq_some_iff.mp hk).1
    rw [h.rl] at this
    exact this
  obtain ⟨i, hi, rfl⟩ := h.onto hk'
  have ha : ls[i]? = some ls[i] := List.getElem?_eq_getElem (by omega)
  have := h.r i _ ha
  rw [hk] at this
  rw [Option.some.inj this]
  exact hin _ (List.getElem_mem (by omega))
theorem Mv.getD_r {f : Nat → Nat} {xs ls os rs : List Int} (h : Mv f xs ls os rs) (hl : ls.length = xs.length) {i : Nat} (hi : i < xs.length) : rs.getD (f i) 0 = ls.getD i 0 := by
  have ha : ls[i]? = some ls[i] := List.getElem?_eq_getElem (by omega)
  rw [getD_of ha, getD_of (h.r i _ ha)]
theorem Mv.getD_o {f : Nat → Nat} {xs ls os rs : List Int} (h : Mv f xs ls os rs) {i : Nat} (hi : i < xs.length) : os.getD (f i) 0 = ((f (xs.getD i 0).toNat : Nat) : Int) := by
  have ha : xs[i]? = some xs[i] := List.getElem?_eq_getElem (by omega)
  rw [getD_of ha, getD_of (h.o i _ ha)]
theorem goal_lt {xs : List Int} {m : Int} (hp : PtOk m xs) {i : Nat} (hi : i < xs.length) : (xs.getD i 0).toNat < xs.length := by
  have ha : xs[i]? = some xs[i] := List.getElem?_eq_getElem (by omega)
  have := hp.goal i _ ha
  rw [getD_of ha]
  omega
theorem Mv.proper {f : Nat → Nat} {xs ls os rs : List Int} {m : Int} (h : Mv f xs ls os rs) (hp : PtOk m xs) (hl : ls.length = xs.length) (hpr : properB xs ls = true) : properB os rs = true := by
  refine proper_of fun k x hk => ?_
  have hk' : k < xs.length := by
    have := (List.getElem?_eq_some_iff.mp hk).1
    rw [h.ol] at this
    exact this
  obtain ⟨i, hi, rfl⟩ := h.onto hk'
  have hx : xs[i]? = some xs[i] := List.getElem?_eq_getElem hi
  have e := h.o i _ hx
  rw [hk] at e
  rw [Option.some.inj e, Int.toNat_natCast, h.getD_r hl hi, h.getD_r hl (by have := hp.goal i _ hx; omega)]
  exact proper_at hp hpr hx
/-- a row that is made house by house from what each one and its next have -/
theorem Mv.row {f : Nat → Nat} {xs ls os rs : List Int} {m : Int} (h : Mv f xs ls os rs) (hp : PtOk m xs) (hl : ls.length = xs.length) {u v : Nat → Int} (huv : ∀ i, i < xs.length → v (f i) = u i) : Mv f xs ((List.range xs.length).map u) os ((List.range os.length).map v) := by
  refine ⟨h.ol, by rw [List.length_map, List.length_range, h.ol], h.inj, h.into, h.o, fun i a ha => ?_⟩
  have hi : i < xs.length := by
    have := (List.getElem?_eq_some_iff.mp ha).1
    rw [List.length_map, List.length_range] at this
    exact this
  rw [List.getElem?_map, List.getElem?_range hi] at ha
  have hf := h.into i hi
  rw [List.getElem?_map, List.getElem?_range (by rw [h.ol]; exact hf)]
  have e : u i = a := Option.some.inj ha
  show some (v (f i)) = some a
  rw [huv i hi, e]
theorem Mv.round {f : Nat → Nat} {xs ls os rs : List Int} {m : Int} (h : Mv f xs ls os rs) (hp : PtOk m xs) (hl : ls.length = xs.length) (w : Int) : Mv f xs (roundL xs ls w) os (roundL os rs w) := by
  unfold roundL
  refine h.row hp hl fun i hi => ?_
  have hg := goal_lt hp hi
  by_cases hw : w = 0
  · rw [if_pos hw, if_pos hw]
    unfold stepAt
    rw [h.getD_r hl hi, h.getD_o hi, Int.toNat_natCast, h.getD_r hl hg]
  · rw [if_neg hw, if_neg hw]
    unfold overAt
    rw [h.getD_o hi, Int.toNat_natCast, h.getD_r hl hg]
/-- set house by house -/
structure Mvp (f : Nat → Nat) (xs ls os rs : List Int) (c : Nat) : Prop where
  ol : os.length = xs.length
  rl : rs.length = xs.length
  o : ∀ (i : Nat) (x : Int), i < c → xs[i]? = some x → os[f i]? = some ((f x.toNat : Nat) : Int)
  r : ∀ (i : Nat) (a : Int), i < c → ls[i]? = some a → rs[f i]? = some a
theorem Mvp.set {f : Nat → Nat} {xs ls os rs : List Int} {c : Nat} {x a : Int} (h : Mvp f xs ls os rs c) (inj : ∀ i j, i < xs.length → j < xs.length → f i = f j → i = j) (into : ∀ i, i < xs.length → f i < xs.length) (hc : c < xs.length) (hx : xs[c]? = some x) (ha : ls[c]? = some a) :
    Mvp f xs ls (os.set (f c) ((f x.toNat : Nat) : Int)) (rs.set (f c) a) (c + 1) := by
  have hol := h.ol
  have hrl := h.rl
  have hfc := into c hc
  refine ⟨by rw [List.length_set, hol], by rw [List.length_set, hrl], fun i y hi hy => ?_, fun i b hi hb => ?_⟩
  · rw [List.getElem?_set]
    by_cases e : f c = f i
    · have : c = i := inj c i hc (List.getElem?_eq_some_iff.mp hy).1 e
      subst this
      rw [if_pos rfl, if_pos (by omega)]
      rw [hx] at hy
      rw [Option.some.inj hy]
    · rw [if_neg e]
      exact h.o i y (by
        rcases Nat.lt_succ_iff_lt_or_eq.mp hi with h1 | h1
        · exact h1
        · exact absurd (congrArg f h1.symm) e) hy
  · rw [List.getElem?_set]
    by_cases e : f c = f i
    · rw [if_pos e, if_pos (by omega)]
      by_cases hix : i < xs.length
      · have : c = i := inj c i hc hix e
        subst this
        rw [ha] at hb
        exact hb
      · exact absurd hi (by omega)
    · rw [if_neg e]
      exact h.r i b (by
        rcases Nat.lt_succ_iff_lt_or_eq.mp hi with h1 | h1
        · exact h1
        · exact absurd (congrArg f h1.symm) e) hb
theorem Mvp.done {f : Nat → Nat} {xs ls os rs : List Int} (h : Mvp f xs ls os rs xs.length) (hl : ls.length = xs.length) (inj : ∀ i j, i < xs.length → j < xs.length → f i = f j → i = j) (into : ∀ i, i < xs.length → f i < xs.length) : Mv f xs ls os rs :=
  ⟨h.ol, h.rl, inj, into, fun i x hx => h.o i x (List.getElem?_eq_some_iff.mp hx).1 hx, fun i a ha => h.r i a (by have := (List.getElem?_eq_some_iff.mp ha).1; omega) ha⟩
theorem Mvp.first (f : Nat → Nat) (xs ls : List Int) : Mvp f xs ls (List.replicate xs.length 0) (List.replicate xs.length 0) 0 :=
  ⟨by rw [List.length_replicate], by rw [List.length_replicate], fun i x h => absurd h (Nat.not_lt_zero _), fun i x h => absurd h (Nat.not_lt_zero _)⟩
theorem repl_ints (k : Nat) (y : Int) : (List.replicate k [V.int y]).flatten = (List.replicate k y).map V.int := by
  induction k with
  | zero => rfl
  | succ k ih =>
    rw [List.replicate_succ, List.flatten_cons, ih, List.replicate_succ, List.map_cons]
    rfl
/-- turned on by s, one way round or the other -/
def turnF (n : Nat) (s w : Int) (i : Nat) : Nat := ((s + w * (i : Int)) % (n : Int)).toNat
theorem turnF_eq {n : Nat} (hn : 0 < n) (s w : Int) (i : Nat) : ((turnF n s w i : Nat) : Int) = (s + w * (i : Int)) % (n : Int) := by
  unfold turnF
  have := Int.emod_nonneg (s + w * (i : Int)) (show (n : Int) ≠ 0 by omega)
  omega
theorem turnF_into {n : Nat} (hn : 0 < n) (s w : Int) (i : Nat) : turnF n s w i < n := by
  have h1 := turnF_eq hn s w i
  have := Int.emod_lt_of_pos (s + w * (i : Int)) (show (0 : Int) < n by omega)
  omega
theorem turnF_inj {n : Nat} {s w : Int} (hw : w = 1 ∨ w = -1) {i j : Nat} (hi : i < n) (hj : j < n) (e : turnF n s w i = turnF n s w j) : i = j := by
  have hn : 0 < n := by omega
  have h1 := turnF_eq hn s w i
  have h2 := turnF_eq hn s w j
  rw [e, h2] at h1
  have h3 : ((s + w * (i : Int)) - (s + w * (j : Int))) % (n : Int) = 0 := Int.emod_eq_emod_iff_emod_sub_eq_zero.mp h1.symm
  obtain ⟨c, hc⟩ := Int.dvd_of_emod_eq_zero h3
  have hb : (s + w * (i : Int)) - (s + w * (j : Int)) = (i : Int) - j ∨ (s + w * (i : Int)) - (s + w * (j : Int)) = (j : Int) - i := by
    rcases hw with rfl | rfl
    · left; omega
    · right; omega
  have hc0 : c = 0 := by
    by_cases hcp : 0 < c
    · have : (n : Int) * 1 ≤ n * c := Int.mul_le_mul_of_nonneg_left (by omega) (by omega)
      omega
    · by_cases hcn : c < 0
      · have h5 : (n : Int) * c ≤ n * (-1) := Int.mul_le_mul_of_nonneg_left (by omega) (by omega)
        omega
      · omega
  rw [hc0, Int.mul_zero] at hc
  omega

/-! ### all rounds of the houses numbered otherwise; three hues -/
theorem Mv.iter {f : Nat → Nat} {xs ls os rs : List Int} {m : Int} (h : Mv f xs ls os rs) (hp : PtOk m xs) (hl : ls.length = xs.length) (hin : LbIn ls) (hpr : properB xs ls = true) : ∀ k, Mv f xs (itL xs k ls) os (itL os k rs)
  | 0 => h
  | k + 1 => (h.iter hp hl hin hpr k).round hp (itL_ok hp hl hin hpr k).1 0
theorem Mv.two {f : Nat → Nat} {xs ls os rs : List Int} {m : Int} (h : Mv f xs ls os rs) (hp : PtOk m xs) (hl : ls.length = xs.length) (hue : Int) : Mv f xs (twoL xs ls hue) os (twoL os rs hue) := by
  have h1 := h.round hp hl 1
  unfold twoL easedL
  refine h.row hp hl fun i hi => ?_
  have hg := goal_lt hp hi
  unfold easedAt
  rw [h1.getD_r (over_len xs ls) hi, h.getD_o hi, Int.toNat_natCast, h1.getD_r (over_len xs ls) hg, h.getD_r hl hi]
theorem Mv.gone {f : Nat → Nat} {xs os : List Int} {m : Int} (hp : PtOk m xs) : ∀ (hs : List Int) {l r : List Int}, Mv f xs l os r → l.length = xs.length → Mv f xs (goneL xs l hs) os (goneL os r hs)
  | [], _, _, h, _ => h
  | g :: t, _, _, h, hl => Mv.gone hp t (h.two hp hl g) (twoL_len _ _ _)
theorem Mv.hues {f : Nat → Nat} {xs ls os rs : List Int} {t : Int} {m : Nat} (h : Mv f xs ls os rs) (hp : PtOk t xs) (hl : ls.length = xs.length) (hin : LbIn ls) (hpr : properB xs ls = true) : Mv f xs (huesL xs ls m) os (huesL os rs m) :=
  by
  have key := Mv.gone hp (([5, 4, 3] : List Int).take 3) (h.iter hp hl hin hpr ((halv m).length - 1)) (itL_ok hp hl hin hpr ((halv m).length - 1)).1
  unfold huesL lastTo shortL
  exact key
theorem hues_few {xs ls : List Int} {t : Int} {m : Nat} (hp : PtOk t xs) (hnm : NmOk xs ls m) (hm : m < 2 ^ 62) : ∀ y ∈ huesL xs ls m, 0 ≤ y ∧ y ≤ 2 := by
  obtain ⟨g1, g2, g3⟩ := itL_ok hp hnm.len (hnm.into hm) (hnm.proper hp) ((halv m).length - 1)
  have h1 := halv_pos m
  have hlt := itL_lt hp hnm hm ((halv m).length - 1) (by omega)
  have h6 := halv_last m
  have hf : ∀ b : Int, 2 ≤ b → ∀ y : Int, 0 ≤ y → y ≤ 2 → 0 ≤ y ∧ y ≤ b := fun b hb y h0 h2 => ⟨h0, by omega⟩
  have a0 : ∀ y ∈ shortL xs ls m, 0 ≤ y ∧ y ≤ 5 := fun y hy => by
    have := hlt y hy
    omega
  have a5 : ∀ y ∈ twoL xs (shortL xs ls m) 5, 0 ≤ y ∧ y ≤ 4 := twoL_mem hp g1 (fun y hy hne => by have := a0 y hy; omega) (hf 4 (by omega))
  have a4 : ∀ y ∈ twoL xs (twoL xs (shortL xs ls m) 5) 4, 0 ≤ y ∧ y ≤ 3 := twoL_mem hp (twoL_len _ _ _) (fun y hy hne => by have := a5 y hy; omega) (hf 3 (by omega))
  exact twoL_mem (hue := 3) hp (twoL_len xs (twoL xs (shortL xs ls m) 5) 4) (fun y hy hne => by have := a4 y hy; omega) (hf 2 (by omega))
theorem halv_le1 {m : Nat} (h : ¬ 6 < m) : (halv m).length = 1 := by
  rw [halv_end h]
  rfl
theorem bits_pow2 {n k : Nat} (h : n < 2 ^ k) : bitsN n ≤ k := by
  unfold bitsN
  split
  · omega
  · rename_i h0
    have := (Nat.log2_lt h0).mpr h
    omega
theorem halv_step {m k c : Nat} (h : m ≤ 2 ^ k) (hc : ∀ m', m' ≤ 2 * k → (halv m').length ≤ c) : (halv m).length ≤ c + 1 := by
  by_cases h6 : 6 < m
  · rw [halv_big h6, List.length_cons]
    have := hc (2 * bitsN (m - 1)) (by
      have := bits_pow2 (n := m - 1) (k := k) (by omega)
      omega)
    omega
  · rw [halv_le1 h6]
    omega
theorem halv_c1 {m : Nat} (h : m ≤ 6) : (halv m).length ≤ 1 := by
  rw [halv_le1 (by omega)]
  exact Nat.le_refl _
theorem halv_c2 {m : Nat} (h : m ≤ 8) : (halv m).length ≤ 2 :=
  halv_step (m := m) (k := 3) (c := 1) (Nat.le_trans h (by decide)) fun m' h' => halv_c1 (by omega)
theorem halv_c3 {m : Nat} (h : m ≤ 16) : (halv m).length ≤ 3 :=
  halv_step (m := m) (k := 4) (c := 2) (Nat.le_trans h (by decide)) fun m' h' => halv_c2 (by omega)
theorem halv_c4 {m : Nat} (h : m ≤ 128) : (halv m).length ≤ 4 :=
  halv_step (m := m) (k := 7) (c := 3) (Nat.le_trans h (by decide)) fun m' h' => halv_c3 (by omega)
theorem halv_five {m : Nat} (h : m ≤ 2 ^ 60) : (halv m).length ≤ 5 :=
  halv_step (m := m) (k := 60) (c := 4) h fun m' h' => halv_c4 (by omega)

/-! ### a bound, by dice -/
abbrev s_law_bound : Stmt := topS 35
theorem sc_law_bound : FnScope ["dice", "n"] ["dice", "n"] (defScope s_law_bound) := ⟨rfl, rfl, rfl, by decide +kernel, rfl, by decide +kernel, by decide +kernel⟩
def spBoundR : Sp := fun vs H Q _ => ∃ (d : Addr) (n0 : Nat) (L : Led) (n : Int), vs = [.ref d, .int n] ∧ 2 ≤ n ∧ n ≤ 60 ∧ n0 ≤ 2 ^ 59 ∧ Kn d n0 L H ∧ ∀ (m : Int) (H' : Hp), n ≤ m → m ≤ 10 ^ 18 → Kn d (n0 + 10) L H' → Q (.int m) H'
theorem ok_law_boundR {P : Program} {w : World} {K : PySem.W.Frag} {mg : Str → Option Value} {base : Heap} {k : Nat} {f a_law_roll : Addr} {fd fd_law_roll : FuncData} (D : Df K mg "_law_bound" s_law_bound ["dice", "n"] f fd) (D_law_roll : Df K mg "_law_roll" s_law_roll ["dice", "size"] a_law_roll fd_law_roll) (M : Bl mg) : FnOk P w K mg base CX0 (k + 1 + 1) f fd ["dice", "n"] spBoundR := by
  have G_law_roll := ok_law_roll (P := P) (w := w) (base := base) (k := 0) D_law_roll M
  refine D.F.ok sc_law_bound (fun vs H Q E h => ?_) (fun cdv A outer s H vs Q E hr h => ?_)
  · obtain ⟨d, n, L, size, rfl, _⟩ := h
    rfl
  obtain ⟨d, n0, L, n, rfl, n2, n60, hn, kn, q⟩ := h
  refine ⟨_, (pss_one (ps_ret (pe_callB (c_min rfl) (by rfl) M.min (by decide +kernel) (pa_cons (pe_op op_pow pe_int pe_int) (pa_cons (pe_op op_add (pe_callB (c_max rfl) (by rfl) M.max (by decide +kernel) (pa_cons pe_int (pa_cons (pv 1) pa_nil))) (pe_call G_law_roll (hr.mono (by omega)) (by rfl) D_law_roll.g D_law_roll.F.kp D_law_roll.b .nil pass0 (pa_cons (pv 0) (pa_cons (pe_ix ix_list (pe_lst (pa_cons pe_int (pa_cons pe_int (pa_cons pe_int (pa_cons (pe_op op_pow pe_int pe_int) (pa_cons (pe_op op_pow pe_int pe_int) (pa_cons (pe_op op_mul pe_int (pe_op op_pow pe_int pe_int)) pa_nil))))))) (pe_call G_law_roll (hr.mono (by omega)) (by rfl) D_law_roll.g D_law_roll.F.kp D_law_roll.b .nil pass0 (pa_cons (pv 0) (pa_cons pe_int pa_nil))) (fun _ _ => rfl)) pa_nil)))) pa_nil))))), ?_⟩
  have h18 : (10 : Int) ^ Int.toNat 18 = 1000000000000000000 := by decide
  have h6 : (10 : Int) ^ Int.toNat 6 = 1000000 := by decide
  walk_at "go"
  rename_i so H1 kn1
  refine kRoll kn1 (by omega) (by omega) (by omega) fun c H2 c0 c1 kn2 => ?_
  obtain ⟨y, hy, hym⟩ := atMem (es := [1, 4, 60, (10 : Int) ^ Int.toNat 6, (10 : Int) ^ Int.toNat 18, 2 * (10 : Int) ^ Int.toNat 18]) c0 (by simpa using c1)
  have hy1 : 1 ≤ y ∧ y ≤ 2000000000000000000 := by
    rw [h18, h6] at hym
    simp only [List.mem_cons, List.not_mem_nil, or_false] at hym
    rcases hym with rfl | rfl | rfl | rfl | rfl | rfl <;> omega
  refine kIxL (kn2.seqL List.mem_cons_self) hy ?_
  walk_at "go"
  refine kRoll kn2.tail (by omega) (by omega) (by omega) fun r H3 r0 r1 kn3 => ?_
  walk_at "go"
  rw [h18]
  refine q _ _ ?_ ?_ (kn3.more (by omega)) <;> (repeat' split) <;> omega

/-! ### names, unlike ones below a bound, by dice -/
abbrev s_law_names : Stmt := topS 36
theorem sc_law_names : FnScope ["dice", "n", "m", "found", "k", "one"] ["dice", "n", "m"] (defScope s_law_names) := ⟨rfl, rfl, rfl, by decide +kernel, rfl, by decide +kernel, by decide +kernel⟩
theorem nodup_sub {α : Type} [DecidableEq α] : ∀ (l m : List α), l.Nodup → (∀ x ∈ l, x ∈ m) → l.length ≤ m.length
  | [], m, _, _ => Nat.zero_le _
  | x :: r, m, nd, h => by
    have hx := h x List.mem_cons_self
    have ih := nodup_sub r (m.erase x) (List.nodup_cons.mp nd).2 fun y hy => by
      have hne : y ≠ x := fun e => (List.nodup_cons.mp nd).1 (e ▸ hy)
      exact (List.mem_erase_of_ne hne).mpr (h y (List.mem_cons_of_mem _ hy))
    rw [List.length_erase_of_mem hx] at ih
    have : 0 < m.length := List.length_pos_of_mem hx
    rw [List.length_cons]
    omega
/-- a number from s on, m round, is not in a row of fewer -/
theorem probe {m s : Int} {k : Nat} {l : List Int} (m0 : 0 < m) (s0 : 0 ≤ s) (hk : l.length = k) (hm : (k : Int) < m) (h : ∀ u ≤ k, (s + (u : Int)) % m ∈ l) : False := by
  have nd : ((List.range (k + 1)).map (fun u : Nat => (s + (u : Int)) % m)).Nodup := by
    rw [List.nodup_iff_pairwise_ne, List.pairwise_map]
    refine List.Pairwise.imp_of_mem ?_ (List.nodup_range (n := k + 1))
    intro a b ha hb hne e
    have ha' := List.mem_range.mp ha
    have hb' := List.mem_range.mp hb
    have h1 : ((s + (a : Int)) - (s + (b : Int))) % m = 0 := Int.emod_eq_emod_iff_emod_sub_eq_zero.mp e
    have h2 : ((a : Int) - (b : Int)) % m = 0 := by
      have : (s + (a : Int)) - (s + (b : Int)) = (a : Int) - (b : Int) := by omega
      rw [this] at h1
      exact h1
    obtain ⟨c, hc⟩ := Int.dvd_of_emod_eq_zero h2
    have hc0 : c = 0 := by
      by_cases hcp : 0 < c
      · have : m * 1 ≤ m * c := Int.mul_le_mul_of_nonneg_left (by omega) (by omega)
        omega
      · by_cases hcn : c < 0
        · have : m * c ≤ -m := by
            have h3 : m * c ≤ m * (-1) := Int.mul_le_mul_of_nonneg_left (by omega) (by omega)
            omega
          omega
        · omega
    rw [hc0, Int.mul_zero] at hc
    exact hne (by omega)
  have := nodup_sub _ l nd fun x hx => by
    obtain ⟨u, hu, rfl⟩ := List.mem_map.mp hx
    exact h u (by have := List.mem_range.mp hu; omega)
  rw [List.length_map, List.length_range] at this
  omega
def spNames : Sp := fun vs H Q _ => ∃ (d : Addr) (n0 : Nat) (L : Led) (n : Nat) (m : Int), vs = [.ref d, .int (n : Int), .int m] ∧ n ≤ 60 ∧ (n : Int) ≤ m ∧ 0 < m ∧ m < 2 ^ 62 ∧ n0 ≤ 2 ^ 59 ∧ Kn d n0 L H ∧
  ∀ (p : Addr) (ls : List Int) (H' : Hp), ls.length = n → ls.Nodup → (∀ x ∈ ls, 0 ≤ x ∧ x < m) → Kn d (n0 + 100) ((p, .tup (ls.map V.int)) :: L) H' → Q (.ref p) H'
theorem ok_law_namesR {P : Program} {w : World} {K : PySem.W.Frag} {mg : Str → Option Value} {base : Heap} {k : Nat} {f a_law_roll : Addr} {fd fd_law_roll : FuncData} (D : Df K mg "_law_names" s_law_names ["dice", "n", "m"] f fd) (D_law_roll : Df K mg "_law_roll" s_law_roll ["dice", "size"] a_law_roll fd_law_roll) (M : Bl mg) : FnOk P w K mg base CX0 (k + 1 + 1) f fd ["dice", "n", "m"] spNames := by
  have G_law_roll := ok_law_roll (P := P) (w := w) (base := base) (k := 0) D_law_roll M
  refine D.F.ok sc_law_names (fun vs H Q E h => ?_) (fun cdv A outer s H vs Q E hr h => ?_)
  · obtain ⟨d, n0, L, n, m, rfl, _⟩ := h
    rfl
  obtain ⟨d, n0, L, n, m, rfl, n60, nm, m0, m1, hn, kn, q⟩ := h
  refine ⟨_, (pss_cons (ps_set (i := 3) sc_law_names.nd rfl (Or.inl rfl) (pe_lst pa_nil))
   (pss_cons (ps_for PassesOwn.never rfl (pi_range1 (by rfl) M.range (pa_cons (pv 1) pa_nil)) (pg_name (i := 4) sc_law_names.nd rfl (Or.inl rfl))
    (pss_cons (ps_set (i := 5) sc_law_names.nd rfl (Or.inl rfl) (pe_call G_law_roll (hr.mono (by omega)) (by rfl) D_law_roll.g D_law_roll.F.kp D_law_roll.b .nil pass0 (pa_cons (pv 0) (pa_cons (pv 2) pa_nil))))
    (pss_cons (ps_while PassesOwn.never (pt_cmpR op_in_seq (pv 5) (pv 3) (by rfl))
     (pss_one (ps_set (i := 5) sc_law_names.nd rfl (Or.inl rfl) (pe_op op_mod (pe_op op_add (pv 5) pe_int) (pv 2)))))
    (pss_one (ps_expr (pe_bm PySem.F.plainAttrs_list PySem.F.slot_list_append PySem.F.type_list_append mt_append (pv 3) (pa_cons (pv 5) pa_nil)))))))
   (pss_one (ps_ret (pe_callTy c_tuple (by rfl) M.tuple (by decide +kernel) (pa_cons (pv 3) pa_nil)))))), ?_⟩
  walk_at "go"
  rename_i fo H1 kn1
  refine kSeq (kRng1 (n := (n : Int)) (by omega) (fun i σ' H' => ∃ (fs : List Int) (x4 x5 : Option V), σ' = [some (.ref d), some (.int (n : Int)), some (.int m), some (.ref fo), x4, x5] ∧ fs.length = i ∧ fs.Nodup ∧ (∀ x ∈ fs, 0 ≤ x ∧ x < m) ∧ Kn d (n0 + i) ((fo, .lst (fs.map V.int)) :: L) H')
    ⟨[], _, _, rfl, rfl, List.nodup_nil, (fun x h => by cases h), kn1⟩ (fun i σ' H' hi hW => ?_) (fun σ' H' hW => ?_) fun R hR => by walk_at "go"; exact hR)
  · obtain ⟨fs, x4, x5, rfl, hl, hnd, hb, kn2⟩ := hW
    walk_at "go"
    refine kRoll kn2 (by omega) (by omega) (by omega) fun s0 H2 s00 s01 kn3 => ?_
    walk_at "go"
    refine kSeq (kWhile (fun u σ' H' => ∃ (t : Nat) (y : Int), u + t = i ∧ σ' = [some (.ref d), some (.int (n : Int)), some (.int m), some (.ref fo), some (.int (i : Int)), some (.int y)] ∧ (0 ≤ y ∧ y < m) ∧ (y = (s0 + (t : Int)) % m ∧ ∀ u < t, (s0 + (u : Int)) % m ∈ fs) ∧ Kn d (n0 + i + 1) ((fo, .lst (fs.map V.int)) :: L) H') i
      ⟨0, s0, rfl, rfl, ⟨s00, s01⟩, ⟨by rw [Int.natCast_zero, Int.add_zero, Int.emod_eq_of_lt s00 s01], fun u hu => absurd hu (Nat.not_lt_zero _)⟩, kn3⟩ (fun u σ' H' hW => ?_) (fun σ H Q Q' hm' hh => ?_))
    · obtain ⟨t, y, ht, rfl, hy, hor, kn4⟩ := hW
      walk_at "go"
      refine kInL (kn4.seqL List.mem_cons_self) ?_
      refine kBl ?_
      by_cases hm : y ∈ fs
      · rw [decide_eq_true hm]
        refine iteT ?_
        have hti : t < i := by
          by_cases e : t = i
          · refine absurd (probe (k := i) m0 s00 hl (by omega) (fun u hu => ?_)) id
            by_cases h : u = t
            · rw [h, ← hor.1]
              exact hm
            · exact hor.2 u (by omega)
          · omega
        walk_at "go"
        refine ⟨u - 1, by omega, t + 1, _, by omega, rfl, ⟨Int.emod_nonneg _ (by omega), Int.emod_lt_of_pos _ m0⟩, ⟨?_, fun v hv => ?_⟩, kn4⟩
        · rw [hor.1, Int.emod_add_emod]
          congr 1
          push_cast
          omega
        · rcases Nat.lt_succ_iff_lt_or_eq.mp hv with h | h
          · exact hor.2 v h
          · rw [h, ← hor.1]
            exact hm
      · rw [decide_eq_false hm]
        refine iteF ?_
        walk_at "go"
        rename_i H5 kn5
        refine ⟨fs ++ [y], _, _, rfl, by rw [List.length_append, hl]; rfl, ?_, fun x hx => ?_, ?_⟩
        · rw [List.nodup_append]
          refine ⟨hnd, (by simp), fun a ha b hb' e => ?_⟩
          rw [List.mem_singleton.mp hb'] at e
          exact hm (e ▸ ha)
        · rcases List.mem_append.mp hx with h | h
          · exact hb x h
          · rw [List.mem_singleton.mp h]
            exact hy
        · rw [List.map_append]
          exact kn5.more (by omega)
    · obtain ⟨v1, hv1, v2, hv2, p1, xs1, e1, e2, e3, e4, kk, ek, hq⟩ := hh
      exact ⟨v1, hv1, v2, hv2, p1, xs1, e1, e2, e3, e4, kk, ek, hm' _ _ hq⟩
  · obtain ⟨fs, x4, x5, rfl, hl, hnd, hb, kn2⟩ := hW
    walk_at "go"
    rename_i p H5 kn5
    exact q p fs H5 (by omega) hnd hb ((kn5.sub (((List.Sublist.refl L).cons _).cons₂ _)).more (by omega))

/-! ### lists beside one another in the ledger -/
def zipLed (as : List Addr) (rows : List (List Int)) : Led := (as.zip rows).map (fun q => (q.1, HO.lst (q.2.map V.int)))
theorem zipLed_app : ∀ (as : List Addr) (rows : List (List Int)) (a : Addr) (r : List Int), as.length = rows.length → zipLed (as ++ [a]) (rows ++ [r]) = zipLed as rows ++ [(a, HO.lst (r.map V.int))] := by
  intro as rows a r h
  unfold zipLed
  rw [List.zip_append h, List.map_append]
  rfl
theorem zipLed_get {as : List Addr} {rows : List (List Int)} {i : Nat} {a : Addr} {r : List Int} (ha : as[i]? = some a) (hr : rows[i]? = some r) : (zipLed as rows)[i]? = some (a, HO.lst (r.map V.int)) := by
  unfold zipLed
  rw [List.getElem?_map]
  have : (as.zip rows)[i]? = some (a, r) := by rw [List.getElem?_zip_eq_some]; exact ⟨ha, hr⟩
  rw [this]
  rfl
theorem zipLed_set {as : List Addr} {rows : List (List Int)} {i : Nat} {a : Addr} {r : List Int} (ha : as[i]? = some a) (hl : as.length = rows.length) : (zipLed as rows).set i (a, HO.lst (r.map V.int)) = zipLed as (rows.set i r) := by
  apply List.ext_getElem?
  intro j
  have hi := (List.getElem?_eq_some_iff.mp ha).1
  have hzl : ∀ rows' : List (List Int), rows'.length = rows.length → (zipLed as rows').length = as.length := fun rows' h => by
    unfold zipLed
    rw [List.length_map, List.length_zip, h]
    omega
  by_cases hj : j < as.length
  · have haj : as[j]? = some as[j] := List.getElem?_eq_getElem hj
    rw [List.getElem?_set]
    by_cases e : i = j
    · subst e
      rw [if_pos rfl, if_pos (by rw [hzl rows rfl]; exact hi), zipLed_get (r := r) ha (by rw [List.getElem?_set, if_pos rfl, if_pos (by omega)])]
    · have hrj : rows[j]? = some (rows[j]'(by omega)) := List.getElem?_eq_getElem (by omega)
      rw [if_neg e, zipLed_get haj hrj, zipLed_get haj (r := rows[j]'(by omega)) (by rw [List.getElem?_set, if_neg e, hrj])]
  · rw [List.getElem?_eq_none (by rw [List.length_set, hzl rows rfl]; omega), List.getElem?_eq_none (by rw [hzl _ (List.length_set ..)]; omega)]

/-! ### who is tied to whom -/
/-- the row of the house j when i houses have said their next -/
def tieR (xs : List Int) (i j : Nat) : List Int := xs.getD j 0 :: ((List.range i).filter fun k => decide (xs.getD k 0 = (j : Int))).map fun k : Nat => (k : Int)
def tieRows (xs : List Int) (i : Nat) : List (List Int) := (List.range xs.length).map (tieR xs i)
theorem tieR_len (xs : List Int) (i j : Nat) : (tieR xs i j).length ≤ i + 1 := by
  unfold tieR
  rw [List.length_cons, List.length_map]
  have := List.length_filter_le (fun k => decide (xs.getD k 0 = (j : Int))) (List.range i)
  rw [List.length_range] at this
  omega
theorem tieR_succ (xs : List Int) (i j : Nat) : tieR xs (i + 1) j = if xs.getD i 0 = (j : Int) then tieR xs i j ++ [(i : Int)] else tieR xs i j := by
  unfold tieR
  rw [List.range_succ, List.filter_append, List.map_append]
  by_cases h : xs.getD i 0 = (j : Int)
  · rw [if_pos h, List.filter_cons, if_pos (by rw [decide_eq_true_eq]; exact h)]
    rfl
  · rw [if_neg h, List.filter_cons, if_neg (by rw [decide_eq_true_eq]; exact h), List.filter_nil, List.map_nil, List.append_nil]
theorem tieRows_set {xs : List Int} {i g : Nat} (hi : xs.getD i 0 = (g : Int)) (hg : g < xs.length) : tieRows xs (i + 1) = (tieRows xs i).set g (tieR xs i g ++ [(i : Int)]) := by
  unfold tieRows
  apply List.ext_getElem?
  intro j
  rw [List.getElem?_map, List.getElem?_set, List.getElem?_map]
  by_cases hj : j < xs.length
  · rw [List.getElem?_range hj]
    by_cases e : g = j
    · subst e
      rw [if_pos rfl, List.length_map, List.length_range, if_pos hj, Option.map_some, tieR_succ, if_pos hi]
    · have e2 : ¬ (xs.getD i 0 = (j : Int)) := fun z => e (by omega)
      rw [if_neg e, Option.map_some, Option.map_some, tieR_succ, if_neg e2]
  · rw [List.getElem?_eq_none (by rw [List.length_range]; omega)]
    by_cases e : g = j
    · omega
    · simp [if_neg e]
def spTies : Sp := fun vs H Q _ => ∃ (d : Addr) (n : Nat) (L : Led) (p : Addr) (xs : List Int), vs = [.ref p] ∧ xs.length ≤ 1000 ∧ (∀ x ∈ xs, 0 ≤ x ∧ x < xs.length) ∧ (p, .tup (xs.map V.int)) ∈ L ∧ Kn d n L H ∧
  ∀ T as H', as.length = xs.length → Kn d n ((T, .lst (as.map V.ref)) :: (zipLed as (tieRows xs xs.length) ++ L)) H' → Q (.ref T) H'

/-! ### by_hue of the program -/
abbrev s_by_hue : Stmt := topS 9
theorem sc_by_hue : FnScope ["labels"] ["labels"] (defScope s_by_hue) := ⟨rfl, rfl, rfl, by decide +kernel, rfl, by decide +kernel, by decide +kernel⟩
abbrev lamQ : Str := ("by_hue" : Str) ++ ".<locals>." ++ "<lambda>"
def spByHue (P : Addr) : Sp := fun vs H Q _ => ∃ (d : Addr) (n : Nat) (L : Led) (ps : Array Value) (cs : List Addr) (tl : Addr) (labs : List Int), vs = [.ref tl] ∧ labs.length ≤ 100000 ∧ NoT L ∧ (tl, .tup (labs.map V.int)) ∈ L ∧ Tb ps cs ∧ Kn d n (L ++ tbL P lamQ ps cs) H ∧
  ∀ r H' ps' cs', Tb ps' cs' → Kn d n ((r, .lst ((byHue labs).map fun (i : Nat) => V.int (i : Int))) :: (L ++ tbL P lamQ ps' cs')) H' → Q (.ref r) H'
theorem ok_by_hue {P : Program} {w : World} {K : PySem.W.Frag} {mg : Str → Option Value} {base : Heap} {k : Nat} {c P0 : Addr} {f : Addr} {fd : FuncData} (D : Df K mg "by_hue" s_by_hue ["labels"] f fd)  (hc : fd.code = .ref c) (TB : LamX.TabB base mg c P0) (M : Bl mg) : FnOk P w K mg base CX0 (k + 2 + 1) f fd ["labels"] (spByHue P0) := by
  refine okc D.F hc sc_by_hue (fun vs H Q E h => ?_) (fun A outer s H vs Q E hr h => ?_)
  · obtain ⟨d, n, L, ps, cs, tl, labs, rfl, _⟩ := h
    rfl
  obtain ⟨d, n, L, ps, cs, tl, labs, rfl, hl, no, hp, tb, kn, q⟩ := h
  refine ⟨_, pss_one (ps_ret (pe_sortK (a := "labels") (h := "house") (j := 0) (T := [(P0, lamQ)]) (c := c) (P := P0) (k := k) (by rfl) hr (by rfl) M.sorted (by rfl) M.range (pe_callB c_len (by rfl) M.len PySem.boot_len (pa_cons (pv 0) pa_nil)) ?L TB rfl ?hm ?hu ?hd ?hf rfl)), ?_⟩
  case L => exact ⟨rfl, rfl, rfl, by decide +kernel, rfl, rfl, fun _ _ _ _ _ => rfl, ⟨_, _, _, _, _, _, rfl⟩, by decide, by decide, by decide⟩
  case hm => exact List.mem_singleton.mpr rfl
  case hu => exact fun p hp _ => by cases List.mem_singleton.mp hp; rfl
  case hd => rfl
  case hf =>
    have z : ∀ y ∈ ([(Str.ofString "house", NameKind.local), (Str.ofString "labels", NameKind.free)] : List (Str × NameKind)), y.2 = .free → (defScope s_by_hue).names.lookup y.1 = some .cell := by decide +kernel
    exact z
  have tb0 := tabs_kn kn tb
  have hpL : (tl, HO.tup (labs.map V.int)) ∈ L ++ tbL P0 lamQ ps cs := List.mem_append_left _ hp
  refine kRet ?_
  refine kCB (kCons (kVar rfl (kNil (kLenT (kn.seqT hpL) ?_))))
  refine ⟨tl, labs, by rw [List.length_map], hl, rfl, kn.seqT hpL, tb0, fun H2 D e2 t2 hD => ?_⟩
  obtain ⟨ps', cs', tb', kn'⟩ := kn_tab kn no e2 t2
  exact q _ _ ps' cs' tb' (kn'.new hD)
theorem byHue_len (ls : List Int) : (byHue ls).length = ls.length := by rw [byHue, List.length_mergeSort, List.length_range]
theorem byHue_lt {ls : List Int} {h : Nat} (m : h ∈ byHue ls) : h < ls.length := by
  unfold byHue at m
  exact List.mem_range.mp ((List.mergeSort_perm _ _).mem_iff.mp m)

/-! ### _law_ties -/
abbrev s_law_ties : Stmt := topS 38
theorem sc_law_ties : FnScope ["pointing", "after", "found", "k"] ["pointing"] (defScope s_law_ties) := ⟨rfl, rfl, rfl, by decide +kernel, rfl, by decide +kernel, by decide +kernel⟩
theorem ok_law_ties {P : Program} {w : World} {K : PySem.W.Frag} {mg : Str → Option Value} {base : Heap} {k : Nat} {f : Addr} {fd : FuncData} (D : Df K mg "_law_ties" s_law_ties ["pointing"] f fd)  (M : Bl mg) : FnOk P w K mg base CX0 (k + 1) f fd ["pointing"] spTies := by
  refine D.F.ok sc_law_ties (fun vs H Q E h => ?_) (fun cdv A outer s H vs Q E hr h => ?_)
  · obtain ⟨d, n, L, p, xs, rfl, _⟩ := h
    rfl
  obtain ⟨d, n, L, p, xs, rfl, hl, hxs, hp, kn, g⟩ := h
  refine ⟨_, (pss_cons (ps_setLc (i := 2) (own := [("after", 1)]) (g := gName 1) (by rfl) sc_law_ties.nd rfl rfl (sw_true rfl rfl rfl (by decide +kernel)) (pi_tup (pv 0)) (blkOk_by (own := [("after", 1)]) (N := ["pointing", "after", "found", "k"]) (sc := defScope s_law_ties) (by decide +kernel)) (fun _ _ _ _ _ => (pg_name (i := 1) sc_law_ties.nd rfl (Or.inl rfl))) (fun _ _ _ _ _ => pts_nil) (fun _ _ _ _ _ => (pe_lst (pa_cons (pv 1) pa_nil))))
   (pss_cons (ps_for PassesOwn.never rfl (pi_enumU (by rfl) M.enumerate (pa_cons (pv 0) pa_nil)) (pg_tup rfl (pgs_cons (pg_name (i := 3) sc_law_ties.nd rfl (Or.inl rfl)) (pgs_cons (pg_name (i := 1) sc_law_ties.nd rfl (Or.inl rfl)) pgs_nil)))
    (pss_one (ps_expr (pe_bm PySem.F.plainAttrs_list PySem.F.slot_list_append PySem.F.type_list_append mt_append (pe_ix ix_list (pv 2) (pv 1) (fun _ _ => rfl)) (pa_cons (pv 3) pa_nil)))))
   (pss_one (ps_ret (pv 2))))), ?_⟩
  refine kSeq (kAsg ?_)
  refine kLcTS kn hp (fun R hR => by walk_at "go"; exact hR) (by rw [List.length_map]; omega) (fun i acc m2 L2 => m2 = n ∧ ∃ as : List Addr, acc = as.map V.ref ∧ as.length = i ∧ L2.Perm (zipLed as ((List.range i).map (fun j => [xs.getD j 0])) ++ L))
    ⟨rfl, [], rfl, rfl, List.Perm.refl _⟩ (fun i l m2 L2 h => ?_) (fun _ => rfl) (fun i v H' D acc m2 L2 hx hS kn1 N1 N2 h1' _ => ?_) (fun D acc m2 L2 H' hS kn1 => ?_)
  · obtain ⟨_, as, rfl, hal, hs⟩ := h
    exact ⟨by rw [List.length_map]; omega, hs.mem_iff.mpr (List.mem_append_right _ hp)⟩
  · obtain ⟨rfl, as, rfl, hal, hs⟩ := hS
    obtain ⟨z, hz, rfl⟩ : ∃ z, xs[i]? = some z ∧ v = V.int z := by
      rw [List.getElem?_map] at hx
      cases e : xs[i]? with
      | none => rw [e] at hx; cases hx
      | some z => rw [e] at hx; exact ⟨z, rfl, (Option.some.inj hx).symm⟩
    refine kYes (iteT ?_)
    walk_at "go"
    rename_i l H3 kn3
    refine h1' _ _ m2 ((l, HO.lst ([z].map V.int)) :: L2) ⟨rfl, as ++ [l], by rw [List.map_append]; rfl, by rw [List.length_append, hal]; rfl, ?_⟩ (kn3.perm (List.Perm.swap _ _ _))
    rw [List.range_succ, List.map_append]
    show List.Perm _ (zipLed (as ++ [l]) (List.map (fun j => [xs.getD j 0]) (List.range i) ++ [[xs.getD i 0]]) ++ _)
    rw [zipLed_app _ _ _ _ (by rw [List.length_map, List.length_range]; exact hal), getD_of hz, List.append_assoc]
    exact (hs.cons _).trans List.perm_middle.symm
  · obtain ⟨rfl, as, rfl, hal, hs⟩ := hS
    rw [List.length_map] at hs hal
    have e0 : (List.range xs.length).map (fun j => [xs.getD j 0]) = tieRows xs 0 := rfl
    rw [e0] at hs
    have kn4 := kn1.perm (hs.cons (D, HO.lst (as.map V.ref)))
    have hrl : ∀ i, (tieRows xs i).length = xs.length := fun i => by rw [tieRows, List.length_map, List.length_range]
    refine kSeq (kForE (K := K) (p := p) (xs := xs.map V.int) (fun i σ' H' => ∃ (x1 x3 : Option V), σ' = [some (.ref p), x1, some (.ref D), x3] ∧ Kn d m2 ((D, .lst (as.map V.ref)) :: (zipLed as (tieRows xs i) ++ L)) H') (kn4.seqT (List.mem_cons_of_mem _ (List.mem_append_right _ hp))) ⟨_, _, rfl, kn4⟩ (fun i σ' H' _ hW => by obtain ⟨_, _, _, k'⟩ := hW; exact k'.seqT (List.mem_cons_of_mem _ (List.mem_append_right _ hp))) (fun i x σ' H' T hx hW hT => ?_) (fun σ' H' hW => ?_) fun R hR => by walk_at "go"; exact hR)
    · obtain ⟨x1, x3, rfl, kn5⟩ := hW
      have kn6 := (kn5.new (o := .tup [.int (i : Int), x]) hT).tail
      obtain ⟨z, hz, rfl⟩ : ∃ z, xs[i]? = some z ∧ x = V.int z := by
        rw [List.getElem?_map] at hx
        cases e : xs[i]? with
        | none => rw [e] at hx; cases hx
        | some z => rw [e] at hx; exact ⟨z, rfl, (Option.some.inj hx).symm⟩
      have hzm := hxs z (List.mem_of_getElem? hz)
      have hi : i < xs.length := (List.getElem?_eq_some_iff.mp hz).1
      obtain ⟨g0, rfl⟩ : ∃ g0 : Nat, z = (g0 : Int) := ⟨z.toNat, by omega⟩
      have hg0 : g0 < xs.length := by omega
      have ha : as[g0]? = some (as[g0]'(by omega)) := List.getElem?_eq_getElem (by omega)
      have hrow : (tieRows xs i)[g0]? = some (tieR xs i g0) := by rw [tieRows, List.getElem?_map, List.getElem?_range hg0]; rfl
      have hav : atI (as.map V.ref) (g0 : Int) = some (V.ref (as[g0]'(by omega))) := atI_nat (by rw [List.getElem?_map, ha]; rfl)
      have hlen := tieR_len xs i g0
      have hzl : (zipLed as (tieRows xs i))[g0]? = some ((as[g0]'(by omega)), HO.lst ((tieR xs i g0).map V.int)) := zipLed_get ha hrow
      have hix : ((D, HO.lst (as.map V.ref)) :: (zipLed as (tieRows xs i) ++ L))[g0 + 1]? = some ((as[g0]'(by omega)), HO.lst ((tieR xs i g0).map V.int)) := by
        rw [List.getElem?_cons_succ, List.getElem?_append_left (List.getElem?_eq_some_iff.mp hzl).1]
        exact hzl
      walk_at "go"
      refine kIxL (kn6.seqL List.mem_cons_self) hav ?_
      walk_at "go"
      refine kTyL (kn6.at (g0 + 1) hix) ?_
      walk_at "go"
      refine kAppK kn6 (g0 + 1) hix (by rw [List.length_map]; omega) fun H7 kn7 => ⟨_, _, rfl, ?_⟩
      have e7 : ((D, HO.lst (as.map V.ref)) :: (zipLed as (tieRows xs i) ++ L)).set (g0 + 1) ((as[g0]'(by omega)), HO.lst ((tieR xs i g0).map V.int ++ [V.int (i : Int)])) = (D, HO.lst (as.map V.ref)) :: (zipLed as (tieRows xs (i + 1)) ++ L) := by
        have e8 : (tieR xs i g0).map V.int ++ [V.int (i : Int)] = (tieR xs i g0 ++ [(i : Int)]).map V.int := by rw [List.map_append]; rfl
        rw [e8, List.set_cons_succ, List.set_append_left _ _ (List.getElem?_eq_some_iff.mp hzl).1, zipLed_set ha (by rw [hrl, hal]), tieRows_set (getD_of hz) hg0]
      rw [e7] at kn7
      exact kn7
    · obtain ⟨x1, x3, rfl, kn5⟩ := hW
      rw [List.length_map] at kn5
      walk_at "go"
      exact g D as _ hal kn5

/-! ### an item of a tuple exchanged -/
abbrev s_law_put : Stmt := topS 37
theorem sc_law_put : FnScope ["things", "at", "what"] ["things", "at", "what"] (defScope s_law_put) := ⟨rfl, rfl, rfl, by decide +kernel, rfl, by decide +kernel, by decide +kernel⟩
def spPut : Sp := fun vs H Q _ => ∃ (d : Addr) (n : Nat) (L : Led) (a : Addr) (ls : List Int) (i : Nat) (w : Int), vs = [.ref a, .int (i : Int), .int w] ∧ ls.length ≤ 1000 ∧ i < ls.length ∧ (a, .tup (ls.map V.int)) ∈ L ∧ Kn d n L H ∧
  ∀ r H', Kn d n ((r, .tup ((ls.set i w).map V.int)) :: L) H' → Q (.ref r) H'
theorem ok_law_put {P : Program} {w : World} {K : PySem.W.Frag} {mg : Str → Option Value} {base : Heap} {k : Nat} {f : Addr} {fd : FuncData} (D : Df K mg "_law_put" s_law_put ["things", "at", "what"] f fd)  (M : Bl mg) : FnOk P w K mg base CX0 (k + 1) f fd ["things", "at", "what"] spPut := by
  refine D.F.ok sc_law_put (fun vs H Q E h => ?_) (fun cdv A outer s H vs Q E hr h => ?_)
  · obtain ⟨d, n, L, a, ls, i, x, rfl, _⟩ := h
    rfl
  obtain ⟨d, n, L, a, ls, i, x, rfl, hl, hi, ha, kn, q⟩ := h
  refine ⟨_, (pss_one (ps_ret (pe_op op_catA (pe_op op_catA (pe_slice sl_tupA (pv 0) po_none (po_some (pv 1))) (pe_tup (pa_cons (pv 2) pa_nil))) (pe_slice sl_tupA (pv 0) (po_some (pe_op op_add (pv 1) pe_int)) po_none)))), ?_⟩
  walk_at "go"
  have ec1 := cutTake (ls.map V.int) i (by rw [List.length_map]; omega)
  have ec2 := cutDrop (ls.map V.int) (i + 1) (by rw [List.length_map]; omega)
  refine kSlN kn ha (by rw [ec1, List.length_take, List.length_map]; omega) fun r1 H1 kn1 => ?_
  rw [ec1] at kn1
  walk_at "go"
  rename_i t H2 kn2
  refine kCatN kn2 (by rw [List.length_take, List.length_map, List.length_singleton]; omega) fun r3 H3 kn3 => ?_
  walk_at "go"
  have ei : (i : Int) + 1 = ((i + 1 : Nat) : Int) := by omega
  rw [ei]
  refine kSlN kn3 (List.mem_cons_of_mem _ ha) (by rw [ec2, List.length_drop, List.length_map]; omega) fun r4 H4 kn4 => ?_
  rw [ec2] at kn4
  walk_at "go"
  refine kCatN kn4 (by rw [List.length_append, List.length_take, List.length_drop, List.length_map, List.length_singleton]; omega) fun r5 H5 kn5 => ?_
  have e : ((ls.map V.int).take i ++ [V.int x]) ++ (ls.map V.int).drop (i + 1) = (ls.set i x).map V.int := by
    rw [List.set_eq_take_append_cons_drop, if_pos hi, List.map_append, List.map_cons, List.map_take, List.map_drop, List.append_assoc]
    rfl
  rw [e] at kn5
  exact q r5 H5 kn5

/-! ### labels put otherwise stay proper -/
theorem proper_iff {xs ls : List Int} : properB xs ls = true ↔ ∀ i, i < xs.length → ls.getD i 0 ≠ ls.getD (xs.getD i 0).toNat 0 := by
  unfold properB
  rw [List.all_eq_true]
  constructor
  · intro h i hi
    have := h i (List.mem_range.mpr hi)
    unfold apartAt at this
    simpa using this
  · intro h i hi
    have := h i (List.mem_range.mp hi)
    unfold apartAt
    simpa using this
theorem tie_mem {xs : List Int} {h : Nat} {z : Int} (m : z ∈ tieR xs xs.length h) : z = xs.getD h 0 ∨ ∃ k : Nat, k < xs.length ∧ xs.getD k 0 = (h : Int) ∧ z = (k : Int) := by
  unfold tieR at m
  rcases List.mem_cons.mp m with e | m
  · exact .inl e
  · obtain ⟨k, hk, rfl⟩ := List.mem_map.mp m
    obtain ⟨h1, h2⟩ := List.mem_filter.mp hk
    exact .inr ⟨k, List.mem_range.mp h1, of_decide_eq_true h2, rfl⟩
theorem tie_next {xs : List Int} {h : Nat} : xs.getD h 0 ∈ tieR xs xs.length h := by
  unfold tieR
  exact List.mem_cons_self
theorem tie_back {xs : List Int} {h k : Nat} (hk : k < xs.length) (e : xs.getD k 0 = (h : Int)) : (k : Int) ∈ tieR xs xs.length h := by
  unfold tieR
  exact List.mem_cons_of_mem _ (List.mem_map.mpr ⟨k, List.mem_filter.mpr ⟨List.mem_range.mpr hk, decide_eq_true e⟩, rfl⟩)
theorem goalD {xs : List Int} {m : Int} (hp : PtOk m xs) {i : Nat} (hi : i < xs.length) : 0 ≤ xs.getD i 0 ∧ xs.getD i 0 < xs.length ∧ xs.getD i 0 ≠ i := by
  have e : xs[i]? = some xs[i] := List.getElem?_eq_getElem hi
  rw [getD_of e]
  exact hp.goal i _ e
theorem tie_lt {xs : List Int} {m : Int} (hp : PtOk m xs) {h : Nat} (hh : h < xs.length) {z : Int} (mz : z ∈ tieR xs xs.length h) : 0 ≤ z ∧ z < xs.length := by
  rcases tie_mem mz with rfl | ⟨k, hk, _, rfl⟩
  · have := goalD hp hh
    omega
  · omega
theorem own_free {xs ls : List Int} (hpr : properB xs ls = true) {h : Nat} (hh : h < xs.length) {z : Int} (mz : z ∈ tieR xs xs.length h) : ls.getD z.toNat 0 ≠ ls.getD h 0 := by
  rw [proper_iff] at hpr
  rcases tie_mem mz with rfl | ⟨k, hk, e, rfl⟩
  · exact fun z => hpr h hh z.symm
  · have := hpr k hk
    rw [e] at this
    simpa using this
theorem getD_set {ls : List Int} {h j : Nat} {f : Int} (hh : h < ls.length) : (ls.set h f).getD j 0 = if j = h then f else ls.getD j 0 := by
  rw [List.getD_eq_getElem?_getD, List.getElem?_set]
  by_cases e : h = j
  · subst e
    rw [if_pos rfl, if_pos hh, if_pos rfl]
    rfl
  · rw [if_neg e, if_neg (fun z => e z.symm), List.getD_eq_getElem?_getD]
theorem set_proper {xs ls : List Int} {m : Int} (hp : PtOk m xs) (hl : ls.length = xs.length) (hpr : properB xs ls = true) {h : Nat} (hh : h < xs.length) {f : Int} (hf : ∀ z ∈ tieR xs xs.length h, ls.getD z.toNat 0 ≠ f) : properB xs (ls.set h f) = true := by
  have hpr' := proper_iff.mp hpr
  rw [proper_iff]
  intro i hi
  have hg := goalD hp hi
  rw [getD_set (by omega), getD_set (by omega)]
  by_cases e1 : i = h
  · subst e1
    rw [if_pos rfl, if_neg (by omega)]
    exact fun z => hf _ tie_next z.symm
  · rw [if_neg e1]
    by_cases e2 : (xs.getD i 0).toNat = h
    · rw [if_pos e2]
      have e3 : xs.getD i 0 = (h : Int) := by omega
      have := hf _ (tie_back hi e3)
      rwa [Int.toNat_natCast] at this
    · rw [if_neg e2]
      exact hpr' i hi
/-- hues exchanged -/
theorem turn_proper {xs ls t : List Int} {m : Int} (hp : PtOk m xs) (hl : ls.length = xs.length) (hpr : properB xs ls = true) (h3 : ∀ z ∈ ls, 0 ≤ z ∧ z ≤ 2) (ht : t.getD 0 0 ≠ t.getD 1 0 ∧ t.getD 0 0 ≠ t.getD 2 0 ∧ t.getD 1 0 ≠ t.getD 2 0) : properB xs (ls.map fun z => t.getD z.toNat 0) = true := by
  have hpr' := proper_iff.mp hpr
  rw [proper_iff]
  intro i hi
  have hg := goalD hp hi
  have at_ : ∀ j, j < ls.length → (ls.map fun z => t.getD z.toNat 0).getD j 0 = t.getD (ls.getD j 0).toNat 0 := fun j hj => by
    rw [List.getD_eq_getElem?_getD, List.getElem?_map, List.getElem?_eq_getElem hj, getD_of (List.getElem?_eq_getElem hj)]
    rfl
  rw [at_ i (by omega), at_ _ (by omega)]
  have hne := hpr' i hi
  have m1 : ls.getD i 0 ∈ ls := by rw [getD_of (List.getElem?_eq_getElem (by omega : i < ls.length))]; exact List.getElem_mem _
  have m2 : ls.getD (xs.getD i 0).toNat 0 ∈ ls := by rw [getD_of (List.getElem?_eq_getElem (by omega : (xs.getD i 0).toNat < ls.length))]; exact List.getElem_mem _
  have b1 := h3 _ m1
  have b2 := h3 _ m2
  generalize ls.getD i 0 = u at *
  generalize ls.getD (xs.getD i 0).toNat 0 = v at *
  obtain ⟨t1, t2, t3⟩ := ht
  have hu : u = 0 ∨ u = 1 ∨ u = 2 := by omega
  have hv : v = 0 ∨ v = 1 ∨ v = 2 := by omega
  rcases hu with rfl | rfl | rfl <;> rcases hv with rfl | rfl | rfl <;> first | exact absurd rfl hne | assumption | exact fun z => t1 z.symm | exact fun z => t2 z.symm | exact fun z => t3 z.symm

/-! ### labels of 0, 1, 2, drawn -/
abbrev s_law_labels : Stmt := topS 39
theorem sc_law_labels : FnScope ["dice", "pointing", "n", "m", "told", "turn", "labels", "ties", "k", "house", "free", "one", "hue"] ["dice", "pointing"] (defScope s_law_labels) := ⟨rfl, rfl, rfl, by decide +kernel, rfl, by decide +kernel, by decide +kernel⟩
def spLabels : Sp := fun vs H Q _ => ∃ (d : Addr) (n0 : Nat) (L : Led) (p : Addr) (xs : List Int), vs = [.ref d, .ref p] ∧ PtOk 60 xs ∧ n0 ≤ 2 ^ 58 ∧ (p, .tup (xs.map V.int)) ∈ L ∧ Kn d n0 L H ∧
  ∀ r (ls : List Int) H', ls.length = xs.length → (∀ z ∈ ls, 0 ≤ z ∧ z ≤ 2) → properB xs ls = true → Kn d (n0 + 200) ((r, .tup (ls.map V.int)) :: L) H' → Q (.ref r) H'
section
variable {P : Program} {w : World} {K : PySem.W.Frag} {mg : Str → Option Value} {base : Heap} {C_NotProper fI_NotProper : Addr} {fd_NotProper : FuncData} {m_NotProper : Expr} {bm_NotProper : List Value}
theorem ok_law_labels (E_NotProper : Rf P K mg "NotProper" "house" C_NotProper fI_NotProper fd_NotProper m_NotProper bm_NotProper) {k : Nat} {f a_clashing a_check_proper a_unlike_place a_stepped a_step a_halvings a_needed_steps a_shortenings a_taken_over a_given_up a_both_rounds a_all_labels a_hues a_law_roll a_law_bound a_law_names a_law_put a_law_ties : Addr} {fd fd_clashing fd_check_proper fd_unlike_place fd_stepped fd_step fd_halvings fd_needed_steps fd_shortenings fd_taken_over fd_given_up fd_both_rounds fd_all_labels fd_hues fd_law_roll fd_law_bound fd_law_names fd_law_put fd_law_ties : FuncData} (D : Df K mg "_law_labels" s_law_labels ["dice", "pointing"] f fd) (D_clashing : Df K mg "clashing" s_clashing ["pointing", "labels"] a_clashing fd_clashing) (D_check_proper : Df K mg "check_proper" s_check_proper ["pointing", "labels"] a_check_proper fd_check_proper) (D_unlike_place : Df K mg "unlike_place" s_unlike_place ["one", "other"] a_unlike_place fd_unlike_place) (D_stepped : Df K mg "stepped" s_stepped ["label", "goal_label"] a_stepped fd_stepped) (D_step : Df K mg "step" s_step ["pointing", "labels"] a_step fd_step) (D_halvings : Df K mg "halvings" s_halvings ["m"] a_halvings fd_halvings) (D_needed_steps : Df K mg "needed_steps" s_needed_steps ["m"] a_needed_steps fd_needed_steps) (D_shortenings : Df K mg "shortenings" s_shortenings ["pointing", "names", "m"] a_shortenings fd_shortenings) (D_taken_over : Df K mg "taken_over" s_taken_over ["pointing", "labels"] a_taken_over fd_taken_over) (D_given_up : Df K mg "given_up" s_given_up ["ahead", "label", "goal_label", "hue"] a_given_up fd_given_up) (D_both_rounds : Df K mg "both_rounds" s_both_rounds ["pointing", "labels", "hue"] a_both_rounds fd_both_rounds) (D_all_labels : Df K mg "all_labels" s_all_labels ["pointing", "names", "m"] a_all_labels fd_all_labels) (D_hues : Df K mg "hues" s_hues ["pointing", "names", "m"] a_hues fd_hues) (D_law_roll : Df K mg "_law_roll" s_law_roll ["dice", "size"] a_law_roll fd_law_roll) (D_law_bound : Df K mg "_law_bound" s_law_bound ["dice", "n"] a_law_bound fd_law_bound) (D_law_names : Df K mg "_law_names" s_law_names ["dice", "n", "m"] a_law_names fd_law_names) (D_law_put : Df K mg "_law_put" s_law_put ["things", "at", "what"] a_law_put fd_law_put) (D_law_ties : Df K mg "_law_ties" s_law_ties ["pointing"] a_law_ties fd_law_ties)
    (C1 : ∃ t, mg "SHORT" = some (.int 6 t)) (C2 : ∃ a, mg "LEFT_HUES" = some (.ref a) ∧ ∀ H, SqT K H a (([0, 1, 2] : List Int).map V.int)) (C3 : ∃ a, mg "GONE_HUES" = some (.ref a) ∧ ∀ H, SqT K H a (([5, 4, 3] : List Int).map V.int)) (M : Bl mg) :
    FnOk P w K mg base CX0 (k + 1 + 1 + 1 + 1 + 1 + 1 + 1) f fd ["dice", "pointing"] spLabels := by
  have G_law_roll := ok_law_roll (P := P) (w := w) (base := base) (k := 0) D_law_roll M
  have G_law_bound := ok_law_boundR (P := P) (w := w) (base := base) (k := 0) D_law_bound D_law_roll M
  have G_law_names := ok_law_namesR (P := P) (w := w) (base := base) (k := 0) D_law_names D_law_roll M
  have G_law_put := ok_law_put (P := P) (w := w) (base := base) (k := 0) D_law_put M
  have G_law_ties := ok_law_ties (P := P) (w := w) (base := base) (k := 0) D_law_ties M
  have G_hues := ok_hues (w := w) (base := base) (k := 0) E_NotProper D_hues D_clashing D_check_proper D_unlike_place D_stepped D_step D_halvings D_needed_steps D_shortenings D_taken_over D_given_up D_both_rounds D_all_labels C1 C2 C3 M
  refine D.F.ok sc_law_labels (fun vs H Q E h => ?_) (fun cdv A outer s H vs Q E hr h => ?_)
  · obtain ⟨d, n, L, p, xs, rfl, _⟩ := h
    rfl
  obtain ⟨d, n0, L, p, xs, rfl, hp, hn0, hpL, kn, q⟩ := h
  refine ⟨_, (pss_cons (ps_set (i := 2) sc_law_labels.nd rfl (Or.inl rfl) (pe_callB c_len (by rfl) M.len PySem.boot_len (pa_cons (pv 1) pa_nil)))
   (pss_cons (ps_set (i := 3) sc_law_labels.nd rfl (Or.inl rfl) (pe_call G_law_bound (hr.mono (by omega)) (by rfl) D_law_bound.g D_law_bound.F.kp D_law_bound.b .nil pass0 (pa_cons (pv 0) (pa_cons (pv 2) pa_nil))))
   (pss_cons (ps_set (i := 4) sc_law_labels.nd rfl (Or.inl rfl) (pe_call G_hues (hr.mono (by omega)) (by rfl) D_hues.g D_hues.F.kp D_hues.b .nil passX (pa_cons (pv 1) (pa_cons (pe_call G_law_names (hr.mono (by omega)) (by rfl) D_law_names.g D_law_names.F.kp D_law_names.b .nil pass0 (pa_cons (pv 0) (pa_cons (pv 2) (pa_cons (pv 3) pa_nil)))) (pa_cons (pv 3) pa_nil)))))
   (pss_cons (ps_set (i := 5) sc_law_labels.nd rfl (Or.inr rfl) (pe_ix ix_list (pe_lst (pa_cons (pe_lst (pa_cons pe_int (pa_cons pe_int (pa_cons pe_int pa_nil)))) (pa_cons (pe_lst (pa_cons pe_int (pa_cons pe_int (pa_cons pe_int pa_nil)))) (pa_cons (pe_lst (pa_cons pe_int (pa_cons pe_int (pa_cons pe_int pa_nil)))) (pa_cons (pe_lst (pa_cons pe_int (pa_cons pe_int (pa_cons pe_int pa_nil)))) (pa_cons (pe_lst (pa_cons pe_int (pa_cons pe_int (pa_cons pe_int pa_nil)))) (pa_cons (pe_lst (pa_cons pe_int (pa_cons pe_int (pa_cons pe_int pa_nil)))) pa_nil))))))) (pe_call G_law_roll (hr.mono (by omega)) (by rfl) D_law_roll.g D_law_roll.F.kp D_law_roll.b .nil pass0 (pa_cons (pv 0) (pa_cons pe_int pa_nil))) (fun _ _ => rfl)))
   (pss_cons (ps_set (i := 6) sc_law_labels.nd rfl (Or.inr rfl) (pe_callTy c_tuple (by rfl) M.tuple (by decide +kernel) (pa_cons (pe_lc (own := [("one", 11)]) (g := gName 11) (by rfl) sc_law_labels.nd (pi_tup (pv 4)) (blkOk_by (own := [("one", 11)]) (N := ["dice", "pointing", "n", "m", "told", "turn", "labels", "ties", "k", "house", "free", "one", "hue"]) (sc := defScope s_law_labels) (by decide +kernel)) (fun _ _ _ _ _ => (pg_name (i := 11) sc_law_labels.nd rfl (Or.inl rfl))) (fun _ _ _ _ _ => pts_nil) (fun _ _ _ _ _ => (pe_ix (ixL (K := K) rfl) (pv 5) (pv 11) (fun _ _ => rfl)))) pa_nil)))
   (pss_cons (ps_set (i := 7) sc_law_labels.nd rfl (Or.inr rfl) (pe_call G_law_ties (hr.mono (by omega)) (by rfl) D_law_ties.g D_law_ties.F.kp D_law_ties.b .nil pass0 (pa_cons (pv 1) pa_nil)))
   (pss_cons (ps_for PassesOwn.never rfl (pi_range1 (by rfl) M.range (pa_cons (pe_call G_law_roll (hr.mono (by omega)) (by rfl) D_law_roll.g D_law_roll.F.kp D_law_roll.b .nil pass0 (pa_cons (pv 0) (pa_cons pe_int pa_nil))) pa_nil)) (pg_name (i := 8) sc_law_labels.nd rfl (Or.inl rfl))
    (pss_cons (ps_set (i := 9) sc_law_labels.nd rfl (Or.inr rfl) (pe_call G_law_roll (hr.mono (by omega)) (by rfl) D_law_roll.g D_law_roll.F.kp D_law_roll.b .nil pass0 (pa_cons (pv 0) (pa_cons (pv 2) pa_nil))))
    (pss_cons (ps_setLc (i := 10) (own := [("hue", 12)]) (g := gName 12) (by rfl) sc_law_labels.nd rfl rfl (sw_true rfl rfl rfl (by decide +kernel)) (pi_range1 (by rfl) M.range (pa_cons pe_int pa_nil)) (blkOk_by (own := [("hue", 12)]) (N := ["dice", "pointing", "n", "m", "told", "turn", "labels", "ties", "k", "house", "free", "one", "hue"]) (sc := defScope s_law_labels) (by decide +kernel)) (fun _ _ _ _ _ => (pg_name (i := 12) sc_law_labels.nd rfl (Or.inl rfl))) (fun _ _ _ _ _ => (pts_one (pt_cmpR (niQ (K := K) rfl) (pv 12) (pe_lc (own := [("one", 11)]) (g := gName 11) (by rfl) sc_law_labels.nd (pi_listQ (K := K) rfl (pe_ix (ixL (K := K) rfl) (pv 7) (pv 9) (fun _ _ => rfl))) (blkOk_by (own := [("one", 11)]) (by rfl)) (fun _ _ _ _ _ => (pg_name (i := 11) sc_law_labels.nd rfl (Or.inl rfl))) (fun _ _ _ _ _ => pts_nil) (fun _ _ _ _ _ => (pe_ix (ixT (K := K) rfl) (pv 6) (pv 11) (fun _ _ => rfl)))) (by rfl)))) (fun _ _ _ _ _ => (pv 12)))
    (pss_one (ps_set (i := 6) sc_law_labels.nd rfl (Or.inr rfl) (pe_call G_law_put (hr.mono (by omega)) (by rfl) D_law_put.g D_law_put.F.kp D_law_put.b .nil pass0 (pa_cons (pv 6) (pa_cons (pv 9) (pa_cons (pe_ix ix_list (pv 10) (pe_call G_law_roll (hr.mono (by omega)) (by rfl) D_law_roll.g D_law_roll.F.kp D_law_roll.b .nil pass0 (pa_cons (pv 0) (pa_cons (pe_callB c_len (by rfl) M.len PySem.boot_len (pa_cons (pv 10) pa_nil)) pa_nil))) (fun _ _ => rfl)) pa_nil)))))))))
   (pss_one (ps_ret (pv 6)))))))))), ?_⟩
  have h60 := hp.most
  have h2 := hp.two
  have hx0 : ∀ x ∈ xs, 0 ≤ x ∧ x < xs.length := fun x hx => by
    obtain ⟨i, hi⟩ := List.getElem?_of_mem hx
    have := hp.goal i x hi
    exact ⟨by omega, by omega⟩
  walk_at "go"
  rw [List.length_map]
  refine ⟨d, n0, L, (xs.length : Int), rfl, by omega, by omega, by omega, kn, fun m H1 hm1 hm2 kn1 => ?_⟩
  obtain ⟨m, rfl⟩ : ∃ m' : Nat, m = (m' : Int) := ⟨m.toNat, by omega⟩
  walk_at "go"
  refine ⟨d, n0 + 10, L, xs.length, (m : Int), rfl, by omega, by omega, by omega, by omega, by omega, kn1, fun b ns H2 hnl hnd hnr kn2 => ?_⟩
  have hnm : NmOk xs ns m := ⟨hnl, hnd, hnr⟩
  have hm62 : m < 2 ^ 62 := by omega
  walk_at "go"
  refine ⟨d, n0 + 10 + 100, _, p, b, xs, ns, m, rfl, hp, hnl, hnm.into hm62, hnm.proper hp, hm62, List.mem_cons_of_mem _ hpL, List.mem_cons_self, kn2, fun r L2 H3 hr2 hs2 kn3 => ?_⟩
  walk_at "go"
  rename_i a1 G1 k1 a2 G2 k2 a3 G3 k3 a4 G4 k4 a5 G5 k5 a6 G6 k6 pt G7 k7
  refine ⟨d, n0 + 10 + 100, _, 6, rfl, by omega, by decide, by omega, k7, fun y H4 hy0 hy6 kn8 => ?_⟩
  have hpick : ∃ (a : Addr) (t : List Int), atI [V.ref a1, V.ref a2, V.ref a3, V.ref a4, V.ref a5, V.ref a6] y = some (V.ref a) ∧ (a, HO.lst (t.map V.int)) ∈ ([(pt, HO.lst [V.ref a1, V.ref a2, V.ref a3, V.ref a4, V.ref a5, V.ref a6]), (a6, HO.lst (([2, 1, 0] : List Int).map V.int)), (a5, HO.lst (([2, 0, 1] : List Int).map V.int)), (a4, HO.lst (([1, 2, 0] : List Int).map V.int)), (a3, HO.lst (([1, 0, 2] : List Int).map V.int)), (a2, HO.lst (([0, 2, 1] : List Int).map V.int)), (a1, HO.lst (([0, 1, 2] : List Int).map V.int))] ++ L2 : Led) ∧ t.length = 3 ∧ (∀ i : Nat, i < 3 → 0 ≤ t.getD i 0 ∧ t.getD i 0 ≤ 2) ∧ (t.getD 0 0 ≠ t.getD 1 0 ∧ t.getD 0 0 ≠ t.getD 2 0 ∧ t.getD 1 0 ≠ t.getD 2 0) := by
    have h6 : y = 0 ∨ y = 1 ∨ y = 2 ∨ y = 3 ∨ y = 4 ∨ y = 5 := by omega
    rcases h6 with rfl | rfl | rfl | rfl | rfl | rfl
    · exact ⟨a1, [0, 1, 2], rfl, by simp, rfl, by decide, by decide⟩
    · exact ⟨a2, [0, 2, 1], rfl, by simp, rfl, by decide, by decide⟩
    · exact ⟨a3, [1, 0, 2], rfl, by simp, rfl, by decide, by decide⟩
    · exact ⟨a4, [1, 2, 0], rfl, by simp, rfl, by decide, by decide⟩
    · exact ⟨a5, [2, 0, 1], rfl, by simp, rfl, by decide, by decide⟩
    · exact ⟨a6, [2, 1, 0], rfl, by simp, rfl, by decide, by decide⟩
  obtain ⟨a, t, hat, hta, ht3, htr, htd⟩ := hpick
  refine kIxL (kn8.seqL List.mem_cons_self) hat ?_
  have hs4 : L2.Sublist ([(pt, HO.lst [V.ref a1, V.ref a2, V.ref a3, V.ref a4, V.ref a5, V.ref a6]), (a6, HO.lst (([2, 1, 0] : List Int).map V.int)), (a5, HO.lst (([2, 0, 1] : List Int).map V.int)), (a4, HO.lst (([1, 2, 0] : List Int).map V.int)), (a3, HO.lst (([1, 0, 2] : List Int).map V.int)), (a2, HO.lst (([0, 2, 1] : List Int).map V.int)), (a1, HO.lst (([0, 1, 2] : List Int).map V.int))] ++ L2 : Led) := List.sublist_append_right _ _
  have kn9 : Kn d (n0 + 10 + 100 + 1) ([(pt, HO.lst [V.ref a1, V.ref a2, V.ref a3, V.ref a4, V.ref a5, V.ref a6]), (a6, HO.lst (([2, 1, 0] : List Int).map V.int)), (a5, HO.lst (([2, 0, 1] : List Int).map V.int)), (a4, HO.lst (([1, 2, 0] : List Int).map V.int)), (a3, HO.lst (([1, 0, 2] : List Int).map V.int)), (a2, HO.lst (([0, 2, 1] : List Int).map V.int)), (a1, HO.lst (([0, 1, 2] : List Int).map V.int))] ++ L2 : Led) H4 := kn8
  clear k1 k2 k3 k4 k5 k6 k7 kn8 hat
  generalize ([(pt, HO.lst [V.ref a1, V.ref a2, V.ref a3, V.ref a4, V.ref a5, V.ref a6]), (a6, HO.lst (([2, 1, 0] : List Int).map V.int)), (a5, HO.lst (([2, 0, 1] : List Int).map V.int)), (a4, HO.lst (([1, 2, 0] : List Int).map V.int)), (a3, HO.lst (([1, 0, 2] : List Int).map V.int)), (a2, HO.lst (([0, 2, 1] : List Int).map V.int)), (a1, HO.lst (([0, 1, 2] : List Int).map V.int))] ++ L2 : Led) = L4 at *
  have hs5 : L.Sublist L4 := ((List.sublist_cons_self _ _).trans hs2).trans hs4
  have hr4 := hs4.subset hr2
  walk_at "go"
  have hfew := hues_few hp hnm hm62
  obtain ⟨hhl, _, hhp⟩ := lastTo_ok (m := m) hp hnl (hnm.into hm62) (hnm.proper hp) 3
  have hhl : (huesL xs ns m).length = xs.length := hhl
  have hhp : properB xs (huesL xs ns m) = true := hhp
  generalize huesL xs ns m = hs at *
  refine kLcT (p := r) (xs := hs.map V.int) kn9 hr4 (fun R hR => by walk_at "go"; exact hR) (by rw [List.length_map]; omega) (fun i => (hs.take i).map fun z => V.int (t.getD z.toNat 0)) rfl (fun i => by rw [List.length_map, List.length_take]; omega) (fun _ => rfl) (fun i v H5 D2 hx kn10 N1 N2 h1' _ => ?_) fun D2 H5 kn10 => ?_
  · obtain ⟨z, hz, rfl⟩ : ∃ z, hs[i]? = some z ∧ v = V.int z := by
      rw [List.getElem?_map] at hx
      cases e : hs[i]? with
      | none => rw [e] at hx; cases hx
      | some z => rw [e] at hx; exact ⟨z, rfl, (Option.some.inj hx).symm⟩
    have hzr := hfew z (List.mem_of_getElem? hz)
    obtain ⟨z, rfl⟩ : ∃ z' : Nat, z = (z' : Int) := ⟨z.toNat, by omega⟩
    have ha : atI (t.map V.int) (z : Int) = some (V.int (t.getD z 0)) := atI_nat (by rw [List.getElem?_map, List.getElem?_eq_getElem (by omega : z < t.length), getD_of (List.getElem?_eq_getElem (by omega : z < t.length))]; rfl)
    refine kYes (iteT ?_)
    walk_at "go"
    refine kIxL (kn10.seqL (List.mem_cons_of_mem _ hta)) ha ?_
    refine h1' _ _ kn10 ?_
    rw [List.take_add_one, hz, List.map_append]
    rfl
  · have e1 : ((hs.take (hs.map V.int).length).map fun z => V.int (t.getD z.toNat 0)) = (hs.map fun z => t.getD z.toNat 0).map V.int := by
      rw [List.length_map, List.take_length, List.map_map]
      rfl
    rw [e1] at kn10
    have hl0 : (hs.map fun z => t.getD z.toNat 0).length = xs.length := by rw [List.length_map]; exact hhl
    have hr0 : ∀ z ∈ (hs.map fun z => t.getD z.toNat 0), 0 ≤ z ∧ z ≤ 2 := fun z hz => by
      obtain ⟨u, hu, rfl⟩ := List.mem_map.mp hz
      have := hfew u hu
      exact htr _ (by omega)
    have hp0 := turn_proper hp hhl hhp hfew htd
    generalize (hs.map fun z => t.getD z.toNat 0) = ls0 at *
    walk_at "go"
    rename_i r0 H6 kn11
    refine ⟨d, n0 + 10 + 100 + 1, _, p, xs, rfl, by omega, hx0, List.mem_cons_of_mem _ (List.mem_cons_of_mem _ (hs5.subset hpL)), kn11, fun T as H7 hal kn12 => ?_⟩
    have hsX : L.Sublist ((T, HO.lst (as.map V.ref)) :: (zipLed as (tieRows xs xs.length) ++ ((r0, HO.tup (ls0.map V.int)) :: (D2, HO.lst (ls0.map V.int)) :: L4))) := List.Sublist.cons _ ((((hs5.cons _).cons _)).trans (List.sublist_append_right _ _))
    have hr0X : (r0, HO.tup (ls0.map V.int)) ∈ ((T, HO.lst (as.map V.ref)) :: (zipLed as (tieRows xs xs.length) ++ ((r0, HO.tup (ls0.map V.int)) :: (D2, HO.lst (ls0.map V.int)) :: L4))) := List.mem_cons_of_mem _ (List.mem_append_right _ List.mem_cons_self)
    have hrL : List.Sublist ((r0, HO.tup (ls0.map V.int)) :: L) ((T, HO.lst (as.map V.ref)) :: (zipLed as (tieRows xs xs.length) ++ ((r0, HO.tup (ls0.map V.int)) :: (D2, HO.lst (ls0.map V.int)) :: L4))) := List.Sublist.cons _ (((hs5.cons _).cons₂ _).trans (List.sublist_append_right _ _))
    have hTX : (T, HO.lst (as.map V.ref)) ∈ ((T, HO.lst (as.map V.ref)) :: (zipLed as (tieRows xs xs.length) ++ ((r0, HO.tup (ls0.map V.int)) :: (D2, HO.lst (ls0.map V.int)) :: L4))) := List.mem_cons_self
    have hzX : ∀ y ∈ zipLed as (tieRows xs xs.length), y ∈ ((T, HO.lst (as.map V.ref)) :: (zipLed as (tieRows xs xs.length) ++ ((r0, HO.tup (ls0.map V.int)) :: (D2, HO.lst (ls0.map V.int)) :: L4))) := fun y hy => List.mem_cons_of_mem _ (List.mem_append_left _ hy)
    generalize ((T, HO.lst (as.map V.ref)) :: (zipLed as (tieRows xs xs.length) ++ ((r0, HO.tup (ls0.map V.int)) :: (D2, HO.lst (ls0.map V.int)) :: L4))) = L7 at *
    walk_at "go"
    refine kSeq (kRngD (fun z H' => (0 ≤ z ∧ z < 8) ∧ Kn d (n0 + 112) L7 H') (fun R hR => ?_) (fun z H8 ⟨hz, kn13⟩ => ⟨by omega, fun i σ' H' => ∃ (x8 x9 x10 x11 x12 : Option V) (lr : Addr) (ls : List Int) (X : Led), σ' = [some (.ref d), some (.ref p), some (.int (xs.length : Int)), some (.int (m : Int)), some (.ref r), some (.ref a), some (.ref lr), some (.ref T), x8, x9, x10, x11, x12] ∧ i ≤ 8 ∧ ls.length = xs.length ∧ (∀ z ∈ ls, 0 ≤ z ∧ z ≤ 2) ∧ properB xs ls = true ∧ (lr, HO.tup (ls.map V.int)) ∈ X ∧ List.Sublist ((lr, HO.tup (ls.map V.int)) :: L) X ∧ L7.Sublist X ∧ Kn d (n0 + 112 + 2 * i) X H',
      ⟨_, _, _, _, _, r0, ls0, L7, rfl, by omega, hl0, hr0, hp0, hr0X, hrL, List.Sublist.refl _, kn13⟩, fun i σ' H' hi hW => ?_, fun σ' H' hW => ?_⟩))
    · walk_at "go"
      refine ⟨d, n0 + 10 + 100 + 1, _, 8, rfl, by omega, by decide, by omega, kn12, fun y H9 hy0 hy8 kn14 => hR _ _ ⟨⟨hy0, hy8⟩, kn14⟩⟩
    · obtain ⟨x8, x9, x10, x11, x12, lr, ls, X, rfl, hi8, hll, hlr, hlp, hlm, hsXL, hsX7, kn14⟩ := hW
      walk_at "go"
      refine ⟨d, n0 + 112 + 2 * i, X, (xs.length : Int), rfl, by omega, log_small (by omega) (by omega), by omega, kn14, fun h H9 hh0 hh1 kn15 => ?_⟩
      obtain ⟨h, rfl⟩ : ∃ h' : Nat, h = (h' : Int) := ⟨h.toNat, by omega⟩
      walk_at "go"
      have hhn : h < xs.length := by omega
      have hha : as[h]? = some (as[h]'(by omega)) := List.getElem?_eq_getElem (by omega)
      have hav : atI (as.map V.ref) (h : Int) = some (V.ref (as[h]'(by omega))) := atI_nat (by rw [List.getElem?_map, hha]; rfl)
      have hrow : (tieRows xs xs.length)[h]? = some (tieR xs xs.length h) := by rw [tieRows, List.getElem?_map, List.getElem?_range hhn]; rfl
      have hzm : ((as[h]'(by omega)), HO.lst ((tieR xs xs.length h).map V.int)) ∈ X := hsX7.subset (hzX _ (List.mem_of_getElem? (zipLed_get hha hrow)))
      have htl := tieR_len xs xs.length h
      have hTm := hsX7.subset hTX
      refine kLcR (lo := 0) (N := 3) kn15 (fun R hR => by walk_at "go"; exact ⟨3, rfl, by omega, by omega, hR⟩) (by omega) (fun c => ((List.range c).filter fun u : Nat => decide ((u : Int) ∉ (tieR xs xs.length h).map fun z => ls.getD z.toNat 0)).map fun u : Nat => V.int (u : Int)) rfl (fun c => by
          rw [List.length_map]
          have := List.length_filter_le (fun u : Nat => decide ((u : Int) ∉ (tieR xs xs.length h).map fun z => ls.getD z.toNat 0)) (List.range c)
          rw [List.length_range] at this
          exact this) (fun _ => rfl) (fun c H10 D3 hc kn16 N1 N2 h1' h2' => ?_) fun D3 H10 kn16 => ?_
      · have e0 : (0 : Int) + (c : Int) = (c : Int) := Int.zero_add _
        rw [e0] at *
        walk_at "go"
        refine kLcL (p := as[h]'(by omega)) (xs := (tieR xs xs.length h).map V.int) kn16 (List.mem_cons_of_mem _ hzm) (fun R hR => by walk_at "go"; exact kIxL (kn16.seqL (List.mem_cons_of_mem _ hTm)) hav hR)
          (by rw [List.length_map]; omega) (fun j => ((tieR xs xs.length h).take j).map fun z => V.int (ls.getD z.toNat 0)) rfl (fun j => by rw [List.length_map, List.length_take]; omega) (fun _ => rfl) (fun j x H11 D4 hx kn17 N3 N4 h3' _ => ?_) fun D4 H11 kn17 => ?_
        · obtain ⟨z, hz2, rfl⟩ : ∃ z, (tieR xs xs.length h)[j]? = some z ∧ x = V.int z := by
            rw [List.getElem?_map] at hx
            cases e : (tieR xs xs.length h)[j]? with
            | none => rw [e] at hx; cases hx
            | some z => rw [e] at hx; exact ⟨z, rfl, (Option.some.inj hx).symm⟩
          have hzr := tie_lt hp hhn (List.mem_of_getElem? hz2)
          obtain ⟨z, rfl⟩ : ∃ z' : Nat, z = (z' : Int) := ⟨z.toNat, by omega⟩
          have hlz : z < ls.length := by omega
          have ha2 : atI (ls.map V.int) (z : Int) = some (V.int (ls.getD z 0)) := atI_nat (by rw [List.getElem?_map, List.getElem?_eq_getElem hlz, getD_of (List.getElem?_eq_getElem hlz)]; rfl)
          refine kYes (iteT ?_)
          walk_at "go"
          refine kIxT (kn17.seqT (List.mem_cons_of_mem _ (List.mem_cons_of_mem _ hlm))) ha2 ?_
          refine h3' _ _ kn17 ?_
          rw [List.take_add_one, hz2, List.map_append]
          rfl
        · have e5 : ((tieR xs xs.length h).take ((tieR xs xs.length h).map V.int).length).map (fun z => V.int (ls.getD z.toNat 0)) = ((tieR xs xs.length h).map fun z => ls.getD z.toNat 0).map V.int := by
            rw [List.length_map, List.take_length, List.map_map]
            rfl
          rw [e5] at kn17
          refine kNiL (kn17.seqL List.mem_cons_self) ⟨_, rfl, ?_⟩
          by_cases hin : (c : Int) ∈ (tieR xs xs.length h).map fun z => ls.getD z.toNat 0
          · rw [decide_eq_true hin]
            refine iteF ?_
            refine h2' _ kn17.tail ?_
            show List.map _ (List.filter _ (List.range (c + 1))) = _
            rw [List.range_succ, List.filter_append, List.filter_cons, if_neg (by rw [decide_eq_true_eq]; exact fun z => z hin), List.filter_nil, List.append_nil]
          · rw [decide_eq_false hin]
            refine iteT ?_
            walk_at "go"
            refine h1' _ _ kn17.tail ?_
            show List.map _ (List.filter _ (List.range (c + 1))) = _
            rw [List.range_succ, List.filter_append, List.filter_cons, if_pos (by rw [decide_eq_true_eq]; exact hin), List.filter_nil, List.map_append]
            rfl
      · have e6 : (((List.range 3).filter fun u : Nat => decide ((u : Int) ∉ (tieR xs xs.length h).map fun z => ls.getD z.toNat 0)).map fun u : Nat => V.int (u : Int)) = (((List.range 3).filter fun u : Nat => decide ((u : Int) ∉ (tieR xs xs.length h).map fun z => ls.getD z.toNat 0)).map fun u : Nat => (u : Int)).map V.int := by
          rw [List.map_map]
          rfl
        rw [e6] at kn16
        have hhl2 : h < ls.length := by omega
        have hown := hlr (ls.getD h 0) (by rw [getD_of (List.getElem?_eq_getElem hhl2)]; exact List.getElem_mem _)
        have hmem : ls.getD h 0 ∈ (((List.range 3).filter fun u : Nat => decide ((u : Int) ∉ (tieR xs xs.length h).map fun z => ls.getD z.toNat 0)).map fun u : Nat => (u : Int)) := by
          refine List.mem_map.mpr ⟨(ls.getD h 0).toNat, List.mem_filter.mpr ⟨List.mem_range.mpr (by omega), ?_⟩, by omega⟩
          rw [decide_eq_true_eq]
          intro z
          obtain ⟨w0, hw0, e⟩ := List.mem_map.mp z
          have hne := own_free hlp hhn hw0
          rw [Int.toNat_of_nonneg hown.1] at e
          exact hne e
        have hall : ∀ e ∈ (((List.range 3).filter fun u : Nat => decide ((u : Int) ∉ (tieR xs xs.length h).map fun z => ls.getD z.toNat 0)).map fun u : Nat => (u : Int)), (0 ≤ e ∧ e ≤ 2) ∧ ∀ z ∈ tieR xs xs.length h, ls.getD z.toNat 0 ≠ e := fun e he => by
          obtain ⟨u, hu, rfl⟩ := List.mem_map.mp he
          obtain ⟨h1, h2⟩ := List.mem_filter.mp hu
          have h1 := List.mem_range.mp h1
          refine ⟨by omega, fun z hz3 e => ?_⟩
          exact (of_decide_eq_true h2) (List.mem_map.mpr ⟨z, hz3, e⟩)
        have hlen3 : (((List.range 3).filter fun u : Nat => decide ((u : Int) ∉ (tieR xs xs.length h).map fun z => ls.getD z.toNat 0)).map fun u : Nat => (u : Int)).length ≤ 3 := by
          rw [List.length_map]
          have := List.length_filter_le (fun u : Nat => decide ((u : Int) ∉ (tieR xs xs.length h).map fun z => ls.getD z.toNat 0)) (List.range 3)
          rw [List.length_range] at this
          exact this
        generalize (((List.range 3).filter fun u : Nat => decide ((u : Int) ∉ (tieR xs xs.length h).map fun z => ls.getD z.toNat 0)).map fun u : Nat => (u : Int)) = fr at *
        have hpos := List.length_pos_of_mem hmem
        walk_at "go"
        rw [List.length_map]
        refine ⟨d, n0 + 112 + 2 * i + 1, _, (fr.length : Int), rfl, by omega, log_small (by omega) (by omega), by omega, kn16, fun y H11 y0 y1 kn17 => ?_⟩
        obtain ⟨e, he, hem⟩ := atMem y0 y1
        refine kIxL (kn17.seqL List.mem_cons_self) he ?_
        obtain ⟨he1, he2⟩ := hall e hem
        refine ⟨d, n0 + 112 + 2 * i + 1 + 1, X, lr, ls, h, e, rfl, by omega, hhl2, hlm, kn17.tail, fun r2 H12 kn18 => ?_⟩
        walk_at "go"
        refine ⟨_, _, _, _, _, r2, ls.set h e, (r2, HO.tup ((ls.set h e).map V.int)) :: X, rfl, by omega, by rw [List.length_set]; exact hll, fun z hz4 => ?_, set_proper hp hll hlp hhn he2, List.mem_cons_self, ((List.sublist_cons_self _ _).trans hsXL).cons₂ _, hsX7.cons _, kn18.more (by omega)⟩
        rcases List.mem_or_eq_of_mem_set hz4 with z5 | rfl
        · exact hlr z z5
        · exact he1
    · obtain ⟨x8, x9, x10, x11, x12, lr, ls, X, rfl, hi8, hll, hlr, hlp, hlm, hsXL, hsX7, kn14⟩ := hW
      walk_at "go"
      exact q lr ls _ hll hlr hlp ((kn14.sub hsXL).more (by omega))
end

/-! ### the houses hue by hue -/
theorem keyLe_trans (lab : Nat → Int) (a b c : Nat) (h1 : keyLe lab a b = true) (h2 : keyLe lab b c = true) : keyLe lab a c = true := by
  unfold keyLe at *
  rw [decide_eq_true_eq] at *
  omega
theorem keyLe_total (lab : Nat → Int) (a b : Nat) : (keyLe lab a b || keyLe lab b a) = true := by
  unfold keyLe
  rw [Bool.or_eq_true, decide_eq_true_eq, decide_eq_true_eq]
  omega
theorem keyLe_anti (lab : Nat → Int) (a b : Nat) (h1 : keyLe lab a b = true) (h2 : keyLe lab b a = true) : a = b := by
  unfold keyLe at *
  rw [decide_eq_true_eq] at *
  omega
def hueRow (ls : List Int) (c : Int) : List Nat := (List.range ls.length).filter fun k => decide (ls.getD k 0 = c)
theorem mem_hueRow {ls : List Int} {c : Int} {k : Nat} : k ∈ hueRow ls c ↔ k < ls.length ∧ ls.getD k 0 = c := by
  unfold hueRow
  rw [List.mem_filter, List.mem_range, decide_eq_true_eq]
theorem hueRow_pw (ls : List Int) (c : Int) : (hueRow ls c).Pairwise fun a b => keyLe (fun i => ls.getD i 0) a b = true := by
  refine List.Pairwise.imp_of_mem ?_ ((List.pairwise_lt_range (n := ls.length)).filter _)
  intro a b ha hb hab
  have ha := mem_hueRow.mp ha
  have hb := mem_hueRow.mp hb
  unfold keyLe
  rw [decide_eq_true_eq]
  have := ha.2
  have := hb.2
  exact .inr ⟨(show ls.getD a 0 = ls.getD b 0 by rw [ha.2, hb.2]), by omega⟩
theorem hueRow_cross {ls : List Int} {c e : Int} (h : c < e) : ∀ a ∈ hueRow ls c, ∀ b ∈ hueRow ls e, keyLe (fun i => ls.getD i 0) a b = true := fun a ha b hb => by
  have ha := mem_hueRow.mp ha
  have hb := mem_hueRow.mp hb
  unfold keyLe
  rw [decide_eq_true_eq]
  left
  show ls.getD a 0 < ls.getD b 0
  rw [ha.2, hb.2]
  exact h
theorem byHue_rows {ls : List Int} (h3 : ∀ z ∈ ls, 0 ≤ z ∧ z ≤ 2) : byHue ls = hueRow ls 0 ++ (hueRow ls 1 ++ hueRow ls 2) := by
  have nd : ∀ c, (hueRow ls c).Nodup := fun c => List.nodup_range.filter _
  have disj : ∀ c e : Int, c ≠ e → ∀ a ∈ hueRow ls c, ∀ b ∈ hueRow ls e, a ≠ b := fun c e hne a ha b hb z => by
    subst z
    exact hne ((mem_hueRow.mp ha).2.symm.trans (mem_hueRow.mp hb).2)
  refine List.Perm.eq_of_pairwise (le := fun a b => keyLe (fun i => ls.getD i 0) a b = true) (fun a b _ _ h1 h2 => keyLe_anti _ _ _ h1 h2) (List.pairwise_mergeSort (keyLe_trans _) (keyLe_total _) _) ?_ ?_
  · rw [List.pairwise_append, List.pairwise_append]
    refine ⟨hueRow_pw ls 0, ⟨hueRow_pw ls 1, hueRow_pw ls 2, hueRow_cross (by decide)⟩, fun a ha b hb => ?_⟩
    rcases List.mem_append.mp hb with hb | hb
    · exact hueRow_cross (by decide) a ha b hb
    · exact hueRow_cross (by decide) a ha b hb
  · refine (List.mergeSort_perm _ _).trans ?_
    rw [List.perm_ext_iff_of_nodup List.nodup_range]
    · intro k
      rw [List.mem_range, List.mem_append, List.mem_append, mem_hueRow, mem_hueRow, mem_hueRow]
      constructor
      · intro hk
        have hm : ls.getD k 0 ∈ ls := by rw [getD_of (List.getElem?_eq_getElem hk)]; exact List.getElem_mem _
        have := h3 _ hm
        omega
      · rintro (h | h | h) <;> exact h.1
    · rw [List.nodup_append, List.nodup_append]
      refine ⟨nd 0, ⟨nd 1, nd 2, disj 1 2 (by decide)⟩, fun a ha b hb => ?_⟩
      rcases List.mem_append.mp hb with hb | hb
      · exact disj 0 1 (by decide) a ha b hb
      · exact disj 0 2 (by decide) a ha b hb

/-! ### paired of the program -/
abbrev s_paired : Stmt := topS 14
theorem sc_paired : FnScope ["pointing", "labels", "told", "taken", "house", "goal"] ["pointing", "labels"] (defScope s_paired) := ⟨rfl, rfl, rfl, by decide +kernel, rfl, by decide +kernel, by decide +kernel⟩
/-- whether a house is in one of the pairs of those that asked -/
def takB (xs : List Int) (hs : List Nat) (k : Int) : Bool := hs.any fun h => decide ((h : Int) = k) || decide (xs.getD h 0 = k)
def prStep (xs : List Int) (hs : List Nat) (h : Nat) : List Nat := if (!takB xs hs (h : Int) && !takB xs hs (xs.getD h 0)) = true then hs ++ [h] else hs
def prL (xs ls : List Int) (i : Nat) : List Nat := ((byHue ls).take i).foldl (prStep xs) []
def prOf (xs : List Int) (hs : List Nat) : List (Int × Int) := hs.map fun (h : Nat) => ((h : Int), xs.getD h 0)
theorem prL_succ {xs ls : List Int} {i h : Nat} (e : (byHue ls)[i]? = some h) : prL xs ls (i + 1) = prStep xs (prL xs ls i) h := by
  unfold prL
  rw [List.take_add_one, e, List.foldl_append]
  rfl
theorem prL_zero (xs ls : List Int) : prL xs ls 0 = [] := by simp [prL]
theorem prL_len (xs ls : List Int) : ∀ i, (prL xs ls i).length ≤ i
  | 0 => by simp [prL]
  | i + 1 => by
    have ih := prL_len xs ls i
    cases e : (byHue ls)[i]? with
    | none =>
      have : prL xs ls (i + 1) = prL xs ls i := by
        unfold prL
        rw [List.take_add_one, e]
        simp
      rw [this]
      omega
    | some h =>
      rw [prL_succ e]
      unfold prStep
      split
      · rw [List.length_append, List.length_singleton]
        omega
      · omega
theorem takB_snoc (xs : List Int) (hs : List Nat) (h : Nat) : takB xs (hs ++ [h]) = fun j => (takB xs hs j || decide (j = (h : Int))) || decide (j = xs.getD h 0) := by
  funext j
  unfold takB
  rw [List.any_append, List.any_cons, List.any_nil, Bool.or_false, Bool.or_assoc]
  congr 2
  · exact decide_eq_decide.mpr eq_comm
  · exact decide_eq_decide.mpr eq_comm
def spPaired (C P0 : Addr) : Sp := fun vs H Q E => ∃ (d : Addr) (n : Nat) (L : Led) (ps : Array Value) (cs : List Addr) (p q : Addr) (xs ls : List Int), vs = [.ref p, .ref q] ∧ PtOk 60 xs ∧ ls.length = xs.length ∧ NoT L ∧ (p, .tup (xs.map V.int)) ∈ L ∧ (q, .tup (ls.map V.int)) ∈ L ∧ Tb ps cs ∧ Kn d n (L ++ tbL P0 lamQ ps cs) H ∧
  (properB xs ls = true → ∀ r (bs : List Addr) (ms : List (Int × Int)) (X : Led) H' ps' cs', Tb ps' cs' → NoT X → L.Sublist X → PairsAt X bs ms → ms.Perm (prOf xs (prL xs ls ls.length)) → ms.Pairwise pairLe → Kn d n ((r, .lst (bs.map V.ref)) :: (X ++ tbL P0 lamQ ps' cs')) H' → Q (.ref r) H') ∧
  (∀ c r, clashL xs ls xs.length = c :: r → ∀ e H', Kn d n ((e, .xd [(("house" : Str), .int c)]) :: (L ++ tbL P0 lamQ ps cs)) H' → E (.ref C) (some e) H')
section
variable {P : Program} {w : World} {K : PySem.W.Frag} {mg : Str → Option Value} {base : Heap} {C_NotProper fI_NotProper : Addr} {fd_NotProper : FuncData} {m_NotProper : Expr} {bm_NotProper : List Value}
theorem ok_paired (E_NotProper : Rf P K mg "NotProper" "house" C_NotProper fI_NotProper fd_NotProper m_NotProper bm_NotProper) {k : Nat} {c P0 : Addr} {f a_clashing a_check_proper a_by_hue : Addr} {fd fd_clashing fd_check_proper fd_by_hue : FuncData} (D : Df K mg "paired" s_paired ["pointing", "labels"] f fd) (D_clashing : Df K mg "clashing" s_clashing ["pointing", "labels"] a_clashing fd_clashing) (D_check_proper : Df K mg "check_proper" s_check_proper ["pointing", "labels"] a_check_proper fd_check_proper) (D_by_hue : Df K mg "by_hue" s_by_hue ["labels"] a_by_hue fd_by_hue) (hc : fd_by_hue.code = .ref c) (TB : LamX.TabB base mg c P0) (M : Bl mg) :
    FnOk P w K mg base (L2.CX P w) (k + 1 + 1 + 1 + 1) f fd ["pointing", "labels"] (spPaired C_NotProper P0) := by
  have G_check_proper := ok_check_proper (w := w) (base := base) (k := 0) E_NotProper D_check_proper D_clashing M
  have G_by_hue := ok_by_hue (P := P) (w := w) (base := base) (k := 0) D_by_hue hc TB M
  refine D.F.okX sc_paired (fun vs H Q E h => ?_) (fun cdv A outer s H vs Q E hr h => ?_)
  · obtain ⟨d, n, L, ps, cs, p, q, xs, ls, rfl, _⟩ := h
    rfl
  obtain ⟨d, n, L, ps, cs, p, q, xs, ls, rfl, hp, hl, no, hpL, hqL, tb, kn, gR, gE⟩ := h
  refine ⟨_, (pss_cons (ps_expr (pe_callS G_check_proper (hr.mono (by omega)) (by rfl) D_check_proper.g D_check_proper.F.kp D_check_proper.b (fun σ => passAt (takes_of rfl rfl rfl rfl) σ) (pa_cons (pv 0) (pa_cons (pv 1) pa_nil))))
   (pss_cons (ps_set (i := 2) sc_paired.nd rfl (Or.inl rfl) (pe_lst pa_nil))
   (pss_cons (ps_set (i := 3) sc_paired.nd rfl (Or.inl rfl) (pe_callTy0 cr_set0 (by rfl) M.set (by decide +kernel)))
   (pss_cons (ps_for (passes_of rfl) rfl (pi_list (pe_call G_by_hue (hr.mono (by omega)) (by rfl) D_by_hue.g D_by_hue.F.kp D_by_hue.b .nil pass0 (pa_cons (pv 1) pa_nil))) (pg_name (i := 4) sc_paired.nd rfl (Or.inl rfl))
    (pss_cons (ps_set (i := 5) sc_paired.nd rfl (Or.inl rfl) (pe_ix ix_tup (pv 0) (pv 4) (fun _ _ => rfl)))
    (pss_one (ps_if (PW.pt (pw_and (pt_cmpR or_snotin (pv 4) (pv 3) (by rfl)) (pw_and1 (pt_cmpR or_snotin (pv 5) (pv 3) (by rfl))))) (pss_cons (ps_expr (pe_bm PySem.F.plainAttrs_list PySem.F.slot_list_append PySem.F.type_list_append mt_append (pv 2) (pa_cons (pe_tup (pa_cons (pv 4) (pa_cons (pv 5) pa_nil))) pa_nil)))
     (pss_cons (ps_expr (pe_sadd (pv 3) (pa_cons (pv 4) pa_nil)))
     (pss_one (ps_expr (pe_sadd (pv 3) (pa_cons (pv 5) pa_nil)))))) pss_nil))))
   (pss_one (ps_ret (pe_callB cr_sortedPO (by rfl) M.sorted (by decide +kernel) (pa_cons (pv 2) pa_nil)))))))), ?_⟩
  have hpA : (p, HO.tup (xs.map V.int)) ∈ L ++ tbL P0 lamQ ps cs := List.mem_append_left _ hpL
  have hqA : (q, HO.tup (ls.map V.int)) ∈ L ++ tbL P0 lamQ ps cs := List.mem_append_left _ hqL
  have h60 := hp.most
  walk_at "go"
  refine ⟨d, n, _, p, q, xs, ls, rfl, hp, hl, hpA, hqA, kn, fun hpr H1 kn1 => ?_, gE⟩
  walk_at "go"
  rename_i D H2 kn2
  refine kSet0 kn2 fun T H3 kn3 => ?_
  have kn3' : Kn d n (((T, SetO w T (fun _ => false) 0) :: (D, HO.lst ([] : List V)) :: L) ++ tbL P0 lamQ ps cs) H3 := kn3
  have no3 : NoT ((T, SetO w T (fun _ => false) 0) :: (D, HO.lst ([] : List V)) :: L) := no.lst.set
  refine kSeq (kForMade (fun r xs' H' => ∃ ps' cs', Tb ps' cs' ∧ xs' = ((byHue ls).map fun (i : Nat) => V.int (i : Int)) ∧ Kn d n ((r, HO.lst xs') :: (((T, SetO w T (fun _ => false) 0) :: (D, HO.lst ([] : List V)) :: L) ++ tbL P0 lamQ ps' cs')) H') (fun R hR => ?_) fun B xs' H4 hG => ?_)
  · walk_at "go"
    refine ⟨d, n, _, ps, cs, q, ls, rfl, by omega, no3, List.mem_cons_of_mem _ (List.mem_cons_of_mem _ hqL), tb, kn3', fun r H5 ps' cs' tb' kn5 => hR _ _ _ ⟨ps', cs', tb', rfl, kn5⟩⟩
  obtain ⟨ps', cs', tb', rfl, kn4⟩ := hG
  refine ⟨kn4.seqL List.mem_cons_self, fun i σ' H' => ∃ (x4 x5 : Option V) (as : List Addr) (X : Led) (m : Nat), σ' = [some (.ref p), some (.ref q), some (.ref D), some (.ref T), x4, x5] ∧ i ≤ ls.length ∧ m ≤ 2 * i ∧ NoT X ∧ L.Sublist X ∧ PairsAt X as (prOf xs (prL xs ls i)) ∧
    Kn d n ((D, HO.lst (as.map V.ref)) :: (T, SetO w T (takB xs (prL xs ls i)) m) :: (B, HO.lst ((byHue ls).map fun (i : Nat) => V.int (i : Int))) :: (X ++ tbL P0 lamQ ps' cs')) H', ⟨_, _, [], L, 0, rfl, by omega, by omega, no, List.Sublist.refl _, (by rw [prL_zero]; exact PairsAt.nil), (by rw [prL_zero]; exact kn4.perm (List.Perm.trans (List.Perm.swap _ _ _) (List.Perm.trans (List.Perm.cons _ (List.Perm.swap _ _ _)) (List.Perm.swap _ _ _))))⟩, fun i σ' H' hW => ?_, fun i x σ' H' hx hW => ?_, fun σ' H' hW => ?_⟩
  · obtain ⟨_, _, _, _, _, _, _, _, _, _, _, k'⟩ := hW
    exact k'.seqL (List.mem_cons_of_mem _ (List.mem_cons_of_mem _ List.mem_cons_self))
  · obtain ⟨x4, x5, as, X, m, rfl, hi, hm, noX, hLX, hPA, kn5⟩ := hW
    obtain ⟨h, hh, rfl⟩ : ∃ h, (byHue ls)[i]? = some h ∧ x = V.int (h : Int) := by
      rw [List.getElem?_map] at hx
      cases e : (byHue ls)[i]? with
      | none => rw [e] at hx; cases hx
      | some h => rw [e] at hx; exact ⟨h, rfl, (Option.some.inj hx).symm⟩
    have hhl := byHue_lt (List.mem_of_getElem? hh)
    have hil : i < ls.length := by
      have := (List.getElem?_eq_some_iff.mp hh).1
      rw [byHue_len] at this
      exact this
    have hpl := prL_len xs ls i
    have hal := hPA.len
    have hxh : atI (xs.map V.int) (h : Int) = some (V.int (xs.getD h 0)) := atI_nat (by rw [List.getElem?_map, List.getElem?_eq_getElem (by omega : h < xs.length), getD_of (List.getElem?_eq_getElem (by omega : h < xs.length))]; rfl)
    have es := prL_succ (xs := xs) hh
    unfold prStep at es
    walk_at "go"
    refine kIxT (kn5.seqT (List.mem_cons_of_mem _ (List.mem_cons_of_mem _ (List.mem_cons_of_mem _ (List.mem_append_left _ (hLX.subset hpL)))))) hxh ?_
    walk_at "go"
    refine kSNotIn (kn5.mem (List.mem_cons_of_mem _ List.mem_cons_self)) ⟨_, rfl, ?_⟩
    cases ht1 : takB xs (prL xs ls i) (h : Int) with
    | true =>
      rw [ht1, Bool.not_true, Bool.false_and, if_neg (by decide)] at es
      refine iteF ?_
      walk_at "go"
      refine ⟨_, _, as, X, m, rfl, by omega, by omega, noX, hLX, ?_, ?_⟩
      · rw [es]; exact hPA
      · rw [es]; exact kn5
    | false =>
      refine iteT ?_
      walk_at "go"
      refine kSNotIn (kn5.mem (List.mem_cons_of_mem _ List.mem_cons_self)) ⟨_, rfl, ?_⟩
      cases ht2 : takB xs (prL xs ls i) (xs.getD h 0) with
      | true =>
        rw [ht1, ht2, Bool.not_true, Bool.and_false, if_neg (by decide)] at es
        refine iteF ?_
        walk_at "go"
        refine ⟨_, _, as, X, m, rfl, by omega, by omega, noX, hLX, ?_, ?_⟩
        · rw [es]; exact hPA
        · rw [es]; exact kn5
      | false =>
        rw [ht1, ht2, if_pos (by decide)] at es
        refine iteT ?_
        walk_at "go"
        rename_i tp H6 kn6
        have hlo : (prOf xs (prL xs ls i)).length = (prL xs ls i).length := by rw [prOf, List.length_map]
        refine kAppK kn6 1 rfl (by rw [List.length_map, hal, hlo]; omega) fun H7 kn7 => ?_
        refine kSeq (kDrop (kSAdd (w := w) (a := T) kn7 2 rfl (by omega) (fun H8 kn8 => ?_) (fun R hR => kVar rfl hR) (fun R hR => kCons (kVar rfl (kNil hR)))))
        refine kDrop (kSAdd (w := w) (a := T) kn8 2 rfl (by split <;> omega) (fun H9 kn9 => ?_) (fun R hR => kVar rfl hR) (fun R hR => kCons (kVar rfl (kNil hR))))
        have hT : takB xs (prL xs ls (i + 1)) = fun j => (takB xs (prL xs ls i) j || decide (j = (h : Int))) || decide (j = xs.getD h 0) := by rw [es]; exact takB_snoc ..
        have hO : prOf xs (prL xs ls (i + 1)) = prOf xs (prL xs ls i) ++ [((h : Int), xs.getD h 0)] := by rw [es, prOf, List.map_append]; rfl
        refine ⟨_, _, as ++ [tp], (tp, HO.tup [V.int (h : Int), V.int (xs.getD h 0)]) :: X, (if (takB xs (prL xs ls i) (xs.getD h 0) || decide (xs.getD h 0 = (h : Int))) = true then if takB xs (prL xs ls i) (h : Int) = true then m else m + 1 else (if takB xs (prL xs ls i) (h : Int) = true then m else m + 1) + 1), rfl, by omega, ?_, noX.tup, hLX.cons _, ?_, ?_⟩
        rotate_left
        · rw [hO]
          exact (hPA.up fun y hy => List.mem_cons_of_mem _ hy).snoc List.mem_cons_self
        · rw [hT, List.map_append]
          refine kn9.perm ?_
          exact (List.Perm.swap _ _ _).trans (List.Perm.cons _ ((List.Perm.swap _ _ _).trans (List.Perm.cons _ (List.Perm.swap _ _ _))))
        · split <;> split <;> omega
  · obtain ⟨x4, x5, as, X, m, rfl, hi, hm, noX, hLX, hPA, kn5⟩ := hW
    rw [List.length_map, byHue_len] at kn5 hPA
    walk_at "go"
    refine kSortP (kn5.seqL List.mem_cons_self) hPA kn5 (fun y hy => List.mem_cons_of_mem _ (List.mem_cons_of_mem _ (List.mem_cons_of_mem _ (List.mem_append_left _ hy)))) fun r bs ms H6 hb hpm hsr kn6 => ?_
    exact gR hpr r bs ms ((D, HO.lst (as.map V.ref)) :: (T, SetO w T (takB xs (prL xs ls ls.length)) m) :: (B, HO.lst ((byHue ls).map fun (i : Nat) => V.int (i : Int))) :: X) H6 ps' cs' tb' noX.lst.set.lst (((hLX.cons _).cons _).cons _) (hb.up fun y hy => List.mem_cons_of_mem _ (List.mem_cons_of_mem _ (List.mem_cons_of_mem _ hy))) hpm hsr kn6
end

/-! ### what may stand in a thing that is looked at -/
inductive Dt (L : Led) : V → Prop where
  | non : Dt L .non
  | bl (b : Bool) : Dt L (.bl b)
  | int (i : Int) : Dt L (.int i)
  | str (x : Str) : Dt L (.str x)
  | lst {a : Addr} {xs : List V} (h : (a, .lst xs) ∈ L) : Dt L (.ref a)
  | tup {a : Addr} {xs : List V} (h : (a, .tup xs) ∈ L) : Dt L (.ref a)
theorem Dt.mono {L L' : Led} {v : V} (h : Dt L v) (s : ∀ q ∈ L, q ∈ L') : Dt L' v := by
  cases h with
  | non => exact .non
  | bl b => exact .bl b
  | int i => exact .int i
  | str x => exact .str x
  | lst h => exact .lst (s _ h)
  | tup h => exact .tup (s _ h)
def isI : V → Bool
  | .int _ => true
  | _ => false
theorem kitSI : kitB "str" "int" = some false := by decide +kernel
theorem kitNI : kitB "NoneType" "int" = some false := by decide +kernel
theorem kitLI : kitB "list" "int" = some false := by decide +kernel
theorem kitTI : kitB "tuple" "int" = some false := by decide +kernel
/-- isinstance(v, int) -/
theorem isiInt {d : Addr} {n : Nat} {L : Led} {H : Hp} {Q : VK} {K : PySem.W.Frag} {v : V} (k : Kn d n L H) (h : Dt L v) (q : ∀ b, b = (isI v || (match v with | .bl _ => true | _ => false)) → Q (.bl b) H) : rIsi K [v, .ty "int"] H Q := by
  cases h with
  | non => exact kIsi (.ty _) (.base .non) (kit_ty kitNI) (q _ rfl)
  | bl b => exact kIsi (.ty _) (.base (.bl b)) (kit_ty kitBI) (q _ rfl)
  | int i => exact kIsi (.ty _) (.base (.int i)) (kit_ty kitII) (q _ rfl)
  | str x => exact kIsi (.ty _) (.base (.str x)) (kit_ty kitSI) (q _ rfl)
  | lst h => exact kIsi (.ty _) (.base (.lst (k.mem h))) (kit_ty kitLI) (q _ rfl)
  | tup h => exact kIsi (.ty _) (.base (.tup (k.mem h))) (kit_ty kitTI) (q _ rfl)
/-! ### is_whole, is_house, is_pointing -/
abbrev s_is_whole : Stmt := topS 4
theorem sc_is_whole : FnScope ["thing"] ["thing"] (defScope s_is_whole) := ⟨rfl, rfl, rfl, by decide +kernel, rfl, by decide +kernel, by decide +kernel⟩
abbrev s_is_house : Stmt := topS 5
theorem sc_is_house : FnScope ["thing", "many"] ["thing", "many"] (defScope s_is_house) := ⟨rfl, rfl, rfl, by decide +kernel, rfl, by decide +kernel, by decide +kernel⟩
def spIsWhole : Sp := fun vs H Q _ => ∃ (d : Addr) (n : Nat) (L : Led) (v : V), vs = [v] ∧ Kn d n L H ∧ Dt L v ∧ Q (.bl (isI v)) H
def isHouse (v : V) (m : Int) : Bool := match v with
  | .int i => decide (0 ≤ i) && decide (i < m)
  | _ => false
def spIsHouse : Sp := fun vs H Q _ => ∃ (d : Addr) (n : Nat) (L : Led) (v : V) (m : Int), vs = [v, .int m] ∧ Kn d n L H ∧ Dt L v ∧ Q (.bl (isHouse v m)) H
section
variable {P : Program} {w : World} {K : PySem.W.Frag} {mg : Str → Option Value} {base : Heap}
theorem ok_is_whole {f : Addr} {fd : FuncData} {k : Nat} (D : Df K mg "is_whole" s_is_whole ["thing"] f fd) (M : Bl mg) : FnOk P w K mg base CX0 (k + 1) f fd ["thing"] spIsWhole := by
  refine D.F.ok sc_is_whole (fun vs H Q E h => ?_) (fun cdv A outer s H vs Q E hr h => ?_)
  · obtain ⟨d, n, L, v, rfl, _⟩ := h
    rfl
  obtain ⟨d, n, L, v, rfl, kn, hv, q⟩ := h
  refine ⟨_, (pss_one (ps_ret (pe_and (pe_callB call_isi (by rfl) M.isinstance (by decide +kernel) (pa_cons (pv 0) (pa_cons (pe_bltn (v := .ty "int") (u := .type "int") (by rfl) M.int (by decide +kernel) rfl) pa_nil))) (pe_one (pe_not (pe_callB call_isi (by rfl) M.isinstance (by decide +kernel) (pa_cons (pv 0) (pa_cons (pe_bltn (v := .ty "bool") (u := .type "bool") (by rfl) M.bool (by decide +kernel) rfl) pa_nil)))))))), ?_⟩
  walk_at "go"
  refine isiInt kn hv fun b e => ?_
  subst e
  refine kBl ?_
  cases v with
  | int i =>
    refine iteT ?_
    walk_at "go"
    exact q
  | bl c =>
    refine iteT ?_
    walk_at "go"
    exact q
  | _ => exact iteF q
theorem ok_is_house {f a_is_whole : Addr} {fd fd_is_whole : FuncData} {k : Nat} (D : Df K mg "is_house" s_is_house ["thing", "many"] f fd) (D_is_whole : Df K mg "is_whole" s_is_whole ["thing"] a_is_whole fd_is_whole) (M : Bl mg) : FnOk P w K mg base CX0 (k + 1 + 1) f fd ["thing", "many"] spIsHouse := by
  have G_is_whole := ok_is_whole (P := P) (w := w) (base := base) (k := 0) D_is_whole M
  refine D.F.ok sc_is_house (fun vs H Q E h => ?_) (fun cdv A outer s H vs Q E hr h => ?_)
  · obtain ⟨d, n, L, v, m, rfl, _⟩ := h
    rfl
  obtain ⟨d, n, L, v, m, rfl, kn, hv, q⟩ := h
  refine ⟨_, (pss_one (ps_ret (pe_and (pe_call G_is_whole (hr.mono (by omega)) (by rfl) D_is_whole.g D_is_whole.F.kp D_is_whole.b .nil pass0 (pa_cons (pv 0) pa_nil)) (pe_one (pe_chain op_le op_lt pe_int (pv 0) (pv 1)))))), ?_⟩
  walk_at "go"
  refine ⟨d, n, L, v, rfl, kn, hv, ?_⟩
  refine kBl ?_
  cases v with
  | int i =>
    refine iteT ?_
    refine kChain ?_
    walk_at "go"
    refine iteD (fun h0 => ?_) (fun h0 => ?_)
    · walk_at "go"
      have e : isHouse (.int i) m = decide (i < m) := by simp [isHouse, h0]
      rw [e] at q
      exact q
    · have e : isHouse (.int i) m = false := by simp [isHouse, h0]
      rw [e] at q
      exact q
  | _ => exact iteF q
end

/-! ### lists of rows compared -/
def rowD (r : List Int) : PyData := .tuple (r.map PyData.int)
theorem dpRows {K : PySem.W.Frag} {d : Addr} {n : Nat} {L : Led} {H : Hp} (k : Kn d n L H) : ∀ (as : List Addr) (rows : List (List Int)), RowsAt L as rows → DpAll K H (as.map V.ref) (rows.map rowD)
  | [], [], _ => .nil
  | [], r :: rs, h => by have := h.len; simp at this
  | a :: as, [], h => by have := h.len; simp at this
  | a :: as, r :: rs, h => .cons (.tup (k.seqT (h.at_ 0 a r rfl rfl)) (dpInts r)) (dpRows k as rs ⟨by have := h.len; simpa using this, fun i a' r' e1 e2 => h.at_ (i + 1) a' r' e1 e2⟩)
theorem layRows : ∀ rows : List (List Int), PyData.canLayAll0 (rows.map rowD) = true
  | [] => by simp [PyData.canLayAll0]
  | r :: rs => by simp [PyData.canLayAll0, PyData.canLay0, rowD, layInts, layRows rs]
theorem depRows : ∀ rows : List (List Int), PyData.depthAll (rows.map rowD) ≤ 1
  | [] => by simp [PyData.depthAll]
  | r :: rs => by
    have := depRows rs
    simp only [List.map_cons, PyData.depthAll, rowD, PyData.depth, depInts]
    omega
theorem shRows (rows : List (List Int)) : SeqAt.shaped (.list (rows.map rowD)) = true := by
  have := depRows rows
  have e : PyData.depth (.list (rows.map rowD)) ≤ 64 := by
    simp only [PyData.depth]
    omega
  unfold SeqAt.shaped
  rw [decide_eq_true e]
  simp [PyData.canLay0, layRows]
theorem eqvRows : ∀ rows : List (List Int), PyData.eqvAll (rows.map rowD) (rows.map rowD) = true
  | [] => by simp [PyData.eqvAll]
  | r :: rs => by
    simp only [List.map_cons, PyData.eqvAll, rowD, PyData.eqv, eqvInts, decide_true, Bool.true_and]
    exact eqvRows rs
theorem kNeRows {K : PySem.W.Frag} {d : Addr} {n : Nat} {L : Led} {H : Hp} {Q : VK} {p q : Addr} {as bs : List Addr} {rows : List (List Int)} (k : Kn d n L H) (h1 : SqL K H p (as.map V.ref)) (r1 : RowsAt L as rows) (h2 : SqL K H q (bs.map V.ref)) (r2 : RowsAt L bs rows) (g : Q (.bl false) H) : rNeD K (.ref p) (.ref q) H Q := by
  refine ⟨.list (rows.map rowD), .list (rows.map rowD), .lst h1 (dpRows k as rows r1), .lst h2 (dpRows k bs rows r2), shRows rows, shRows rows, ?_⟩
  rw [PyData.eqv, eqvRows]
  exact g

/-! ### what k61's parts have too -/
theorem once_few {ns : List Int} {m : Int} (h : ∀ z ∈ ns, 0 ≤ z ∧ z < m) (hm : m ≤ 60) : (onceL ns).length ≤ 60 := by
  have := once_le (l := ns) (u := (List.range 60).map fun k : Nat => (k : Int)) fun k hk => by
    have := h k hk
    exact List.mem_map.mpr ⟨k.toNat, List.mem_range.mpr (by omega), by omega⟩
  rw [List.length_map, List.length_range] at this
  exact this
theorem byHue_nodup (ls : List Int) : (byHue ls).Nodup := (List.mergeSort_perm _ _).nodup_iff.mpr List.nodup_range
theorem byHue_all {ls : List Int} {h : Nat} (hh : h < ls.length) : h ∈ byHue ls := (List.mergeSort_perm _ _).mem_iff.mpr (List.mem_range.mpr hh)

/-! ### a thing that may be a pair -/
inductive Tk (L : Led) : V → Option (List V) → Prop where
  | tup {a : Addr} {ys : List V} (h : (a, .tup ys) ∈ L) (ds : ∀ y ∈ ys, Dt L y) : Tk L (.ref a) (some ys)
  | lst {a : Addr} {ys : List V} (h : (a, .lst ys) ∈ L) : Tk L (.ref a) none
  | non : Tk L .non none
  | bl (b : Bool) : Tk L (.bl b) none
  | int (i : Int) : Tk L (.int i) none
  | str (x : Str) : Tk L (.str x) none
theorem Tk.mono {L L' : Led} {v : V} {o : Option (List V)} (h : Tk L v o) (s : ∀ q ∈ L, q ∈ L') : Tk L' v o := by
  cases h with
  | tup h ds => exact .tup (s _ h) (fun x hx => (ds x hx).mono s)
  | lst h => exact .lst (s _ h)
  | non => exact .non
  | bl b => exact .bl b
  | int i => exact .int i
  | str x => exact .str x
theorem isiTup {d : Addr} {n : Nat} {L : Led} {H : Hp} {Q : VK} {K : PySem.W.Frag} {v : V} {o : Option (List V)} (k : Kn d n L H) (h : Tk L v o) (q : Q (.bl o.isSome) H) : rIsi K [v, .ty "tuple"] H Q := by
  have no : ∀ {v' : V} {t : String} (e : kitB t "tuple" = some false) (ty : TyX K H v' (.type t)) {R : VK}, R (.bl false) H → rIsi K [v', .ty "tuple"] H R := fun e ty _ z => kIsi (.ty _) ty (kit_ty e) z
  cases h with
  | tup h ds => exact isiTT (k.mem h) q
  | lst h => exact no (by decide +kernel) (.base (.lst (k.mem h))) q
  | non => exact no (by decide +kernel) (.base .non) q
  | bl b => exact no (by decide +kernel) (.base (.bl b)) q
  | int i => exact no (by decide +kernel) (.base (.int i)) q
  | str x => exact no (by decide +kernel) (.base (.str x)) q
/-- a pair of a house and its next -/
def PrIs (xs : List Int) (o : Option (List V)) (m : Int × Int) : Prop := o = some [.int m.1, .int m.2] ∧ (0 ≤ m.1 ∧ m.1 < xs.length) ∧ xs.getD m.1.toNat 0 = m.2
abbrev s_is_pair : Stmt := topS 15
theorem sc_is_pair : FnScope ["pointing", "thing", "house", "goal", "many"] ["pointing", "thing"] (defScope s_is_pair) := ⟨rfl, rfl, rfl, by decide +kernel, rfl, by decide +kernel, by decide +kernel⟩
def spIsPair : Sp := fun vs H Q _ => ∃ (d : Addr) (n : Nat) (L : Led) (p : Addr) (v : V) (xs : List Int) (o : Option (List V)), vs = [.ref p, v] ∧ PtOk 60 xs ∧ (p, .tup (xs.map V.int)) ∈ L ∧ Kn d n L H ∧ Tk L v o ∧
  ∀ b H', (b = true ↔ ∃ m, PrIs xs o m) → Kn d n L H' → Q (.bl b) H'
theorem house_int {x : V} {m : Int} (h : isHouse x m = true) : ∃ z, x = .int z ∧ 0 ≤ z ∧ z < m := by
  cases x with
  | int z => exact ⟨z, rfl, by simpa [isHouse] using h⟩
  | _ => cases h
theorem ok_is_pair {P : Program} {w : World} {K : PySem.W.Frag} {mg : Str → Option Value} {base : Heap} {k : Nat} {f a_is_whole a_is_house : Addr} {fd fd_is_whole fd_is_house : FuncData} (D : Df K mg "is_pair" s_is_pair ["pointing", "thing"] f fd) (D_is_whole : Df K mg "is_whole" s_is_whole ["thing"] a_is_whole fd_is_whole) (D_is_house : Df K mg "is_house" s_is_house ["thing", "many"] a_is_house fd_is_house) (M : Bl mg) : FnOk P w K mg base CX0 (k + 1 + 1 + 1) f fd ["pointing", "thing"] spIsPair := by
  have G_is_house := ok_is_house (P := P) (w := w) (base := base) (k := 0) D_is_house D_is_whole M
  refine D.F.ok sc_is_pair (fun vs H Q E h => ?_) (fun cdv A outer s H vs Q E hr h => ?_)
  · obtain ⟨d, n, L, p, v, xs, o, rfl, _⟩ := h
    rfl
  obtain ⟨d, n, L, p, v, xs, o, rfl, hp, hpL, kn, hv, q⟩ := h
  refine ⟨_, (pss_cons (ps_if (PW.pt (pw_or (pt_not (pt_val (pe_callB call_isi (by rfl) M.isinstance (by decide +kernel) (pa_cons (pv 1) (pa_cons (pe_bltn (v := .ty "tuple") (u := .type "tuple") (by rfl) M.tuple (by decide +kernel) rfl) pa_nil))))) (pw_or1 (pt_cmpR op_ne (pe_callB c_len (by rfl) M.len PySem.boot_len (pa_cons (pv 1) pa_nil)) pe_int (nomark _))))) (pss_one (ps_ret pe_bl)) pss_nil)
   (pss_cons (ps_asg (pv 1) (pg_tup rfl (pgs_cons (pg_name (i := 2) sc_is_pair.nd rfl (Or.inl rfl)) (pgs_cons (pg_name (i := 3) sc_is_pair.nd rfl (Or.inl rfl)) pgs_nil))))
   (pss_cons (ps_set (i := 4) sc_is_pair.nd rfl (Or.inl rfl) (pe_callB c_len (by rfl) M.len PySem.boot_len (pa_cons (pv 0) pa_nil)))
   (pss_one (ps_ret (pe_and (pe_call G_is_house (hr.mono (by omega)) (by rfl) D_is_house.g D_is_house.F.kp D_is_house.b .nil pass0 (pa_cons (pv 2) (pa_cons (pv 4) pa_nil))) (pe_and (pe_call G_is_house (hr.mono (by omega)) (by rfl) D_is_house.g D_is_house.F.kp D_is_house.b .nil pass0 (pa_cons (pv 3) (pa_cons (pv 4) pa_nil))) (pe_one (pe_cmpR op_eq (pe_ix ix_tup (pv 0) (pv 2) (fun _ _ => rfl)) (pv 3) (nomark _)))))))))), ?_⟩
  have qf : (∀ m, ¬ PrIs xs o m) → ∀ H', Kn d n L H' → Q (.bl false) H' := fun hn H' k' => q false H' ⟨fun z => (by cases z), fun ⟨m, e⟩ => (hn m e).elim⟩ k'
  refine kSeq (kIfS ?_)
  walk_at "go"
  refine isiTup kn hv ?_
  walk_at "go"
  cases o with
  | none =>
    refine iteT ?_
    walk_at "go"
    exact qf (fun m e => by cases e.1) _ kn
  | some ys =>
    refine iteF ?_
    cases hv with
    | @tup a _ h ds =>
    walk_at "go"
    refine iteIN (fun hne => ?_) (fun he => ?_)
    · walk_at "go"
      refine qf (fun m e => ?_) _ kn
      cases e.1
      exact hne rfl
    · obtain ⟨x, y, rfl⟩ : ∃ x y, ys = [x, y] := by
        match ys, he with
        | [x, y], _ => exact ⟨x, y, rfl⟩
        | [], he => simp at he
        | [_], he => simp at he
        | _ :: _ :: _ :: _, he => simp at he; omega
      walk_at "go"
      refine ⟨a, [x, y], rfl, kn.seqT h, rfl, x, [y], rfl, y, [], rfl, rfl, ?_⟩
      walk_at "go"
      rw [List.length_map]
      refine ⟨d, n, L, x, (xs.length : Int), rfl, kn, ds x (by simp), ?_⟩
      refine ⟨_, rfl, ?_⟩
      cases hx : isHouse x xs.length with
      | false =>
        refine iteF (qf (fun m e => ?_) _ kn)
        cases e.1
        have := e.2.1
        simp [isHouse, this] at hx
      | true =>
        obtain ⟨z, rfl, hz0, hz1⟩ := house_int hx
        obtain ⟨z, rfl⟩ : ∃ z' : Nat, z = (z' : Int) := ⟨z.toNat, by omega⟩
        have hzn : z < xs.length := by omega
        refine iteT ?_
        walk_at "go"
        refine ⟨d, n, L, y, (xs.length : Int), rfl, kn, ds y (by simp), ?_⟩
        refine ⟨_, rfl, ?_⟩
        have hgz : xs[z]? = some (xs.getD z 0) := by rw [getD_of (List.getElem?_eq_getElem hzn)]; exact List.getElem?_eq_getElem _
        have hgo := hp.goal z _ hgz
        cases hy : isHouse y xs.length with
        | false =>
          refine iteF (qf (fun m e => ?_) _ kn)
          have e1 := e.1
          simp only [Option.some.injEq, List.cons.injEq, and_true] at e1
          obtain ⟨e1, rfl⟩ := e1
          have e1 := V.int.inj e1
          have e3 := e.2.2
          rw [← e1, Int.toNat_natCast] at e3
          rw [← e3] at hy
          have ht : isHouse (.int (xs.getD z 0)) (xs.length : Int) = true := by
            show (decide (0 ≤ xs.getD z 0) && decide (xs.getD z 0 < (xs.length : Int))) = true
            rw [decide_eq_true (by omega), decide_eq_true (by omega)]
            rfl
          rw [ht] at hy
          cases hy
        | true =>
          obtain ⟨g, rfl, hg0, hg1⟩ := house_int hy
          refine iteT ?_
          walk_at "go"
          refine kIxT (kn.seqT hpL) (atInt hgz) ?_
          walk_at "go"
          refine q _ _ ?_ kn
          rw [decide_eq_true_eq]
          constructor
          · intro e
            exact ⟨((z : Int), g), rfl, ⟨by omega, by omega⟩, by rw [Int.toNat_natCast]; exact V.int.inj e⟩
          · rintro ⟨m, e1, _, e3⟩
            simp only [Option.some.injEq, List.cons.injEq, and_true] at e1
            have ea := V.int.inj e1.1
            have eb := V.int.inj e1.2
            rw [← ea, Int.toNat_natCast] at e3
            rw [e3, eb]
/-! ### are_pairs of the program -/
/-- a thing, and the pairs that its items are, where it is a list -/
inductive Lq (L : Led) : V → Option (List (Option (List V))) → Prop where
  | lst {a : Addr} {xs : List V} {os : List (Option (List V))} (h : (a, .lst xs) ∈ L) (e : xs.length = os.length) (ds : ∀ (i : Nat) x o, xs[i]? = some x → os[i]? = some o → Tk L x o) (z : xs.length ≤ 20000) : Lq L (.ref a) (some os)
  | tup {a : Addr} {xs : List V} (h : (a, .tup xs) ∈ L) : Lq L (.ref a) none
  | non : Lq L .non none
  | bl (b : Bool) : Lq L (.bl b) none
  | int (i : Int) : Lq L (.int i) none
  | str (x : Str) : Lq L (.str x) none
theorem isiListQ {d : Addr} {n : Nat} {L : Led} {H : Hp} {Q : VK} {K : PySem.W.Frag} {v : V} {o : Option (List (Option (List V)))} (k : Kn d n L H) (h : Lq L v o) (q : Q (.bl o.isSome) H) : rIsi K [v, .ty "list"] H Q := by
  have no : ∀ {v' : V} {t : String} (e : kitB t "list" = some false) (ty : TyX K H v' (.type t)) {R : VK}, R (.bl false) H → rIsi K [v', .ty "list"] H R := fun e ty _ z => kIsi (.ty _) ty (kit_ty e) z
  cases h with
  | lst h _ _ _ => exact isiLL (k.mem h) q
  | tup h => exact no (by decide +kernel) (.base (.tup (k.mem h))) q
  | non => exact no (by decide +kernel) (.base .non) q
  | bl b => exact no (by decide +kernel) (.base (.bl b)) q
  | int i => exact no (by decide +kernel) (.base (.int i)) q
  | str x => exact no (by decide +kernel) (.base (.str x)) q
def osOf (ms : List (Int × Int)) : List (Option (List V)) := ms.map fun m => some [.int m.1, .int m.2]
def flatP (ms : List (Int × Int)) : List Int := ms.flatMap fun m => [m.1, m.2]
theorem osOf_inj : ∀ {ms ns : List (Int × Int)}, osOf ms = osOf ns → ms = ns := fun {ms ns} h => List.map_inj_right (f := fun m : Int × Int => (some [V.int m.1, V.int m.2] : Option (List V))) (fun a b e => by
  simp only [Option.some.injEq, List.cons.injEq, and_true] at e
  exact Prod.ext (V.int.inj e.1) (V.int.inj e.2)) |>.mp h
theorem flatP_len (ms : List (Int × Int)) : (flatP ms).length = 2 * ms.length := by
  unfold flatP
  induction ms with
  | nil => rfl
  | cons m ms ih =>
    rw [List.flatMap_cons, List.length_append, ih, List.length_cons]
    simp only [List.length_cons, List.length_nil]
    omega
theorem once_len_le (l : List Int) : (onceL l).length ≤ l.length := once_le fun k h => h
theorem once_len : ∀ {l : List Int}, (onceL l).length = l.length ↔ l.Nodup
  | [] => ⟨fun _ => List.nodup_nil, fun _ => rfl⟩
  | a :: l => by
    have ih := once_len (l := l)
    have hle := once_len_le l
    unfold onceL
    split
    · rename_i h
      rw [List.length_cons]
      exact ⟨fun z => by omega, fun z => ((List.nodup_cons.mp z).1 (mem_once.mp h)).elim⟩
    · rename_i h
      rw [List.length_cons, List.length_cons, List.nodup_cons, ← ih]
      exact ⟨fun z => ⟨fun y => h (mem_once.mpr y), by omega⟩, fun z => by omega⟩
/-- all of them pairs: the pairs -/
theorem pairs_all {xs : List Int} : ∀ {os : List (Option (List V))}, (∀ o ∈ os, ∃ m, PrIs xs o m) → ∃ ms : List (Int × Int), os = osOf ms ∧ ∀ m ∈ ms, (0 ≤ m.1 ∧ m.1 < xs.length) ∧ xs.getD m.1.toNat 0 = m.2
  | [], _ => ⟨[], rfl, fun m h => (List.not_mem_nil h).elim⟩
  | o :: os, h => by
    obtain ⟨m, e, h1, h2⟩ := h o List.mem_cons_self
    obtain ⟨ms, es, hs⟩ := pairs_all fun o' h' => h o' (List.mem_cons_of_mem _ h')
    refine ⟨m :: ms, by rw [e, es]; rfl, fun m' h' => ?_⟩
    rcases List.mem_cons.mp h' with rfl | h'
    · exact ⟨h1, h2⟩
    · exact hs m' h'
theorem Lq.pairs {L : Led} {xs : List V} {ms : List (Int × Int)} (e : xs.length = (osOf ms).length) (ds : ∀ (i : Nat) x o, xs[i]? = some x → (osOf ms)[i]? = some o → Tk L x o) : ∃ as : List Addr, xs = as.map V.ref ∧ PairsAt L as ms := by
  have hl : xs.length = ms.length := by rw [e, osOf, List.length_map]
  have hx : ∀ i x, xs[i]? = some x → ∃ m : Int × Int, ms[i]? = some m ∧ x = V.ref (refA x) ∧ (refA x, HO.tup [.int m.1, .int m.2]) ∈ L := fun i x hx => by
    have hi := (List.getElem?_eq_some_iff.mp hx).1
    have hm : ms[i]? = some (ms[i]'(by omega)) := List.getElem?_eq_getElem (by omega)
    have ho : (osOf ms)[i]? = some (some [.int (ms[i]'(by omega)).1, .int (ms[i]'(by omega)).2]) := by rw [osOf, List.getElem?_map, hm]; rfl
    refine ⟨_, hm, ?_⟩
    cases ds i x _ hx ho with
    | tup h _ => exact ⟨rfl, h⟩
  refine ⟨xs.map refA, ?_, by rw [List.length_map]; exact hl, fun i a p e1 e2 => ?_⟩
  · rw [List.map_map]
    apply List.ext_getElem?
    intro i
    rw [List.getElem?_map]
    cases h : xs[i]? with
    | none => rfl
    | some x =>
      obtain ⟨m, _, h2, _⟩ := hx i x h
      rw [Option.map_some]
      exact congrArg some h2
  · rw [List.getElem?_map] at e1
    cases h : xs[i]? with
    | none => rw [h] at e1; cases e1
    | some x =>
      rw [h] at e1
      cases e1
      obtain ⟨m, h1, _, h3⟩ := hx i x h
      rw [e2] at h1
      cases h1
      exact h3
theorem flat_of {as : List Addr} {ms : List (Int × Int)} : (List.range ms.length).flatMap (fun i => [V.int (ms.getD i (0, 0)).1, V.int (ms.getD i (0, 0)).2]) = (flatP ms).map V.int := by
  have gen : ∀ (ms : List (Int × Int)) (j : Nat), j ≤ ms.length → (List.range j).flatMap (fun i => [V.int (ms.getD i (0, 0)).1, V.int (ms.getD i (0, 0)).2]) = (flatP (ms.take j)).map V.int := by
    intro ms j
    induction j with
    | zero => intro _; simp [flatP]
    | succ j ih =>
      intro hj
      have e : ms[j]? = some (ms[j]'(by omega)) := List.getElem?_eq_getElem (by omega)
      have e2 : ms.getD j (0, 0) = ms[j]'(by omega) := by rw [List.getD_eq_getElem?_getD, e]; rfl
      rw [List.range_succ, List.flatMap_append, ih (by omega), List.take_add_one, e, flatP, flatP, List.flatMap_append, List.map_append, List.flatMap_cons, List.flatMap_nil, List.append_nil, e2]
      rfl
  have := gen ms ms.length (Nat.le_refl _)
  rw [List.take_length] at this
  exact this
theorem eqvRowsD : ∀ rows rows' : List (List Int), PyData.eqvAll (rows.map rowD) (rows'.map rowD) = decide (rows = rows')
  | [], [] => by simp [PyData.eqvAll]
  | [], r :: rs => by simp [PyData.eqvAll]
  | r :: rs, [] => by simp [PyData.eqvAll]
  | r :: rs, r' :: rs' => by
    simp only [List.map_cons, PyData.eqvAll, rowD, PyData.eqv, eqvInts, List.cons.injEq]
    rw [eqvRowsD rs rs']
    by_cases h1 : r = r' <;> by_cases h2 : rs = rs' <;> simp [h1, h2]
theorem kEqRowsD {K : PySem.W.Frag} {d : Addr} {n : Nat} {L : Led} {H : Hp} {Q : VK} {p q : Addr} {as bs : List Addr} {rows rows' : List (List Int)} (k : Kn d n L H) (h1 : SqL K H p (as.map V.ref)) (r1 : RowsAt L as rows) (h2 : SqL K H q (bs.map V.ref)) (r2 : RowsAt L bs rows') (g : Q (.bl (decide (rows = rows'))) H) : rEqD K (.ref p) (.ref q) H Q := by
  refine ⟨.list (rows.map rowD), .list (rows'.map rowD), .lst h1 (dpRows k as rows r1), .lst h2 (dpRows k bs rows' r2), shRows rows, shRows rows', ?_⟩
  rw [PyData.eqv, eqvRowsD]
  exact g
theorem PairsAt.rows {L : Led} {as : List Addr} {ps : List (Int × Int)} (h : PairsAt L as ps) : RowsAt L as (ps.map fun p => [p.1, p.2]) := by
  refine ⟨by rw [List.length_map]; exact h.len, fun i a r e1 e2 => ?_⟩
  rw [List.getElem?_map] at e2
  cases e : ps[i]? with
  | none => rw [e] at e2; cases e2
  | some p =>
    rw [e] at e2
    cases e2
    exact h.at_ i a p e1 e
theorem prow_inj {ms ns : List (Int × Int)} : (ms.map fun p => [p.1, p.2]) = (ns.map fun p => [p.1, p.2]) ↔ ms = ns := List.map_inj_right (f := fun p : Int × Int => [p.1, p.2]) fun a b e => by
  simp only [List.cons.injEq, and_true] at e
  exact Prod.ext e.1 e.2
abbrev s_are_pairs : Stmt := topS 16
theorem sc_are_pairs : FnScope ["pointing", "thing", "within", "pair", "house"] ["pointing", "thing"] (defScope s_are_pairs) := ⟨rfl, rfl, rfl, by decide +kernel, rfl, by decide +kernel, by decide +kernel⟩
structure ArePr (xs : List Int) (ms : List (Int × Int)) : Prop where
  inn : ∀ m ∈ ms, (0 ≤ m.1 ∧ m.1 < xs.length) ∧ xs.getD m.1.toNat 0 = m.2
  ris : ms.Pairwise pairLe
  nd : (flatP ms).Nodup
def spArePairs : Sp := fun vs H Q _ => ∃ (d : Addr) (n : Nat) (L : Led) (p : Addr) (v : V) (xs : List Int) (o : Option (List (Option (List V)))), vs = [.ref p, v] ∧ PtOk 60 xs ∧ (p, .tup (xs.map V.int)) ∈ L ∧ Kn d n L H ∧ Lq L v o ∧
  ∀ b H', (b = true ↔ ∃ ms, o = some (osOf ms) ∧ ArePr xs ms) → Kn d n L H' → Q (.bl b) H'
theorem ok_are_pairs {P : Program} {w : World} {K : PySem.W.Frag} {mg : Str → Option Value} {base : Heap} {k : Nat} {f a_is_whole a_is_house a_is_pair : Addr} {fd fd_is_whole fd_is_house fd_is_pair : FuncData} (D : Df K mg "are_pairs" s_are_pairs ["pointing", "thing"] f fd) (D_is_whole : Df K mg "is_whole" s_is_whole ["thing"] a_is_whole fd_is_whole) (D_is_house : Df K mg "is_house" s_is_house ["thing", "many"] a_is_house fd_is_house) (D_is_pair : Df K mg "is_pair" s_is_pair ["pointing", "thing"] a_is_pair fd_is_pair) (M : Bl mg) : FnOk P w K mg base CX0 (k + 1 + 1 + 1 + 1) f fd ["pointing", "thing"] spArePairs := by
  have G_is_pair := ok_is_pair (P := P) (w := w) (base := base) (k := 0) D_is_pair D_is_whole D_is_house M
  refine D.F.ok sc_are_pairs (fun vs H Q E h => ?_) (fun cdv A outer s H vs Q E hr h => ?_)
  · obtain ⟨d, n, L, p, v, xs, o, rfl, _⟩ := h
    rfl
  obtain ⟨d, n, L, p, v, xs, o, rfl, hp, hpL, kn, hv, q⟩ := h
  refine ⟨_, (pss_cons (ps_if (PW.pt (pw_or (pt_not (pt_val (pe_callB call_isi (by rfl) M.isinstance (by decide +kernel) (pa_cons (pv 1) (pa_cons (pe_bltn (v := .ty "list") (u := .type "list") (by rfl) M.list (by decide +kernel) rfl) pa_nil))))) (pw_or1 (pt_not (pt_val (pe_callB (c_all rfl) (by rfl) M.all (by decide +kernel) (pa_cons (pe_lc (own := [("pair", 3)]) (g := gName 3) (by rfl) sc_are_pairs.nd (pi_list (pv 1)) (blkOk_by (own := [("pair", 3)]) (N := ["pointing", "thing", "within", "pair", "house"]) (sc := defScope s_are_pairs) (by decide +kernel)) (fun _ _ _ _ _ => (pg_name (i := 3) sc_are_pairs.nd rfl (Or.inl rfl))) (fun _ _ _ _ _ => pts_nil) (fun _ _ _ _ _ => (pe_call G_is_pair (hr.mono (by omega)) (by rfl) D_is_pair.g D_is_pair.F.kp D_is_pair.b .nil pass0 (pa_cons (pv 0) (pa_cons (pv 3) pa_nil))))) pa_nil))))))) (pss_one (ps_ret pe_bl)) pss_nil)
   (pss_cons (ps_setLc2 (i := 2) (own := [("pair", 3), ("house", 4)]) (vs1 := [4]) (g := gName 3) (g1 := gName 4) (by rfl) sc_are_pairs.nd rfl rfl (sw_true rfl rfl rfl (by decide +kernel)) (pi_list (pv 1)) (blkOk_by (own := [("pair", 3), ("house", 4)]) (N := ["pointing", "thing", "within", "pair", "house"]) (sc := defScope s_are_pairs) (by decide +kernel)) (by decide) (fun _ _ _ _ _ => (pg_name (i := 3) sc_are_pairs.nd rfl (Or.inl rfl))) (fun _ _ _ _ _ => pts_nil) (fun _ _ _ _ _ => (pi_tupQ (K := K) rfl (pv 3))) (fun _ _ _ _ _ => (pg_name (i := 4) sc_are_pairs.nd rfl (Or.inl rfl))) (fun _ _ _ _ _ => pts_nil) (fun _ _ _ _ _ => (pv 4)))
   (pss_one (ps_ret (pe_and (pe_cmpR (op_eqD hr.units) (pv 1) (pe_callB cr_sortedPO (by rfl) M.sorted (by decide +kernel) (pa_cons (pv 1) pa_nil)) (nomark _)) (pe_one (pe_cmpR op_eq (pe_callB c_len (by rfl) M.len PySem.boot_len (pa_cons (pv 2) pa_nil)) (pe_callB c_lenSet (by rfl) M.len PySem.boot_len (pa_cons (pe_callTy (cr_setI rfl) (by rfl) M.set (by decide +kernel) (pa_cons (pv 2) pa_nil)) pa_nil)) (nomark _)))))))), ?_⟩
  have h60 := hp.most
  have qf : (∀ ms, o = some (osOf ms) → ¬ ArePr xs ms) → ∀ H', Kn d n L H' → Q (.bl false) H' := fun hn H' k' => q false H' ⟨fun z => (by cases z), fun ⟨m, e, h⟩ => (hn m e h).elim⟩ k'
  refine kSeq (kIfS ?_)
  walk_at "go"
  refine isiListQ kn hv ?_
  walk_at "go"
  cases o with
  | none =>
    refine iteT ?_
    walk_at "go"
    exact qf (fun m e => by cases e) _ kn
  | some os =>
    refine iteF ?_
    cases hv with
    | @lst a vs _ h ev ds z =>
    walk_at "go"
    have hB : ∃ bl : List Bool, bl.length = os.length ∧ ∀ (i : Nat) b o, bl[i]? = some b → os[i]? = some o → (b = true ↔ ∃ m, PrIs xs o m) := by
      refine ⟨os.map fun o => @decide (∃ m, PrIs xs o m) (Classical.propDecidable _), by rw [List.length_map], fun i b o h1 h2 => ?_⟩
      rw [List.getElem?_map, h2] at h1
      cases h1
      exact @decide_eq_true_iff _ (Classical.propDecidable _)
    obtain ⟨bl, hbl, hb⟩ := hB
    refine kLcL (p := a) (xs := vs) kn h (fun R hR => by walk_at "go"; exact hR) (by omega) (fun i => (bl.take i).map V.bl) rfl (fun i => by rw [List.length_map, List.length_take]; omega) (fun _ => rfl) (fun i x H' D hx kn1 N1 N2 h1 _ => ?_) fun D H' kn1 => ?_
    · have hi := (List.getElem?_eq_some_iff.mp hx).1
      have hbi : bl[i]? = some (bl[i]'(by omega)) := List.getElem?_eq_getElem (by omega)
      have hoi : os[i]? = some (os[i]'(by omega)) := List.getElem?_eq_getElem (by omega)
      refine kYes (iteT ?_)
      walk_at "go"
      refine ⟨d, n, _, p, x, xs, os[i]'(by omega), rfl, hp, List.mem_cons_of_mem _ hpL, kn1, (ds i x _ hx hoi).mono fun q hq => List.mem_cons_of_mem _ hq, fun b H4 hb4 kn4 => ?_⟩
      have e : b = bl[i]'(by omega) := by
        rw [Bool.eq_iff_iff, hb4, hb i _ _ hbi hoi]
      subst e
      refine h1 _ _ kn4 ?_
      show (bl.take (i + 1)).map V.bl = _
      rw [List.take_add_one, hbi, List.map_append]
      rfl
    · rw [List.take_of_length_le (by omega)] at kn1
      walk_at "go"
      refine kAll (bs := bl) (kn1.seqL List.mem_cons_self) ?_
      walk_at "go"
      have kn2 := kn1.tail
      cases hall : bl.all id with
      | false =>
        refine iteT ?_
        walk_at "go"
        refine qf (fun ms e hA => ?_) _ kn2
        cases e
        rw [List.all_eq_false] at hall
        obtain ⟨b, hbm, hn⟩ := hall
        obtain ⟨i, hi⟩ := List.getElem?_of_mem hbm
        have hil := (List.getElem?_eq_some_iff.mp hi).1
        have hml : (osOf ms).length = ms.length := by rw [osOf, List.length_map]
        have hmi : ms[i]? = some (ms[i]'(by omega)) := List.getElem?_eq_getElem (by omega)
        have hA2 := hA.inn _ (List.mem_of_getElem? hmi)
        refine hn ((hb i b _ hi (by rw [osOf, List.getElem?_map, hmi]; rfl)).mpr ⟨_, rfl, hA2.1, hA2.2⟩)
      | true =>
        refine iteF ?_
        obtain ⟨ms, rfl, hms⟩ := pairs_all (xs := xs) (os := os) fun o ho => by
          obtain ⟨i, hi⟩ := List.getElem?_of_mem ho
          have hil := (List.getElem?_eq_some_iff.mp hi).1
          have hbi : bl[i]? = some (bl[i]'(by omega)) := List.getElem?_eq_getElem (by omega)
          exact (hb i _ o hbi hi).mp ((List.all_eq_true.mp hall) _ (List.mem_of_getElem? hbi))
        obtain ⟨as, rfl, hPA⟩ := Lq.pairs ev ds
        have hal := hPA.len
        rw [List.length_map] at z
        walk_at "go"
        refine kLc2P (p := a) (xs := as.map V.ref) kn2 h (fun R hR => by walk_at "go"; exact hR) (fun i => [V.int (ms.getD i (0, 0)).1, V.int (ms.getD i (0, 0)).2]) (fun i x hx => ?_) (by rw [List.length_map]; omega) (fun i => by simp) (fun _ => rfl) (fun _ => rfl) (fun _ _ => rfl) (fun _ _ => rfl) fun W H3 kn3 => ?_
        · rw [List.getElem?_map] at hx
          cases e : as[i]? with
          | none => rw [e] at hx; cases hx
          | some t =>
            rw [e] at hx
            cases hx
            have hi := (List.getElem?_eq_some_iff.mp e).1
            have hmi : ms[i]? = some (ms[i]'(by omega)) := List.getElem?_eq_getElem (by omega)
            refine ⟨t, rfl, ?_⟩
            rw [show ms.getD i (0, 0) = ms[i]'(by omega) by rw [List.getD_eq_getElem?_getD, hmi]; rfl]
            exact hPA.at_ i t _ e hmi
        · rw [List.length_map, hal, flat_of (as := as)] at kn3
          have hin : ∀ k ∈ flatP ms, 0 ≤ k ∧ k < (xs.length : Int) := fun k hk => by
            unfold flatP at hk
            obtain ⟨m, hm, hk⟩ := List.mem_flatMap.mp hk
            obtain ⟨⟨a1, a2⟩, a3⟩ := hms m hm
            simp only [List.mem_cons, List.not_mem_nil, or_false] at hk
            rcases hk with rfl | rfl
            · exact ⟨a1, a2⟩
            · have hlt : m.1.toNat < xs.length := by omega
              have hg := hp.goal m.1.toNat _ (List.getElem?_eq_getElem hlt)
              rw [getD_of (List.getElem?_eq_getElem hlt)] at a3
              rw [← a3]
              exact ⟨by omega, by omega⟩
          have hon := once_few hin (by omega)
          have hfl := flatP_len ms
          walk_at "go"
          refine kSortP (kn3.seqL (List.mem_cons_of_mem _ h)) hPA kn3 (fun y hy => List.mem_cons_of_mem _ hy) fun r bs ms' H4 hb' hpm hsr kn4 => ?_
          refine kEqRowsD kn4 (kn4.seqL (List.mem_cons_of_mem _ (List.mem_cons_of_mem _ h))) (hPA.up fun y hy => List.mem_cons_of_mem _ (List.mem_cons_of_mem _ hy)).rows (kn4.seqL List.mem_cons_self) (hb'.up fun y hy => List.mem_cons_of_mem _ (List.mem_cons_of_mem _ hy)).rows ⟨_, rfl, ?_⟩
          by_cases hee : ms = ms'
          · subst hee
            rw [decide_eq_true rfl]
            refine iteT ?_
            walk_at "go"
            refine kSetI (u := onceL (flatP ms)) kn4 (kn4.seqL (List.mem_cons_of_mem _ List.mem_cons_self)) (once_nodup _) (fun k => mem_once) (by omega) fun S H5 kn5 => ?_
            walk_at "go"
            refine kLenSet (kn5.mem List.mem_cons_self) ?_
            walk_at "go"
            refine q _ _ ?_ kn5.tail.tail.tail
            rw [decide_eq_true_eq]
            constructor
            · intro e
              have e := V.int.inj e
              rw [List.length_map] at e
              exact ⟨ms, rfl, hms, hsr, once_len.mp (by omega)⟩
            · rintro ⟨ns, e, hA⟩
              have e := osOf_inj (Option.some.inj e)
              subst e
              rw [List.length_map, once_len.mpr hA.nd]
          · rw [decide_eq_false (fun e => hee (prow_inj.mp e))]
            refine iteF (qf (fun ns e hA => ?_) _ kn4.tail.tail)
            have e := osOf_inj (Option.some.inj e)
            subst e
            exact hee (pairs_one hpm.symm hA.ris hsr)

/-! ### is_paired of the program -/
abbrev s_is_paired : Stmt := topS 17
theorem sc_is_paired : FnScope ["pointing", "thing", "within", "pair", "house", "goal"] ["pointing", "thing"] (defScope s_is_paired) := ⟨rfl, rfl, rfl, by decide +kernel, rfl, by decide +kernel, by decide +kernel⟩
structure PrdOk (xs : List Int) (ms : List (Int × Int)) : Prop where
  are : ArePr xs ms
  just : ∀ h : Nat, h < xs.length → (decide ((h : Int) ∈ flatP ms) || decide (xs.getD h 0 ∈ flatP ms)) = true
def spIsPaired : Sp := fun vs H Q _ => ∃ (d : Addr) (n : Nat) (L : Led) (p : Addr) (v : V) (xs : List Int) (o : Option (List (Option (List V)))), vs = [.ref p, v] ∧ PtOk 60 xs ∧ (p, .tup (xs.map V.int)) ∈ L ∧ Kn d n L H ∧ Lq L v o ∧
  ∀ b H', (b = true ↔ ∃ ms, o = some (osOf ms) ∧ PrdOk xs ms) → Kn d n L H' → Q (.bl b) H'
theorem ok_is_paired {P : Program} {w : World} {K : PySem.W.Frag} {mg : Str → Option Value} {base : Heap} {k : Nat} {f a_is_whole a_is_house a_is_pair a_are_pairs : Addr} {fd fd_is_whole fd_is_house fd_is_pair fd_are_pairs : FuncData} (D : Df K mg "is_paired" s_is_paired ["pointing", "thing"] f fd) (D_is_whole : Df K mg "is_whole" s_is_whole ["thing"] a_is_whole fd_is_whole) (D_is_house : Df K mg "is_house" s_is_house ["thing", "many"] a_is_house fd_is_house) (D_is_pair : Df K mg "is_pair" s_is_pair ["pointing", "thing"] a_is_pair fd_is_pair) (D_are_pairs : Df K mg "are_pairs" s_are_pairs ["pointing", "thing"] a_are_pairs fd_are_pairs) (M : Bl mg) : FnOk P w K mg base CX0 (k + 1 + 1 + 1 + 1 + 1) f fd ["pointing", "thing"] spIsPaired := by
  have G_are_pairs := ok_are_pairs (P := P) (w := w) (base := base) (k := 0) D_are_pairs D_is_whole D_is_house D_is_pair M
  refine D.F.ok sc_is_paired (fun vs H Q E h => ?_) (fun cdv A outer s H vs Q E hr h => ?_)
  · obtain ⟨d, n, L, p, v, xs, o, rfl, _⟩ := h
    rfl
  obtain ⟨d, n, L, p, v, xs, o, rfl, hp, hpL, kn, hv, q⟩ := h
  refine ⟨_, (pss_cons (ps_if (pt_not (pt_val (pe_call G_are_pairs (hr.mono (by omega)) (by rfl) D_are_pairs.g D_are_pairs.F.kp D_are_pairs.b .nil pass0 (pa_cons (pv 0) (pa_cons (pv 1) pa_nil))))) (pss_one (ps_ret pe_bl)) pss_nil)
   (pss_cons (ps_set (i := 2) sc_is_paired.nd rfl (Or.inr rfl) (pe_lc2 (own := [("pair", 3), ("house", 4)]) (vs1 := [4]) (g := gName 3) (g1 := gName 4) (by rfl) sc_is_paired.nd (pi_list (pv 1)) (blkOk_by (own := [("pair", 3), ("house", 4)]) (N := ["pointing", "thing", "within", "pair", "house", "goal"]) (sc := defScope s_is_paired) (by decide +kernel)) (by decide) (fun _ _ _ _ _ => (pg_name (i := 3) sc_is_paired.nd rfl (Or.inl rfl))) (fun _ _ _ _ _ => pts_nil) (fun _ _ _ _ _ => (pi_tupQ (K := K) rfl (pv 3))) (fun _ _ _ _ _ => (pg_name (i := 4) sc_is_paired.nd rfl (Or.inl rfl))) (fun _ _ _ _ _ => pts_nil) (fun _ _ _ _ _ => (pv 4))))
   (pss_one (ps_ret (pe_callB (c_all rfl) (by rfl) M.all (by decide +kernel) (pa_cons (pe_lc (own := [("house", 4), ("goal", 5)]) (g := gTup K 2 (gCons (gName 4) (gCons (gName 5) gNil))) (by rfl) sc_is_paired.nd (pi_enumU (by rfl) M.enumerate (pa_cons (pv 0) pa_nil)) (blkOk_by (own := [("house", 4), ("goal", 5)]) (N := ["pointing", "thing", "within", "pair", "house", "goal"]) (sc := defScope s_is_paired) (by decide +kernel)) (fun _ _ _ _ _ => (pg_tup rfl (pgs_cons (pg_name (i := 4) sc_is_paired.nd rfl (Or.inl rfl)) (pgs_cons (pg_name (i := 5) sc_is_paired.nd rfl (Or.inl rfl)) pgs_nil)))) (fun _ _ _ _ _ => pts_nil) (fun _ _ _ _ _ => (pe_or (pe_cmpR (inQ (K := K) rfl) (pv 4) (pv 2) (by rfl)) (pe_one (pe_cmpR (inQ (K := K) rfl) (pv 5) (pv 2) (by rfl)))))) pa_nil)))))), ?_⟩
  have h60 := hp.most
  refine kSeq (kIfS ?_)
  walk_at "go"
  refine ⟨d, n, L, p, v, xs, o, rfl, hp, hpL, kn, hv, fun b H1 hb kn1 => ?_⟩
  walk_at "go"
  cases b with
  | false =>
    refine iteT ?_
    walk_at "go"
    refine q false _ ⟨fun z => (by cases z), fun ⟨ms, e, hA⟩ => ?_⟩ kn1
    have := hb.mpr ⟨ms, e, hA.are⟩
    cases this
  | true =>
    refine iteF ?_
    obtain ⟨ms, rfl, hAP⟩ := hb.mp rfl
    cases hv with
    | @lst a vs _ h ev ds z =>
    obtain ⟨as, rfl, hPA⟩ := Lq.pairs ev ds
    have hal := hPA.len
    rw [List.length_map] at z
    have hfl := flatP_len ms
    walk_at "go"
    refine kLc2P (p := a) (xs := as.map V.ref) kn1 h (fun R hR => by walk_at "go"; exact hR) (fun i => [V.int (ms.getD i (0, 0)).1, V.int (ms.getD i (0, 0)).2]) (fun i x hx => ?_) (by rw [List.length_map]; omega) (fun i => by simp) (fun _ => rfl) (fun _ => rfl) (fun _ _ => rfl) (fun _ _ => rfl) fun W H3 kn3 => ?_
    · rw [List.getElem?_map] at hx
      cases e : as[i]? with
      | none => rw [e] at hx; cases hx
      | some t =>
        rw [e] at hx
        cases hx
        have hi := (List.getElem?_eq_some_iff.mp e).1
        have hmi : ms[i]? = some (ms[i]'(by omega)) := List.getElem?_eq_getElem (by omega)
        refine ⟨t, rfl, ?_⟩
        rw [show ms.getD i (0, 0) = ms[i]'(by omega) by rw [List.getD_eq_getElem?_getD, hmi]; rfl]
        exact hPA.at_ i t _ e hmi
    · rw [List.length_map, hal, flat_of (as := as)] at kn3
      walk_at "go"
      refine kLcE kn3 (List.mem_cons_of_mem _ hpL) (fun R hR => by walk_at "go"; exact hR) (by rw [List.length_map]; omega) (fun i => ((List.range i).map fun h : Nat => decide ((h : Int) ∈ flatP ms) || decide (xs.getD h 0 ∈ flatP ms)).map V.bl) rfl (fun i => by simp) (fun _ _ => rfl) (fun i x H' D T hx kn4 N1 N2 h1 _ => ?_) (fun D H' kn4 => ?_)
      · obtain ⟨g, hg, rfl⟩ : ∃ g, xs[i]? = some g ∧ x = V.int g := by
          rw [List.getElem?_map] at hx
          cases e : xs[i]? with
          | none => rw [e] at hx; cases hx
          | some g => rw [e] at hx; exact ⟨g, rfl, (Option.some.inj hx).symm⟩
        have nxt : ∀ b : Bool, b = (decide ((i : Int) ∈ flatP ms) || decide (xs.getD i 0 ∈ flatP ms)) → ((List.range (i + 1)).map fun h : Nat => decide ((h : Int) ∈ flatP ms) || decide (xs.getD h 0 ∈ flatP ms)).map V.bl = (((List.range i).map fun h : Nat => decide ((h : Int) ∈ flatP ms) || decide (xs.getD h 0 ∈ flatP ms)).map V.bl) ++ [V.bl b] := fun b e => by
          rw [e, List.range_succ, List.map_append, List.map_append]
          rfl
        refine kYes (iteT ?_)
        walk_at "go"
        refine kInL (ns := flatP ms) (kn4.seqL (List.mem_cons_of_mem _ (List.mem_cons_of_mem _ List.mem_cons_self))) ⟨_, rfl, ?_⟩
        by_cases hin : (i : Int) ∈ flatP ms
        · rw [decide_eq_true hin]
          refine iteT (h1 _ _ kn4 (nxt _ ?_))
          rw [decide_eq_true hin]
          rfl
        · rw [decide_eq_false hin]
          refine iteF ?_
          walk_at "go"
          refine kInL (ns := flatP ms) (kn4.seqL (List.mem_cons_of_mem _ (List.mem_cons_of_mem _ List.mem_cons_self))) ?_
          refine h1 _ _ kn4 (nxt _ ?_)
          rw [decide_eq_false hin, getD_of hg]
          rfl
      · rw [List.length_map] at kn4
        walk_at "go"
        refine kAll (bs := (List.range xs.length).map fun h : Nat => decide ((h : Int) ∈ flatP ms) || decide (xs.getD h 0 ∈ flatP ms)) (kn4.seqL List.mem_cons_self) ?_
        refine q _ _ ?_ kn4.tail.tail
        rw [List.all_eq_true]
        constructor
        · intro hall
          exact ⟨ms, rfl, hAP, fun h hh => hall _ (List.mem_map.mpr ⟨h, List.mem_range.mpr hh, rfl⟩)⟩
        · rintro ⟨ns, e, hA⟩ b hb
          have e := osOf_inj (Option.some.inj e)
          subst e
          obtain ⟨h, hh, rfl⟩ := List.mem_map.mp hb
          exact hA.just h (List.mem_range.mp hh)

/-! ### pairs hue by hue -/
def eligB (xs ls : List Int) (c : Int) (hs : List Nat) (k : Nat) : Bool := decide (ls.getD k 0 = c) && (!takB xs hs (k : Int) && !takB xs hs (xs.getD k 0))
def firstB (xs ls : List Int) (c : Int) (hs : List Nat) (k : Nat) : Bool := eligB xs ls c hs k && !(List.range k).any fun j => eligB xs ls c hs j && decide (xs.getD j 0 = xs.getD k 0)
/-- the asking ones of a goal -/
def askN (xs ls : List Int) (c : Int) (hs : List Nat) (i : Nat) (g : Int) : List Nat := (List.range i).filter fun k => eligB xs ls c hs k && decide (xs.getD k 0 = g)
def hdN (xs ls : List Int) (c : Int) (hs : List Nat) (i : Nat) (g : Int) : Nat := (askN xs ls c hs i g).headD 0
theorem takB_app (xs : List Int) (hs hs' : List Nat) (k : Int) : takB xs (hs ++ hs') k = (takB xs hs k || takB xs hs' k) := by
  unfold takB
  rw [List.any_append]
theorem takB_perm (xs : List Int) {hs hs' : List Nat} (h : hs.Perm hs') (k : Int) : takB xs hs k = takB xs hs' k := by
  rw [Bool.eq_iff_iff]
  unfold takB
  rw [List.any_eq_true, List.any_eq_true]
  exact ⟨fun ⟨x, hx, e⟩ => ⟨x, h.mem_iff.mp hx, e⟩, fun ⟨x, hx, e⟩ => ⟨x, h.mem_iff.mpr hx, e⟩⟩
theorem takB_iff {xs : List Int} {hs : List Nat} {k : Int} : takB xs hs k = true ↔ ∃ h ∈ hs, (h : Int) = k ∨ xs.getD h 0 = k := by
  unfold takB
  rw [List.any_eq_true]
  constructor
  · rintro ⟨h, m, e⟩
    rw [Bool.or_eq_true, decide_eq_true_eq, decide_eq_true_eq] at e
    exact ⟨h, m, e⟩
  · rintro ⟨h, m, e⟩
    exact ⟨h, m, by rw [Bool.or_eq_true, decide_eq_true_eq, decide_eq_true_eq]; exact e⟩
theorem elig_iff {xs ls : List Int} {c : Int} {hs : List Nat} {k : Nat} : eligB xs ls c hs k = true ↔ ls.getD k 0 = c ∧ takB xs hs (k : Int) = false ∧ takB xs hs (xs.getD k 0) = false := by
  unfold eligB
  rw [Bool.and_eq_true, decide_eq_true_eq, Bool.and_eq_true, Bool.not_eq_true', Bool.not_eq_true']
theorem mem_askN {xs ls : List Int} {c : Int} {hs : List Nat} {i k : Nat} {g : Int} : k ∈ askN xs ls c hs i g ↔ k < i ∧ eligB xs ls c hs k = true ∧ xs.getD k 0 = g := by
  unfold askN
  rw [List.mem_filter, List.mem_range, Bool.and_eq_true, decide_eq_true_eq]
theorem askN_pw (xs ls : List Int) (c : Int) (hs : List Nat) (i : Nat) (g : Int) : (askN xs ls c hs i g).Pairwise (· < ·) := List.pairwise_lt_range.filter _
theorem askN_succ (xs ls : List Int) (c : Int) (hs : List Nat) (i : Nat) (g : Int) : askN xs ls c hs (i + 1) g = if (eligB xs ls c hs i && decide (xs.getD i 0 = g)) = true then askN xs ls c hs i g ++ [i] else askN xs ls c hs i g := by
  unfold askN
  rw [List.range_succ, List.filter_append, List.filter_cons]
  split
  · rfl
  · rw [List.filter_nil, List.append_nil]
theorem hd_spec {xs ls : List Int} {c : Int} {hs : List Nat} {i : Nat} {g : Int} (h : ∃ k, k ∈ askN xs ls c hs i g) : hdN xs ls c hs i g ∈ askN xs ls c hs i g ∧ ∀ k ∈ askN xs ls c hs i g, hdN xs ls c hs i g ≤ k := by
  have pw := askN_pw xs ls c hs i g
  unfold hdN
  cases e : askN xs ls c hs i g with
  | nil => rw [e] at h; obtain ⟨k, hk⟩ := h; cases hk
  | cons a r =>
    rw [e] at pw
    refine ⟨List.mem_cons_self, fun k hk => ?_⟩
    rcases List.mem_cons.mp hk with rfl | hk
    · exact Nat.le_refl _
    · exact Nat.le_of_lt ((List.pairwise_cons.mp pw).1 k hk)
theorem first_iff {xs ls : List Int} {c : Int} {hs : List Nat} {n k : Nat} (hk : k < n) : firstB xs ls c hs k = true ↔ eligB xs ls c hs k = true ∧ hdN xs ls c hs n (xs.getD k 0) = k := by
  unfold firstB
  rw [Bool.and_eq_true, Bool.not_eq_true', List.any_eq_false]
  constructor
  · rintro ⟨he, hn⟩
    have hm : k ∈ askN xs ls c hs n (xs.getD k 0) := mem_askN.mpr ⟨hk, he, rfl⟩
    obtain ⟨h1, h2⟩ := hd_spec ⟨k, hm⟩
    refine ⟨he, ?_⟩
    have hle := h2 k hm
    rcases Nat.lt_or_ge (hdN xs ls c hs n (xs.getD k 0)) k with hlt | hge
    · obtain ⟨_, a, b⟩ := mem_askN.mp h1
      refine absurd ?_ (hn _ (List.mem_range.mpr hlt))
      rw [Bool.and_eq_true, decide_eq_true_eq]
      exact ⟨a, b⟩
    · omega
  · rintro ⟨he, hd⟩
    refine ⟨he, fun j hj e => ?_⟩
    rw [Bool.and_eq_true, decide_eq_true_eq] at e
    have hj := List.mem_range.mp hj
    have hm : j ∈ askN xs ls c hs n (xs.getD k 0) := mem_askN.mpr ⟨by omega, e.1, e.2⟩
    have := (hd_spec ⟨j, hm⟩).2 j hm
    omega
theorem near_ne {xs ls : List Int} (hpr : properB xs ls = true) {k : Nat} (hk : k < xs.length) : ls.getD k 0 ≠ ls.getD (xs.getD k 0).toNat 0 := by
  unfold properB at hpr
  rw [List.all_eq_true] at hpr
  have := hpr k (List.mem_range.mpr hk)
  unfold apartAt at this
  simpa using this
theorem fold_first {xs ls : List Int} {c : Int} {hs : List Nat} (hpr : properB xs ls = true) (hx : ∀ x ∈ xs, 0 ≤ x) : ∀ i, i ≤ xs.length → ((List.range i).filter fun k => decide (ls.getD k 0 = c)).foldl (prStep xs) hs = hs ++ (List.range i).filter (firstB xs ls c hs)
  | 0, _ => by simp
  | i + 1, hi => by
    have ih := fold_first (hs := hs) (c := c) hpr hx i (by omega)
    rw [List.range_succ, List.filter_append, List.foldl_append, ih, List.filter_append, ← List.append_assoc]
    by_cases hc : ls.getD i 0 = c
    · rw [List.filter_cons, if_pos (by rw [decide_eq_true_eq]; exact hc), List.filter_nil, List.foldl_cons, List.foldl_nil]
      have hx0 : ∀ j, j < xs.length → 0 ≤ xs.getD j 0 := fun j hj => by
        rw [getD_of (List.getElem?_eq_getElem hj)]
        exact hx _ (List.getElem_mem _)
      have hsel : ∀ h ∈ (List.range i).filter (firstB xs ls c hs), h < i ∧ ls.getD h 0 = c ∧ eligB xs ls c hs h = true := fun h hm => by
        obtain ⟨h1, h2⟩ := List.mem_filter.mp hm
        unfold firstB at h2
        rw [Bool.and_eq_true] at h2
        exact ⟨List.mem_range.mp h1, (elig_iff.mp h2.1).1, h2.1⟩
      have t1 : takB xs (hs ++ (List.range i).filter (firstB xs ls c hs)) (i : Int) = takB xs hs (i : Int) := by
        rw [takB_app]
        have : takB xs ((List.range i).filter (firstB xs ls c hs)) (i : Int) = false := by
          rw [Bool.eq_false_iff]
          intro z
          obtain ⟨h, hm, e⟩ := takB_iff.mp z
          obtain ⟨h1, h2, _⟩ := hsel h hm
          rcases e with e | e
          · omega
          · have := near_ne hpr (by omega : h < xs.length)
            rw [e, Int.toNat_natCast, h2, hc] at this
            exact this rfl
        rw [this, Bool.or_false]
      have t2 : takB xs (hs ++ (List.range i).filter (firstB xs ls c hs)) (xs.getD i 0) = (takB xs hs (xs.getD i 0) || (List.range i).any fun j => eligB xs ls c hs j && decide (xs.getD j 0 = xs.getD i 0)) := by
        rw [takB_app]
        congr 1
        rw [Bool.eq_iff_iff, takB_iff, List.any_eq_true]
        constructor
        · rintro ⟨h, hm, e⟩
          obtain ⟨h1, h2, h3⟩ := hsel h hm
          refine ⟨h, List.mem_range.mpr h1, ?_⟩
          rw [Bool.and_eq_true, decide_eq_true_eq]
          rcases e with e | e
          · have := near_ne hpr (by omega : i < xs.length)
            rw [← e, Int.toNat_natCast, h2, hc] at this
            exact absurd rfl this
          · exact ⟨h3, e⟩
        · rintro ⟨j, hj, e⟩
          rw [Bool.and_eq_true, decide_eq_true_eq] at e
          have hj := List.mem_range.mp hj
          have hm : j ∈ askN xs ls c hs i (xs.getD i 0) := mem_askN.mpr ⟨hj, e.1, e.2⟩
          obtain ⟨h1, h2⟩ := hd_spec ⟨j, hm⟩
          obtain ⟨a1, a2, a3⟩ := mem_askN.mp h1
          refine ⟨hdN xs ls c hs i (xs.getD i 0), List.mem_filter.mpr ⟨List.mem_range.mpr a1, ?_⟩, .inr a3⟩
          rw [first_iff (n := i) a1]
          exact ⟨a2, by rw [a3]⟩
      have hf : firstB xs ls c hs i = (!takB xs hs (i : Int) && !(takB xs hs (xs.getD i 0) || (List.range i).any fun j => eligB xs ls c hs j && decide (xs.getD j 0 = xs.getD i 0))) := by
        have he : eligB xs ls c hs i = (!takB xs hs (i : Int) && !takB xs hs (xs.getD i 0)) := by
          unfold eligB
          rw [decide_eq_true hc, Bool.true_and]
        unfold firstB
        rw [he, Bool.not_or, Bool.and_assoc]
      unfold prStep
      rw [t1, t2, ← hf, List.filter_cons, List.filter_nil]
      cases firstB xs ls c hs i with
      | true => rfl
      | false => rw [if_neg (by decide), if_neg (by decide), List.append_nil]
    · have hf : firstB xs ls c hs i = false := by
        unfold firstB eligB
        rw [decide_eq_false hc, Bool.false_and, Bool.false_and]
      rw [List.filter_cons, if_neg (by rw [decide_eq_true_eq]; exact hc), List.filter_nil, List.foldl_nil, List.filter_cons, if_neg (by rw [hf]; decide), List.filter_nil, List.append_nil]
/-- the asking ones behind the hues below -/
def hbN (xs ls : List Int) : Nat → List Nat
  | 0 => []
  | i + 1 => (hueRow ls (i : Int)).foldl (prStep xs) (hbN xs ls i)
theorem prL_hb {xs ls : List Int} (h3 : ∀ z ∈ ls, 0 ≤ z ∧ z ≤ 2) : prL xs ls ls.length = hbN xs ls 3 := by
  unfold prL
  rw [List.take_of_length_le (by rw [byHue_len]; exact Nat.le_refl _), byHue_rows h3, List.foldl_append, List.foldl_append]
  rfl
/-- one hue by the law: the goals asked (each once), each with its least asking one -/
theorem hue_step {xs ls : List Int} {c : Int} {hs : List Nat} (hl : ls.length = xs.length) (hpr : properB xs ls = true) (hx : ∀ x ∈ xs, 0 ≤ x) {ks : List Int} (nd : ks.Nodup) (hk : ∀ g, g ∈ ks ↔ ∃ k, k ∈ askN xs ls c hs xs.length g) :
    (hs ++ ks.map (hdN xs ls c hs xs.length)).Perm ((hueRow ls c).foldl (prStep xs) hs) := by
  unfold hueRow
  rw [hl, fold_first hpr hx _ (Nat.le_refl _)]
  refine List.Perm.append (List.Perm.refl _) ?_
  have hg : ∀ g ∈ ks, xs.getD (hdN xs ls c hs xs.length g) 0 = g := fun g hm => (mem_askN.mp (hd_spec ((hk g).mp hm)).1).2.2
  rw [List.perm_ext_iff_of_nodup]
  · intro k
    rw [List.mem_map, List.mem_filter, List.mem_range]
    constructor
    · rintro ⟨g, hm, rfl⟩
      obtain ⟨a1, a2, a3⟩ := mem_askN.mp (hd_spec ((hk g).mp hm)).1
      exact ⟨a1, (first_iff a1).mpr ⟨a2, by rw [a3]⟩⟩
    · rintro ⟨h1, h2⟩
      obtain ⟨b1, b2⟩ := (first_iff h1).mp h2
      exact ⟨xs.getD k 0, (hk _).mpr ⟨k, mem_askN.mpr ⟨h1, b1, rfl⟩⟩, b2⟩
  · rw [List.nodup_iff_pairwise_ne, List.pairwise_map]
    refine List.Pairwise.imp_of_mem ?_ nd
    intro a b ha hb hne e
    exact hne (by rw [← hg a ha, ← hg b hb, e])
  · exact List.nodup_range.filter _

/-! ### pairs, taken one by one, are full ones -/
theorem takB_flat {xs : List Int} {hs : List Nat} {k : Int} : takB xs hs k = true ↔ k ∈ flatP (prOf xs hs) := by
  rw [takB_iff]
  unfold flatP prOf
  rw [List.mem_flatMap]
  constructor
  · rintro ⟨h, hm, e⟩
    refine ⟨((h : Int), xs.getD h 0), List.mem_map.mpr ⟨h, hm, rfl⟩, ?_⟩
    simp only [List.mem_cons, List.not_mem_nil, or_false]
    exact e.imp Eq.symm Eq.symm
  · rintro ⟨m, hm, e⟩
    obtain ⟨h, hh, rfl⟩ := List.mem_map.mp hm
    simp only [List.mem_cons, List.not_mem_nil, or_false] at e
    exact ⟨h, hh, e.imp Eq.symm Eq.symm⟩
theorem pr_greedy {xs : List Int} {m : Int} (hp : PtOk m xs) : ∀ (l hs : List Nat), (∀ h ∈ l, h < xs.length) → (flatP (prOf xs hs)).Nodup →
    (flatP (prOf xs (l.foldl (prStep xs) hs))).Nodup ∧ (∀ k, takB xs hs k = true → takB xs (l.foldl (prStep xs) hs) k = true) ∧ (∀ h ∈ l, (takB xs (l.foldl (prStep xs) hs) (h : Int) || takB xs (l.foldl (prStep xs) hs) (xs.getD h 0)) = true) ∧ ∀ h ∈ l.foldl (prStep xs) hs, h ∈ hs ∨ h ∈ l
  | [], hs, _, nd => ⟨nd, fun k h => h, fun h hh => (List.not_mem_nil hh).elim, fun h hh => .inl hh⟩
  | h :: l, hs, hl, nd => by
    rw [List.foldl_cons]
    have hh := hl h List.mem_cons_self
    cases hc : (!takB xs hs (h : Int) && !takB xs hs (xs.getD h 0)) with
    | false =>
      have e : prStep xs hs h = hs := by unfold prStep; rw [if_neg (by rw [hc]; decide)]
      rw [e]
      obtain ⟨h1, h2, h3, h4⟩ := pr_greedy hp l hs (fun g hg => hl g (List.mem_cons_of_mem _ hg)) nd
      refine ⟨h1, h2, fun g hg => ?_, fun g hg => (h4 g hg).imp id (List.mem_cons_of_mem _)⟩
      rcases List.mem_cons.mp hg with rfl | hg
      · rw [Bool.or_eq_true]
        rw [Bool.and_eq_false_iff, Bool.not_eq_false', Bool.not_eq_false'] at hc
        exact hc.imp (h2 _) (h2 _)
      · exact h3 g hg
    | true =>
      have e : prStep xs hs h = hs ++ [h] := by unfold prStep; rw [if_pos hc]
      rw [Bool.and_eq_true, Bool.not_eq_true', Bool.not_eq_true'] at hc
      rw [e]
      have hg0 := hp.goal h _ (List.getElem?_eq_getElem hh)
      have hgd : xs.getD h 0 = xs[h] := getD_of (List.getElem?_eq_getElem hh)
      have ef : flatP (prOf xs (hs ++ [h])) = flatP (prOf xs hs) ++ [(h : Int), xs.getD h 0] := by
        unfold flatP prOf
        rw [List.map_append, List.flatMap_append]
        rfl
      have nd2 : (flatP (prOf xs (hs ++ [h]))).Nodup := by
        rw [ef, List.nodup_append]
        refine ⟨nd, List.nodup_cons.mpr ⟨fun z => by have := List.mem_singleton.mp z; omega, List.nodup_cons.mpr ⟨List.not_mem_nil, List.nodup_nil⟩⟩, fun a ha b hb e => ?_⟩
        subst e
        have ht := takB_flat.mpr ha
        simp only [List.mem_cons, List.not_mem_nil, or_false] at hb
        rcases hb with rfl | rfl
        · rw [hc.1] at ht
          cases ht
        · rw [hc.2] at ht
          cases ht
      obtain ⟨h1, h2, h3, h4⟩ := pr_greedy hp l (hs ++ [h]) (fun g hg => hl g (List.mem_cons_of_mem _ hg)) nd2
      refine ⟨h1, fun k hk => h2 k (by rw [takB_app, hk, Bool.true_or]), fun g hg => ?_, fun g hg => ?_⟩
      · rcases List.mem_cons.mp hg with rfl | hg
        · rw [Bool.or_eq_true]
          exact .inl (h2 _ (takB_iff.mpr ⟨g, List.mem_append_right _ (List.mem_singleton.mpr rfl), .inl rfl⟩))
        · exact h3 g hg
      · rcases h4 g hg with h5 | h5
        · rcases List.mem_append.mp h5 with h5 | h5
          · exact .inl h5
          · exact .inr (List.mem_cons.mpr (.inl (List.mem_singleton.mp h5)))
        · exact .inr (List.mem_cons_of_mem _ h5)
theorem pr_full {xs ls : List Int} {ms : List (Int × Int)} {m : Int} (hp : PtOk m xs) (hl : ls.length = xs.length) (hpm : ms.Perm (prOf xs (prL xs ls ls.length))) (hs : ms.Pairwise pairLe) : PrdOk xs ms := by
  obtain ⟨h1, _, h3, h4⟩ := pr_greedy hp (byHue ls) [] (fun h hh => by have := byHue_lt hh; omega) List.nodup_nil
  have e : prL xs ls ls.length = (byHue ls).foldl (prStep xs) [] := by
    unfold prL
    rw [List.take_of_length_le (by rw [byHue_len]; exact Nat.le_refl _)]
  rw [← e] at h1 h3 h4
  have hfp : (flatP ms).Perm (flatP (prOf xs (prL xs ls ls.length))) := hpm.flatMap_right _
  refine ⟨⟨fun q hq => ?_, hs, hfp.nodup_iff.mpr h1⟩, fun h hh => ?_⟩
  · obtain ⟨h, hm, rfl⟩ := List.mem_map.mp (hpm.mem_iff.mp hq)
    have hlt : h < xs.length := by
      rcases h4 h hm with z | z
      · cases z
      · have := byHue_lt z
        omega
    exact ⟨⟨by show (0 : Int) ≤ (h : Int); omega, by show (h : Int) < _; omega⟩, by show xs.getD (h : Int).toNat 0 = xs.getD h 0; rw [Int.toNat_natCast]⟩
  · have := h3 h (byHue_all (by omega))
    rw [Bool.or_eq_true] at this ⊢
    exact this.imp (fun z => decide_eq_true (hfp.mem_iff.mpr (takB_flat.mp z))) fun z => decide_eq_true (hfp.mem_iff.mpr (takB_flat.mp z))

/-! ### isinstance(v, bool), any thing -/
def isB : V → Bool
  | .bl _ => true
  | _ => false
theorem kitSB : kitB "str" "bool" = some false := by decide +kernel
theorem kitNB : kitB "NoneType" "bool" = some false := by decide +kernel
theorem kitLB : kitB "list" "bool" = some false := by decide +kernel
theorem kitTB : kitB "tuple" "bool" = some false := by decide +kernel
theorem isiBool {d : Addr} {n : Nat} {L : Led} {H : Hp} {Q : VK} {K : PySem.W.Frag} {v : V} (k : Kn d n L H) (h : Dt L v) (q : Q (.bl (isB v)) H) : rIsi K [v, .ty "bool"] H Q := by
  cases h with
  | non => exact kIsi (.ty _) (.base .non) (kit_ty kitNB) q
  | bl b => exact kIsi (.ty _) (.base (.bl b)) (kit_ty kitBB) q
  | int i => exact kIsi (.ty _) (.base (.int i)) (kit_ty kitIB) q
  | str x => exact kIsi (.ty _) (.base (.str x)) (kit_ty kitSB) q
  | lst h => exact kIsi (.ty _) (.base (.lst (k.mem h))) (kit_ty kitLB) q
  | tup h => exact kIsi (.ty _) (.base (.tup (k.mem h))) (kit_ty kitTB) q

/-! ### what may stand within a thing -/
/-- what may stand within a thing -/
def It (L : Led) (x : V) : Prop := Dt L x ∧ Ds L 2 400 x
theorem It.mono {L L' : Led} {v : V} (h : It L v) (s : L.Sublist L') : It L' v := ⟨h.1.mono fun _ hq => s.subset hq, h.2.mono fun _ hq => s.subset hq⟩
theorem It.int {L : Led} {i : Int} (h : i.natAbs < 10 ^ 100) : It L (.int i) := ⟨.int i, .int h (by omega)⟩
theorem atGood {L : Led} {R : Led → V → Prop} {xs : List V} {r : Int} (h : ∀ x ∈ xs, R L x) (h0 : 0 ≤ r) (h1 : r < xs.length) : ∃ x, atI xs r = some x ∧ R L x := by
  obtain ⟨j, rfl⟩ : ∃ j : Nat, r = (j : Int) := ⟨r.toNat, by omega⟩
  have hj : j < xs.length := by omega
  exact ⟨xs[j], atI_nat (List.getElem?_eq_getElem hj), h _ (List.getElem_mem hj)⟩
theorem itI {L : Led} (ys : List Int) (h : ∀ y ∈ ys, y.natAbs < 10 ^ 100) : ∀ x ∈ ys.map V.int, It L x := fun x hx => by
  obtain ⟨y, hy, rfl⟩ := List.mem_map.mp hx
  exact .int (h y hy)
theorem It.i {L : Led} {i : Int} (h0 : -(10 ^ 70) < i) (h1 : i < 10 ^ 70) : It L (.int i) := .int (by
  have e : (10 : Nat) ^ 100 = 10 ^ 70 * 10 ^ 30 := by decide +kernel
  have e2 : (10 : Int) ^ 70 = ((10 ^ 70 : Nat) : Int) := by decide +kernel
  rw [e2] at h0 h1
  generalize 10 ^ 70 = z at *
  have : z ≤ z * 10 ^ 30 := Nat.le_mul_of_pos_right _ (by decide)
  omega)
theorem kZeros {d : Addr} {n : Nat} {L : Led} {H : Hp} {Q : VK} {p : Addr} {k : Int} (kn : Kn d n L H) (h : (p, .lst [V.int 0]) ∈ L) (k0 : 0 ≤ k) (k1 : k ≤ 20000) (g : ∀ l zs H', (∀ x ∈ zs, x = V.int 0) → (zs.length : Int) = k → Kn d n ((l, .lst zs) :: L) H' → Q (.ref l) H') : rRep (.ref p) (.int k) H Q := by
  refine kRepK kn h k0 (by omega) (by rw [List.length_singleton]; omega) fun l H' kn' => g l _ H' (fun x hx => ?_) ?_ kn'
  · obtain ⟨ys, hy, hx2⟩ := List.mem_flatten.mp hx
    rw [List.eq_of_mem_replicate hy] at hx2
    exact List.mem_singleton.mp hx2
  · rw [List.length_flatten, List.map_replicate, List.sum_replicate_nat, List.length_singleton]
    omega

/-! ### _law_whole, of any thing -/
abbrev s_law_whole : Stmt := topS 34
theorem sc_law_whole : FnScope ["thing"] ["thing"] (defScope s_law_whole) := ⟨rfl, rfl, rfl, by decide +kernel, rfl, by decide +kernel, by decide +kernel⟩
theorem ok_law_whole {P : Program} {w : World} {K : PySem.W.Frag} {mg : Str → Option Value} {base : Heap} {k : Nat} {f : Addr} {fd : FuncData} (D : Df K mg "_law_whole" s_law_whole ["thing"] f fd)  (M : Bl mg) : FnOk P w K mg base CX0 (k + 1) f fd ["thing"] spIsWhole := by
  refine D.F.ok sc_law_whole (fun vs H Q E h => ?_) (fun cdv A outer s H vs Q E hr h => ?_)
  · obtain ⟨d, n, L, v, rfl, _⟩ := h
    rfl
  obtain ⟨d, n, L, v, rfl, kn, hv, q⟩ := h
  refine ⟨_, (pss_one (ps_ret (pe_and (pe_callB call_isi (by rfl) M.isinstance (by decide +kernel) (pa_cons (pv 0) (pa_cons (pe_bltn (v := .ty "int") (u := .type "int") (by rfl) M.int (by decide +kernel) rfl) pa_nil))) (pe_one (pe_not (pe_callB call_isi (by rfl) M.isinstance (by decide +kernel) (pa_cons (pv 0) (pa_cons (pe_bltn (v := .ty "bool") (u := .type "bool") (by rfl) M.bool (by decide +kernel) rfl) pa_nil)))))))), ?_⟩
  walk_at "go"
  refine isiInt kn hv fun b e => ?_
  subst e
  refine kBl ?_
  cases v with
  | int i =>
    refine iteT ?_
    walk_at "go"
    exact q
  | bl c =>
    refine iteT ?_
    walk_at "go"
    exact q
  | _ => exact iteF q

/-! ### _law_is_paired -/
abbrev s_law_is_paired : Stmt := topS 40
theorem sc_law_is_paired : FnScope ["pointing", "thing", "taken", "last", "one", "k", "after"] ["pointing", "thing"] (defScope s_law_is_paired) := ⟨rfl, rfl, rfl, by decide +kernel, rfl, by decide +kernel, by decide +kernel⟩
theorem osOf_at {ms : List (Int × Int)} {i : Nat} {o : Option (List V)} (h : (osOf ms)[i]? = some o) : ∃ m, ms[i]? = some m ∧ o = some [.int m.1, .int m.2] := by
  unfold osOf at h
  rw [List.getElem?_map] at h
  cases e : ms[i]? with
  | none => rw [e] at h; cases h
  | some m => rw [e] at h; exact ⟨m, rfl, (Option.some.inj h).symm⟩
theorem flatP_app (a b : List (Int × Int)) : flatP (a ++ b) = flatP a ++ flatP b := by
  unfold flatP
  rw [List.flatMap_append]
theorem fst_flatP {ms : List (Int × Int)} {m : Int × Int} (h : m ∈ ms) : m.1 ∈ flatP ms := by
  unfold flatP
  exact List.mem_flatMap.mpr ⟨m, h, by simp⟩
/-- what stands where a row of pairs goes on -/
theorem pr_next {xs : List Int} {ms ms' : List (Int × Int)} {o : Option (List V)} {l : Int × Int} (hA : ArePr xs ms') (ht : (osOf ms').take ms.length = osOf ms) (ho : (osOf ms')[ms.length]? = some o) (hl : (l = (-1, -1)) ∨ l ∈ ms) :
    ∃ m : Int × Int, o = some [.int m.1, .int m.2] ∧ (0 ≤ m.1 ∧ m.1 < xs.length) ∧ xs.getD m.1.toNat 0 = m.2 ∧ l.1 < m.1 ∧ m.1 ∉ flatP ms ∧ m.2 ∉ flatP ms := by
  obtain ⟨m, hm, e⟩ := osOf_at ho
  have e1 : ms'.take ms.length = ms := by
    refine osOf_inj ?_
    rw [← ht]
    unfold osOf
    rw [List.map_take]
  have e2 : ms' = ms ++ m :: ms'.drop (ms.length + 1) := by
    have h1 : ms'.take (ms.length + 1) = ms ++ [m] := by rw [List.take_add_one, e1, hm]; rfl
    have h2 := (List.take_append_drop (ms.length + 1) ms').symm
    rw [h1] at h2
    rw [List.append_assoc] at h2
    exact h2
  have hmm : m ∈ ms' := List.mem_of_getElem? hm
  have nd := hA.nd
  have ris := hA.ris
  rw [e2] at nd ris
  rw [flatP_app] at nd
  have hcons : flatP (m :: ms'.drop (ms.length + 1)) = m.1 :: m.2 :: flatP (ms'.drop (ms.length + 1)) := rfl
  rw [hcons, List.nodup_append] at nd
  have n1 : m.1 ∉ flatP ms := fun h => nd.2.2 m.1 h m.1 List.mem_cons_self rfl
  have n2 : m.2 ∉ flatP ms := fun h => nd.2.2 m.2 h m.2 (List.mem_cons_of_mem _ List.mem_cons_self) rfl
  have hin := hA.inn m hmm
  refine ⟨m, e, hin.1, hin.2, ?_, n1, n2⟩
  rcases hl with rfl | hl
  · show (-1 : Int) < m.1
    omega
  · have h1 := (List.pairwise_append.mp ris).2.2 l hl m List.mem_cons_self
    have h2 : l.1 ≠ m.1 := fun h => n1 (h ▸ fst_flatP hl)
    rcases h1 with h1 | ⟨h1, _⟩
    · exact h1
    · exact absurd h1 h2
/-- a row of pairs with one more -/
theorem pr_more {xs : List Int} {ms : List (Int × Int)} {a b : Int} {k : Int} (hp : PtOk k xs) (hA : ArePr xs ms) (ha : 0 ≤ a ∧ a < xs.length) (hb : xs.getD a.toNat 0 = b) (hl : ∀ m ∈ ms, m.1 < a) (n1 : a ∉ flatP ms) (n2 : b ∉ flatP ms) : ArePr xs (ms ++ [(a, b)]) := by
  refine ⟨fun m hm => ?_, ?_, ?_⟩
  · rcases List.mem_append.mp hm with hm | hm
    · exact hA.inn m hm
    · cases List.mem_singleton.mp hm
      exact ⟨ha, hb⟩
  · rw [List.pairwise_append]
    refine ⟨hA.ris, List.pairwise_singleton _ _, fun m hm m' hm' => ?_⟩
    cases List.mem_singleton.mp hm'
    exact .inl (hl m hm)
  · rw [flatP_app]
    show (flatP ms ++ [a, b]).Nodup
    have hg := hp.goal a.toNat _ (List.getElem?_eq_getElem (by omega))
    rw [← getD_of (List.getElem?_eq_getElem (show a.toNat < xs.length by omega)), hb] at hg
    rw [List.nodup_append]
    refine ⟨hA.nd, List.nodup_cons.mpr ⟨fun z => by have := List.mem_singleton.mp z; omega, List.nodup_cons.mpr ⟨List.not_mem_nil, List.nodup_nil⟩⟩, fun c hc e he z => ?_⟩
    subst z
    simp only [List.mem_cons, List.not_mem_nil, or_false] at he
    rcases he with rfl | rfl
    · exact n1 hc
    · exact n2 hc
/-- which houses are taken -/
def takR (n : Nat) (ns : List Int) : List V := (List.range n).map fun h : Nat => V.bl (decide ((h : Int) ∈ ns))
theorem takR_set {n a : Nat} {ns : List Int} (ha : a < n) : (takR n ns).set a (V.bl true) = takR n (ns ++ [(a : Int)]) := by
  apply List.ext_getElem?
  intro k
  unfold takR
  rw [List.getElem?_set, List.getElem?_map, List.length_map, List.length_range]
  by_cases hk : a = k
  · subst hk
    rw [if_pos rfl, if_pos ha, List.getElem?_map, List.getElem?_range ha]
    simp
  · rw [if_neg hk, List.getElem?_map]
    by_cases hk2 : k < n
    · rw [List.getElem?_range hk2]
      have : ((k : Int) ∈ ns ++ [(a : Int)]) ↔ (k : Int) ∈ ns := by
        rw [List.mem_append, List.mem_singleton]
        exact ⟨fun h => h.elim id fun h => absurd (by omega) hk, .inl⟩
      simp only [Option.map_some, this]
    · rw [List.getElem?_eq_none (by rw [List.length_range]; omega)]
      rfl
theorem takR_at {n j : Nat} {ns : List Int} (h : j < n) : atI (takR n ns) (j : Int) = some (V.bl (decide ((j : Int) ∈ ns))) := by
  refine atI_nat ?_
  unfold takR
  rw [List.getElem?_map, List.getElem?_range h]
  rfl
theorem takR_len {n : Nat} {ns : List Int} : (takR n ns).length = n := by rw [takR, List.length_map, List.length_range]
theorem ok_law_is_paired {P : Program} {w : World} {K : PySem.W.Frag} {mg : Str → Option Value} {base : Heap} {k : Nat} {f a_law_whole : Addr} {fd fd_law_whole : FuncData} (D : Df K mg "_law_is_paired" s_law_is_paired ["pointing", "thing"] f fd) (D_law_whole : Df K mg "_law_whole" s_law_whole ["thing"] a_law_whole fd_law_whole) (M : Bl mg) : FnOk P w K mg base CX0 (k + 1 + 1) f fd ["pointing", "thing"] spIsPaired := by
  have G_law_whole := ok_law_whole (P := P) (w := w) (base := base) (k := 0) D_law_whole M
  refine D.F.ok sc_law_is_paired (fun vs H Q E h => ?_) (fun cdv A outer s H vs Q E hr h => ?_)
  · obtain ⟨d, n, L, p, v, xs, o, rfl, _⟩ := h
    rfl
  obtain ⟨d, n, L, p, v, xs, o, rfl, hp, hpL, kn, hv, q⟩ := h
  refine ⟨_, (pss_cons (ps_if (pt_not (pt_val (pe_callB call_isi (by rfl) M.isinstance (by decide +kernel) (pa_cons (pv 1) (pa_cons (pe_bltn (v := .ty "list") (u := .type "list") (by rfl) M.list (by decide +kernel) rfl) pa_nil))))) (pss_one (ps_ret pe_bl)) pss_nil)
   (pss_cons (ps_set (i := 2) sc_law_is_paired.nd rfl (Or.inr rfl) (pe_op op_rep (pe_lst (pa_cons pe_bl pa_nil)) (pe_callB c_len (by rfl) M.len PySem.boot_len (pa_cons (pv 0) pa_nil))))
   (pss_cons (ps_set (i := 3) sc_law_is_paired.nd rfl (Or.inl rfl) (pe_tup (pa_cons (pe_un un_neg pe_int) (pa_cons (pe_un un_neg pe_int) pa_nil))))
   (pss_cons (ps_for PassesOwn.never rfl (pi_list (pv 1)) (pg_name (i := 4) sc_law_is_paired.nd rfl (Or.inl rfl))
    (pss_cons (ps_if (PW.pt (pw_or (pt_not (pt_val (pe_callB call_isi (by rfl) M.isinstance (by decide +kernel) (pa_cons (pv 4) (pa_cons (pe_bltn (v := .ty "tuple") (u := .type "tuple") (by rfl) M.tuple (by decide +kernel) rfl) pa_nil))))) (pw_or (pt_cmpR op_ne (pe_callB c_len (by rfl) M.len PySem.boot_len (pa_cons (pv 4) pa_nil)) pe_int (nomark _)) (pw_or (pt_not (pt_val (pe_call G_law_whole (hr.mono (by omega)) (by rfl) D_law_whole.g D_law_whole.F.kp D_law_whole.b .nil pass0 (pa_cons (pe_ix ix_tup (pv 4) pe_int (fun _ _ => rfl)) pa_nil)))) (pw_or1 (pt_not (pt_val (pe_call G_law_whole (hr.mono (by omega)) (by rfl) D_law_whole.g D_law_whole.F.kp D_law_whole.b .nil pass0 (pa_cons (pe_ix ix_tup (pv 4) pe_int (fun _ _ => rfl)) pa_nil))))))))) (pss_one (ps_ret pe_bl)) pss_nil)
    (pss_cons (ps_if (PW.pt (pw_or (pt_not (pt_chain op_le op_lt pe_int (pe_ix ix_tup (pv 4) pe_int (fun _ _ => rfl)) (pe_callB c_len (by rfl) M.len PySem.boot_len (pa_cons (pv 0) pa_nil)))) (pw_or (pt_cmpR op_ne (pe_ix ix_tup (pv 0) (pe_ix ix_tup (pv 4) pe_int (fun _ _ => rfl)) (fun _ _ => rfl)) (pe_ix ix_tup (pv 4) pe_int (fun _ _ => rfl)) (nomark _)) (pw_or1 (pt_cmpR (op_leT (Nat.lt_of_le_of_lt (Nat.le_add_right _ _) hr.units)) (pv 4) (pv 3) (nomark _)))))) (pss_one (ps_ret pe_bl)) pss_nil)
    (pss_cons (ps_if (PW.pt (pw_or (pt_val (pe_ix ix_list (pv 2) (pe_ix ix_tup (pv 4) pe_int (fun _ _ => rfl)) (fun _ _ => rfl))) (pw_or1 (pt_val (pe_ix ix_list (pv 2) (pe_ix ix_tup (pv 4) pe_int (fun _ _ => rfl)) (fun _ _ => rfl)))))) (pss_one (ps_ret pe_bl)) pss_nil)
    (pss_cons (ps_asg pe_bl (pg_sub (pv 2) (pe_ix ix_tup (pv 4) pe_int (fun _ _ => rfl)) set_list))
    (pss_cons (ps_asg pe_bl (pg_sub (pv 2) (pe_ix ix_tup (pv 4) pe_int (fun _ _ => rfl)) set_list))
    (pss_one (ps_set (i := 3) sc_law_is_paired.nd rfl (Or.inl rfl) (pv 4)))))))))
   (pss_one (ps_ret (pe_cmpR (op_eqD hr.units) (pe_lc (own := [("k", 5), ("after", 6)]) (g := gTup K 2 (gCons (gName 5) (gCons (gName 6) gNil))) (by rfl) sc_law_is_paired.nd (pi_enumU (by rfl) M.enumerate (pa_cons (pv 0) pa_nil)) (blkOk_by (own := [("k", 5), ("after", 6)]) (N := ["pointing", "thing", "taken", "last", "one", "k", "after"]) (sc := defScope s_law_is_paired) (by decide +kernel)) (fun _ _ _ _ _ => (pg_tup rfl (pgs_cons (pg_name (i := 5) sc_law_is_paired.nd rfl (Or.inl rfl)) (pgs_cons (pg_name (i := 6) sc_law_is_paired.nd rfl (Or.inl rfl)) pgs_nil)))) (fun _ _ _ _ _ => (pts_one (PW.pt (pw_and (pt_not (pt_val (pe_ix (ixL (K := K) rfl) (pv 2) (pv 5) (fun _ _ => rfl)))) (pw_and1 (pt_not (pt_val (pe_ix (ixL (K := K) rfl) (pv 2) (pv 6) (fun _ _ => rfl))))))))) (fun _ _ _ _ _ => (pv 5))) (pe_lst pa_nil) (nomark _)))))))), ?_⟩
  have h60 := hp.most
  have h2 := hp.two
  have qf : (∀ ms, o = some (osOf ms) → ¬ PrdOk xs ms) → ∀ H', Kn d n L H' → Q (.bl false) H' := fun hn H' k' => q false H' ⟨fun z => (by cases z), fun ⟨ms, e, h1⟩ => (hn ms e h1).elim⟩ k'
  refine kSeq (kIfS ?_)
  walk_at "go"
  refine isiListQ kn hv ?_
  walk_at "go"
  cases o with
  | none =>
    refine iteT ?_
    walk_at "go"
    exact qf (fun ms e => by cases e) _ kn
  | some os =>
    refine iteF ?_
    cases hv with
    | @lst a zs _ h ez ds z =>
    refine kNext ?_
    walk_at "go"
    rename_i l0 H6 kn5
    rw [List.length_map]
    refine kRepK kn5 List.mem_cons_self (by omega) (by omega) (by simp; omega) fun I H7 kn6 => ?_
    have eI : (List.replicate (xs.length : Int).toNat [V.bl false]).flatten = takR xs.length (flatP []) := by
      rw [List.flatten_replicate_singleton, Int.toNat_natCast]
      unfold takR
      have e : (fun h : Nat => V.bl (decide ((h : Int) ∈ flatP []))) = fun _ => V.bl false := by
        funext h
        simp [flatP]
      rw [e, List.map_const', List.length_range]
    rw [eI] at kn6
    have kn7 := kn6.sub ((List.sublist_cons_self _ _).cons₂ (I, HO.lst (takR xs.length (flatP []))))
    clear kn6 kn5 eI
    walk_at "go"
    rename_i la0 H8 kn8
    obtain ⟨L9, hL9⟩ : ∃ L9, L9 = (la0, HO.tup [V.int (-1), V.int (-1)]) :: L := ⟨_, rfl⟩
    have kn9 : Kn d n ((I, HO.lst (takR xs.length (flatP []))) :: L9) H8 := by
      rw [hL9]
      exact kn8.perm (List.Perm.swap _ _ _)
    have sL : L.Sublist L9 := by rw [hL9]; exact List.sublist_cons_self _ _
    have m0 : (la0, HO.tup [V.int (-1), V.int (-1)]) ∈ L9 := by rw [hL9]; exact List.mem_cons_self
    clear kn8 kn7 hL9
    refine kSeq (kForL (p := a) (xs := zs) (fun i σ' H' => ∃ (ms : List (Int × Int)) (lp : Int × Int) (la : Addr) (x4 : Option V), σ' = [some (.ref p), some (.ref a), some (.ref I), some (.ref la), x4, none, none] ∧ ms.length = i ∧ os.take i = osOf ms ∧ ArePr xs ms ∧ (lp = (-1, -1) ∨ lp ∈ ms) ∧ (∀ m ∈ ms, m.1 ≤ lp.1) ∧ (la, HO.tup [V.int lp.1, V.int lp.2]) ∈ L9 ∧ Kn d n ((I, .lst (takR xs.length (flatP ms))) :: L9) H')
      (kn9.seqL (List.mem_cons_of_mem _ (sL.subset h))) ⟨[], (-1, -1), la0, _, rfl, rfl, rfl, ⟨fun m hm => (List.not_mem_nil hm).elim, List.Pairwise.nil, List.nodup_nil⟩, .inl rfl, fun m hm => (List.not_mem_nil hm).elim, m0, kn9⟩ (fun i σ' H' _ hW => by obtain ⟨_, _, _, _, _, _, _, _, _, _, _, k'⟩ := hW; exact k'.seqL (List.mem_cons_of_mem _ (sL.subset h))) (fun i x σ' H' hx hW => ?_) (fun σ' H' hW => ?_) fun R hR => by walk_at "go"; exact hR)
    · obtain ⟨ms, lp, la, x4, rfl, hml, hos, hA, hlp, hmx, mla, kn10⟩ := hW
      have hi := (List.getElem?_eq_some_iff.mp hx).1
      obtain ⟨oi, hoi⟩ : ∃ oi, os[i]? = some oi := ⟨_, List.getElem?_eq_getElem (by omega)⟩
      have hTk := (ds i x oi hx hoi).mono fun q hq => sL.subset hq
      have bad : (∀ m : Int × Int, oi = some [.int m.1, .int m.2] → (0 ≤ m.1 ∧ m.1 < xs.length) → xs.getD m.1.toNat 0 = m.2 → lp.1 < m.1 → m.1 ∉ flatP ms → m.2 ∉ flatP ms → False) → ∀ H', Kn d n ((I, .lst (takR xs.length (flatP ms))) :: L9) H' → Q (.bl false) H' := fun hb H' k' => qf (fun ms' e hP => by
        have e := Option.some.inj e
        subst e
        rw [← hml] at hos hoi
        obtain ⟨m, h1, h2, h3, h4, h5, h6⟩ := pr_next hP.are hos hoi hlp
        exact hb m h1 h2 h3 h4 h5 h6) H' (k'.sub (sL.cons _))
      refine kSeq (kIfS ?_)
      walk_at "go"
      refine isiTup kn10 (hTk.mono fun q hq => List.mem_cons_of_mem _ hq) ?_
      walk_at "go"
      cases oi with
      | none =>
        refine iteT ?_
        refine iteT ?_
        walk_at "go"
        exact bad (fun m e => by cases e) _ kn10
      | some yv =>
        refine iteF ?_
        cases hTk with
        | @tup b _ hb dsb =>
        walk_at "go"
        by_cases hy : yv.length = 2
        · obtain ⟨y1, y2, rfl⟩ : ∃ y1 y2, yv = [y1, y2] := by
            match yv, hy with
            | [y1, y2], _ => exact ⟨y1, y2, rfl⟩
          have d1 := dsb y1 List.mem_cons_self
          have d2 := dsb y2 (List.mem_cons_of_mem _ List.mem_cons_self)
          refine iteF ?_
          have hb9 := List.mem_cons_of_mem (I, HO.lst (takR xs.length (flatP ms))) hb
          walk_at "go"
          refine kIxT (xs := [y1, y2]) (k := 0) (kn10.seqT hb9) rfl ?_
          walk_at "go"
          refine ⟨d, n, _, y1, rfl, kn10, d1.mono fun q hq => List.mem_cons_of_mem _ hq, ?_⟩
          refine kBl ?_
          cases y1 with
          | int a1 =>
            refine iteF ?_
            walk_at "go"
            refine kIxT (xs := [V.int a1, y2]) (k := 1) (kn10.seqT hb9) rfl ?_
            walk_at "go"
            refine ⟨d, n, _, y2, rfl, kn10, d2.mono fun q hq => List.mem_cons_of_mem _ hq, ?_⟩
            refine kBl ?_
            cases y2 with
            | int b1 =>
              refine iteF ?_
              walk_at "go"
              have hq9 := kn10.seqT (K := K) hb9
              refine kSeq (kIfS ?_)
              walk_at "go"
              refine kIxT (xs := [V.int a1, V.int b1]) (k := 0) (kn10.seqT hb9) rfl ?_
              walk_at "go"
              refine iteD (fun h0 => ?_) (fun h0 => ?_)
              · have hpL9 := List.mem_cons_of_mem (I, HO.lst (takR xs.length (flatP ms))) (sL.subset hpL)
                walk_at "go"
                rw [List.length_map]
                refine iteB (fun h1 => ?_) (fun h1 => ?_)
                · walk_at "go"
                  refine iteT ?_
                  walk_at "go"
                  exact bad (fun m e hm _ _ _ _ => by cases e; simp at h1; omega) _ kn10
                · have ha : a1 < xs.length := by simpa using h1
                  obtain ⟨g, rfl⟩ : ∃ g : Nat, a1 = (g : Int) := ⟨a1.toNat, by omega⟩
                  have hgx : xs[g]? = some (xs.getD g 0) := by rw [List.getElem?_eq_getElem (show g < xs.length by omega), getD_of (List.getElem?_eq_getElem (show g < xs.length by omega))]
                  walk_at "go"
                  refine kIxT (xs := [V.int (g : Int), V.int b1]) (k := 0) (kn10.seqT hb9) rfl ?_
                  walk_at "go"
                  refine kIxT (kn10.seqT hpL9) (atI_nat (v := V.int (xs.getD g 0)) (by rw [List.getElem?_map, hgx]; rfl)) ?_
                  walk_at "go"
                  refine kIxT (xs := [V.int (g : Int), V.int b1]) (k := 1) (kn10.seqT hb9) rfl ?_
                  walk_at "go"
                  by_cases hgo : xs.getD g 0 = b1
                  · subst hgo
                    rw [decide_eq_true rfl]
                    refine iteF ?_
                    walk_at "go"
                    refine kLeP (kn10.seqT hb9) (kn10.seqT (List.mem_cons_of_mem _ mla)) ⟨_, rfl, ?_⟩
                    cases hle : (if (g : Int) = lp.1 then decide (xs.getD g 0 ≤ lp.2) else decide ((g : Int) ≤ lp.1)) with
                    | true =>
                      refine iteT ?_
                      walk_at "go"
                      refine bad (fun m e hm _ hlt _ _ => ?_) _ kn10
                      have e := Option.some.inj e
                      simp only [List.cons.injEq, and_true] at e
                      have e1 := V.int.inj e.1
                      rw [← e1] at hlt
                      rw [if_neg (by omega)] at hle
                      have := of_decide_eq_true hle
                      omega
                    | false =>
                      refine iteF ?_
                      refine kNext ?_
                      have hgt : lp.1 < (g : Int) := by
                        by_cases e : (g : Int) = lp.1
                        · rw [if_pos e] at hle
                          have hle := of_decide_eq_false hle
                          rcases hlp with h | h
                          · rw [h] at e
                            exact absurd e (by omega)
                          · have := (hA.inn lp h).2
                            rw [← e, Int.toNat_natCast] at this
                            omega
                        · rw [if_neg e] at hle
                          have := of_decide_eq_false hle
                          omega
                      have hgoal := hp.goal g _ hgx
                      obtain ⟨g2, hg2⟩ : ∃ g2 : Nat, xs.getD g 0 = (g2 : Int) := ⟨(xs.getD g 0).toNat, by omega⟩
                      refine kSeq (kIfS ?_)
                      walk_at "go"
                      refine kIxT (xs := [V.int (g : Int), V.int (xs.getD g 0)]) (k := 0) (kn10.seqT hb9) rfl ?_
                      walk_at "go"
                      refine kIxL (kn10.seqL List.mem_cons_self) (takR_at (by omega)) ?_
                      walk_at "go"
                      cases hc1 : decide ((g : Int) ∈ flatP ms) with
                      | true =>
                        refine iteT ?_
                        refine iteT ?_
                        walk_at "go"
                        refine bad (fun m e _ _ _ n1 _ => n1 ?_) _ kn10
                        have e := Option.some.inj e
                        simp only [List.cons.injEq, and_true] at e
                        rw [← V.int.inj e.1]
                        exact of_decide_eq_true hc1
                      | false =>
                        have hn1 := of_decide_eq_false hc1
                        refine iteF ?_
                        walk_at "go"
                        refine kIxT (xs := [V.int (g : Int), V.int (xs.getD g 0)]) (k := 1) (kn10.seqT hb9) rfl ?_
                        walk_at "go"
                        refine kIxL (kn10.seqL List.mem_cons_self) (v := V.bl (decide ((g2 : Int) ∈ flatP ms))) (by rw [hg2]; exact takR_at (by omega)) ?_
                        walk_at "go"
                        cases hc2 : decide ((g2 : Int) ∈ flatP ms) with
                        | true =>
                          refine iteT ?_
                          walk_at "go"
                          refine bad (fun m e _ _ _ _ n2 => n2 ?_) _ kn10
                          have e := Option.some.inj e
                          simp only [List.cons.injEq, and_true] at e
                          rw [← V.int.inj e.2, hg2]
                          exact of_decide_eq_true hc2
                        | false =>
                          have hn2 := of_decide_eq_false hc2
                          refine iteF ?_
                          refine kNext ?_
                          walk_at "go"
                          refine kIxT (xs := [V.int (g : Int), V.int (xs.getD g 0)]) (k := 0) (kn10.seqT hb9) rfl ?_
                          walk_at "go"
                          refine kSetK kn10 0 rfl rfl (by rw [takR_len]; omega) fun H9 kn11 => ?_
                          rw [takR_set (by omega)] at kn11
                          have kn11 : Kn d n ((I, .lst (takR xs.length (flatP ms ++ [(g : Int)]))) :: L9) H9 := kn11
                          have hb10 := List.mem_cons_of_mem (I, HO.lst (takR xs.length (flatP ms ++ [(g : Int)]))) (show (b, HO.tup [V.int (g : Int), V.int (xs.getD g 0)]) ∈ L9 from hb)
                          walk_at "go"
                          refine kIxT (xs := [V.int (g : Int), V.int (xs.getD g 0)]) (k := 1) (kn11.seqT hb10) rfl ?_
                          walk_at "go"
                          refine kSetK kn11 0 rfl hg2 (by rw [takR_len]; omega) fun H10 kn12 => ?_
                          rw [takR_set (by omega)] at kn12
                          have kn12 : Kn d n ((I, .lst (takR xs.length (flatP ms ++ [(g : Int)] ++ [(g2 : Int)]))) :: L9) H10 := kn12
                          walk_at "go"
                          have hA2 : ArePr xs (ms ++ [((g : Int), xs.getD g 0)]) := pr_more hp hA ⟨by omega, by omega⟩ (by rw [Int.toNat_natCast]) (fun m hm => by have := hmx m hm; omega) hn1 (by rw [hg2]; exact hn2)
                          refine ⟨ms ++ [((g : Int), xs.getD g 0)], ((g : Int), xs.getD g 0), b, _, rfl, by rw [List.length_append, hml]; rfl, ?_, hA2, .inr (List.mem_append_right _ (List.mem_singleton.mpr rfl)), fun m hm => ?_, hb, ?_⟩
                          · rw [List.take_add_one, hos, hoi]
                            unfold osOf
                            rw [List.map_append]
                            rfl
                          · rcases List.mem_append.mp hm with hm | hm
                            · have := hmx m hm
                              show m.1 ≤ (g : Int)
                              omega
                            · cases List.mem_singleton.mp hm
                              exact Int.le_refl _
                          · have e : flatP (ms ++ [((g : Int), xs.getD g 0)]) = flatP ms ++ [(g : Int)] ++ [(g2 : Int)] := by
                              rw [flatP_app, List.append_assoc, ← hg2]
                              rfl
                            rw [e]
                            exact kn12
                  · rw [decide_eq_false (fun e => hgo (V.int.inj e))]
                    refine iteT ?_
                    refine iteT ?_
                    walk_at "go"
                    refine bad (fun m e _ hgl _ _ _ => ?_) _ kn10
                    have e := Option.some.inj e
                    simp only [List.cons.injEq, and_true] at e
                    have e1 := V.int.inj e.1
                    have e2 := V.int.inj e.2
                    rw [← e1, ← e2, Int.toNat_natCast] at hgl
                    exact hgo hgl
              · walk_at "go"
                refine iteT ?_
                refine iteT ?_
                walk_at "go"
                exact bad (fun m e hm _ _ _ _ => by cases e; omega) _ kn10
            | _ =>
              refine iteT ?_
              walk_at "go"
              exact bad (fun m e => by cases e) _ kn10
          | _ =>
            refine iteT ?_
            refine iteT ?_
            walk_at "go"
            exact bad (fun m e => by cases e) _ kn10
        · rw [decide_eq_false (fun e => hy (by have := V.int.inj e; omega))]
          refine iteT ?_
          refine iteT ?_
          walk_at "go"
          exact bad (fun m e _ _ _ _ _ => hy (by rw [Option.some.inj e]; rfl)) _ kn10
    · obtain ⟨ms, lp, la, x4, rfl, hml, hos, hA, hlp, hmx, mla, kn10⟩ := hW
      walk_at "go"
      have e0 : os = osOf ms := by
        rw [← hos, List.take_of_length_le (by omega)]
      have hpL9 := List.mem_cons_of_mem (I, HO.lst (takR xs.length (flatP ms))) (sL.subset hpL)
      obtain ⟨pr, hpr⟩ : ∃ pr : Nat → Bool, ∀ h, pr h = (!decide ((h : Int) ∈ flatP ms) && !decide (xs.getD h 0 ∈ flatP ms)) := ⟨_, fun _ => rfl⟩
      refine kLcE kn10 hpL9 (fun R hR => by walk_at "go"; exact hR) (by rw [List.length_map]; omega) (fun u => (((List.range u).filter pr).map fun h : Nat => (h : Int)).map V.int) rfl (fun u => by rw [List.length_map, List.length_map]; have := List.length_filter_le pr (List.range u); rw [List.length_range] at this; exact this) (fun _ _ => rfl) (fun u x H9 D T hx kn11 N1 N2 h1 h2 => ?_) (fun D H9 kn11 => ?_)
      · obtain ⟨z1, hz1, rfl⟩ : ∃ z, xs[u]? = some z ∧ x = V.int z := by
          rw [List.getElem?_map] at hx
          cases e : xs[u]? with
          | none => rw [e] at hx; cases hx
          | some z => rw [e] at hx; exact ⟨z, rfl, (Option.some.inj hx).symm⟩
        have hu : u < xs.length := (List.getElem?_eq_some_iff.mp hz1).1
        have hgoal := hp.goal u z1 hz1
        obtain ⟨g1, rfl⟩ : ∃ g1 : Nat, z1 = (g1 : Int) := ⟨z1.toNat, by omega⟩
        have hgd : xs.getD u 0 = (g1 : Int) := getD_of hz1
        have st : ∀ b : Bool, pr u = b → (((List.range (u + 1)).filter pr).map fun h : Nat => (h : Int)).map V.int = (((List.range u).filter pr).map fun h : Nat => (h : Int)).map V.int ++ (if b = true then [V.int (u : Int)] else []) := fun b hb => by
          rw [List.range_succ, List.filter_append, List.map_append, List.map_append, List.filter_cons, hb, List.filter_nil]
          cases b <;> rfl
        walk_at "go"
        have mI := List.mem_cons_of_mem (D, HO.lst ((((List.range u).filter pr).map fun h : Nat => (h : Int)).map V.int)) (List.mem_cons_self (a := (I, HO.lst (takR xs.length (flatP ms)))) (l := L9))
        refine kIxL (kn11.seqL (List.mem_cons_of_mem _ mI)) (takR_at hu) ?_
        walk_at "go"
        cases hc1 : decide ((u : Int) ∈ flatP ms) with
        | true =>
          refine iteF ?_
          refine iteF ?_
          refine h2 _ kn11 ?_
          rw [st false (by rw [hpr, hc1]; rfl)]
          exact List.append_nil _
        | false =>
          refine iteT ?_
          walk_at "go"
          refine kIxL (kn11.seqL (List.mem_cons_of_mem _ mI)) (takR_at (by omega)) ?_
          walk_at "go"
          cases hc2 : decide ((g1 : Int) ∈ flatP ms) with
          | true =>
            refine iteF ?_
            refine h2 _ kn11 ?_
            rw [st false (by rw [hpr, hc1, hgd, hc2]; rfl)]
            exact List.append_nil _
          | false =>
            refine iteT ?_
            walk_at "go"
            exact h1 _ _ kn11 (st true (by rw [hpr, hc1, hgd, hc2]; rfl))
      · rw [List.length_map] at kn11
        walk_at "go"
        rename_i e1 H10 kn12
        refine kEqL (ys := []) (kn12.seqL (List.mem_cons_of_mem _ List.mem_cons_self)) (kn12.seqL List.mem_cons_self) ?_
        refine q _ _ ?_ ((kn12.tail.tail).sub (sL.cons _))
        rw [decide_eq_true_eq, List.map_eq_nil_iff, List.filter_eq_nil_iff]
        constructor
        · intro hf
          refine ⟨ms, by rw [e0], hA, fun h hh => ?_⟩
          have := hf h (List.mem_range.mpr hh)
          rw [hpr] at this
          revert this
          cases decide ((h : Int) ∈ flatP ms) <;> cases decide (xs.getD h 0 ∈ flatP ms) <;> decide
        · rintro ⟨ms', e2, hP⟩ h hh
          have e3 : ms = ms' := osOf_inj (by rw [← e0]; exact Option.some.inj e2)
          subst e3
          have := hP.just h (List.mem_range.mp hh)
          rw [hpr]
          revert this
          cases decide ((h : Int) ∈ flatP ms) <;> cases decide (xs.getD h 0 ∈ flatP ms) <;> decide

/-! ### _law_by_order -/
abbrev s_law_by_order : Stmt := topS 41
theorem sc_law_by_order : FnScope ["dice", "pointing", "left", "taken", "found", "house"] ["dice", "pointing"] (defScope s_law_by_order) := ⟨rfl, rfl, rfl, by decide +kernel, rfl, by decide +kernel, by decide +kernel⟩
theorem neNil_mono {K : PySem.W.Frag} {i : Nat} (σ : L2.St) (H : Hp) (Q Q' : Bool → Hp → Prop) (hm : ∀ b H1, Q b H1 → Q' b H1) (hh : tTest (tOp (rNeD K) (tVar i) (tLst tNil)) σ H Q) : tTest (tOp (rNeD K) (tVar i) (tLst tNil)) σ H Q' := by
  obtain ⟨v, hv, z, g⟩ := hh
  refine ⟨v, hv, z, fun p hp => ?_⟩
  obtain ⟨d, e, h1, h2, h3, h4, k, hk, hq⟩ := g p hp
  exact ⟨d, e, h1, h2, h3, h4, k, hk, hm _ _ hq⟩
/-- numbers of houses -/
abbrev vI (l : List Nat) : List Int := l.map fun k : Nat => (k : Int)
theorem erase_map {α β : Type} (f : α → β) (l : List α) (k : Nat) : (l.map f).eraseIdx k = (l.eraseIdx k).map f := by
  rw [List.eraseIdx_eq_take_drop_succ, List.eraseIdx_eq_take_drop_succ, List.map_append, List.map_take, List.map_drop]
theorem prOf_app (xs : List Int) (hs : List Nat) (h : Nat) : prOf xs (hs ++ [h]) = prOf xs hs ++ [((h : Int), xs.getD h 0)] := by
  unfold prOf
  rw [List.map_append]
  rfl
theorem pr_done {xs : List Int} {hs : List Nat} {ms : List (Int × Int)} {m : Int} (hp : PtOk m xs) (hh : ∀ h ∈ hs, h < xs.length) (nd : (flatP (prOf xs hs)).Nodup) (hj : ∀ h : Nat, h < xs.length → (takB xs hs (h : Int) || takB xs hs (xs.getD h 0)) = true) (hpm : ms.Perm (prOf xs hs)) (hs' : ms.Pairwise pairLe) : PrdOk xs ms := by
  have hfp : (flatP ms).Perm (flatP (prOf xs hs)) := hpm.flatMap_right _
  refine ⟨⟨fun q hq => ?_, hs', hfp.nodup_iff.mpr nd⟩, fun h hlt => ?_⟩
  · obtain ⟨h, hm, rfl⟩ := List.mem_map.mp (hpm.mem_iff.mp hq)
    have := hh h hm
    exact ⟨⟨by show (0 : Int) ≤ (h : Int); omega, by show (h : Int) < _; omega⟩, by show xs.getD ((h : Int)).toNat 0 = _; rw [Int.toNat_natCast]⟩
  · have := hj h hlt
    rw [Bool.or_eq_true, takB_flat, takB_flat] at this
    rw [Bool.or_eq_true, decide_eq_true_eq, decide_eq_true_eq, hfp.mem_iff, hfp.mem_iff]
    exact this
def spByOrder : Sp := fun vs H Q _ => ∃ (d : Addr) (n : Nat) (L : Led) (p : Addr) (xs : List Int), vs = [.ref d, .ref p] ∧ PtOk 60 xs ∧ n ≤ 2 ^ 59 ∧ (p, .tup (xs.map V.int)) ∈ L ∧ Kn d n L H ∧
  ∀ r bs ms L2 H', L.Sublist L2 → PairsAt L2 bs ms → PrdOk xs ms → Kn d (n + 60) ((r, .lst (bs.map V.ref)) :: L2) H' → Q (.ref r) H'
theorem ok_law_by_order {P : Program} {w : World} {K : PySem.W.Frag} {mg : Str → Option Value} {base : Heap} {k : Nat} {f a_law_roll : Addr} {fd fd_law_roll : FuncData} (D : Df K mg "_law_by_order" s_law_by_order ["dice", "pointing"] f fd) (D_law_roll : Df K mg "_law_roll" s_law_roll ["dice", "size"] a_law_roll fd_law_roll) (M : Bl mg) : FnOk P w K mg base CX0 (k + 1 + 1) f fd ["dice", "pointing"] spByOrder := by
  have G_law_roll := ok_law_roll (P := P) (w := w) (base := base) (k := 0) D_law_roll M
  refine D.F.ok sc_law_by_order (fun vs H Q E h => ?_) (fun cdv A outer s H vs Q E hr h => ?_)
  · obtain ⟨d, n, L, p, xs, rfl, _⟩ := h
    rfl
  obtain ⟨d, n0, L, p, xs, rfl, hp, hn, hpL, kn, q⟩ := h
  have h2 := hp.two
  have h60 := hp.most
  refine ⟨_, (pss_cons (ps_set (i := 2) sc_law_by_order.nd rfl (Or.inl rfl) (pe_listRg rfl (by rfl) M.list (prg_1 (by rfl) M.range (pe_callB c_len (by rfl) M.len PySem.boot_len (pa_cons (pv 1) pa_nil)))))
   (pss_cons (ps_set (i := 3) sc_law_by_order.nd rfl (Or.inl rfl) (pe_lst pa_nil))
   (pss_cons (ps_set (i := 4) sc_law_by_order.nd rfl (Or.inl rfl) (pe_lst pa_nil))
   (pss_cons (ps_while PassesOwn.never (pt_cmpR (op_neD hr.units) (pv 2) (pe_lst pa_nil) (nomark _))
    (pss_cons (ps_set (i := 5) sc_law_by_order.nd rfl (Or.inl rfl) (pe_bm PySem.F.plainAttrs_list PySem.F.slot_list_pop PySem.F.type_list_pop mt_popAt (pv 2) (pa_cons (pe_call G_law_roll (hr.mono (by omega)) (by rfl) D_law_roll.g D_law_roll.F.kp D_law_roll.b .nil pass0 (pa_cons (pv 0) (pa_cons (pe_callB c_len (by rfl) M.len PySem.boot_len (pa_cons (pv 2) pa_nil)) pa_nil))) pa_nil)))
    (pss_one (ps_if (PW.pt (pw_and (pt_cmpR op_notIn_seq (pv 5) (pv 3) (by rfl)) (pw_and1 (pt_cmpR op_notIn_seq (pe_ix ix_tup (pv 1) (pv 5) (fun _ _ => rfl)) (pv 3) (by rfl))))) (pss_cons (ps_expr (pe_bm PySem.F.plainAttrs_list PySem.F.slot_list_append PySem.F.type_list_append mt_append (pv 4) (pa_cons (pe_tup (pa_cons (pv 5) (pa_cons (pe_ix ix_tup (pv 1) (pv 5) (fun _ _ => rfl)) pa_nil))) pa_nil)))
     (pss_one (ps_set (i := 3) sc_law_by_order.nd rfl (Or.inl rfl) (pe_op op_cat (pv 3) (pe_lst (pa_cons (pv 5) (pa_cons (pe_ix ix_tup (pv 1) (pv 5) (fun _ _ => rfl)) pa_nil))))))) pss_nil))))
   (pss_one (ps_ret (pe_callB cr_sortedPO (by rfl) M.sorted (by decide +kernel) (pa_cons (pv 4) pa_nil)))))))), ?_⟩
  walk_at "go"
  refine kListRg (kRg1 ?_)
  walk_at "go"
  refine ⟨⟨by omega, by omega, by omega, by rw [List.length_map]; omega, by rw [List.length_map]; omega⟩, fun lf0 hlf => ?_⟩
  have hrg : rgV 0 (((xs.map V.int).length : Nat) : Int) = (vI (List.range xs.length)).map V.int := by
    unfold rgV
    rw [List.length_map, List.map_map]
    have e : ((xs.length : Int) - 0).toNat = xs.length := by omega
    rw [e]
    refine List.map_congr_left fun i _ => ?_
    simp
  rw [hrg]
  have kn2 := kn.new (o := .lst ((vI (List.range xs.length)).map V.int)) hlf
  walk_at "go"
  rename_i ta0 Ha ka fo0 H2 kn3
  refine kSeq (kWhile (fun m σ' H' => ∃ (lf fo ta : Addr) (lft hs : List Nat) (as : List Addr) (L2 : Led) (x5 : Option V), m = lft.length ∧ σ' = [some (.ref d), some (.ref p), some (.ref lf), some (.ref ta), some (.ref fo), x5] ∧ L.Sublist L2 ∧ (∀ h ∈ lft, h < xs.length) ∧ (∀ h ∈ hs, h < xs.length) ∧ hs.length + lft.length ≤ xs.length ∧
      (flatP (prOf xs hs)).Nodup ∧ (∀ h : Nat, h < xs.length → h ∈ lft ∨ (takB xs hs (h : Int) || takB xs hs (xs.getD h 0)) = true) ∧ PairsAt L2 as (prOf xs hs) ∧ (ta, HO.lst ((flatP (prOf xs hs)).map V.int)) ∈ L2 ∧ Kn d (n0 + (xs.length - lft.length)) ((lf, .lst ((vI lft).map V.int)) :: (fo, .lst (as.map V.ref)) :: L2) H') xs.length
    ⟨lf0, fo0, ta0, List.range xs.length, [], [], (ta0, HO.lst []) :: L, _, by rw [List.length_range], rfl, List.sublist_cons_self _ _, fun h hh => List.mem_range.mp hh, fun h hh => (List.not_mem_nil hh).elim, by rw [List.length_range, List.length_nil]; omega, List.nodup_nil, fun h hh => .inl (List.mem_range.mpr hh), .nil, List.mem_cons_self, (by rw [List.length_range]; exact (kn3.perm (((List.Perm.swap _ _ _).cons _).trans (List.Perm.swap _ _ _))).more (by omega))⟩ (fun m σ' H' hW => ?_) (fun σ1 H1 Q1 Q2 hm hh => neNil_mono _ _ _ _ hm hh))
  obtain ⟨lf, fo, ta, lft, hs, as, L2, x5, rfl, rfl, sL, hlt, hhs, hlen, nd, hj, hP, mta, kn4⟩ := hW
  walk_at "go"
  rename_i e0 H3 kn5
  refine kNeL (ys := []) (kn5.seqL (List.mem_cons_of_mem _ List.mem_cons_self)) (kn5.seqL List.mem_cons_self) ⟨_, rfl, ?_⟩
  have kn6 := kn5.tail
  cases hl : lft with
  | nil =>
    refine iteF ?_
    subst hl
    walk_at "go"
    refine kSortP (as := as) (ps := prOf xs hs) (L0 := L2) (kn6.seqL (List.mem_cons_of_mem _ List.mem_cons_self)) hP kn6 (fun y hy => List.mem_cons_of_mem _ (List.mem_cons_of_mem _ hy)) fun r bs ms H5 hP2 hpm hsr kn7 => ?_
    refine q r bs ms L2 _ sL hP2 (pr_done hp hhs nd (fun h hh => (hj h hh).elim (fun z => (List.not_mem_nil z).elim) id) hpm hsr) ((kn7.sub (((List.Sublist.refl _).cons _).cons _ |>.cons₂ _)).more (by omega))
  | cons u0 us0 =>
    rw [← hl]
    have hpos : 0 < lft.length := by rw [hl]; simp
    have hne : ¬ (vI lft = []) := fun e => by rw [List.map_eq_nil_iff] at e; rw [e] at hpos; exact absurd hpos (Nat.lt_irrefl _)
    rw [decide_eq_false hne]
    refine iteT ?_
    walk_at "go"
    rw [List.length_map, List.length_map]
    refine ⟨d, _, _, ((lft.length : Nat) : Int), rfl, by omega, log_small (by omega) (by omega), by omega, kn6, fun c H4 c0 c1 kn7 => ?_⟩
    walk_at "go"
    obtain ⟨j, rfl⟩ : ∃ j : Nat, c = (j : Int) := ⟨c.toNat, by omega⟩
    have hj0 : j < lft.length := by omega
    obtain ⟨g, hg⟩ : ∃ g, lft[j]? = some g := ⟨_, List.getElem?_eq_getElem hj0⟩
    have hgm : g ∈ lft := List.mem_of_getElem? hg
    have hgl := hlt g hgm
    have hgx : xs[g]? = some (xs.getD g 0) := by rw [List.getElem?_eq_getElem hgl, getD_of (List.getElem?_eq_getElem hgl)]
    have hgoal := hp.goal g _ hgx
    obtain ⟨er, her⟩ : ∃ er, er = lft.eraseIdx j := ⟨_, rfl⟩
    have hel : er.length = lft.length - 1 := by rw [her, List.length_eraseIdx_of_lt hj0]
    have hes : ∀ h ∈ er, h ∈ lft := fun h hh => by rw [her] at hh; exact List.mem_of_mem_eraseIdx hh
    have hem : ∀ h ∈ lft, h = g ∨ h ∈ er := fun h hh => by
      rw [her, List.eraseIdx_eq_take_drop_succ]
      have e : lft = lft.take (j + 1) ++ lft.drop (j + 1) := (List.take_append_drop _ _).symm
      rw [e, List.take_add_one, hg] at hh
      rcases List.mem_append.mp hh with hh | hh
      · rcases List.mem_append.mp hh with hh | hh
        · exact .inr (List.mem_append_left _ hh)
        · exact .inl (List.mem_singleton.mp hh)
      · exact .inr (List.mem_append_right _ hh)
    refine ⟨lf, _, (j : Int), j, V.int (g : Int), rfl, rfl, kn7.at 0 rfl, by omega, by omega, ?_, by rw [List.getElem?_map, List.getElem?_map, hg]; rfl, ?_⟩
    · rw [List.length_map, List.length_map]
      have hneg : ¬ ((j : Int) < 0) := by omega
      simp only [seqIndex?, if_neg hneg]
      rw [if_pos (by simp; omega)]
      simp
    · have kn8 := kn7.put 0 rfl (u := .lst ((vI er).map V.int))
      rw [erase_map, erase_map, ← her]
      have kn8 : Kn d (n0 + (xs.length - lft.length) + 1) ((lf, .lst ((vI er).map V.int)) :: (fo, .lst (as.map V.ref)) :: L2) (upd H4 lf (.lst ((vI er).map V.int))) := kn8
      generalize upd H4 lf (.lst ((vI er).map V.int)) = H5 at *
      have mta8 := List.mem_cons_of_mem (lf, HO.lst ((vI er).map V.int)) (List.mem_cons_of_mem (fo, HO.lst (as.map V.ref)) mta)
      have mp8 := List.mem_cons_of_mem (lf, HO.lst ((vI er).map V.int)) (List.mem_cons_of_mem (fo, HO.lst (as.map V.ref)) (sL.subset hpL))
      have out : (takB xs hs (g : Int) || takB xs hs (xs.getD g 0)) = true → ∀ (y5 : Option V), (fun σ' H' => ∃ m', m' < lft.length ∧ ∃ (lf fo ta : Addr) (lft hs : List Nat) (as : List Addr) (L2 : Led) (x5 : Option V), m' = lft.length ∧ σ' = [some (.ref d), some (.ref p), some (.ref lf), some (.ref ta), some (.ref fo), x5] ∧ L.Sublist L2 ∧ (∀ h ∈ lft, h < xs.length) ∧ (∀ h ∈ hs, h < xs.length) ∧ hs.length + lft.length ≤ xs.length ∧
          (flatP (prOf xs hs)).Nodup ∧ (∀ h : Nat, h < xs.length → h ∈ lft ∨ (takB xs hs (h : Int) || takB xs hs (xs.getD h 0)) = true) ∧ PairsAt L2 as (prOf xs hs) ∧ (ta, HO.lst ((flatP (prOf xs hs)).map V.int)) ∈ L2 ∧ Kn d (n0 + (xs.length - lft.length)) ((lf, .lst ((vI lft).map V.int)) :: (fo, .lst (as.map V.ref)) :: L2) H') [some (.ref d), some (.ref p), some (.ref lf), some (.ref ta), some (.ref fo), y5] H5 := fun ht y5 =>
        ⟨er.length, by omega, lf, fo, ta, er, hs, as, L2, y5, rfl, rfl, sL, fun h hh => hlt h (hes h hh), hhs, by omega, nd, fun h hh => by
          rcases hj h hh with z | z
          · rcases hem h z with rfl | z
            · exact .inr ht
            · exact .inl z
          · exact .inr z, hP, mta, kn8.more (by omega)⟩
      refine kIfS ?_
      walk_at "go"
      refine kNiL (kn8.seqL mta8) ⟨_, rfl, ?_⟩
      cases hc1 : decide ((g : Int) ∈ flatP (prOf xs hs)) with
      | true =>
        refine iteF ?_
        refine iteF ?_
        refine kNext (out ?_ _)
        rw [Bool.or_eq_true, takB_flat]
        exact .inl (of_decide_eq_true hc1)
      | false =>
        refine iteT ?_
        walk_at "go"
        refine kIxT (kn8.seqT mp8) (atI_nat (v := V.int (xs.getD g 0)) (by rw [List.getElem?_map, hgx]; rfl)) ?_
        walk_at "go"
        refine kNiL (kn8.seqL mta8) ⟨_, rfl, ?_⟩
        cases hc2 : decide (xs.getD g 0 ∈ flatP (prOf xs hs)) with
        | true =>
          refine iteF ?_
          refine kNext (out ?_ _)
          rw [Bool.or_eq_true, takB_flat, takB_flat]
          exact .inr (of_decide_eq_true hc2)
        | false =>
          refine iteT ?_
          walk_at "go"
          refine kIxT (kn8.seqT mp8) (atI_nat (v := V.int (xs.getD g 0)) (by rw [List.getElem?_map, hgx]; rfl)) ?_
          walk_at "go"
          rename_i tp H6 kn9
          have hal := hP.len
          have hol : (prOf xs hs).length = hs.length := by rw [prOf, List.length_map]
          refine kAppK kn9 2 rfl (by rw [List.length_map]; omega) fun H7 kn10 => ?_
          have kn10 : Kn d (n0 + (xs.length - lft.length) + 1) ((tp, HO.tup [V.int (g : Int), V.int (xs.getD g 0)]) :: (lf, HO.lst ((vI er).map V.int)) :: (fo, HO.lst (as.map V.ref ++ [V.ref tp])) :: L2) H7 := kn10
          have mp10 := List.mem_cons_of_mem (tp, HO.tup [V.int (g : Int), V.int (xs.getD g 0)]) (List.mem_cons_of_mem (lf, HO.lst ((vI er).map V.int)) (List.mem_cons_of_mem (fo, HO.lst (as.map V.ref ++ [V.ref tp])) (sL.subset hpL)))
          walk_at "go"
          refine kIxT (kn10.seqT mp10) (atI_nat (v := V.int (xs.getD g 0)) (by rw [List.getElem?_map, hgx]; rfl)) ?_
          walk_at "go"
          rename_i l2 H8 kn11
          have hfl := flatP_len (prOf xs hs)
          refine kCatK (xs := (flatP (prOf xs hs)).map V.int) (ys := [V.int (g : Int), V.int (xs.getD g 0)]) kn11 (List.mem_cons_of_mem _ (List.mem_cons_of_mem _ (List.mem_cons_of_mem _ (List.mem_cons_of_mem _ mta)))) List.mem_cons_self (by rw [List.length_map]; simp; omega) fun l3 H9 kn12 => ?_
          walk_at "go"
          have hn1 := of_decide_eq_false hc1
          have hn2 := of_decide_eq_false hc2
          have ef : flatP (prOf xs (hs ++ [g])) = flatP (prOf xs hs) ++ [(g : Int), xs.getD g 0] := by
            rw [prOf_app, flatP_app]
            rfl
          have em : (flatP (prOf xs hs)).map V.int ++ [V.int (g : Int), V.int (xs.getD g 0)] = (flatP (prOf xs (hs ++ [g]))).map V.int := by
            rw [ef, List.map_append]
            rfl
          rw [em] at kn12
          have up : ∀ k0 : Int, takB xs hs k0 = true → takB xs (hs ++ [g]) k0 = true := fun k0 h => by
            rw [takB_flat] at h ⊢
            rw [ef]
            exact List.mem_append_left _ h
          refine ⟨er.length, by omega, lf, fo, l3, er, hs ++ [g], as ++ [tp], (l3, HO.lst ((flatP (prOf xs (hs ++ [g]))).map V.int)) :: (l2, HO.lst [V.int (g : Int), V.int (xs.getD g 0)]) :: (tp, HO.tup [V.int (g : Int), V.int (xs.getD g 0)]) :: L2, _, rfl, rfl, ((sL.cons _).cons _).cons _, fun h hh => hlt h (hes h hh), fun h hh => ?_, by rw [List.length_append, List.length_singleton]; omega, ?_, fun h hh => ?_, ?_, List.mem_cons_self, ?_⟩
          · rcases List.mem_append.mp hh with hh | hh
            · exact hhs h hh
            · cases List.mem_singleton.mp hh
              exact hgl
          · rw [ef, List.nodup_append]
            refine ⟨nd, List.nodup_cons.mpr ⟨fun z => by have := List.mem_singleton.mp z; omega, List.nodup_cons.mpr ⟨List.not_mem_nil, List.nodup_nil⟩⟩, fun a ha b hb e => ?_⟩
            subst e
            simp only [List.mem_cons, List.not_mem_nil, or_false] at hb
            rcases hb with rfl | rfl
            · exact hn1 ha
            · exact hn2 ha
          · rcases hj h hh with z | z
            · rcases hem h z with rfl | z
              · exact .inr (by rw [Bool.or_eq_true]; exact .inl (takB_iff.mpr ⟨h, List.mem_append_right _ (List.mem_singleton.mpr rfl), .inl rfl⟩))
              · exact .inl z
            · rw [Bool.or_eq_true] at z ⊢
              exact .inr (z.imp (up _) (up _))
          · rw [prOf_app]
            exact (hP.up fun y hy => List.mem_cons_of_mem _ (List.mem_cons_of_mem _ (List.mem_cons_of_mem _ hy))).snoc (p := ((g : Int), xs.getD g 0)) (by simp)
          · rw [List.map_append]
            refine (kn12.perm ?_).more (by omega)
            exact List.perm_append_comm_assoc [(l3, HO.lst ((flatP (prOf xs (hs ++ [g]))).map V.int)), (l2, HO.lst [V.int (g : Int), V.int (xs.getD g 0)]), (tp, HO.tup [V.int (g : Int), V.int (xs.getD g 0)])] [(lf, HO.lst ((vI er).map V.int)), (fo, HO.lst (as.map V.ref ++ [V.ref tp]))] L2

/-! ### _law_odd -/
abbrev s_law_odd : Stmt := topS 42
theorem sc_law_odd : FnScope ["dice", "pointing", "n", "house", "after", "pair", "far", "some"] ["dice", "pointing"] (defScope s_law_odd) := ⟨rfl, rfl, rfl, by decide +kernel, rfl, by decide +kernel, by decide +kernel⟩
/-- what may stand within a pair -/
def El (L : Led) (y : V) : Prop := Dt L y ∧ Ds L 1 110 y
/-- what may stand in a row of pairs -/
def Iq (c : Nat) (L : Led) (x : V) : Prop := (∃ o, Tk L x o) ∧ Ds L 2 c x
theorem El.i {L : Led} {i : Int} (h0 : -(10 ^ 70) < i) (h1 : i < 10 ^ 70) : El L (.int i) := by
  have h := It.i (L := L) h0 h1
  exact ⟨h.1, .int (by
    cases h.2 with
    | int h _ => exact h) (by omega)⟩
theorem El.b {L : Led} {b : Bool} : El L (.bl b) := ⟨.bl _, .bl _ (by omega)⟩
theorem El.n {L : Led} : El L .non := ⟨.non, .non (by omega)⟩
theorem El.s {L : Led} {x : Str} (h : (reprText x).length ≤ 110) : El L (.str x) := ⟨.str _, .str h⟩
theorem El.l1 {L : Led} {a : Addr} {i : Int} (h : (a, .lst [V.int i]) ∈ L) (h0 : -(10 ^ 70) < i) (h1 : i < 10 ^ 70) : El L (.ref a) := ⟨.lst h, .lst h (c0 := 101) (fun x hx => by
  cases List.mem_singleton.mp hx
  have h := It.i (L := L) h0 h1
  cases h.2 with
  | int h _ => exact .int h (by omega)) (by simp)⟩
theorem El.t1 {L : Led} {a : Addr} {i : Int} (h : (a, .tup [V.int i]) ∈ L) (h0 : -(10 ^ 70) < i) (h1 : i < 10 ^ 70) : El L (.ref a) := ⟨.tup h, .tup h (c0 := 101) (fun x hx => by
  cases List.mem_singleton.mp hx
  have h := It.i (L := L) h0 h1
  cases h.2 with
  | int h _ => exact .int h (by omega)) (by simp)⟩
theorem Iq.tup {L : Led} {a : Addr} {ys : List V} (h : (a, .tup ys) ∈ L) (hd : ∀ y ∈ ys, El L y) (z : ys.length ≤ 4) : Iq 500 L (.ref a) := ⟨⟨_, .tup h fun y hy => (hd y hy).1⟩, (Ds.tup h (fun y hy => (hd y hy).2) (Nat.le_refl _)).more (by omega) (by omega)⟩
theorem Iq.p2 {L : Led} {a : Addr} {y z : V} (h : (a, .tup [y, z]) ∈ L) (h1 : El L y) (h2 : El L z) : Iq 500 L (.ref a) := .tup h (fun x hx => by
  simp only [List.mem_cons, List.not_mem_nil, or_false] at hx
  rcases hx with rfl | rfl
  · exact h1
  · exact h2) (by simp)
theorem Iq.lst {L : Led} {a : Addr} {ys : List V} (h : (a, .lst ys) ∈ L) (hd : ∀ y ∈ ys, El L y) (z : ys.length ≤ 4) : Iq 500 L (.ref a) := ⟨⟨_, .lst h⟩, (Ds.lst h (fun y hy => (hd y hy).2) (Nat.le_refl _)).more (by omega) (by omega)⟩
theorem Iq.mono {c : Nat} {L L' : Led} {v : V} (h : Iq c L v) (s : L.Sublist L') : Iq c L' v := ⟨h.1.imp fun o h => h.mono fun _ hq => s.subset hq, h.2.mono fun _ hq => s.subset hq⟩
theorem kVarR {r : V → Hp → VK → Prop} {te : TE} {σ : L2.St} {H : Hp} {Q : VK} (h : te σ H fun x H1 => r x H1 Q) : tRevT r te σ H Q := h
theorem kCatTn {d : Addr} {n : Nat} {L : Led} {H : Hp} {Q : VK} {K : PySem.W.Frag} {a b : Addr} {xs ys : List V} (kn : Kn d n L H) (h1 : (a, .tup xs) ∈ L) (h2 : (b, .tup ys) ∈ L) (n1 : xs ≠ []) (n2 : ys ≠ []) (z : xs.length + ys.length ≤ 100000) (q : ∀ r H', Kn d n ((r, .tup (xs ++ ys)) :: L) H' → Q (.ref r) H') : rCatT K (.ref a) (.ref b) H Q :=
  ⟨a, b, xs, ys, rfl, rfl, kn.seqT h1, kn.seqT h2, n1, szL z, fun e => (n2 e).elim, fun _ p hp => q p _ (kn.new hp)⟩
theorem kListT2 {d : Addr} {n : Nat} {L : Led} {H : Hp} {Q : VK} {K : PySem.W.Frag} {a : Addr} {xs : List V} (kn : Kn d n L H) (h1 : (a, .tup xs) ∈ L) (q : ∀ r H', Kn d n ((r, .lst xs) :: L) H' → Q (.ref r) H') : rList2 K [.ref a] H Q :=
  ⟨a, xs, rfl, .inr (kn.seqT h1), fun l hl => q l _ (kn.new hl)⟩
theorem at_neg1 {xs : List Int} {m : Int} (hp : PtOk m xs) : ∃ z, atI (xs.map V.int) (-1) = some (.int z) ∧ 0 ≤ z ∧ z < xs.length := by
  have h2 := hp.two
  obtain ⟨ys, z, rfl⟩ : ∃ ys z, xs = ys ++ [z] := by
    have hne : xs ≠ [] := fun e => by rw [e] at h2; exact absurd h2 (by decide)
    exact ⟨xs.dropLast, xs.getLast hne, (List.dropLast_concat_getLast hne).symm⟩
  have := hp.goal ys.length z (by rw [List.getElem?_append_right (Nat.le_refl _), Nat.sub_self]; rfl)
  exact ⟨z, atLast ys z, this.1, this.2.1⟩
theorem at_j {xs : List Int} {m : Int} (hp : PtOk m xs) {j : Nat} (hj : j < xs.length) : ∃ z, atI (xs.map V.int) (j : Int) = some (.int z) ∧ 0 ≤ z ∧ z < xs.length := by
  have := hp.goal j _ (List.getElem?_eq_getElem hj)
  exact ⟨xs[j], atI_nat (by rw [List.getElem?_map, List.getElem?_eq_getElem hj]; rfl), this.1, this.2.1⟩
def spOdd : Sp := fun vs H Q _ => ∃ (d : Addr) (n : Nat) (L : Led) (p : Addr) (xs : List Int), vs = [.ref d, .ref p] ∧ PtOk 60 xs ∧ n ≤ 2 ^ 59 ∧ (p, .tup (xs.map V.int)) ∈ L ∧ Kn d n L H ∧
  ∀ v L2 H', L.Sublist L2 → Iq 500 L2 v → Kn d (n + 6) L2 H' → Q v H'
theorem ok_law_odd {P : Program} {w : World} {K : PySem.W.Frag} {mg : Str → Option Value} {base : Heap} {k : Nat} {f a_law_roll : Addr} {fd fd_law_roll : FuncData} (D : Df K mg "_law_odd" s_law_odd ["dice", "pointing"] f fd) (D_law_roll : Df K mg "_law_roll" s_law_roll ["dice", "size"] a_law_roll fd_law_roll) (M : Bl mg) : FnOk P w K mg base CX0 (k + 1 + 1) f fd ["dice", "pointing"] spOdd := by
  have G_law_roll := ok_law_roll (P := P) (w := w) (base := base) (k := 0) D_law_roll M
  refine D.F.ok sc_law_odd (fun vs H Q E h => ?_) (fun cdv A outer s H vs Q E hr h => ?_)
  · obtain ⟨d, n, L, p, xs, rfl, _⟩ := h
    rfl
  obtain ⟨d, n0, L, p, xs, rfl, hp, hn, hpL, kn, q⟩ := h
  have h2 := hp.two
  have h60 := hp.most
  refine ⟨_, (pss_cons (ps_set (i := 2) sc_law_odd.nd rfl (Or.inl rfl) (pe_callB c_len (by rfl) M.len PySem.boot_len (pa_cons (pv 1) pa_nil)))
   (pss_cons (ps_set (i := 3) sc_law_odd.nd rfl (Or.inl rfl) (pe_call G_law_roll (hr.mono (by omega)) (by rfl) D_law_roll.g D_law_roll.F.kp D_law_roll.b .nil pass0 (pa_cons (pv 0) (pa_cons (pv 2) pa_nil))))
   (pss_cons (ps_set (i := 4) sc_law_odd.nd rfl (Or.inl rfl) (pe_ix ix_tup (pv 1) (pv 3) (fun _ _ => rfl)))
   (pss_cons (ps_set (i := 5) sc_law_odd.nd rfl (Or.inl rfl) (pe_tup (pa_cons (pv 3) (pa_cons (pv 4) pa_nil))))
   (pss_cons (ps_set (i := 6) sc_law_odd.nd rfl (Or.inl rfl) (pe_ix ix_list (pe_lst (pa_cons (pe_op op_add (pv 2) (pe_call G_law_roll (hr.mono (by omega)) (by rfl) D_law_roll.g D_law_roll.F.kp D_law_roll.b .nil pass0 (pa_cons (pv 0) (pa_cons (pe_op op_pow pe_int pe_int) pa_nil)))) (pa_cons (pe_op op_sub (pe_un un_neg pe_int) (pe_call G_law_roll (hr.mono (by omega)) (by rfl) D_law_roll.g D_law_roll.F.kp D_law_roll.b .nil pass0 (pa_cons (pv 0) (pa_cons (pe_op op_pow pe_int pe_int) pa_nil)))) pa_nil))) (pe_call G_law_roll (hr.mono (by omega)) (by rfl) D_law_roll.g D_law_roll.F.kp D_law_roll.b .nil pass0 (pa_cons (pv 0) (pa_cons pe_int pa_nil))) (fun _ _ => rfl)))
   (pss_cons (ps_set (i := 7) sc_law_odd.nd rfl (Or.inl rfl) (pe_lst (pa_cons (pv 5) (pa_cons (pe_revtup (pv 5)) (pa_cons (pe_tup (pa_cons (pv 3) (pa_cons (pe_op op_mod (pe_op op_add (pv 3) pe_int) (pv 2)) pa_nil))) (pa_cons (pe_tup (pa_cons (pv 3) pa_nil)) (pa_cons (pe_op op_catT (pv 5) (pe_tup (pa_cons pe_int pa_nil))) (pa_cons (pe_callTy c_list (by rfl) M.list (by decide +kernel) (pa_cons (pv 5) pa_nil)) (pa_cons pe_non (pa_cons (pe_tup (pa_cons pe_bl (pa_cons pe_int pa_nil))) (pa_cons (pe_tup (pa_cons pe_int (pa_cons pe_bl pa_nil))) pa_nil)))))))))))
   (pss_cons (ps_set (i := 7) sc_law_odd.nd rfl (Or.inl rfl) (pe_op op_cat (pv 7) (pe_lst (pa_cons (pe_tup (pa_cons (pe_un un_neg pe_int) (pa_cons (pe_ix ix_tup (pv 1) (pe_un un_neg pe_int) (fun _ _ => rfl)) pa_nil))) (pa_cons (pe_tup (pa_cons (pv 2) (pa_cons pe_int pa_nil))) (pa_cons (pe_tup (pa_cons (pv 3) (pa_cons (pe_op op_pow pe_int pe_int) pa_nil))) (pa_cons (pe_tup (pa_cons (pe_op op_sub pe_int (pe_op op_pow pe_int pe_int)) (pa_cons pe_int pa_nil))) (pa_cons (pe_tup (pa_cons pe_str (pa_cons pe_int pa_nil))) (pa_cons (pe_tup (pa_cons pe_bl (pa_cons (pe_ix ix_tup (pv 1) pe_int (fun _ _ => rfl)) pa_nil))) (pa_cons (pe_tup pa_nil) pa_nil))))))))))
   (pss_cons (ps_set (i := 7) sc_law_odd.nd rfl (Or.inl rfl) (pe_op op_cat (pv 7) (pe_lst (pa_cons (pe_tup (pa_cons (pv 3) (pa_cons pe_non pa_nil))) (pa_cons (pe_tup (pa_cons (pv 3) (pa_cons pe_str pa_nil))) (pa_cons (pe_tup (pa_cons (pv 3) (pa_cons (pe_lst (pa_cons pe_int pa_nil)) pa_nil))) (pa_cons (pe_tup (pa_cons (pv 3) (pa_cons (pe_tup (pa_cons pe_int pa_nil)) pa_nil))) (pa_cons (pv 3) (pa_cons pe_bl (pa_cons pe_str (pa_cons (pe_tup (pa_cons (pv 3) (pa_cons pe_bl pa_nil))) pa_nil)))))))))))
   (pss_cons (ps_set (i := 7) sc_law_odd.nd rfl (Or.inl rfl) (pe_op op_cat (pv 7) (pe_lst (pa_cons (pe_tup (pa_cons pe_bl (pa_cons (pe_ix ix_tup (pv 1) pe_int (fun _ _ => rfl)) pa_nil))) (pa_cons (pe_tup (pa_cons pe_non (pa_cons (pv 4) pa_nil))) (pa_cons (pe_tup (pa_cons (pe_lst (pa_cons (pv 3) pa_nil)) (pa_cons (pv 4) pa_nil))) (pa_cons (pe_tup (pa_cons (pe_tup (pa_cons (pv 3) pa_nil)) (pa_cons (pv 4) pa_nil))) (pa_cons (pe_tup (pa_cons (pv 3) (pa_cons (pe_lst (pa_cons (pv 4) pa_nil)) pa_nil))) pa_nil))))))))
   (pss_cons (ps_set (i := 7) sc_law_odd.nd rfl (Or.inl rfl) (pe_op op_cat (pv 7) (pe_lst (pa_cons (pe_tup (pa_cons pe_bl (pa_cons pe_bl pa_nil))) (pa_cons (pe_tup (pa_cons pe_bl (pa_cons pe_bl pa_nil))) (pa_cons (pe_tup (pa_cons pe_non (pa_cons pe_non pa_nil))) (pa_cons (pe_tup (pa_cons pe_str (pa_cons pe_str pa_nil))) pa_nil)))))))
   (pss_one (ps_ret (pe_ix ix_list (pe_op op_cat (pv 7) (pe_lst (pa_cons (pe_tup (pa_cons (pv 6) (pa_cons pe_int pa_nil))) (pa_cons (pe_tup (pa_cons (pv 3) (pa_cons (pv 6) pa_nil))) (pa_cons (pe_tup (pa_cons (pv 3) (pa_cons pe_bl pa_nil))) pa_nil))))) (pe_call G_law_roll (hr.mono (by omega)) (by rfl) D_law_roll.g D_law_roll.F.kp D_law_roll.b .nil pass0 (pa_cons (pv 0) (pa_cons pe_int pa_nil))) (fun _ _ => rfl)))))))))))))), ?_⟩
  walk_at "go"
  rw [List.length_map]
  walk_at "go"
  refine ⟨d, n0, _, ((xs.length : Nat) : Int), rfl, by omega, log_small (by omega) (by omega), by omega, kn, fun c H1 c0 cn kn1 => ?_⟩
  obtain ⟨g, rfl⟩ : ∃ g : Nat, c = (g : Int) := ⟨c.toNat, by omega⟩
  obtain ⟨z, hz, hz0, hz1⟩ := at_j hp (show g < xs.length by omega)
  walk_at "go"
  refine kIxT (kn1.seqT hpL) hz ?_
  walk_at "go"
  rename_i pa Ha ka
  refine ⟨d, _, _, _, rfl, by decide +kernel, by decide +kernel, by omega, ka, fun c2 H2 c20 c21 kn2 => ?_⟩
  walk_at "go"
  refine ⟨d, _, _, _, rfl, by decide +kernel, by decide +kernel, by omega, kn2, fun c3 H3 c30 c31 kn3 => ?_⟩
  walk_at "go"
  rename_i lf Hb kb
  refine ⟨d, _, _, 2, rfl, by omega, by decide, by omega, kb, fun c4 H4 c40 c41 kn4 => ?_⟩
  obtain ⟨far, hfar, hfm⟩ := atMem (es := [(xs.length : Int) + c2, -1 - c3]) c40 (by simpa using c41)
  refine kIxL (kn4.seqL List.mem_cons_self) hfar ?_
  walk_at "go"
  have hfar : -(10 ^ 70) < far ∧ far < 10 ^ 70 := by
    have e59 : (10 : Int) ^ Int.toNat 59 = 10 ^ 59 := rfl
    rw [e59] at c21 c31
    simp only [List.mem_cons, List.not_mem_nil, or_false] at hfm
    rcases hfm with rfl | rfl
    · exact ⟨by omega, by omega⟩
    · exact ⟨by omega, by omega⟩
  have kn5 := kn4.tail
  refine kVarR ?_
  walk_at "go"
  refine kRevT kn5 List.mem_cons_self fun r1 H5 kn6 => ?_
  walk_at "go"
  rename_i t3 Hc kc t4 Hd kd t5 He ke
  refine kCatTn (xs := [V.int (g : Int), V.int z]) (ys := [V.int 0]) ke (by walk_at "mem") List.mem_cons_self (by simp) (by simp) (by simp) fun r2 H6 kn7 => ?_
  walk_at "go"
  refine kListT2 (xs := [V.int (g : Int), V.int z]) kn7 (by walk_at "mem") fun r3 H7 kn8 => ?_
  walk_at "go"
  rename_i t6 _ _ t7 _ _ m1 H8 kn9
  have gi : -(10 ^ 70) < (g : Int) ∧ (g : Int) < 10 ^ 70 := ⟨by omega, by omega⟩
  have zi : -(10 ^ 70) < z ∧ z < 10 ^ 70 := ⟨by omega, by omega⟩
  obtain ⟨LA, sA, o1, hl1, hI1, mA, kn9⟩ : ∃ LA : Led, L.Sublist LA ∧ ∃ o1 : List V, o1.length = 9 ∧ (∀ x ∈ o1, Iq 500 LA x) ∧ (m1, .lst o1) ∈ LA ∧ Kn d (n0 + 4) LA H8 := by
    refine ⟨_, ?_, _, ?_, fun x hx => ?_, List.mem_cons_self, kn9⟩
    · repeat (first | exact List.Sublist.refl _ | refine List.Sublist.cons _ ?_)
    · rfl
    · have hm := Int.emod_nonneg ((g : Int) + 1) (show (xs.length : Int) ≠ 0 by omega)
      have hm2 := Int.emod_lt_of_pos ((g : Int) + 1) (show (0 : Int) < xs.length by omega)
      simp only [List.mem_cons, List.not_mem_nil, or_false] at hx
      rcases hx with rfl | rfl | rfl | rfl | rfl | rfl | rfl | rfl | rfl
      case _ => exact .p2 (y := V.int (g : Int)) (z := V.int z) (by walk_at "mem") (.i gi.1 gi.2) (.i zi.1 zi.2)
      case _ => exact .p2 (y := V.int z) (z := V.int (g : Int)) (by walk_at "mem") (.i zi.1 zi.2) (.i gi.1 gi.2)
      case _ => exact .p2 (y := V.int (g : Int)) (z := V.int (((g : Int) + 1) % (xs.length : Int))) (by walk_at "mem") (.i gi.1 gi.2) (.i (by omega) (by omega))
      case _ => exact .tup (ys := [V.int (g : Int)]) (by walk_at "mem") (fun y hy => by cases List.mem_singleton.mp hy; exact .i gi.1 gi.2) (by simp)
      case _ =>
        refine .tup (ys := [V.int (g : Int), V.int z] ++ [V.int 0]) (by walk_at "mem") (fun y hy => ?_) (by simp)
        simp only [List.cons_append, List.nil_append, List.mem_cons, List.not_mem_nil, or_false] at hy
        rcases hy with rfl | rfl | rfl
        · exact .i gi.1 gi.2
        · exact .i zi.1 zi.2
        · exact .i (by decide +kernel) (by decide +kernel)
      case _ =>
        refine .lst (ys := [V.int (g : Int), V.int z]) (by walk_at "mem") (fun y hy => ?_) (by simp)
        simp only [List.mem_cons, List.not_mem_nil, or_false] at hy
        rcases hy with rfl | rfl
        · exact .i gi.1 gi.2
        · exact .i zi.1 zi.2
      case _ => exact ⟨⟨_, .non⟩, .non (by omega)⟩
      case _ => exact .p2 (y := V.bl true) (z := V.int 0) (by walk_at "mem") .b (.i (by decide +kernel) (by decide +kernel))
      case _ => exact .p2 (y := V.int 0) (z := V.bl true) (by walk_at "mem") (.i (by decide +kernel) (by decide +kernel)) .b
  have hpA := sA.subset hpL
  obtain ⟨zl, hzl, zl0, zl1⟩ := at_neg1 hp
  obtain ⟨za, hza, za0, za1⟩ : ∃ z, atI (xs.map V.int) 0 = some (.int z) ∧ 0 ≤ z ∧ z < xs.length := at_j hp (j := 0) (by omega)
  obtain ⟨zb, hzb, zb0, zb1⟩ : ∃ z, atI (xs.map V.int) 1 = some (.int z) ∧ 0 ≤ z ∧ z < xs.length := at_j hp (j := 1) (by omega)
  refine kIxT (kn9.seqT hpA) hzl ?_
  walk_at "go"
  rename_i u1 _ _ u2 _ _ u3 _ _ u4 _ _ u5 Hf kf
  refine kIxT (kf.seqT (by walk_at "mem")) hza ?_
  walk_at "go"
  rename_i u6 _ _ u7 _ _ l2 Hg kg
  refine kCatK (xs := o1) kg (by walk_at "mem") List.mem_cons_self (by simp; omega) fun m2 H9 kn10 => ?_
  have i0 : El (L := LA) (V.int 0) := .i (by decide +kernel) (by decide +kernel)
  have small : ∀ {L2 : Led} {i : Int}, -1000 < i → i < 1000 → El L2 (.int i) := fun h1 h2 => .i (by omega) (by omega)
  obtain ⟨LB, sB, o2, hl2, hI2, mB, kn10⟩ : ∃ LB : Led, L.Sublist LB ∧ ∃ o2 : List V, o2.length = 16 ∧ (∀ x ∈ o2, Iq 500 LB x) ∧ (m2, .lst o2) ∈ LB ∧ Kn d (n0 + 4) LB H9 := by
    refine ⟨_, sA.trans ?_, _, ?_, fun x hx => ?_, List.mem_cons_self, kn10⟩
    · repeat (first | exact List.Sublist.refl _ | refine List.Sublist.cons _ ?_)
    · rw [List.length_append, hl1]
      rfl
    · rcases List.mem_append.mp hx with hx | hx
      · exact (hI1 x hx).mono (by repeat (first | exact List.Sublist.refl _ | refine List.Sublist.cons _ ?_))
      · simp only [List.mem_cons, List.not_mem_nil, or_false] at hx
        rcases hx with rfl | rfl | rfl | rfl | rfl | rfl | rfl
        case _ => exact .p2 (y := V.int (-1)) (z := V.int zl) (by walk_at "mem") (small (by omega) (by omega)) (small (by omega) (by omega))
        case _ => exact .p2 (y := V.int (xs.length : Int)) (z := V.int 0) (by walk_at "mem") (small (by omega) (by omega)) (small (by omega) (by omega))
        case _ => exact .p2 (y := V.int (g : Int)) (z := V.int (10 ^ Int.toNat 59)) (by walk_at "mem") (small (by omega) (by omega)) (.i (by decide +kernel) (by decide +kernel))
        case _ => exact .p2 (y := V.int (0 - 10 ^ Int.toNat 59)) (z := V.int 0) (by walk_at "mem") (.i (by decide +kernel) (by decide +kernel)) (small (by omega) (by omega))
        case _ => exact .p2 (y := V.str (Str.ofString "0")) (z := V.int 1) (by walk_at "mem") (.s (by decide +kernel)) (small (by omega) (by omega))
        case _ => exact .p2 (y := V.bl false) (z := V.int za) (by walk_at "mem") .b (small (by omega) (by omega))
        case _ => exact .tup (ys := []) (by walk_at "mem") (fun y hy => (List.not_mem_nil hy).elim) (by simp)
  have hpB := sB.subset hpL
  walk_at "go"
  rename_i w1 _ _ w2 _ _ w3 _ _ w4 _ _ w5 _ _ w6 _ _ w7 _ _ l3 Hh kh
  refine kCatK (xs := o2) kh (by walk_at "mem") List.mem_cons_self (by simp; omega) fun m3 H10 kn11 => ?_
  obtain ⟨LC, sC, o3, hl3, hI3, mC, kn11⟩ : ∃ LN : Led, L.Sublist LN ∧ ∃ oN : List V, oN.length = 24 ∧ (∀ x ∈ oN, Iq 500 LN x) ∧ (m3, .lst oN) ∈ LN ∧ Kn d (n0 + 4) LN H10 := by
    refine ⟨_, sB.trans ?_, _, ?_, fun x hx => ?_, List.mem_cons_self, kn11⟩
    · repeat (first | exact List.Sublist.refl _ | refine List.Sublist.cons _ ?_)
    · rw [List.length_append, hl2]
      rfl
    · rcases List.mem_append.mp hx with hx | hx
      · exact (hI2 x hx).mono (by repeat (first | exact List.Sublist.refl _ | refine List.Sublist.cons _ ?_))
      · simp only [List.mem_cons, List.not_mem_nil, or_false] at hx
        rcases hx with rfl | rfl | rfl | rfl | rfl | rfl | rfl | rfl
        case _ => exact .p2 (y := V.int (g : Int)) (z := V.non) (by walk_at "mem") (small (by omega) (by omega)) .n
        case _ => exact .p2 (y := V.int (g : Int)) (z := V.str (Str.ofString "0")) (by walk_at "mem") (small (by omega) (by omega)) (.s (by decide +kernel))
        case _ => exact .p2 (y := V.int (g : Int)) (z := V.ref w3) (by walk_at "mem") (small (by omega) (by omega)) (.l1 (i := 0) (by walk_at "mem") (by decide +kernel) (by decide +kernel))
        case _ => exact .p2 (y := V.int (g : Int)) (z := V.ref w5) (by walk_at "mem") (small (by omega) (by omega)) (.t1 (i := 0) (by walk_at "mem") (by decide +kernel) (by decide +kernel))
        case _ => exact ⟨⟨_, .int _⟩, .int (Nat.lt_of_le_of_lt (show ((g : Int)).natAbs ≤ 60 by omega) (by decide +kernel)) (by omega)⟩
        case _ => exact ⟨⟨_, .bl _⟩, .bl _ (by omega)⟩
        case _ => exact ⟨⟨_, .str _⟩, .str (by decide +kernel)⟩
        case _ => exact .p2 (y := V.int (g : Int)) (z := V.bl false) (by walk_at "mem") (small (by omega) (by omega)) .b
  have hpC := sC.subset hpL
  walk_at "go"
  refine kIxT (kn11.seqT hpC) hzb ?_
  walk_at "go"
  rename_i v1 _ _ v2 _ _ v3 _ _ v4 _ _ v5 _ _ v6 _ _ v7 _ _ v8 _ _ l4 Hi ki
  refine kCatK (xs := o3) ki (by walk_at "mem") List.mem_cons_self (by simp; omega) fun m4 H11 kn12 => ?_
  obtain ⟨LD, sD, o4, hl4, hI4, mD, kn12⟩ : ∃ LN : Led, L.Sublist LN ∧ ∃ oN : List V, oN.length = 29 ∧ (∀ x ∈ oN, Iq 500 LN x) ∧ (m4, .lst oN) ∈ LN ∧ Kn d (n0 + 4) LN H11 := by
    refine ⟨_, sC.trans ?_, _, ?_, fun x hx => ?_, List.mem_cons_self, kn12⟩
    · repeat (first | exact List.Sublist.refl _ | refine List.Sublist.cons _ ?_)
    · rw [List.length_append, hl3]
      rfl
    · rcases List.mem_append.mp hx with hx | hx
      · exact (hI3 x hx).mono (by repeat (first | exact List.Sublist.refl _ | refine List.Sublist.cons _ ?_))
      · simp only [List.mem_cons, List.not_mem_nil, or_false] at hx
        rcases hx with rfl | rfl | rfl | rfl | rfl
        case _ => exact .p2 (y := V.bl true) (z := V.int zb) (by walk_at "mem") .b (small (by omega) (by omega))
        case _ => exact .p2 (y := V.non) (z := V.int z) (by walk_at "mem") .n (small (by omega) (by omega))
        case _ => exact .p2 (y := V.ref v3) (z := V.int z) (by walk_at "mem") (.l1 (i := (g : Int)) (by walk_at "mem") gi.1 gi.2) (small (by omega) (by omega))
        case _ => exact .p2 (y := V.ref v5) (z := V.int z) (by walk_at "mem") (.t1 (i := (g : Int)) (by walk_at "mem") gi.1 gi.2) (small (by omega) (by omega))
        case _ => exact .p2 (y := V.int (g : Int)) (z := V.ref v7) (by walk_at "mem") (small (by omega) (by omega)) (.l1 (i := z) (by walk_at "mem") zi.1 zi.2)
  walk_at "go"
  rename_i r4 _ _ r5 _ _ r6 _ _ r7 _ _ l5 Hj kj
  refine kCatK (xs := o4) kj (by walk_at "mem") List.mem_cons_self (by simp; omega) fun m5 H12 kn13 => ?_
  obtain ⟨LE, sE, o5, hl5, hI5, mE, kn13⟩ : ∃ LN : Led, L.Sublist LN ∧ ∃ oN : List V, oN.length = 33 ∧ (∀ x ∈ oN, Iq 500 LN x) ∧ (m5, .lst oN) ∈ LN ∧ Kn d (n0 + 4) LN H12 := by
    refine ⟨_, sD.trans ?_, _, ?_, fun x hx => ?_, List.mem_cons_self, kn13⟩
    · repeat (first | exact List.Sublist.refl _ | refine List.Sublist.cons _ ?_)
    · rw [List.length_append, hl4]
      rfl
    · rcases List.mem_append.mp hx with hx | hx
      · exact (hI4 x hx).mono (by repeat (first | exact List.Sublist.refl _ | refine List.Sublist.cons _ ?_))
      · simp only [List.mem_cons, List.not_mem_nil, or_false] at hx
        rcases hx with rfl | rfl | rfl | rfl
        case _ => exact .p2 (y := V.bl false) (z := V.bl true) (by walk_at "mem") .b .b
        case _ => exact .p2 (y := V.bl true) (z := V.bl false) (by walk_at "mem") .b .b
        case _ => exact .p2 (y := V.non) (z := V.non) (by walk_at "mem") .n .n
        case _ => exact .p2 (y := V.str (Str.ofString "0")) (z := V.str (Str.ofString "1")) (by walk_at "mem") (.s (by decide +kernel)) (.s (by decide +kernel))
  walk_at "go"
  rename_i q1 _ _ q2 _ _ q3 _ _ l6 Hk kk
  refine kCatK (xs := o5) kk (by walk_at "mem") List.mem_cons_self (by simp; omega) fun m6 H13 kn14 => ?_
  obtain ⟨LF, sF, o6, hl6, hI6, mF, kn14⟩ : ∃ LN : Led, L.Sublist LN ∧ ∃ oN : List V, oN.length = 36 ∧ (∀ x ∈ oN, Iq 500 LN x) ∧ (m6, .lst oN) ∈ LN ∧ Kn d (n0 + 4) LN H13 := by
    refine ⟨_, sE.trans ?_, _, ?_, fun x hx => ?_, List.mem_cons_self, kn14⟩
    · repeat (first | exact List.Sublist.refl _ | refine List.Sublist.cons _ ?_)
    · rw [List.length_append, hl5]
      rfl
    · rcases List.mem_append.mp hx with hx | hx
      · exact (hI5 x hx).mono (by repeat (first | exact List.Sublist.refl _ | refine List.Sublist.cons _ ?_))
      · simp only [List.mem_cons, List.not_mem_nil, or_false] at hx
        rcases hx with rfl | rfl | rfl
        case _ => exact .p2 (y := V.int far) (z := V.int 0) (by walk_at "mem") (.i hfar.1 hfar.2) (small (by omega) (by omega))
        case _ => exact .p2 (y := V.int (g : Int)) (z := V.int far) (by walk_at "mem") (small (by omega) (by omega)) (.i hfar.1 hfar.2)
        case _ => exact .p2 (y := V.int (g : Int)) (z := V.bl true) (by walk_at "mem") (small (by omega) (by omega)) .b
  walk_at "go"
  refine ⟨d, _, _, 36, rfl, by omega, by decide, by omega, kn14, fun c6 H14 c60 c61 kn15 => ?_⟩
  obtain ⟨v, hv, hgv⟩ := atGood (R := Iq 500) hI6 c60 (by rw [hl6]; exact c61)
  refine kIxL (kn15.seqL mF) hv ?_
  exact q _ LF _ sF hgv (kn15.more (by omega))

/-! ### _law_bent -/
abbrev s_law_bent : Stmt := topS 43
theorem sc_law_bent : FnScope ["dice", "pointing", "good", "way", "n", "at", "house", "pair", "one", "some"] ["dice", "pointing", "good"] (defScope s_law_bent) := ⟨rfl, rfl, rfl, by decide +kernel, rfl, by decide +kernel, by decide +kernel⟩
/-- a thing -/
inductive Gq (L : Led) : V → Prop where
  | lst {a : Addr} {xs : List V} (h : (a, .lst xs) ∈ L) (hd : ∀ x ∈ xs, Iq 7000 L x) (z : xs.length ≤ 10000) (c : Ds L 3 9000000 (.ref a)) : Gq L (.ref a)
  | oth {v : V} (h : Lq L v none) (c : Ds L 3 9000000 v) : Gq L v
theorem Iq.big {L : Led} {x : V} (h : Iq 500 L x) : Iq 7000 L x := ⟨h.1, h.2.more (Nat.le_refl _) (by omega)⟩
theorem Gq.l5 {L : Led} {a : Addr} {xs : List V} (h : (a, .lst xs) ∈ L) (hd : ∀ x ∈ xs, Iq 500 L x) (z : xs.length ≤ 10000) : Gq L (.ref a) :=
  .lst h (fun x hx => (hd x hx).big) z ((Ds.lst h (fun x hx => (hd x hx).2) (Nat.le_refl _)).more (by omega) (by omega))
theorem Gq.l7 {L : Led} {a : Addr} {xs : List V} (h : (a, .lst xs) ∈ L) (hd : ∀ x ∈ xs, Iq 7000 L x) (z : xs.length ≤ 600) : Gq L (.ref a) :=
  .lst h hd (by omega) ((Ds.lst h (fun x hx => (hd x hx).2) (Nat.le_refl _)).more (by omega) (by omega))
theorem Gq.tp {L : Led} {a : Addr} {xs : List V} (h : (a, .tup xs) ∈ L) (hd : ∀ x ∈ xs, Iq 500 L x) (z : xs.length ≤ 10000) : Gq L (.ref a) :=
  .oth (.tup h) ((Ds.tup h (fun x hx => (hd x hx).2) (Nat.le_refl _)).more (by omega) (by omega))
theorem Lq.mono {L L' : Led} {v : V} {o : Option (List (Option (List V)))} (h : Lq L v o) (s : ∀ q ∈ L, q ∈ L') : Lq L' v o := by
  cases h with
  | lst h e ds z => exact .lst (s _ h) e (fun i x o h1 h2 => (ds i x o h1 h2).mono s) z
  | tup h => exact .tup (s _ h)
  | non => exact .non
  | bl b => exact .bl b
  | int i => exact .int i
  | str x => exact .str x
theorem Gq.mono {L L' : Led} {v : V} (h : Gq L v) (s : L.Sublist L') : Gq L' v := by
  cases h with
  | lst h hd z c => exact .lst (s.subset h) (fun x hx => (hd x hx).mono s) z (c.mono fun _ hq => s.subset hq)
  | oth h c => exact .oth (h.mono fun _ hq => s.subset hq) (c.mono fun _ hq => s.subset hq)
theorem mem_cutV {xs : List V} {lo hi : Option Int} {x : V} (h : x ∈ cutV xs lo hi) : x ∈ xs := by
  unfold cutV at h
  exact List.mem_of_mem_drop (List.mem_of_mem_take h)
theorem mem_rep {xs : List V} {k : Nat} {x : V} (h : x ∈ (List.replicate k xs).flatten) : x ∈ xs := by
  obtain ⟨l, hl, hx⟩ := List.mem_flatten.mp h
  rw [(List.mem_replicate.mp hl).2] at hx
  exact hx
theorem rep_len {xs : List V} {k : Nat} : ((List.replicate k xs).flatten).length = k * xs.length := by
  rw [List.length_flatten, List.map_replicate, List.sum_replicate_nat]
theorem kRevLx {K : PySem.W.Frag} {te : TE} {σ : L2.St} {H : Hp} {Q : VK} (h : te σ H fun x H1 => ∃ a xs, x = .ref a ∧ SqL K H1 a xs ∧ ∀ p, H1 p = none → Q (.ref p) (upd H1 p (.lst xs.reverse))) : tRevL K te σ H Q := h
theorem kLcSrc {K : PySem.W.Frag} {σ : L2.St} {H : Hp} {Q : VK} {te0 te : TE} {tt : TT} {g : TG} {vs : List Nat} (h : te0 σ H fun x H1 => tLc (iList K (tC x)) g tt te vs σ H1 Q) : tLc (iList K te0) g tt te vs σ H Q := h
theorem pairs_of {L : Led} {fs : List (Addr × (Int × Int))} (h : ∀ e ∈ fs, (e.1, HO.tup [V.int e.2.1, V.int e.2.2]) ∈ L) : PairsAt L (fs.map (·.1)) (fs.map (·.2)) := by
  refine ⟨by rw [List.length_map, List.length_map], fun i a p h1 h2 => ?_⟩
  rw [List.getElem?_map] at h1 h2
  cases e : fs[i]? with
  | none => rw [e] at h1; cases h1
  | some x =>
    rw [e] at h1 h2
    cases h1
    cases h2
    exact h x (List.mem_of_getElem? e)
/-- a good row of pairs, with the places where they stand -/
structure Gz (L : Led) (zs : List (Addr × (Int × Int))) : Prop where
  few : zs.length ≤ 30
  at_ : ∀ e ∈ zs, (e.1, HO.tup [V.int e.2.1, V.int e.2.2]) ∈ L
  bnd : ∀ e ∈ zs, (-1000 < e.2.1 ∧ e.2.1 < 1000) ∧ (-1000 < e.2.2 ∧ e.2.2 < 1000)
abbrev zR (zs : List (Addr × (Int × Int))) : List V := (zs.map (·.1)).map V.ref
theorem small {L : Led} {i : Int} (h1 : -1000 < i) (h2 : i < 1000) : El L (.int i) := .i (by omega) (by omega)
theorem Gz.it {L : Led} {zs : List (Addr × (Int × Int))} (h : Gz L zs) : ∀ x ∈ zR zs, Iq 500 L x := fun x hx => by
  obtain ⟨a, ha, rfl⟩ := List.mem_map.mp hx
  obtain ⟨e, he, rfl⟩ := List.mem_map.mp ha
  have hb := h.bnd e he
  exact .p2 (h.at_ e he) (small hb.1.1 hb.1.2) (small hb.2.1 hb.2.2)
theorem pairs_it {L : Led} {bs : List Addr} {ps : List (Int × Int)} (h : PairsAt L bs ps) (hb : ∀ e ∈ ps, (-1000 < e.1 ∧ e.1 < 1000) ∧ (-1000 < e.2 ∧ e.2 < 1000)) : ∀ x ∈ bs.map V.ref, Iq 500 L x := fun x hx => by
  obtain ⟨b, hb1, rfl⟩ := List.mem_map.mp hx
  obtain ⟨i, hi⟩ := List.getElem?_of_mem hb1
  have hl := h.len
  have hi2 := (List.getElem?_eq_some_iff.mp hi).1
  have e : ps[i]? = some (ps[i]'(by omega)) := List.getElem?_eq_getElem (by omega)
  have hbb := hb _ (List.mem_of_getElem? e)
  exact .p2 (h.at_ i b _ hi e) (small hbb.1.1 hbb.1.2) (small hbb.2.1 hbb.2.2)
theorem Gz.mono {L L' : Led} {zs : List (Addr × (Int × Int))} (h : Gz L zs) (s : L.Sublist L') : Gz L' zs := ⟨h.few, fun e he => s.subset (h.at_ e he), h.bnd⟩
def spBent : Sp := fun vs H Q _ => ∃ (d : Addr) (n : Nat) (L : Led) (p g : Addr) (xs : List Int) (zs : List (Addr × (Int × Int))), vs = [.ref d, .ref p, .ref g] ∧ PtOk 60 xs ∧ n ≤ 2 ^ 58 ∧ (p, .tup (xs.map V.int)) ∈ L ∧ Gz L zs ∧ (g, .lst (zR zs)) ∈ L ∧ Kn d n L H ∧
  ∀ v L2 H', L.Sublist L2 → Gq L2 v → Kn d (n + 10) L2 H' → Q v H'
theorem ok_law_bent {P : Program} {w : World} {K : PySem.W.Frag} {mg : Str → Option Value} {base : Heap} {k : Nat} {f a_law_roll a_law_odd : Addr} {fd fd_law_roll fd_law_odd : FuncData} (D : Df K mg "_law_bent" s_law_bent ["dice", "pointing", "good"] f fd) (D_law_roll : Df K mg "_law_roll" s_law_roll ["dice", "size"] a_law_roll fd_law_roll) (D_law_odd : Df K mg "_law_odd" s_law_odd ["dice", "pointing"] a_law_odd fd_law_odd) (M : Bl mg) : FnOk P w K mg base CX0 (k + 1 + 1 + 1) f fd ["dice", "pointing", "good"] spBent := by
  have G_law_roll := ok_law_roll (P := P) (w := w) (base := base) (k := 0) D_law_roll M
  have G_law_odd := ok_law_odd (P := P) (w := w) (base := base) (k := 0) D_law_odd D_law_roll M
  refine D.F.ok sc_law_bent (fun vs H Q E h => ?_) (fun cdv A outer s H vs Q E hr h => ?_)
  · obtain ⟨d, n, L, p, g, xs, zs, rfl, _⟩ := h
    rfl
  obtain ⟨d, n0, L, p, g, xs, zs, rfl, hp, hn, hpL, hz, hg, kn, q⟩ := h
  have h2 := hp.two
  have h60 := hp.most
  have hzl : (zR zs).length = zs.length := by rw [List.length_map, List.length_map]
  have hfew := hz.few
  refine ⟨_, (pss_cons (ps_set (i := 3) sc_law_bent.nd rfl (Or.inl rfl) (pe_call G_law_roll (hr.mono (by omega)) (by rfl) D_law_roll.g D_law_roll.F.kp D_law_roll.b .nil pass0 (pa_cons (pv 0) (pa_cons pe_int pa_nil))))
   (pss_cons (ps_set (i := 4) sc_law_bent.nd rfl (Or.inl rfl) (pe_callB c_len (by rfl) M.len PySem.boot_len (pa_cons (pv 1) pa_nil)))
   (pss_cons (ps_set (i := 5) sc_law_bent.nd rfl (Or.inl rfl) (pe_call G_law_roll (hr.mono (by omega)) (by rfl) D_law_roll.g D_law_roll.F.kp D_law_roll.b .nil pass0 (pa_cons (pv 0) (pa_cons (pe_op op_add (pe_callB c_len (by rfl) M.len PySem.boot_len (pa_cons (pv 2) pa_nil)) pe_int) pa_nil))))
   (pss_cons (ps_set (i := 6) sc_law_bent.nd rfl (Or.inr rfl) (pe_call G_law_roll (hr.mono (by omega)) (by rfl) D_law_roll.g D_law_roll.F.kp D_law_roll.b .nil pass0 (pa_cons (pv 0) (pa_cons (pv 4) pa_nil))))
   (pss_cons (ps_set (i := 7) sc_law_bent.nd rfl (Or.inl rfl) (pe_tup (pa_cons (pv 6) (pa_cons (pe_ix ix_tup (pv 1) (pv 6) (fun _ _ => rfl)) pa_nil))))
   (pss_cons (ps_set (i := 8) sc_law_bent.nd rfl (Or.inl rfl) (pe_call G_law_odd (hr.mono (by omega)) (by rfl) D_law_odd.g D_law_odd.F.kp D_law_odd.b .nil pass0 (pa_cons (pv 0) (pa_cons (pv 1) pa_nil))))
   (pss_cons (ps_if (pt_cmpR op_eq (pv 3) pe_int (nomark _)) (pss_one (ps_ret (pe_op op_cat (pe_slice sl_list (pv 2) po_none (po_some (pv 5))) (pe_slice sl_list (pv 2) (po_some (pe_op op_add (pv 5) pe_int)) po_none)))) pss_nil)
   (pss_cons (ps_if (pt_cmpR op_eq (pv 3) pe_int (nomark _)) (pss_one (ps_ret (pe_op op_cat (pe_op op_cat (pe_slice sl_list (pv 2) po_none (po_some (pv 5))) (pe_lst (pa_cons (pv 8) pa_nil))) (pe_slice sl_list (pv 2) (po_some (pv 5)) po_none)))) pss_nil)
   (pss_cons (ps_if (pt_cmpR op_eq (pv 3) pe_int (nomark _)) (pss_one (ps_ret (pe_op op_cat (pe_op op_cat (pe_slice sl_list (pv 2) po_none (po_some (pv 5))) (pe_lst (pa_cons (pv 8) pa_nil))) (pe_slice sl_list (pv 2) (po_some (pe_op op_add (pv 5) pe_int)) po_none)))) pss_nil)
   (pss_cons (ps_if (pt_cmpR op_eq (pv 3) pe_int (nomark _)) (pss_one (ps_ret (pe_callB cr_sortedPO (by rfl) M.sorted (by decide +kernel) (pa_cons (pe_op op_cat (pv 2) (pe_lst (pa_cons (pv 7) pa_nil))) pa_nil)))) pss_nil)
   (pss_cons (ps_if (pt_cmpR op_eq (pv 3) pe_int (nomark _)) (pss_one (ps_ret (pe_ix ix_list (pe_lst (pa_cons (pe_callTy c_tuple (by rfl) M.tuple (by decide +kernel) (pa_cons (pv 2) pa_nil)) (pa_cons (pe_revL (pv 2)) (pa_cons (pe_op op_rep (pv 2) pe_int) (pa_cons pe_non (pa_cons pe_int (pa_cons (pe_tup pa_nil) (pa_cons pe_str (pa_cons (pe_lst (pa_cons (pv 2) pa_nil)) (pa_cons (pe_lst pa_nil) pa_nil)))))))))) (pe_call G_law_roll (hr.mono (by omega)) (by rfl) D_law_roll.g D_law_roll.F.kp D_law_roll.b .nil pass0 (pa_cons (pv 0) (pa_cons pe_int pa_nil))) (fun _ _ => rfl)))) pss_nil)
   (pss_cons (ps_if (pt_cmpR op_eq (pv 3) pe_int (nomark _)) (pss_one (ps_ret (pe_callB cr_sortedPO (by rfl) M.sorted (by decide +kernel) (pa_cons (pe_op op_cat (pe_lc (own := [("some", 9)]) (g := gName 9) (by rfl) sc_law_bent.nd (pi_list (pv 2)) (blkOk_by (own := [("some", 9)]) (N := ["dice", "pointing", "good", "way", "n", "at", "house", "pair", "one", "some"]) (sc := defScope s_law_bent) (by decide +kernel)) (fun _ _ _ _ _ => (pg_name (i := 9) sc_law_bent.nd rfl (Or.inl rfl))) (fun _ _ _ _ _ => (pts_one (pt_cmpR (niQ (K := K) rfl) (pv 6) (pv 9) (by rfl)))) (fun _ _ _ _ _ => (pv 9))) (pe_lst (pa_cons (pv 7) pa_nil))) pa_nil)))) pss_nil)
   (pss_one (ps_ret (pe_op op_cat (pe_op op_cat (pe_slice sl_list (pv 2) po_none (po_some (pv 5))) (pe_lc (own := [("some", 9)]) (g := gName 9) (by rfl) sc_law_bent.nd (pi_list (pe_slice sl_list (pv 2) (po_some (pv 5)) (po_some (pe_op op_add (pv 5) pe_int)))) (blkOk_by (own := [("some", 9)]) (N := ["dice", "pointing", "good", "way", "n", "at", "house", "pair", "one", "some"]) (sc := defScope s_law_bent) (by decide +kernel)) (fun _ _ _ _ _ => (pg_name (i := 9) sc_law_bent.nd rfl (Or.inl rfl))) (fun _ _ _ _ _ => pts_nil) (fun _ _ _ _ _ => ((pe_revtupQ (K := K) rfl) (pv 9))))) (pe_slice sl_list (pv 2) (po_some (pe_op op_add (pv 5) pe_int)) po_none)))))))))))))))), ?_⟩
  walk_at "go"
  refine ⟨d, n0, _, 7, rfl, by omega, by decide, by omega, kn, fun way H1 w0 w7 kn1 => ?_⟩
  walk_at "go"
  have hxl : (xs.map V.int).length = xs.length := List.length_map _
  rw [hxl, hzl]
  refine ⟨d, _, _, ((zs.length : Nat) : Int) + 1, rfl, by omega, log_small (by omega) (by omega), by omega, kn1, fun at0 H2 a0 an kn2 => ?_⟩
  walk_at "go"
  refine ⟨d, _, _, ((xs.length : Nat) : Int), rfl, by omega, log_small (by omega) (by omega), by omega, kn2, fun hs H3 hs0 hsn kn3 => ?_⟩
  obtain ⟨j, rfl⟩ : ∃ j : Nat, hs = (j : Int) := ⟨hs.toNat, by omega⟩
  obtain ⟨z, hzj, hz0, hz1⟩ := at_j hp (show j < xs.length by omega)
  walk_at "go"
  refine kIxT (kn3.seqT hpL) hzj ?_
  walk_at "go"
  rename_i pa H4 kn4
  refine ⟨d, _, _, p, xs, rfl, hp, by omega, List.mem_cons_of_mem _ hpL, kn4, fun one L3 H5 s3' hio kn5 => ?_⟩
  have mpa := s3'.subset (List.mem_cons_self (a := (pa, HO.tup [V.int (j : Int), V.int z])) (l := L))
  have s3 : L.Sublist L3 := (List.sublist_cons_self _ _).trans s3'
  have hz3 := hz.mono s3
  have hg3 := s3.subset hg
  have hc : ∀ lo hi, (cutV (zR zs) lo hi).length ≤ 60 := fun lo hi => by
    have := cutV_length (zR zs) lo hi
    omega
  have t100 : (100 : Int).toNat = 100 := rfl
  have cu1 := hc none (some at0)
  have cu2 := hc (some (at0 + 1)) none
  have cu3 := hc (some at0) none
  have cu4 := hc (some at0) (some (at0 + 1))
  have hit := hz3.it
  refine kSeq (kIfS ?_)
  walk_at "go"
  refine iteD (fun hw => ?_) (fun hw => ?_)
  · walk_at "go"
    rename_i l1 Ha ka l2 Hb kb
    refine kCatK kb (List.mem_cons_of_mem _ List.mem_cons_self) List.mem_cons_self (by omega) fun l3 H4 kn4 => ?_
    have up : ∀ x, Iq 500 L3 x → Iq 500 ((l3, HO.lst (cutV (zR zs) none (some at0) ++ cutV (zR zs) (some (at0 + 1)) none)) :: (l2, HO.lst (cutV (zR zs) (some (at0 + 1)) none)) :: (l1, HO.lst (cutV (zR zs) none (some at0))) :: L3) x := fun x h => h.mono (((List.sublist_cons_self _ _).cons _).cons _)
    refine q _ _ _ (s3.trans (((List.sublist_cons_self _ _).cons _).cons _)) (.l5 List.mem_cons_self (fun x hx => ?_) (by rw [List.length_append]; omega)) (kn4.more (by omega))
    rcases List.mem_append.mp hx with hx | hx
    · exact up x (hit x (mem_cutV hx))
    · exact up x (hit x (mem_cutV hx))
  · refine kNext ?_
    refine kSeq (kIfS ?_)
    walk_at "go"
    refine iteD (fun hw => ?_) (fun hw => ?_)
    · walk_at "go"
      rename_i l1 Ha ka l2 Hb kb
      refine kCatK (ys := [one]) kb (List.mem_cons_of_mem _ List.mem_cons_self) List.mem_cons_self (by simp only [List.length_cons, List.length_nil]; omega) fun l3 H4 kn4 => ?_
      walk_at "go"
      rename_i l4 Hc kc
      refine kCatK kc (List.mem_cons_of_mem _ List.mem_cons_self) List.mem_cons_self (by rw [List.length_append]; simp only [List.length_cons, List.length_nil]; omega) fun l5 H5 kn5 => ?_
      refine q _ _ _ (s3.trans (by repeat (first | exact List.Sublist.refl _ | refine List.Sublist.cons _ ?_))) (.l5 List.mem_cons_self (fun x hx => ?_) (by rw [List.length_append, List.length_append]; simp only [List.length_cons, List.length_nil]; omega)) (kn5.more (by omega))
      rcases List.mem_append.mp hx with hx | hx
      · rcases List.mem_append.mp hx with hx | hx
        · exact (hit x (mem_cutV hx)).mono (by repeat (first | exact List.Sublist.refl _ | refine List.Sublist.cons _ ?_))
        · cases List.mem_singleton.mp hx
          exact hio.mono (by repeat (first | exact List.Sublist.refl _ | refine List.Sublist.cons _ ?_))
      · exact (hit x (mem_cutV hx)).mono (by repeat (first | exact List.Sublist.refl _ | refine List.Sublist.cons _ ?_))
    · refine kNext ?_
      refine kSeq (kIfS ?_)
      walk_at "go"
      refine iteD (fun hw => ?_) (fun hw => ?_)
      · walk_at "go"
        rename_i l1 Ha ka l2 Hb kb
        refine kCatK (ys := [one]) kb (List.mem_cons_of_mem _ List.mem_cons_self) List.mem_cons_self (by simp only [List.length_cons, List.length_nil]; omega) fun l3 H4 kn4 => ?_
        walk_at "go"
        rename_i l4 Hc kc
        refine kCatK kc (List.mem_cons_of_mem _ List.mem_cons_self) List.mem_cons_self (by rw [List.length_append]; simp only [List.length_cons, List.length_nil]; omega) fun l5 H5 kn5 => ?_
        refine q _ _ _ (s3.trans (by repeat (first | exact List.Sublist.refl _ | refine List.Sublist.cons _ ?_))) (.l5 List.mem_cons_self (fun x hx => ?_) (by rw [List.length_append, List.length_append]; simp only [List.length_cons, List.length_nil]; omega)) (kn5.more (by omega))
        rcases List.mem_append.mp hx with hx | hx
        · rcases List.mem_append.mp hx with hx | hx
          · exact (hit x (mem_cutV hx)).mono (by repeat (first | exact List.Sublist.refl _ | refine List.Sublist.cons _ ?_))
          · cases List.mem_singleton.mp hx
            exact hio.mono (by repeat (first | exact List.Sublist.refl _ | refine List.Sublist.cons _ ?_))
        · exact (hit x (mem_cutV hx)).mono (by repeat (first | exact List.Sublist.refl _ | refine List.Sublist.cons _ ?_))
      · refine kNext ?_
        refine kSeq (kIfS ?_)
        walk_at "go"
        refine iteD (fun hw => ?_) (fun hw => ?_)
        · walk_at "go"
          rename_i l1 Ha ka
          refine kCatK ka (List.mem_cons_of_mem _ hg3) List.mem_cons_self (by rw [hzl]; simp only [List.length_cons, List.length_nil]; omega) fun l2 H5 kn6 => ?_
          walk_at "go"
          have ez : zR zs ++ [V.ref pa] = (((zs ++ [(pa, ((j : Int), z))]).map (·.1)).map V.ref : List V) := by simp
          refine kSortP (as := (zs ++ [(pa, ((j : Int), z))]).map (·.1)) (ps := (zs ++ [(pa, ((j : Int), z))]).map (·.2)) (L0 := L3) (by rw [← ez]; exact kn6.seqL List.mem_cons_self) (pairs_of fun e he => ?_) kn6 (fun y hy => List.mem_cons_of_mem _ (List.mem_cons_of_mem _ hy)) fun r bs ps' H8 hP hpm _ kn9 => ?_
          · rcases List.mem_append.mp he with he | he
            · exact hz3.at_ e he
            · cases List.mem_singleton.mp he
              exact mpa
          · have hbl := hP.len
            have hpl := hpm.length_eq
            rw [List.length_map, List.length_append, List.length_singleton] at hpl
            refine q _ _ _ (s3.trans (by repeat (first | exact List.Sublist.refl _ | refine List.Sublist.cons _ ?_))) (.l5 List.mem_cons_self (fun x hx => (pairs_it hP (fun e he => ?_) x hx).mono (by repeat (first | exact List.Sublist.refl _ | refine List.Sublist.cons _ ?_))) (by rw [List.length_map]; omega)) (kn9.more (by omega))
            obtain ⟨e', he', rfl⟩ := List.mem_map.mp (hpm.mem_iff.mp he)
            rcases List.mem_append.mp he' with he' | he'
            · exact hz3.bnd e' he'
            · cases List.mem_singleton.mp he'
              exact ⟨⟨by show (-1000 : Int) < (j : Int); omega, by show (j : Int) < 1000; omega⟩, by show (-1000 : Int) < z; omega, by show z < 1000; omega⟩
        · refine kNext ?_
          refine kSeq (kIfS ?_)
          walk_at "go"
          refine iteD (fun hw => ?_) (fun hw => ?_)
          · walk_at "go"
            rename_i t1 Ha ka
            refine kRevLx ?_
            walk_at "go"
            refine ⟨g, _, rfl, ka.seqL (List.mem_cons_of_mem _ hg3), fun l2 hl2 => ?_⟩
            have kb := ka.new (o := .lst (zR zs).reverse) hl2
            walk_at "go"
            refine kRepK kb (List.mem_cons_of_mem _ (List.mem_cons_of_mem _ hg3)) (by omega) (by omega) (by rw [hzl, t100]; omega) fun l3 H5 kn5 => ?_
            obtain ⟨rp, hrp⟩ : ∃ rp, rp = (List.replicate (100 : Int).toNat (zR zs)).flatten := ⟨_, rfl⟩
            rw [← hrp] at kn5
            walk_at "go"
            rename_i t2 Hc kc l4 Hd kd l5 He ke l6 Hf kf
            refine ⟨d, _, _, 9, rfl, by omega, by decide, by omega, kf, fun c1 H6 c10 c11 kn6 => ?_⟩
            obtain ⟨L4, hs4, ox, hol, hg4, hm4, kn7⟩ : ∃ L4 : Led, L3.Sublist L4 ∧ ∃ ox : List V, ox.length = 9 ∧ (∀ x ∈ ox, Gq L4 x) ∧ (l6, .lst ox) ∈ L4 ∧ Kn d (n0 + 10) L4 H6 := by
              refine ⟨_, ?_, _, ?_, fun x hx => ?_, List.mem_cons_self, kn6.more (by omega)⟩
              · repeat (first | exact List.Sublist.refl _ | refine List.Sublist.cons _ ?_)
              · rfl
              · have hit4 : ∀ {X : Led}, L3.Sublist X → ∀ x ∈ zR zs, Iq 500 X x := fun sx x hx => (hit x hx).mono sx
                simp only [List.mem_cons, List.not_mem_nil, or_false] at hx
                rcases hx with rfl | rfl | rfl | rfl | rfl | rfl | rfl | rfl | rfl
                case _ => exact .tp (xs := zR zs) (by walk_at "mem") (hit4 (by repeat (first | exact List.Sublist.refl _ | refine List.Sublist.cons _ ?_))) (by rw [hzl]; omega)
                case _ => exact .l5 (xs := (zR zs).reverse) (by walk_at "mem") (fun x hx => hit4 (by repeat (first | exact List.Sublist.refl _ | refine List.Sublist.cons _ ?_)) x (List.mem_reverse.mp hx)) (by rw [List.length_reverse, hzl]; omega)
                case _ => exact .l5 (xs := rp) (by walk_at "mem") (fun x hx => hit4 (by repeat (first | exact List.Sublist.refl _ | refine List.Sublist.cons _ ?_)) x (mem_rep (by rw [← hrp]; exact hx))) (by rw [hrp, rep_len, hzl, t100]; omega)
                case _ => exact .oth .non (.non (by omega))
                case _ => exact .oth (.int _) (.int (by decide +kernel) (by omega))
                case _ => exact .tp (xs := []) (by walk_at "mem") (fun x hx => (List.not_mem_nil hx).elim) (by decide)
                case _ => exact .oth (.str _) (.str (by decide +kernel))
                case _ =>
                  refine .l7 (xs := [V.ref g]) (by walk_at "mem") (fun x hx => ?_) (by simp)
                  cases List.mem_singleton.mp hx
                  have hgX : ∀ {X : Led}, L3.Sublist X → Iq 7000 X (.ref g) := fun sx => ⟨⟨_, .lst (sx.subset hg3)⟩, .lst (c0 := 209) (sx.subset hg3) (fun y hy => ?_) (by rw [hzl]; omega)⟩
                  · exact hgX (by repeat (first | exact List.Sublist.refl _ | refine List.Sublist.cons _ ?_))
                  · obtain ⟨b, hb1, rfl⟩ := List.mem_map.mp hy
                    obtain ⟨e, he, rfl⟩ := List.mem_map.mp hb1
                    have hbb := hz3.bnd e he
                    refine .tup (sx.subset (hz3.at_ e he)) (c0 := 101) (fun y hy => ?_) (by simp)
                    simp only [List.mem_cons, List.not_mem_nil, or_false] at hy
                    rcases hy with rfl | rfl
                    · exact .int (Nat.lt_of_le_of_lt (show e.2.1.natAbs ≤ 1000 by omega) (by decide +kernel)) (by omega)
                    · exact .int (Nat.lt_of_le_of_lt (show e.2.2.natAbs ≤ 1000 by omega) (by decide +kernel)) (by omega)
                case _ => exact .l5 (xs := []) (by walk_at "mem") (fun x hx => (List.not_mem_nil hx).elim) (by decide)
            obtain ⟨v, hv, hgv⟩ := atGood (R := Gq) hg4 c10 (by rw [hol]; exact c11)
            show rIxL _ _ _ _ _
            refine kIxL (kn7.seqL hm4) hv ?_
            exact q _ L4 _ (s3.trans hs4) hgv kn7
          · refine kNext ?_
            refine kSeq (kIfS ?_)
            walk_at "go"
            refine iteD (fun hw => ?_) (fun hw => ?_)
            · walk_at "go"
              obtain ⟨pr, hpr⟩ : ∃ pr : Addr × (Int × Int) → Bool, ∀ e, pr e = !decide ((j : Int) ∈ ([e.2.1, e.2.2] : List Int)) := ⟨_, fun _ => rfl⟩
              refine kLcL (p := g) (xs := zR zs) kn5 hg3 (fun R hR => by walk_at "go"; exact hR) (by rw [hzl]; omega) (fun u => zR ((zs.take u).filter pr)) rfl (fun u => by rw [List.length_map, List.length_map]; exact Nat.le_trans (List.length_filter_le _ _) (by rw [List.length_take]; omega)) (fun _ => rfl) (fun u x H6 D2 hx kn10 N1 N2 h1 h2 => ?_) fun D2 H6 kn10 => ?_
              · obtain ⟨e, he, rfl⟩ : ∃ e, zs[u]? = some e ∧ x = V.ref e.1 := by
                  rw [List.getElem?_map, List.getElem?_map] at hx
                  cases e0 : zs[u]? with
                  | none => rw [e0] at hx; cases hx
                  | some e => rw [e0] at hx; exact ⟨e, rfl, (Option.some.inj hx).symm⟩
                have st : ∀ b : Bool, pr e = b → zR ((zs.take (u + 1)).filter pr) = zR ((zs.take u).filter pr) ++ (if b = true then [V.ref e.1] else []) := fun b hb => by
                  rw [List.take_add_one, he, Option.toList_some, List.filter_append, zR, List.map_append, List.map_append, List.filter_cons, hb, List.filter_nil]
                  cases b <;> rfl
                walk_at "go"
                refine kNiT2 (ns := [e.2.1, e.2.2]) (kn10.seqT (List.mem_cons_of_mem _ (hz3.at_ e (List.mem_of_getElem? he)))) ⟨_, rfl, ?_⟩
                rw [← hpr]
                cases hb : pr e with
                | true =>
                  refine iteT ?_
                  walk_at "go"
                  exact h1 _ _ kn10 (st _ hb)
                | false =>
                  refine iteF ?_
                  refine h2 _ kn10 ?_
                  rw [st _ hb]
                  exact List.append_nil _
              · rw [hzl, List.take_of_length_le (Nat.le_refl _)] at kn10
                have hfl : (zs.filter pr).length ≤ 60 := Nat.le_trans (List.length_filter_le _ _) (by omega)
                have hfz : (zR (zs.filter pr)).length ≤ 60 := by rw [List.length_map, List.length_map]; exact hfl
                walk_at "go"
                rename_i l5 Hc kc
                refine kCatK kc (List.mem_cons_of_mem _ List.mem_cons_self) List.mem_cons_self (by simp only [List.length_cons, List.length_nil]; omega) fun l6 H7 kn11 => ?_
                walk_at "go"
                have ez : zR (zs.filter pr) ++ [V.ref pa] = (((zs.filter pr ++ [(pa, ((j : Int), z))]).map (·.1)).map V.ref : List V) := by simp
                refine kSortP (as := (zs.filter pr ++ [(pa, ((j : Int), z))]).map (·.1)) (ps := (zs.filter pr ++ [(pa, ((j : Int), z))]).map (·.2)) (L0 := L3) (by rw [← ez]; exact kn11.seqL List.mem_cons_self) (pairs_of fun e he => ?_) kn11 (fun y hy => List.mem_cons_of_mem _ (List.mem_cons_of_mem _ (List.mem_cons_of_mem _ hy))) fun r bs ps' H8 hP hpm _ kn9 => ?_
                · rcases List.mem_append.mp he with he | he
                  · exact hz3.at_ e (List.mem_filter.mp he).1
                  · cases List.mem_singleton.mp he
                    exact mpa
                · have hbl := hP.len
                  have hpl := hpm.length_eq
                  rw [List.length_map, List.length_append, List.length_singleton] at hpl
                  refine q _ _ _ (s3.trans (by repeat (first | exact List.Sublist.refl _ | refine List.Sublist.cons _ ?_))) (.l5 List.mem_cons_self (fun x hx => (pairs_it hP (fun e he => ?_) x hx).mono (by repeat (first | exact List.Sublist.refl _ | refine List.Sublist.cons _ ?_))) (by rw [List.length_map]; omega)) (kn9.more (by omega))
                  obtain ⟨e', he', rfl⟩ := List.mem_map.mp (hpm.mem_iff.mp he)
                  rcases List.mem_append.mp he' with he' | he'
                  · exact hz3.bnd e' (List.mem_filter.mp he').1
                  · cases List.mem_singleton.mp he'
                    exact ⟨⟨by show (-1000 : Int) < (j : Int); omega, by show (j : Int) < 1000; omega⟩, by show (-1000 : Int) < z; omega, by show z < 1000; omega⟩
            · refine kNext ?_
              walk_at "go"
              refine kLcSrc ?_
              walk_at "go"
              rename_i l1 Ha ka l2 Hb kb
              refine kLcLS (p := l2) (xs := cutV (zR zs) (some at0) (some (at0 + 1))) kb List.mem_cons_self (fun R hR => hR) (by omega) (fun i acc m L2 => m = n0 + 1 + 1 + 1 + 6 ∧ acc.length = i ∧ (∀ x ∈ acc, Iq 500 L2 x) ∧ ((l2, HO.lst (cutV (zR zs) (some at0) (some (at0 + 1)))) :: (l1, HO.lst (cutV (zR zs) none (some at0))) :: L3).Sublist L2) ⟨rfl, rfl, fun x hx => (List.not_mem_nil hx).elim, List.Sublist.refl _⟩ (fun i l m L2 h => ⟨by omega, h.2.2.2.subset List.mem_cons_self⟩) (fun _ => rfl) (fun i x H' D acc m L2 hx hS kn1 N1 N2 h1' _ => ?_) (fun D acc m L2 H' hS kn1 => ?_)
              · obtain ⟨rfl, hal, hacc, hsb⟩ := hS
                obtain ⟨a1, ha1, rfl⟩ := List.mem_map.mp (mem_cutV (List.mem_of_getElem? hx))
                obtain ⟨e, he, rfl⟩ := List.mem_map.mp ha1
                have hbb := hz3.bnd e he
                have hme := hsb.subset (List.mem_cons_of_mem (l2, HO.lst (cutV (zR zs) (some at0) (some (at0 + 1)))) (List.mem_cons_of_mem (l1, HO.lst (cutV (zR zs) none (some at0))) (hz3.at_ e he)))
                refine kYes (iteT ?_)
                refine kVarR ?_
                walk_at "go"
                refine kRevT kn1 (List.mem_cons_of_mem _ hme) fun r H8 kn8 => ?_
                refine h1' _ _ _ ((r, HO.tup [V.int e.2.2, V.int e.2.1]) :: L2) ⟨rfl, by rw [List.length_append, hal]; rfl, fun x hx => ?_, hsb.cons _⟩ (kn8.perm (List.Perm.swap _ _ _))
                rcases List.mem_append.mp hx with hx | hx
                · exact (hacc x hx).mono (List.sublist_cons_self _ _)
                · cases List.mem_singleton.mp hx
                  exact .p2 (y := V.int e.2.2) (z := V.int e.2.1) List.mem_cons_self (small hbb.2.1 hbb.2.2) (small hbb.1.1 hbb.1.2)
              · obtain ⟨rfl, hal, hacc, hsb⟩ := hS
                have hg5 := hsb.subset (List.mem_cons_of_mem (l2, HO.lst (cutV (zR zs) (some at0) (some (at0 + 1)))) (List.mem_cons_of_mem (l1, HO.lst (cutV (zR zs) none (some at0))) hg3))
                have ml1 := hsb.subset (List.mem_cons_of_mem (l2, HO.lst (cutV (zR zs) (some at0) (some (at0 + 1)))) (List.mem_cons_self (a := (l1, HO.lst (cutV (zR zs) none (some at0)))) (l := L3)))
                refine kCatK kn1 (List.mem_cons_of_mem _ ml1) List.mem_cons_self (by omega) fun l4 H8 kn8 => ?_
                walk_at "go"
                rename_i l5 H9 kn9
                refine kCatK kn9 (List.mem_cons_of_mem _ List.mem_cons_self) List.mem_cons_self (by rw [List.length_append]; omega) fun l6 H10 kn10 => ?_
                have sb : L3.Sublist L2 := ((List.sublist_cons_self _ _).cons _).trans hsb
                refine q _ _ _ (s3.trans (sb.trans (by repeat (first | exact List.Sublist.refl _ | refine List.Sublist.cons _ ?_)))) (.l5 List.mem_cons_self (fun x hx => ?_) (by rw [List.length_append, List.length_append]; omega)) (kn10.more (by omega))
                rcases List.mem_append.mp hx with hx | hx
                · rcases List.mem_append.mp hx with hx | hx
                  · exact (hit x (mem_cutV hx)).mono (sb.trans (by repeat (first | exact List.Sublist.refl _ | refine List.Sublist.cons _ ?_)))
                  · exact (hacc x hx).mono (by repeat (first | exact List.Sublist.refl _ | refine List.Sublist.cons _ ?_))
                · exact (hit x (mem_cutV hx)).mono (sb.trans (by repeat (first | exact List.Sublist.refl _ | refine List.Sublist.cons _ ?_)))

/-! ### what the top says of refusals, out of what can be asked -/
theorem excInit_of {K : PySem.W.Frag} {nm q : Str} {C N : Addr} {bs bm bmB : List Value} {hd : Bool} {sn : List Str} {sub : List Value} {ab : Bool} {col : Option Bool} {dd : Option Addr} {k0 k1 k2 k3 k5 : Option Value} {newId : String}
    (h : K.lookup C = some (PySem.excClassObj nm q C N bs bm hd sn sub ab col dd k0 k1 k2 k3 k5 newId)) (ht : PySem.W.excTail bmB bm = true) : PySem.W.excInitIn K C bmB newId = true := by
  unfold PySem.W.excInitIn
  rw [h]
  simp [PySem.excClassObj, ht]
theorem super_of {K : PySem.W.Frag} {nm q nm' q' : Str} {C N b N' : Addr} {bs bm bs' : List Value} {hd hd' : Bool} {sn sn' : List Str} {sub sub' : List Value} {ab ab' : Bool} {col col' : Option Bool} {dd dd' : Option Addr} {k0 k1 k2 k3 k5 k0' k1' k2' k3' k5' : Option Value} {newId newId' : String} {name : Str} {r : Option Value}
    (h : K.lookup C = some (PySem.excClassObj nm q C N bs (.ref b :: bm) hd sn sub ab col dd k0 k1 k2 k3 k5 newId)) (hb : K.lookup b = some (PySem.excClassObj nm' q' b N' bs' bm hd' sn' sub' ab' col' dd' k0' k1' k2' k3' k5' newId'))
    (hi : PySem.W.findIn K (.ref b) name = some r) : PySem.W.ks_superIn K C C name = some r := by
  have hcl : (PySem.W.clsIn K C).map (·.mro) = some (.ref C :: .ref b :: bm) := by
    unfold PySem.W.clsIn
    rw [h]
    rfl
  unfold PySem.W.ks_superIn
  cases e : PySem.W.clsIn K C with
  | none =>
    rw [e] at hcl
    cases hcl
  | some cd =>
    rw [e] at hcl
    have hm : cd.mro = .ref C :: .ref b :: bm := Option.some.inj hcl
    show PySem.W.alongIn K name (List.drop 1 (List.dropWhile (fun x => x != Value.ref C) cd.mro)) = _
    rw [hm]
    have hd1 : List.dropWhile (fun x => x != Value.ref C) (Value.ref C :: Value.ref b :: bm) = Value.ref C :: Value.ref b :: bm := by
      simp [List.dropWhile]
    rw [hd1]
    obtain ⟨cd', e', ha⟩ := PySem.W.kw_along hi
    have hcl' : (PySem.W.clsIn K b).map (·.mro) = some (.ref b :: bm) := by
      unfold PySem.W.clsIn
      rw [hb]
      rfl
    rw [e'] at hcl'
    have hm' : cd'.mro = .ref b :: bm := Option.some.inj hcl'
    rw [hm'] at ha
    exact ha
theorem kitOne_self {K : PySem.W.Frag} {C : Addr} : PySem.W.kitOne K (.ref C) (.ref C) = some true := by
  unfold PySem.W.kitOne
  rw [if_pos (by simp)]
theorem kitOne_no {K : PySem.W.Frag} {C D : Addr} (h : PySem.W.subIn K (.ref C) (.ref D) = some false) (hs : PySem.W.subIn K (.ref C) (.ref C) = some true) (hd : PySem.W.hasDictIn K D = true) (ht : PySem.W.typeIn K (.ref D) = some (.type "type")) : PySem.W.kitOne K (.ref C) (.ref D) = some false := by
  have hne : C ≠ D := fun e => by
    rw [← e, hs] at h
    cases h
  have hcl : (PySem.W.clsIn K D).isSome = true := by
    unfold PySem.W.hasDictIn at hd
    cases e : PySem.W.clsIn K D with
    | none =>
      rw [e] at hd
      simp at hd
    | some _ => rfl
  unfold PySem.W.kitOne
  rw [if_neg (by simpa using hne)]
  show (if ((PySem.W.clsIn K D).isSome && PySem.W.typeIn K (.ref D) == some (.type "type")) = true then PySem.W.subIn K (.ref C) (.ref D) else none) = some false
  rw [hcl, ht]
  exact h
theorem kitOne_ty {K : PySem.W.Frag} {C : Addr} {T : String} {b : Bool} (hk : PySem.W.kitMeta T = true) (h : PySem.W.subIn K (.ref C) (.type T) = some b) : PySem.W.kitOne K (.ref C) (.type T) = some b := by
  unfold PySem.W.kitOne
  rw [if_neg (by simp)]
  show (if PySem.W.kitMeta T = true then PySem.W.subIn K (.ref C) (.type T) else none) = some b
  rw [if_pos hk]
  exact h

/-! ### _law_right -/
abbrev s_law_right : Stmt := topS 44
theorem sc_law_right : FnScope ["pointing", "thing", "seen", "found"] ["pointing", "thing"] (defScope s_law_right) := ⟨rfl, rfl, rfl, by decide +kernel, rfl, by decide +kernel, by decide +kernel⟩
theorem Lq.of_pairs {L : Led} {a : Addr} {fs : List Addr} {ms : List (Int × Int)} (h : (a, .lst (fs.map V.ref)) ∈ L) (hP : PairsAt L fs ms) (z : fs.length ≤ 20000) : Lq L (.ref a) (some (osOf ms)) := by
  have hl := hP.len
  refine .lst h (by rw [List.length_map, osOf, List.length_map]; exact hl) (fun i x o hx ho => ?_) (by rw [List.length_map]; exact z)
  rw [List.getElem?_map] at hx
  rw [osOf, List.getElem?_map] at ho
  cases e : fs[i]? with
  | none => rw [e] at hx; cases hx
  | some t =>
    cases e2 : ms[i]? with
    | none => rw [e2] at ho; cases ho
    | some m =>
      rw [e] at hx
      rw [e2] at ho
      cases hx
      cases ho
      refine .tup (hP.at_ i t m e e2) fun y hy => ?_
      simp only [List.mem_cons, List.not_mem_nil, or_false] at hy
      rcases hy with rfl | rfl
      · exact .int _
      · exact .int _
theorem tk_all {L : Led} : ∀ {xs : List V}, (∀ x ∈ xs, ∃ o, Tk L x o) → ∃ os : List (Option (List V)), xs.length = os.length ∧ ∀ (i : Nat) x o, xs[i]? = some x → os[i]? = some o → Tk L x o
  | [], _ => ⟨[], rfl, fun i x o h => by cases h⟩
  | x :: xs, h => by
    obtain ⟨os, h1, h2⟩ := tk_all fun y hy => h y (List.mem_cons_of_mem _ hy)
    obtain ⟨o, ho⟩ := h x List.mem_cons_self
    refine ⟨o :: os, by rw [List.length_cons, List.length_cons, h1], fun i y u e1 e2 => ?_⟩
    cases i with
    | zero =>
      cases e1
      cases e2
      exact ho
    | succ i => exact h2 i y u e1 e2
theorem Gq.lq {L : Led} {v : V} (h : Gq L v) : (∃ o, Lq L v o) ∧ Ds L 3 9000000 v := by
  cases h with
  | lst h hd z c =>
    obtain ⟨os, h1, h2⟩ := tk_all fun x hx => (hd x hx).1
    exact ⟨⟨_, .lst h h1 h2 (by omega)⟩, c⟩
  | oth h c => exact ⟨⟨_, h⟩, c⟩
def spRight63 : Sp := fun vs H Q _ => ∃ (d : Addr) (n : Nat) (L : Led) (p : Addr) (v : V) (xs : List Int), vs = [.ref p, v] ∧ PtOk 60 xs ∧ (p, .tup (xs.map V.int)) ∈ L ∧ Kn d n L H ∧ Gq L v ∧
  ∀ H', Kn d n L H' → Q (.bl true) H'
theorem ok_law_right {P : Program} {w : World} {K : PySem.W.Frag} {mg : Str → Option Value} {base : Heap} {k : Nat} {f a_is_whole a_is_house a_is_pair a_are_pairs a_is_paired a_law_whole a_law_is_paired : Addr} {fd fd_is_whole fd_is_house fd_is_pair fd_are_pairs fd_is_paired fd_law_whole fd_law_is_paired : FuncData} (D : Df K mg "_law_right" s_law_right ["pointing", "thing"] f fd) (D_is_whole : Df K mg "is_whole" s_is_whole ["thing"] a_is_whole fd_is_whole) (D_is_house : Df K mg "is_house" s_is_house ["thing", "many"] a_is_house fd_is_house) (D_is_pair : Df K mg "is_pair" s_is_pair ["pointing", "thing"] a_is_pair fd_is_pair) (D_are_pairs : Df K mg "are_pairs" s_are_pairs ["pointing", "thing"] a_are_pairs fd_are_pairs) (D_is_paired : Df K mg "is_paired" s_is_paired ["pointing", "thing"] a_is_paired fd_is_paired) (D_law_whole : Df K mg "_law_whole" s_law_whole ["thing"] a_law_whole fd_law_whole) (D_law_is_paired : Df K mg "_law_is_paired" s_law_is_paired ["pointing", "thing"] a_law_is_paired fd_law_is_paired) (M : Bl mg) : FnG P w K mg base (k + 1 + 1 + 1 + 1 + 1 + 1) f fd ["pointing", "thing"] spRight63 := by
  have G_is_paired := ok_is_paired (P := P) (w := w) (base := base) (k := 0) D_is_paired D_is_whole D_is_house D_is_pair D_are_pairs M
  have G_law_is_paired := ok_law_is_paired (P := P) (w := w) (base := base) (k := 0) D_law_is_paired D_law_whole M
  refine okG D.F sc_law_right (fun vs H Q E h => ?_) (fun cdv A outer s H vs Q E hgd hr h => ?_)
  · obtain ⟨d, n, L, p, v, xs, rfl, _⟩ := h
    rfl
  obtain ⟨d, n, L, p, v, xs, rfl, hp, hpL, kn, hv, q⟩ := h
  obtain ⟨⟨o, hlk⟩, hds⟩ := hv.lq
  refine ⟨_, (pss_cons (ps_set (i := 2) sc_law_right.nd rfl (Or.inl rfl) (pe_callB (cr_reprD hgd (unit100 hr)) (by rfl) M.repr (by decide +kernel) (pa_cons (pv 1) pa_nil)))
   (pss_cons (ps_set (i := 3) sc_law_right.nd rfl (Or.inl rfl) (pe_call G_is_paired (hr.mono (by omega)) (by rfl) D_is_paired.g D_is_paired.F.kp D_is_paired.b .nil pass0 (pa_cons (pv 0) (pa_cons (pv 1) pa_nil))))
   (pss_one (ps_ret (pe_and (pe_callB call_isi (by rfl) M.isinstance (by decide +kernel) (pa_cons (pv 3) (pa_cons (pe_bltn (v := .ty "bool") (u := .type "bool") (by rfl) M.bool (by decide +kernel) rfl) pa_nil))) (pe_and (pe_cmpR op_eq (pe_callB (cr_reprD hgd (unit100 hr)) (by rfl) M.repr (by decide +kernel) (pa_cons (pv 1) pa_nil)) (pv 2) (nomark _)) (pe_one (pe_cmpR op_eq (pv 3) (pe_call G_law_is_paired (hr.mono (by omega)) (by rfl) D_law_is_paired.g D_law_is_paired.F.kp D_law_is_paired.b .nil pass0 (pa_cons (pv 0) (pa_cons (pv 1) pa_nil))) (nomark _))))))))), ?_⟩
  obtain ⟨e, he, e1, e2, e3, e4⟩ := hds.data
  walk_at "go"
  refine kReprD kn he e1 e2 (by omega) (by omega) ?_
  walk_at "go"
  refine ⟨d, n, L, p, v, xs, o, rfl, hp, hpL, kn, hlk, fun b1 H1 hb1 kn1 => ?_⟩
  walk_at "go"
  refine iteT ?_
  walk_at "go"
  refine kReprD kn1 he e1 e2 (by omega) (by omega) ?_
  walk_at "go"
  rw [decide_eq_true rfl]
  refine iteT ?_
  walk_at "go"
  refine ⟨d, n, L, p, v, xs, o, rfl, hp, hpL, kn1, hlk, fun b2 H2 hb2 kn2 => ?_⟩
  have eb : b1 = b2 := by
    rw [Bool.eq_iff_iff, hb1, hb2]
  subst eb
  refine ⟨rfl, ?_⟩
  rw [decide_eq_true rfl]
  exact q _ kn2

/-! ### the law -/
abbrev s_law : Stmt := topS 45
theorem sc_law : FnScope ["script", "dice", "turn", "pointing", "n", "good", "at", "other", "k", "thing", "spot"] ["script"] (defScope s_law) := ⟨rfl, rfl, rfl, by decide +kernel, rfl, by decide +kernel, by decide +kernel⟩
theorem pt_put {xs : List Int} {a c : Int} {m : Int} (hp : PtOk m xs) (a0 : 0 ≤ a) (an : a < xs.length) (c0 : 0 ≤ c) (c1 : c < xs.length - 1) : PtOk m (xs.set a.toNat ((a + 1 + c) % (xs.length : Int))) := by
  have h2 := hp.two
  refine ⟨by rw [List.length_set]; exact h2, by rw [List.length_set]; exact hp.most, fun k x hx => ?_⟩
  rw [List.length_set]
  rw [List.getElem?_set] at hx
  by_cases hk : a.toNat = k
  · rw [if_pos hk, if_pos (by omega)] at hx
    have hx := (Option.some.inj hx).symm
    subst hx
    have hn : (0 : Int) < xs.length := by omega
    refine ⟨Int.emod_nonneg _ (by omega), Int.emod_lt_of_pos _ hn, fun e => ?_⟩
    by_cases hh : a + 1 + c < xs.length
    · rw [Int.emod_eq_of_lt (by omega) hh] at e
      omega
    · have e2 : (a + 1 + c) % (xs.length : Int) = a + 1 + c - xs.length := by
        rw [← Int.sub_emod_right, Int.emod_eq_of_lt (by omega) (by omega)]
      omega
  · rw [if_neg hk] at hx
    exact hp.goal k x hx
theorem cut_ends (xs : List V) : (cutV xs none (some 3)).length + (cutV xs (some 4) none).length ≤ xs.length := by
  have e1 : HT.sIx xs.length xs.length (some 3) = min 3 xs.length := by simp [HT.sIx]
  have e2 : HT.sIx xs.length 0 (some 4) = min 4 xs.length := by simp [HT.sIx]
  have e3 : HT.sIx xs.length 0 none = 0 := rfl
  have e4 : HT.sIx xs.length xs.length none = xs.length := rfl
  unfold cutV
  rw [List.length_take, List.length_drop, List.length_take, List.length_drop, e1, e2, e3, e4]
  omega
theorem prd_len {xs : List Int} {ms : List (Int × Int)} {m : Int} (hp : PtOk m xs) (hm : m ≤ 60) (hA : PrdOk xs ms) : ms.length ≤ 30 := by
  have h60 := hp.most
  have hin : ∀ z ∈ flatP ms, 0 ≤ z ∧ z < xs.length := fun z hz => by
    unfold flatP at hz
    obtain ⟨e, he, hz⟩ := List.mem_flatMap.mp hz
    have h1 := hA.are.inn e he
    have hg := hp.goal e.1.toNat _ (List.getElem?_eq_getElem (by omega))
    have hgd : xs.getD e.1.toNat 0 = xs[e.1.toNat] := getD_of (List.getElem?_eq_getElem (by omega))
    simp only [List.mem_cons, List.not_mem_nil, or_false] at hz
    rcases hz with rfl | rfl
    · exact h1.1
    · rw [← h1.2, hgd]
      exact ⟨hg.1, hg.2.1⟩
  have := php xs.length ((flatP ms).map Int.toNat) (by
    show List.Pairwise (· ≠ ·) ((flatP ms).map Int.toNat)
    rw [List.pairwise_map]
    have nd : List.Pairwise (· ≠ ·) (flatP ms) := hA.are.nd
    refine nd.imp_of_mem fun {a b} ha hb h => ?_
    have h1 := hin a ha
    have h2 := hin b hb
    omega) fun x hx => by
      obtain ⟨z, hz, rfl⟩ := List.mem_map.mp hx
      have := hin z hz
      omega
  rw [List.length_map, flatP_len] at this
  omega
theorem gz_of {L : Led} {xs : List Int} {bs : List Addr} {ms : List (Int × Int)} {m : Int} (hp : PtOk m xs) (hm : m ≤ 60) (hA : PrdOk xs ms) (hP : PairsAt L bs ms) : Gz L (bs.zip ms) ∧ zR (bs.zip ms) = bs.map V.ref := by
  have hl := hP.len
  have h60 := hp.most
  have h30 := prd_len hp hm hA
  refine ⟨⟨by rw [List.length_zip]; omega, fun e he => ?_, fun e he => ?_⟩, ?_⟩
  · obtain ⟨i, hi⟩ := List.getElem?_of_mem he
    rw [List.getElem?_zip_eq_some] at hi
    exact hP.at_ i e.1 e.2 hi.1 hi.2
  · have h1 := hA.are.inn e.2 (List.of_mem_zip (a := e.1) (b := e.2) he).2
    have hg := hp.goal e.2.1.toNat _ (List.getElem?_eq_getElem (by omega))
    have hgd : xs.getD e.2.1.toNat 0 = xs[e.2.1.toNat] := getD_of (List.getElem?_eq_getElem (by omega))
    rw [← hgd, h1.2] at hg
    exact ⟨⟨by omega, by omega⟩, by omega, by omega⟩
  · show ((bs.zip ms).map (·.1)).map V.ref = _
    have : (bs.zip ms).map (·.1) = bs := List.map_fst_zip (by omega)
    rw [this]
theorem zcut (zs : List (Addr × (Int × Int))) (lo hi : Option Int) : ∃ z1, cutV (zR zs) lo hi = zR z1 ∧ ∀ e ∈ z1, e ∈ zs :=
  ⟨(zs.drop (HT.sIx zs.length 0 lo)).take (HT.sIx zs.length zs.length hi - HT.sIx zs.length 0 lo), by unfold cutV; rw [List.length_map, List.length_map]; simp only [zR, List.map_take, List.map_drop], fun e he => List.mem_of_mem_drop (List.mem_of_mem_take he)⟩
def spLawT (P : Addr) (K : PySem.W.Frag) : Sp := fun vs H Q _ => ∃ (a : Addr) (ns : List Int), vs = [.ref a] ∧ H P = some (.tbl #[]) ∧ SqL K H a (ns.map V.int) ∧ ns.length ≤ 63 ∧ ∀ H', Q (.bl true) H'
theorem ok_law {P : Program} {w : World} {K : PySem.W.Frag} {mg : Str → Option Value} {base : Heap} {C_NotProper fI_NotProper : Addr} {fd_NotProper : FuncData} {m_NotProper : Expr} {bm_NotProper : List Value} (E_NotProper : Rf P K mg "NotProper" "house" C_NotProper fI_NotProper fd_NotProper m_NotProper bm_NotProper) {c P0 : Addr}
    {f a_is_whole a_is_house a_clashing a_check_proper a_by_hue a_unlike_place a_stepped a_step a_paired a_is_pair a_are_pairs a_is_paired a_halvings a_needed_steps a_shortenings a_taken_over a_given_up a_both_rounds a_all_labels a_hues a_law_roll a_law_pointing a_law_whole a_law_bound a_law_names a_law_put a_law_ties a_law_labels a_law_is_paired a_law_by_order a_law_odd a_law_bent a_law_right : Addr} {fd fd_is_whole fd_is_house fd_clashing fd_check_proper fd_by_hue fd_unlike_place fd_stepped fd_step fd_paired fd_is_pair fd_are_pairs fd_is_paired fd_halvings fd_needed_steps fd_shortenings fd_taken_over fd_given_up fd_both_rounds fd_all_labels fd_hues fd_law_roll fd_law_pointing fd_law_whole fd_law_bound fd_law_names fd_law_put fd_law_ties fd_law_labels fd_law_is_paired fd_law_by_order fd_law_odd fd_law_bent fd_law_right : FuncData} (D_is_whole : Df K mg "is_whole" s_is_whole ["thing"] a_is_whole fd_is_whole) (D_is_house : Df K mg "is_house" s_is_house ["thing", "many"] a_is_house fd_is_house) (D_clashing : Df K mg "clashing" s_clashing ["pointing", "labels"] a_clashing fd_clashing) (D_check_proper : Df K mg "check_proper" s_check_proper ["pointing", "labels"] a_check_proper fd_check_proper) (D_by_hue : Df K mg "by_hue" s_by_hue ["labels"] a_by_hue fd_by_hue) (D_unlike_place : Df K mg "unlike_place" s_unlike_place ["one", "other"] a_unlike_place fd_unlike_place) (D_stepped : Df K mg "stepped" s_stepped ["label", "goal_label"] a_stepped fd_stepped) (D_step : Df K mg "step" s_step ["pointing", "labels"] a_step fd_step) (D_paired : Df K mg "paired" s_paired ["pointing", "labels"] a_paired fd_paired) (D_is_pair : Df K mg "is_pair" s_is_pair ["pointing", "thing"] a_is_pair fd_is_pair) (D_are_pairs : Df K mg "are_pairs" s_are_pairs ["pointing", "thing"] a_are_pairs fd_are_pairs) (D_is_paired : Df K mg "is_paired" s_is_paired ["pointing", "thing"] a_is_paired fd_is_paired) (D_halvings : Df K mg "halvings" s_halvings ["m"] a_halvings fd_halvings) (D_needed_steps : Df K mg "needed_steps" s_needed_steps ["m"] a_needed_steps fd_needed_steps) (D_shortenings : Df K mg "shortenings" s_shortenings ["pointing", "names", "m"] a_shortenings fd_shortenings) (D_taken_over : Df K mg "taken_over" s_taken_over ["pointing", "labels"] a_taken_over fd_taken_over) (D_given_up : Df K mg "given_up" s_given_up ["ahead", "label", "goal_label", "hue"] a_given_up fd_given_up) (D_both_rounds : Df K mg "both_rounds" s_both_rounds ["pointing", "labels", "hue"] a_both_rounds fd_both_rounds) (D_all_labels : Df K mg "all_labels" s_all_labels ["pointing", "names", "m"] a_all_labels fd_all_labels) (D_hues : Df K mg "hues" s_hues ["pointing", "names", "m"] a_hues fd_hues) (D_law_roll : Df K mg "_law_roll" s_law_roll ["dice", "size"] a_law_roll fd_law_roll) (D_law_pointing : Df K mg "_law_pointing" s_law_pointing ["dice", "most"] a_law_pointing fd_law_pointing) (D_law_whole : Df K mg "_law_whole" s_law_whole ["thing"] a_law_whole fd_law_whole) (D_law_bound : Df K mg "_law_bound" s_law_bound ["dice", "n"] a_law_bound fd_law_bound) (D_law_names : Df K mg "_law_names" s_law_names ["dice", "n", "m"] a_law_names fd_law_names) (D_law_put : Df K mg "_law_put" s_law_put ["things", "at", "what"] a_law_put fd_law_put) (D_law_ties : Df K mg "_law_ties" s_law_ties ["pointing"] a_law_ties fd_law_ties) (D_law_labels : Df K mg "_law_labels" s_law_labels ["dice", "pointing"] a_law_labels fd_law_labels) (D_law_is_paired : Df K mg "_law_is_paired" s_law_is_paired ["pointing", "thing"] a_law_is_paired fd_law_is_paired) (D_law_by_order : Df K mg "_law_by_order" s_law_by_order ["dice", "pointing"] a_law_by_order fd_law_by_order) (D_law_odd : Df K mg "_law_odd" s_law_odd ["dice", "pointing"] a_law_odd fd_law_odd) (D_law_bent : Df K mg "_law_bent" s_law_bent ["dice", "pointing", "good"] a_law_bent fd_law_bent) (D_law_right : Df K mg "_law_right" s_law_right ["pointing", "thing"] a_law_right fd_law_right) (D : Df K mg "law" s_law ["script"] f fd)
    (C2 : ∃ a, mg "LEFT_HUES" = some (.ref a) ∧ ∀ H, SqT K H a (([0, 1, 2] : List Int).map V.int)) (C3 : ∃ a, mg "GONE_HUES" = some (.ref a) ∧ ∀ H, SqT K H a (([5, 4, 3] : List Int).map V.int)) (C1 : ∃ t, mg "SHORT" = some (.int 6 t)) (hc : fd_by_hue.code = .ref c) (TB : LamX.TabB base mg c P0) (M : Bl mg) :
    FnG P w K mg base 10 f fd ["script"] (spLawT P0 K) := by
  have G_law_roll := ok_law_roll (P := P) (w := w) (base := base) (k := 0) D_law_roll M
  have G_law_pointing := ok_law_pointing (P := P) (w := w) (base := base) (k := 0) D_law_pointing D_law_roll M
  have G_law_labels := ok_law_labels (w := w) (base := base) (k := 0) E_NotProper D_law_labels D_clashing D_check_proper D_unlike_place D_stepped D_step D_halvings D_needed_steps D_shortenings D_taken_over D_given_up D_both_rounds D_all_labels D_hues D_law_roll D_law_bound D_law_names D_law_put D_law_ties C1 C2 C3 M
  have G_law_by_order := ok_law_by_order (P := P) (w := w) (base := base) (k := 0) D_law_by_order D_law_roll M
  have G_law_put := ok_law_put (P := P) (w := w) (base := base) (k := 0) D_law_put M
  have G_law_odd := ok_law_odd (P := P) (w := w) (base := base) (k := 0) D_law_odd D_law_roll M
  have G_law_bent := ok_law_bent (P := P) (w := w) (base := base) (k := 0) D_law_bent D_law_roll D_law_odd M
  have G_is_paired := ok_is_paired (P := P) (w := w) (base := base) (k := 0) D_is_paired D_is_whole D_is_house D_is_pair D_are_pairs M
  have G_law_right := ok_law_right (P := P) (w := w) (base := base) (k := 0) D_law_right D_is_whole D_is_house D_is_pair D_are_pairs D_is_paired D_law_whole D_law_is_paired M
  have G_paired := ok_paired (w := w) (base := base) (k := 0) E_NotProper D_paired D_clashing D_check_proper D_by_hue hc TB M
  refine okG D.F sc_law (fun vs H Q E h => ?_) (fun cdv A' outer s H vs Q E hgd hr h => ?_)
  · obtain ⟨a, ns, rfl, _⟩ := h
    rfl
  obtain ⟨a0, ns, rfl, hP, hS, hl, q⟩ := h
  refine ⟨_, (pss_cons (ps_set (i := 1) sc_law.nd rfl (Or.inl rfl) (pe_lst (pa_cons (pe_callTy c_list (by rfl) M.list (by decide +kernel) (pa_cons (pe_slice sl_list (pv 0) po_none (po_some pe_int)) pa_nil)) (pa_cons pe_int (pa_cons pe_int (pa_cons pe_int pa_nil))))))
   (pss_cons (ps_for PassesOwn.never rfl (pi_range1 (by rfl) M.range (pa_cons pe_int pa_nil)) (pg_name (i := 2) sc_law.nd rfl (Or.inl rfl))
    (pss_cons (ps_set (i := 3) sc_law.nd rfl (Or.inl rfl) (pe_call G_law_pointing (hr.mono (by omega)) (by rfl) D_law_pointing.g D_law_pointing.F.kp D_law_pointing.b .nil pass0 (pa_cons (pv 1) (pa_cons (pe_ix ix_list (pe_lst (pa_cons pe_int (pa_cons pe_int (pa_cons pe_int pa_nil)))) (pe_call G_law_roll (hr.mono (by omega)) (by rfl) D_law_roll.g D_law_roll.F.kp D_law_roll.b .nil pass0 (pa_cons (pv 1) (pa_cons pe_int pa_nil))) (fun _ _ => rfl)) pa_nil))))
    (pss_cons (ps_set (i := 4) sc_law.nd rfl (Or.inl rfl) (pe_callB c_len (by rfl) M.len PySem.boot_len (pa_cons (pv 3) pa_nil)))
    (pss_cons (ps_set (i := 5) sc_law.nd rfl (Or.inl rfl) (pe_call G_law_by_order (hr.mono (by omega)) (by rfl) D_law_by_order.g D_law_by_order.F.kp D_law_by_order.b .nil pass0 (pa_cons (pv 1) (pa_cons (pv 3) pa_nil))))
    (pss_cons (ps_if (pt_cmpR op_eq (pe_call G_law_roll (hr.mono (by omega)) (by rfl) D_law_roll.g D_law_roll.F.kp D_law_roll.b .nil pass0 (pa_cons (pv 1) (pa_cons pe_int pa_nil))) pe_int (nomark _)) (pss_one (ps_set (i := 5) sc_law.nd rfl (Or.inl rfl) (pe_call G_paired (hr.mono (by omega)) (by rfl) D_paired.g D_paired.F.kp D_paired.b .nil passX (pa_cons (pv 3) (pa_cons (pe_call G_law_labels (hr.mono (by omega)) (by rfl) D_law_labels.g D_law_labels.F.kp D_law_labels.b .nil pass0 (pa_cons (pv 1) (pa_cons (pv 3) pa_nil))) pa_nil))))) pss_nil)
    (pss_cons (ps_if (pt_cmpR op_notBl (pe_call G_is_paired (hr.mono (by omega)) (by rfl) D_is_paired.g D_is_paired.F.kp D_is_paired.b .nil pass0 (pa_cons (pv 3) (pa_cons (pv 5) pa_nil))) pe_bl (nomark _)) (pss_one (ps_ret pe_bl)) pss_nil)
    (pss_cons (ps_set (i := 6) sc_law.nd rfl (Or.inl rfl) (pe_call G_law_roll (hr.mono (by omega)) (by rfl) D_law_roll.g D_law_roll.F.kp D_law_roll.b .nil pass0 (pa_cons (pv 1) (pa_cons (pv 4) pa_nil))))
    (pss_cons (ps_set (i := 7) sc_law.nd rfl (Or.inl rfl) (pe_call G_law_put (hr.mono (by omega)) (by rfl) D_law_put.g D_law_put.F.kp D_law_put.b .nil pass0 (pa_cons (pv 3) (pa_cons (pv 6) (pa_cons (pe_op op_mod (pe_op op_add (pe_op op_add (pv 6) pe_int) (pe_call G_law_roll (hr.mono (by omega)) (by rfl) D_law_roll.g D_law_roll.F.kp D_law_roll.b .nil pass0 (pa_cons (pv 1) (pa_cons (pe_op op_sub (pv 4) pe_int) pa_nil)))) (pv 4)) pa_nil)))))
    (pss_cons (ps_for PassesOwn.never rfl (pi_range1 (by rfl) M.range (pa_cons pe_int pa_nil)) (pg_name (i := 8) sc_law.nd rfl (Or.inl rfl))
     (pss_cons (ps_set (i := 9) sc_law.nd rfl (Or.inl rfl) (pe_call G_law_bent (hr.mono (by omega)) (by rfl) D_law_bent.g D_law_bent.F.kp D_law_bent.b .nil pass0 (pa_cons (pv 1) (pa_cons (pv 3) (pa_cons (pe_callTy c_list (by rfl) M.list (by decide +kernel) (pa_cons (pv 5) pa_nil)) pa_nil)))))
     (pss_cons (ps_if (pt_cmpR op_eq (pe_call G_law_roll (hr.mono (by omega)) (by rfl) D_law_roll.g D_law_roll.F.kp D_law_roll.b .nil pass0 (pa_cons (pv 1) (pa_cons pe_int pa_nil))) pe_int (nomark _)) (pss_one (ps_set (i := 9) sc_law.nd rfl (Or.inl rfl) (pe_call G_law_bent (hr.mono (by omega)) (by rfl) D_law_bent.g D_law_bent.F.kp D_law_bent.b .nil pass0 (pa_cons (pv 1) (pa_cons (pv 3) (pa_cons (pe_op op_cat (pe_slice sl_list (pe_callTy c_list (by rfl) M.list (by decide +kernel) (pa_cons (pv 5) pa_nil)) po_none (po_some pe_int)) (pe_slice sl_list (pe_callTy c_list (by rfl) M.list (by decide +kernel) (pa_cons (pv 5) pa_nil)) (po_some pe_int) po_none)) pa_nil)))))) pss_nil)
     (pss_cons (ps_if (PW.pt (pw_and (pt_val (pe_callB call_isi (by rfl) M.isinstance (by decide +kernel) (pa_cons (pv 9) (pa_cons (pe_bltn (v := .ty "list") (u := .type "list") (by rfl) M.list (by decide +kernel) rfl) pa_nil)))) (pw_and (pt_chain op_lt op_lt pe_int (pe_callB c_len (by rfl) M.len PySem.boot_len (pa_cons (pv 9) pa_nil)) pe_int) (pw_and1 (pt_cmpR op_eq (pe_call G_law_roll (hr.mono (by omega)) (by rfl) D_law_roll.g D_law_roll.F.kp D_law_roll.b .nil pass0 (pa_cons (pv 1) (pa_cons pe_int pa_nil))) pe_int (nomark _)))))) (pss_cons (ps_set (i := 10) sc_law.nd rfl (Or.inl rfl) (pe_call G_law_roll (hr.mono (by omega)) (by rfl) D_law_roll.g D_law_roll.F.kp D_law_roll.b .nil pass0 (pa_cons (pv 1) (pa_cons (pe_callB c_len (by rfl) M.len PySem.boot_len (pa_cons (pv 9) pa_nil)) pa_nil))))
      (pss_one (ps_set (i := 9) sc_law.nd rfl (Or.inl rfl) (pe_op op_cat (pe_op op_cat (pe_slice sl_list (pv 9) po_none (po_some (pv 10))) (pe_lst (pa_cons (pe_call G_law_odd (hr.mono (by omega)) (by rfl) D_law_odd.g D_law_odd.F.kp D_law_odd.b .nil pass0 (pa_cons (pv 1) (pa_cons (pv 3) pa_nil))) pa_nil))) (pe_slice sl_list (pv 9) (po_some (pe_op op_add (pv 10) pe_int)) po_none))))) pss_nil)
     (pss_one (ps_if (PW.pt (pw_or (pt_not (pt_val (pe_callG G_law_right hgd (hr.mono (by omega)) (by rfl) D_law_right.g D_law_right.F.kp D_law_right.b (pa_cons (pv 3) (pa_cons (pv 9) pa_nil))))) (pw_or1 (pt_not (pt_val (pe_callG G_law_right hgd (hr.mono (by omega)) (by rfl) D_law_right.g D_law_right.F.kp D_law_right.b (pa_cons (pv 7) (pa_cons (pe_callTy c_list (by rfl) M.list (by decide +kernel) (pa_cons (pv 5) pa_nil)) pa_nil)))))))) (pss_one (ps_ret pe_bl)) pss_nil))))))
    (pss_one (ps_if (pt_not (pt_val (pe_callG G_law_right hgd (hr.mono (by omega)) (by rfl) D_law_right.g D_law_right.F.kp D_law_right.b (pa_cons (pv 3) (pa_cons (pe_lst pa_nil) pa_nil))))) (pss_one (ps_ret pe_bl)) pss_nil)))))))))))
   (pss_one (ps_ret pe_bl)))), ?_⟩
  refine kStartT (q := lamQ) hP hS rfl fun d H1 kn => ?_
  refine kSeq (kRng1 (n := 3) (by omega) (fun t σ' H' => ∃ (x2 x3 x4 x5 x6 x7 x8 x9 x10 : Option V) (ps : Array Value) (cs : List Addr), σ' = [some (.ref a0), some (.ref d), x2, x3, x4, x5, x6, x7, x8, x9, x10] ∧ t ≤ 3 ∧ Tb ps cs ∧ Kn d (5000 * t) (tbL P0 lamQ ps cs) H') ⟨_, _, _, _, _, _, _, _, _, _, _, rfl, by omega, Tb.nil, kn⟩ (fun t σ' H' ht hW => ?_) (fun σ' H' hW => ?_) fun R hR => by walk_at "go"; exact hR)
  · obtain ⟨x2, x3, x4, x5, x6, x7, x8, x9, x10, ps, cs, rfl, ht3, tb, kn2⟩ := hW
    walk_at "go"
    rename_i lp H3 kn3
    refine ⟨d, 5000 * t, _, 3, rfl, by omega, by decide, by omega, kn3, fun y H4 y0 y3 kn4 => ?_⟩
    obtain ⟨top, ht5, hm⟩ := atMem (es := [5, 12, 60]) y0 (by simpa using y3)
    have htop : 5 ≤ top ∧ top ≤ 60 := by
      simp only [List.mem_cons, List.not_mem_nil, or_false] at hm
      rcases hm with rfl | rfl | rfl <;> omega
    refine kIxL (kn4.seqL List.mem_cons_self) ht5 ?_
    walk_at "go"
    refine ⟨d, 5000 * t + 1, _, top, rfl, by omega, by omega, by omega, kn4.tail, fun p xs H5 hp' kn5 => ?_⟩
    have hp : PtOk 60 xs := ⟨hp'.two, Int.le_trans hp'.most htop.2, hp'.goal⟩
    have h2 := hp.two
    have h60 := hp.most
    walk_at "go"
    rw [List.length_map]
    walk_at "go"
    refine ⟨d, _, _, p, xs, rfl, hp, by omega, List.mem_cons_self, kn5, fun r0 bs0 ms0 X0 H6 sX0 hP0 hA0 kn6 => ?_⟩
    refine kJoin (fun σ' H' => ∃ (r : Addr) (zs : List (Addr × (Int × Int))) (ms : List (Int × Int)) (ps : Array Value) (cs : List Addr) (X : Led), σ' = [some (.ref a0), some (.ref d), some (.int (t : Int)), some (.ref p), some (.int (xs.length : Int)), some (.ref r), x6, x7, x8, x9, x10] ∧ PrdOk xs ms ∧ Gz X zs ∧ Lq X (.ref r) (some (osOf ms)) ∧ (r, .lst (zR zs)) ∈ X ∧ Tb ps cs ∧ (p, HO.tup (xs.map V.int)) ∈ X ∧ (tbL P0 lamQ ps cs).Sublist X ∧ Kn d (5000 * t + 3400) X H') (fun σ' H' hW => ?_) fun N join => ?_
    · obtain ⟨r, zs, ms, ps, cs, X, rfl, hA, hZ, hQ, mrX, tb, mpX, sTX, kn7⟩ := hW
      refine kSeq (kIfS ?_)
      walk_at "go"
      refine ⟨d, _, _, p, .ref r, xs, some (osOf ms), rfl, hp, mpX, kn7, hQ, fun b H7 hb kn8 => ?_⟩
      have eb : b = true := hb.mpr ⟨ms, rfl, hA⟩
      subst eb
      walk_at "go"
      refine iteF ?_
      walk_at "go"
      refine ⟨d, _, _, ((xs.length : Nat) : Int), rfl, by omega, log_small (by omega) (by omega), by omega, kn8, fun at0 H8 at00 atn kn9 => ?_⟩
      walk_at "go"
      refine ⟨d, _, _, ((xs.length : Nat) : Int) - 1, rfl, by omega, log_small (by omega) (by omega), by omega, kn9, fun c0 H9 c00 c0n kn10 => ?_⟩
      walk_at "go"
      obtain ⟨j, rfl⟩ : ∃ j : Nat, at0 = (j : Int) := ⟨at0.toNat, by omega⟩
      refine ⟨d, _, _, p, xs, j, _, rfl, by omega, by omega, mpX, kn10, fun o H10 kn11 => ?_⟩
      have hpo := pt_put hp at00 atn c00 (by omega)
      rw [Int.toNat_natCast] at hpo
      obtain ⟨ys, hys⟩ : ∃ ys, ys = xs.set j (((j : Int) + 1 + c0) % (xs.length : Int)) := ⟨_, rfl⟩
      rw [← hys] at kn11 hpo
      clear hys
      obtain ⟨L0, mo, mr, mp, hZ0, sT, kn12⟩ : ∃ L0 : Led, (o, HO.tup (ys.map V.int)) ∈ L0 ∧ (r, HO.lst (zR zs)) ∈ L0 ∧ (p, HO.tup (xs.map V.int)) ∈ L0 ∧ Gz L0 zs ∧ (tbL P0 lamQ ps cs).Sublist L0 ∧ Kn d (5000 * t + 3500) L0 H10 :=
        ⟨_, List.mem_cons_self, List.mem_cons_of_mem _ mrX, List.mem_cons_of_mem _ mpX, hZ.mono (List.sublist_cons_self _ _), sTX.cons _, kn11.more (by omega)⟩
      have hzl : (zR zs).length = zs.length := by rw [List.length_map, List.length_map]
      have hfew := hZ0.few
      clear kn11 kn10 kn9 kn8 kn7
      walk_at "go"
      refine kSeq (kRng1 (n := 8) (by omega) (fun u σ' H' => ∃ (x8 x9 x10 : Option V), σ' = [some (.ref a0), some (.ref d), some (.int (t : Int)), some (.ref p), some (.int (xs.length : Int)), some (.ref r), some (.int (j : Int)), some (.ref o), x8, x9, x10] ∧ u ≤ 8 ∧ Kn d (5000 * t + 3500 + 40 * u) L0 H') ⟨_, _, _, rfl, by omega, kn12⟩ (fun u σ' H' hu hW => ?_) (fun σ' H' hW => ?_) fun R hR => by walk_at "go"; exact hR)
      · obtain ⟨x8, x9, x10, rfl, hu8, kn13⟩ := hW
        walk_at "go"
        rename_i l1 H11 kn14
        refine ⟨d, _, _, p, l1, xs, zs, rfl, hp, by omega, List.mem_cons_of_mem _ mp, hZ0.mono (List.sublist_cons_self _ _), List.mem_cons_self, kn14, fun v1 L1 H12 s1 hv1 kn15 => ?_⟩
        refine kJoin (fun σ' H' => ∃ (v : V) (L2 : Led), σ' = [some (.ref a0), some (.ref d), some (.int (t : Int)), some (.ref p), some (.int (xs.length : Int)), some (.ref r), some (.int (j : Int)), some (.ref o), some (.int (u : Int)), some v, x10] ∧ L0.Sublist L2 ∧ Gq L2 v ∧ Kn d (5000 * t + 3500 + 40 * u + 21) L2 H') (fun σ' H' hW => ?_) fun N join => ?_
        · obtain ⟨v, L2, rfl, s2, hv, kn16⟩ := hW
          refine kJoin (fun σ' H' => ∃ (v : V) (L2 : Led) (y10 : Option V), σ' = [some (.ref a0), some (.ref d), some (.int (t : Int)), some (.ref p), some (.int (xs.length : Int)), some (.ref r), some (.int (j : Int)), some (.ref o), some (.int (u : Int)), some v, y10] ∧ L0.Sublist L2 ∧ Gq L2 v ∧ Kn d (5000 * t + 3500 + 40 * u + 32) L2 H') (fun σ' H' hW => ?_) fun N join => ?_
          · obtain ⟨v, L2, y10, rfl, s2, hv, kn17⟩ := hW
            refine kIfS ?_
            walk_at "go"
            refine kCallP ?_
            walk_at "go"
            refine ⟨d, _, L2, p, v, xs, rfl, hp, s2.subset mp, kn17, hv, fun H13 kn18 => ?_⟩
            walk_at "go"
            refine iteF ?_
            refine kCallP ?_
            walk_at "go"
            refine kListK (kn18.seqL (s2.subset mr)) kn18 fun l2 H14 kn19 => ?_
            walk_at "go"
            refine ⟨d, _, _, o, .ref l2, ys, rfl, hpo, List.mem_cons_of_mem _ (s2.subset mo), kn19, .l5 List.mem_cons_self (fun x hx => (hZ0.it x hx).mono (s2.cons _)) (by rw [hzl]; omega), fun H15 kn20 => ?_⟩
            walk_at "go"
            refine iteF ?_
            exact kNext ⟨_, _, _, rfl, by omega, (kn20.sub (s2.cons _)).more (by omega)⟩
          · refine kIfS ?_
            walk_at "go"
            have stay : ∀ H2, Kn d (5000 * t + 3500 + 40 * u + 32) L2 H2 → N [some (.ref a0), some (.ref d), some (.int (t : Int)), some (.ref p), some (.int (xs.length : Int)), some (.ref r), some (.int (j : Int)), some (.ref o), some (.int (u : Int)), some v, x10] H2 := fun H2 k2 => join _ _ ⟨v, L2, x10, rfl, s2, hv, k2⟩
            cases hv with
            | oth hlq cc =>
              refine isiListQ kn16 hlq ?_
              walk_at "go"
              refine iteF ?_
              refine iteF ?_
              exact kNext (stay _ (kn16.more (by omega)))
            | @lst a zv hzm hit z cc =>
              refine isiLL (kn16.mem hzm) ?_
              walk_at "go"
              refine iteT ?_
              walk_at "go"
              refine iteD (fun h0 => ?_) (fun h0 => ?_)
              · walk_at "go"
                refine iteD (fun h1 => ?_) (fun h1 => ?_)
                · walk_at "go"
                  refine ⟨d, _, _, 4, rfl, by omega, by decide, by omega, kn16, fun c1 H13 c10 c11 kn17 => ?_⟩
                  walk_at "go"
                  refine iteD (fun h2 => ?_) (fun h2 => ?_)
                  · walk_at "go"
                    refine ⟨d, _, _, ((zv.length : Nat) : Int), rfl, by omega, log_small (by omega) (by omega), by omega, kn17, fun sp H14 sp0 spn kn18 => ?_⟩
                    walk_at "go"
                    rename_i l2 H15 kn19
                    refine ⟨d, _, _, p, xs, rfl, hp, by omega, List.mem_cons_of_mem _ (s2.subset mp), kn19, fun one L5 H16 s5 hio kn20 => ?_⟩
                    walk_at "go"
                    rename_i l3 H17 kn21
                    have hz5 := s5.subset (List.mem_cons_of_mem (l2, HO.lst (cutV zv none (some sp))) hzm)
                    have u1 := cutV_length zv none (some sp)
                    have u2 := cutV_length zv (some (sp + 1)) none
                    refine kCatK (xs := cutV zv none (some sp)) (ys := [one]) kn21 (List.mem_cons_of_mem _ (s5.subset List.mem_cons_self)) List.mem_cons_self (by rw [List.length_singleton]; omega) fun l4 H18 kn22 => ?_
                    walk_at "go"
                    rename_i l5 H19 kn23
                    refine kCatK kn23 (List.mem_cons_of_mem _ List.mem_cons_self) List.mem_cons_self (by rw [List.length_append, List.length_singleton]; omega) fun l6 H20 kn24 => ?_
                    have s6 : L2.Sublist ((l6, HO.lst (cutV zv none (some sp) ++ [one] ++ cutV zv (some (sp + 1)) none)) :: (l5, HO.lst (cutV zv (some (sp + 1)) none)) :: (l4, HO.lst (cutV zv none (some sp) ++ [one])) :: (l3, HO.lst [one]) :: L5) := (((((List.sublist_cons_self _ _).trans s5).cons _).cons _).cons _).cons _
                    refine join _ _ ⟨.ref l6, _, _, rfl, s2.trans s6, .l7 List.mem_cons_self (fun x hx => ?_) (by rw [List.length_append, List.length_append, List.length_singleton]; omega), kn24.more (by omega)⟩
                    rcases List.mem_append.mp hx with hx | hx
                    · rcases List.mem_append.mp hx with hx | hx
                      · exact (hit x (mem_cutV hx)).mono s6
                      · cases List.mem_singleton.mp hx
                        exact hio.big.mono ((((List.Sublist.refl _).cons _).cons _).cons _ |>.cons _)
                    · exact (hit x (mem_cutV hx)).mono s6
                  · exact kNext (stay _ (kn17.more (by omega)))
                · refine iteF ?_
                  exact kNext (stay _ (kn16.more (by omega)))
              · walk_at "go"
                refine iteF ?_
                exact kNext (stay _ (kn16.more (by omega)))
        · refine kIfS ?_
          walk_at "go"
          refine ⟨d, _, _, 4, rfl, by omega, by decide, by omega, kn15, fun c1 H13 c10 c11 kn16 => ?_⟩
          walk_at "go"
          have mr1 := s1.subset (List.mem_cons_of_mem (l1, HO.lst (zR zs)) mr)
          refine iteD (fun hw => ?_) (fun hw => ?_)
          · walk_at "go"
            rename_i la Ha ka lb Hb kb lc Hc kc ld Hd kd
            obtain ⟨z1, e1, i1⟩ := zcut zs none (some 3)
            obtain ⟨z2, e2, i2⟩ := zcut zs (some 4) none
            have hce := cut_ends (zR zs)
            rw [e1, e2, hzl] at hce
            rw [e1, e2] at kd
            have q1 : (zR z1).length = z1.length := by rw [List.length_map, List.length_map]
            have q2 : (zR z2).length = z2.length := by rw [List.length_map, List.length_map]
            refine kCatK (xs := zR z1) (ys := zR z2) kd (List.mem_cons_of_mem _ (List.mem_cons_of_mem _ List.mem_cons_self)) List.mem_cons_self (by omega) fun l4 H14 kn17 => ?_
            walk_at "go"
            have ez : zR z1 ++ zR z2 = zR (z1 ++ z2) := by simp only [zR, List.map_append]
            rw [ez] at kn17
            have s7 : L0.Sublist ((l4, HO.lst (zR (z1 ++ z2))) :: (ld, HO.lst (zR z2)) :: (lc, HO.lst (zR zs)) :: (lb, HO.lst (zR z1)) :: (la, HO.lst (zR zs)) :: L1) := (((((((List.sublist_cons_self _ _).trans s1).cons _).cons _).cons _).cons _).cons _)
            refine ⟨d, _, _, p, l4, xs, z1 ++ z2, rfl, hp, by omega, s7.subset mp, ⟨by rw [List.length_append]; omega, fun e he => ?_, fun e he => ?_⟩, List.mem_cons_self, kn17, fun v2 L4 H15 s4 hv4 kn18 => ?_⟩
            · rcases List.mem_append.mp he with he | he
              · exact s7.subset (hZ0.at_ e (i1 e he))
              · exact s7.subset (hZ0.at_ e (i2 e he))
            · rcases List.mem_append.mp he with he | he
              · exact hZ0.bnd e (i1 e he)
              · exact hZ0.bnd e (i2 e he)
            · exact join _ _ ⟨v2, L4, rfl, s7.trans s4, hv4, kn18.more (by omega)⟩
          · exact kNext (join _ _ ⟨v1, L1, rfl, (List.sublist_cons_self _ _).trans s1, hv1, kn16.more (by omega)⟩)
      · obtain ⟨x8, x9, x10, rfl, hu8, kn13⟩ := hW
        refine kIfS ?_
        walk_at "go"
        refine kCallP ?_
        walk_at "go"
        rename_i le H14 kn16
        refine ⟨d, _, _, p, .ref le, xs, rfl, hp, List.mem_cons_of_mem _ mp, kn16, .l5 List.mem_cons_self (fun x hx => (List.not_mem_nil hx).elim) (by decide), fun H15 kn17 => ?_⟩
        walk_at "go"
        refine iteF ?_
        exact kNext ⟨_, _, _, _, _, _, _, _, _, ps, cs, rfl, by omega, tb, (kn17.sub (sT.cons _)).more (by omega)⟩
    · refine kIfS ?_
      walk_at "go"
      have stay : ∀ {r : Addr} {bs : List Addr} {ms : List (Int × Int)} {X : Led} {ps : Array Value} {cs : List Addr} {H' : Hp}, PairsAt X bs ms → PrdOk xs ms → Tb ps cs → (p, HO.tup (xs.map V.int)) ∈ X → (tbL P0 lamQ ps cs).Sublist X → Kn d (5000 * t + 3400) ((r, HO.lst (bs.map V.ref)) :: X) H' → N [some (.ref a0), some (.ref d), some (.int (t : Int)), some (.ref p), some (.int (xs.length : Int)), some (.ref r), x6, x7, x8, x9, x10] H' := fun {r bs ms X ps cs H'} hP hA tb mpX sT k' => by
        obtain ⟨g1, g2⟩ := gz_of hp (by omega) hA hP
        have hl := hP.len
        have h30 := prd_len hp (by omega) hA
        exact join _ _ ⟨r, bs.zip ms, ms, ps, cs, _, rfl, hA, g1.mono (List.sublist_cons_self _ _), .of_pairs List.mem_cons_self (hP.up fun y hy => List.mem_cons_of_mem _ hy) (by omega), by rw [g2]; exact List.mem_cons_self, tb, List.mem_cons_of_mem _ mpX, sT.cons _, k'⟩
      have mp0 := sX0.subset (List.mem_cons_self (a := (p, HO.tup (xs.map V.int))) (l := tbL P0 lamQ ps cs))
      have sT0 := (List.sublist_cons_self _ _).trans sX0
      refine ⟨d, _, _, 2, rfl, by omega, by decide, by omega, kn6, fun c1 H7 c10 c11 kn7 => ?_⟩
      walk_at "go"
      refine iteD (fun hw => ?_) (fun hw => ?_)
      · have kn7' := kn7.sub (sX0.cons _)
        walk_at "go"
        refine ⟨d, _, _, p, xs, rfl, hp, by omega, List.mem_cons_self, kn7', fun q2 ls H8 hll hlr hlp kn8 => ?_⟩
        walk_at "go"
        refine ⟨d, _, [(q2, HO.tup (ls.map V.int)), (p, HO.tup (xs.map V.int))], ps, cs, p, q2, xs, ls, rfl, hp, hll, NoT.nil.tup.tup, by simp, by simp, tb, kn8, fun _ r bs ms X H9 ps' cs' tb' no' sX hP hpm hsr kn9 => ?_, fun c0 r0 hcl => ?_⟩
        · exact stay (hP.up fun y hy => List.mem_append_left _ hy) (pr_full hp hll hpm hsr) tb' (List.mem_append_left _ (sX.subset (by simp))) (List.sublist_append_right _ _) (kn9.more (by omega))
        · have hn := clash_nil xs ls
          rw [hcl, hlp] at hn
          exact absurd hn (by simp)
      · exact kNext (stay hP0 hA0 tb mp0 sT0 (kn7.more (by omega)))
  · walk_at "go"
    exact q _
abbrev s_init_NotProper : Stmt := inClass (topS 2) 0
theorem isc_NotProper : (∀ x ∈ (defScope s_init_NotProper).names, x.2 ≠ .cell) ∧ (defScope s_init_NotProper).names.lookup ("self" : Str) = some .local ∧ (defScope s_init_NotProper).names.lookup ("house" : Str) = some .local ∧ (defScope s_init_NotProper).names.lookup ("super" : Str) = some .globalImplicit ∧ (defScope s_init_NotProper).names.lookup ("__class__" : Str) = some .free := by decide +kernel
theorem all_mk {l : PySem.W.OpenLaw} {w : World} {K : PySem.W.Frag} {h : Heap} {mg : Str → Option Value} {fa f0 f1 f2 f3 f4 f5 f6 f7 f8 f9 f10 f11 f12 f13 f14 f15 f16 f17 f18 f19 f20 f21 f22 f23 f24 f25 f26 f27 f28 f29 f30 f31 f32 f33 : Addr} (X : K.In h) (G : h.Ns mainGlobals mg) (hfa : mg "law" = some (.ref fa)) {od0 an0 od1 an1 od2 an2 od3 an3 od4 an4 od5 an5 od6 an6 od7 an7 od8 an8 od9 an9 od10 an10 od11 an11 od12 an12 od13 an13 od14 an14 od15 an15 od16 an16 od17 an17 od18 an18 od19 an19 od20 an20 od21 an21 od22 an22 od23 an23 od24 an24 od25 an25 od26 an26 od27 an27 od28 an28 od29 an29 od30 an30 od31 an31 od32 an32 od33 an33 : Option Addr} {sl0 sl1 sl2 sl3 sl4 sl5 sl6 sl7 sl8 sl9 sl10 sl11 sl12 sl13 sl14 sl15 sl16 sl17 sl18 sl19 sl20 sl21 sl22 sl23 sl24 sl25 sl26 sl27 sl28 sl29 sl30 sl31 sl32 sl33 : Array (Option Value)} {oc0 kV0 dc0 pm0 cd0 ct0 oc1 kV1 dc1 pm1 cd1 ct1 oc2 kV2 dc2 pm2 cd2 ct2 oc3 kV3 dc3 pm3 cd3 ct3 oc4 kV4 dc4 pm4 ct4 oc5 kV5 dc5 pm5 cd5 ct5 oc6 kV6 dc6 pm6 cd6 ct6 oc7 kV7 dc7 pm7 cd7 ct7 oc8 kV8 dc8 pm8 cd8 ct8 oc9 kV9 dc9 pm9 cd9 ct9 oc10 kV10 dc10 pm10 cd10 ct10 oc11 kV11 dc11 pm11 cd11 ct11 oc12 kV12 dc12 pm12 cd12 ct12 oc13 kV13 dc13 pm13 cd13 ct13 oc14 kV14 dc14 pm14 cd14 ct14 oc15 kV15 dc15 pm15 cd15 ct15 oc16 kV16 dc16 pm16 cd16 ct16 oc17 kV17 dc17 pm17 cd17 ct17 oc18 kV18 dc18 pm18 cd18 ct18 oc19 kV19 dc19 pm19 cd19 ct19 oc20 kV20 dc20 pm20 cd20 ct20 oc21 kV21 dc21 pm21 cd21 ct21 oc22 kV22 dc22 pm22 cd22 ct22 oc23 kV23 dc23 pm23 cd23 ct23 oc24 kV24 dc24 pm24 cd24 ct24 oc25 kV25 dc25 pm25 cd25 ct25 oc26 kV26 dc26 pm26 cd26 ct26 oc27 kV27 dc27 pm27 cd27 ct27 oc28 kV28 dc28 pm28 cd28 ct28 oc29 kV29 dc29 pm29 cd29 ct29 oc30 kV30 dc30 pm30 cd30 ct30 oc31 kV31 dc31 pm31 cd31 ct31 oc32 kV32 dc32 pm32 cd32 ct32 oc33 kV33 dc33 pm33 cd33 ct33 : Value}
    (a0 : PySem.W.nsIn K mainGlobals "is_whole" = some (some (.ref f0))) (l0 : K.lookup f0 = some ⟨oc0, od0, .func (PySem.W.fnOf "is_whole" "is_whole" (defArgs s_is_whole) (defBody s_is_whole) (defScope s_is_whole) .none kV0 dc0 pm0 an0 cd0 ct0), sl0⟩) (c0 : PySem.W.codeIn K cd0 "is_whole" = true) (k0 : PySem.W.keepIn K (.ref f0) = true)
    (a1 : PySem.W.nsIn K mainGlobals "is_house" = some (some (.ref f1))) (l1 : K.lookup f1 = some ⟨oc1, od1, .func (PySem.W.fnOf "is_house" "is_house" (defArgs s_is_house) (defBody s_is_house) (defScope s_is_house) .none kV1 dc1 pm1 an1 cd1 ct1), sl1⟩) (c1 : PySem.W.codeIn K cd1 "is_house" = true) (k1 : PySem.W.keepIn K (.ref f1) = true)
    (a2 : PySem.W.nsIn K mainGlobals "clashing" = some (some (.ref f2))) (l2 : K.lookup f2 = some ⟨oc2, od2, .func (PySem.W.fnOf "clashing" "clashing" (defArgs s_clashing) (defBody s_clashing) (defScope s_clashing) .none kV2 dc2 pm2 an2 cd2 ct2), sl2⟩) (c2 : PySem.W.codeIn K cd2 "clashing" = true) (k2 : PySem.W.keepIn K (.ref f2) = true)
    (a3 : PySem.W.nsIn K mainGlobals "check_proper" = some (some (.ref f3))) (l3 : K.lookup f3 = some ⟨oc3, od3, .func (PySem.W.fnOf "check_proper" "check_proper" (defArgs s_check_proper) (defBody s_check_proper) (defScope s_check_proper) .none kV3 dc3 pm3 an3 cd3 ct3), sl3⟩) (c3 : PySem.W.codeIn K cd3 "check_proper" = true) (k3 : PySem.W.keepIn K (.ref f3) = true)
    {cT P0 : Addr}
    (a4 : PySem.W.nsIn K mainGlobals "by_hue" = some (some (.ref f4))) (l4 : K.lookup f4 = some ⟨oc4, od4, .func (PySem.W.fnOf "by_hue" "by_hue" (defArgs s_by_hue) (defBody s_by_hue) (defScope s_by_hue) .none kV4 dc4 pm4 an4 (.ref cT) ct4), sl4⟩) (c4 : PySem.W.codeIn K (.ref cT) "by_hue" = true) (k4 : PySem.W.keepIn K (.ref f4) = true)
    (a5 : PySem.W.nsIn K mainGlobals "unlike_place" = some (some (.ref f5))) (l5 : K.lookup f5 = some ⟨oc5, od5, .func (PySem.W.fnOf "unlike_place" "unlike_place" (defArgs s_unlike_place) (defBody s_unlike_place) (defScope s_unlike_place) .none kV5 dc5 pm5 an5 cd5 ct5), sl5⟩) (c5 : PySem.W.codeIn K cd5 "unlike_place" = true) (k5 : PySem.W.keepIn K (.ref f5) = true)
    (a6 : PySem.W.nsIn K mainGlobals "stepped" = some (some (.ref f6))) (l6 : K.lookup f6 = some ⟨oc6, od6, .func (PySem.W.fnOf "stepped" "stepped" (defArgs s_stepped) (defBody s_stepped) (defScope s_stepped) .none kV6 dc6 pm6 an6 cd6 ct6), sl6⟩) (c6 : PySem.W.codeIn K cd6 "stepped" = true) (k6 : PySem.W.keepIn K (.ref f6) = true)
    (a7 : PySem.W.nsIn K mainGlobals "step" = some (some (.ref f7))) (l7 : K.lookup f7 = some ⟨oc7, od7, .func (PySem.W.fnOf "step" "step" (defArgs s_step) (defBody s_step) (defScope s_step) .none kV7 dc7 pm7 an7 cd7 ct7), sl7⟩) (c7 : PySem.W.codeIn K cd7 "step" = true) (k7 : PySem.W.keepIn K (.ref f7) = true)
    (a8 : PySem.W.nsIn K mainGlobals "paired" = some (some (.ref f8))) (l8 : K.lookup f8 = some ⟨oc8, od8, .func (PySem.W.fnOf "paired" "paired" (defArgs s_paired) (defBody s_paired) (defScope s_paired) .none kV8 dc8 pm8 an8 cd8 ct8), sl8⟩) (c8 : PySem.W.codeIn K cd8 "paired" = true) (k8 : PySem.W.keepIn K (.ref f8) = true)
    (a9 : PySem.W.nsIn K mainGlobals "is_pair" = some (some (.ref f9))) (l9 : K.lookup f9 = some ⟨oc9, od9, .func (PySem.W.fnOf "is_pair" "is_pair" (defArgs s_is_pair) (defBody s_is_pair) (defScope s_is_pair) .none kV9 dc9 pm9 an9 cd9 ct9), sl9⟩) (c9 : PySem.W.codeIn K cd9 "is_pair" = true) (k9 : PySem.W.keepIn K (.ref f9) = true)
    (a10 : PySem.W.nsIn K mainGlobals "are_pairs" = some (some (.ref f10))) (l10 : K.lookup f10 = some ⟨oc10, od10, .func (PySem.W.fnOf "are_pairs" "are_pairs" (defArgs s_are_pairs) (defBody s_are_pairs) (defScope s_are_pairs) .none kV10 dc10 pm10 an10 cd10 ct10), sl10⟩) (c10 : PySem.W.codeIn K cd10 "are_pairs" = true) (k10 : PySem.W.keepIn K (.ref f10) = true)
    (a11 : PySem.W.nsIn K mainGlobals "is_paired" = some (some (.ref f11))) (l11 : K.lookup f11 = some ⟨oc11, od11, .func (PySem.W.fnOf "is_paired" "is_paired" (defArgs s_is_paired) (defBody s_is_paired) (defScope s_is_paired) .none kV11 dc11 pm11 an11 cd11 ct11), sl11⟩) (c11 : PySem.W.codeIn K cd11 "is_paired" = true) (k11 : PySem.W.keepIn K (.ref f11) = true)
    (a12 : PySem.W.nsIn K mainGlobals "halvings" = some (some (.ref f12))) (l12 : K.lookup f12 = some ⟨oc12, od12, .func (PySem.W.fnOf "halvings" "halvings" (defArgs s_halvings) (defBody s_halvings) (defScope s_halvings) .none kV12 dc12 pm12 an12 cd12 ct12), sl12⟩) (c12 : PySem.W.codeIn K cd12 "halvings" = true) (k12 : PySem.W.keepIn K (.ref f12) = true)
    (a13 : PySem.W.nsIn K mainGlobals "needed_steps" = some (some (.ref f13))) (l13 : K.lookup f13 = some ⟨oc13, od13, .func (PySem.W.fnOf "needed_steps" "needed_steps" (defArgs s_needed_steps) (defBody s_needed_steps) (defScope s_needed_steps) .none kV13 dc13 pm13 an13 cd13 ct13), sl13⟩) (c13 : PySem.W.codeIn K cd13 "needed_steps" = true) (k13 : PySem.W.keepIn K (.ref f13) = true)
    (a14 : PySem.W.nsIn K mainGlobals "shortenings" = some (some (.ref f14))) (l14 : K.lookup f14 = some ⟨oc14, od14, .func (PySem.W.fnOf "shortenings" "shortenings" (defArgs s_shortenings) (defBody s_shortenings) (defScope s_shortenings) .none kV14 dc14 pm14 an14 cd14 ct14), sl14⟩) (c14 : PySem.W.codeIn K cd14 "shortenings" = true) (k14 : PySem.W.keepIn K (.ref f14) = true)
    (a15 : PySem.W.nsIn K mainGlobals "taken_over" = some (some (.ref f15))) (l15 : K.lookup f15 = some ⟨oc15, od15, .func (PySem.W.fnOf "taken_over" "taken_over" (defArgs s_taken_over) (defBody s_taken_over) (defScope s_taken_over) .none kV15 dc15 pm15 an15 cd15 ct15), sl15⟩) (c15 : PySem.W.codeIn K cd15 "taken_over" = true) (k15 : PySem.W.keepIn K (.ref f15) = true)
    (a16 : PySem.W.nsIn K mainGlobals "given_up" = some (some (.ref f16))) (l16 : K.lookup f16 = some ⟨oc16, od16, .func (PySem.W.fnOf "given_up" "given_up" (defArgs s_given_up) (defBody s_given_up) (defScope s_given_up) .none kV16 dc16 pm16 an16 cd16 ct16), sl16⟩) (c16 : PySem.W.codeIn K cd16 "given_up" = true) (k16 : PySem.W.keepIn K (.ref f16) = true)
    (a17 : PySem.W.nsIn K mainGlobals "both_rounds" = some (some (.ref f17))) (l17 : K.lookup f17 = some ⟨oc17, od17, .func (PySem.W.fnOf "both_rounds" "both_rounds" (defArgs s_both_rounds) (defBody s_both_rounds) (defScope s_both_rounds) .none kV17 dc17 pm17 an17 cd17 ct17), sl17⟩) (c17 : PySem.W.codeIn K cd17 "both_rounds" = true) (k17 : PySem.W.keepIn K (.ref f17) = true)
    (a18 : PySem.W.nsIn K mainGlobals "all_labels" = some (some (.ref f18))) (l18 : K.lookup f18 = some ⟨oc18, od18, .func (PySem.W.fnOf "all_labels" "all_labels" (defArgs s_all_labels) (defBody s_all_labels) (defScope s_all_labels) .none kV18 dc18 pm18 an18 cd18 ct18), sl18⟩) (c18 : PySem.W.codeIn K cd18 "all_labels" = true) (k18 : PySem.W.keepIn K (.ref f18) = true)
    (a19 : PySem.W.nsIn K mainGlobals "hues" = some (some (.ref f19))) (l19 : K.lookup f19 = some ⟨oc19, od19, .func (PySem.W.fnOf "hues" "hues" (defArgs s_hues) (defBody s_hues) (defScope s_hues) .none kV19 dc19 pm19 an19 cd19 ct19), sl19⟩) (c19 : PySem.W.codeIn K cd19 "hues" = true) (k19 : PySem.W.keepIn K (.ref f19) = true)
    (a20 : PySem.W.nsIn K mainGlobals "_law_roll" = some (some (.ref f20))) (l20 : K.lookup f20 = some ⟨oc20, od20, .func (PySem.W.fnOf "_law_roll" "_law_roll" (defArgs s_law_roll) (defBody s_law_roll) (defScope s_law_roll) .none kV20 dc20 pm20 an20 cd20 ct20), sl20⟩) (c20 : PySem.W.codeIn K cd20 "_law_roll" = true) (k20 : PySem.W.keepIn K (.ref f20) = true)
    (a21 : PySem.W.nsIn K mainGlobals "_law_pointing" = some (some (.ref f21))) (l21 : K.lookup f21 = some ⟨oc21, od21, .func (PySem.W.fnOf "_law_pointing" "_law_pointing" (defArgs s_law_pointing) (defBody s_law_pointing) (defScope s_law_pointing) .none kV21 dc21 pm21 an21 cd21 ct21), sl21⟩) (c21 : PySem.W.codeIn K cd21 "_law_pointing" = true) (k21 : PySem.W.keepIn K (.ref f21) = true)
    (a22 : PySem.W.nsIn K mainGlobals "_law_whole" = some (some (.ref f22))) (l22 : K.lookup f22 = some ⟨oc22, od22, .func (PySem.W.fnOf "_law_whole" "_law_whole" (defArgs s_law_whole) (defBody s_law_whole) (defScope s_law_whole) .none kV22 dc22 pm22 an22 cd22 ct22), sl22⟩) (c22 : PySem.W.codeIn K cd22 "_law_whole" = true) (k22 : PySem.W.keepIn K (.ref f22) = true)
    (a23 : PySem.W.nsIn K mainGlobals "_law_bound" = some (some (.ref f23))) (l23 : K.lookup f23 = some ⟨oc23, od23, .func (PySem.W.fnOf "_law_bound" "_law_bound" (defArgs s_law_bound) (defBody s_law_bound) (defScope s_law_bound) .none kV23 dc23 pm23 an23 cd23 ct23), sl23⟩) (c23 : PySem.W.codeIn K cd23 "_law_bound" = true) (k23 : PySem.W.keepIn K (.ref f23) = true)
    (a24 : PySem.W.nsIn K mainGlobals "_law_names" = some (some (.ref f24))) (l24 : K.lookup f24 = some ⟨oc24, od24, .func (PySem.W.fnOf "_law_names" "_law_names" (defArgs s_law_names) (defBody s_law_names) (defScope s_law_names) .none kV24 dc24 pm24 an24 cd24 ct24), sl24⟩) (c24 : PySem.W.codeIn K cd24 "_law_names" = true) (k24 : PySem.W.keepIn K (.ref f24) = true)
    (a25 : PySem.W.nsIn K mainGlobals "_law_put" = some (some (.ref f25))) (l25 : K.lookup f25 = some ⟨oc25, od25, .func (PySem.W.fnOf "_law_put" "_law_put" (defArgs s_law_put) (defBody s_law_put) (defScope s_law_put) .none kV25 dc25 pm25 an25 cd25 ct25), sl25⟩) (c25 : PySem.W.codeIn K cd25 "_law_put" = true) (k25 : PySem.W.keepIn K (.ref f25) = true)
    (a26 : PySem.W.nsIn K mainGlobals "_law_ties" = some (some (.ref f26))) (l26 : K.lookup f26 = some ⟨oc26, od26, .func (PySem.W.fnOf "_law_ties" "_law_ties" (defArgs s_law_ties) (defBody s_law_ties) (defScope s_law_ties) .none kV26 dc26 pm26 an26 cd26 ct26), sl26⟩) (c26 : PySem.W.codeIn K cd26 "_law_ties" = true) (k26 : PySem.W.keepIn K (.ref f26) = true)
    (a27 : PySem.W.nsIn K mainGlobals "_law_labels" = some (some (.ref f27))) (l27 : K.lookup f27 = some ⟨oc27, od27, .func (PySem.W.fnOf "_law_labels" "_law_labels" (defArgs s_law_labels) (defBody s_law_labels) (defScope s_law_labels) .none kV27 dc27 pm27 an27 cd27 ct27), sl27⟩) (c27 : PySem.W.codeIn K cd27 "_law_labels" = true) (k27 : PySem.W.keepIn K (.ref f27) = true)
    (a28 : PySem.W.nsIn K mainGlobals "_law_is_paired" = some (some (.ref f28))) (l28 : K.lookup f28 = some ⟨oc28, od28, .func (PySem.W.fnOf "_law_is_paired" "_law_is_paired" (defArgs s_law_is_paired) (defBody s_law_is_paired) (defScope s_law_is_paired) .none kV28 dc28 pm28 an28 cd28 ct28), sl28⟩) (c28 : PySem.W.codeIn K cd28 "_law_is_paired" = true) (k28 : PySem.W.keepIn K (.ref f28) = true)
    (a29 : PySem.W.nsIn K mainGlobals "_law_by_order" = some (some (.ref f29))) (l29 : K.lookup f29 = some ⟨oc29, od29, .func (PySem.W.fnOf "_law_by_order" "_law_by_order" (defArgs s_law_by_order) (defBody s_law_by_order) (defScope s_law_by_order) .none kV29 dc29 pm29 an29 cd29 ct29), sl29⟩) (c29 : PySem.W.codeIn K cd29 "_law_by_order" = true) (k29 : PySem.W.keepIn K (.ref f29) = true)
    (a30 : PySem.W.nsIn K mainGlobals "_law_odd" = some (some (.ref f30))) (l30 : K.lookup f30 = some ⟨oc30, od30, .func (PySem.W.fnOf "_law_odd" "_law_odd" (defArgs s_law_odd) (defBody s_law_odd) (defScope s_law_odd) .none kV30 dc30 pm30 an30 cd30 ct30), sl30⟩) (c30 : PySem.W.codeIn K cd30 "_law_odd" = true) (k30 : PySem.W.keepIn K (.ref f30) = true)
    (a31 : PySem.W.nsIn K mainGlobals "_law_bent" = some (some (.ref f31))) (l31 : K.lookup f31 = some ⟨oc31, od31, .func (PySem.W.fnOf "_law_bent" "_law_bent" (defArgs s_law_bent) (defBody s_law_bent) (defScope s_law_bent) .none kV31 dc31 pm31 an31 cd31 ct31), sl31⟩) (c31 : PySem.W.codeIn K cd31 "_law_bent" = true) (k31 : PySem.W.keepIn K (.ref f31) = true)
    (a32 : PySem.W.nsIn K mainGlobals "_law_right" = some (some (.ref f32))) (l32 : K.lookup f32 = some ⟨oc32, od32, .func (PySem.W.fnOf "_law_right" "_law_right" (defArgs s_law_right) (defBody s_law_right) (defScope s_law_right) .none kV32 dc32 pm32 an32 cd32 ct32), sl32⟩) (c32 : PySem.W.codeIn K cd32 "_law_right" = true) (k32 : PySem.W.keepIn K (.ref f32) = true)
    (a33 : PySem.W.nsIn K mainGlobals "law" = some (some (.ref f33))) (l33 : K.lookup f33 = some ⟨oc33, od33, .func (PySem.W.fnOf "law" "law" (defArgs s_law) (defBody s_law) (defScope s_law) .none kV33 dc33 pm33 an33 cd33 ct33), sl33⟩) (c33 : PySem.W.codeIn K cd33 "law" = true) (k33 : PySem.W.keepIn K (.ref f33) = true)
    {t0 : Addr} {u0 : Option Addr} {n0 : Nat} {s0 : Array (Option Value)} {w0_0 w0_1 w0_2 : Tok} (x0 : PySem.W.nsIn K mainGlobals "LEFT_HUES" = some (some (.ref t0))) (y0 : K.lookup t0 = some ⟨.type "tuple", u0, .seq #[.int 0 w0_0, .int 1 w0_1, .int 2 w0_2] n0, s0⟩)
    {t1 : Addr} {u1 : Option Addr} {n1 : Nat} {s1 : Array (Option Value)} {w1_0 w1_1 w1_2 : Tok} (x1 : PySem.W.nsIn K mainGlobals "GONE_HUES" = some (some (.ref t1))) (y1 : K.lookup t1 = some ⟨.type "tuple", u1, .seq #[.int 5 w1_0, .int 4 w1_1, .int 3 w1_2] n1, s1⟩)
    {t2 : Tok} (x2 : PySem.W.nsIn K mainGlobals "SHORT" = some (some (.int 6 t2)))
    {C_HueError : Addr} (gC_HueError : PySem.W.nsIn K mainGlobals "HueError" = some (some (.ref C_HueError)))
    {C_NotProper : Addr} (gC_NotProper : PySem.W.nsIn K mainGlobals "NotProper" = some (some (.ref C_NotProper)))
    (zsup : PySem.W.nsIn K mainGlobals "super" = some none) (znoO : PySem.W.nsIn K cStatics "thirdparty.any" = some none)
    (ztop : (l.prog.main.scope.names.lookup ("super" : Str)).isSome = false)
    {nm_E q_E : Str} {N_E : Addr} {bs_E : List Value} {sn_E : List Str} {sub_E : List Value} {ab_E : Bool} {col_E : Option Bool} {dd_E : Option Addr} {m0_E m1_E m2_E m3_E m5_E : Option Value} (xL_E : K.lookup C_HueError = some (PySem.excClassObj nm_E q_E C_HueError N_E bs_E [.type "ValueError", .type "Exception", .type "BaseException", .type "object"] true sn_E sub_E ab_E col_E dd_E m0_E m1_E m2_E m3_E m5_E "ValueError.__new__")) (iC_E : PySem.W.findIn K (.ref C_HueError) "__init__" = some (some (.builtin "ValueError.__init__")))
    {nm_NotProper q_NotProper : Str} {N_NotProper fI_NotProper cda_NotProper cc_NotProper : Addr} {bs_NotProper : List Value} {sn_NotProper : List Str} {sub_NotProper : List Value} {ab_NotProper : Bool} {col_NotProper : Option Bool} {dd_NotProper odI_NotProper anI_NotProper e1_NotProper e2_NotProper : Option Addr} {m0_NotProper m1_NotProper m2_NotProper m3_NotProper m5_NotProper : Option Value} {ocI_NotProper kVI_NotProper dcI_NotProper pmI_NotProper ctI_NotProper c1_NotProper c2_NotProper : Value} {slI_NotProper s1_NotProper s2_NotProper : Array (Option Value)} {vs_NotProper : Array Value} {file_NotProper : Str} {tf_NotProper : Tok}
    (xL_NotProper : K.lookup C_NotProper = some (PySem.excClassObj nm_NotProper q_NotProper C_NotProper N_NotProper bs_NotProper [.ref C_HueError, .type "ValueError", .type "Exception", .type "BaseException", .type "object"] true sn_NotProper sub_NotProper ab_NotProper col_NotProper dd_NotProper m0_NotProper m1_NotProper m2_NotProper m3_NotProper m5_NotProper "ValueError.__new__"))
    (sa_NotProper : PySem.W.findIn K (.ref C_NotProper) "__setattr__" = some (some (.builtin "object.__setattr__")))
    (ga_NotProper : PySem.W.findIn K (.ref C_NotProper) "__getattribute__" = some (some (.builtin "BaseException.__getattribute__")))
    (gg_NotProper : PySem.W.findIn K (.ref C_NotProper) "__getattr__" = some none)
    (nN_NotProper : PySem.W.findIn K (.ref C_NotProper) "house" = some none)
    (iC_NotProper : PySem.W.findIn K (.ref C_NotProper) "__init__" = some (some (.ref fI_NotProper)))
    (tI_NotProper : PySem.W.typeIn K (.ref fI_NotProper) = some (.type "function"))
    (kC_NotProper : PySem.W.keepIn K (.ref C_NotProper) = true)
    (eC_NotProper : PySem.W.subIn K (.ref C_NotProper) (.type "BaseException") = some true)
    (vC_NotProper : PySem.W.subIn K (.ref C_NotProper) (.type "ValueError") = some true)
    (sC_NotProper : PySem.W.subIn K (.ref C_NotProper) (.ref C_NotProper) = some true)
    (tC_NotProper : PySem.W.typeIn K (.ref C_NotProper) = some (.type "type"))
    (hC_NotProper : PySem.W.hasDictIn K C_NotProper = true)
    (cl_NotProper : PySem.W.findIn K (.ref C_NotProper) "__class__" = some (some (.builtin "object.__class__")))
    (sp_NotProper : PySem.W.specialIn K (.builtin "object.__class__") "__get__" = some (some (.builtin "getset_descriptor.__get__")))
    (tk_NotProper : PySem.W.takesIn K (.builtin "object.__class__") = some true)
    (mo_NotProper : PySem.W.mroIn K C_NotProper (.type "object") = some true)
    (lI_NotProper : K.lookup fI_NotProper = some ⟨ocI_NotProper, odI_NotProper, .func (PySem.W.ksFn "__init__" "NotProper.__init__" (defArgs s_init_NotProper) (defBody s_init_NotProper) (defScope s_init_NotProper) .none kVI_NotProper dcI_NotProper pmI_NotProper anI_NotProper (.ref cda_NotProper) ctI_NotProper cc_NotProper), slI_NotProper⟩)
    (cI_NotProper : PySem.W.codeIn K (.ref cda_NotProper) "NotProper.__init__" = true)
    (lD_NotProper : K.lookup cda_NotProper = some ⟨c1_NotProper, e1_NotProper, .fields vs_NotProper, s1_NotProper⟩)
    (vD_NotProper : vs_NotProper[2]? = some (.str file_NotProper tf_NotProper))
    (fD_NotProper : ((l.prog.main.file : Str) == file_NotProper) = true)
    (lK_NotProper : K.lookup cc_NotProper = some ⟨c2_NotProper, e2_NotProper, .cell (some (.ref C_NotProper)), s2_NotProper⟩)
    (z0 : PySem.W.nsIn K mainGlobals "len" = some none)
    (z1 : PySem.W.nsIn K mainGlobals "range" = some none)
    (z2 : PySem.W.nsIn K mainGlobals "max" = some none)
    (z3 : PySem.W.nsIn K mainGlobals "min" = some none)
    (z4 : PySem.W.nsIn K mainGlobals "int" = some none)
    (z5 : PySem.W.nsIn K mainGlobals "bool" = some none)
    (z6 : PySem.W.nsIn K mainGlobals "str" = some none)
    (z7 : PySem.W.nsIn K mainGlobals "list" = some none)
    (z8 : PySem.W.nsIn K mainGlobals "tuple" = some none)
    (z9 : PySem.W.nsIn K mainGlobals "isinstance" = some none)
    (z10 : PySem.W.nsIn K mainGlobals "repr" = some none)
    (z11 : PySem.W.nsIn K mainGlobals "all" = some none)
    (z12 : PySem.W.nsIn K mainGlobals "any" = some none)
    (z13 : PySem.W.nsIn K mainGlobals "enumerate" = some none)
    (z14 : PySem.W.nsIn K mainGlobals "sorted" = some none)
    (z15 : PySem.W.nsIn K mainGlobals "ValueError" = some none)
    (z16 : PySem.W.nsIn K mainGlobals "zip" = some none)
    (z17 : PySem.W.nsIn K mainGlobals "sum" = some none)
    (z18 : PySem.W.nsIn K mainGlobals "set" = some none)
    (z19 : PySem.W.nsIn K mainGlobals "reversed" = some none)
    (z20 : PySem.W.nsIn K mainGlobals "divmod" = some none)
    (z21 : PySem.W.nsIn K mainGlobals "dict" = some none)
    (tI : PySem.W.tabIn K "by_hue" = some (cT, P0)) (tN : K.lookup P0 = none) :
    ∃ (fd : FuncData) (c P : Addr) (sp : Sp), PySem.W.tabIn K "by_hue" = some (c, P) ∧ K.lookup P = none ∧ (∀ (s : Shared) (v : Value), BindsTo s fd ⟨[v], []⟩ [("script", v)]) ∧ (∀ (H : Hp) (a : Addr) (ns : List Int), ns.length ≤ 63 → H P = some (.tbl #[]) → SqL K H a (ns.map V.int) → sp [.ref a] H (fun v _ => v = .bl true) fun _ _ _ => False) ∧ ∀ base : Heap, K.In base → base.Ns mainGlobals mg → LamX.TabB base mg c P → FnG l.prog w K mg base 10 fa fd ["script"] sp := by
  have e := hfa.symm.trans (PySem.W.mg_of X G a33)
  cases e
  have M : Bl mg := ⟨PySem.W.mg_none_of X G z0, PySem.W.mg_none_of X G z1, PySem.W.mg_none_of X G z2, PySem.W.mg_none_of X G z3, PySem.W.mg_none_of X G z4, PySem.W.mg_none_of X G z5, PySem.W.mg_none_of X G z6, PySem.W.mg_none_of X G z7, PySem.W.mg_none_of X G z8, PySem.W.mg_none_of X G z9, PySem.W.mg_none_of X G z10, PySem.W.mg_none_of X G z11, PySem.W.mg_none_of X G z12, PySem.W.mg_none_of X G z13, PySem.W.mg_none_of X G z14, PySem.W.mg_none_of X G z15, PySem.W.mg_none_of X G z16, PySem.W.mg_none_of X G z17, PySem.W.mg_none_of X G z18, PySem.W.mg_none_of X G z19, PySem.W.mg_none_of X G z20, PySem.W.mg_none_of X G z21⟩
  have F0 := fun_mk (st := s_is_whole) l0 c0 k0
  have D0 : Df K mg "is_whole" s_is_whole ["thing"] _ _ := ⟨F0, PySem.W.mg_of X G a0, F0.binds (ps := ["thing"]) fun _ _ _ _ _ _ us hl => match us, hl with | [_], _ => rfl⟩
  have F1 := fun_mk (st := s_is_house) l1 c1 k1
  have D1 : Df K mg "is_house" s_is_house ["thing", "many"] _ _ := ⟨F1, PySem.W.mg_of X G a1, F1.binds (ps := ["thing", "many"]) fun _ _ _ _ _ _ us hl => match us, hl with | [_, _], _ => rfl⟩
  have F2 := fun_mk (st := s_clashing) l2 c2 k2
  have D2 : Df K mg "clashing" s_clashing ["pointing", "labels"] _ _ := ⟨F2, PySem.W.mg_of X G a2, F2.binds (ps := ["pointing", "labels"]) fun _ _ _ _ _ _ us hl => match us, hl with | [_, _], _ => rfl⟩
  have F3 := fun_mk (st := s_check_proper) l3 c3 k3
  have D3 : Df K mg "check_proper" s_check_proper ["pointing", "labels"] _ _ := ⟨F3, PySem.W.mg_of X G a3, F3.binds (ps := ["pointing", "labels"]) fun _ _ _ _ _ _ us hl => match us, hl with | [_, _], _ => rfl⟩
  have F4 := fun_mk (st := s_by_hue) l4 c4 k4
  have D4 : Df K mg "by_hue" s_by_hue ["labels"] _ _ := ⟨F4, PySem.W.mg_of X G a4, F4.binds (ps := ["labels"]) fun _ _ _ _ _ _ us hl => match us, hl with | [_], _ => rfl⟩
  have F5 := fun_mk (st := s_unlike_place) l5 c5 k5
  have D5 : Df K mg "unlike_place" s_unlike_place ["one", "other"] _ _ := ⟨F5, PySem.W.mg_of X G a5, F5.binds (ps := ["one", "other"]) fun _ _ _ _ _ _ us hl => match us, hl with | [_, _], _ => rfl⟩
  have F6 := fun_mk (st := s_stepped) l6 c6 k6
  have D6 : Df K mg "stepped" s_stepped ["label", "goal_label"] _ _ := ⟨F6, PySem.W.mg_of X G a6, F6.binds (ps := ["label", "goal_label"]) fun _ _ _ _ _ _ us hl => match us, hl with | [_, _], _ => rfl⟩
  have F7 := fun_mk (st := s_step) l7 c7 k7
  have D7 : Df K mg "step" s_step ["pointing", "labels"] _ _ := ⟨F7, PySem.W.mg_of X G a7, F7.binds (ps := ["pointing", "labels"]) fun _ _ _ _ _ _ us hl => match us, hl with | [_, _], _ => rfl⟩
  have F8 := fun_mk (st := s_paired) l8 c8 k8
  have D8 : Df K mg "paired" s_paired ["pointing", "labels"] _ _ := ⟨F8, PySem.W.mg_of X G a8, F8.binds (ps := ["pointing", "labels"]) fun _ _ _ _ _ _ us hl => match us, hl with | [_, _], _ => rfl⟩
  have F9 := fun_mk (st := s_is_pair) l9 c9 k9
  have D9 : Df K mg "is_pair" s_is_pair ["pointing", "thing"] _ _ := ⟨F9, PySem.W.mg_of X G a9, F9.binds (ps := ["pointing", "thing"]) fun _ _ _ _ _ _ us hl => match us, hl with | [_, _], _ => rfl⟩
  have F10 := fun_mk (st := s_are_pairs) l10 c10 k10
  have D10 : Df K mg "are_pairs" s_are_pairs ["pointing", "thing"] _ _ := ⟨F10, PySem.W.mg_of X G a10, F10.binds (ps := ["pointing", "thing"]) fun _ _ _ _ _ _ us hl => match us, hl with | [_, _], _ => rfl⟩
  have F11 := fun_mk (st := s_is_paired) l11 c11 k11
  have D11 : Df K mg "is_paired" s_is_paired ["pointing", "thing"] _ _ := ⟨F11, PySem.W.mg_of X G a11, F11.binds (ps := ["pointing", "thing"]) fun _ _ _ _ _ _ us hl => match us, hl with | [_, _], _ => rfl⟩
  have F12 := fun_mk (st := s_halvings) l12 c12 k12
  have D12 : Df K mg "halvings" s_halvings ["m"] _ _ := ⟨F12, PySem.W.mg_of X G a12, F12.binds (ps := ["m"]) fun _ _ _ _ _ _ us hl => match us, hl with | [_], _ => rfl⟩
  have F13 := fun_mk (st := s_needed_steps) l13 c13 k13
  have D13 : Df K mg "needed_steps" s_needed_steps ["m"] _ _ := ⟨F13, PySem.W.mg_of X G a13, F13.binds (ps := ["m"]) fun _ _ _ _ _ _ us hl => match us, hl with | [_], _ => rfl⟩
  have F14 := fun_mk (st := s_shortenings) l14 c14 k14
  have D14 : Df K mg "shortenings" s_shortenings ["pointing", "names", "m"] _ _ := ⟨F14, PySem.W.mg_of X G a14, F14.binds (ps := ["pointing", "names", "m"]) fun _ _ _ _ _ _ us hl => match us, hl with | [_, _, _], _ => rfl⟩
  have F15 := fun_mk (st := s_taken_over) l15 c15 k15
  have D15 : Df K mg "taken_over" s_taken_over ["pointing", "labels"] _ _ := ⟨F15, PySem.W.mg_of X G a15, F15.binds (ps := ["pointing", "labels"]) fun _ _ _ _ _ _ us hl => match us, hl with | [_, _], _ => rfl⟩
  have F16 := fun_mk (st := s_given_up) l16 c16 k16
  have D16 : Df K mg "given_up" s_given_up ["ahead", "label", "goal_label", "hue"] _ _ := ⟨F16, PySem.W.mg_of X G a16, F16.binds (ps := ["ahead", "label", "goal_label", "hue"]) fun _ _ _ _ _ _ us hl => match us, hl with | [_, _, _, _], _ => rfl⟩
  have F17 := fun_mk (st := s_both_rounds) l17 c17 k17
  have D17 : Df K mg "both_rounds" s_both_rounds ["pointing", "labels", "hue"] _ _ := ⟨F17, PySem.W.mg_of X G a17, F17.binds (ps := ["pointing", "labels", "hue"]) fun _ _ _ _ _ _ us hl => match us, hl with | [_, _, _], _ => rfl⟩
  have F18 := fun_mk (st := s_all_labels) l18 c18 k18
  have D18 : Df K mg "all_labels" s_all_labels ["pointing", "names", "m"] _ _ := ⟨F18, PySem.W.mg_of X G a18, F18.binds (ps := ["pointing", "names", "m"]) fun _ _ _ _ _ _ us hl => match us, hl with | [_, _, _], _ => rfl⟩
  have F19 := fun_mk (st := s_hues) l19 c19 k19
  have D19 : Df K mg "hues" s_hues ["pointing", "names", "m"] _ _ := ⟨F19, PySem.W.mg_of X G a19, F19.binds (ps := ["pointing", "names", "m"]) fun _ _ _ _ _ _ us hl => match us, hl with | [_, _, _], _ => rfl⟩
  have F20 := fun_mk (st := s_law_roll) l20 c20 k20
  have D20 : Df K mg "_law_roll" s_law_roll ["dice", "size"] _ _ := ⟨F20, PySem.W.mg_of X G a20, F20.binds (ps := ["dice", "size"]) fun _ _ _ _ _ _ us hl => match us, hl with | [_, _], _ => rfl⟩
  have F21 := fun_mk (st := s_law_pointing) l21 c21 k21
  have D21 : Df K mg "_law_pointing" s_law_pointing ["dice", "most"] _ _ := ⟨F21, PySem.W.mg_of X G a21, F21.binds (ps := ["dice", "most"]) fun _ _ _ _ _ _ us hl => match us, hl with | [_, _], _ => rfl⟩
  have F22 := fun_mk (st := s_law_whole) l22 c22 k22
  have D22 : Df K mg "_law_whole" s_law_whole ["thing"] _ _ := ⟨F22, PySem.W.mg_of X G a22, F22.binds (ps := ["thing"]) fun _ _ _ _ _ _ us hl => match us, hl with | [_], _ => rfl⟩
  have F23 := fun_mk (st := s_law_bound) l23 c23 k23
  have D23 : Df K mg "_law_bound" s_law_bound ["dice", "n"] _ _ := ⟨F23, PySem.W.mg_of X G a23, F23.binds (ps := ["dice", "n"]) fun _ _ _ _ _ _ us hl => match us, hl with | [_, _], _ => rfl⟩
  have F24 := fun_mk (st := s_law_names) l24 c24 k24
  have D24 : Df K mg "_law_names" s_law_names ["dice", "n", "m"] _ _ := ⟨F24, PySem.W.mg_of X G a24, F24.binds (ps := ["dice", "n", "m"]) fun _ _ _ _ _ _ us hl => match us, hl with | [_, _, _], _ => rfl⟩
  have F25 := fun_mk (st := s_law_put) l25 c25 k25
  have D25 : Df K mg "_law_put" s_law_put ["things", "at", "what"] _ _ := ⟨F25, PySem.W.mg_of X G a25, F25.binds (ps := ["things", "at", "what"]) fun _ _ _ _ _ _ us hl => match us, hl with | [_, _, _], _ => rfl⟩
  have F26 := fun_mk (st := s_law_ties) l26 c26 k26
  have D26 : Df K mg "_law_ties" s_law_ties ["pointing"] _ _ := ⟨F26, PySem.W.mg_of X G a26, F26.binds (ps := ["pointing"]) fun _ _ _ _ _ _ us hl => match us, hl with | [_], _ => rfl⟩
  have F27 := fun_mk (st := s_law_labels) l27 c27 k27
  have D27 : Df K mg "_law_labels" s_law_labels ["dice", "pointing"] _ _ := ⟨F27, PySem.W.mg_of X G a27, F27.binds (ps := ["dice", "pointing"]) fun _ _ _ _ _ _ us hl => match us, hl with | [_, _], _ => rfl⟩
  have F28 := fun_mk (st := s_law_is_paired) l28 c28 k28
  have D28 : Df K mg "_law_is_paired" s_law_is_paired ["pointing", "thing"] _ _ := ⟨F28, PySem.W.mg_of X G a28, F28.binds (ps := ["pointing", "thing"]) fun _ _ _ _ _ _ us hl => match us, hl with | [_, _], _ => rfl⟩
  have F29 := fun_mk (st := s_law_by_order) l29 c29 k29
  have D29 : Df K mg "_law_by_order" s_law_by_order ["dice", "pointing"] _ _ := ⟨F29, PySem.W.mg_of X G a29, F29.binds (ps := ["dice", "pointing"]) fun _ _ _ _ _ _ us hl => match us, hl with | [_, _], _ => rfl⟩
  have F30 := fun_mk (st := s_law_odd) l30 c30 k30
  have D30 : Df K mg "_law_odd" s_law_odd ["dice", "pointing"] _ _ := ⟨F30, PySem.W.mg_of X G a30, F30.binds (ps := ["dice", "pointing"]) fun _ _ _ _ _ _ us hl => match us, hl with | [_, _], _ => rfl⟩
  have F31 := fun_mk (st := s_law_bent) l31 c31 k31
  have D31 : Df K mg "_law_bent" s_law_bent ["dice", "pointing", "good"] _ _ := ⟨F31, PySem.W.mg_of X G a31, F31.binds (ps := ["dice", "pointing", "good"]) fun _ _ _ _ _ _ us hl => match us, hl with | [_, _, _], _ => rfl⟩
  have F32 := fun_mk (st := s_law_right) l32 c32 k32
  have D32 : Df K mg "_law_right" s_law_right ["pointing", "thing"] _ _ := ⟨F32, PySem.W.mg_of X G a32, F32.binds (ps := ["pointing", "thing"]) fun _ _ _ _ _ _ us hl => match us, hl with | [_, _], _ => rfl⟩
  have F33 := fun_mk (st := s_law) l33 c33 k33
  have D33 : Df K mg "law" s_law ["script"] _ _ := ⟨F33, PySem.W.mg_of X G a33, F33.binds (ps := ["script"]) fun _ _ _ _ _ _ us hl => match us, hl with | [_], _ => rfl⟩
  have T_NotProper : ExT l.prog K mg "house" C_NotProper fI_NotProper [.type "ValueError", .type "Exception", .type "BaseException", .type "object"] := ⟨⟨_, _, _, _, _, _, _, _, _, _, _, _, _, _, _, xL_NotProper, rfl⟩, PySem.F.excBase_ValueError, excInit_of xL_NotProper rfl, sa_NotProper, nN_NotProper, iC_NotProper, tI_NotProper, kC_NotProper, eC_NotProper, vC_NotProper, sC_NotProper, tC_NotProper, super_of xL_NotProper xL_E iC_E, znoO, PySem.W.mg_none_of X G zsup, ztop⟩
  have J_NotProper : ExI l.prog K "house" C_NotProper fI_NotProper (PySem.W.ksFn "__init__" "NotProper.__init__" (defArgs s_init_NotProper) (defBody s_init_NotProper) (defScope s_init_NotProper) .none kVI_NotProper dcI_NotProper pmI_NotProper anI_NotProper (.ref cda_NotProper) ctI_NotProper cc_NotProper) _ :=
    ⟨⟨_, _, _, lI_NotProper⟩, ⟨_, _, _, _, _, _, _, _, _, rfl, fun env => ⟨_, rfl⟩, fun env => rfl, fun env => rfl⟩, fun s x v => .of_eq rfl, isc_NotProper.1, rfl, rfl, rfl, isc_NotProper.2.1, isc_NotProper.2.2.1, isc_NotProper.2.2.2.1, isc_NotProper.2.2.2.2, ⟨_, _, _, _, _, _, _, rfl, lD_NotProper, vD_NotProper, fD_NotProper⟩, cI_NotProper, ⟨_, _, _, _, rfl, lK_NotProper⟩, rfl, rfl, ⟨_, rfl, rfl⟩, by decide, by decide⟩
  have E_NotProper : Rf l.prog K mg "NotProper" "house" C_NotProper fI_NotProper _ _ [.type "ValueError", .type "Exception", .type "BaseException", .type "object"] := ⟨T_NotProper, J_NotProper, fun w => msg_const, PySem.W.mg_of X G gC_NotProper⟩
  exact ⟨PySem.W.fnOf "law" "law" (defArgs s_law) (defBody s_law) (defScope s_law) .none kV33 dc33 pm33 an33 cd33 ct33, cT, P0, spLawT P0 K, tI, tN, fun s v => .of_eq rfl, fun H a ns hl hP hS => ⟨a, ns, rfl, hP, hS, hl, fun _ => rfl⟩, fun base _ _ TB => ok_law E_NotProper D0 D1 D2 D3 D4 D5 D6 D7 D8 D9 D10 D11 D12 D13 D14 D15 D16 D17 D18 D19 D20 D21 D22 D23 D24 D25 D26 D27 D28 D29 D30 D31 D32 D33 ⟨_, PySem.W.mg_of X G x0, fun H => .inr ⟨_, _, _, y0, rfl, rfl, szL (by show 3 ≤ 100000; decide), (.cons ⟨_, rfl⟩ (.cons ⟨_, rfl⟩ (.cons ⟨_, rfl⟩ .nil)))⟩⟩ ⟨_, PySem.W.mg_of X G x1, fun H => .inr ⟨_, _, _, y1, rfl, rfl, szL (by show 3 ≤ 100000; decide), (.cons ⟨_, rfl⟩ (.cons ⟨_, rfl⟩ (.cons ⟨_, rfl⟩ .nil)))⟩⟩ ⟨_, PySem.W.mg_of X G x2⟩ rfl TB M⟩
end Rg
open PySem PySem.W PyProof.Rows
set_option maxRecDepth 100000 in
set_option maxHeartbeats 0 in
theorem PySem.Challenge.cw_ringhue_k63_pairs_looked_at_holds : PySem.Challenge.rw_ringhue_k63_pairs_looked_at.Holds := by
  w_on; o_law; k_head; (case hw => w_witness2)
  k_fill
  refine Rg.walk_ofTabG (l := PySem.Challenge.rw_ringhue_k63_pairs_looked_at) (n := 63) (k := 10) (x := "script") (y := "by_hue") rfl (by decide) rfl ⟨rfl, by decide, by decide⟩ (fun w h Y => PySem.W.km_in_of Y) rfl ?F
  case F =>
    intro w mg fa h KX G hmg
    refine' Rg.all_mk KX G hmg ?a0 ?l0 ?c0 ?k0 ?a1 ?l1 ?c1 ?k1 ?a2 ?l2 ?c2 ?k2 ?a3 ?l3 ?c3 ?k3 ?a4 ?l4 ?c4 ?k4 ?a5 ?l5 ?c5 ?k5 ?a6 ?l6 ?c6 ?k6 ?a7 ?l7 ?c7 ?k7 ?a8 ?l8 ?c8 ?k8 ?a9 ?l9 ?c9 ?k9 ?a10 ?l10 ?c10 ?k10 ?a11 ?l11 ?c11 ?k11 ?a12 ?l12 ?c12 ?k12 ?a13 ?l13 ?c13 ?k13 ?a14 ?l14 ?c14 ?k14 ?a15 ?l15 ?c15 ?k15 ?a16 ?l16 ?c16 ?k16 ?a17 ?l17 ?c17 ?k17 ?a18 ?l18 ?c18 ?k18 ?a19 ?l19 ?c19 ?k19 ?a20 ?l20 ?c20 ?k20 ?a21 ?l21 ?c21 ?k21 ?a22 ?l22 ?c22 ?k22 ?a23 ?l23 ?c23 ?k23 ?a24 ?l24 ?c24 ?k24 ?a25 ?l25 ?c25 ?k25 ?a26 ?l26 ?c26 ?k26 ?a27 ?l27 ?c27 ?k27 ?a28 ?l28 ?c28 ?k28 ?a29 ?l29 ?c29 ?k29 ?a30 ?l30 ?c30 ?k30 ?a31 ?l31 ?c31 ?k31 ?a32 ?l32 ?c32 ?k32 ?a33 ?l33 ?c33 ?k33 ?x0 ?y0 ?x1 ?y1 ?x2 ?gC_HueError ?gC_NotProper ?zsup ?znoO ?ztop ?xL_E ?iC_E ?xL_NotProper ?sa_NotProper ?ga_NotProper ?gg_NotProper ?nN_NotProper ?iC_NotProper ?tI_NotProper ?kC_NotProper ?eC_NotProper ?vC_NotProper ?sC_NotProper ?tC_NotProper ?hC_NotProper ?cl_NotProper ?sp_NotProper ?tk_NotProper ?mo_NotProper ?lI_NotProper ?cI_NotProper ?lD_NotProper ?vD_NotProper ?fD_NotProper ?lK_NotProper ?z0 ?z1 ?z2 ?z3 ?z4 ?z5 ?z6 ?z7 ?z8 ?z9 ?z10 ?z11 ?z12 ?z13 ?z14 ?z15 ?z16 ?z17 ?z18 ?z19 ?z20 ?z21 ?tI ?tN
    (case a0 => k_is)
    (case l0 => k_is)
    (case c0 => k_is)
    (case k0 => k_is)
    (case a1 => k_is)
    (case l1 => k_is)
    (case c1 => k_is)
    (case k1 => k_is)
    (case a2 => k_is)
    (case l2 => k_is)
    (case c2 => k_is)
    (case k2 => k_is)
    (case a3 => k_is)
    (case l3 => k_is)
    (case c3 => k_is)
    (case k3 => k_is)
    (case a4 => k_is)
    (case l4 => k_is)
    (case c4 => k_is)
    (case k4 => k_is)
    (case a5 => k_is)
    (case l5 => k_is)
    (case c5 => k_is)
    (case k5 => k_is)
    (case a6 => k_is)
    (case l6 => k_is)
    (case c6 => k_is)
    (case k6 => k_is)
    (case a7 => k_is)
    (case l7 => k_is)
    (case c7 => k_is)
    (case k7 => k_is)
    (case a8 => k_is)
    (case l8 => k_is)
    (case c8 => k_is)
    (case k8 => k_is)
    (case a9 => k_is)
    (case l9 => k_is)
    (case c9 => k_is)
    (case k9 => k_is)
    (case a10 => k_is)
    (case l10 => k_is)
    (case c10 => k_is)
    (case k10 => k_is)
    (case a11 => k_is)
    (case l11 => k_is)
    (case c11 => k_is)
    (case k11 => k_is)
    (case a12 => k_is)
    (case l12 => k_is)
    (case c12 => k_is)
    (case k12 => k_is)
    (case a13 => k_is)
    (case l13 => k_is)
    (case c13 => k_is)
    (case k13 => k_is)
    (case a14 => k_is)
    (case l14 => k_is)
    (case c14 => k_is)
    (case k14 => k_is)
    (case a15 => k_is)
    (case l15 => k_is)
    (case c15 => k_is)
    (case k15 => k_is)
    (case a16 => k_is)
    (case l16 => k_is)
    (case c16 => k_is)
    (case k16 => k_is)
    (case a17 => k_is)
    (case l17 => k_is)
    (case c17 => k_is)
    (case k17 => k_is)
    (case a18 => k_is)
    (case l18 => k_is)
    (case c18 => k_is)
    (case k18 => k_is)
    (case a19 => k_is)
    (case l19 => k_is)
    (case c19 => k_is)
    (case k19 => k_is)
    (case a20 => k_is)
    (case l20 => k_is)
    (case c20 => k_is)
    (case k20 => k_is)
    (case a21 => k_is)
    (case l21 => k_is)
    (case c21 => k_is)
    (case k21 => k_is)
    (case a22 => k_is)
    (case l22 => k_is)
    (case c22 => k_is)
    (case k22 => k_is)
    (case a23 => k_is)
    (case l23 => k_is)
    (case c23 => k_is)
    (case k23 => k_is)
    (case a24 => k_is)
    (case l24 => k_is)
    (case c24 => k_is)
    (case k24 => k_is)
    (case a25 => k_is)
    (case l25 => k_is)
    (case c25 => k_is)
    (case k25 => k_is)
    (case a26 => k_is)
    (case l26 => k_is)
    (case c26 => k_is)
    (case k26 => k_is)
    (case a27 => k_is)
    (case l27 => k_is)
    (case c27 => k_is)
    (case k27 => k_is)
    (case a28 => k_is)
    (case l28 => k_is)
    (case c28 => k_is)
    (case k28 => k_is)
    (case a29 => k_is)
    (case l29 => k_is)
    (case c29 => k_is)
    (case k29 => k_is)
    (case a30 => k_is)
    (case l30 => k_is)
    (case c30 => k_is)
    (case k30 => k_is)
    (case a31 => k_is)
    (case l31 => k_is)
    (case c31 => k_is)
    (case k31 => k_is)
    (case a32 => k_is)
    (case l32 => k_is)
    (case c32 => k_is)
    (case k32 => k_is)
    (case a33 => k_is)
    (case l33 => k_is)
    (case c33 => k_is)
    (case k33 => k_is)
    (case x0 => k_is)
    (case y0 => k_is)
    (case x1 => k_is)
    (case y1 => k_is)
    (case x2 => k_is)
    (case gC_HueError => k_is)
    (case gC_NotProper => k_is)
    (case zsup => k_is)
    (case znoO => k_is)
    (case ztop => first | rfl | decide +kernel)
    (case xL_E => k_is)
    (case iC_E => k_is)
    (case xL_NotProper => k_is)
    (case sa_NotProper => k_is)
    (case ga_NotProper => k_is)
    (case gg_NotProper => k_is)
    (case nN_NotProper => k_is)
    (case iC_NotProper => k_is)
    (case tI_NotProper => k_is)
    (case kC_NotProper => k_is)
    (case eC_NotProper => k_is)
    (case vC_NotProper => k_is)
    (case sC_NotProper => k_is)
    (case tC_NotProper => k_is)
    (case hC_NotProper => k_is)
    (case cl_NotProper => k_is)
    (case sp_NotProper => k_is)
    (case tk_NotProper => k_is)
    (case mo_NotProper => k_is)
    (case lI_NotProper => k_is)
    (case cI_NotProper => k_is)
    (case lD_NotProper => k_is)
    (case vD_NotProper => rfl)
    (case fD_NotProper => first | rfl | decide +kernel)
    (case lK_NotProper => k_is)
    (case z0 => k_is)
    (case z1 => k_is)
    (case z2 => k_is)
    (case z3 => k_is)
    (case z4 => k_is)
    (case z5 => k_is)
    (case z6 => k_is)
    (case z7 => k_is)
    (case z8 => k_is)
    (case z9 => k_is)
    (case z10 => k_is)
    (case z11 => k_is)
    (case z12 => k_is)
    (case z13 => k_is)
    (case z14 => k_is)
    (case z15 => k_is)
    (case z16 => k_is)
    (case z17 => k_is)
    (case z18 => k_is)
    (case z19 => k_is)
    (case z20 => k_is)
    (case z21 => k_is)
    (case tI => first | rfl | kernel_rfl | decide +kernel)
    (case tN => first | rfl | kernel_rfl | decide +kernel)



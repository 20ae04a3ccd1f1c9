import PyProof.Rows.All
import Wide.All
import OpenK.AllK
import Wide.FinOn
import HandS.Conv
import HandS.Deep
import HandS.DictComp
import HandS.EndTab
import HandS.ExcField
import HandS.ExcInit
import HandS.ExcIs
import HandS.ExcOwn
import HandS.Flow
import HandS.ForMost
import HandS.HotCalls
import HandS.IsInst
import HandS.Lambda
import HandS.List
import HandS.More
import HandS.Nested
import HandS.RepeatKit
import HandS.SetFor
import HandS.SetKeys
import HandS.SortInts
import HandS.SortRule
import HandS.StrMore
import HandS.Strs
import HandS.Style
import HandS.Text
import HandS.TupAny
import HandS.TupLen
import HandS.TupMul
import HandS.Walk
import HandS.Wide
import HandS.WideBits
import HandS.WordsExc
import HandS.Zip
import KE.BitLaws
import KE.GoesEnum
import KE.GoesMore
import KE.KDictKeyed
import KE.KDictWalk
import KE.KDictZip
import KE.KExcHand
import KE.KExcIs
import KE.KExcSuper
import KE.KIsAll
import KE.SortData
import KE.SortKeyHeap
import PyProof.Rows.SetFrom
import PyProof.WalkInts
import PyProof.WalksMore
import PySem.Challenge.RW_ringhue_k53_whole_lowered_tables_are_rig
set_option Elab.async false
set_option linter.all false
set_option maxRecDepth 100000
set_option maxHeartbeats 2000000
namespace Rg
open PySem PySem.Spec PyProof.Rows L2

/-! ### steps of a reading, from the left -/
section
variable {σ : L2.St} {H : Hp} {Q : VK} {ta tb te to ti : TE} {t u : TT} {tr ts : TA} {r : R2} {v x y : V} {i j : Int} {K : PySem.W.Frag} {nx bk ct : L2.St → Hp → Prop} {rt : VK}
theorem kVar {i : Nat} (h : σ[i]? = some (some v)) (q : Q v H) : tVar i σ H Q := ⟨v, h, q⟩
theorem kC (q : Q v H) : tC v σ H Q := q
theorem kOp (h : ta σ H fun x H1 => tb σ H1 fun y H2 => r x y H2 Q) : tOp r ta tb σ H Q := h
theorem kUn {r : V → Hp → VK → Prop} (h : ta σ H fun x H1 => r x H1 Q) : tUn r ta σ H Q := h
theorem kI0 {g : Int → Int → V} (q : Q (g i j) H) : rI0 g (.int i) (.int j) H Q := ⟨i, j, rfl, rfl, q⟩
theorem kI {C : Int → Int → Prop} {g : Int → Int → V} (c : C i j) (q : Q (g i j) H) : rI C g (.int i) (.int j) H Q := ⟨i, j, rfl, rfl, c, q⟩
theorem kU {g : Int → V} (q : Q (g i) H) : rU g (.int i) H Q := ⟨i, rfl, q⟩
theorem kEq (s : scal x y = true) (q : Q (.bl (decide (x = y))) H) : rEq x y H Q := ⟨s, q⟩
theorem kNe (s : scal x y = true) (q : Q (.bl (!decide (x = y))) H) : rNe x y H Q := ⟨s, q⟩
theorem kTest {Q : Bool → Hp → Prop} (h : te σ H fun x H1 => ∃ k, x = .bl k ∧ Q k H1) : tTest te σ H Q := h
theorem kTB {Q : Bool → Hp → Prop} (h : te σ H fun x H1 => ∃ k, x = .bl k ∧ Q k H1) : tB te σ H Q := h
theorem kBl {b : Bool} {P : Bool → Prop} (q : P b) : ∃ k, V.bl b = .bl k ∧ P k := ⟨b, rfl, q⟩
theorem kAnd {Q : Bool → Hp → Prop} (h : t σ H fun c H1 => if c = true then u σ H1 Q else Q false H1) : tAnd t u σ H Q := h
theorem kOr {Q : Bool → Hp → Prop} (h : t σ H fun c H1 => if c = true then Q true H1 else u σ H1 Q) : tOr t u σ H Q := h
theorem kNot {Q : Bool → Hp → Prop} (h : t σ H fun c H1 => Q (!c) H1) : tNot t σ H Q := h
theorem kAndV (h : ta σ H fun x H1 => ∃ c, x = .bl c ∧ if c = true then tb σ H1 Q else Q (.bl false) H1) : tAndV ta tb σ H Q := h
theorem kOrV (h : ta σ H fun x H1 => ∃ c, x = .bl c ∧ if c = true then Q (.bl true) H1 else tb σ H1 Q) : tOrV ta tb σ H Q := h
theorem kNotV (h : ta σ H fun x H1 => ∃ c, x = .bl c ∧ Q (.bl (!c)) H1) : tNotV ta σ H Q := h
theorem kIf (h : t σ H fun c H1 => if c = true then ta σ H1 Q else tb σ H1 Q) : tIf t ta tb σ H Q := h
theorem kChain {r r' : R2} {tc : TE} (h : ta σ H fun x H1 => tb σ H1 fun y H2 => r x y H2 fun z H3 => ∃ k, z = .bl k ∧ (if k = true then tc σ H3 fun w' H4 => r' y w' H4 Q else Q (.bl false) H3)) : tChain r r' ta tb tc σ H Q := h
theorem kNil {Q : List V → Hp → Prop} (q : Q [] H) : tNil σ H Q := q
theorem kCons {Q : List V → Hp → Prop} (h : ta σ H fun x H1 => tr σ H1 fun xs H2 => Q (x :: xs) H2) : tCons ta tr σ H Q := h
theorem kCB {r : List V → Hp → VK → Prop} (h : tr σ H fun vs H1 => r vs H1 Q) : tCB r tr σ H Q := h
theorem kCall {sp : Sp} {E : XK} (h : tr σ H fun vs H1 => sp vs H1 Q E) : tCall sp [] E tr σ H Q := by
  unfold tCall
  simpa only [List.append_nil] using h
theorem kBM {T : String} {r : V → List V → Hp → VK → Prop} (h : to σ H fun x H1 => tyV K T x H1 ∧ tr σ H1 fun xs H2 => r x xs H2 Q) : tBM K T r to tr σ H Q := h
theorem kBM0 {T : String} {r : V → List V → Hp → VK → Prop} (h : to σ H fun x H1 => tyV K T x H1 ∧ r x [] H1 Q) : tBM0 K T r to σ H Q := h
theorem kNoPart {Q : Option Int → Hp → Prop} (q : Q none H) : tNoPart σ H Q := q
theorem kPart {Q : Option Int → Hp → Prop} (h : te σ H fun x H1 => ∃ i, x = .int i ∧ Q (some i) H1) : tPart te σ H Q := h
theorem kInt {i : Int} {P : Int → Prop} (q : P i) : ∃ k, V.int i = .int k ∧ P k := ⟨i, rfl, q⟩
theorem kSl {r : V → Option Int → Option Int → Hp → VK → Prop} {tl th : TO} (h : te σ H fun x H1 => tl σ H1 fun l H2 => th σ H2 fun u H3 => r x l u H3 Q) : tSl r te tl th σ H Q := h
theorem kSeq {a b : TS} (h : a (Ends.mk (b (Ends.mk nx rt bk ct)) rt bk ct) σ H) : tSeq a b (Ends.mk nx rt bk ct) σ H := h
theorem kSeqA {e : TE} {g : TG} {b : TS} (h : tAsg e g (Ends.mk (b (Ends.mk nx rt bk ct)) rt bk ct) σ H) : tSeq (tAsg e g) b (Ends.mk nx rt bk ct) σ H := h
theorem kSeqD {e : TE} {b : TS} (h : tDrop e (Ends.mk (b (Ends.mk nx rt bk ct)) rt bk ct) σ H) : tSeq (tDrop e) b (Ends.mk nx rt bk ct) σ H := h
theorem kAsg {i : Nat} (h : te σ H fun x H1 => nx (σ.set i (some x)) H1) : tAsg te (gName i) (Ends.mk nx rt bk ct) σ H := h
theorem kAsgSub {s : TSet} (h : te σ H fun x H1 => to σ H1 fun o H2 => ti σ H2 fun i H3 => s o i x H3 fun H4 => nx σ H4) : tAsg te (gSub to ti s) (Ends.mk nx rt bk ct) σ H := h
theorem kDrop (h : te σ H fun _ H1 => nx σ H1) : tDrop te (Ends.mk nx rt bk ct) σ H := h
theorem kRet (h : te σ H rt) : tRet te (Ends.mk nx rt bk ct) σ H := h
theorem kIfS {c : TT} {a b : TS} {D : Ends} (h : c σ H fun k H1 => if k = true then a D σ H1 else b D σ H1) : tIfS c a b D σ H := h
theorem kNext (h : nx σ H) : tNext (Ends.mk nx rt bk ct) σ H := h
theorem kBrk (h : bk σ H) : tBreak (Ends.mk nx rt bk ct) σ H := h
theorem kCont (h : ct σ H) : tCont (Ends.mk nx rt bk ct) σ H := h
theorem kG {i : Nat} {Q : L2.St → Hp → Prop} (q : Q (σ.set i (some v)) H) : gName i v σ H Q := q
theorem kSetL {p : Addr} {xs : List V} {k : Int} {j : Nat} {R : Hp → Prop} (h : H p = some (.lst xs)) (e : ixN xs.length k = some j) (q : R (upd H p (.lst (xs.set j v)))) : rSetL (.ref p) (.int k) v H R := ⟨p, xs, k, j, rfl, rfl, h, e, q⟩
theorem kIxL {p : Addr} {xs : List V} {k : Int} (h : SqL K H p xs) (a : atI xs k = some v) (q : Q v H) : rIxL K (.ref p) (.int k) H Q := ⟨p, xs, k, v, rfl, rfl, h, a, q⟩
theorem kIxT {p : Addr} {xs : List V} {k : Int} (h : SqT K H p xs) (a : atI xs k = some v) (q : Q v H) : rIxT K (.ref p) (.int k) H Q := ⟨p, xs, k, v, rfl, rfl, h, a, q⟩
theorem kIxS {z : Str} {k : Int} {c : Nat} (h : z.length ≤ sizeLine) (a : atI z.cps.toList k = some c) (q : Q (.str ⟨#[c]⟩) H) : rIxS (.str z) (.int k) H Q := ⟨z, k, c, rfl, rfl, h, a, q⟩
theorem kIxSeqL {p : Addr} {xs : List V} {k : Int} (h : SqL K H p xs) (a : atI xs k = some v) (q : Q v H) : rIx K (.ref p) (.int k) H Q := .inl ⟨p, xs, k, v, rfl, rfl, h, a, q⟩
theorem kSlL {p : Addr} {xs : List V} {lo hi : Option Int} (h : SqL K H p xs) (q : ∀ l, H l = none → Q (.ref l) (upd H l (.lst (cutV xs lo hi)))) : rSlL K (.ref p) lo hi H Q := ⟨p, xs, rfl, h, q⟩
theorem kAppend {p : Addr} {xs : List V} (h : H p = some (.lst xs)) (l : xs.length < sizeLine) (q : Q .non (upd H p (.lst (xs ++ [v])))) : rAppend (.ref p) [v] H Q := ⟨p, xs, v, rfl, rfl, h, l, q⟩
theorem kTyL {p : Addr} {xs : List V} {P : Prop} (h : H p = some (.lst xs)) (q : P) : tyV K "list" (.ref p) H ∧ P := ⟨.inl ⟨rfl, xs, .inl (.inl h)⟩, q⟩
end

/-! ### calls with a name -/
def rLen2 (K : PySem.W.Frag) : List V → Hp → VK → Prop := fun xs H Q => ∃ p ys, xs = [.ref p] ∧ (SqL K H p ys ∨ SqT K H p ys) ∧ Q (.int ys.length) H
def rMax2 : List V → Hp → VK → Prop := fun xs H Q => ∃ i j, xs = [.int i, .int j] ∧ Q (.int (if j > i then j else i)) H
def rMin2 : List V → Hp → VK → Prop := fun xs H Q => ∃ i j, xs = [.int i, .int j] ∧ Q (.int (if j < i then j else i)) H
def rInt2 : List V → Hp → VK → Prop := fun xs H Q => (∃ i, xs = [.int i] ∧ Q (.int i) H) ∨ ∃ k, xs = [.bl k] ∧ Q (.int (if k then 1 else 0)) H
def rList2 (K : PySem.W.Frag) : List V → Hp → VK → Prop := fun xs H Q => ∃ p ys, xs = [.ref p] ∧ (SqL K H p ys ∨ SqT K H p ys) ∧ ∀ l, H l = none → Q (.ref l) (upd H l (.lst ys))
def rTuple2 (K : PySem.W.Frag) : List V → Hp → VK → Prop := fun xs H Q => ∃ p ys, xs = [.ref p] ∧ ((SqL K H p ys ∧ ∀ l, H l = none → Q (.ref l) (upd H l (.tup ys))) ∨ (SqT K H p ys ∧ Q (.ref p) H))
section
variable {X : Cx}
theorem c_len : CallR X (.builtin "len") (rLen2 X.K) := call_len_seq
theorem c_max (hc : X.calm = true) : CallR X (.builtin "max") rMax2 := call_max2 hc
theorem c_min (hc : X.calm = true) : CallR X (.builtin "min") rMin2 := call_min2 hc
theorem c_int : CallR X (.type "int") rInt2 := call_int1
theorem c_list : CallR X (.type "list") (rList2 X.K) := call_list_of
theorem c_tuple : CallR X (.type "tuple") (rTuple2 X.K) := call_tuple_of
end
section
variable {H : Hp} {Q : VK} {K : PySem.W.Frag} {p : Addr} {ys : List V} {i j : Int}
theorem kLenL (h : SqL K H p ys) (q : Q (.int ys.length) H) : rLen2 K [.ref p] H Q := ⟨p, ys, rfl, .inl h, q⟩
theorem kLenT (h : SqT K H p ys) (q : Q (.int ys.length) H) : rLen2 K [.ref p] H Q := ⟨p, ys, rfl, .inr h, q⟩
theorem kMax (q : Q (.int (if j > i then j else i)) H) : rMax2 [.int i, .int j] H Q := ⟨i, j, rfl, q⟩
theorem kMin (q : Q (.int (if j < i then j else i)) H) : rMin2 [.int i, .int j] H Q := ⟨i, j, rfl, q⟩
theorem kIntI (q : Q (.int i) H) : rInt2 [.int i] H Q := .inl ⟨i, rfl, q⟩
theorem kIntB {k : Bool} (q : Q (.int (if k then 1 else 0)) H) : rInt2 [.bl k] H Q := .inr ⟨k, rfl, q⟩
theorem kListL (h : SqL K H p ys) (q : ∀ l, H l = none → Q (.ref l) (upd H l (.lst ys))) : rList2 K [.ref p] H Q := ⟨p, ys, rfl, .inl h, q⟩
theorem kTupleL (h : SqL K H p ys) (q : ∀ l, H l = none → Q (.ref l) (upd H l (.tup ys))) : rTuple2 K [.ref p] H Q := ⟨p, ys, rfl, .inl ⟨h, q⟩⟩
theorem kTupleT (h : SqT K H p ys) (q : Q (.ref p) H) : rTuple2 K [.ref p] H Q := ⟨p, ys, rfl, .inr ⟨h, q⟩⟩
theorem kIsi {x c : V} {t u : Value} {b : Bool} (k : ClsV c u) (ty : TyX K H x t) (e : PySem.W.kitOne K t u = some b) (q : Q (.bl b) H) : rIsi K [x, c] H Q := ⟨x, c, t, u, b, rfl, k, ty, e, q⟩
end

/-! ### what the top has left: a def of the text, the built-in names -/
structure Df (K : PySem.W.Frag) (mg : Str → Option Value) (x : Str) (st : Stmt) (ps : List Str) (f : Addr) (fd : FuncData) : Prop where
  F : Fun K x x st f fd
  g : mg x = some (.ref f)
  b : Binds K fd ps []
structure Bl (mg : Str → Option Value) : Prop where
  len : mg "len" = none
  range : mg "range" = none
  max : mg "max" = none
  min : mg "min" = none
  int : mg "int" = none
  bool : mg "bool" = none
  str : mg "str" = none
  list : mg "list" = none
  tuple : mg "tuple" = none
  isinstance : mg "isinstance" = none
  repr : mg "repr" = none
  all : mg "all" = none
  any : mg "any" = none
  enumerate : mg "enumerate" = none
  sorted : mg "sorted" = none
  ValueError : mg "ValueError" = none
  zip : mg "zip" = none
  sum : mg "sum" = none
  set : mg "set" = none
  reversed : mg "reversed" = none
  divmod : mg "divmod" = none
  dict : mg "dict" = none
theorem kitII : kitB "int" "int" = some true := by decide +kernel
theorem kitIB : kitB "int" "bool" = some false := by decide +kernel
theorem kitBI : kitB "bool" "int" = some true := by decide +kernel
theorem kitBB : kitB "bool" "bool" = some true := by decide +kernel
theorem kitLL : kitB "list" "list" = some true := by decide +kernel
theorem kitTT : kitB "tuple" "tuple" = some true := by decide +kernel
section
variable {H : Hp} {Q : VK} {K : PySem.W.Frag} {z : Int} {b : Bool} {p : Addr} {xs : List V}
theorem isiII (q : Q (.bl true) H) : rIsi K [.int z, .ty "int"] H Q := kIsi (.ty _) (.base (.int z)) (kit_ty kitII) q
theorem isiIB (q : Q (.bl false) H) : rIsi K [.int z, .ty "bool"] H Q := kIsi (.ty _) (.base (.int z)) (kit_ty kitIB) q
theorem isiBI (q : Q (.bl true) H) : rIsi K [.bl b, .ty "int"] H Q := kIsi (.ty _) (.base (.bl b)) (kit_ty kitBI) q
theorem isiBB (q : Q (.bl true) H) : rIsi K [.bl b, .ty "bool"] H Q := kIsi (.ty _) (.base (.bl b)) (kit_ty kitBB) q
theorem isiLL (h : H p = some (.lst xs)) (q : Q (.bl true) H) : rIsi K [.ref p, .ty "list"] H Q := kIsi (.ty _) (.base (.lst h)) (kit_ty kitLL) q
theorem isiTT (h : H p = some (.tup xs)) (q : Q (.bl true) H) : rIsi K [.ref p, .ty "tuple"] H Q := kIsi (.ty _) (.base (.tup h)) (kit_ty kitTT) q
end
/-! ### tests -/
theorem iteD {P A B : Prop} {d : Decidable P} (h1 : P → A) (h2 : ¬P → B) : if decide P = true then A else B := by
  by_cases h : P
  · rw [decide_eq_true h]
    exact h1 h
  · rw [decide_eq_false h]
    exact h2 h
theorem iteN {P A B : Prop} {d : Decidable P} (h1 : ¬P → A) (h2 : P → B) : if (!decide P) = true then A else B := by
  by_cases h : P
  · rw [decide_eq_true h]
    exact h2 h
  · rw [decide_eq_false h]
    exact h1 h
theorem iteB {b : Bool} {A B : Prop} (h1 : b = true → A) (h2 : b = false → B) : if b = true then A else B := by
  cases b with
  | true => exact h1 rfl
  | false => exact h2 rfl
theorem iteI {i j : Int} {A B : Prop} (h1 : i = j → A) (h2 : i ≠ j → B) : if decide (V.int i = V.int j) = true then A else B :=
  iteD (fun e => h1 (V.int.inj e)) fun e => h2 fun z => e (congrArg V.int z)
theorem iteIN {i j : Int} {A B : Prop} (h1 : i ≠ j → A) (h2 : i = j → B) : if (!decide (V.int i = V.int j)) = true then A else B :=
  iteN (fun e => h1 fun z => e (congrArg V.int z)) fun e => h2 (V.int.inj e)

/-! ### what is known of the heap: a ledger; the dice and a ledger -/
abbrev Led := List (Addr × HO)
structure Lg (L : Led) (H : Hp) : Prop where
  led : ∀ q ∈ L, H q.1 = some q.2
  nd : (L.map (·.1)).Nodup
/-- d the dice (it may change), n how often it was thrown at most, L what stands besides -/
def Kn (d : Addr) (n : Nat) (L : Led) (H : Hp) : Prop := ∃ (s : Addr) (a c r : Int) (ns : List Int), Lg ((d, .lst [.ref s, .int a, .int c, .int r]) :: (s, .lst (ns.map V.int)) :: L) H ∧ 0 ≤ a ∧ a ≤ n
section
variable {d : Addr} {n m : Nat} {L L' : Led} {H : Hp} {a : Addr} {o u : HO}
theorem Lg.at (k : Lg L H) (i : Nat) (h : L[i]? = some (a, o)) : H a = some o := k.led (a, o) (List.mem_of_getElem? h)
theorem Lg.perm (k : Lg L H) (h : L.Perm L') : Lg L' H := ⟨fun q hq => k.led q (h.mem_iff.mpr hq), (h.map _).nodup_iff.mp k.nd⟩
theorem Lg.sub (k : Lg L H) (h : List.Sublist L' L) : Lg L' H := ⟨fun q hq => k.led q (h.subset hq), k.nd.sublist (h.map _)⟩
/-- a new object -/
theorem Lg.new (k : Lg L H) (h : H a = none) : Lg ((a, o) :: L) (upd H a o) := by
  have hl : ∀ q ∈ L, q.1 ≠ a := fun q hq => ne_of_none (k.led q hq) h
  refine ⟨fun q hq => ?_, ?_⟩
  · rcases List.mem_cons.mp hq with rfl | hq
    · exact upd_same
    · rw [upd_ne (hl q hq)]
      exact k.led q hq
  · rw [List.map_cons, List.nodup_cons]
    refine ⟨fun z => ?_, k.nd⟩
    obtain ⟨q, hq, e⟩ := List.mem_map.mp z
    exact hl q hq e
/-- one of them changes -/
theorem Lg.put (k : Lg L H) (i : Nat) (h : L[i]? = some (a, o)) : Lg (L.set i (a, u)) (upd H a u) := by
  have hi : i < L.length := (List.getElem?_eq_some_iff.mp h).1
  have he : L[i] = (a, o) := (List.getElem?_eq_some_iff.mp h).2
  have hmap : (L.set i (a, u)).map (·.1) = L.map (·.1) := by
    apply List.ext_getElem?
    intro j
    rw [List.getElem?_map, List.getElem?_map, List.getElem?_set]
    by_cases e : i = j
    · subst e
      rw [if_pos rfl, if_pos hi, List.getElem?_eq_getElem hi, he]
      rfl
    · rw [if_neg e]
  refine ⟨fun q hq => ?_, by rw [hmap]; exact k.nd⟩
  obtain ⟨j, hj⟩ := List.getElem?_of_mem hq
  rw [List.getElem?_set] at hj
  by_cases e : i = j
  · rw [if_pos e, if_pos hi] at hj
    have hj' : (a, u) = q := Option.some.inj hj
    subst hj'
    exact upd_same
  · rw [if_neg e] at hj
    have hne : q.1 ≠ a := fun z => by
      have h1 : (L.map (·.1))[i]? = some a := by rw [List.getElem?_map, h]; rfl
      have h2 : (L.map (·.1))[j]? = some a := by rw [List.getElem?_map, hj]; exact congrArg some z
      exact e (nd_ix k.nd h1 h2)
    rw [upd_ne hne]
    exact k.led q (List.mem_of_getElem? hj)
theorem Kn.at (k : Kn d n L H) (i : Nat) (h : L[i]? = some (a, o)) : H a = some o := by
  obtain ⟨s, b, c, r, ns, l, _⟩ := k
  exact l.at (i + 2) h
theorem Kn.more (k : Kn d n L H) (h : n ≤ m) : Kn d m L H := by
  obtain ⟨s, b, c, r, ns, l, e1, e2⟩ := k
  exact ⟨s, b, c, r, ns, l, e1, by omega⟩
theorem Kn.new (k : Kn d n L H) (h : H a = none) : Kn d n ((a, o) :: L) (upd H a o) := by
  obtain ⟨s, b, c, r, ns, l, e1, e2⟩ := k
  refine ⟨s, b, c, r, ns, (l.new (o := o) h).perm ?_, e1, e2⟩
  exact (List.Perm.swap _ _ _).trans (List.Perm.cons _ (List.Perm.swap _ _ _))
theorem Kn.put (k : Kn d n L H) (i : Nat) (h : L[i]? = some (a, o)) : Kn d n (L.set i (a, u)) (upd H a u) := by
  obtain ⟨s, b, c, r, ns, l, e1, e2⟩ := k
  exact ⟨s, b, c, r, ns, l.put (i + 2) h, e1, e2⟩
theorem Kn.sub (k : Kn d n L H) (h : List.Sublist L' L) : Kn d n L' H := by
  obtain ⟨s, b, c, r, ns, l, e1, e2⟩ := k
  exact ⟨s, b, c, r, ns, l.sub ((h.cons₂ _).cons₂ _), e1, e2⟩
theorem Kn.tail {q : Addr × HO} (k : Kn d n (q :: L) H) : Kn d n L H := k.sub (List.sublist_cons_self _ _)
theorem Kn.drop (k : Kn d n L H) (i : Nat) : Kn d n (L.drop i) H := k.sub (List.drop_sublist _ _)
theorem at_of (i : Nat) (k : Kn d n L H) (h : L[i]? = some (a, o)) : H a = some o := k.at i h
theorem sqL_of {K : PySem.W.Frag} {xs : List V} (i : Nat) (k : Kn d n L H) (h : L[i]? = some (a, .lst xs)) : SqL K H a xs := .inl (.inl (k.at i h))
theorem sqT_of {K : PySem.W.Frag} {xs : List V} (i : Nat) (k : Kn d n L H) (h : L[i]? = some (a, .tup xs)) : SqT K H a xs := .inl (.inl (k.at i h))
theorem lat_of (i : Nat) (k : Lg L H) (h : L[i]? = some (a, o)) : H a = some o := k.at i h
theorem lsqL_of {K : PySem.W.Frag} {xs : List V} (i : Nat) (k : Lg L H) (h : L[i]? = some (a, .lst xs)) : SqL K H a xs := .inl (.inl (k.at i h))
theorem lsqT_of {K : PySem.W.Frag} {xs : List V} (i : Nat) (k : Lg L H) (h : L[i]? = some (a, .tup xs)) : SqT K H a xs := .inl (.inl (k.at i h))
end
/-! ### items of short lists; the dice's cells -/
section
variable {a b c e v : V} {l : List V} {p : Addr} {H : Hp} {R : Hp → Prop} {L : Led}
theorem at0 : atI (a :: l) 0 = some a := atI_nat (j := 0) rfl
theorem at1 : atI (a :: b :: l) 1 = some b := atI_nat (j := 1) rfl
theorem at2 : atI (a :: b :: c :: l) 2 = some c := atI_nat (j := 2) rfl
theorem at3 : atI (a :: b :: c :: e :: l) 3 = some e := atI_nat (j := 3) rfl
theorem kD1 (k : Lg ((p, .lst [a, b, c, e]) :: L) H) (q : ∀ H', Lg ((p, .lst [a, v, c, e]) :: L) H' → R H') : rSetL (.ref p) (.int 1) v H R := ⟨p, _, 1, 1, rfl, rfl, k.at 0 rfl, rfl, q _ (k.put 0 rfl)⟩
theorem kD2 (k : Lg ((p, .lst [a, b, c, e]) :: L) H) (q : ∀ H', Lg ((p, .lst [a, b, v, e]) :: L) H' → R H') : rSetL (.ref p) (.int 2) v H R := ⟨p, _, 2, 2, rfl, rfl, k.at 0 rfl, rfl, q _ (k.put 0 rfl)⟩
theorem kD3 (k : Lg ((p, .lst [a, b, c, e]) :: L) H) (q : ∀ H', Lg ((p, .lst [a, b, c, v]) :: L) H' → R H') : rSetL (.ref p) (.int 3) v H R := ⟨p, _, 3, 3, rfl, rfl, k.at 0 rfl, rfl, q _ (k.put 0 rfl)⟩
theorem lenPos {ns : List Int} (h : ns ≠ []) : (0 : Int) < ((ns.map V.int).length : Int) := by
  have h0 : 0 < ns.length := List.length_pos_iff.mpr h
  rw [List.length_map]
  omega
theorem atMod {ns : List Int} (h : ns ≠ []) (z : Int) : ∃ y, atI (ns.map V.int) (z % ((ns.map V.int).length : Int)) = some (.int y) := by
  rw [List.length_map]
  have h0 : 0 < ns.length := List.length_pos_iff.mpr h
  have h1 : 0 ≤ z % (ns.length : Int) := Int.emod_nonneg z (by omega)
  have h2 : z % (ns.length : Int) < (ns.length : Int) := Int.emod_lt_of_pos z (by omega)
  obtain ⟨j, hj⟩ : ∃ j : Nat, z % (ns.length : Int) = (j : Int) := ⟨(z % (ns.length : Int)).toNat, by omega⟩
  have hl : j < ns.length := by omega
  rw [hj]
  exact ⟨ns[j], atI_nat (by rw [List.getElem?_map, List.getElem?_eq_getElem hl]; rfl)⟩
end
/-- ways that meet behind a statement -/
theorem kJoin {x y : TS} {nx bk ct : L2.St → Hp → Prop} {rt : VK} {σ : L2.St} {H : Hp} (W : L2.St → Hp → Prop) (h2 : ∀ σ' H', W σ' H' → y (Ends.mk nx rt bk ct) σ' H')
    (h1 : ∀ N : L2.St → Hp → Prop, (∀ σ' H', W σ' H' → N σ' H') → x (Ends.mk N rt bk ct) σ H) : tSeq x y (Ends.mk nx rt bk ct) σ H := h1 _ h2
/-! ### with a ledger: new lists and tuples, append -/
def NewL (xs : List V) (Q : VK) (H : Hp) : Prop := xs.length ≤ sizeLine ∧ ∀ p, H p = none → Q (.ref p) (upd H p (.lst xs))
def NewT (xs : List V) (Q : VK) (H : Hp) : Prop := xs.length ≤ sizeLine ∧ ∀ p, H p = none → Q (.ref p) (upd H p (.tup xs))
section
variable {d : Addr} {n : Nat} {L : Led} {H : Hp} {σ : L2.St} {Q : VK} {tr : TA} {p : Addr} {v : V} {xs : List V} {K : PySem.W.Frag}
theorem kLst (h : tr σ H fun ys H1 => NewL ys Q H1) : tLst tr σ H Q := h
theorem kTup (h : tr σ H fun ys H1 => NewT ys Q H1) : tTup tr σ H Q := h
theorem kNewL (z : xs.length ≤ 100000) (k : Kn d n L H) (q : ∀ p H', Kn d n ((p, .lst xs) :: L) H' → Q (.ref p) H') : NewL xs Q H := ⟨Nat.le_trans z (by decide), fun p hp => q p _ (k.new hp)⟩
theorem kNewT (z : xs.length ≤ 100000) (k : Kn d n L H) (q : ∀ p H', Kn d n ((p, .tup xs) :: L) H' → Q (.ref p) H') : NewT xs Q H := ⟨Nat.le_trans z (by decide), fun p hp => q p _ (k.new hp)⟩
theorem kAppK (k : Kn d n L H) (i : Nat) (h : L[i]? = some (p, .lst xs)) (z : xs.length < 100000) (q : ∀ H', Kn d n (L.set i (p, .lst (xs ++ [v]))) H' → Q .non H') : rAppend (.ref p) [v] H Q :=
  ⟨p, xs, v, rfl, rfl, k.at i h, Nat.lt_of_lt_of_le z (by decide), q _ (k.put i h)⟩
theorem kSlLK {lo hi : Option Int} (h : SqL K H p xs) (k : Kn d n L H) (q : ∀ l H', Kn d n ((l, .lst (cutV xs lo hi)) :: L) H' → Q (.ref l) H') : rSlL K (.ref p) lo hi H Q := ⟨p, xs, rfl, h, fun l hl => q l _ (k.new hl)⟩
theorem kListK (h : SqL K H p xs) (k : Kn d n L H) (q : ∀ l H', Kn d n ((l, .lst xs) :: L) H' → Q (.ref l) H') : rList2 K [.ref p] H Q := ⟨p, xs, rfl, .inl h, fun l hl => q l _ (k.new hl)⟩
theorem kTupleK (h : SqL K H p xs) (k : Kn d n L H) (q : ∀ l H', Kn d n ((l, .tup xs) :: L) H' → Q (.ref l) H') : rTuple2 K [.ref p] H Q := ⟨p, xs, rfl, .inl ⟨h, fun l hl => q l _ (k.new hl)⟩⟩
end
theorem atMem {es : List Int} {z : Int} (h0 : 0 ≤ z) (h1 : z < es.length) : ∃ e, atI (es.map V.int) z = some (.int e) ∧ e ∈ es := by
  obtain ⟨j, rfl⟩ : ∃ j : Nat, z = (j : Int) := ⟨z.toNat, by omega⟩
  have hl : j < es.length := by omega
  exact ⟨es[j], atI_nat (by rw [List.getElem?_map, List.getElem?_eq_getElem hl]; rfl), List.getElem_mem hl⟩
theorem atLast (xs : List Int) (x : Int) : atI ((xs ++ [x]).map V.int) (-1) = some (.int x) := by
  rw [List.map_append]
  exact atI_last _ _
theorem szL {n : Nat} (h : n ≤ 100000) : n ≤ sizeLine := Nat.le_trans h (by decide)
theorem log_small {z : Int} (h0 : 0 < z) (h : z < 2 ^ 62) : z.natAbs.log2 < 9000 := Nat.lt_of_lt_of_le (PySem.Flt.log2_lt_of (k := 62) (by decide) (by omega)) (by decide)
theorem szL' {n : Nat} (h : n < 100000) : n < sizeLine := Nat.lt_of_lt_of_le h (by decide)

/-! ### whole numbers in lists compared -/
theorem dpInts {K : PySem.W.Frag} {H : Hp} : ∀ ns : List Int, DpAll K H (ns.map V.int) (ns.map PyData.int)
  | [] => .nil
  | n :: r => .cons (.int n) (dpInts r)
theorem layInts : ∀ ns : List Int, PyData.canLayAll0 (ns.map PyData.int) = true
  | [] => by simp [PyData.canLayAll0]
  | n :: r => by simp [PyData.canLayAll0, PyData.canLay0, layInts r]
theorem depInts : ∀ ns : List Int, PyData.depthAll (ns.map PyData.int) = 0
  | [] => by simp [PyData.depthAll]
  | n :: r => by simp [PyData.depthAll, PyData.depth, depInts r]
theorem shL (ns : List Int) : SeqAt.shaped (.list (ns.map PyData.int)) = true := by
  simp [SeqAt.shaped, PyData.canLay0, layInts, PyData.depth, depInts]
theorem shT (ns : List Int) : SeqAt.shaped (.tuple (ns.map PyData.int)) = true := by
  simp [SeqAt.shaped, PyData.canLay0, layInts, PyData.depth, depInts]
theorem eqvInts : ∀ xs ys : List Int, PyData.eqvAll (xs.map PyData.int) (ys.map PyData.int) = decide (xs = ys)
  | [], [] => by simp [PyData.eqvAll]
  | [], y :: ys => by simp [PyData.eqvAll]
  | x :: xs, [] => by simp [PyData.eqvAll]
  | x :: xs, y :: ys => by
    simp only [List.map_cons, PyData.eqvAll, PyData.eqv, eqvInts xs ys, List.cons.injEq]
    by_cases h : x = y <;> by_cases h2 : xs = ys <;> simp [h, h2]
section
variable {H : Hp} {Q : VK} {K : PySem.W.Frag} {p q : Addr} {xs ys : List Int}
theorem kNeL (h1 : SqL K H p (xs.map V.int)) (h2 : SqL K H q (ys.map V.int)) (k : Q (.bl (!decide (xs = ys))) H) : rNeD K (.ref p) (.ref q) H Q := by
  refine ⟨.list (xs.map PyData.int), .list (ys.map PyData.int), .lst h1 (dpInts xs), .lst h2 (dpInts ys), shL xs, shL ys, ?_⟩
  rw [PyData.eqv, eqvInts]
  exact k
theorem kEqL (h1 : SqL K H p (xs.map V.int)) (h2 : SqL K H q (ys.map V.int)) (k : Q (.bl (decide (xs = ys))) H) : rEqD K (.ref p) (.ref q) H Q := by
  refine ⟨.list (xs.map PyData.int), .list (ys.map PyData.int), .lst h1 (dpInts xs), .lst h2 (dpInts ys), shL xs, shL ys, ?_⟩
  rw [PyData.eqv, eqvInts]
  exact k
theorem kNeT (h1 : SqT K H p (xs.map V.int)) (h2 : SqT K H q (ys.map V.int)) (k : Q (.bl (!decide (xs = ys))) H) : rNeD K (.ref p) (.ref q) H Q := by
  refine ⟨.tuple (xs.map PyData.int), .tuple (ys.map PyData.int), .tup h1 (dpInts xs), .tup h2 (dpInts ys), shT xs, shT ys, ?_⟩
  rw [PyData.eqv, eqvInts]
  exact k
theorem kEqT (h1 : SqT K H p (xs.map V.int)) (h2 : SqT K H q (ys.map V.int)) (k : Q (.bl (decide (xs = ys))) H) : rEqD K (.ref p) (.ref q) H Q := by
  refine ⟨.tuple (xs.map PyData.int), .tuple (ys.map PyData.int), .tup h1 (dpInts xs), .tup h2 (dpInts ys), shT xs, shT ys, ?_⟩
  rw [PyData.eqv, eqvInts]
  exact k
end

theorem Kn.mem {d : Addr} {n : Nat} {L : Led} {H : Hp} {a : Addr} {o : HO} (k : Kn d n L H) (h : (a, o) ∈ L) : H a = some o := by
  obtain ⟨i, hi⟩ := List.getElem?_of_mem h
  exact k.at i hi
theorem Kn.seqL {d : Addr} {n : Nat} {L : Led} {H : Hp} {K : PySem.W.Frag} {a : Addr} {xs : List V} (k : Kn d n L H) (h : (a, .lst xs) ∈ L) : SqL K H a xs := .inl (.inl (k.mem h))
theorem Kn.seqT {d : Addr} {n : Nat} {L : Led} {H : Hp} {K : PySem.W.Frag} {a : Addr} {xs : List V} (k : Kn d n L H) (h : (a, .tup xs) ∈ L) : SqT K H a xs := .inl (.inl (k.mem h))
/-! ### a list comprehension over a list; the word: what is made so far -/
theorem kLcL {d : Addr} {n : Nat} {L : Led} {H : Hp} {K : PySem.W.Frag} {σ : L2.St} {Q : VK} {p : Addr} {xs : List V} {te0 te : TE} {tt : TT} {j : Nat} {vs : List Nat} (k : Kn d n L H) (hp : (p, .lst xs) ∈ L) (src : ∀ R : VK, R (.ref p) H → te0 σ H R)
    (hz : xs.length ≤ 100000) (acc : Nat → List V) (a0 : acc 0 = []) (al : ∀ i, (acc i).length ≤ i) (hw : ∀ x, wipe ((wipe σ vs).set j (some x)) vs = wipe σ vs)
    (turn : ∀ i x H' D, xs[i]? = some x → Kn d n ((D, .lst (acc i)) :: L) H' → ∀ (N1 : VK) (N2 : Hp → Prop), (∀ y H4, Kn d n ((D, .lst (acc i)) :: L) H4 → acc (i + 1) = acc i ++ [y] → N1 y H4) → (∀ H3, Kn d n ((D, .lst (acc i)) :: L) H3 → acc (i + 1) = acc i → N2 H3) →
      tt ((wipe σ vs).set j (some x)) H' fun b H3 => if b = true then te ((wipe σ vs).set j (some x)) H3 N1 else N2 H3)
    (q : ∀ D H', Kn d n ((D, .lst (acc xs.length)) :: L) H' → Q (.ref D) H') : tLc (iList K te0) (gName j) tt te vs σ H Q := by
  refine src _ ⟨p, rfl, ⟨xs, k.seqL hp⟩, fun D hD => lc_list (xs := xs) (fun i H' => Kn d n ((D, .lst (acc i)) :: L) H') ?_ (fun i H' _ kn => kn.seqL (List.mem_cons_of_mem _ hp)) (fun i x H' hx kn => ⟨hw x, ?_⟩) (fun H' kn => q D H' kn)⟩
  · rw [a0]
    exact k.new hD
  · have hi : i < xs.length := (List.getElem?_eq_some_iff.mp hx).1
    refine turn i x H' D hx kn _ _ (fun y H4 kn4 e => ⟨acc i, kn4.at 0 rfl, szL' (by have := al i; omega), ?_⟩) (fun H3 kn3 e => ?_)
    · rw [e]
      exact kn4.put 0 rfl
    · rw [e]
      exact kn3
/-! ### a law's first statement makes the dice -/
theorem cutInts (ns : List Int) (lo hi : Option Int) : ∃ ms : List Int, cutV (ns.map V.int) lo hi = ms.map V.int :=
  ⟨(ns.drop (HT.sIx ns.length 0 lo)).take (HT.sIx ns.length ns.length hi - HT.sIx ns.length 0 lo), by unfold cutV; rw [List.length_map, List.map_take, List.map_drop]⟩
theorem kStart {K : PySem.W.Frag} {a : Addr} {ns : List Int} {σ : L2.St} {H : Hp} {i : Nat} {y : TS} {nx bk ct : L2.St → Hp → Prop} {rt : VK} (hS : SqL K H a (ns.map V.int)) (h0 : σ[0]? = some (some (.ref a)))
    (q : ∀ d H', Kn d 0 [] H' → y (Ends.mk nx rt bk ct) (σ.set i (some (.ref d))) H') :
    tSeq (tAsg (tLst (tCons (tCB (rList2 K) (tCons (tSl (rSlL K) (tVar 0) tNoPart (tPart (tC (.int 63)))) tNil)) (tCons (tC (.int 0)) (tCons (tC (.int 0)) (tCons (tC (.int 0)) tNil))))) (gName i)) y (Ends.mk nx rt bk ct) σ H := by
  obtain ⟨ms, hm⟩ := cutInts ns none (some 63)
  refine ⟨.ref a, h0, 63, rfl, a, _, rfl, hS, fun p hp => ?_⟩
  refine ⟨p, _, rfl, .inl (.inl (.inl upd_same)), fun s hs => ⟨szL (by show 4 ≤ 100000; decide), fun d hd => ?_⟩⟩
  have l0 : Lg [] H := ⟨fun _ hq => (List.not_mem_nil hq).elim, List.nodup_nil⟩
  have l1 := (((l0.new (o := .lst (cutV (ns.map V.int) none (some 63))) hp).sub (List.nil_sublist _)).new (o := .lst (cutV (ns.map V.int) none (some 63))) hs).new (o := .lst [.ref s, .int 0, .int 0, .int 0]) hd
  rw [hm] at l1 ⊢
  exact q d _ ⟨s, 0, 0, 0, ms, l1, by omega, by omega⟩
/-! ### loops -/
section
variable {σ : L2.St} {H : Hp} {tr : TA} {tb : TS} {j : Nat} {te : TE} {K : PySem.W.Frag} {nx bk ct : L2.St → Hp → Prop} {rt : VK}
/-- for x in range(n): the word holds at the start, a turn keeps it, behind the last what follows holds -/
theorem kRng1 {n : Int} (hn : 0 ≤ n ∧ n ≤ 100000) (Pv : Nat → L2.St → Hp → Prop) (h0 : Pv 0 σ H)
    (hs : ∀ (i : Nat) σ' H', (i : Int) < n → Pv i σ' H' → tb (Ends.mk (Pv (i + 1)) rt nx (Pv (i + 1))) (σ'.set j (some (.int (i : Int)))) H') (hd : ∀ σ' H', Pv n.toNat σ' H' → nx σ' H')
    (h : ∀ R : List V → Hp → Prop, R [.int n] H → tr σ H R) : tFor (iRng1 tr) (gName j) tb (Ends.mk nx rt bk ct) σ H := by
  refine h _ ⟨n, rfl, by omega, by omega, for_range (lo := 0) (n := n.toNat) Pv h0 (fun i σ' H' hi p => ?_) hd⟩
  have e0 : (0 : Int) + (i : Int) = (i : Int) := Int.zero_add _
  show tb (Ends.mk (Pv (i + 1)) rt nx (Pv (i + 1))) (σ'.set j (some (.int ((0 : Int) + (i : Int))))) H'
  rw [e0]
  exact hs i σ' H' (by omega) p
theorem kForL {p : Addr} {xs : List V} (Pv : Nat → L2.St → Hp → Prop) (hq : SqL K H p xs) (h0 : Pv 0 σ H) (hl : ∀ i σ' H', i ≤ xs.length → Pv i σ' H' → SqL K H' p xs)
    (hs : ∀ i x σ' H', xs[i]? = some x → Pv i σ' H' → tb (Ends.mk (Pv (i + 1)) rt nx (Pv (i + 1))) (σ'.set j (some x)) H') (hd : ∀ σ' H', Pv xs.length σ' H' → nx σ' H')
    (h : ∀ R : VK, R (.ref p) H → te σ H R) : tFor (iList K te) (gName j) tb (Ends.mk nx rt bk ct) σ H :=
  h _ ⟨p, rfl, ⟨xs, hq⟩, for_list (xs := xs) Pv h0 hl (fun i x σ' H' hx p => hs i x σ' H' hx p) hd⟩
theorem kForT {p : Addr} {xs : List V} (Pv : Nat → L2.St → Hp → Prop) (hq : SqT K H p xs) (h0 : Pv 0 σ H) (hl : ∀ i σ' H', i ≤ xs.length → Pv i σ' H' → SqT K H' p xs)
    (hs : ∀ i x σ' H', xs[i]? = some x → Pv i σ' H' → tb (Ends.mk (Pv (i + 1)) rt nx (Pv (i + 1))) (σ'.set j (some x)) H') (hd : ∀ σ' H', Pv xs.length σ' H' → nx σ' H')
    (h : ∀ R : VK, R (.ref p) H → te σ H R) : tFor (iTup K te) (gName j) tb (Ends.mk nx rt bk ct) σ H :=
  h _ ⟨p, rfl, ⟨xs, hq⟩, for_tup (xs := xs) Pv h0 hl (fun i x σ' H' hx p => hs i x σ' H' hx p) hd⟩
end
end Rg

set_option Elab.async false
set_option linter.all false
set_option maxRecDepth 100000
set_option maxHeartbeats 2000000
namespace Rg
open PySem PySem.Spec PyProof.Rows L2
/-! ### enumerate of a tuple -/
theorem enumNew {v : Value} {ob : Obj} {G : Heap → Prop} (B : Begins v ob G) : Meets (Builtin.«enumerate.__new__» ⟨[.type "enumerate", v], []⟩) (fun _ R s => G s.heap ∧
    R (.ok (.ret (.ref (s.heap.push ob).objs.size))) { s with heap := (s.heap.push ob).push { cls := .type "enumerate", data := .fields #[.none, .bool false, .ref s.heap.objs.size, rawInt 0, .none, .none] } }) := .of_wp fun prog w A R s hyp => by
  obtain ⟨hp, gs, dr, tk, os⟩ := s
  obtain ⟨g1, hyp⟩ := hyp
  have hsub := sub_enumerate
  have begun : ∀ {A' : Around} {E : Value → Shared → Prop} {Q : Value → Shared → Prop}, Q (.ref hp.objs.size) ⟨hp.push ob, gs, dr, tk, os⟩ → wpAny (model prog w) A' (pyIter v) Q E ⟨hp, gs, dr, tk, os⟩ :=
    fun z => B.iter prog w _ _ ⟨hp, gs, dr, tk, os⟩ _ g1 z
  wp_walk using begun
  refine wpAny_stack_any fun stk => wpAny_pure ?_
  split
  · rename_i cl _ _ _ _ _
    cases (cl == Value.type "enumerate") <;> (wp_walk using begun; exact ⟨_, rfl, hyp⟩)
  · wp_walk using begun
    exact ⟨_, rfl, hyp⟩
theorem callEnumT {prog : Program} {w : World} {A : Around} {E : Value → Shared → Prop} {s : Shared} {t : Addr} {items : Array Value} {Q : Value → Shared → Prop} (ht : s.heap.IsTuple t items)
    (h : ∀ h', IsEnum h' (s.heap.objs.size + 1) s.heap.objs.size 0 .none → h'.IsTupleIter s.heap.objs.size t 0 → (∀ b ob, s.heap.get? b = some ob → h'.get? b = some ob) → Q (.ref (s.heap.objs.size + 1)) { s with heap := h' }) :
    wpAny (model prog w) A (call (.type "enumerate") [.ref t]) Q E s := by
  refine callType_new F.called_enumerate (by decide) (F.typeCall_enumerate_1 _) (F.newCall_enumerate_1 _) (fun self => F.args_object_init_2 self _) F.entry_enumerate_new (enumNew (begins_tuple t items)) ⟨ht, ?_⟩
  have e1 : (s.heap.push { cls := .type "tuple_iterator", data := .fields #[.ref t, .int 0 0] }).objs.size = s.heap.objs.size + 1 := Heap.size_push ..
  show _ ∧ _
  rw [e1]
  have e2 : IsEnum ((s.heap.push { cls := .type "tuple_iterator", data := .fields #[.ref t, .int 0 0] }).push { cls := .type "enumerate", data := .fields #[.none, .bool false, .ref s.heap.objs.size, rawInt 0, .none, .none] })
      (s.heap.objs.size + 1) s.heap.objs.size 0 .none := by
    have z := Heap.get?_push_size (s.heap.push { cls := .type "tuple_iterator", data := .fields #[.ref t, .int 0 0] }) (o := { cls := .type "enumerate", data := .fields #[.none, .bool false, .ref s.heap.objs.size, rawInt 0, .none, .none] }) rfl
    rw [e1] at z
    exact z
  exact ⟨⟨_, e2, rfl⟩, h _ e2 ⟨_, Heap.get?_push_of_some _ (Heap.get?_push_size _ rfl), rfl, rfl⟩ fun b ob x => Heap.get?_push_of_some _ (Heap.get?_push_of_some _ x)⟩
/-- the tuple at a as it stands at each turn, each item in a new pair -/
def ItU (K : PySem.W.Frag) (a : Addr) : It where
  go := fun i H => ∃ (xs : List V) (x : V), SqT K H a xs ∧ xs[i]? = some x
  yld := fun i H v H' => ∃ T x, v = .ref T ∧ H T = none ∧ H' = upd H T (.tup [.int (i : Nat), x]) ∧ ∀ xs, SqT K H a xs → xs[i]? = some x
  stop := fun i H => ∃ xs : List V, SqT K H a xs ∧ xs.length = i
theorem enum_apart {h : Heap} {e it a : Addr} {i : Int} {old : Value} {items : Array Value} (he : IsEnum h e it i old) (ht : h.IsTuple a items) : e ≠ a := fun z => by
  obtain ⟨ob, h1, h2, _⟩ := ht
  rw [← z, he] at h1
  have h3 := Option.some.inj h1
  subst h3
  exact absurd (Value.type.inj h2) (by decide)
theorem iter_apart {h : Heap} {it a : Addr} {i : Nat} {items : Array Value} (hi : h.IsTupleIter it a i) (ht : h.IsTuple a items) : a ≠ it := fun z => by
  obtain ⟨ob, h1, h2, _⟩ := ht
  obtain ⟨oc, h4, h5, _⟩ := hi
  rw [z, h4] at h1
  have h3 := Option.some.inj h1
  subst h3
  rw [h5] at h2
  exact absurd (Value.type.inj h2) (by decide)
theorem turnU {P : Program} {w : World} {K : PySem.W.Frag} {elts : List Expr} {kk : Nat} {tpos : Pos} (a e it : Addr) :
    Turn P w K (.Tuple elts kk tpos) (ItU K a) [e, it] e (fun i h => (∃ old, IsEnum h e it ((i : Nat) : Int) old) ∧ h.IsTupleIter it a i ∧ e ≠ it) where
  mem := List.mem_cons_self
  obj := fun i h st b hb => by
    obtain ⟨⟨u, hu⟩, ⟨ob, h1, h2, h3⟩, _⟩ := st
    rcases List.mem_cons.mp hb with z | z
    · rw [z]
      exact ⟨_, hu, fun v q => nomatch q⟩
    · rw [List.mem_singleton.mp z]
      exact ⟨ob, h1, fun v q => by rw [h3] at q; cases q⟩
  keep := fun i h h' st k => ⟨st.1.imp fun u hu => k e List.mem_cons_self _ hu, st.2.1.at fun ob q => k it (List.mem_cons_of_mem _ List.mem_cons_self) ob q, st.2.2⟩
  item := by
    intro X hP hw hK hc i pins s σ H E I hf st hg
    subst hP hw hK
    obtain ⟨⟨u0, hu0⟩, hit, hei⟩ := st
    obtain ⟨xs, x, hq, hx⟩ := hg
    obtain ⟨its, rv, p, hz⟩ := I.tuple hq
    obtain ⟨ob, p1, p2, n, p3⟩ := id p
    have ht : s.heap.IsTuple a its.toArray := ⟨ob, p1, p2, n, p3⟩
    obtain ⟨y, hy, ry⟩ := rv.get hx
    have le : e < s.heap.objs.size := Heap.lt_size hu0
    have li : it < s.heap.objs.size := by
      obtain ⟨_, q, _⟩ := hit
      exact Heap.lt_size q
    have hil : i < its.toArray.size := by
      have := (List.getElem?_eq_some_iff.mp hy).1
      simpa using this
    have nea := enum_apart hu0 ht
    have nia := iter_apart hit ht
    refine wpAny_pyNext_enum_itemD (Draws.tuple (A := X.A.in1) (I.ok.hd hc) it a nia its.toArray) hu0 ⟨hit, ht⟩ hil hei (by simp [hei, nea]) fun x' h' tk hP ho hS hT hsz hk => ?_
    have exy : x' = y := by
      have q1 : its[i]? = some x' := by simpa using hP
      rw [hy] at q1
      exact (Option.some.inj q1).symm
    subst exy
    refine ⟨_, rfl, wpAny_letOwnedTupleGo_enum (s := { s with heap := h', toks := tk + 1 }) ho fun h'' he'' sb => ?_⟩
    have hT2 : h''.get? s.heap.objs.size = some { cls := .type "tuple", data := .seq #[.int i tk, x'] } := (sb.2 _ (Nat.ne_of_gt le)).trans hT
    have I1 : Inv X pins σ (upd H s.heap.objs.size (.tup [.int (i : Nat), x])) { s with heap := h'', toks := tk + 1 } := by
      refine I.turnedNew (ch := [e, it]) (fun b ob hb q => ?_) hf (Nat.le_refl _) ?_
      · have h1 : b ≠ e := fun z => hb (by simp [z])
        have h2 : b ≠ it := fun z => hb (by simp [z])
        exact (sb.2 b h1).trans (hk b ob h1 h2 q)
      · exact ⟨by show 2 ≤ sizeLine; decide, [.int i tk, x'], .cons ⟨_, rfl⟩ (.cons ry .nil), ⟨_, hT2, rfl, _, rfl⟩⟩
    refine ⟨.ref s.heap.objs.size, _, I1, rfl, ⟨_, x, rfl, I.hok.fresh (Nat.le_refl _), rfl, fun ys hy' => by rw [I.tuple_inj hy' hq]; exact hx⟩, ⟨⟨x', ?_⟩, hS.1.at fun ob q => (sb.2 it hei.symm).trans q, hei⟩, fun b hb => ?_⟩
    · rw [show ((i + 1 : Nat) : Int) = (i : Int) + 1 by omega]
      exact he''
    · have lb : b < s.heap.objs.size := by
        rcases List.mem_cons.mp hb with z | z
        · rw [z]; exact le
        · rw [List.mem_singleton.mp z]; exact li
      rw [upd_ne (Nat.ne_of_lt lb)]
      exact (hf b hb).1
  done := by
    intro X hP hw hK hc i pins s σ H E I hf st hg
    subst hP hw hK
    obtain ⟨⟨u0, hu0⟩, hit, hei⟩ := st
    obtain ⟨xs, hq, hx⟩ := hg
    obtain ⟨its, rv, p, hz⟩ := I.tuple hq
    obtain ⟨ob, p1, p2, n, p3⟩ := id p
    have ht : s.heap.IsTuple a its.toArray := ⟨ob, p1, p2, n, p3⟩
    obtain ⟨f0, f1, f2, f3, f4, f5⟩ := hf it (List.mem_cons_of_mem _ List.mem_cons_self)
    have hl := rv.length
    have nia := iter_apart hit ht
    have ei : i = its.toArray.size := by
      rw [List.size_toArray]
      omega
    rw [ei] at hit
    exact wpAny_pyNext_enum_endD (Draws.tuple (A := X.A.in1) (I.ok.hd hc) it a nia its.toArray) hu0 ⟨hit, ht⟩ fun h' eb => ⟨rfl, I.turned (t' := s.toks) (fun b ob hb q => eb b ob hb q) f0 f1 f3 f4 f5⟩
  self := fun A i s Q E st h => st.1.elim fun u hu => wpAny_pyIter_enum hu h
/-- for i, x in enumerate(t) -/
def iEnumU (K : PySem.W.Frag) (ta : TA) : TI := fun σ H R => ta σ H fun vs H1 => ∃ a xs, vs = [.ref a] ∧ SqT K H1 a xs ∧ R (ItU K a) H1
theorem pi_enumU {X : Cx} {e : Expr} {ta : TA} {p pos tpos : Pos} {elts : List Expr} {kk : Nat} (hg : Gl X "enumerate") (hm : X.mg "enumerate" = none) (ha : PA X [e] ta)
    (hs : starEach [e] X.env = [(false, eval e X.env)] := by rfl) : PI X (.Tuple elts kk tpos) (.Call (.Name "enumerate" p) [e] [] pos) (iEnumU X.K ta) := by
  refine ⟨fun pins s σ H R I hyp => Call_ (ld_blt I hg hm boot_enumerate (PyProof.Rows.callWith_type1 (thn (ha.run pos pins s σ H _ I hyp) fun us s1 got => ?_) hs rfl))⟩
  obtain ⟨vs, H1, I1, r1, a, xs, rfl, hq, q⟩ := got
  cases r1 with
  | cons r rr =>
    cases rr
    cases r
    obtain ⟨its, rv, ⟨ob, p1, p2, n, p3⟩, hz⟩ := I1.tuple hq
    refine callEnumT (items := its.toArray) ⟨ob, p1, p2, n, p3⟩ fun h' he hit hk => wpAny_pyIter_enum he ?_
    have I2 : Inv X pins σ H1 { s1 with heap := h' } := I1.kept (t' := s1.toks) hk
    refine ⟨s1.heap.objs.size + 1, [s1.heap.objs.size + 1, s1.heap.objs.size], _, _, H1, rfl, I2, turnU a (s1.heap.objs.size + 1) s1.heap.objs.size, ⟨⟨.none, he⟩, hit, Nat.succ_ne_self _⟩, fun b hb => ?_, q⟩
    have hle : s1.heap.objs.size ≤ b := by
      rcases List.mem_cons.mp hb with z | z
      · rw [z]
        exact Nat.le_succ _
      · rw [List.mem_singleton.mp z]
        exact Nat.le_refl _
    exact I1.fpOk hle (I1.hok.fresh hle)
theorem walkU {K : PySem.W.Frag} {a : Addr} {xs : List V} : Walk (ItU K a) xs.length (fun H => SqT K H a xs) (YPair (fun i => some (.int (i : Nat))) (fun i => xs[i]?)) := by
  refine ⟨fun i H hi hq => ⟨xs, xs[i], hq, by simp [hi]⟩, fun H hq => ⟨xs, hq, rfl⟩, fun i H v H' _ hq y => ?_⟩
  obtain ⟨T, x, h1, h2, h3, h4⟩ := y
  exact ⟨T, .int (i : Nat), x, h1, h2, h3, rfl, h4 xs hq⟩
end Rg

set_option Elab.async false
set_option linter.all false
set_option maxRecDepth 100000
set_option maxHeartbeats 2000000
namespace Rg
open PySem PySem.Spec PyProof.Rows L2
/-! ### texts: rules with a name -/
def rM0 (g : Str → V) : V → List V → Hp → VK → Prop := fun x xs H Q => ∃ a, x = .str a ∧ xs = [] ∧ True ∧ Q (g a) H
def rM1 (g : Str → Str → V) : V → List V → Hp → VK → Prop := fun x xs H Q => ∃ a b, x = .str a ∧ xs = [.str b] ∧ Q (g a b) H
def rSplit2 : V → List V → Hp → VK → Prop := fun x xs H Q => ∃ a b, x = .str a ∧ xs = [.str b] ∧ (b.length == 0) = false ∧ a.length + 2 ≤ sizeLine ∧ rNewStrs (Txt.split a b) H Q
def rJoin2 (K : PySem.W.Frag) : V → List V → Hp → VK → Prop := fun x xs H Q => ∃ a p, ∃ ys : List Str, x = .str a ∧ xs = [.ref p] ∧ (SqL K H p (ys.map V.str) ∨ SqT K H p (ys.map V.str)) ∧
  (ys.map (·.length)).sum + ys.length * a.length ≤ 16777216 ∧ Q (.str (Txt.join a ys)) H
def rLenS2 : List V → Hp → VK → Prop := fun xs H Q => ∃ z, xs = [.str z] ∧ z.length ≤ sizeLine ∧ Q (.int z.length) H
def rStrI : List V → Hp → VK → Prop := fun xs H Q => ∃ i, xs = [.int i] ∧ i.natAbs.log2 < 1920 ∧ Q (.str (toString i)) H
def rIntS : List V → Hp → VK → Prop := fun xs H Q => ∃ a n, xs = [.str a] ∧ PySem.intText? a = some n ∧ a.length ≤ 640 ∧ Q (.int n) H
def rAddS2 : R2 := fun x y H Q => ∃ i j, x = .str i ∧ y = .str j ∧ i.length + j.length ≤ sizeLine ∧ Q (.str (i ++ j)) H
section
variable {X : Cx}
theorem c_isascii : MtR X "str.isascii" (rM0 fun a => .bl (Txt.isascii a)) := mt_isascii
theorem c_isdigit : MtR X "str.isdigit" (rM0 fun a => .bl (Txt.isdigit a)) := mt_isdigit
theorem c_startswith : MtR X "str.startswith" (rM1 fun a b => .bl (Txt.startswith a b)) := mt_startswith
theorem c_split : MtR X "str.split" rSplit2 := mt_split
theorem c_join : MtR X "str.join" (rJoin2 X.K) := mt_join
theorem c_lenS : CallR X (.builtin "len") rLenS2 := call_len_str
theorem c_strI : CallR X (.type "str") rStrI := call_str_int
theorem c_intS : CallR X (.type "int") rIntS := call_int_str
theorem c_addS : OpR X (binaryOp .Add) rAddS2 := op_add_str
end
section
variable {d : Addr} {n : Nat} {L : Led} {H : Hp} {σ : L2.St} {Q : VK} {to te : TE} {K : PySem.W.Frag} {a b : Str} {i : Int} {p : Addr}
theorem kM0 {g : Str → V} (h : to σ H fun x H1 => ∃ a, x = .str a ∧ Q (g a) H1) (mono : ∀ R R' : VK, (∀ v H1, R v H1 → R' v H1) → to σ H R → to σ H R') : tM0 (rM0 g) to σ H Q :=
  mono _ _ (fun _ _ ⟨a, e, q⟩ => ⟨⟨a, e⟩, a, e, rfl, True.intro, q⟩) h
theorem kM0v {g : Str → V} {j : Nat} (h : σ[j]? = some (some (.str a))) (q : Q (g a) H) : tM0 (rM0 g) (tVar j) σ H Q := ⟨_, h, ⟨a, rfl⟩, a, rfl, rfl, True.intro, q⟩
theorem kM1v {r : V → List V → Hp → VK → Prop} {j : Nat} (h : σ[j]? = some (some (.str a))) (q : te σ H fun y H2 => r (.str a) [y] H2 Q) : tM1 r (tVar j) te σ H Q := ⟨_, h, ⟨a, rfl⟩, q⟩
theorem kM1c {r : V → List V → Hp → VK → Prop} (q : te σ H fun y H2 => r (.str a) [y] H2 Q) : tM1 r (tC (.str a)) te σ H Q := ⟨⟨a, rfl⟩, q⟩
theorem kR1 {g : Str → Str → V} (q : Q (g a b) H) : rM1 g (.str a) [.str b] H Q := ⟨a, b, rfl, rfl, q⟩
theorem kSplitK (hb : (b.length == 0) = false) (hz : a.length ≤ 100000) (k : Kn d n L H) (q : ∀ p H', Kn d n ((p, .lst ((Txt.split a b).map V.str)) :: L) H' → Q (.ref p) H') : rSplit2 (.str a) [.str b] H Q :=
  ⟨a, b, rfl, rfl, hb, Nat.le_trans (Nat.add_le_add_right hz 2) (by decide), fun p hp => q p _ (k.new hp)⟩
theorem kJoinS {ys : List Str} (h : SqL K H p (ys.map V.str)) (hz : (ys.map (·.length)).sum + ys.length * a.length ≤ 16777216) (q : Q (.str (Txt.join a ys)) H) : rJoin2 K (.str a) [.ref p] H Q := ⟨a, p, ys, rfl, rfl, .inl h, hz, q⟩
theorem kLenS (hz : a.length ≤ 100000) (q : Q (.int a.length) H) : rLenS2 [.str a] H Q := ⟨a, rfl, szL hz, q⟩
theorem kStrI (hz : i.natAbs.log2 < 1920) (q : Q (.str (toString i)) H) : rStrI [.int i] H Q := ⟨i, rfl, hz, q⟩
theorem kIntS (h : PySem.intText? a = some i) (hz : a.length ≤ 640) (q : Q (.int i) H) : rIntS [.str a] H Q := ⟨a, i, rfl, h, hz, q⟩
theorem kAddS (hz : a.length + b.length ≤ 100000) (q : Q (.str (a ++ b)) H) : rAddS2 (.str a) (.str b) H Q := ⟨a, b, rfl, rfl, szL hz, q⟩
end
theorem iteS {a b : Str} {A B : Prop} (h1 : a = b → A) (h2 : a ≠ b → B) : if decide (V.str a = V.str b) = true then A else B :=
  iteD (fun e => h1 (V.str.inj e)) fun e => h2 fun z => e (congrArg V.str z)
theorem iteSN {a b : Str} {A B : Prop} (h1 : a ≠ b → A) (h2 : a = b → B) : if (!decide (V.str a = V.str b)) = true then A else B :=
  iteN (fun e => h1 fun z => e (congrArg V.str z)) fun e => h2 (V.str.inj e)

theorem kYes {σ : L2.St} {H : Hp} {Q : Bool → Hp → Prop} (q : Q true H) : tYes σ H Q := q
/-! ### comprehensions over a tuple, over enumerate(tuple) -/
theorem kLcT {d : Addr} {n : Nat} {L : Led} {H : Hp} {K : PySem.W.Frag} {σ : L2.St} {Q : VK} {p : Addr} {xs : List V} {te0 te : TE} {tt : TT} {j : Nat} {vs : List Nat} (k : Kn d n L H) (hp : (p, .tup xs) ∈ L) (src : ∀ R : VK, R (.ref p) H → te0 σ H R)
    (hz : xs.length ≤ 100000) (acc : Nat → List V) (a0 : acc 0 = []) (al : ∀ i, (acc i).length ≤ i) (hw : ∀ x, wipe ((wipe σ vs).set j (some x)) vs = wipe σ vs)
    (turn : ∀ i x H' D, xs[i]? = some x → Kn d n ((D, .lst (acc i)) :: L) H' → ∀ (N1 : VK) (N2 : Hp → Prop), (∀ y H4, Kn d n ((D, .lst (acc i)) :: L) H4 → acc (i + 1) = acc i ++ [y] → N1 y H4) → (∀ H3, Kn d n ((D, .lst (acc i)) :: L) H3 → acc (i + 1) = acc i → N2 H3) →
      tt ((wipe σ vs).set j (some x)) H' fun b H3 => if b = true then te ((wipe σ vs).set j (some x)) H3 N1 else N2 H3)
    (q : ∀ D H', Kn d n ((D, .lst (acc xs.length)) :: L) H' → Q (.ref D) H') : tLc (iTup K te0) (gName j) tt te vs σ H Q := by
  refine src _ ⟨p, rfl, ⟨xs, k.seqT hp⟩, fun D hD => lc_tup (xs := xs) (fun i H' => Kn d n ((D, .lst (acc i)) :: L) H') ?_ (fun i H' _ kn => kn.seqT (List.mem_cons_of_mem _ hp)) (fun i x H' hx kn => ⟨hw x, ?_⟩) (fun H' kn => q D H' kn)⟩
  · rw [a0]
    exact k.new hD
  · have hi : i < xs.length := (List.getElem?_eq_some_iff.mp hx).1
    refine turn i x H' D hx kn _ _ (fun y H4 kn4 e => ⟨acc i, kn4.at 0 rfl, szL' (by have := al i; omega), ?_⟩) (fun H3 kn3 e => ?_)
    · rw [e]
      exact kn4.put 0 rfl
    · rw [e]
      exact kn3
theorem kLcE {d : Addr} {n : Nat} {L : Led} {H : Hp} {K : PySem.W.Frag} {σ : L2.St} {Q : VK} {p : Addr} {xs : List V} {te0 te : TE} {tt : TT} {j l : Nat} {vs : List Nat} (k : Kn d n L H) (hp : (p, .tup xs) ∈ L) (src : ∀ R : VK, R (.ref p) H → te0 σ H R)
    (hz : xs.length ≤ 100000) (acc : Nat → List V) (a0 : acc 0 = []) (al : ∀ i, (acc i).length ≤ i) (hw : ∀ x y, wipe (((wipe σ vs).set j (some x)).set l (some y)) vs = wipe σ vs)
    (turn : ∀ (i : Nat) x H' D T, xs[i]? = some x → Kn d n ((T, .tup [.int i, x]) :: (D, .lst (acc i)) :: L) H' → ∀ (N1 : VK) (N2 : Hp → Prop), (∀ y H4, Kn d n ((T, .tup [.int i, x]) :: (D, .lst (acc i)) :: L) H4 → acc (i + 1) = acc i ++ [y] → N1 y H4) →
      (∀ H3, Kn d n ((T, .tup [.int i, x]) :: (D, .lst (acc i)) :: L) H3 → acc (i + 1) = acc i → N2 H3) →
      tt (((wipe σ vs).set j (some (.int (i : Int)))).set l (some x)) H' fun b H3 => if b = true then te (((wipe σ vs).set j (some (.int (i : Int)))).set l (some x)) H3 N1 else N2 H3)
    (q : ∀ D H', Kn d n ((D, .lst (acc xs.length)) :: L) H' → Q (.ref D) H') : tLc (iEnumU K (tCons te0 tNil)) (gTup K 2 (gCons (gName j) (gCons (gName l) gNil))) tt te vs σ H Q := by
  refine src _ ⟨p, xs, rfl, k.seqT hp, fun D hD => lc_it (walkU (xs := xs)) (fun i H' => Kn d n ((D, .lst (acc i)) :: L) H') ?_ (fun i H' _ kn => kn.seqT (List.mem_cons_of_mem _ hp)) (fun i v H1 H' hi kn y => ?_) (fun H' kn => q D H' kn)⟩
  · rw [a0]
    exact k.new hD
  · obtain ⟨T, x1, x, rfl, hT, rfl, e1, hx⟩ := y
    have e1' := Option.some.inj e1
    subst e1'
    have kt := kn.new (o := .tup [.int (i : Int), x]) hT
    refine ⟨T, [.int (i : Int), x], rfl, kt.seqT List.mem_cons_self, rfl, _, _, rfl, _, _, rfl, rfl, hw _ _, ?_⟩
    refine turn i x _ D T hx kt _ _ (fun y H4 kn4 e => ⟨acc i, kn4.at 1 rfl, szL' (by have := al i; omega), ?_⟩) (fun H3 kn3 e => ?_)
    · rw [e]
      exact (kn4.put 1 rfl).tail
    · rw [e]
      exact kn3.tail
/-! ### all of a list of truths -/
def rAll2 (K : PySem.W.Frag) : List V → Hp → VK → Prop := fun vs H Q => ∃ (a : Addr) (bs : List Bool), vs = [V.ref a] ∧ SqL K H a (bs.map V.bl) ∧ Q (.bl (bs.all id)) H
theorem c_all {X : Cx} (hc : X.calm = true) : CallR X (.builtin "all") (rAll2 X.K) := cr_all hc
theorem kAll {K : PySem.W.Frag} {H : Hp} {Q : VK} {p : Addr} {bs : List Bool} (h : SqL K H p (bs.map V.bl)) (q : Q (.bl (bs.all id)) H) : rAll2 K [.ref p] H Q := ⟨p, bs, rfl, h, q⟩
/-! ### is, of truths -/
theorem kIsB {H : Hp} {Q : VK} {a b : Bool} (q : Q (.bl (decide (a = b))) H) : rIsB (.bl a) (.bl b) H Q := ⟨a, b, rfl, rfl, q⟩
theorem kNotB {H : Hp} {Q : VK} {a b : Bool} (q : Q (.bl (!decide (a = b))) H) : rNotB (.bl a) (.bl b) H Q := ⟨a, b, rfl, rfl, q⟩
end Rg

set_option Elab.async false
set_option linter.all false
set_option maxRecDepth 100000
set_option maxHeartbeats 2000000
namespace Rg
open PySem PySem.Spec PyProof.Rows L2
/-! ### lists: insert, times, plus, in, index, an item stored -/
def rIns2 : V → List V → Hp → VK → Prop := fun x vs H Q => ∃ (l : Addr) (xs : List V) (i : Int) (y : V), x = .ref l ∧ vs = [.int i, y] ∧ H l = some (.lst xs) ∧ xs.length < sizeLine ∧ 0 ≤ i ∧ i < 2 ^ 63 ∧
  Q .non (upd H l (.lst (xs.take i.toNat ++ [y] ++ xs.drop i.toNat)))
theorem c_insert {X : Cx} : MtR X "list.insert" rIns2 := mt_insert
section
variable {d : Addr} {n : Nat} {L : Led} {H : Hp} {σ : L2.St} {Q : VK} {K : PySem.W.Frag} {p q : Addr} {v : V} {xs ys : List V} {k : Int}
theorem kInsK (kn : Kn d n L H) (j : Nat) (h : L[j]? = some (p, .lst xs)) (z : xs.length < 100000) (k0 : 0 ≤ k) (k1 : k < 100000) (g : ∀ H', Kn d n (L.set j (p, .lst (xs.take k.toNat ++ [v] ++ xs.drop k.toNat))) H' → Q .non H') : rIns2 (.ref p) [.int k, v] H Q :=
  ⟨p, xs, k, v, rfl, rfl, kn.at j h, szL' z, k0, by omega, g _ (kn.put j h)⟩
theorem kRepK (kn : Kn d n L H) (h : (p, .lst xs) ∈ L) (k0 : 0 ≤ k) (k1 : k ≤ 100000) (z : xs.length * k.toNat ≤ 100000) (g : ∀ l H', Kn d n ((l, .lst (List.replicate k.toNat xs).flatten) :: L) H' → Q (.ref l) H') : rRep (.ref p) (.int k) H Q :=
  ⟨p, k, xs, rfl, rfl, kn.mem h, by omega, by omega, szL z, fun l hl => g l _ (kn.new hl)⟩
theorem kCatK (kn : Kn d n L H) (h1 : (p, .lst xs) ∈ L) (h2 : (q, .lst ys) ∈ L) (z : xs.length + ys.length ≤ 100000) (g : ∀ l H', Kn d n ((l, .lst (xs ++ ys)) :: L) H' → Q (.ref l) H') : rCat (.ref p) (.ref q) H Q :=
  ⟨p, q, xs, ys, rfl, rfl, kn.mem h1, kn.mem h2, szL z, fun l hl => g l _ (kn.new hl)⟩
theorem flatInts : ∀ ns : List Int, (ns.map V.int).all flatV = true
  | [] => rfl
  | _ :: r => by
    rw [List.map_cons, List.all_cons, flatInts r]
    rfl
theorem inInts (x : Int) : ∀ ns : List Int, inV (.int x) (ns.map V.int) = decide (x ∈ ns)
  | [] => rfl
  | y :: r => by
    have ih := inInts x r
    unfold inV at ih ⊢
    rw [List.map_cons, List.any_cons, ih]
    by_cases h1 : y = x
    · subst h1
      simp [eqV]
    · have h2 : ¬ x = y := fun e => h1 e.symm
      simp [eqV, h1, h2]
theorem kInL {x : Int} {ns : List Int} (h : SqL K H p (ns.map V.int)) (g : Q (.bl (decide (x ∈ ns))) H) : rIn K false (.int x) (.ref p) H Q := by
  refine ⟨p, _, rfl, .inl h, rfl, flatInts ns, ?_⟩
  rw [if_neg Bool.false_ne_true, inInts]
  exact g
theorem kIndex {x : Int} {ns : List Int} {j : Nat} (h : SqL K H p (ns.map V.int)) (hj : ns[j]? = some x) (hm : ∀ m < j, ns[m]? ≠ some x) (g : Q (.int (j : Int)) H) : rIndex K (.ref p) [.int x] H Q := by
  refine ⟨p, _, .int x, j, .int x, rfl, rfl, h, rfl, flatInts ns, by rw [List.getElem?_map, hj]; rfl, by simp [eqV], fun m z' hmj hz => ?_, g⟩
  rw [List.getElem?_map] at hz
  cases e : ns[m]? with
  | none => rw [e] at hz; cases hz
  | some y =>
    rw [e] at hz
    have hy : V.int y = z' := Option.some.inj hz
    rw [← hy]
    have : y ≠ x := fun z => hm m hmj (by rw [e, z])
    simp [eqV, this]
theorem kSetK (kn : Kn d n L H) (i : Nat) (h : L[i]? = some (p, .lst xs)) {j : Nat} (e : k = (j : Int)) (hj : j < xs.length) {R : Hp → Prop} (g : ∀ H', Kn d n (L.set i (p, .lst (xs.set j v))) H' → R H') : rSetL (.ref p) (.int k) v H R := by
  subst e
  refine ⟨p, xs, _, j, rfl, rfl, kn.at i h, ?_, g _ (kn.put i h)⟩
  unfold ixN
  rw [if_pos (by omega), if_pos (by omega)]
  simp
end
theorem cutDrop (xs : List V) (k : Nat) (h : k ≤ xs.length) : cutV xs (some (k : Int)) none = xs.drop k := by
  unfold cutV
  rw [HT.sIx_nat, HT.sIx_none, Nat.min_eq_left h]
  exact List.take_of_length_le (by rw [List.length_drop]; exact Nat.le_refl _)
theorem cutTake (xs : List V) (k : Nat) (h : k ≤ xs.length) : cutV xs none (some (k : Int)) = xs.take k := by
  unfold cutV
  rw [HT.sIx_nat, HT.sIx_none, Nat.min_eq_left h, Nat.sub_zero, List.drop_zero]
/-! ### comprehensions over a range -/
theorem kLcR {d : Addr} {n : Nat} {L : Led} {H : Hp} {σ : L2.St} {Q : VK} {lo : Int} {N : Nat} {wi : TI} {te : TE} {tt : TT} {j : Nat} {vs : List Nat} (k : Kn d n L H) (src : ∀ R : It → Hp → Prop, R (Itr lo N) H → wi σ H R)
    (hz : N ≤ 100000) (acc : Nat → List V) (a0 : acc 0 = []) (al : ∀ i, (acc i).length ≤ i) (hw : ∀ x, wipe ((wipe σ vs).set j (some x)) vs = wipe σ vs)
    (turn : ∀ (i : Nat) H' D, i < N → Kn d n ((D, .lst (acc i)) :: L) H' → ∀ (N1 : VK) (N2 : Hp → Prop), (∀ y H4, Kn d n ((D, .lst (acc i)) :: L) H4 → acc (i + 1) = acc i ++ [y] → N1 y H4) → (∀ H3, Kn d n ((D, .lst (acc i)) :: L) H3 → acc (i + 1) = acc i → N2 H3) →
      tt ((wipe σ vs).set j (some (.int (lo + (i : Int))))) H' fun b H3 => if b = true then te ((wipe σ vs).set j (some (.int (lo + (i : Int))))) H3 N1 else N2 H3)
    (q : ∀ D H', Kn d n ((D, .lst (acc N)) :: L) H' → Q (.ref D) H') : tLc wi (gName j) tt te vs σ H Q := by
  refine src _ fun D hD => lc_range (lo := lo) (n := N) (fun i H' => Kn d n ((D, .lst (acc i)) :: L) H') ?_ (fun i H' hi kn => ⟨hw _, ?_⟩) (fun H' kn => q D H' kn)
  · rw [a0]
    exact k.new hD
  · refine turn i H' D hi kn _ _ (fun y H4 kn4 e => ⟨acc i, kn4.at 0 rfl, szL' (by have := al i; omega), ?_⟩) (fun H3 kn3 e => ?_)
    · rw [e]
      exact kn4.put 0 rfl
    · rw [e]
      exact kn3
theorem srcR1 {σ : L2.St} {H : Hp} {ta : TA} {n : Int} (h : ∀ R : List V → Hp → Prop, R [.int n] H → ta σ H R) (h0 : 0 ≤ n) (h1 : n ≤ 100000) (R : It → Hp → Prop) (q : R (Itr 0 n.toNat) H) : iRng1 ta σ H R := h _ ⟨n, rfl, by omega, by omega, q⟩
theorem srcR2 {σ : L2.St} {H : Hp} {ta : TA} {lo n : Int} (h : ∀ R : List V → Hp → Prop, R [.int lo, .int n] H → ta σ H R) (h0 : 0 ≤ lo) (h1 : n ≤ 100000) (h2 : lo ≤ 100000) (h3 : -100000 ≤ n) (R : It → Hp → Prop) (q : R (Itr lo (n - lo).toNat) H) : iRng2 ta σ H R :=
  h _ ⟨lo, n, rfl, ⟨by omega, by omega, by omega, by omega⟩, q⟩
/-! ### for i, x in enumerate(t) -/
theorem kForE {σ : L2.St} {H : Hp} {tb : TS} {j l : Nat} {te : TE} {K : PySem.W.Frag} {nx bk ct : L2.St → Hp → Prop} {rt : VK} {p : Addr} {xs : List V} (Pv : Nat → L2.St → Hp → Prop) (hq : SqT K H p xs) (h0 : Pv 0 σ H) (hl : ∀ i σ' H', i ≤ xs.length → Pv i σ' H' → SqT K H' p xs)
    (hs : ∀ (i : Nat) x σ' H' T, xs[i]? = some x → Pv i σ' H' → H' T = none → tb (Ends.mk (Pv (i + 1)) rt nx (Pv (i + 1))) ((σ'.set j (some (.int (i : Int)))).set l (some x)) (upd H' T (.tup [.int (i : Int), x]))) (hd : ∀ σ' H', Pv xs.length σ' H' → nx σ' H')
    (h : ∀ R : VK, R (.ref p) H → te σ H R) : tFor (iEnumU K (tCons te tNil)) (gTup K 2 (gCons (gName j) (gCons (gName l) gNil))) tb (Ends.mk nx rt bk ct) σ H := by
  refine h _ ⟨p, xs, rfl, hq, for_it (walkU (xs := xs)) Pv h0 hl (fun i v σ' H1 H' hi hp y => ?_) hd⟩
  obtain ⟨T, x1, x, rfl, hT, rfl, e1, hx⟩ := y
  have e1' := Option.some.inj e1
  subst e1'
  exact ⟨T, [.int (i : Int), x], rfl, .inl (.inl upd_same), rfl, _, _, rfl, _, _, rfl, rfl, hs i x σ' H1 T hx hp hT⟩
/-! ### so many different ones, and no more -/
theorem php : ∀ (n : Nat) (l : List Nat), l.Nodup → (∀ x ∈ l, x < n) → l.length ≤ n
  | 0, l, _, h => by
    cases l with
    | nil => exact Nat.le_refl _
    | cons x r => exact absurd (h x List.mem_cons_self) (Nat.not_lt_zero _)
  | n + 1, l, nd, h => by
    by_cases hm : n ∈ l
    · have ih := php n (l.erase n) (nd.erase n) fun x hx => by
        have h1 := h x (List.mem_of_mem_erase hx)
        have h2 : x ≠ n := fun e => by
          subst e
          exact (nd.not_mem_erase) hx
        omega
      rw [List.length_erase_of_mem hm] at ih
      omega
    · have ih := php n l nd fun x hx => by
        have h1 := h x hx
        have h2 : x ≠ n := fun e => hm (e ▸ hx)
        omega
      omega
theorem php_all {n : Nat} {l : List Nat} (nd : l.Nodup) (h : ∀ x ∈ l, x < n) (hl : l.length = n) {j : Nat} (hj : j < n) : j ∈ l := by
  by_cases hm : j ∈ l
  · exact hm
  · have := php n (j :: l) (List.nodup_cons.mpr ⟨hm, nd⟩) fun x hx => by
      rcases List.mem_cons.mp hx with rfl | hx
      · exact hj
      · exact h x hx
    rw [List.length_cons] at this
    omega
/-! ### rules whose written part is named -/
section
variable {X : Cx} {K : PySem.W.Frag}
theorem ixL (e : X.K = K) : IxR X (rIxL K) := e ▸ ix_list
theorem ixT (e : X.K = K) : IxR X (rIxT K) := e ▸ ix_tup
theorem ixQ (e : X.K = K) : IxR X (rIx K) := e ▸ ix_seq
theorem slL (e : X.K = K) : SlR X (rSlL K) := e ▸ sl_list
theorem inQ (e : X.K = K) : OpR X (compareOp .In) (rIn K false) := e ▸ op_in_seq
theorem niQ (e : X.K = K) : OpR X (compareOp .NotIn) (rIn K true) := e ▸ op_notIn_seq
theorem lenQ (e : X.K = K) : CallR X (.builtin "len") (rLen2 K) := e ▸ c_len
theorem isiQ (e : X.K = K) : CallR X (.builtin "isinstance") (rIsi K) := e ▸ call_isi
theorem eqQ (e : X.K = K) (hu : X.A.units + 64 < cLine) : OpR X (compareOp .Eq) (rEqD K) := e ▸ op_eqD hu
theorem neQ (e : X.K = K) (hu : X.A.units + 64 < cLine) : OpR X (compareOp .NotEq) (rNeD K) := e ▸ op_neD hu
end
end Rg

set_option Elab.async false
set_option linter.all false
set_option maxRecDepth 100000
set_option maxHeartbeats 2000000
/-! # A refusal with an __init__ of its own: super().__init__(message), self.field = field -/
namespace Rg
open PySem PySem.W PySem.Calls PySem.HandSPX PyProof.Rows
def inB (fld : Str) (msg : Expr) (p0 p1 p2 p3 p4 q1 q2 q3 q4 : Pos) : List Stmt :=
  [.Expr (.Call (.Attribute (.Call (.Name "super" p0) [] [] p1) "__init__" p2) [msg] [] p3) p4, .Assign [.Attribute (.Name "self" q1) fld q2] (.Name fld q3) q4]
/-- how the call of the base's __init__ goes -/
def SupForm (msg : Expr) (p0 p1 p2 p3 : Pos) (env : Env) : Prop := ∃ pl : Sem Bool, eval (.Call (.Attribute (.Call (.Name "super" p0) [] [] p1) "__init__" p2) [msg] [] p3) env = do
  let ov ← attributeBase (.Call (.Name "super" p0) [] [] p1) "__init__" env (eval (.Call (.Name "super" p0) [] [] p1) env)
  standAt p2.atName
  let (f, first) ← holding [ov] (getMethod ov "__init__" pl)
  callWith p3 f first (backTo p3 (starEach [msg] env)) []
/-- what the written part says of a refusal's class at C, of its __init__ at fI -/
structure ExT (prog : Program) (K : Frag) (mg : Str → Option Value) (fld : Str) (C fI : Addr) (bmB : List Value) : Prop where
  cls : ∃ nm q N bs bm sn sub ab col dd k0 k1 k2 k3 k5, K.lookup C = some (excClassObj nm q C N bs bm true sn sub ab col dd k0 k1 k2 k3 k5 "ValueError.__new__") ∧ refsVE bm = true
  base : ExcBaseFacts "ValueError" "ValueError.__new__" "ValueError.__init__" bmB
  exIn : excInitIn K C bmB "ValueError.__new__" = true
  sa : findIn K (.ref C) "__setattr__" = some (some (.builtin "object.__setattr__"))
  noN : findIn K (.ref C) fld = some none
  iC : findIn K (.ref C) "__init__" = some (some (.ref fI))
  tI : typeIn K (.ref fI) = some (.type "function")
  kC : keepIn K (.ref C) = true
  exC : subIn K (.ref C) (.type "BaseException") = some true
  veC : subIn K (.ref C) (.type "ValueError") = some true
  ccC : subIn K (.ref C) (.ref C) = some true
  tyC : typeIn K (.ref C) = some (.type "type")
  sup : ks_superIn K C C "__init__" = some (some (.builtin "ValueError.__init__"))
  noO : nsIn K cStatics "thirdparty.any" = some none
  msup : mg "super" = none
  top : (prog.main.scope.names.lookup ("super" : Str)).isSome = false
/-- its __init__, the message written -/
structure ExI (prog : Program) (K : Frag) (fld : Str) (C fI : Addr) (fd : FuncData) (msg : Expr) : Prop where
  fn : ∃ oc od osl, K.lookup fI = some ⟨oc, od, .func fd, osl⟩
  body : ∃ p0 p1 p2 p3 p4 q1 q2 q3 q4, fd.body = .stmts (inB fld msg p0 p1 p2 p3 p4 q1 q2 q3 q4) ∧ (∀ env : Env, SupForm msg p0 p1 p2 p3 env) ∧ (∀ env : Env, starEach [msg] env = (false, eval msg env) :: starEach [] env) ∧ (∀ env : Env, swapsWith (.Call (.Attribute (.Call (.Name "super" p0) [] [] p1) "__init__" p2) [msg] [] p3) none p4.line env = pure false)
  bind : ∀ (s : Shared) (x v : Value), BindsTo s fd ⟨[x, v], []⟩ [("self", x), (fld, v)]
  noc : ∀ x ∈ fd.scope.names, x.2 ≠ .cell
  cor : fd.scope.isCoroutine = false
  gen : fd.scope.isGenerator = false
  kind : fd.scope.kind = .function
  kself : fd.scope.names.lookup ("self" : Str) = some .local
  kfld : fd.scope.names.lookup fld = some .local
  ksup : fd.scope.names.lookup ("super" : Str) = some .globalImplicit
  kcls : fd.scope.names.lookup ("__class__" : Str) = some .free
  code : ∃ cda c1 e1 vs s1 file tf, fd.code = .ref cda ∧ K.lookup cda = some ⟨c1, e1, .fields vs, s1⟩ ∧ vs[2]? = some (.str file tf) ∧ ((prog.main.file : Str) == file) = true
  crec : codeIn K fd.code fd.qualname = true
  clo : ∃ cc c2 e2 s2, fd.closure.lookup ("__class__" : Str) = some cc ∧ K.lookup cc = some ⟨c2, e2, .cell (some (.ref C)), s2⟩
  gl : fd.globals = mainGlobals
  bu : fd.builtins = builtinsNs
  hd : ∃ ar, (fd.params.posonlyargs ++ fd.params.args).head? = some ar ∧ ar.arg = ("self" : Str)
  dbg : (fld == ("__debug__" : Str)) = false
  nsf : fld ≠ ("self" : Str)
/-- a message is made wherever the field's name holds such a value -/
def MsgOk (prog : Program) (w : World) (fld : Str) (msg : Expr) (G : Value → Prop) : Prop := ∀ (A : Around) (E : Value → Shared → Prop) (s : Shared) (env : Env) (m : Str → Option Value) (v : Value) (Q : Value → Shared → Prop),
  env.scope.kind = .function → s.heap.Ns env.locals m → m fld = some v → env.kindOf fld = some .local → G v → (∀ u tk, Q u { s with toks := tk }) → wpAny (model prog w) A (eval msg env) Q E s
theorem msg_const {prog : Program} {w : World} {fld : Str} {x : Str} {j : Nat} {pos : Pos} {G : Value → Prop} : MsgOk prog w fld (.Constant (.str x) j pos) G := fun A E s env m v Q _ _ _ _ _ q => Constant_str (q _ _)
/-- the exception behind its __init__ -/
structure InEnd (fld : Str) (h0 h h' : Heap) (x C dx : Addr) (v : Value) : Prop where
  keep : ∀ b o, b ≠ x → h0.get? b = some o → h'.get? b = some o
  obj : ∃ t1 : Addr, h'.get? x = some { cls := .ref C, dict := some dx, data := .fields #[.ref t1, .none, .none, .none, .bool false, .none] }
  dbig : h.objs.size ≤ dx
  dne : dx ≠ x
  ns : h'.Ns1 dx (fun y => if y = fld then some v else none)
theorem size_one (v : Value) : [v].length ≤ sizeLine := by
  rw [sizeLine_eq]
  exact (by decide : 1 ≤ 16777216)
section
variable {prog : Program} {w : World} {A : Around} {R : Result → Shared → Prop} {K : Frag} {mg mb : Str → Option Value} {C fI : Addr} {fld : Str} {msg : Expr} {G : Value → Prop} {fd : FuncData} {bmB : List Value}
theorem ex_init (T : ExT prog K mg fld C fI bmB) (J : ExI prog K fld C fI fd msg) (hmsg : MsgOk prog w fld msg G) {h0 hp : Heap} {gs : Array GenState} {dr : Drawn} {tk : Nat} {os : OsState} {x t0 : Addr} {v : Value}
    (X0 : K.In h0) (k0 : ∀ b o, h0.get? b = some o → hp.get? b = some o) (x0 : h0.get? x = none) (sz0 : h0.objs.size ≤ hp.objs.size) (hlim : hp.NoLimit)
    (hg : hp.Ns mainGlobals mg) (hb : hp.Ns builtinsNs mb) (hbb : mb "super" = some (.type "super")) (hx : hp.get? x = some (excO C t0)) (hroom : A.depth < recursionLimit) (hv : G v)
    (hq : ∀ h' tk dx, InEnd fld h0 hp h' x C dx v → R (.ok (.ret .none)) ⟨h', gs, dr, tk, os⟩) : codeAny (model prog w) A (.call (.ref fI) ⟨[.ref x, v], []⟩) R ⟨hp, gs, dr, tk, os⟩ := by
  obtain ⟨oc, od, osl, hfn⟩ := J.fn
  obtain ⟨p0, p1, p2, p3, p4, q1, q2, q3, q4, hbody, hform, hstar, hswap⟩ := J.body
  obtain ⟨cda, c1, e1, vs, s1, file, tf, hcode, hcda, hvs, hfile⟩ := J.code
  obtain ⟨cc, c2, e2, s2, hclo, hcc⟩ := J.clo
  obtain ⟨ar, har, hself⟩ := J.hd
  obtain ⟨nm, qn, N, bs, bm, sn, sub, ab, col, dd, k1, k2, k3, k4, k5, hC, hbm⟩ := T.cls
  have hcl : clsIn K C = some { name := nm, bases := bs, mro := .ref C :: bm, ns := N, qualname := qn, hasDict := true, slotNames := sn, subclasses := sub, abstract := ab, collection := col, hasDel := false } := by unfold clsIn; rw [hC] <;> rfl
  have X : K.In hp := X0.keeps k0
  refine ks_codeAny_call_defAt (fd := fd) (binds := [("self", .ref x), (fld, v)]) hroom (X _ _ hfn) rfl hlim (codeRec_of X J.crec) hbody (J.bind _ _ _) J.noc (fun y hy => ?_) (fun h₁ hns hk₁ => ?_) J.cor J.gen J.kind
  · rcases List.mem_cons.mp hy with rfl | hy
    · exact J.kself
    · rw [List.mem_singleton.mp hy]
      exact J.kfld
  have hmself : (fun y : Str => List.lookup y ([(("self" : Str), Value.ref x), (fld, v)] : List (Str × Value)).reverse) "self" = some (.ref x) := by
    have z : (("self" : Str) == fld) = false := by simpa using Ne.symm J.nsf
    show List.lookup ("self" : Str) [(fld, v), (("self" : Str), Value.ref x)] = _
    simp [List.lookup, z]
  have hmfld : (fun y : Str => List.lookup y ([(("self" : Str), Value.ref x), (fld, v)] : List (Str × Value)).reverse) fld = some v := by
    show List.lookup fld [(fld, v), (("self" : Str), Value.ref x)] = _
    simp [List.lookup]
  have X₁ : K.In h₁ := X.keeps hk₁
  have hx₁ := hk₁ _ _ hx
  have hxL : x < hp.objs.size := Heap.lt_size hx
  have F₁ : Fr h0 hp.objs.size h₁ (fun y : Str => List.lookup y ([(("self" : Str), Value.ref x), (fld, v)] : List (Str × Value)).reverse) := ⟨hns, fun b o e => hk₁ _ _ (k0 _ _ e), sz0⟩
  have kN : ∀ {y : Str} {k : NameKind}, fd.scope.names.lookup y = some k → (callEnv fd hp.objs.size fI).kindOf y = some k := fun e => e
  have kK : (callEnv fd hp.objs.size fI).scope.kind = .function := J.kind
  have gG : h₁.Ns (callEnv fd hp.objs.size fI).globals mg := by
    show h₁.Ns fd.globals mg
    rw [J.gl]
    exact hg.keeps hk₁
  have gB : h₁.Ns (callEnv fd hp.objs.size fI).builtins mb := by
    show h₁.Ns fd.builtins mb
    rw [J.bu]
    exact hb.keeps hk₁
  have no0 : ∀ {b : Addr}, h0.objs.size ≤ b → h0.get? b = none := fun {b} le => by
    cases e : h0.get? b with
    | none => rfl
    | some o => exact absurd (Nat.lt_of_lt_of_le (Heap.lt_size e) le) (Nat.lt_irrefl _)
  have hL₁ : hp.objs.size < h₁.objs.size := hns.lt
  refine ks_wpAt_execs_cons (ks_wpAt_Expr_any ?_ (by first | rfl | (unfold interactive; rw [kK] <;> rfl)) (hswap _))
  obtain ⟨pl, hpl⟩ := hform (callEnv fd hp.objs.size fI)
  refine ks_wpAt_MethodCall (ks_wpAt_super_base (cc := cda) (f := fI) (ar := ar) (file := file) (tf := tf) (vs := vs) (fd := fd) (kN J.ksup) (kN J.kcls) rfl rfl (X₁ _ _ hfn) rfl har hcode (X₁ _ _ hcda) rfl hvs hfile T.top ?_) hpl
  refine ks_loadName_global kK (kN J.ksup) (loadGlobal_builtin gG T.msup gB hbb ⟨rfl, ?_⟩)
  refine wpAny_loadName_free kK (kN J.kcls) hclo ⟨_, X₁ _ _ hcc, rfl⟩ ?_
  rw [hself]
  refine wpAny_loadName_local kK (kN J.kself) hns hmself ?_
  refine ks_wpAny_isType_cls (X₁ _ _ hC) rfl ⟨rfl, ?_⟩
  refine ks_wpAny_call_super (X₁ _ _ hC) rfl hx₁ rfl (fun c e => by cases e) (looks_subIn X₁ T.ccC) (fun h₂ hso hk₂ => ?_)
  have F₂ : Fr h0 hp.objs.size h₂ (fun y : Str => List.lookup y ([(("self" : Str), Value.ref x), (fld, v)] : List (Str × Value)).reverse) := ⟨F₁.ns.keeps hk₂, fun b o e => hk₂ _ _ (F₁.keep _ _ e), sz0⟩
  have hx₂ := hk₂ _ _ hx₁
  have nsx : h₁.objs.size ≠ x := Nat.ne_of_gt (Nat.lt_trans hxL hL₁)
  have N₂ : News h0 hp.objs.size h₂ [(h₁.objs.size, ks_superObj C x C), (x, excObj C t0 none .none)] := by
    intro p hp'
    rcases List.mem_cons.mp hp' with rfl | hp'
    · exact ⟨hso, Nat.ne_of_gt hL₁, no0 (Nat.le_trans sz0 (Nat.le_of_lt hL₁))⟩
    · rw [List.mem_singleton.mp hp']
      exact ⟨hx₂, Nat.ne_of_lt hxL, x0⟩
  refine kxs_method kxs_ValueError F₂ X0 N₂ List.mem_cons_self (ox := excO C t0) (odx := none) ⟨hx₂, rfl, rfl, trivial⟩ T.noO T.sup T.veC rfl (fun q h₃ F₃ N₃ hq₃ => ?_)
  have nqx : q ≠ x := (Nat.ne_of_lt (hq₃ _ (List.mem_cons_of_mem _ List.mem_cons_self))).symm
  refine kxs_callWith1 N₃ List.mem_cons_self (spliced_more (hmsg _ _ _ _ _ v _ kK F₃.ns hmfld (kN J.kfld) hv (fun u tk₃ => spliced_none ⟨kxs_at N₃ List.mem_cons_self, ?_⟩)) (hstar _)) (hstar _)
  refine kxs_call F₃ X0 N₃ T.base T.exIn List.mem_cons_self (UpdF.tail nqx (UpdF.tail nsx (UpdF.head (by intro p hp'; cases hp')))) (size_one _) (fun t' h₄ F₄ N₄ _ => ?_)
  have hx₄ : h₄.get? x = some (excO C t') := (N₄ (x, excObj C t' none .none) (by simp)).1
  have X₄ : K.In h₄ := X0.keeps F₄.keep
  show PySem.wpAt _ _ _ _ _ _ _
  refine ks_wpAt_execs_cons (ks_wpAt_Assign_Attr (wpAt_of_wpAny (wpAny_Name (wpAny_loadName_local kK (kN J.kfld) F₄.ns hmfld ?_) J.dbg)) rfl)
  refine wpAny_Name (wpAny_loadName_local kK (kN J.kself) F₄.ns hmself ?_) (by decide)
  refine set_plain X₄ (ox := excO C t') (od := none) ⟨hx₄, rfl, rfl, trivial⟩ T.sa ?_
  refine exc_osa X₄ hx₄ hcl (show refsVE (.ref C :: bm) = true from hbm) rfl T.noN (fun h₅ tk₅ dx k₅ dn dne hx₅ hn₅ => ?_)
  have hL₄ : hp.objs.size < h₄.objs.size := F₄.ns.lt
  exact wpAt_of_wpAny (wpAny_execs_nil (hq h₅ tk₅ dx ⟨fun b o hb e => k₅ b o hb (F₄.keep b o e), ⟨t', hx₅⟩, Nat.le_of_lt (Nat.lt_of_lt_of_le hL₄ dn), dne, hn₅⟩))
/-- a made refusal -/
structure Made (fld : Str) (h h' : Heap) (e C d : Addr) (v : Value) : Prop where
  keep : ∀ b o, h.get? b = some o → h'.get? b = some o
  new : h.objs.size ≤ e
  obj : ∃ t1 : Addr, h'.get? e = some { cls := .ref C, dict := some d, data := .fields #[.ref t1, .none, .none, .none, .bool false, .none] }
  dbig : h.objs.size ≤ d
  dne : d ≠ e
  ns : h'.Ns1 d (fun y => if y = fld then some v else none)
theorem ex_made (T : ExT prog K mg fld C fI bmB) (J : ExI prog K fld C fI fd msg) (hmsg : MsgOk prog w fld msg G) {hp : Heap} {gs : Array GenState} {dr : Drawn} {tk : Nat} {os : OsState} {v : Value}
    (X : K.In hp) (hlim : hp.NoLimit) (hg : hp.Ns mainGlobals mg) (hb : hp.Ns builtinsNs mb) (hbb : mb "super" = some (.type "super")) (hroom : A.depth + 1 < recursionLimit) (hv : G v)
    (hq : ∀ h' tk e d, Made fld hp h' e C d v → R (.ok (.ret (.ref e))) ⟨h', gs, dr, tk, os⟩) : codeAny (model prog w) A (.call (.ref C) ⟨[v], []⟩) R ⟨hp, gs, dr, tk, os⟩ := by
  obtain ⟨nm, q, N, bs, bm, sn, sub, ab, col, dd, k0, k1, k2, k3, k5, hC, hbm⟩ := T.cls
  have k : ∀ b o, hp.get? b = some o → ((hp.push (kdv_tup [v])).push (excO C hp.objs.size)).get? b = some o := fun b o e => Heap.get?_push_of_some _ (Heap.get?_push_of_some _ e)
  have hget : ((hp.push (kdv_tup [v])).push (excO C hp.objs.size)).get? (hp.objs.size + 1) = some (excO C hp.objs.size) := by heap_get
  have x0 : hp.get? (hp.objs.size + 1) = none := by
    cases e : hp.get? (hp.objs.size + 1) with
    | none => rfl
    | some o => exact absurd (Nat.lt_of_succ_lt (Heap.lt_size e)) (Nat.lt_irrefl _)
  have hs : hp.objs.size ≤ ((hp.push (kdv_tup [v])).push (excO C hp.objs.size)).objs.size := by
    rw [Heap.size_push, Heap.size_push]
    exact Nat.le_succ_of_le (Nat.le_succ _)
  refine call_own F.excBase_ValueError (fun X => refsVE_contains X bm hbm) (X _ _ hC) (looks_findIn X T.iC) (fun self => bind_fn X self T.tI) (size_one v) ?_
  refine ex_init T J hmsg X k x0 hs (hlim.keeps k) (hg.keeps k) (hb.keeps k) hbb hget ?_ hv fun h' tk' dx ⟨k', hx, dn, dne, hns⟩ => ?_
  · show A.depth + 1 < recursionLimit
    exact hroom
  · have old : ∀ b o, hp.get? b = some o → h'.get? b = some o := fun b o e => k' b o (Nat.ne_of_lt (Nat.lt_succ_of_lt (Heap.lt_size e))) e
    have z : hp.objs.size ≤ dx := Nat.le_trans hs dn
    exact ⟨rfl, hq h' tk' (hp.objs.size + 1) dx ⟨old, Nat.le_succ _, hx, z, dne, hns⟩⟩
end
end Rg
namespace Rg
open PySem PySem.Spec PyProof.Rows L2
theorem relO_fld {v : V} {v' : Value} {fld : Str} (r : RelV v v') (f : Str) : RelO (List.lookup f [(fld, v)]) (if f = fld then some v' else none) := by
  by_cases hw : f = fld
  · subst hw
    rw [if_pos rfl]
    have q : List.lookup f [(f, v)] = some v := by simp [List.lookup]
    rw [q]
    exact r
  · rw [if_neg hw]
    have qw : (f == fld) = false := by simpa using hw
    have q2 : List.lookup f [(fld, v)] = none := by simp [List.lookup, qw]
    rw [q2]
    trivial
section
variable {X : Cx} {C fI : Addr} {fld : Str} {msg : Expr} {G : Value → Prop} {fd : FuncData} {bmB : List Value}
/-- C(e) -/
def tMkR (C : Addr) (fld : Str) (ta : TA) : L2.St → Hp → XK → Prop := fun σ H Q => ta σ H fun vs H1 => ∃ v, vs = [v] ∧ ∀ d, H1 d = none → Q (.ref C) (some d) (upd H1 d (.xd [(fld, v)]))
theorem pmk_r {x : Str} {a : Expr} {ta : TA} {p pos : Pos} {k : Nat} (T : ExT X.prog X.K X.mg fld C fI bmB) (J : ExI X.prog X.K fld C fI fd msg) (hmsg : MsgOk X.prog X.w fld msg (fun _ => True)) (hr : Room k X.A) (ha : PA X [a] ta) (hm : X.mg x = some (.ref C)) (hg : Gl X x := by rfl)
    (hd : (x == ("__debug__" : Str)) = false := by rfl) (he : starEach (a :: []) X.env = (false, eval a X.env) :: starEach [] X.env := by rfl) (hpl : (backTo pos (starEach [] X.env)).any (·.1) = false := by rfl) :
    PMk X (.Call (.Name x p) [a] [] pos) (tMkR C fld ta) := by
  intro pins s σ H Q I h
  refine wpAny_Call_Name_kw (ld_glob I hg hm ?_ hd)
  refine PySem.W.callWith_K (h₀ := X.base) I.ok.mod.kin T.kC (thn (ha.run pos pins s σ H _ I h) fun us s1 hh => ?_) he hpl
  obtain ⟨vs, H1, I1, r1, v, ev, q1⟩ := hh
  subst ev
  refine ⟨I1.kIn, ?_⟩
  cases r1 with
  | cons rv rn =>
    rename_i v' us'
    cases rn
    show wpAny _ _ (call (.ref C) [v']) _ _ _
    have hlim := I1.nolimit
    obtain ⟨mb, hmb, hbt⟩ := I1.ok.mod.blt
    have hgl : s1.heap.Ns mainGlobals X.mg := I1.ok.mod.glob.keeps I1.bk
    have hbl : s1.heap.Ns builtinsNs mb := hmb.keeps I1.bk
    obtain ⟨hp, g, dr, tk, os⟩ := s1
    refine wpAny_call (ex_made T J hmsg I1.kIn hlim hgl hbl ((hbt _ (by decide)).trans rfl) (by have := hr.dp; omega) trivial fun h' tk' e d M => ?_)
    show MkP X pins σ Q (.ref e) ⟨h', g, dr, tk', os⟩
    obtain ⟨t1, hoe⟩ := M.obj
    have hns := M.ns
    obtain ⟨G', g1, g2⟩ := restrict h' fun b => decide (b ≠ e)
    have gk : ∀ b, b ≠ e → G'.get? b = h'.get? b := fun b hb => g1 b (decide_eq_true hb)
    have ge : G'.get? e = none := g2 e (by simp)
    have old : ∀ b o, hp.get? b = some o → G'.get? b = some o := fun b o q => (gk b (Nat.ne_of_lt (Nat.lt_of_lt_of_le (Heap.lt_size q) M.new))).trans (M.keep b o q)
    have ob : ObjOk X.prog X.w (upd H1 d (.xd [(fld, v)])) G' d (.xd [(fld, v)]) :=
      ⟨_, hns.at (fun o q => (gk d M.dne).trans q), fun f => relO_fld rv f⟩
    have J : L2.Inv X pins σ (upd H1 d (.xd [(fld, v)])) ⟨G', g, dr, tk', os⟩ := I1.laid (t' := tk') old M.dbig ob
    refine ⟨e, _, _, ⟨G', g, dr, tk', os⟩, _, .ref C, some d, rfl, J, fun b o q => ?_, ge, hoe, ⟨rfl, rfl⟩, rfl, rfl, ?_, rfl, I1.bare, raises_own T.exC T.tyC, q1 d (I1.hok.fresh M.dbig)⟩
    · by_cases hb : b = e
      · have q' : G'.get? b = some o := q
        rw [hb, ge] at q'; cases q'
      · exact (gk b hb).symm.trans q
    · rw [upd_ne (Ne.symm M.dne)]
      exact I1.hok.fresh M.new
/-- raise C(e) -/
def tRaiseR (C : Addr) (fld : Str) (W : WX) (ta : TA) : TS := fun _ σ H => tMkR C fld ta σ H fun cls d H' => W cls d σ H'
theorem ps_raiseR {x : Str} {a : Expr} {ta : TA} {W : WX} {p pos pos2 : Pos} {k : Nat} (hc : X.calm = true) (T : ExT X.prog X.K X.mg fld C fI bmB) (J : ExI X.prog X.K fld C fI fd msg) (hmsg : MsgOk X.prog X.w fld msg (fun _ => True)) (hr : Room k X.A) (tk : Takes X W) (ha : PA X [a] ta) (hm : X.mg x = some (.ref C)) (hg : Gl X x := by rfl)
    (hd : (x == ("__debug__" : Str)) = false := by rfl) (he : starEach (a :: []) X.env = (false, eval a X.env) :: starEach [] X.env := by rfl) (hpl : (backTo pos (starEach [] X.env)).any (·.1) = false := by rfl) :
    PS X (.Raise (some (.Call (.Name x p) [a] [] pos)) none pos2) (tRaiseR C fld W ta) := ps_raise hc tk (pmk_r T J hmsg hr ha hm hg hd he hpl)
end
end Rg

set_option Elab.async false
set_option linter.all false
set_option maxRecDepth 100000
set_option maxHeartbeats 2000000
/-! # A caught exception that is kept by a name behind the try -/
namespace Rg
open PySem PySem.W PySem.Spec PySem.HandSPX PyProof.Rows L2
/-- what the ledger says of a kept exception -/
def exh (a : Addr) (cls : Value) (d : Option Addr) : HO := .ext fun h => ∃ oe vs, h.get? a = some oe ∧ Zc cls d oe ∧ oe.data = .fields vs
def wHold (K : Frag) (c : Value) (i : Nat) (ts : Addr → Value → Option Addr → TS) (D : Ends) : WX := fun cls d σ H =>
  exmOne K cls c = some true ∧ ∀ a : Addr, H a = none → ts a cls d { nx := fun σ' H' => D.nx (List.set σ' i none) (upd H' a (exh a cls d)), rt := D.rt, bk := fun σ' H' => D.bk (List.set σ' i none) H', ct := fun σ' H' => D.ct (List.set σ' i none) H' } (List.set σ i (some (V.ref a))) H
theorem looks_typeOf_ref {M : Model} {h : Heap} {a : Addr} {oe : Obj} (e : h.get? a = some oe) : Looks M h (typeOf (.ref a)) oe.cls := by
  refine looks_typeIn (K := [(a, oe)]) (fun b o q => ?_) ?_
  · by_cases hb : b = a
    · subst hb
      simp [List.lookup] at q
      rw [← q]
      exact e
    · have hb' : (b == a) = false := by simpa using hb
      simp [List.lookup, hb'] at q
  · simp [typeIn, List.lookup]
section
variable {X : Cx}
theorem hold_it {pins : List (Addr × Obj)} {σ : L2.St} {H : Hp} {s : Shared} {a : Addr} {oe : Obj} {cls : Value} {d : Option Addr} (hz : Zc cls d oe) (hf : ∃ vs, oe.data = Data.fields vs) (J : L2.Inv X pins σ H s) (hget : s.heap.get? a = some oe)
    (ha : H a = none) (hl : a ≠ X.env.locals) (h0 : X.s_0.heap.get? a = none) (hcl : ∀ (x : Str) (c : Addr), X.env.cells.lookup x = some c → c ≠ a) (hpn : ∀ p ∈ X.pn ++ pins, p.1 ≠ a) :
    L2.Inv X pins σ (upd H a (exh a cls d)) s := by
  obtain ⟨vs, hdat⟩ := hf
  have nz : ∀ {b : Addr} {o : Obj}, X.s_0.heap.get? b = some o → b ≠ a := fun {b o} e z => by rw [z, h0] at e; cases e
  have nH : ∀ {b : Addr} {u : HO}, H b = some u → b ≠ a := fun {b u} e z => by rw [z, ha] at e; cases e
  refine ⟨J.ok, J.os, J.bare, ⟨J.base.keep, J.base.slot, fun b o e hb nx => ?_, J.base.there, fun b xs e => ?_, fun b o u e => ?_, fun b ps e => ?_⟩, J.loc, J.cell, ?_, fun x c e => ?_, fun p hp => ?_, fun b o e => ?_, J.len⟩
  · rw [upd_ne (nz e)]
    exact J.base.free b o e hb nx
  · have q := J.base.tups b xs e
    rw [upd_ne (nH q)]
    exact q
  · have q := J.base.frzs b o u e
    rw [upd_ne (nH q)]
    exact q
  · obtain ⟨more, q⟩ := J.base.tbls b ps e
    exact ⟨more, by rw [upd_ne (nH q)]; exact q⟩
  · rw [upd_ne (Ne.symm hl)]
    exact J.free
  · rw [upd_ne (hcl x c e)]
    exact J.freeC x c e
  · obtain ⟨p1, p2, p3⟩ := J.pin p hp
    exact ⟨p1, by rw [upd_ne (hpn p hp)]; exact p2, p3⟩
  · by_cases hb : b = a
    · subst hb
      rw [upd_same] at e
      cases e
      refine ⟨⟨oe, vs, hget, hz, hdat⟩, ⟨oe, hget⟩, fun h1 h2 ⟨o', v', e1, z1, d1⟩ k => ⟨o', v', k _ e1, z1, d1⟩⟩
    · rw [upd_ne hb] at e
      refine (J.hok b o e).stay (fun _ _ _ e => e) (fun b' e' => ?_) (fun b' xs e' => ?_)
      · rw [upd_ne (nH e')]
        exact e'
      · rw [upd_ne (nH e')]
        exact e'
theorem ps_hold {x n : Str} {c : Value} {i : Nat} {body suite : List Stmt} {b₀ : Stmt} {np pos pos' : Pos} {tb : WX → TS} {ts : Addr → Value → Option Addr → TS}
    (hs : X.stack = X.env :: X.outer) (hf : X.env.frame = some X.env.locals) (hex : X.ex = []) (hN : X.N.Nodup) (hi : X.N[i]? = some n) (hln : X.env.kindOf n = some .local) (hg : Gl X x) (hc : X.mg x = some c)
    (hb : ∀ (W : WX) (pn : List (Addr × Obj)) (xe : Value → Shared → Prop), Takes (X.tr pn xe) W → PSs (X.tr pn xe) body (tb W))
    (hsu : ∀ (a : Addr) (oe : Obj) (cls : Value) (d : Option Addr) (pn : List (Addr × Obj)), Zc cls d oe → (∃ vs, oe.data = Data.fields vs) → PSs (X.suite a ((a, oe) :: pn)) (b₀ :: suite) (ts a cls d))
    (hd : (x == ("__debug__" : Str)) = false := by rfl) :
    PS X (.Try body [.ExceptHandler (some (.Name x np)) (some n) (b₀ :: suite) pos'] [] [] pos) (fun D σ H => tb (wHold X.K c i ts D) D σ H) := by
  refine ⟨fun pins s σ H D I h => wpAny_Try_except ?_⟩
  have hfr : X.A.frames = some (X.env :: X.outer) := I.ok.frames.trans (by rw [hs])
  have key : ∀ (E : Value → Shared → Prop), (∀ e s₁, wpAny (model X.prog X.w) X.A (noteFrame e X.env) (fun _ s₂ => wpAny (model X.prog X.w) X.A (setFlight e none) (fun _ s₃ => wpAny (model X.prog X.w) X.A (handleBy e X.env [.ExceptHandler (some (.Name x np)) (some n) (b₀ :: suite) pos']) (SP X pins D) X.xe s₃) X.xe s₂) X.xe s₁ → E e s₁) → Takes (X.tr (X.pn ++ pins) E) (wHold X.K c i ts D) := by
    intro E hE u s' ⟨a, B, sI, pins1, σ1, H1, cls, d, hu, I1, kp, up, sky, ha, hos, hbr, hm, hts⟩
    subst hu
    have J0 : L2.Inv X pins σ1 H1 sI := I1.ofTry I.ok
    refine hE _ _ ?_
    have sky' : Sky B (X.env :: X.outer) a (Zc cls d) X.env.locals s'.heap := by rw [← hs]; exact sky
    have kp' : ∀ (b : Addr) (o : Obj), sI.heap.get? b = some o → ¬b ∈ frs X.stack → B.get? b = some o := kp
    refine Sky.land Zc.steady hfr hf sky' (fun h1 fl1 up1 => ?_)
    have tr : ∀ {h2 : Heap}, s'.heap.UpToSlots h2 → sI.heap.UpToSlots h2 := fun {h2} u2 b o e nf => by
      obtain ⟨sl, e1⟩ := up b o e nf
      have q := u2 b _ e1 nf
      exact q
    -- what holds wherever it flies
    have at_ : ∀ {h2 : Heap}, HandSPX.FlyingZ B (X.env :: X.outer) a (Zc cls d) h2 → s'.heap.UpToSlots h2 → ∃ oe vs, h2.get? a = some oe ∧ Zc cls d oe ∧ oe.data = .fields vs ∧ a ≠ X.env.locals ∧ a ∉ frs X.stack ∧
        L2.Inv (X.suite a ((a, oe) :: (X.pn ++ pins))) [] σ1 H1 ⟨h2, s'.gens, s'.drawn, s'.toks, s'.os⟩ := by
      intro h2 fl u2
      have J1 : L2.Inv X pins σ1 H1 ⟨h2, s'.gens, s'.drawn, s'.toks, s'.os⟩ := J0.landed kp' fl.1 (tr u2) hos hbr
      obtain ⟨oe, vs, hoe, hz, hdat⟩ := fl.there
      have hnfr : a ∉ frs (X.env :: X.outer) := fun m => by
        obtain ⟨_, o, ho, nf⟩ := fl.2.2.1.mem m
        rw [hoe] at ho
        cases ho
        exact nf _ hdat
      have hnl : a ≠ X.env.locals := fun e => hnfr (by
        show a ∈ List.filterMap (fun x => x.frame) (X.env :: X.outer)
        exact List.mem_filterMap.mpr ⟨X.env, List.mem_cons_self, by rw [hf, e]⟩)
      have hnfs : a ∉ X.fs := fun m => hnfr (by
        obtain ⟨e, he, hf'⟩ := List.mem_filterMap.mp m
        exact List.mem_filterMap.mpr ⟨e, List.mem_cons_of_mem _ he, hf'⟩)
      exact ⟨oe, vs, hoe, hz, hdat, hnl, by rw [hs]; exact hnfr, J1.suite hoe hdat ha hnl hnfs⟩
    have B0 : B.get? a = none := fl1.2.1
    obtain ⟨oe1, vs1, hoe1, hz1, hdat1, hnl, hnfr, J1⟩ := at_ fl1 up1
    have h0 : X.s_0.heap.get? a = none := by
      cases e : X.s_0.heap.get? a with
      | none => rfl
      | some o =>
        obtain ⟨o', e'⟩ := J0.base.there a o e (by rw [hex]; exact List.not_mem_nil)
        have := kp' a o' e' hnfr
        rw [B0] at this
        cases this
    have hpn : ∀ p ∈ X.pn ++ pins, p.1 ≠ a := fun p hp e => by
      have q := (J0.pin p hp).1
      rw [e] at q
      have := kp' a _ q hnfr
      rw [B0] at this
      cases this
    have hcl : ∀ (y : Str) (cc : Addr), X.env.cells.lookup y = some cc → cc ≠ a := fun y cc e z => by
      obtain ⟨v, o, ho, hd⟩ := J1.cell y cc e
      rw [z] at ho
      have ho' : h1.get? a = some o := ho
      rw [hoe1] at ho'
      cases ho'
      rw [hdat1] at hd
      cases hd
    refine exc_clause_as (ld_glob J1 hg hc ⟨true, exm_one J1.kIn (by rw [← hz1.1]; exact looks_typeOf_ref hoe1) hm, ?_⟩ hd)
    rw [if_pos rfl]
    refine lands_againZ fl1 (fun h2 fl2 up2 => ?_)
    have up12 : s'.heap.UpToSlots h2 := fun b o e nf => by
      obtain ⟨sl, e1⟩ := up1 b o e nf
      have q := up2 b _ e1 nf
      exact q
    obtain ⟨oe2, vs2, hoe2, hz2, hdat2, _, _, J2⟩ := at_ fl2 up12
    refine store_ok (X := X.suite a ((a, oe2) :: (X.pn ++ pins))) J2 hN hi (Or.inl hln) (v := .ref a) rfl (fun s3 J4 => ?_) (Or.inr hln)
    have run := (hsu a oe2 cls d (X.pn ++ pins) hz2 ⟨_, hdat2⟩).run [] s3 _ H1 _ J4 (hts a ha)
    refine wpAny_mono run (fun f s4 hh => ?_) (fun e s4 no => no.elim)
    cases f with
    | next =>
      obtain ⟨σ', H', J5, q⟩ := hh
      refine gone_ok (X := X.suite a ((a, oe2) :: (X.pn ++ pins))) J5 hN hi hln (fun s5 J6 => ?_)
      obtain ⟨g1, g2, _⟩ := J6.pin (a, oe2) List.mem_cons_self
      exact ⟨_, _, hold_it hz2 ⟨_, hdat2⟩ (J6.unsuite I.ok) g1 g2 hnl h0 hcl hpn, q⟩
    | brk =>
      obtain ⟨σ', H', J5, q⟩ := hh
      refine gone_ok (X := X.suite a ((a, oe2) :: (X.pn ++ pins))) J5 hN hi hln (fun s5 J6 => ?_)
      exact ⟨_, _, J6.unsuite I.ok, q⟩
    | cont =>
      obtain ⟨σ', H', J5, q⟩ := hh
      refine gone_ok (X := X.suite a ((a, oe2) :: (X.pn ++ pins))) J5 hN hi hln (fun s5 J6 => ?_)
      exact ⟨_, _, J6.unsuite I.ok, q⟩
    | ret u =>
      obtain ⟨v, σ', H', J5, r, q⟩ := hh
      refine gone_ok (X := X.suite a ((a, oe2) :: (X.pn ++ pins))) J5 hN hi hln (fun s5 J6 => ?_)
      exact ⟨v, _, _, J6.unsuite I.ok, r, q⟩
  have okT : ∀ E, (X.tr (X.pn ++ pins) E).Ok := fun E => by
    have o := I.ok
    exact ⟨o.mod, o.kind, o.glob, o.blt, o.above, o.inj, o.has, o.cab, o.hd, o.frames, o.stk, o.exf, o.bs, o.bsz, o.noex, o.exfs, o.funs, o.frf⟩
  have iT : ∀ E, L2.Inv (X.tr (X.pn ++ pins) E) [] σ H s := fun E => ⟨okT E, I.os, I.bare, I.base, I.loc, I.cell, I.free, I.freeC, fun p hp => I.pin p (by simpa using hp), I.hok, I.len⟩
  refine thn ((hb _ _ _ (key _ fun e s₁ q => q)).run [] s σ H D (iT _) h) (fun f s1 hh => ?_)
  cases f with
  | next =>
    obtain ⟨σ', H', J5, q⟩ := hh
    exact wpAny_execs_nil ⟨_, _, J5.ofTry I.ok, q⟩
  | brk =>
    obtain ⟨σ', H', J5, q⟩ := hh
    exact ⟨_, _, J5.ofTry I.ok, q⟩
  | cont =>
    obtain ⟨σ', H', J5, q⟩ := hh
    exact ⟨_, _, J5.ofTry I.ok, q⟩
  | ret u =>
    obtain ⟨v, σ', H', J5, r, q⟩ := hh
    exact ⟨v, _, _, J5.ofTry I.ok, r, q⟩
end
end Rg
/-! ### asked behind the try -/
namespace Rg
open PySem PySem.W PySem.Spec PySem.HandSPX PyProof.Rows L2
section
variable {X : Cx} {K : Frag}
/-- the ledger tells a kept exception of the class at C, its field -/
def Kept (H : Hp) (a C d : Addr) (fs : List (Str × V)) : Prop := H a = some (exh a (.ref C) (some d)) ∧ H d = some (.xd fs)
theorem held_inst {pins : List (Addr × Obj)} {σ : L2.St} {H : Hp} {s : Shared} {a C d : Addr} {fs : List (Str × V)} (I : L2.Inv X pins σ H s) (k : Kept H a C d fs) :
    ∃ oe od, W.InstAt s.heap a oe C (some od) ∧ (∃ mA : Str → Option Value, (∀ name : Str, lookIn name od = some (mA name)) ∧ ∀ f : Str, RelO (fs.lookup f) (mA f)) := by
  obtain ⟨⟨oe, vs, hget, hz, hdat⟩, _⟩ := (I.hok a _ k.1 : ObjOk _ _ _ _ _ (.ext _))
  obtain ⟨mA, hns, hr⟩ := (I.hok d _ k.2 : ObjOk _ _ _ _ _ (.xd _))
  obtain ⟨od, ho, hl⟩ := lookIn_ns hns
  exact ⟨oe, od, ⟨hget, hz.1, by unfold PySem.W.notCls; rw [hdat] <;> rfl, by rw [hz.2]; exact ho⟩, mA, hl, hr⟩
theorem held_kit {C a : Addr} {oe : Obj} {od : Option Obj} (T : L2.ExcC K C) : KitX K (.ref a) (.ref C) (fun h => W.InstAt h a oe C od) :=
  kitx_exc (by have := T.hd; unfold hasDictIn at this; cases e : clsIn K C with | none => rw [e] at this; simp at this | some _ => rfl) T.hg T.hk T.hs T.ha T.hn T.ht T.hm
/-- isinstance of a kept exception: one class, a tuple of classes -/
def rIsH (K : Frag) : List V → Hp → VK → Prop := fun xs H Q => ∃ (a C d : Addr) (fs : List (Str × V)) (c : V) (u : Value) (b : Bool), xs = [.ref a, c] ∧ Kept H a C d fs ∧ L2.ExcC K C ∧ ClsV c u ∧ kitOne K (.ref C) u = some b ∧ Q (.bl b) H
def rIsHT (K : Frag) : List V → Hp → VK → Prop := fun xs H Q => ∃ (a C d tp : Addr) (fs : List (Str × V)) (cs : List V) (us : List Value) (b : Bool), xs = [.ref a, .ref tp] ∧ Kept H a C d fs ∧ L2.ExcC K C ∧ H tp = some (.tup cs) ∧ Paired ClsV cs us ∧ kitAny K (.ref C) us = some b ∧ Q (.bl b) H
theorem call_isH : CallR X (.builtin "isinstance") (rIsH X.K) := by
  intro pins s σ H xs us Q I rv ⟨a, C, d, fs, c, u, b, hx, k, T, hc, hb, q⟩
  subst hx
  cases rv with
  | cons r1 rr =>
    cases rr with
    | cons r2 rn =>
      cases rn
      obtain rfl : _ = Value.ref a := r1
      obtain ⟨oe, od, hi, _⟩ := held_inst I k
      rw [hc.eq r2] at *
      refine kia_one (held_kit T) I.kIn hi hb (by intro e; cases e) (fun tk => ⟨.bl b, H, I.tok tk, rfl, q⟩)
theorem call_isHT : CallR X (.builtin "isinstance") (rIsHT X.K) := by
  intro pins s σ H xs us Q I rv ⟨a, C, d, tp, fs, cs, vs, b, hx, k, T, ht, hc, hb, q⟩
  subst hx
  cases rv with
  | cons r1 rr =>
    cases rr with
    | cons r2 rn =>
      cases rn
      obtain rfl : _ = Value.ref a := r1
      obtain rfl : _ = Value.ref tp := r2
      obtain ⟨oe, od, hi, _⟩ := held_inst I k
      obtain ⟨its, hv, hT, _⟩ := I.tuple (.inl (.inl ht))
      have hh := ClsV.all hc hv
      subst hh
      obtain ⟨⟨c0, d0, dt0, sl0⟩, hg, hc0, n, hd0⟩ := hT
      subst hc0
      subst hd0
      exact kia_tup (held_kit T) I.kIn hi hg hb (by intro e; cases e) (fun tk => ⟨.bl b, H, I.tok tk, rfl, q⟩)
/-- caught.f -/
def tHf (K : Frag) (f : Str) (te : TE) : TE := fun σ H Q => te σ H fun x H1 => ∃ (a C d : Addr) (fs : List (Str × V)) (v : V), x = .ref a ∧ Kept H1 a C d fs ∧ XfC K C ∧ PySem.W.findIn K (.ref C) f = some none ∧ fs.lookup f = some v ∧ Q v H1
theorem pe_hf {e : Expr} {te : TE} {f : Str} {pos : Pos} (he : PE X e te) (hb : attributeBase e f X.env (eval e X.env) = eval e X.env := by rfl) : PE X (.Attribute e f pos) (tHf X.K f te) := by
  refine ⟨fun pins s σ H Q I h => ?_⟩
  refine attr_of hb (thn (he.run pins s σ H _ I h) fun u s1 hh => ?_)
  obtain ⟨x, H1, I1, rx, a, C, d, fs, v, ex, k, T, noN, hl, q⟩ := hh
  subst ex
  obtain rfl : u = Value.ref a := rx
  obtain ⟨oe, od, hi, mA, hla, hr⟩ := held_inst I1 k
  obtain ⟨u, hu, ru⟩ := RelO.some_of (v := v) (o := mA f) (by rw [← hl]; exact hr f)
  exact HandSPX.exc_get I1.kIn hi T.ga T.gg T.exC (PySem.W.findObj_own T.hdC noN rfl (by rw [hla, hu])) (handed_of ru) ⟨v, H1, I1.tok _, ru, q⟩
end
end Rg

set_option Elab.async false
set_option linter.all false
set_option maxRecDepth 100000
set_option maxHeartbeats 2000000
namespace Rg
open PySem PySem.Spec PyProof.Rows L2
/-! ### xs[a:b] = ys -/
def gSlc (to : TE) (tl th : TO) : TG := fun v σ H Q => to σ H fun x H1 => tl σ H1 fun lo H2 => th σ H2 fun hi H3 => ∃ (l b : Addr) (xs ys : List V) (i j : Int), x = .ref l ∧ v = .ref b ∧ lo = some i ∧ hi = some j ∧ H3 l = some (.lst xs) ∧ H3 b = some (.lst ys) ∧
  l ≠ b ∧ 0 ≤ i ∧ i ≤ j ∧ j ≤ xs.length ∧ xs.length + ys.length ≤ sizeLine ∧ Q σ (upd H3 l (.lst (xs.take i.toNat ++ ys ++ xs.drop j.toNat)))
theorem pg_slc {X : Cx} {o : Expr} {lo hi : Option Expr} {to : TE} {tl th : TO} {pos p2 : Pos} (ho : PE X o to) (hl : PO X lo tl) (hh : PO X hi th) :
    PG X (.Subscript o (.Slice lo hi none p2) pos) (gSlc to tl th) := by
  refine ⟨fun pins s σ H v u Q I rv h => ?_⟩
  rw [arm_assign_Subscript]
  refine wpAny_bind (wpAny_holding (thn (ho.run pins s σ H _ I h) fun ov s1 hh1 => ?_))
  obtain ⟨x, H1, I1, rx, h1⟩ := hh1
  refine wpAny_bind (wpAny_holding (wpAny_Slice (thn (hl.run pins s1 σ H1 _ I1 h1) fun vl s2 hh2 => ?_)))
  obtain ⟨a1, H2, I2, pl, h2⟩ := hh2
  refine thn (hh.run pins s2 σ H2 _ I2 h2) fun vu s3 hh3 => ?_
  obtain ⟨a2, H3, I3, pu, l, b, xs, ys, i, j, ex, ev, e1, e2, hL, hB, ne, i0, ij, jl, sz, q⟩ := hh3
  subst ex
  subst ev
  subst e1
  subst e2
  obtain rfl : ov = Value.ref l := rx
  obtain rfl : u = Value.ref b := rv
  refine evalPart_none_step (wpAny_bind (wpAny_standAt (wpAny_bind (wpAny_holding ?_))))
  have I4 : L2.Inv X pins σ H3 ⟨s3.heap.push { cls := Value.type "slice", data := Data.fields #[vl, vu, .none] }, s3.gens, s3.drawn, s3.toks, s3.os⟩ := I3.kept fun b o e => Heap.get?_push_of_some _ e
  cases pl with
  | int _ ti =>
    cases pu with
    | int _ tj =>
      exact set_slice I4 hL hB ne (Heap.IsSliceOf.new _ _ _ _) ⟨_, rfl⟩ ⟨_, rfl⟩ i0 ij jl sz fun s' J => wpAny_release ⟨σ, _, J, q⟩
/-! ### a text so many times -/
def repS (z : Str) (n : Nat) : Str := { cps := List.foldl (fun x1 x2 => x1 ++ x2) #[] (List.replicate n z.cps) }
theorem foldl_size (a : Array Nat) : ∀ (n : Nat) (b : Array Nat), (List.foldl (fun x1 x2 => x1 ++ x2) b (List.replicate n a)).size = b.size + n * a.size
  | 0, b => by simp
  | n + 1, b => by
    rw [List.replicate_succ, List.foldl_cons, foldl_size a n (b ++ a), Array.size_append]
    rw [Nat.add_mul]
    omega
theorem repS_len (z : Str) (n : Nat) : (repS z n).length = n * z.length := by
  have := foldl_size z.cps n #[]
  rw [Array.size_empty, Nat.zero_add] at this
  exact this
def rRepS : R2 := fun x y H Q => ∃ (z : Str) (n : Nat), x = .str z ∧ y = .int (n : Int) ∧ 2 ≤ n ∧ n ≤ 10000 ∧ 1 ≤ z.length ∧ z.length ≤ 1000 ∧ Q (.str (repS z n)) H
theorem op_repS {X : Cx} : OpR X (binaryOp .Mult) rRepS := by
  intro pins s σ H x y v u Q I rv ru ⟨z, n, ex, ey, h2, hn, z1, zz, q⟩
  subst ex
  subst ey
  obtain ⟨t, rfl⟩ := rv
  obtain ⟨t', rfl⟩ := ru
  have hp : z.length * n ≤ 1000 * 10000 := Nat.mul_le_mul zz hn
  have hb : ((n : Int) == 1 || z.length == 0) = false := by
    have a1 : ((n : Int) == 1) = false := by simp; omega
    have a2 : (z.length == 0) = false := by simp; omega
    rw [a1, a2]
    rfl
  refine P.mul_str (by simp; omega) (fun _ _ => ?_) (fun _ _ => ?_) ?_
  · have h1 : (z.length : Int) ≤ (2 ^ 63 - 1) / (n : Int) := by
      rw [Int.le_ediv_iff_mul_le (by omega)]
      have h3 : ((z.length * n : Nat) : Int) ≤ ((1000 * 10000 : Nat) : Int) := Int.ofNat_le.mpr hp
      rw [Int.natCast_mul] at h3
      omega
    omega
  · unfold Builtin.Str.tooLong
    rw [decide_eq_false]
    rw [Int.toNat_natCast, sizeLine_eq]
    omega
  · rw [if_neg (by omega), hb, if_neg Bool.false_ne_true, Int.toNat_natCast]
    refine ⟨?_, .str (repS z n), H, I.tok _, ⟨_, rfl⟩, q⟩
    show (repS z n).length ≤ sizeLine
    rw [repS_len, Nat.mul_comm, sizeLine_eq]
    omega
section
variable {H : Hp} {Q : VK} {z : Str} {n : Nat} {lo hi : Option Int}
theorem kRepS (h2 : 2 ≤ n) (hn : n ≤ 10000) (z1 : 1 ≤ z.length) (zz : z.length ≤ 1000) (q : Q (.str (repS z n)) H) : rRepS (.str z) (.int (n : Int)) H Q := ⟨z, n, rfl, rfl, h2, hn, z1, zz, q⟩
theorem kSlS (hz : z.length ≤ 100000) (q : Q (.str (cutS z lo hi)) H) : rSlS (.str z) lo hi H Q := ⟨z, rfl, szL hz, q⟩
theorem cutS_len (z : Str) (lo hi : Option Int) : (cutS z lo hi).length ≤ z.length := by
  show (List.toArray _).size ≤ z.cps.size
  rw [List.size_toArray, List.length_take, List.length_drop, Array.length_toList]
  omega
end
/-! ### list(range(n)) -/
section
variable {σ : L2.St} {H : Hp} {Q : VK} {d : Addr} {n : Nat} {L : Led} {te : TE}
theorem kListRg {t : L2.St → Hp → (Int → Int → Hp → Prop) → Prop} (h : t σ H fun a b H1 => RgOk a b ∧ ∀ q, H1 q = none → Q (.ref q) (upd H1 q (.lst (rgV a b)))) : tLstRg t σ H Q := h
theorem kRg1 {R : Int → Int → Hp → Prop} (h : te σ H fun x H1 => ∃ n, x = .int n ∧ R 0 n H1) : tRg1 te σ H R := h
end
theorem kRepT {d : Addr} {n : Nat} {L : Led} {H : Hp} {Q : VK} {K : PySem.W.Frag} {p : Addr} {xs : List V} {k : Int} (kn : Kn d n L H) (h : (p, .tup xs) ∈ L) (hne : xs ≠ []) (k0 : 2 ≤ k) (k1 : k ≤ 1000) (z : xs.length ≤ 1000) (g : ∀ l H', Kn d n ((l, .tup (List.replicate k.toNat xs).flatten) :: L) H' → Q (.ref l) H') : rRepT K (.ref p) (.int k) H Q :=
  ⟨p, k, xs, rfl, rfl, kn.seqT h, hne, k0, k1, z, fun l hl => g l _ (kn.new hl)⟩
end Rg

set_option Elab.async false
set_option linter.all false
set_option maxRecDepth 100000
set_option maxHeartbeats 2000000
namespace Rg
open PySem PySem.Spec PyProof.Rows L2
/-! ### the truth of lists; what a def that may raise lets out where it does not -/
section
variable {σ : L2.St} {H : Hp} {Q : VK} {te : TE} {K : PySem.W.Frag} {p : Addr} {xs : List V}
theorem kNotT (h : te σ H fun x H1 => ∃ k, TruV K x H1 k ∧ Q (.bl (!k)) H1) : tNotT K te σ H Q := h
theorem truL {k : Bool} (h : SqL K H p xs) (e : k = !xs.isEmpty) : TruV K (.ref p) H k := .inl ⟨xs, h, e⟩
theorem kTruL {P : Bool → Prop} (h : SqL K H p xs) (q : P (!xs.isEmpty)) : ∃ k, TruV K (.ref p) H k ∧ P k := ⟨_, truL h rfl, q⟩
def tTruth (K : PySem.W.Frag) (ta : TE) : L2.TT := fun σ H Q => ta σ H fun x H' => ∃ k, TruV K x H' k ∧ Q k H'
theorem kTruth {Q : Bool → Hp → Prop} (h : te σ H fun x H1 => ∃ k, TruV K x H1 k ∧ Q k H1) : tTruth K te σ H Q := h
theorem pt_tru {X : Cx} {a : Expr} {ta : TE} (ha : PE X a ta) (he : ∀ whole, isTrue a X.env whole = (do let v ← whole; standAt a.pos; holding [v] (truthy v))) : PT X a (tTruth X.K ta) := pt_truth ha he
theorem kBits {n : Int} (h : te σ H fun x H1 => ∃ i, x = .int i ∧ Q (.int (Builtin.Int.intBits i : Nat)) H1) : tBits te σ H Q := h
theorem kBI {i : Int} (q : Q (.int (Builtin.Int.intBits i : Nat)) H) : ∃ j, V.int i = .int j ∧ Q (.int (Builtin.Int.intBits j : Nat)) H := ⟨i, rfl, q⟩
theorem kCallS {sp : Sp} {E : L2.St → XK} {tr : TA} (h : tr σ H fun vs H1 => sp vs H1 Q (E σ)) : tCallS sp E tr σ H Q := h
end
theorem Kn.perm {d : Addr} {n : Nat} {L L' : Led} {H : Hp} (k : Kn d n L H) (h : L.Perm L') : Kn d n L' H := by
  obtain ⟨s, a, c, r, ns, l, e1, e2⟩ := k
  exact ⟨s, a, c, r, ns, l.perm ((h.cons _).cons _), e1, e2⟩
theorem kAsgT {σ : L2.St} {H : Hp} {te : TE} {K : PySem.W.Frag} {n : Nat} {gs : TGs} {nx bk ct : L2.St → Hp → Prop} {rt : VK} (h : te σ H fun x H1 => ∃ a xs, x = .ref a ∧ SqT K H1 a xs ∧ xs.length = n ∧ gs xs σ H1 nx) : tAsg te (gTup K n gs) (Ends.mk nx rt bk ct) σ H := h
theorem passX {P : Program} {w : World} {X : Cx} : Passes (L2.CX P w) X E0 := fun _ _ _ _ _ _ _ h => by
  obtain ⟨_, _, _, _, _, _, _, _, _, _, _, _, h⟩ := h
  exact h.elim
theorem atI_at {α : Type} {l : List α} {x : Int} {j : Nat} {v : α} (e : x = (j : Int)) (h : l[j]? = some v) : atI l x = some v := by
  subst e
  exact atI_nat h
/-! ### the least place of unlike bits, as & and - tell it -/
theorem and_half (a b : Nat) : (a &&& b) / 2 = a / 2 &&& b / 2 := by
  apply Nat.eq_of_testBit_eq
  intro i
  rw [Nat.testBit_and, Nat.testBit_div_two, Nat.testBit_div_two, Nat.testBit_div_two, Nat.testBit_and]
theorem xor_half (a b : Nat) : (a ^^^ b) / 2 = a / 2 ^^^ b / 2 := by
  apply Nat.eq_of_testBit_eq
  intro i
  rw [Nat.testBit_xor, Nat.testBit_div_two, Nat.testBit_div_two, Nat.testBit_div_two, Nat.testBit_xor]
theorem and_two (a b : Nat) : (a &&& b) % 2 = (a % 2) * (b % 2) := by
  have h := Nat.testBit_and a b 0
  simp only [Nat.testBit_zero] at h
  rcases Nat.mod_two_eq_zero_or_one a with ha | ha <;> rcases Nat.mod_two_eq_zero_or_one b with hb | hb <;> rcases Nat.mod_two_eq_zero_or_one (a &&& b) with hc | hc <;> simp [ha, hb, hc] at h ⊢
theorem xor_two (a b : Nat) : (a ^^^ b) % 2 = (a + b) % 2 := by
  have h := Nat.testBit_xor a b 0
  simp only [Nat.testBit_zero] at h
  rcases Nat.mod_two_eq_zero_or_one a with ha | ha <;> rcases Nat.mod_two_eq_zero_or_one b with hb | hb <;> rcases Nat.mod_two_eq_zero_or_one (a ^^^ b) with hc | hc <;> simp [ha, hb, hc] at h ⊢ <;> omega
theorem xor_and_sum : ∀ (n a b : Nat), a + b ≤ n → (a ^^^ b) + 2 * (a &&& b) = a + b
  | 0, a, b, h => by
    have ha : a = 0 := by omega
    have hb : b = 0 := by omega
    subst ha
    subst hb
    rfl
  | n + 1, a, b, h => by
    by_cases h0 : a + b = 0
    · have ha : a = 0 := by omega
      have hb : b = 0 := by omega
      subst ha
      subst hb
      rfl
    have ih := xor_and_sum n (a / 2) (b / 2) (by omega)
    have h1 := and_half a b
    have h2 := xor_half a b
    have h3 := and_two a b
    have h4 := xor_two a b
    rw [← h1, ← h2] at ih
    have h5 : (a % 2) * (b % 2) = if a % 2 = 1 ∧ b % 2 = 1 then 1 else 0 := by
      rcases Nat.mod_two_eq_zero_or_one a with ha | ha <;> rcases Nat.mod_two_eq_zero_or_one b with hb | hb <;> simp [ha, hb]
    rw [h5] at h3
    split at h3 <;> omega
theorem bitXor_nat (a b : Nat) : Builtin.bitXor (a : Int) (b : Int) = ((a ^^^ b : Nat) : Int) := by
  rw [bitXor_and]
  have h : Builtin.bitAnd (a : Int) (b : Int) = ((a &&& b : Nat) : Int) := by
    unfold Builtin.bitAnd
    rw [decide_eq_true (Int.natCast_nonneg a), decide_eq_true (Int.natCast_nonneg b)]
    rfl
  rw [h]
  have := xor_and_sum (a + b) a b (Nat.le_refl _)
  omega
def lowB (u : Nat) : Nat := u - (u &&& (u - 1))
theorem bitAnd_neg {u : Nat} (h : 0 < u) : Builtin.bitAnd (u : Int) (-(u : Int)) = ((lowB u : Nat) : Int) := by
  unfold Builtin.bitAnd
  rw [decide_eq_true (Int.natCast_nonneg u), decide_eq_false (by omega)]
  show (u : Int) - (((u : Int).toNat &&& (-(-(u : Int)) - 1).toNat : Nat) : Int) = _
  have e : (-(-(u : Int)) - 1).toNat = u - 1 := by omega
  rw [e, Int.toNat_natCast]
  unfold lowB
  have : u &&& (u - 1) ≤ u := Nat.and_le_left
  omega
theorem low_odd {u : Nat} (h : u % 2 = 1) : lowB u = 1 := by
  unfold lowB
  have h1 := and_half u (u - 1)
  have h2 := and_two u (u - 1)
  have h3 : (u - 1) / 2 = u / 2 := by omega
  have h4 : (u - 1) % 2 = 0 := by omega
  rw [h3, Nat.and_self] at h1
  rw [h4, Nat.mul_zero] at h2
  omega
theorem low_even {v : Nat} (h : 0 < v) : lowB (2 * v) = 2 * lowB v := by
  unfold lowB
  have h1 := and_half (2 * v) (2 * v - 1)
  have h2 := and_two (2 * v) (2 * v - 1)
  have h3 : (2 * v - 1) / 2 = v - 1 := by omega
  have h4 : (2 * v) % 2 = 0 := by omega
  have h5 : 2 * v / 2 = v := by omega
  rw [h3, h5] at h1
  rw [h4, Nat.zero_mul] at h2
  omega
theorem xor_pos {a b : Nat} (h : a ≠ b) : 0 < a ^^^ b := by
  rcases Nat.eq_zero_or_pos (a ^^^ b) with e | e
  · refine absurd ?_ h
    apply Nat.eq_of_testBit_eq
    intro i
    have := Nat.testBit_xor a b i
    rw [e, Nat.zero_testBit] at this
    revert this
    cases a.testBit i <;> cases b.testBit i <;> simp
  · exact e
theorem bits_pow (k : Nat) : Builtin.Int.intBits ((2 ^ k : Nat) : Int) = k + 1 := by
  unfold Builtin.Int.intBits
  have hp : 0 < 2 ^ k := Nat.two_pow_pos k
  have hz : ¬ (((2 ^ k : Nat) : Int) == 0) = true := by
    rw [beq_iff_eq]
    omega
  rw [if_neg hz]
  have : (((2 ^ k : Nat) : Int)).natAbs = 2 ^ k := Int.natAbs_natCast _
  rw [this, Nat.log2_two_pow]
end Rg

set_option Elab.async false
set_option linter.all false
set_option maxRecDepth 100000
set_option maxHeartbeats 2000000
namespace Rg
open PySem PySem.Spec PyProof.Rows L2
/-! ### max, min of a tuple of whole numbers -/
section
variable {prog : Program} {w : World} {A : Around} {E : Value → Shared → Prop} {s : Shared} {l : Addr} {its : List Value} {ns : List Int} {Q : Value → Shared → Prop} {xs : Array (Int × Tok)}
theorem iter_intTup {Q : Value → Shared → Prop} (hl : s.heap.IsTuple l (intItems xs))
    (h : ∀ s₂ : Shared, s₂ = { s with heap := s.heap.push { cls := .type "tuple_iterator", data := .fields #[.ref l, .int 0 0] } } →
      (s₂.heap.IsTupleIter s.heap.objs.size l 0 ∧ s₂.heap.IsTuple l (intItems xs)) → (∀ b ∈ [s.heap.objs.size, l], b < s₂.heap.objs.size) → l ≠ s.heap.objs.size → Q (.ref s.heap.objs.size) s₂) :
    wpAny (model prog w) A (pyIter (.ref l)) Q E s := by
  have hlt : l < s.heap.objs.size := by obtain ⟨_, e, _⟩ := hl; exact Heap.lt_size e
  refine wpAny_pyIter_tuple hl (h _ rfl ⟨⟨_, Heap.get?_push_size _ rfl, rfl, rfl⟩, hl.push _⟩ (fun b hb => ?_) (Nat.ne_of_lt hlt))
  show b < (s.heap.push _).objs.size
  rw [Heap.size_push]
  rcases List.mem_cons.mp hb with rfl | hb
  · exact Nat.lt_succ_self _
  · rcases List.mem_cons.mp hb with rfl | hb
    · exact Nat.lt_succ_of_lt hlt
    · cases hb
theorem old_keptT {h' : Heap} (hk : ∀ b o, b ∉ [s.heap.objs.size] → (s.heap.push { cls := .type "tuple_iterator", data := .fields #[.ref l, .int 0 0] }).get? b = some o → h'.get? b = some o) :
    ∀ b o, s.heap.get? b = some o → h'.get? b = some o := fun b o e => by
  refine hk b o (fun hm => ?_) (Heap.get?_push_of_some _ e)
  rcases List.mem_cons.mp hm with e1 | hm
  · exact absurd (e1 ▸ Heap.lt_size e) (Nat.lt_irrefl _)
  · cases hm
theorem max_rawT (hh : A.handled = none) (hl : s.heap.IsTuple l its.toArray) (hi : IntsAre its ns) (hne : 0 < ns.length)
    (h : ∀ h' tk M t', (∀ b o, s.heap.get? b = some o → h'.get? b = some o) → M ∈ ns → (∀ a, a ∈ ns → a ≤ M) → Q (.int M t') { s with heap := h', toks := tk }) : wpAny (model prog w) A (call (.builtin "max") [.ref l]) Q E s := by
  obtain ⟨xs, e⟩ := hi.allInts.items
  have hn : numsOf (intItems xs).toList = ns := by rw [← e]; exact hi.numsOf
  rw [nums_intItems] at hn
  subst hn
  rw [e] at hl
  have hsz : 0 < xs.size := by simpa using hne
  refine call_max_walk (iter_intTup hl fun s₂ e st hfp hlI => ?_)
  subst e
  refine ⟨_, _, _, _, _, _, _, rfl, Walks.tuple (A := A.in1) hh _ l hlI (intItems xs), st, hfp, by simpa [intItems] using hsz, CmpOf.ints_gt (numAt xs) (fun _ _ => intItems_at), fun v h' tk hP hk => ?_⟩
  have hv : (intItems xs)[argBest (fun i j => decide (numAt xs i > numAt xs j)) (xs.size - 1)]? = some v := by simpa [intItems] using hP
  obtain ⟨t, rfl⟩ := intItems_at hv
  obtain ⟨h1, h2⟩ := argBest_gt (numAt xs) (xs.size - 1)
  refine h h' tk _ t (old_keptT hk) ?_ fun a ha => ?_
  · rw [numAt_eq]; exact PySem.getD_mem (by rw [List.length_map, Array.length_toList]; omega)
  · obtain ⟨j, hj, rfl⟩ := mem_getD ha
    rw [List.length_map, Array.length_toList] at hj
    rw [← numAt_eq]; exact h2 j (by omega)
theorem min_rawT (hh : A.handled = none) (hl : s.heap.IsTuple l its.toArray) (hi : IntsAre its ns) (hne : 0 < ns.length)
    (h : ∀ h' tk M t', (∀ b o, s.heap.get? b = some o → h'.get? b = some o) → M ∈ ns → (∀ a, a ∈ ns → M ≤ a) → Q (.int M t') { s with heap := h', toks := tk }) : wpAny (model prog w) A (call (.builtin "min") [.ref l]) Q E s := by
  obtain ⟨xs, e⟩ := hi.allInts.items
  have hn : numsOf (intItems xs).toList = ns := by rw [← e]; exact hi.numsOf
  rw [nums_intItems] at hn
  subst hn
  rw [e] at hl
  have hsz : 0 < xs.size := by simpa using hne
  refine call_min_walk (iter_intTup hl fun s₂ e st hfp hlI => ?_)
  subst e
  refine ⟨_, _, _, _, _, _, _, rfl, Walks.tuple (A := A.in1) hh _ l hlI (intItems xs), st, hfp, by simpa [intItems] using hsz, CmpOf.ints_lt (numAt xs) (fun _ _ => intItems_at), fun v h' tk hP hk => ?_⟩
  have hv : (intItems xs)[argBest (fun i j => decide (numAt xs i < numAt xs j)) (xs.size - 1)]? = some v := by simpa [intItems] using hP
  obtain ⟨t, rfl⟩ := intItems_at hv
  obtain ⟨h1, h2⟩ := argBest_lt (numAt xs) (xs.size - 1)
  refine h h' tk _ t (old_keptT hk) ?_ fun a ha => ?_
  · rw [numAt_eq]; exact PySem.getD_mem (by rw [List.length_map, Array.length_toList]; omega)
  · obtain ⟨j, hj, rfl⟩ := mem_getD ha
    rw [List.length_map, Array.length_toList] at hj
    rw [← numAt_eq]; exact h2 j (by omega)
end
section
variable {X : Cx}
def rMaxT (K : PySem.W.Frag) : List V → Hp → VK → Prop := fun vs H Q => ∃ (a : Addr) (ns : List Int), vs = [V.ref a] ∧ SqT K H a (ns.map V.int) ∧ 0 < ns.length ∧ ∀ m, m ∈ ns → (∀ y, y ∈ ns → y ≤ m) → Q (.int m) H
def rMinT (K : PySem.W.Frag) : List V → Hp → VK → Prop := fun vs H Q => ∃ (a : Addr) (ns : List Int), vs = [V.ref a] ∧ SqT K H a (ns.map V.int) ∧ 0 < ns.length ∧ ∀ m, m ∈ ns → (∀ y, y ∈ ns → m ≤ y) → Q (.int m) H
theorem cr_maxT (hc : X.calm = true) : CallR X (.builtin "max") (rMaxT X.K) := by
  intro pins s σ H vs us Q I r h
  obtain ⟨a, ns, rfl, hs, hne, q⟩ := h
  obtain ⟨its, rv, p, hz⟩ := I.tuple hs
  obtain ⟨ob, p1, p2, n, p3⟩ := id p
  have ht : s.heap.IsTuple a its.toArray := ⟨ob, p1, p2, n, p3⟩
  rw [Vals.ref1 r]
  exact max_rawT (I.ok.hd hc) ht rv.ints hne fun h' tk m t' hk h1 h2 => ⟨.int _, H, I.kept hk, ⟨_, rfl⟩, q m h1 h2⟩
theorem cr_minT (hc : X.calm = true) : CallR X (.builtin "min") (rMinT X.K) := by
  intro pins s σ H vs us Q I r h
  obtain ⟨a, ns, rfl, hs, hne, q⟩ := h
  obtain ⟨its, rv, p, hz⟩ := I.tuple hs
  obtain ⟨ob, p1, p2, n, p3⟩ := id p
  have ht : s.heap.IsTuple a its.toArray := ⟨ob, p1, p2, n, p3⟩
  rw [Vals.ref1 r]
  exact min_rawT (I.ok.hd hc) ht rv.ints hne fun h' tk m t' hk h1 h2 => ⟨.int _, H, I.kept hk, ⟨_, rfl⟩, q m h1 h2⟩
end
section
variable {K : PySem.W.Frag} {H : Hp} {Q : VK} {p : Addr} {ns : List Int}
theorem kMaxT (h : SqT K H p (ns.map V.int)) (h0 : 0 < ns.length) (q : ∀ m, m ∈ ns → (∀ y, y ∈ ns → y ≤ m) → Q (.int m) H) : rMaxT K [.ref p] H Q := ⟨p, ns, rfl, h, h0, q⟩
theorem kMinT (h : SqT K H p (ns.map V.int)) (h0 : 0 < ns.length) (q : ∀ m, m ∈ ns → (∀ y, y ∈ ns → m ≤ y) → Q (.int m) H) : rMinT K [.ref p] H Q := ⟨p, ns, rfl, h, h0, q⟩
theorem kMinL (h : SqL K H p (ns.map V.int)) (h0 : 0 < ns.length) (q : ∀ m, m ∈ ns → (∀ y, y ∈ ns → m ≤ y) → Q (.int m) H) : rMin K [.ref p] H Q := ⟨p, ns, rfl, h, h0, q⟩
end
/-! ### for x, y in zip(xs, ys) -/
theorem kForZ {σ : L2.St} {H : Hp} {tb : TS} {j l : Nat} {ta : TA} {K : PySem.W.Frag} {nx bk ct : L2.St → Hp → Prop} {rt : VK} (G : Addr → Addr → List V → List V → Hp → Prop)
    (src : ∀ R : List V → Hp → Prop, (∀ a b xs ys H', G a b xs ys H' → R [.ref a, .ref b] H') → ta σ H R)
    (body : ∀ a b xs ys H1, G a b xs ys H1 → SqL K H1 a xs ∧ SqL K H1 b ys ∧ ∃ Pv : Nat → L2.St → Hp → Prop, Pv 0 σ H1 ∧ (∀ i σ' H', Pv i σ' H' → SqL K H' a xs ∧ SqL K H' b ys) ∧
      (∀ (i : Nat) x y σ' H' T, xs[i]? = some x → ys[i]? = some y → Pv i σ' H' → H' T = none → tb (Ends.mk (Pv (i + 1)) rt nx (Pv (i + 1))) ((σ'.set j (some x)).set l (some y)) (upd H' T (.tup [x, y]))) ∧ ∀ σ' H', Pv (min xs.length ys.length) σ' H' → nx σ' H') :
    tFor (iZip K ta) (gTup K 2 (gCons (gName j) (gCons (gName l) gNil))) tb (Ends.mk nx rt bk ct) σ H := by
  refine src _ fun a b xs ys H1 hG => ?_
  obtain ⟨ha, hb, Pv, h0, hl, hs, hd⟩ := body a b xs ys H1 hG
  refine ⟨a, b, xs, ys, rfl, ha, hb, for_it (walk_zip (xs := xs) (ys := ys) rfl) Pv h0 (fun i σ' H' _ p => hl i σ' H' p) (fun i v σ' H' H2 hi hp y => ?_) hd⟩
  obtain ⟨T, x1, x2, rfl, hT, rfl, e1, e2⟩ := y
  exact ⟨T, [x1, x2], rfl, .inl (.inl upd_same), rfl, _, _, rfl, _, _, rfl, rfl, hs i x1 x2 σ' H' T e1 e2 hp hT⟩
end Rg

set_option Elab.async false
set_option linter.all false
set_option maxRecDepth 100000
set_option maxHeartbeats 2000000
/-! # Defs that are called within an except suite, with the exception that is handled; they raise nothing -/
namespace Rg
open PySem PySem.W PySem.Spec PySem.HandSPX PyProof.Rows L2
abbrev SpP := Addr → Value → Option Addr → Sp
/-- what a def promises there: p is the exception -/
structure FnP (P : Program) (w : World) (K : PySem.W.Frag) (mg : Str → Option Value) (base : Heap) (k : Nat) (f : Addr) (fd : FuncData) (ps : List Str) (sp : SpP) : Prop where
  len : ∀ a cls d vs H Q E, sp a cls d vs H Q E → vs.length = ps.length
  run : ∀ (A : Around) (outer : List Env) (s : Shared) (H : Hp) (args : Args) (us : List Value) (vs : List V) (Q : VK) (E : XK) (p : Addr × Obj) (cls : Value) (d : Option Addr), L2H.RoomH k A → L2H.PinOk outer H s p → Zc cls d p.2 → (∃ vs, p.2.data = .fields vs) → Env0 P w K mg base A outer s H → BindsTo s fd args (ps.zip us) → Vals vs us →
    sp p.1 cls d vs H Q E → codeAny (model P w) A (.call (.ref f) args) (CR CX0 outer P w H s Q E) s
theorem fn_ofP {P : Program} {w : World} {K : PySem.W.Frag} {mg : Str → Option Value} {base : Heap} {k : Nat} {f : Addr} {name qual : Str} {params : Arguments} {body : List Stmt} {scope : Scope} {dV kV doc pm cdv ct oc : Value} {an od : Option Addr}
    {osl : Array (Option Value)} {N ps : List Str} {sp : SpP} (lk : K.lookup f = some ⟨oc, od, .func (PySem.W.fnOf name qual params body scope dV kV doc pm an cdv ct), osl⟩) (hcd : PySem.W.codeIn K cdv qual = true) (S : FnScope N ps scope)
    (len : ∀ a cls d vs H Q E, sp a cls d vs H Q E → vs.length = ps.length)
    (hbody : ∀ (A : Around) (outer : List Env) (s : Shared) (H : Hp) (vs : List V) (Q : VK) (E : XK) (p : Addr × Obj) (cls : Value) (d : Option Addr), Zc cls d p.2 → (∃ vs, p.2.data = .fields vs) → L2H.RoomH k (A.deeper (envOfC qual scope s.heap.objs.size f cdv)) → sp p.1 cls d vs H Q E →
      ∃ t, PSs (L2H.cxH CX0 P w K mg base N qual scope f cdv A outer s H E p) body t ∧ t { nx := fun _ H' => Q .non H', rt := Q } (L2.start N vs) H) :
    FnP P w K mg base (k + 1) f (PySem.W.fnOf name qual params body scope dV kV doc pm an cdv ct) ps sp := by
  refine ⟨len, fun A outer s H args us vs Q E p cls d hr hpin hz hf e0 hb r hsp => ?_⟩
  have hl := len _ _ _ _ _ _ _ hsp
  have KX : K.In s.heap := e0.mod.kin.keeps fun b o e => (e0.bs b o e).1
  have lim : s.heap.NoLimit := e0.mod.nolimit.keeps fun b o e => (e0.bs b o e).1
  have hkind : ∀ y ∈ ps.zip us, scope.names.lookup y.1 = some .local ∨ (scope.names.lookup y.1 = some .cell ∧ ((cellsFrom (s.heap.objs.size + 1) scope.names []).lookup y.1).isSome = true) := fun ⟨n, v⟩ hy => by
    rcases S.par n (List.of_mem_zip hy).1 with q | q
    · exact .inl q
    · exact .inr ⟨q, PySem.W.cellsFrom_some _ _ _ (.inl q)⟩
  refine codeAny_call_function hr.depth (KX _ _ lk) rfl S.co S.gen rfl (PySem.W.codeRec_of KX hcd) (hb _ _ _ _ ?_)
  refine wpAny_newFunctionEnv_cells S.kind hkind fun env he s1 x => ?_
  subst he
  refine ⟨lim.keeps x.toInCall.keep, codeAny_func ?_⟩
  obtain ⟨t, ht, hq⟩ := hbody A outer s H vs Q E p cls d hz hf (hr.deeper _) hsp
  have I : L2.Inv (L2H.cxH CX0 P w K mg base N qual scope f cdv A outer s H E p) [] (L2.start N vs) H s1 := L2H.inv_startH S hpin e0 hl r x
  refine wpAny_mono (ht.run [] s1 (L2.start N vs) H _ I hq) (fun fl s' hs => ?_) fun e s' hs => hs
  have fin : ∀ {σ' : L2.St} {H' : Hp} {v : V} {u : Value}, L2.Inv (L2H.cxH CX0 P w K mg base N qual scope f cdv A outer s H E p) [] σ' H' s' → RelV v u → Q v H' → CE outer P w H s Q u s' :=
    fun {σ' H' v u} J rv q => ⟨v, H', J.os, J.bare, J.base, J.hok, rv, q⟩
  cases fl with
  | ret u =>
    obtain ⟨v, σ', H', J, rv, q⟩ := hs
    exact fin J rv q
  | next =>
    obtain ⟨σ', H', J, q⟩ := hs
    exact fin (v := V.non) (u := Value.none) J rfl q
  | brk =>
    obtain ⟨_, _, _, q⟩ := hs
    exact False.elim q
  | cont =>
    obtain ⟨_, _, _, q⟩ := hs
    exact False.elim q
theorem okP {P : Program} {w : World} {K : PySem.W.Frag} {mg : Str → Option Value} {base : Heap} {x qual : Str} {st : Stmt} {f : Addr} {fd : FuncData} {N ps : List Str} {k : Nat} {sp : SpP} (F : Fun K x qual st f fd) (S : FnScope N ps (defScope st)) (len : ∀ a cls d vs H Q E, sp a cls d vs H Q E → vs.length = ps.length)
    (hbody : ∀ (cdv : Value) (A : Around) (outer : List Env) (s : Shared) (H : Hp) (vs : List V) (Q : VK) (E : XK) (p : Addr × Obj) (cls : Value) (d : Option Addr), Zc cls d p.2 → (∃ vs, p.2.data = .fields vs) → L2H.RoomH k (A.deeper (envOfC qual (defScope st) s.heap.objs.size f cdv)) → sp p.1 cls d vs H Q E →
      ∃ t, PSs (L2H.cxH CX0 P w K mg base N qual (defScope st) f cdv A outer s H E p).nox (defBody st) t ∧ t { nx := fun _ H' => Q .non H', rt := Q } (L2.start N vs) H) : FnP P w K mg base (k + 1) f fd ps sp := by
  obtain ⟨oc, od, kV, doc, pm, an, cdv, ct, osl, rfl, lk, hcd⟩ := F.ex
  refine fn_ofP lk hcd S len fun A outer s H vs Q E p cls d hz hf hr hsp => ?_
  obtain ⟨t, h, q⟩ := hbody cdv A outer s H vs Q E p cls d hz hf hr hsp
  exact ⟨t, h.nox, q⟩
section
variable {X : Cx} {k : Nat} {f : Addr} {fd : FuncData} {ps : List Str} {sp : SpP} {x : Str} {q pos : Pos} {e : Expr} {es : List Expr} {t : TA} {p : Addr × Obj} {cls : Value} {d : Option Addr}
def tCallP (sp : Sp) (t : TA) : TE := fun σ H Q => t σ H fun vs H1 => sp vs H1 Q E0
theorem kCallP {σ : L2.St} {H : Hp} {Q : VK} {sp : Sp} (h : t σ H fun vs H1 => sp vs H1 Q E0) : tCallP sp t σ H Q := h
theorem pe_callP {a : Addr} {oe : Obj} (F : FnP X.prog X.w X.K X.mg X.base k f fd ps sp) (hr : L2H.RoomH k X.A) (hp : (a, oe) ∈ X.pn) (hz : Zc cls d oe) (hf : ∃ vs, oe.data = .fields vs) (hg : Gl X x) (hm : X.mg x = some (.ref f)) (hk : PySem.W.keepIn X.K (.ref f) = true) (hb : Binds X.K fd ps [])
    (ha : PA X (e :: es) t) (hdb : (x == ("__debug__" : Str)) = false := by decide) (he : starEach (e :: es) X.env = (false, eval e X.env) :: starEach es X.env := by rfl) (hpl : (backTo pos (starEach es X.env)).any (·.1) = false := by rfl) :
    PE X (.Call (.Name x q) (e :: es) [] pos) (tCallP (sp a cls d) t) := by
  refine ⟨fun pins s σ H Q I h => ?_⟩
  refine wpAny_Call_Name_kw (ld_glob I hg hm ?_ hdb)
  refine PySem.W.callWith_K (h₀ := X.base) I.ok.mod.kin hk (thn (ha.run pos pins s σ H _ I h) fun us s1 ⟨vs, H1, I1, r, q⟩ => ⟨I1.kIn, ?_⟩) he hpl
  have hl : us.length = ps.length := by rw [← r.length]; exact F.len _ _ _ _ _ _ _ q
  have b := hb s1 us I1.kIn (by rw [List.append_nil]; exact hl)
  rw [List.append_nil] at b
  have P1 := I1.pin (a, oe) (List.mem_append_left _ hp)
  have hpin : L2H.PinOk X.stack H1 s1 (a, oe) := ⟨P1.1, P1.2.1, fun hm => (List.mem_cons.mp (I1.stkSub a hm)).elim P1.2.2.1 P1.2.2.2.1, P1.2.2.2.2⟩
  refine wpAny_call (codeAny_mono (F.run X.A X.stack s1 H1 ⟨us, []⟩ us vs Q E0 (a, oe) cls d hr hpin hz hf I1.env0 b r q) fun r s' hq => ?_)
  cases r with
  | error e => exact False.elim hq
  | ok fl =>
    cases fl with
    | ret u => exact I1.after hq
    | next => exact False.elim hq
    | brk => exact False.elim hq
    | cont => exact False.elim hq
/-- isinstance(e, c) of it -/
def rIsP (K : Frag) (a : Addr) (cls : Value) (d : Option Addr) : List V → Hp → VK → Prop := fun xs H Q => ∃ (C dd : Addr) (fs : List (Str × V)) (c : V) (u : Value) (b : Bool), xs = [.ref a, c] ∧ cls = .ref C ∧ d = some dd ∧ H dd = some (.xd fs) ∧ L2.ExcC K C ∧ ClsV c u ∧ kitOne K (.ref C) u = some b ∧ Q (.bl b) H
theorem inst_pin {pins : List (Addr × Obj)} {σ : L2.St} {H : Hp} {s : Shared} {C dd : Addr} {fs : List (Str × V)} (I : L2.Inv X pins σ H s) (hp : p ∈ X.pn) (hz : Zc (.ref C) (some dd) p.2) (hf : ∃ vs, p.2.data = .fields vs) (hx : H dd = some (.xd fs)) :
    ∃ od, W.InstAt s.heap p.1 p.2 C (some od) ∧ (∃ mA : Str → Option Value, (∀ name : Str, lookIn name od = some (mA name)) ∧ ∀ f : Str, RelO (fs.lookup f) (mA f)) := by
  obtain ⟨vs, hdat⟩ := hf
  have hget := (I.pin p (List.mem_append_left _ hp)).1
  obtain ⟨mA, hns, hr⟩ := (I.hok dd _ hx : ObjOk _ _ _ _ _ (.xd _))
  obtain ⟨od, ho, hl⟩ := lookIn_ns hns
  exact ⟨od, ⟨hget, hz.1, by unfold PySem.W.notCls; rw [hdat] <;> rfl, by rw [hz.2]; exact ho⟩, mA, hl, hr⟩
theorem call_isP (hp : p ∈ X.pn) (hz : Zc cls d p.2) (hf : ∃ vs, p.2.data = .fields vs) : CallR X (.builtin "isinstance") (rIsP X.K p.1 cls d) := by
  intro pins s σ H xs us Q I rv ⟨C, dd, fs, c, u, b, hx, ec, ed, hxd, T, hc, hb, q⟩
  subst hx
  subst ec
  subst ed
  cases rv with
  | cons r1 rr =>
    cases rr with
    | cons r2 rn =>
      cases rn
      obtain rfl : _ = Value.ref p.1 := r1
      obtain ⟨od, hi, _⟩ := inst_pin I hp hz hf hxd
      rw [hc.eq r2] at *
      refine kia_one (held_kit T) I.kIn hi hb (by intro e; cases e) (fun tk => ⟨.bl b, H, I.tok tk, rfl, q⟩)
/-- e.f -/
def tPf (K : Frag) (a : Addr) (cls : Value) (d : Option Addr) (f : Str) (te : TE) : TE := fun σ H Q => te σ H fun x H1 => ∃ (C dd : Addr) (fs : List (Str × V)) (v : V), x = .ref a ∧ cls = .ref C ∧ d = some dd ∧ H1 dd = some (.xd fs) ∧ XfC K C ∧ PySem.W.findIn K (.ref C) f = some none ∧ fs.lookup f = some v ∧ Q v H1
theorem pe_pf {f : Str} {te : TE} (hp : p ∈ X.pn) (hz : Zc cls d p.2) (hf : ∃ vs, p.2.data = .fields vs) (he : PE X e te) (hb : attributeBase e f X.env (eval e X.env) = eval e X.env := by rfl) : PE X (.Attribute e f pos) (tPf X.K p.1 cls d f te) := by
  refine ⟨fun pins s σ H Q I h => ?_⟩
  refine attr_of hb (thn (he.run pins s σ H _ I h) fun u s1 hh => ?_)
  obtain ⟨x, H1, I1, rx, C, dd, fs, v, ex, ec, ed, hxd, T, noN, hl, q⟩ := hh
  subst ex
  subst ec
  subst ed
  obtain rfl : u = Value.ref p.1 := rx
  obtain ⟨od, hi, mA, hla, hr⟩ := inst_pin I1 hp hz hf hxd
  obtain ⟨u, hu, ru⟩ := RelO.some_of (v := v) (o := mA f) (by rw [← hl]; exact hr f)
  exact HandSPX.exc_get I1.kIn hi T.ga T.gg T.exC (PySem.W.findObj_own T.hdC noN rfl (by rw [hla, hu])) (handed_of ru) ⟨v, H1, I1.tok _, ru, q⟩
end
section
variable {σ : L2.St} {H : Hp} {Q : VK} {K : Frag} {a C dd : Addr} {fs : List (Str × V)} {te : TE} {c : V} {u : Value} {b : Bool}
theorem kIsP (hx : H dd = some (.xd fs)) (T : L2.ExcC K C) (hc : ClsV c u) (hb : kitOne K (.ref C) u = some b) (q : Q (.bl b) H) : rIsP K a (.ref C) (some dd) [.ref a, c] H Q := ⟨C, dd, fs, c, u, b, rfl, rfl, rfl, hx, T, hc, hb, q⟩
theorem kPf {f : Str} {cls : Value} {d : Option Addr} (h : te σ H fun x H1 => ∃ (C dd : Addr) (fs : List (Str × V)) (v : V), x = .ref a ∧ cls = .ref C ∧ d = some dd ∧ H1 dd = some (.xd fs) ∧ XfC K C ∧ PySem.W.findIn K (.ref C) f = some none ∧ fs.lookup f = some v ∧ Q v H1) : tPf K a cls d f te σ H Q := h
end
theorem roomS {k : Nat} {A : Around} {h : Option Value} (r : Room k A) : L2H.RoomH k (A.mark h) := ⟨r.dp, r.un⟩
/-! ### except x as n, the exception gone behind it -/
theorem noTk {X : Cx} : Takes X (fun _ _ _ _ => False) := fun u s' x => by
  obtain ⟨_, _, _, _, _, _, _, _, _, _, _, _, _, _, _, _, h⟩ := x
  exact h.elim
theorem ps_gone {X : Cx} {x n : Str} {c : Value} {i : Nat} {body suite : List Stmt} {b₀ : Stmt} {np pos pos' : Pos} {tb : WX → TS} {ts : Addr → Value → Option Addr → TS}
    (hs : X.stack = X.env :: X.outer) (hf : X.env.frame = some X.env.locals) (hN : X.N.Nodup) (hi : X.N[i]? = some n) (hln : X.env.kindOf n = some .local) (hg : Gl X x) (hc : X.mg x = some c)
    (hb : ∀ (W : WX) (pn : List (Addr × Obj)) (xe : Value → Shared → Prop), Takes (X.tr pn xe) W → PSs (X.tr pn xe) body (tb W))
    (hsu : ∀ (a : Addr) (oe : Obj) (cls : Value) (d : Option Addr) (pn : List (Addr × Obj)), Zc cls d oe → (∃ vs, oe.data = Data.fields vs) → PSs (X.suite a ((a, oe) :: pn)) (b₀ :: suite) (ts a cls d))
    (hd : (x == ("__debug__" : Str)) = false := by rfl) :
    PS X (.Try body [.ExceptHandler (some (.Name x np)) (some n) (b₀ :: suite) pos'] [] [] pos) (fun D σ H => tb (wAs X.K c i ts (fun _ _ _ _ => False) D) D σ H) :=
  ps_try_as hs hf hN hi hln ⟨hg, hd, .inl hc⟩ noTk (fun W pn xe tk _ => hb W pn xe tk) hsu
end Rg

set_option Elab.async false
set_option linter.all false
set_option maxRecDepth 100000
set_option maxHeartbeats 2000000
/-! # A refusal made and kept as a value -/
namespace Rg
open PySem PySem.W PySem.Spec PySem.HandSPX PyProof.Rows L2
section
variable {X : Cx} {C fI : Addr} {fld : Str} {msg : Expr} {G : Value → Prop} {fd : FuncData} {bmB : List Value}
/-- C(e), the exception itself -/
def tMkV (C : Addr) (fld : Str) (ta : TA) : TE := fun σ H Q => ta σ H fun vs H1 => ∃ v, vs = [v] ∧ ∀ d e, H1 d = none → H1 e = none → d ≠ e → Q (.ref e) (upd (upd H1 d (.xd [(fld, v)])) e (exh e (.ref C) (some d)))
theorem pe_mkV {x : Str} {a : Expr} {ta : TA} {p pos : Pos} {k : Nat} (hex : X.ex = []) (T : ExT X.prog X.K X.mg fld C fI bmB) (J : ExI X.prog X.K fld C fI fd msg) (hmsg : MsgOk X.prog X.w fld msg (fun _ => True)) (hr : Room k X.A) (ha : PA X [a] ta) (hm : X.mg x = some (.ref C)) (hg : Gl X x := by rfl)
    (hd : (x == ("__debug__" : Str)) = false := by rfl) (he : starEach (a :: []) X.env = (false, eval a X.env) :: starEach [] X.env := by rfl) (hpl : (backTo pos (starEach [] X.env)).any (·.1) = false := by rfl) :
    PE X (.Call (.Name x p) [a] [] pos) (tMkV C fld ta) := by
  refine ⟨fun pins s σ H Q I h => ?_⟩
  refine wpAny_Call_Name_kw (ld_glob I hg hm ?_ hd)
  refine PySem.W.callWith_K (h₀ := X.base) I.ok.mod.kin T.kC (thn (ha.run pos pins s σ H _ I h) fun us s1 hh => ?_) he hpl
  obtain ⟨vs, H1, I1, r1, v, ev, q1⟩ := hh
  subst ev
  refine ⟨I1.kIn, ?_⟩
  cases r1 with
  | cons rv rn =>
    rename_i v' us'
    cases rn
    show wpAny _ _ (call (.ref C) [v']) _ _ _
    have hlim := I1.nolimit
    obtain ⟨mb, hmb, hbt⟩ := I1.ok.mod.blt
    have hgl : s1.heap.Ns mainGlobals X.mg := I1.ok.mod.glob.keeps I1.bk
    have hbl : s1.heap.Ns builtinsNs mb := hmb.keeps I1.bk
    obtain ⟨m0, hns0, _⟩ := I1.loc
    have hloc : X.env.locals < s1.heap.objs.size := hns0.lt
    obtain ⟨hp, g, dr, tk, os⟩ := s1
    refine wpAny_call (ex_made T J hmsg I1.kIn hlim hgl hbl ((hbt _ (by decide)).trans rfl) (by have := hr.dp; omega) trivial fun h' tk' e d M => ?_)
    obtain ⟨t1, hoe⟩ := M.obj
    have hns := M.ns
    have ob : ObjOk X.prog X.w (upd H1 d (.xd [(fld, v)])) h' d (.xd [(fld, v)]) := ⟨_, hns.at (fun o q => q), fun f => relO_fld rv f⟩
    have J1 : L2.Inv X pins σ (upd H1 d (.xd [(fld, v)])) ⟨h', g, dr, tk', os⟩ := I1.laid (t' := tk') M.keep M.dbig ob
    have lte : ∀ {b : Addr} {o : Obj}, hp.get? b = some o → b ≠ e := fun q z => by
      have h1 := Heap.lt_size q
      have h2 := M.new
      rw [z] at h1
      exact absurd (Nat.lt_of_lt_of_le h1 h2) (Nat.lt_irrefl _)
    have hHd : H1 d = none := I1.hok.fresh M.dbig
    have hHe : H1 e = none := I1.hok.fresh M.new
    have hne : (upd H1 d (.xd [(fld, v)])) e = none := by rw [upd_ne (Ne.symm M.dne)]; exact hHe
    refine ⟨.ref e, _, ?_, rfl, q1 d e hHd hHe M.dne⟩
    refine hold_it (cls := .ref C) (d := some d) (oe := _) ⟨rfl, rfl⟩ ⟨_, rfl⟩ J1 hoe hne (fun z => ?_) ?_ (fun y c ec z => ?_) (fun p hp' z => ?_)
    · have h1 := hloc
      rw [← z] at h1
      exact absurd (Nat.lt_of_lt_of_le h1 M.new) (Nat.lt_irrefl _)
    · cases e0 : X.s_0.heap.get? e with
      | none => rfl
      | some o =>
        obtain ⟨o', e'⟩ := I1.base.there e o e0 (by rw [hex]; exact List.not_mem_nil)
        exact absurd rfl (lte e')
    · obtain ⟨_, o, ho, _⟩ := I1.cell y c ec
      exact lte ho z
    · exact lte (I1.pin p hp').1 z
/-- e.f, the ledger named -/
theorem pe_hfQ {K : Frag} {e : Expr} {te : TE} {f : Str} {pos : Pos} (eK : X.K = K) (he : PE X e te) (hb : attributeBase e f X.env (eval e X.env) = eval e X.env := by rfl) : PE X (.Attribute e f pos) (tHf K f te) := eK ▸ pe_hf he hb
end
section
variable {σ : L2.St} {H : Hp} {Q : VK} {K : Frag} {te : TE} {ta : TA} {C : Addr} {fld f : Str} {v : V} {d : Addr} {n : Nat} {L : Led}
def MkC (C : Addr) (fld : Str) (Q : VK) (vs : List V) (H : Hp) : Prop := ∃ v, vs = [v] ∧ ∀ d e, H d = none → H e = none → d ≠ e → Q (.ref e) (upd (upd H d (.xd [(fld, v)])) e (exh e (.ref C) (some d)))
theorem kMkV (h : ta σ H fun vs H1 => MkC C fld Q vs H1) : tMkV C fld ta σ H Q := h
theorem kMkK (kn : Kn d n L H) (q : ∀ e x H', Kn d n ((e, exh e (.ref C) (some x)) :: (x, .xd [(fld, v)]) :: L) H' → Q (.ref e) H') : MkC C fld Q [v] H :=
  ⟨v, rfl, fun x e hx he hne => q e x _ ((kn.new hx).new (by rw [upd_ne (Ne.symm hne)]; exact he))⟩
theorem kHf (h : te σ H fun x H1 => ∃ (a C d : Addr) (fs : List (Str × V)) (v : V), x = .ref a ∧ Kept H1 a C d fs ∧ XfC K C ∧ PySem.W.findIn K (.ref C) f = some none ∧ fs.lookup f = some v ∧ Q v H1) : tHf K f te σ H Q := h
theorem kIsH {a x : Addr} {fs : List (Str × V)} {c : V} {u : Value} {b : Bool} (k : Kept H a C x fs) (T : L2.ExcC K C) (hc : ClsV c u) (hb : kitOne K (.ref C) u = some b) (q : Q (.bl b) H) : rIsH K [.ref a, c] H Q := ⟨a, C, x, fs, c, u, b, rfl, k, T, hc, hb, q⟩
end
end Rg

set_option Elab.async false
set_option linter.all false
set_option maxRecDepth 100000
set_option maxHeartbeats 2000000
namespace Rg
open PySem PySem.Spec PyProof.Rows L2
/-! ### comprehensions whose ledger grows; S tells what is made so far, the dice's count, the ledger -/
theorem kLcLS {d : Addr} {n : Nat} {L : Led} {H : Hp} {K : PySem.W.Frag} {σ : L2.St} {Q : VK} {p : Addr} {xs : List V} {te0 te : TE} {tt : TT} {j : Nat} {vs : List Nat} (k : Kn d n L H) (hp : (p, .lst xs) ∈ L) (src : ∀ R : VK, R (.ref p) H → te0 σ H R)
    (hz : xs.length ≤ 100000) (S : Nat → List V → Nat → Led → Prop) (s0 : S 0 [] n L) (sl : ∀ i l m L2, S i l m L2 → l.length ≤ i ∧ (p, .lst xs) ∈ L2) (hw : ∀ x, wipe ((wipe σ vs).set j (some x)) vs = wipe σ vs)
    (turn : ∀ i x H' D acc m L2, xs[i]? = some x → S i acc m L2 → Kn d m ((D, .lst acc) :: L2) H' → ∀ (N1 : VK) (N2 : Hp → Prop), (∀ y H4 m3 L3, S (i + 1) (acc ++ [y]) m3 L3 → Kn d m3 ((D, .lst acc) :: L3) H4 → N1 y H4) → (∀ H3 m3 L3, S (i + 1) acc m3 L3 → Kn d m3 ((D, .lst acc) :: L3) H3 → N2 H3) →
      tt ((wipe σ vs).set j (some x)) H' fun b H3 => if b = true then te ((wipe σ vs).set j (some x)) H3 N1 else N2 H3)
    (q : ∀ D acc m L2 H', S xs.length acc m L2 → Kn d m ((D, .lst acc) :: L2) H' → Q (.ref D) H') : tLc (iList K te0) (gName j) tt te vs σ H Q := by
  refine src _ ⟨p, rfl, ⟨xs, k.seqL hp⟩, fun D hD => lc_list (xs := xs) (fun i H' => ∃ acc m L2, S i acc m L2 ∧ Kn d m ((D, .lst acc) :: L2) H') ⟨[], n, L, s0, k.new hD⟩ (fun i H' _ kn => by obtain ⟨acc, m, L2, hS, kn⟩ := kn; exact kn.seqL (List.mem_cons_of_mem _ (sl _ _ _ _ hS).2)) (fun i x H' hx kn => ⟨hw x, ?_⟩) (fun H' kn => by obtain ⟨acc, m, L2, hS, kn⟩ := kn; exact q D acc m L2 H' hS kn)⟩
  obtain ⟨acc, m, L2, hS, kn⟩ := kn
  have hi : i < xs.length := (List.getElem?_eq_some_iff.mp hx).1
  have hl := (sl _ _ _ _ hS).1
  exact turn i x H' D acc m L2 hx hS kn _ _ (fun y H4 m3 L3 e kn4 => ⟨acc, kn4.at 0 rfl, szL' (by omega), acc ++ [y], m3, L3, e, kn4.put 0 rfl⟩) (fun H3 m3 L3 e kn3 => ⟨acc, m3, L3, e, kn3⟩)
theorem kLcTS {d : Addr} {n : Nat} {L : Led} {H : Hp} {K : PySem.W.Frag} {σ : L2.St} {Q : VK} {p : Addr} {xs : List V} {te0 te : TE} {tt : TT} {j : Nat} {vs : List Nat} (k : Kn d n L H) (hp : (p, .tup xs) ∈ L) (src : ∀ R : VK, R (.ref p) H → te0 σ H R)
    (hz : xs.length ≤ 100000) (S : Nat → List V → Nat → Led → Prop) (s0 : S 0 [] n L) (sl : ∀ i l m L2, S i l m L2 → l.length ≤ i ∧ (p, .tup xs) ∈ L2) (hw : ∀ x, wipe ((wipe σ vs).set j (some x)) vs = wipe σ vs)
    (turn : ∀ i x H' D acc m L2, xs[i]? = some x → S i acc m L2 → Kn d m ((D, .lst acc) :: L2) H' → ∀ (N1 : VK) (N2 : Hp → Prop), (∀ y H4 m3 L3, S (i + 1) (acc ++ [y]) m3 L3 → Kn d m3 ((D, .lst acc) :: L3) H4 → N1 y H4) → (∀ H3 m3 L3, S (i + 1) acc m3 L3 → Kn d m3 ((D, .lst acc) :: L3) H3 → N2 H3) →
      tt ((wipe σ vs).set j (some x)) H' fun b H3 => if b = true then te ((wipe σ vs).set j (some x)) H3 N1 else N2 H3)
    (q : ∀ D acc m L2 H', S xs.length acc m L2 → Kn d m ((D, .lst acc) :: L2) H' → Q (.ref D) H') : tLc (iTup K te0) (gName j) tt te vs σ H Q := by
  refine src _ ⟨p, rfl, ⟨xs, k.seqT hp⟩, fun D hD => lc_tup (xs := xs) (fun i H' => ∃ acc m L2, S i acc m L2 ∧ Kn d m ((D, .lst acc) :: L2) H') ⟨[], n, L, s0, k.new hD⟩ (fun i H' _ kn => by obtain ⟨acc, m, L2, hS, kn⟩ := kn; exact kn.seqT (List.mem_cons_of_mem _ (sl _ _ _ _ hS).2)) (fun i x H' hx kn => ⟨hw x, ?_⟩) (fun H' kn => by obtain ⟨acc, m, L2, hS, kn⟩ := kn; exact q D acc m L2 H' hS kn)⟩
  obtain ⟨acc, m, L2, hS, kn⟩ := kn
  have hi : i < xs.length := (List.getElem?_eq_some_iff.mp hx).1
  have hl := (sl _ _ _ _ hS).1
  exact turn i x H' D acc m L2 hx hS kn _ _ (fun y H4 m3 L3 e kn4 => ⟨acc, kn4.at 0 rfl, szL' (by omega), acc ++ [y], m3, L3, e, kn4.put 0 rfl⟩) (fun H3 m3 L3 e kn3 => ⟨acc, m3, L3, e, kn3⟩)
theorem kLcRG {d : Addr} {n : Nat} {L : Led} {H : Hp} {σ : L2.St} {Q : VK} {lo : Int} {N : Nat} {wi : TI} {te : TE} {tt : TT} {j : Nat} {vs : List Nat} (k : Kn d n L H) (src : ∀ R : It → Hp → Prop, R (Itr lo N) H → wi σ H R)
    (hz : N ≤ 100000) (S : Nat → List V → Nat → Led → Prop) (s0 : S 0 [] n L) (sl : ∀ i l m L2, S i l m L2 → l.length ≤ i) (hw : ∀ x, wipe ((wipe σ vs).set j (some x)) vs = wipe σ vs)
    (turn : ∀ (i : Nat) H' D acc m L2, i < N → S i acc m L2 → Kn d m ((D, .lst acc) :: L2) H' → ∀ (N1 : VK) (N2 : Hp → Prop), (∀ y H4 m3 L3, S (i + 1) (acc ++ [y]) m3 L3 → Kn d m3 ((D, .lst acc) :: L3) H4 → N1 y H4) → (∀ H3 m3 L3, S (i + 1) acc m3 L3 → Kn d m3 ((D, .lst acc) :: L3) H3 → N2 H3) →
      tt ((wipe σ vs).set j (some (.int (lo + (i : Int))))) H' fun b H3 => if b = true then te ((wipe σ vs).set j (some (.int (lo + (i : Int))))) H3 N1 else N2 H3)
    (q : ∀ D acc m L2 H', S N acc m L2 → Kn d m ((D, .lst acc) :: L2) H' → Q (.ref D) H') : tLc wi (gName j) tt te vs σ H Q := by
  refine src _ fun D hD => lc_range (lo := lo) (n := N) (fun i H' => ∃ acc m L2, S i acc m L2 ∧ Kn d m ((D, .lst acc) :: L2) H') ⟨[], n, L, s0, k.new hD⟩ (fun i H' hi kn => ⟨hw _, ?_⟩) (fun H' kn => by obtain ⟨acc, m, L2, hS, kn⟩ := kn; exact q D acc m L2 H' hS kn)
  obtain ⟨acc, m, L2, hS, kn⟩ := kn
  have hl := sl _ _ _ _ hS
  exact turn i H' D acc m L2 hi hS kn _ _ (fun y H4 m3 L3 e kn4 => ⟨acc, kn4.at 0 rfl, szL' (by omega), acc ++ [y], m3, L3, e, kn4.put 0 rfl⟩) (fun H3 m3 L3 e kn3 => ⟨acc, m3, L3, e, kn3⟩)
/-- over zip of two lists, made on the way -/
theorem kLcZS {d : Addr} {n : Nat} {H : Hp} {K : PySem.W.Frag} {σ : L2.St} {Q : VK} {ta : TA} {te : TE} {tt : L2.TT} {j l : Nat} {vs : List Nat} (G : Addr → Addr → List V → List V → Led → Hp → Prop)
    (src : ∀ R : List V → Hp → Prop, (∀ a b xs ys L1 H1, G a b xs ys L1 H1 → R [.ref a, .ref b] H1) → ta σ H R) (hw : ∀ x y, wipe (((wipe σ vs).set j (some x)).set l (some y)) vs = wipe σ vs)
    (body : ∀ a b xs ys L1 H1, G a b xs ys L1 H1 → Kn d n L1 H1 ∧ (a, .lst xs) ∈ L1 ∧ (b, .lst ys) ∈ L1 ∧ xs.length ≤ 100000 ∧ ∃ S : Nat → List V → Led → Prop, S 0 [] L1 ∧ (∀ i acc L2, S i acc L2 → acc.length ≤ i ∧ L1.Sublist L2) ∧
      (∀ (i : Nat) x y H' D T acc L2, xs[i]? = some x → ys[i]? = some y → S i acc L2 → Kn d n ((T, .tup [x, y]) :: (D, .lst acc) :: L2) H' → ∀ (N1 : VK) (N2 : Hp → Prop), (∀ z H4 L3, S (i + 1) (acc ++ [z]) L3 → Kn d n ((D, .lst acc) :: L3) H4 → N1 z H4) →
        (∀ H3 L3, S (i + 1) acc L3 → Kn d n ((D, .lst acc) :: L3) H3 → N2 H3) →
        tt (((wipe σ vs).set j (some x)).set l (some y)) H' fun b H3 => if b = true then te (((wipe σ vs).set j (some x)).set l (some y)) H3 N1 else N2 H3) ∧
      (∀ D acc L2 H', S (min xs.length ys.length) acc L2 → Kn d n ((D, .lst acc) :: L2) H' → Q (.ref D) H')) :
    tLc (iZip K ta) (gTup K 2 (gCons (gName j) (gCons (gName l) gNil))) tt te vs σ H Q := by
  refine src _ fun a b xs ys L1 H1 hG => ?_
  obtain ⟨k, ha, hb, hz, S, s0, sl, turn, q⟩ := body a b xs ys L1 H1 hG
  refine ⟨a, b, xs, ys, rfl, k.seqL ha, k.seqL hb, fun D hD => lc_it (walk_zip (xs := xs) (ys := ys) rfl) (fun i H' => ∃ acc L2, S i acc L2 ∧ Kn d n ((D, .lst acc) :: L2) H') ⟨[], L1, s0, k.new hD⟩ (fun i H' _ kn => by
    obtain ⟨acc, L2, hS, kn⟩ := kn
    have hs := (sl _ _ _ hS).2
    exact ⟨kn.seqL (List.mem_cons_of_mem _ (hs.subset ha)), kn.seqL (List.mem_cons_of_mem _ (hs.subset hb))⟩) (fun i v H2 H' hi kn y => ?_) (fun H' kn => by
    obtain ⟨acc, L2, hS, kn⟩ := kn
    exact q D acc L2 H' hS kn)⟩
  obtain ⟨acc, L2, hS, kn⟩ := kn
  have hl := (sl _ _ _ hS).1
  obtain ⟨T, x1, x2, rfl, hT, rfl, e1, e2⟩ := y
  have hxl : i < xs.length := (List.getElem?_eq_some_iff.mp e1).1
  have kt := kn.new (o := .tup [x1, x2]) hT
  refine ⟨T, [x1, x2], rfl, kt.seqT List.mem_cons_self, rfl, _, _, rfl, _, _, rfl, rfl, hw _ _, ?_⟩
  exact turn i x1 x2 _ D T acc L2 e1 e2 hS kt _ _ (fun y H4 L3 e kn4 => ⟨acc, kn4.at 0 rfl, szL' (by omega), acc ++ [y], L3, e, kn4.put 0 rfl⟩) (fun H3 L3 e kn3 => ⟨acc, L3, e, kn3⟩)
/-! ### divmod; items from behind -/
def rDm : List V → Hp → VK → Prop := fun xs H Q => ∃ i j, xs = [.int i, .int j] ∧ CDiv i j ∧ ∀ p, H p = none → Q (.ref p) (upd H p (.tup [.int (i / j), .int (i % j)]))
theorem c_divmod {X : Cx} : CallR X (.builtin "divmod") rDm := call_divmod
theorem kDm {d : Addr} {n : Nat} {L : Led} {H : Hp} {Q : VK} {i j : Int} (kn : Kn d n L H) (h0 : 0 < j) (h1 : j < 1000000) (q : ∀ p H', Kn d n ((p, .tup [.int (i / j), .int (i % j)]) :: L) H' → Q (.ref p) H') : rDm [.int i, .int j] H Q :=
  ⟨i, j, rfl, ⟨h0, by omega⟩, fun p hp => q p _ (kn.new hp)⟩
theorem atBack {α : Type} {l : List α} {k : Nat} {v : α} (h0 : 0 < k) (hk : k ≤ l.length) (h : l[l.length - k]? = some v) : atI l (-(k : Int)) = some v := by
  unfold atI ixN
  rw [if_neg (by omega), if_pos (by omega)]
  have e : (-(k : Int) + (l.length : Int)).toNat = l.length - k := by omega
  first
    | (show l[(-(k : Int) + (l.length : Int)).toNat]? = some v; rw [e]; exact h)
    | (show l[((l.length : Int) + -(k : Int)).toNat]? = some v; rw [Int.add_comm, e]; exact h)
/-- a tuple's two items into two names -/
theorem kTwo {K : PySem.W.Frag} {H : Hp} {p : Addr} {x y : V} {i j : Nat} {σ : L2.St} {R : L2.St → Hp → Prop} (h : SqT K H p [x, y]) (q : R ((σ.set i (some x)).set j (some y)) H) : ∃ a xs, V.ref p = .ref a ∧ SqT K H a xs ∧ xs.length = 2 ∧ (gCons (gName i) (gCons (gName j) gNil)) xs σ H R :=
  ⟨p, [x, y], rfl, h, rfl, _, _, rfl, _, _, rfl, rfl, q⟩
end Rg

set_option Elab.async false
set_option linter.all false
set_option maxRecDepth 100000
set_option maxHeartbeats 2000000
namespace Rg
open PySem PySem.Spec PyProof.Rows L2
/-! ### own instances: what the top has left of a class and its methods; fields, methods, making -/
structure Mf (K : PySem.W.Frag) (C : Addr) (m q : Str) (st : Stmt) (ps : List Str) (f : Addr) (fd : FuncData) : Prop where
  F : Fun K m q st f fd
  mt : Meth K C m f
  b : Binds K fd ps []
structure If (K : PySem.W.Frag) (mg : Str → Option Value) (x : Str) (C : Addr) (st : Stmt) (ps : List Str) (f : Addr) (fd : FuncData) : Prop where
  F : Fun K "__init__" (x ++ ".__init__") st f fd
  g : mg x = some (.ref C)
  b : Binds K fd ps []
  mke : Mk K C f
section
variable {X : Cx} {e : Expr} {f : Str} {pos : Pos} {ta : TE}
theorem pe_fldQ {K : PySem.W.Frag} (eK : X.K = K) (he : PE X e ta) (hb : attributeBase e f X.env (eval e X.env) = eval e X.env) : PE X (.Attribute e f pos) (tFld K ta f) := eK ▸ pe_fld he hb
end
section
variable {σ : L2.St} {H : Hp} {Q : VK} {K : PySem.W.Frag} {i : Nat} {a C dx : Addr} {fs : List (Str × V)} {f : Str} {v : V}
/-- a field of an instance in a slot -/
theorem kFld (h : σ[i]? = some (some (.ref a))) (ho : H a = some (.ins C dx fs)) (c : Cls K C) (n : NoAttr K C f) (l : fs.lookup f = some v) (q : Q v H) : tFld K (tVar i) f σ H Q :=
  ⟨.ref a, h, a, C, dx, fs, v, rfl, ho, c, n, l, q⟩
theorem kMeth {m : Str} {sp : Sp} {E : XK} {t : TA} (h : σ[i]? = some (some (.ref a))) (ho : H a = some (.ins C dx fs)) (l : fs.lookup m = none) (q : t σ H fun vs H2 => sp (.ref a :: vs) H2 Q E) : tMeth C m sp [] E (tVar i) t σ H Q := by
  refine ⟨.ref a, h, a, dx, fs, rfl, ho, l, ?_⟩
  simpa only [List.append_nil] using q
theorem kMake {sp : Sp} {E : XK} {t : TA} (q : t σ H fun vs H1 => ∀ x dx, H1 x = none → H1 dx = none → dx ≠ x → sp (.ref x :: vs) (upd (upd H1 dx (.own x)) x (.ins C dx [])) (fun v H2 => v = .non ∧ Q (.ref x) H2) E) : tMake C sp [] E t σ H Q := by
  unfold tMake
  simpa only [List.append_nil] using q
/-- storing a field -/
theorem kSetF {tv : TE} {nx bk ct : L2.St → Hp → Prop} {rt : VK} (h : tv σ H fun y H1 => σ[i]? = some (some (.ref a)) ∧ H1 a = some (.ins C dx fs) ∧ Cls K C ∧ NoAttr K C f ∧ fs.length < 1000 ∧ nx σ (upd H1 a (.ins C dx (putF f y fs)))) (mono : ∀ R R' : VK, (∀ v H1, R v H1 → R' v H1) → tv σ H R → tv σ H R') : sFld K (tVar i) tv f (Ends.mk nx rt bk ct) σ H := by
  refine mono _ _ (fun y H1 h => ?_) h
  obtain ⟨h1, h2, h3, h4, h5, h6⟩ := h
  exact ⟨.ref a, h1, a, C, dx, fs, rfl, h2, h3, h4, h5, h6⟩
end
theorem kFldV {σ : L2.St} {H : Hp} {K : PySem.W.Frag} {ta tv : TE} {f : Str} {D : Ends} (h : tv σ H fun y H1 => ta σ H1 fun x H2 => ∃ a C dx fs, x = .ref a ∧ H2 a = some (.ins C dx fs) ∧ Cls K C ∧ NoAttr K C f ∧ fs.length < 1000 ∧ D.nx σ (upd H2 a (.ins C dx (putF f y fs)))) : sFld K ta tv f D σ H := h
theorem kSetFld {σ : L2.St} {H : Hp} {K : PySem.W.Frag} {ta tv : TE} {f : Str} {nx bk ct : L2.St → Hp → Prop} {rt : VK} (h : tv σ H fun y H1 => ta σ H1 fun x H2 => ∃ a C dx fs, x = .ref a ∧ H2 a = some (.ins C dx fs) ∧ Cls K C ∧ NoAttr K C f ∧ fs.length < 1000 ∧ nx σ (upd H2 a (.ins C dx (putF f y fs)))) : sFld K ta tv f (Ends.mk nx rt bk ct) σ H := h
theorem putF_len (f : Str) (v : V) : ∀ fs : List (Str × V), (putF f v fs).length ≤ fs.length + 1
  | [] => Nat.le_refl _
  | (g, u) :: r => by
    have ih := putF_len f v r
    show (if g = f then (g, v) :: r else (g, u) :: putF f v r).length ≤ _
    split
    · rw [List.length_cons, List.length_cons]; omega
    · rw [List.length_cons, List.length_cons]; omega
theorem putF_lt {f : Str} {v : V} {fs : List (Str × V)} {k : Nat} (h : fs.length < k) : (putF f v fs).length < k + 1 := by
  have := putF_len f v fs
  omega
/-! ### a method that may raise, called where what is raised is wished for at the slots -/
section
variable {X : Cx} {CX : CXT} {k : Nat} {f C : Addr} {fd : FuncData} {ps : List Str} {sp : Sp} {E : L2.St → XK} {m : Str} {pos apos : Pos} {e o : Expr} {es : List Expr} {ta : TE} {t : TA}
def tMethS (C : Addr) (m : Str) (sp : Sp) (E : L2.St → XK) (ta : TE) (t : TA) : TE := fun σ H Q => ta σ H fun x H1 => ∃ a dx fs, x = .ref a ∧ H1 a = some (.ins C dx fs) ∧ fs.lookup m = none ∧
  t σ H1 fun vs H2 => sp (x :: vs) H2 Q (E σ)
theorem pe_methS {pl : Sem Bool} (he : PE X o ta) (c : Cls X.K C) (hm : Meth X.K C m f) (F : FnOk X.prog X.w X.K X.mg X.base CX k f fd ps sp) (hr : Room k X.A) (hb : Binds X.K fd ps []) (hx : ∀ σ, PassesAt CX X σ (E σ)) (ha : PA X (e :: es) t)
    (hst : starEach (e :: es) X.env = (false, eval e X.env) :: starEach es X.env := by rfl) (hpl : (backTo pos (starEach es X.env)).any (·.1) = false := by rfl)
    (ht : eval (.Call (.Attribute o m apos) (e :: es) [] pos) X.env = (do
      let ov ← eval o X.env
      standAt apos.atName
      let (f, first) ← holding [ov] (getMethod ov m pl)
      callWith pos f first (backTo pos (starEach (e :: es) X.env)) (backToKw pos (keywordEach [] X.env))) := by rfl) :
    PE X (.Call (.Attribute o m apos) (e :: es) [] pos) (tMethS C m sp E ta t) := by
  refine ⟨fun pins s σ H Q I h => ?_⟩
  refine PySem.W.methodCall_KW (pl := pl) (thn (he.run pins s σ H _ I h) fun u s1 ⟨x, H1, I1, rx, a, dx, fs, ex, ea, l, q⟩ => ?_) ht
  subst ex
  obtain rfl : u = Value.ref a := rx
  refine getmeth_ok I1 ea c hm l ?_
  refine PySem.W.callWith_K (first := [.ref a]) (h₀ := X.base) I1.ok.mod.kin hm.kp (thn (ha.run pos pins s1 σ H1 _ I1 q) fun us s2 ⟨vs, H2, I2, r, q2⟩ => ⟨I2.kIn, ?_⟩) hst hpl
  exact run_fnS (us := .ref a :: us) (vs := .ref a :: vs) F hr hb (hx σ) I2 (.cons rfl r) q2
theorem kMethS {σ : L2.St} {H : Hp} {Q : VK} {i : Nat} {a dx : Addr} {fs : List (Str × V)} (h : σ[i]? = some (some (.ref a))) (ho : H a = some (.ins C dx fs)) (l : fs.lookup m = none) (q : t σ H fun vs H2 => sp (.ref a :: vs) H2 Q (E σ)) : tMethS C m sp E (tVar i) t σ H Q :=
  ⟨.ref a, h, a, dx, fs, rfl, ho, l, q⟩
end
theorem unit1 {n m : Nat} (h : n + 64 < m) : n + 1 < m := by omega
theorem Kn.made {d : Addr} {n : Nat} {L : Led} {H : Hp} {x dx C : Addr} (k : Kn d n L H) (hx : H x = none) (hd : H dx = none) (ne : dx ≠ x) : Kn d n ((x, .ins C dx []) :: (dx, .own x) :: L) (upd (upd H dx (.own x)) x (.ins C dx [])) :=
  (k.new hd).new (by rw [upd_ne ne.symm]; exact hx)
end Rg

set_option Elab.async false
set_option linter.all false
set_option maxRecDepth 100000
set_option maxHeartbeats 2000000
namespace Rg
open PySem PySem.Spec PyProof.Rows L2
/-! ### sorted(range(len(xs)), key=lambda i: (xs[i], i)) -/
/-- the lambda's words: two names, one of the maker's cells and its own -/
structure LamK (qual : Str) (params : Arguments) (body : Expr) (scope : Scope) (a h : Str) : Prop where
  kind : scope.kind = .function
  co : scope.isCoroutine = false
  gen : scope.isGenerator = false
  nocell : ∀ x ∈ scope.names, x.2 ≠ .cell
  loc : scope.names.lookup h = some .local
  free : scope.names.lookup a = some .free
  bind : ∀ (cl : List (Str × Addr)) (pm cv ctv v : Value), bindArgs (PySem.W.kla_fn "<lambda>" qual params body scope cl pm cv ctv) ⟨[v], []⟩ = pure [(h, v)]
  words : ∃ (p1 p2 p3 p4 p5 : Pos) (k : Nat), body = .Tuple [.Subscript (.Name a p1) (.Name h p2) p3, .Name h p4] k p5
  da : (a == ("__debug__" : Str)) = false
  ca : (a == ("__classdict__" : Str)) = false
  dh : (h == ("__debug__" : Str)) = false
section
variable {prog : Program} {w : World} {A : Around} {s : Shared}
theorem key_eval {env : Env} {a h : Str} {cc t : Addr} {its : Array Value} {i : Nat} {tk tx : Tok} {x : Int} {m : Str → Option Value} {E : Value → Shared → Prop} {p1 p2 p3 p4 p5 : Pos} {kk : Nat} {Q : Value → Shared → Prop}
    (kind : env.scope.kind = .function) (loc : env.kindOf h = some .local) (free : env.kindOf a = some .free) (da : (a == ("__debug__" : Str)) = false) (ca : (a == ("__classdict__" : Str)) = false) (dh : (h == ("__debug__" : Str)) = false)
    (hns : s.heap.Ns env.locals m) (hm : m h = some (.int (i : Int) tk)) (hc : env.cells.lookup a = some cc) (hcell : s.heap.IsCell cc (some (.ref t))) (ht : IsTup s.heap t its) (hi : its[i]? = some (.int x tx)) (hz : its.size ≤ sizeLine)
    (q : Q (.ref s.heap.objs.size) { s with heap := s.heap.push { cls := .type "tuple", data := .seq #[.int x tx, .int (i : Int) tk] } }) :
    wpAny (model prog w) A (eval (.Tuple [.Subscript (.Name a p1) (.Name h p2) p3, .Name h p4] kk p5) env) Q E s := by
  have hlt : i < its.size := (Array.getElem?_eq_some_iff.mp hi).1
  have hl63 : (its.size : Int) < 2 ^ 63 := by
    have : sizeLine < 2 ^ 63 := by unfold sizeLine; decide
    omega
  have nh : ∀ (Q : Value → Shared → Prop) (p : Pos) (E : Value → Shared → Prop), Q (.int (i : Int) tk) s → wpAny (model prog w) A (eval (.Name h p) env) Q E s := fun Q p E q =>
    wpAny_Name (wpAny_loadName_local kind loc hns hm q) dh
  refine wpAny_Tuple_spliced (wpAny_items_cons ?_ rfl)
  refine wpAny_Subscript_Name slot_tuple_getitem.lookup ?_ (fun _ _ => rfl)
  refine wpAny_Name (wpAny_loadName_free (v := .ref t) kind free hc hcell ?_ ca) da
  refine nh _ _ _ ⟨ht.typeIs, getItem_tuple (j := i) ht (by omega) (by omega) ?_ hi ?_⟩
  · unfold seqIndex?
    have h0 : ¬ ((i : Int) < 0) := by omega
    simp [h0, hlt]
  · refine wpAny_items_cons (nh _ _ _ (wpAny_pure ⟨?_, q⟩)) rfl
    show 2 ≤ sizeLine
    unfold sizeLine
    decide
theorem key_turn {qual : Str} {params : Arguments} {body : Expr} {scope : Scope} {a h : Str} (L : LamK qual params body scope a h) {f c' cc t : Addr} {clos : List (Str × Addr)} {pm ctv : Value} {its : Array Value} {i : Nat} {tk tx : Tok} {x : Int}
    (hroom : A.depth < recursionLimit) (hf : s.heap.get? f = some (PySem.W.kla_obj "<lambda>" qual params body scope clos pm c' ctv)) (hcd : s.heap.CodeRec (.ref c') qual) (lim : s.heap.NoLimit)
    (hc : clos.lookup a = some cc) (hcell : s.heap.IsCell cc (some (.ref t))) (ht : IsTup s.heap t its) (hi : its[i]? = some (.int x tx)) (hz : its.size ≤ sizeLine) :
    wpAny (model prog w) A (call (.ref f) [.int (i : Int) tk]) (PySem.W.KeyPure (.tuple [.int x, .int (i : Int)]) s) (fun _ _ => False) s := by
  obtain ⟨p1, p2, p3, p4, p5, kk, rfl⟩ := L.words
  refine wpAny_call (codeAny_mono (R := fun r s' => ∃ v, r = .ok (.ret v) ∧ PySem.W.KeyPure (.tuple [.int x, .int (i : Int)]) s v s') ?_ fun r s' hq => ?_)
  · refine PySem.W.kla_callFunE hroom hf rfl L.co L.gen rfl hcd ?_
    rw [L.bind]
    refine wpAny_pure (wpAny_newFunctionEnv L.nocell (fun y hy => ?_) (fun h₁ hns hsb => ⟨lim.fresh _ hsb, ?_⟩) L.kind)
    · cases List.mem_singleton.mp hy
      exact L.loc
    · have kp : ∀ b o, s.heap.get? b = some o → h₁.get? b = some o := fun b o e => hsb.extBut b o (Nat.ne_of_lt (Heap.lt_size e)) (Heap.get?_push_of_some _ e)
      have hcell1 : h₁.IsCell cc (some (.ref t)) := by
        obtain ⟨o, e, d⟩ := hcell
        exact ⟨o, kp _ _ e, d⟩
      have ht1 : IsTup h₁ t its := by
        obtain ⟨o, e, r⟩ := ht
        exact ⟨o, kp _ _ e, r⟩
      refine PySem.W.kla_codeExpr (key_eval (i := i) (tk := tk) L.kind L.loc L.free L.da L.ca L.dh hns (by simp) hc hcell1 ht1 hi hz ?_)
      refine ⟨_, rfl, h₁.push _, _, rfl, fun b o e => Heap.get?_push_of_some _ (kp b o e), ?_⟩
      have r1 : ReadsAll (h₁.push { cls := .type "tuple", data := .seq #[.int x tx, .int (i : Int) tk] }) [.int x tx, .int (i : Int) tk] [.int x, .int (i : Int)] ([] ++ ([] ++ [])) := .cons (.int _ _) (.cons (.int _ _) .nil)
      exact .tuple (Heap.get?_push_size _ rfl) rfl rfl r1
  · obtain ⟨v, rfl, hk⟩ := hq
    exact hk
theorem each_range {its : List Value} {n : Nat} (hl : its.length = n) (h : ∀ (i : Nat) v, its[i]? = some v → ∃ t, v = Value.int (i : Int) t) : PySem.W.EachIs (fun v (i : Nat) => ∃ t, v = Value.int (i : Int) t) its (List.range n) := by
  have gen : ∀ (l : List Value) (ks : List Nat), l.length = ks.length → (∀ (i : Nat) v (k : Nat), l[i]? = some v → ks[i]? = some k → ∃ t, v = Value.int (k : Int) t) → PySem.W.EachIs (fun v (i : Nat) => ∃ t, v = Value.int (i : Int) t) l ks := by
    intro l
    induction l with
    | nil =>
      intro ks e _
      cases ks with
      | nil => exact .nil
      | cons k ks => cases e
    | cons v l ih =>
      intro ks e h
      cases ks with
      | nil => cases e
      | cons k ks => exact .cons (h 0 v k rfl rfl) (ih ks (by simpa using e) fun i v k a b => h (i + 1) v k (by simpa using a) (by simpa using b))
  refine gen its (List.range n) (by rw [List.length_range, hl]) fun i v k a b => ?_
  have hk : k = i := by
    have := List.getElem?_eq_some_iff.mp b
    obtain ⟨h1, h2⟩ := this
    rw [List.getElem_range] at h2
    exact h2.symm
  rw [hk]
  exact h i v a
def keyLe (lab : Nat → Int) : Nat → Nat → Bool := fun p q => decide (lab p < lab q ∨ (lab p = lab q ∧ (p : Int) ≤ (q : Int)))
theorem sorted_key_range {r f : Addr} {n : Nat} {lab : Nat → Int} {t u v : Tok} {Q E : Value → Shared → Prop} (hh : A.handled = none) (hr : IsRange s.heap r 0 (n : Int) 1 t u v) (hn : n ≤ 100000) (hu : A.units + 20 < cLine)
    (turn : ∀ (i : Nat) (t : Tok), i < n → ∀ (h : Heap) (tk : Nat), (∀ b o, s.heap.get? b = some o → h.get? b = some o) →
      wpAny (model prog w) A.in1.in1 (call (.ref f) [.int (i : Int) t]) (PySem.W.KeyPure (.tuple [.int (lab i), .int (i : Int)]) { s with heap := h, toks := tk }) (fun _ _ => False) { s with heap := h, toks := tk })
    (q : ∀ (h₁ : Heap) (D : Addr) (out : List Value) c h' tk, (∀ b o, s.heap.get? b = some o → h₁.get? b = some o) → (∀ b o, h₁.get? b = some o → h'.get? b = some o) → h₁.objs.size ≤ D → h'.get? D = some (seqObj "list" out.toArray c) → out.length = n →
      PySem.W.EachIs (fun v (i : Nat) => ∃ t, v = Value.int (i : Int) t) out ((List.range n).mergeSort (keyLe lab)) → Q (.ref D) { s with heap := h', toks := tk }) :
    wpAny (model prog w) A (call (.builtin "sorted") [.ref r] [(Str.ofString "key", .ref f)]) Q E s := by
  refine call_function_entry_kw kind_sorted plain_sorted entry_sorted (ksk_s1 _ _) ?_
  unfold Builtin.«sorted»
  refine wpAny_bind (m := checkCount "sorted" 1 1 _) (wpAny_pure ?_)
  have hsm : Builtin.Range.small 0 (n : Int) 1 = true := small_one (by omega) (by omega) (by omega) (by omega)
  have hsz : Builtin.Range.rangeSize 0 (n : Int) 1 = n := by rw [rangeSize_one]; split <;> omega
  refine wpAny_bind (collect_range (s := s) (n := n) (by exact hh) hr hsm hsz (by omega) fun h' tk acc hk hacc => ?_)
  have hln : acc.toList.length = n := by rw [Array.length_toList]; exact hacc.1
  have hL : acc.toList.length ≤ sizeLine := by rw [hln]; unfold sizeLine; omega
  refine wpAny_bind (wpAny_newList ?_ hL)
  have ho : (h'.push (seqObj "list" acc.toList.toArray 0)).get? h'.objs.size = some (seqObj "list" acc.toList.toArray 0) := Heap.get?_push_size _ rfl
  have kp : ∀ b o, s.heap.get? b = some o → (h'.push (seqObj "list" acc.toList.toArray 0)).get? b = some o := fun b o e => Heap.get?_push_of_some _ (hk b o e)
  have nD : ∀ b o, s.heap.get? b = some o → b ≠ h'.objs.size := fun b o e => Nat.ne_of_lt (Heap.lt_size (hk b o e))
  have each : PySem.W.EachIs (fun v (i : Nat) => ∃ t, v = Value.int (i : Int) t) acc.toList (List.range n) := each_range hln fun i v e => by
    obtain ⟨t, e'⟩ := hacc.2 i v (by simpa using e)
    exact ⟨t, by simpa using e'⟩
  refine wpAny_bind (wpAny_holding ?_)
  show wpAny (model prog w) A.in1 (call (.builtin "list.sort") [.ref h'.objs.size] [(Str.ofString "key", .ref f)]) _ _ { s with heap := h'.push (seqObj "list" acc.toList.toArray 0), toks := tk }
  refine PySem.W.list_sort_key_data (s := { s with heap := h'.push (seqObj "list" acc.toList.toArray 0), toks := tk }) (k := fun i : Nat => .tuple [.int (lab i), .int (i : Int)]) ho each ?_ ?_ (by rw [List.length_range]; unfold sizeLine; omega) ?_ (ksk_l1 _ _) (ksk_t1 _ _) ?_ ?_
  · exact .of fun i j => by simp [PySem.W.alike, PySem.W.alikeAll]
  · exact .tuples fun i => ⟨_, _, rfl⟩
  · intro i _
    simp only [PyData.depth, PyData.depthAll]
    show A.units + 1 + 1 + _ < cLine
    omega
  · rintro v i ⟨tv, rfl⟩ hi h2 tk2 kb
    exact turn i tv (List.mem_range.mp hi) h2 tk2 fun b o e => kb b o (nD b o e) (kp b o e)
  · intro out c h2 tk2 kb hD hlo ho2
    refine wpAny_pure ?_
    rw [List.length_range] at hlo
    rw [PySem.W.dataLe_ii] at ho2
    exact ⟨_, rfl, q h' _ out c h2 tk2 hk (fun b o e => kb b o (Nat.ne_of_lt (Heap.lt_size e)) (Heap.get?_push_of_some _ e)) (Nat.le_refl _) hD hlo ho2⟩
end
/-- the houses hue by hue -/
def byHue (labs : List Int) : List Nat := (List.range labs.length).mergeSort (keyLe fun i => labs.getD i 0)
theorem sqt_extN {K : PySem.W.Frag} {H H' : Hp} {a : Addr} {xs : List V} (q : SqT K H a xs) (e : LamX.ExtN H H') : SqT K H' a xs := by
  rcases q with q | q
  · refine .inl ?_
    rcases q with q | ⟨o, q⟩
    · exact .inl (e _ _ q fun ps z => by cases z)
    · exact .inr ⟨o, e _ _ q fun ps z => by cases z⟩
  · exact .inr q
def tSortK (K : PySem.W.Frag) (T : List (Addr × Str)) (j : Nat) (ta : TE) : TE := fun σ H Q => ta σ H fun x H1 => ∃ (tl : Addr) (labs : List Int), x = .int labs.length ∧ labs.length ≤ 100000 ∧ σ[j]? = some (some (.ref tl)) ∧ SqT K H1 tl (labs.map V.int) ∧ LamX.Tabs T H1 ∧
  ∀ H2 D, LamX.ExtN H1 H2 → LamX.Tabs T H2 → H2 D = none → Q (.ref D) (upd H2 D (.lst ((byHue labs).map fun (i : Nat) => V.int (i : Int))))
theorem each_vals : ∀ {out : List Value} {ks : List Nat}, PySem.W.EachIs (fun v (i : Nat) => ∃ t, v = Value.int (i : Int) t) out ks → Vals (ks.map fun (i : Nat) => V.int (i : Int)) out
  | _, _, .nil => .nil
  | _, _, .cons ⟨t, e⟩ r => .cons ⟨t, e⟩ (each_vals r)
/-- sorted(range(e), key=lambda h: (a[h], h)) -/
theorem pe_sortK {X : Cx} {p p2 p3 pos kp lpos : Pos} {ea : Expr} {ta : TE} {params : Arguments} {body : Expr} {scope : Scope} {T : List (Addr × Str)} {c P : Addr} {a h : Str} {j k : Nat}
    (hc : X.calm = true) (hr : Room (k + 2) X.A) (hg : Gl X "sorted") (hm : X.mg "sorted" = none) (hg2 : Gl X "range") (hm2 : X.mg "range" = none) (ha : PE X ea ta) (L : LamK (X.env.qual ++ "<lambda>") params body scope a h)
    (TB : LamX.TabB X.base X.mg c P) (hcode : X.env.code = .ref c) (hmT : (P, X.env.qual ++ "<lambda>") ∈ T) (hu : ∀ p ∈ T, p.1 = P → p.2 = X.env.qual ++ "<lambda>") (hdef : defaultsOf params X.env = ([], []))
    (hfree : ∀ y ∈ scope.names, y.2 = .free → X.env.scope.names.lookup y.1 = some .cell) (hN : X.N[j]? = some a) (na : starEach [ea] X.env = (false, eval ea X.env) :: starEach [] X.env := by rfl) :
    PE X (.Call (.Name "sorted" p) [.Call (.Name "range" p2) [ea] [] p3] [⟨some "key", .Lambda params body scope lpos, kp⟩] pos) (tSortK X.K T j ta) := by
  refine ⟨fun pins s σ H Q I h => ?_⟩
  refine wpAny_Call_Name_kw (ld_blt I hg hm boot_sorted ?_)
  refine PyProof.Rows.callWith_kw ?_
  show wpAny _ _ (spliced ((false, eval (.Call (.Name "range" p2) [ea] [] p3) X.env) :: backTo pos (starEach [] X.env))) _ _ s
  refine Calls.spliced_cons (Call_ (ld_blt I hg2 hm2 boot_range (PyProof.Rows.callWith_type1 (one_arg ha I h (fun v s2 x H2 I2 r q => ?_) na) na)))
  obtain ⟨tl, labs, rfl, hl, hs, hS, hT, q⟩ := q
  obtain ⟨tk, rfl⟩ := r
  refine call_range_1 (Calls.spliced_nil ?_)
  have I3 : Inv X pins σ H2 { s2 with heap := s2.heap.push { cls := .type "range", data := .fields #[.int 0 s2.toks, .int (labs.length : Int) tk, .int 1 (s2.toks + 1)] }, toks := s2.toks + 1 + 1 } :=
    I2.kept fun b u e => Heap.get?_push_of_some _ e
  have I4 : Inv X ((s2.heap.objs.size, { cls := .type "range", data := .fields #[.int 0 s2.toks, .int (labs.length : Int) tk, .int 1 (s2.toks + 1)] }) :: pins) σ H2 { s2 with heap := s2.heap.push { cls := .type "range", data := .fields #[.int 0 s2.toks, .int (labs.length : Int) tk, .int 1 (s2.toks + 1)] }, toks := s2.toks + 1 + 1 } := by
    refine I3.pins_of fun pr hp => ?_
    rcases List.mem_cons.mp hp with rfl | hp
    · exact ⟨Heap.get?_push_size _ rfl, I2.hok.fresh (Nat.le_refl _), Nat.ne_of_gt I2.lt, I2.nofs (Nat.le_refl _), fun v z => by cases z⟩
    · exact I3.pin pr (List.mem_append_right _ hp)
  refine PyProof.Rows.kws_cons (LamX.lam_make2 I4 TB hcode hmT hu hT hdef (fun y hy e => I4.ok.has _ (.inl (hfree y hy e))) fun f c' pm ctv H5 s5 I5 eN T5 hf hfn hfr hco => PyProof.Rows.kws_nil ?_)
  show wpAny (model X.prog X.w) X.A (call (.builtin "sorted") [.ref s2.heap.objs.size] [(Str.ofString "key", .ref f)]) (EP X pins σ Q) X.xe s5
  have hrg : IsRange s5.heap s2.heap.objs.size 0 (labs.length : Int) 1 s2.toks tk (s2.toks + 1) := (I5.pin _ (List.mem_append_right _ (List.mem_cons_self))).1
  obtain ⟨its, rv, ht, hz⟩ := I5.tuple (sqt_extN hS eN)
  have hfl : (a, NameKind.free) ∈ scope.names := PySem.mem_of_lookup L.free
  have hck : X.env.scope.names.lookup a = some .cell := hfree _ hfl rfl
  obtain ⟨cc, hcc⟩ := I5.ok.has a (.inl hck)
  obtain ⟨m, hn, hlk⟩ := I5.loc
  obtain ⟨u, hu1, hlook⟩ := hlk j a _ hN hs (.inr (.inl hck))
  cases hu1
  have hcell : s5.heap.IsCell cc (some (.ref tl)) := by
    rcases hlook with ⟨k', _⟩ | ⟨_, c3, e', z⟩
    · have k' : X.env.scope.names.lookup a = some .local := k'
      rw [hck] at k'
      cases k'
    · rw [hcc] at e'
      cases e'
      exact z
  have hclo : (cloFrom X.env.cells scope.names []).lookup a = some cc := NdefX.clo_has (fun y hy e => I5.ok.has _ (.inl (hfree y hy e))) hfl hcc
  have hdp := hr.dp
  have hun := hr.un
  refine sorted_key_range (n := labs.length) (lab := fun i => labs.getD i 0) (I5.ok.hd hc) hrg hl (by omega) (fun i t hi hp tk2 kp => ?_) fun h₁ D out c2 h2 tk2 k1 k2 hge hD hlo hout => ?_
  · obtain ⟨u, hu2, ru⟩ := rv.get (i := i) (x := V.int (labs.getD i 0)) (by rw [List.getElem?_map, List.getElem?_eq_getElem hi]; simp [List.getD, hi])
    obtain ⟨tx, rfl⟩ := ru
    have hcd : hp.CodeRec (.ref c') (X.env.qual ++ "<lambda>") := by
      obtain ⟨⟨oc, vs, t, h1, h2, h3⟩, _, _⟩ := I5.hok c' _ hco
      exact ⟨c', oc, vs, t, rfl, kp _ _ h1, h2, h3⟩
    refine key_turn (t := tl) L ?_ (kp _ _ hf) hcd (I5.nolimit.keeps kp) hclo ?_ (its := its.toArray) ?_ (by simpa using hu2) ?_
    · show X.A.depth < recursionLimit
      omega
    · obtain ⟨o, e, d⟩ := hcell
      exact ⟨o, kp _ _ e, d⟩
    · obtain ⟨o, e, r⟩ := ht
      exact ⟨o, kp _ _ e, r⟩
    · rw [List.size_toArray, ← rv.length]
      exact hz
  · have I6 : Inv X pins σ H5 { s5 with heap := h₁, toks := tk2 } := (I5.kept k1).pins_of fun pr hp => (I5.kept (t' := tk2) k1).pin pr (List.mem_append_right _ (List.mem_cons_of_mem _ hp))
    have hlen : ((byHue labs).map fun (i : Nat) => V.int (i : Int)).length ≤ sizeLine := by
      rw [List.length_map, byHue, List.length_mergeSort, List.length_range]
      unfold sizeLine
      omega
    exact ⟨.ref D, upd H5 D (.lst ((byHue labs).map fun (i : Nat) => V.int (i : Int))), I6.laid k2 hge ⟨hlen, out, c2, each_vals hout, hD⟩, rfl, q _ _ eN T5 (I6.hok.fresh hge)⟩
/-! ### a code object's table at the ledger's end: only the def that makes the lambda changes it -/
structure Tb (ps : Array Value) (cs : List Addr) : Prop where
  tri : TriplesOk ps.toList
  all : ∀ (pos : Pos) (cv : Value), codeAmong pos ps.toList = some cv → ∃ c ∈ cs, cv = .ref c
def tbL (P : Addr) (q : Str) (ps : Array Value) (cs : List Addr) : Led := (P, .tbl ps) :: cs.map fun c => (c, LamX.CodeO c q)
def NoT (L : Led) : Prop := ∀ e ∈ L, (∀ ps, e.2 ≠ .tbl ps) ∧ ∀ q, e.2 ≠ LamX.CodeO e.1 q
theorem NoT.nil : NoT [] := fun _ h => (List.not_mem_nil h).elim
theorem NoT.lst {a : Addr} {xs : List V} {L : Led} (h : NoT L) : NoT ((a, .lst xs) :: L) := fun e m => by
  rcases List.mem_cons.mp m with rfl | m
  · exact ⟨fun ps z => (by cases z), fun q z => (by unfold LamX.CodeO at z; cases z)⟩
  · exact h e m
theorem NoT.tup {a : Addr} {xs : List V} {L : Led} (h : NoT L) : NoT ((a, .tup xs) :: L) := fun e m => by
  rcases List.mem_cons.mp m with rfl | m
  · exact ⟨fun ps z => (by cases z), fun q z => (by unfold LamX.CodeO at z; cases z)⟩
  · exact h e m
theorem Tb.nil : Tb #[] [] := ⟨True.intro, fun pos cv h => by
  have z : codeAmong pos [] = some cv := h
  simp [codeAmong] at z⟩
theorem dedup : ∀ l : List Addr, ∃ l' : List Addr, l'.Nodup ∧ ∀ x, x ∈ l' ↔ x ∈ l
  | [] => ⟨[], List.nodup_nil, fun _ => Iff.rfl⟩
  | a :: l => by
    obtain ⟨l', n, h⟩ := dedup l
    by_cases ha : a ∈ l
    · refine ⟨l', n, fun x => ?_⟩
      rw [h, List.mem_cons]
      constructor
      · exact .inr
      · rintro (rfl | z)
        · exact ha
        · exact z
    · refine ⟨a :: l', List.nodup_cons.mpr ⟨fun z => ha ((h a).mp z), n⟩, fun x => ?_⟩
      rw [List.mem_cons, List.mem_cons, h]
def refOf : Value → List Addr
  | .ref c => [c]
  | _ => []
theorem among_mem {pos : Pos} {cv : Value} (l : List Value) (h : codeAmong pos l = some cv) : cv ∈ l := by
  fun_induction codeAmong pos l with
  | case1 a t b u v rest hc =>
    cases h
    simp
  | case2 a t b u v rest hc ih => exact List.mem_cons_of_mem _ (List.mem_cons_of_mem _ (List.mem_cons_of_mem _ (ih h)))
  | case3 l hl => cases h
theorem lg_tab {M : Led} {H H2 : Hp} {P : Addr} {q : Str} {ps : Array Value} {cs : List Addr} (l : Lg (M ++ tbL P q ps cs) H) (no : NoT M) (e : LamX.ExtN H H2) (t : LamX.Tabs [(P, q)] H2) :
    ∃ ps' cs', Tb ps' cs' ∧ Lg (M ++ tbL P q ps' cs') H2 := by
  obtain ⟨ps', hP, tri, hall⟩ := t (P, q) List.mem_cons_self
  obtain ⟨cs', nd, hm⟩ := dedup ((ps'.toList.flatMap refOf).filter fun c => @decide (H2 c = some (LamX.CodeO c q)) (Classical.propDecidable _))
  have hcs : ∀ c ∈ cs', H2 c = some (LamX.CodeO c q) := fun c hc => by
    have := (List.mem_filter.mp ((hm c).mp hc)).2
    exact @of_decide_eq_true _ (Classical.propDecidable _) this
  have hP1 : H P = some (.tbl ps) := l.led (P, .tbl ps) (List.mem_append_right _ List.mem_cons_self)
  have keep : ∀ x ∈ M, H2 x.1 = some x.2 := fun x hx => e _ _ (l.led x (List.mem_append_left _ hx)) fun ps' => (no x hx).1 ps'
  refine ⟨ps', cs', ⟨tri, fun pos cv h => ?_⟩, fun x hx => ?_, ?_⟩
  · obtain ⟨c, rfl, hc⟩ := hall pos cv h
    refine ⟨c, (hm c).mpr (List.mem_filter.mpr ⟨List.mem_flatMap.mpr ⟨.ref c, among_mem _ h, List.mem_singleton.mpr rfl⟩, ?_⟩), rfl⟩
    exact @decide_eq_true _ (Classical.propDecidable _) hc
  · rcases List.mem_append.mp hx with hx | hx
    · exact keep x hx
    · rcases List.mem_cons.mp hx with rfl | hx
      · exact hP
      · obtain ⟨c, hc, rfl⟩ := List.mem_map.mp hx
        exact hcs c hc
  · have hd := l.nd
    rw [List.map_append, List.nodup_append] at hd ⊢
    refine ⟨hd.1, ?_, fun a ha b hb => ?_⟩
    · show (P :: (cs'.map fun c => (c, LamX.CodeO c q)).map (·.1)).Nodup
      rw [List.map_map]
      have em : (cs'.map ((·.1) ∘ fun c => (c, LamX.CodeO c q))) = cs' := by
        have : ((fun x : Addr × HO => x.1) ∘ fun c => (c, LamX.CodeO c q)) = id := rfl
        rw [this, List.map_id]
      rw [em, List.nodup_cons]
      refine ⟨fun z => ?_, nd⟩
      have := hcs P z
      rw [hP] at this
      cases this
    · obtain ⟨x, hx, rfl⟩ := List.mem_map.mp ha
      obtain ⟨y, hy, rfl⟩ := List.mem_map.mp hb
      intro z
      have h1 := keep x hx
      rcases List.mem_cons.mp hy with rfl | hy
      · have z' : x.1 = P := z
        rw [z', hP] at h1
        exact (no x hx).1 _ (Option.some.inj h1).symm
      · obtain ⟨c, hc, rfl⟩ := List.mem_map.mp hy
        have z' : x.1 = c := z
        rw [z', hcs c hc] at h1
        exact (no x hx).2 q (by rw [z']; exact (Option.some.inj h1).symm)
theorem kn_tab {d : Addr} {n : Nat} {L : Led} {H H2 : Hp} {P : Addr} {q : Str} {ps : Array Value} {cs : List Addr} (k : Kn d n (L ++ tbL P q ps cs) H) (no : NoT L) (e : LamX.ExtN H H2) (t : LamX.Tabs [(P, q)] H2) :
    ∃ ps' cs', Tb ps' cs' ∧ Kn d n (L ++ tbL P q ps' cs') H2 := by
  obtain ⟨s, a, c, r, ns, l, h1, h2⟩ := k
  obtain ⟨ps', cs', tb, l'⟩ := lg_tab (M := (d, .lst [.ref s, .int a, .int c, .int r]) :: (s, .lst (ns.map V.int)) :: L) l no.lst.lst e t
  exact ⟨ps', cs', tb, s, a, c, r, ns, l', h1, h2⟩
theorem tabs_kn {d : Addr} {n : Nat} {L : Led} {H : Hp} {P : Addr} {q : Str} {ps : Array Value} {cs : List Addr} (k : Kn d n (L ++ tbL P q ps cs) H) (tb : Tb ps cs) : LamX.Tabs [(P, q)] H := fun p hp => by
  cases List.mem_singleton.mp hp
  refine ⟨ps, k.mem (List.mem_append_right _ List.mem_cons_self), tb.tri, fun pos cv h => ?_⟩
  obtain ⟨c, hc, rfl⟩ := tb.all pos cv h
  exact ⟨c, rfl, k.mem (List.mem_append_right _ (List.mem_cons_of_mem _ (List.mem_map.mpr ⟨c, hc, rfl⟩)))⟩
/-- a def by its body, its code object known -/
theorem okc {P : Program} {w : World} {K : PySem.W.Frag} {mg : Str → Option Value} {base : Heap} {x qual : Str} {st : Stmt} {f c : Addr} {fd : FuncData} {N ps : List Str} {k : Nat} {sp : Sp} (F : Fun K x qual st f fd) (hc : fd.code = .ref c) (S : FnScope N ps (defScope st)) (len : ∀ vs H Q E, sp vs H Q E → vs.length = ps.length)
    (hbody : ∀ (A : Around) (outer : List Env) (s : Shared) (H : Hp) (vs : List V) (Q : VK) (E : XK), Room k (A.deeper (envOfC qual (defScope st) s.heap.objs.size f (.ref c))) → sp vs H Q E →
      ∃ t, PSs (cxOf CX0 P w K mg base N qual (defScope st) f (.ref c) A outer s H E).nox (defBody st) t ∧ t { nx := fun _ H' => Q .non H', rt := Q } (start N vs) H) : FnOk P w K mg base CX0 (k + 1) f fd ps sp := by
  obtain ⟨oc, od, kV, doc, pm, an, cdv, ct, osl, rfl, lk, hcd⟩ := F.ex
  have hc' : cdv = .ref c := hc
  subst hc'
  refine fn_of lk hcd S len fun A outer s H vs Q E hr hsp => ?_
  obtain ⟨t, h, q⟩ := hbody A outer s H vs Q E hr hsp
  exact ⟨t, h.nox, q⟩
/-- the end of a law whose program makes a lambda in the def y -/
theorem walk_ofTab {l : PySem.W.OpenLaw} {n k : Nat} {q : Program} {loose : List Str} {XP : (Str → Option Value) → Heap → Prop} {YP : World → Heap → Prop} {d : DefRec} {K : Params → PySem.W.Frag} {CX : World → CXT} {x y : Str} {dy : DefRec}
    (hn : l.most = some n) (hn2 : n ≤ sizeLine) (hdf : d.params.defaults = []) (hr : Room k callerA) (hY : ∀ (w : World) (h : Heap), YP w h → (K w.params).In h) (hy : (recsOf q).find? (fun e => e.name == y) = some dy)
    (F : ∀ (w : World) (mg : Str → Option Value) (fa : Addr) (h : Heap), (K w.params).In h → h.Ns mainGlobals mg → mg d.name = some (.ref fa) →
      ∃ (fd : FuncData) (c P : Addr) (sp : Sp), PySem.W.tabIn (K w.params) y = some (c, P) ∧ (K w.params).lookup P = none ∧ (∀ (s : Shared) (u : Value), BindsTo s fd ⟨[u], []⟩ [(x, u)]) ∧
        (∀ (H : Hp) (a : Addr) (ns : List Int), ns.length ≤ n → H P = some (.tbl #[]) → SqL (K w.params) H a (ns.map V.int) → sp [.ref a] H (fun v _ => v = .bl true) fun _ _ _ => False) ∧
        ∀ base : Heap, (K w.params).In base → base.Ns mainGlobals mg → LamX.TabB base mg c P → FnOk l.prog w (K w.params) mg base (CX w) k fa fd [x] sp)
    (hCX : ∀ (w : World) (H : Hp) (s : Shared) (e : Value) (s' : Shared), CX w [] H s (fun _ _ _ => False) e s' → False) :
    PySem.W.WalkO q loose XP YP l.row.toRowW d [] (fun f vs => PySem.call f vs) := by
  refine Att.attach_callB hn hdf fun w s₀ s₁ mg mb fa o pm cd doc a vs ns G Y ho hd hcd hmg hobj hints hlen hbits hg => ?_
  have KX := hY w _ Y
  obtain ⟨fd, c, P, sp, ht, nP, hb, hsp, hF⟩ := F w mg fa _ KX G.T.g hmg
  obtain ⟨C, hP⟩ := PySem.W.tab_of G.T KX hy ht
  refine LamX.law_callTs (cs := [(c, P)]) KX G.T.g G.T.b G.T.builtins G.T.nolimit hg (fun p hp => ?_) (fun p hp => ?_) (fun p hp => ?_) G.T.bmain hobj hints (Nat.le_trans hlen hn2) hr (fun base h1 h2 h3 => hF base h1 h2 (h3 (c, P) List.mem_cons_self)) hb (fun H hH hS => hsp H a ns hlen (hH (c, P) List.mem_cons_self) hS) fun H e s' => hCX w H s₁ e s'
  · cases List.mem_singleton.mp hp
    exact hP
  · cases List.mem_singleton.mp hp
    exact nP
  · cases List.mem_singleton.mp hp
    exact C
/-- sorted, whole numbers -/
theorem kSortI {d : Addr} {n : Nat} {L : Led} {H : Hp} {Q : VK} {K : PySem.W.Frag} {p : Addr} {ns : List Int} (h : SqL K H p (ns.map V.int)) (kn : Kn d n L H) (q : ∀ r (ns' : List Int) H', ns'.Perm ns → ns'.Pairwise (· ≤ ·) → Kn d n ((r, .lst (ns'.map V.int)) :: L) H' → Q (.ref r) H') : rSortedI K [.ref p] H Q :=
  ⟨p, ns, rfl, h, fun ns' r hp hs hr => q r ns' _ hp hs (kn.new hr)⟩
theorem kAnyB {K : PySem.W.Frag} {H : Hp} {Q : VK} {p : Addr} {bs : List Bool} (h : SqL K H p (bs.map V.bl)) (q : Q (.bl (bs.any id)) H) : rAny K [.ref p] H Q := ⟨p, bs, rfl, h, q⟩
/-! ### tuples put together and cut, empty ones too -/
theorem kCatA {d : Addr} {n : Nat} {L : Led} {H : Hp} {Q : VK} {K : PySem.W.Frag} {a b : Addr} {xs ys : List V} (kn : Kn d n L H) (ha : (a, .tup xs) ∈ L) (hb : (b, .tup ys) ∈ L) (hz : xs.length + ys.length ≤ 100000) (q : ∀ r L2 H', (r, .tup (xs ++ ys)) ∈ L2 → L.Sublist L2 → Kn d n L2 H' → Q (.ref r) H') : rCatA K (.ref a) (.ref b) H Q := by
  refine ⟨a, b, xs, ys, rfl, rfl, kn.seqT ha, kn.seqT hb, szL hz, fun e => ?_, fun _ e => ?_, fun _ _ p hp => ?_⟩
  · subst e
    exact q b L H hb (List.Sublist.refl L) kn
  · subst e
    exact q a L H (by rw [List.append_nil]; exact ha) (List.Sublist.refl L) kn
  · exact q p _ _ List.mem_cons_self (List.sublist_cons_self _ _) (kn.new hp)
theorem kSlA {d : Addr} {n : Nat} {L : Led} {H : Hp} {Q : VK} {K : PySem.W.Frag} {a : Addr} {xs : List V} {lo hi : Option Int} (kn : Kn d n L H) (ha : (a, .tup xs) ∈ L) (q : ∀ r L2 H', (r, .tup (cutV xs lo hi)) ∈ L2 → L.Sublist L2 → Kn d n L2 H' → Q (.ref r) H') : rSlA K (.ref a) lo hi H Q := by
  refine ⟨a, xs, rfl, kn.seqT ha, fun e => ?_, fun _ p hp => ?_⟩
  · have ec : cutV xs lo hi = xs := by
      unfold cutV
      rw [e.1, e.2]
      simp
    exact q a L H (by rw [ec]; exact ha) (List.Sublist.refl L) kn
  · exact q p _ _ List.mem_cons_self (List.sublist_cons_self _ _) (kn.new hp)
theorem kCatN {d : Addr} {n : Nat} {L : Led} {H : Hp} {Q : VK} {K : PySem.W.Frag} {a b : Addr} {xs ys : List V} (kn : Kn d n ((b, .tup ys) :: (a, .tup xs) :: L) H) (hz : xs.length + ys.length ≤ 100000) (q : ∀ r H', Kn d n ((r, .tup (xs ++ ys)) :: L) H' → Q (.ref r) H') : rCatA K (.ref a) (.ref b) H Q := by
  refine ⟨a, b, xs, ys, rfl, rfl, kn.seqT (List.mem_cons_of_mem _ List.mem_cons_self), kn.seqT List.mem_cons_self, szL hz, fun e => ?_, fun _ e => ?_, fun _ _ p hp => ?_⟩
  · subst e
    exact q b H (kn.sub ((List.sublist_cons_self _ _).cons₂ _))
  · subst e
    rw [List.append_nil] at q
    exact q a H kn.tail
  · exact q p _ ((kn.new hp).sub (((List.Sublist.refl L).cons _).cons _ |>.cons₂ _))
theorem kSlN {d : Addr} {n : Nat} {L : Led} {H : Hp} {Q : VK} {K : PySem.W.Frag} {a : Addr} {xs : List V} {lo hi : Option Int} (kn : Kn d n L H) (ha : (a, .tup xs) ∈ L) (hne : (cutV xs lo hi).length ≠ xs.length) (q : ∀ r H', Kn d n ((r, .tup (cutV xs lo hi)) :: L) H' → Q (.ref r) H') : rSlA K (.ref a) lo hi H Q := by
  refine ⟨a, xs, rfl, kn.seqT ha, fun e => ?_, fun _ p hp => q p _ (kn.new hp)⟩
  refine absurd ?_ hne
  unfold cutV
  rw [e.1, e.2]
  simp
/-! ### a comprehension within a comprehension: its source's reading may not mention the block -/
theorem pi_listQ {X : Cx} {K : PySem.W.Frag} {tg l : Expr} {tl : TE} (eK : X.K = K) (hl : PE X l tl) : PI X tg l (iList K tl) := eK ▸ pi_list hl
theorem pi_tupQ {X : Cx} {K : PySem.W.Frag} {tg l : Expr} {tl : TE} (eK : X.K = K) (hl : PE X l tl) : PI X tg l (iTup K tl) := eK ▸ pi_tup hl
/-- a law's first statement makes the dice; the table stands in the ledger from the start -/
theorem kStartT {K : PySem.W.Frag} {a P : Addr} {q : Str} {ns : List Int} {σ : L2.St} {H : Hp} {i : Nat} {y : TS} {nx bk ct : L2.St → Hp → Prop} {rt : VK} (hP : H P = some (.tbl #[])) (hS : SqL K H a (ns.map V.int)) (h0 : σ[0]? = some (some (.ref a)))
    (g : ∀ d H', Kn d 0 (tbL P q #[] []) H' → y (Ends.mk nx rt bk ct) (σ.set i (some (.ref d))) H') :
    tSeq (tAsg (tLst (tCons (tCB (rList2 K) (tCons (tSl (rSlL K) (tVar 0) tNoPart (tPart (tC (.int 63)))) tNil)) (tCons (tC (.int 0)) (tCons (tC (.int 0)) (tCons (tC (.int 0)) tNil))))) (gName i)) y (Ends.mk nx rt bk ct) σ H := by
  obtain ⟨ms, hm⟩ := cutInts ns none (some 63)
  refine ⟨.ref a, h0, 63, rfl, a, _, rfl, hS, fun p hp => ?_⟩
  refine ⟨p, _, rfl, .inl (.inl (.inl upd_same)), fun s hs => ⟨szL (by show 4 ≤ 100000; decide), fun d hd => ?_⟩⟩
  have l0 : Lg (tbL P q #[] []) H := ⟨fun e he => by
    cases List.mem_singleton.mp he
    exact hP, List.nodup_cons.mpr ⟨List.not_mem_nil, List.nodup_nil⟩⟩
  have l1 := (((l0.new (o := .lst (cutV (ns.map V.int) none (some 63))) hp).sub (List.sublist_cons_self _ _)).new (o := .lst (cutV (ns.map V.int) none (some 63))) hs).new (o := .lst [.ref s, .int 0, .int 0, .int 0]) hd
  rw [hm] at l1 ⊢
  exact g d _ ⟨s, 0, 0, 0, ms, l1, by omega, by omega⟩
end Rg

set_option Elab.async false
set_option linter.all false
set_option maxRecDepth 100000
set_option maxHeartbeats 2000000
namespace Rg
open PySem PySem.Spec PyProof.Rows L2
/-! ### sets of whole numbers in the ledger -/
theorem setO_ne {w : World} {a : Addr} {S : Int → Bool} {n : Nat} {q : Str} : SetO w a S n ≠ LamX.CodeO a q := fun z => by
  unfold SetO LamX.CodeO at z
  have e := HO.ext.inj z
  have h0 : ∃ h : Heap, ∃ (oc : Obj) (vs : Array Value) (t : Tok), h.get? a = some oc ∧ oc.data = .fields vs ∧ vs[1]? = some (.str q t) := by
    refine ⟨{ objs := Array.replicate (a + 1) { cls := .none, data := .fields #[.none, .str q 0] } }, { cls := .none, data := .fields #[.none, .str q 0] }, _, 0, ?_, rfl, rfl⟩
    unfold Heap.get?
    simp
  obtain ⟨h, hc⟩ := h0
  have h1 : SetR w h a S n := by
    rw [congrFun e h]
    exact hc
  obtain ⟨o, es, ep, t, ho, _, hd, _⟩ := h1
  obtain ⟨oc, vs, t, h2, h3, _⟩ := hc
  rw [ho] at h2
  cases h2
  rw [hd] at h3
  cases h3
theorem NoT.set {w : World} {a : Addr} {S : Int → Bool} {n : Nat} {L : Led} (h : NoT L) : NoT ((a, SetO w a S n) :: L) := fun e m => by
  rcases List.mem_cons.mp m with rfl | m
  · exact ⟨fun ps z => (by unfold SetO at z; cases z), fun q => setO_ne⟩
  · exact h e m
section
variable {d : Addr} {n : Nat} {L : Led} {H : Hp} {σ : L2.St} {Q : VK} {w : World} {K : PySem.W.Frag} {to : TE} {t : TA}
theorem kSet0 (kn : Kn d n L H) (q : ∀ p H', Kn d n ((p, SetO w p (fun _ => false) 0) :: L) H' → Q (.ref p) H') : rSet0 w [] H Q := ⟨rfl, fun p hp => q p _ (kn.new hp)⟩
theorem kSAdd {a : Addr} {S : Int → Bool} {m : Nat} {k : Int} (kn : Kn d n L H) (i : Nat) (h : L[i]? = some (a, SetO w a S m)) (hm : m < 4000) (q : ∀ H', Kn d n (L.set i (a, SetO w a (fun j => S j || decide (j = k)) (if S k = true then m else m + 1))) H' → Q .non H')
    (ho : ∀ R : VK, R (.ref a) H → to σ H R) (ha : ∀ R : List V → Hp → Prop, R [.int k] H → t σ H R) : tSAdd w to t σ H Q :=
  ho _ ⟨⟨a, S, m, rfl, kn.at i h⟩, ha _ ⟨a, k, S, m, rfl, rfl, kn.at i h, by unfold scanBound; omega, q _ (kn.put i h)⟩⟩
theorem kSNotIn {a : Addr} {S : Int → Bool} {m : Nat} {k : Int} (h : H a = some (SetO w a S m)) (q : Q (.bl (!S k)) H) : rSNotIn w (.int k) (.ref a) H Q := ⟨k, a, S, m, rfl, rfl, h, q⟩
theorem kSIn {a : Addr} {S : Int → Bool} {m : Nat} {k : Int} (h : H a = some (SetO w a S m)) (q : Q (.bl (S k)) H) : rSIn w (.int k) (.ref a) H Q := ⟨k, a, S, m, rfl, rfl, h, q⟩
end
end Rg
namespace Rg
open PySem PySem.Spec PyProof.Rows L2
/-! ### pairs in the ledger -/
/-- the ledger has these pairs at these addresses -/
structure PairsAt (L : Led) (as : List Addr) (ps : List (Int × Int)) : Prop where
  len : as.length = ps.length
  at_ : ∀ (i : Nat) (a : Addr) (p : Int × Int), as[i]? = some a → ps[i]? = some p → (a, HO.tup [.int p.1, .int p.2]) ∈ L
theorem PairsAt.nil {L : Led} : PairsAt L [] [] := ⟨rfl, fun i a p h => by cases h⟩
theorem PairsAt.up {L L' : Led} {as : List Addr} {ps : List (Int × Int)} (h : PairsAt L as ps) (s : ∀ y, y ∈ L → y ∈ L') : PairsAt L' as ps := ⟨h.len, fun i a r h1 h2 => s _ (h.at_ i a r h1 h2)⟩
theorem PairsAt.snoc {L : Led} {as : List Addr} {ps : List (Int × Int)} {a : Addr} {p : Int × Int} (h : PairsAt L as ps) (hp : (a, HO.tup [.int p.1, .int p.2]) ∈ L) : PairsAt L (as ++ [a]) (ps ++ [p]) := by
  refine ⟨by rw [List.length_append, List.length_append, h.len]; rfl, fun i b r e1 e2 => ?_⟩
  have hl := h.len
  by_cases hi : i < as.length
  · rw [List.getElem?_append_left hi] at e1
    rw [List.getElem?_append_left (by omega)] at e2
    exact h.at_ i b r e1 e2
  · rw [List.getElem?_append_right (by omega)] at e1
    rw [List.getElem?_append_right (by omega), ← hl] at e2
    have h0 : i - as.length = 0 := by
      have := (List.getElem?_eq_some_iff.mp e1).1
      rw [List.length_singleton] at this
      omega
    rw [h0] at e1 e2
    cases e1
    cases e2
    exact hp
def pairLe (p q : Int × Int) : Prop := p.1 < q.1 ∨ (p.1 = q.1 ∧ p.2 ≤ q.2)
theorem pairLe_anti {p q : Int × Int} (h1 : pairLe p q) (h2 : pairLe q p) : p = q := by
  obtain ⟨a, b⟩ := p
  obtain ⟨c, e⟩ := q
  unfold pairLe at *
  simp only at *
  have : a = c ∧ b = e := by omega
  rw [this.1, this.2]
theorem pairs_one {l m : List (Int × Int)} (h : l.Perm m) (h1 : l.Pairwise pairLe) (h2 : m.Pairwise pairLe) : l = m := List.Perm.eq_of_pairwise (le := pairLe) (fun a b _ _ x y => pairLe_anti x y) h1 h2 h
def keyP (H : Hp) : V → Int × Int
  | .ref t => match H t with
    | some (.tup [.int i, .int j]) => (i, j)
    | _ => (0, 0)
  | _ => (0, 0)
def refA : V → Addr
  | .ref t => t
  | _ => 0
theorem kSortP {d : Addr} {n : Nat} {L L0 : Led} {H : Hp} {Q : VK} {K : PySem.W.Frag} {p : Addr} {as : List Addr} {ps : List (Int × Int)} (h : SqL K H p (as.map V.ref)) (hr : PairsAt L0 as ps) (kn : Kn d n L H) (hs0 : ∀ y, y ∈ L0 → y ∈ L)
    (q : ∀ r bs ps' H', PairsAt L0 bs ps' → ps'.Perm ps → ps'.Pairwise pairLe → Kn d n ((r, .lst (bs.map V.ref)) :: L) H' → Q (.ref r) H') : rSortedPO K [.ref p] H Q := by
  have hk : ∀ (i : Nat) (a : Addr) (pr : Int × Int), as[i]? = some a → ps[i]? = some pr → keyP H (.ref a) = pr ∧ H a = some (.tup [.int pr.1, .int pr.2]) := fun i a pr e1 e2 => by
    have hm := kn.mem (hs0 _ (hr.at_ i a pr e1 e2))
    refine ⟨?_, hm⟩
    show (match H a with
      | some (.tup [.int i, .int j]) => (i, j)
      | _ => (0, 0)) = pr
    rw [hm]
  have hl := hr.len
  have hget : ∀ t ∈ as, ∃ i pr, as[i]? = some t ∧ ps[i]? = some pr := fun t ht => by
    obtain ⟨i, hi⟩ := List.getElem?_of_mem ht
    have hlt := (List.getElem?_eq_some_iff.mp hi).1
    exact ⟨i, ps[i]'(by omega), hi, List.getElem?_eq_getElem (by omega)⟩
  have hps : ps = as.map fun a => keyP H (.ref a) := by
    apply List.ext_getElem?
    intro i
    rw [List.getElem?_map]
    cases e : as[i]? with
    | none => rw [List.getElem?_eq_none_iff] at e; rw [Option.map_none, List.getElem?_eq_none_iff]; omega
    | some a =>
      have hlt := (List.getElem?_eq_some_iff.mp e).1
      have e2 : ps[i]? = some (ps[i]'(by omega)) := List.getElem?_eq_getElem (by omega)
      rw [e2, Option.map_some, (hk i a _ e e2).1]
  refine ⟨p, as.map V.ref, keyP H, rfl, h, fun x hx => ?_, fun ys r hs hb hrn => ?_⟩
  · obtain ⟨t, ht, rfl⟩ := List.mem_map.mp hx
    obtain ⟨i, pr, e1, e2⟩ := hget t ht
    obtain ⟨h1, h2⟩ := hk i t pr e1 e2
    exact ⟨t, rfl, by rw [h1]; exact h2⟩
  · have hys : ys = (ys.map refA).map V.ref := by
      rw [List.map_map]
      have : ∀ y ∈ ys, (V.ref ∘ refA) y = y := fun y hy => by
        obtain ⟨t, _, rfl⟩ := List.mem_map.mp (hb.perm.mem_iff.mp hy)
        rfl
      conv => lhs; rw [← List.map_id ys]
      exact (List.map_congr_left (f := V.ref ∘ refA) (g := id) this).symm
    have hperm : (ys.map refA).Perm as := by
      have := hb.perm.map refA
      rw [List.map_map] at this
      have e : (as.map (refA ∘ V.ref)) = as := by
        have : (refA ∘ V.ref) = id := rfl
        rw [this, List.map_id]
      rwa [e] at this
    generalize ys.map refA = bs at *
    subst hys
    refine q r bs (bs.map fun a => keyP H (.ref a)) _ ⟨by rw [List.length_map], fun i a pr e1 e2 => ?_⟩ ?_ ?_ (kn.new hrn)
    · rw [List.getElem?_map, e1] at e2
      cases e2
      obtain ⟨j, pr, f1, f2⟩ := hget a (hperm.mem_iff.mp (List.mem_of_getElem? e1))
      have f3 := hr.at_ j a pr f1 f2
      rw [← (hk j a pr f1 f2).1] at f3
      exact f3
    · conv => rhs; rw [hps]
      exact hperm.map _
    · rw [List.pairwise_map]
      refine (List.pairwise_map.mp hs).imp fun {a b} hab => ?_
      have := SrtO.lexB_no.mp hab
      unfold pairLe
      omega
/-! ### isinstance of what may be None -/
theorem callR_or {X : Cx} {f : Value} {r1 r2 : List V → Hp → VK → Prop} (h1 : CallR X f r1) (h2 : CallR X f r2) : CallR X f fun xs H Q => r1 xs H Q ∨ r2 xs H Q := by
  intro pins s σ H xs us Q I rv h
  rcases h with h | h
  · exact h1 pins s σ H xs us Q I rv h
  · exact h2 pins s σ H xs us Q I rv h
theorem none_sub {K : PySem.W.Frag} {C : Addr} : PySem.W.subIn K (.type "NoneType") (.ref C) = some false := by
  have e : PySem.fastBuiltinMro "NoneType" = some [.type "NoneType", .type "object"] := by decide +kernel
  unfold PySem.W.subIn
  simp only [e, Option.map_some]
  rfl
theorem kitOne_non {K : PySem.W.Frag} {D : Addr} (hd : PySem.W.hasDictIn K D = true) (ht : PySem.W.typeIn K (.ref D) = some (.type "type")) : PySem.W.kitOne K (.type "NoneType") (.ref D) = some false := by
  have hcl : (PySem.W.clsIn K D).isSome = true := by
    unfold PySem.W.hasDictIn at hd
    cases e : PySem.W.clsIn K D with
    | none =>
      rw [e] at hd
      simp at hd
    | some _ => rfl
  unfold PySem.W.kitOne
  rw [if_neg (by simp)]
  show (if ((PySem.W.clsIn K D).isSome && PySem.W.typeIn K (.ref D) == some (.type "type")) = true then PySem.W.subIn K (.type "NoneType") (.ref D) else none) = some false
  rw [hcl, ht, none_sub]
  rfl
structure NoneK (K : PySem.W.Frag) (C_NotProper C_NoHouse C_NotReady C_NoText C_NoRow : Addr) : Prop where
  nP : PySem.W.kitOne K (.type "NoneType") (.ref C_NotProper) = some false
  nH : PySem.W.kitOne K (.type "NoneType") (.ref C_NoHouse) = some false
  nY : PySem.W.kitOne K (.type "NoneType") (.ref C_NotReady) = some false
  nT : PySem.W.kitOne K (.type "NoneType") (.ref C_NoText) = some false
  nR : PySem.W.kitOne K (.type "NoneType") (.ref C_NoRow) = some false
end Rg

set_option Elab.async false
set_option linter.all false
set_option maxRecDepth 100000
set_option maxHeartbeats 4000000
namespace Rg
open PySem PySem.Spec PyProof.Rows L2
/-! ### set(xs), xs a list of whole numbers of which few are unlike -/
theorem len_in : ∀ {l u : List Int}, l.Nodup → (∀ k ∈ l, k ∈ u) → l.length ≤ u.length
  | [], u, _, _ => Nat.zero_le _
  | a :: l, u, nd, h => by
    have nd := List.nodup_cons.mp nd
    have ha := h a List.mem_cons_self
    have ih := len_in (u := u.erase a) nd.2 fun k hk => (List.mem_erase_of_ne (fun z : k = a => nd.1 (z ▸ hk))).mpr (h k (List.mem_cons_of_mem _ hk))
    rw [List.length_erase_of_mem ha] at ih
    have := List.length_pos_of_mem ha
    rw [List.length_cons]
    omega
theorem setR_few {w : World} {h : Heap} {a : Addr} {S : Int → Bool} {c : Nat} {u : List Int} (R : SetR w h a S c) (hu : ∀ k, S k = true → k ∈ u) : c ≤ u.length := by
  obtain ⟨o, es, ep, t, _, _, _, _, nd, hm, _, _, hn, _⟩ := R
  have h3 : (es.toList.map keyOf).length ≤ u.length := len_in nd fun k hk => hu k ((hm k).mpr hk)
  rw [List.length_map, Array.length_toList] at h3
  omega
theorem setR_just {w : World} {h : Heap} {a : Addr} {S : Int → Bool} {c : Nat} {u : List Int} (R : SetR w h a S c) (nu : u.Nodup) (hu : ∀ k, S k = true ↔ k ∈ u) : c = u.length := by
  have h1 := setR_few R fun k => (hu k).mp
  obtain ⟨o, es, ep, t, _, _, _, _, nd, hm, _, _, hn, _⟩ := R
  have h2 : u.length ≤ (es.toList.map keyOf).length := len_in nu fun k hk => (hm k).mp ((hu k).mpr hk)
  rw [List.length_map] at h2
  have h4 : es.toList.length = es.size := Array.length_toList
  omega
section
variable {P : Program} {w : World} {A : Around} {E : Value → Shared → Prop}
/-- the loop, from the i-th item on -/
theorem fill_few {I : Addr} {fp wr : List Addr} {G : Array GenState → Array GenState → Prop} {n : Nat} {Pv : Nat → Value → Prop} {St : Nat → Shared → Prop} {R : Result → Shared → Prop} (W : WalksS P w A.in1 I fp wr G n Pv St) (S : Addr) (hSf : S ∉ fp)
    (ns u : List Int) (hn : n = ns.length) (hu : ∀ k ∈ ns, k ∈ u) (hb : u.length + 1 < scanBound) (hval : ∀ i v, Pv i v → ∃ k t, ns[i]? = some k ∧ v = .int k t) : ∀ (k i : Nat) (s : Shared), i + k = n → St i s → (∃ c, SetR w s.heap S (fun j => decide (j ∈ ns.take i)) c) →
      (∀ s' c, Moved (S :: wr) G s s' → SetR w s'.heap S (fun j => decide (j ∈ ns)) c → R (.ok (.ret .none)) s') → codeAny (model P w) A (.builtin "set.update.loop" ⟨[.ref S, .ref I], []⟩) R s
  | 0, i, s, hk, hst, ⟨c, hS⟩, hR => by
    obtain rfl : i = n := by omega
    refine codeAny_builtin F.entry_set_update_loop ?_
    rw [Around.under_plainId F.plain_set_update_loop]
    show wpAny _ A.in1 (pyNext (.ref I) >>= _) _ _ s
    refine wpAny_bind (W.done s _ _ hst fun s' hm => ?_)
    show wpAny _ A.in1 (ret Value.none) _ _ s'
    rw [show ns.take i = ns from List.take_of_length_le (by omega)] at hS
    exact wpAny_pure (hR s' c (hm.mono fun b hb => List.mem_cons_of_mem _ hb) (hS.at fun o e => hm.heap S o (fun z => hSf (W.sub _ z)) e))
  | k + 1, i, s, hk, hst, ⟨c, hS⟩, hR => by
    refine codeAny_builtin F.entry_set_update_loop ?_
    rw [Around.under_plainId F.plain_set_update_loop]
    show wpAny _ A.in1 (pyNext (.ref I) >>= _) _ _ s
    refine wpAny_bind (W.item i s _ _ (by omega) hst fun v s' hP hst' hm => ?_)
    obtain ⟨z, t, hz, rfl⟩ := hval i v hP
    have hS1 := hS.at (h' := s'.heap) fun o e => hm.heap S o (fun z => hSf (W.sub _ z)) e
    have hc := setR_few (u := u) hS1 fun j hj => hu j (List.mem_of_mem_take (of_decide_eq_true hj))
    show wpAny _ A.in1 (holding [Value.int z t] (setAdd S (.int z t)) >>= _) _ _ s'
    refine wpAny_bind (wpAny_holding ?_)
    unfold setAdd
    refine wpAny_holding (wpAny_bind ((intKind P w).pyHash (k := z) (intKind_is _ _ _ _) ?_))
    refine setR_add_hashed (s := { s' with toks := s'.toks + 1 }) hS1 (by omega) fun h' hsb hS2 => ?_
    refine wpAny_pure ⟨plainId_quiet F.plain_set_update_loop _, fill_few W S hSf ns u hn hu hb hval k (i + 1) _ (by omega) (W.frame _ s' _ _ hst' (Nat.le_succ _) fun b hb o e => ?_) ⟨_, hS2.congr fun j => ?_⟩ fun s2 c2 hm2 hS3 => ?_⟩
    · rw [hsb.2 b (fun z => hSf (z ▸ hb))]
      exact e
    · rw [List.take_add_one, hz]
      simp [List.mem_append]
    · refine hR s2 c2 (Moved.trans W.gtrans ((hm.mono fun b hb => List.mem_cons_of_mem _ hb).then_heap (Nat.le_succ _) fun b o hb e => ?_) hm2) hS3
      rw [hsb.2 b (fun z => hb (z ▸ List.mem_cons_self))]
      exact e
abbrev emptySet (w : World) : Obj := { cls := .type "set", dict := none, data := .set #[] 0 (.fresh 0 0 (!w.params.followText "set-order")) }
/-- the new set at a, its list at l: the filling -/
theorem init_few {s : Shared} {l a : Addr} {items : Array Value} {ns u : List Int} (hh : A.handled = none) (hl : s.heap.IsList l items) (hit : IntsAre items.toList ns) (hu : ∀ k ∈ ns, k ∈ u) (hb : u.length + 1 < scanBound) (ha : s.heap.get? a = some (emptySet w))
    {R : Result → Shared → Prop} (hR : ∀ (h' : Heap) (tk c : Nat), SetR w h' a (fun j => decide (j ∈ ns)) c → (∀ b o, b ≠ a → s.heap.get? b = some o → h'.get? b = some o) → R (.ok (.ret .none)) { s with heap := h', toks := tk }) :
    codeAny (model P w) A (.call (.builtin "set.__init__") ⟨[.ref a, .ref l], []⟩) R s := by
  have hT : s.TypeIs (.ref a) "set" := ⟨_, ha, rfl⟩
  refine codeAny_call_builtin F.called_set.init.plain F.entry_set_init (check_set_init_1 hT ?_)
  obtain ⟨⟨oc, od, odt, osl⟩, hol, hcl, nl, hdl⟩ := hl
  simp only at hcl hdl
  subst hcl
  subst hdl
  have hl1 : s.heap.IsList l items := ⟨_, hol, rfl, nl, rfl⟩
  have k1 := F.sub_list_set
  have k2 := F.sub_list_frozenset
  have k3 : (Value.type "list" == Value.type "dict") = false := by decide
  have hn : items.size = ns.length := by rw [← Array.length_toList]; exact IntsAre.length hit
  unfold Builtin.«set.__init__» noKeywords Builtin.Frozenset.updateFrom
  generalize hPI : pyIter = PI
  wp_walk
  subst hPI
  refine wpAny_pyIter_list hl1 (wpAny_bind (wpAny_runValue ?_))
  have hla := Heap.lt_size hol
  have haa := Heap.lt_size ha
  have hla2 : l ≠ a := fun z => by
    rw [z, ha] at hol
    have e := congrArg Obj.cls (Option.some.inj hol)
    simp at e
  refine fill_few ((Walks.list (by simp [hh]) _ l (Nat.ne_of_lt hla) items).toS) a (by simp only [List.mem_cons, List.not_mem_nil, or_false, not_or]; exact ⟨Nat.ne_of_lt haa, Ne.symm hla2⟩) ns u hn hu hb (fun i v hv => ?_) items.size 0 _ (by omega) ⟨⟨_, Heap.get?_push_size _ rfl, rfl, rfl⟩, hl1.push _⟩ ⟨0, setR_new_at (Heap.get?_push_of_some _ ha)⟩ fun s' c hm hS => ?_
  · have hi := (Array.getElem?_eq_some_iff.mp hv).1
    obtain ⟨t, e⟩ := IntsAre.int_at hit i v (by rw [Array.getElem?_toList]; exact hv)
    refine ⟨ns.getD i 0, t, ?_, e⟩
    rw [List.getD_eq_getElem?_getD, List.getElem?_eq_getElem (by omega : i < ns.length)]
    rfl
  · obtain ⟨h', g2, d2, tk, o2⟩ := s'
    obtain rfl : g2 = s.gens := hm.gens
    obtain rfl : d2 = s.drawn := hm.drawn
    obtain rfl : o2 = s.os := hm.os
    show wpAny _ _ _ _ _ _
    refine wpAny_pure ?_
    show wpAny _ _ (ret Value.none) _ _ _
    refine wpAny_pure (hR h' tk c hS fun b o hb e => hm.heap b o ?_ (Heap.get?_push_of_some _ e))
    simp only [List.mem_cons, List.not_mem_nil, or_false, not_or]
    exact ⟨hb, Nat.ne_of_lt (Heap.lt_size e)⟩
theorem call_setI {s : Shared} {l : Addr} {items : Array Value} {ns u : List Int} {Q : Value → Shared → Prop} (hh : A.handled = none) (hl : s.heap.IsList l items) (hit : IntsAre items.toList ns) (hu : ∀ k ∈ ns, k ∈ u) (hb : u.length + 1 < scanBound)
    (h : ∀ (h' : Heap) (tk c : Nat), SetR w h' s.heap.objs.size (fun j => decide (j ∈ ns)) c → (∀ b o, s.heap.get? b = some o → h'.get? b = some o) → Q (.ref s.heap.objs.size) { s with heap := h', toks := tk }) : wpAny (model P w) A (call (.type "set") [.ref l]) Q E s := by
  have ⟨c0, t0, hm0⟩ := F.called_set.mro
  have k1 := F.called_set.made
  have k2 := F.called_set.sub
  have k3 := F.called_set.notType
  have k4 := F.called_set.canCreate
  have k5 := F.typeCall_set_1 (.ref l)
  refine wpAny_call (codeAny_of_tree ?_)
  show wpAny _ _ (callAny (.type "set") _) _ _ _
  refine wpAny_pure ⟨Code.quiet_builtin _ (by decide +kernel), codeAny_builtin F.entry_type_call ?_⟩
  rw [Around.under_plain (weight_type_call_type "set" [.ref l] []) rfl]
  repeat (any_goals (first | assumption | wp_step))
  refine codeAny_mono (code_set_led1 (.ref l) (E := E) (Q₁ := fun obj s1 => obj = .ref s.heap.objs.size ∧ s1 = { s with heap := s.heap.push (emptySet w) }) ⟨rfl, rfl⟩) fun r s1 hr => ?_
  match r, hr with
  | .error e, hr => exact hr
  | .ok (.ret obj), ⟨e1, e2⟩ =>
    subst e1
    subst e2
    have hS : (s.heap.push (emptySet w)).get? s.heap.objs.size = some (emptySet w) := Heap.get?_push_size _ rfl
    have hT : Shared.TypeIs { s with heap := s.heap.push (emptySet w) } (.ref s.heap.objs.size) "set" := ⟨_, hS, rfl⟩
    have k6 := F.called_set.init.lookup
    have k7 := F.called_set.init.bind (.ref s.heap.objs.size)
    repeat (any_goals (first | assumption | wp_step))
    refine codeAny_mono (init_few (P := P) (A := A.in1) (s := { s with heap := s.heap.push (emptySet w) }) (R := wants (fun r s2 => r = .none ∧ ∃ h' tk c, s2 = { s with heap := h', toks := tk } ∧ SetR w h' s.heap.objs.size (fun j => decide (j ∈ ns)) c ∧ ∀ b o, s.heap.get? b = some o → h'.get? b = some o) E) (by simpa using hh) (hl.push _) hit hu hb hS fun h' tk c hR hk => ⟨rfl, h', tk, c, rfl, hR, fun b o e => hk b o (Nat.ne_of_lt (Heap.lt_size e)) (Heap.get?_push_of_some _ e)⟩) fun r2 s2 hr2 => ?_
    match r2, hr2 with
    | .error e, hr2 => exact hr2
    | .ok (.ret r), ⟨e1, h', tk, c, e2, hR, hk⟩ =>
      subst e1
      subst e2
      repeat (any_goals (first | assumption | wp_step))
      exact h _ _ _ hR hk
end
section
variable {X : Cx}
def rSetI (K : PySem.W.Frag) (w : World) : List V → Hp → VK → Prop := fun xs H Q => ∃ (l : Addr) (ns u : List Int), xs = [.ref l] ∧ SqL K H l (ns.map V.int) ∧ u.Nodup ∧ (∀ k, k ∈ u ↔ k ∈ ns) ∧ u.length < 4000 ∧
  ∀ p, H p = none → Q (.ref p) (upd H p (SetO w p (fun j => decide (j ∈ ns)) u.length))
theorem cr_setI (hc : X.calm = true) : CallR X (.type "set") (rSetI X.K X.w) := by
  intro pins s σ H xs us Q I r h
  obtain ⟨l, ns, u, rfl, hs, nu, hu, hb, q⟩ := h
  obtain ⟨its, rv, hl, hz⟩ := I.list hs
  rw [Vals.ref1 r]
  refine call_setI (I.ok.hd hc) hl.isList (by simpa using ints_of_vals rv) (fun k hk => (hu k).mpr hk) (by unfold scanBound; omega) fun h' tk c hR hk => ?_
  have e := setR_just hR nu fun k => by rw [decide_eq_true_eq]; exact (hu k).symm
  subst e
  exact ⟨.ref _, upd H s.heap.objs.size (SetO X.w s.heap.objs.size (fun j => decide (j ∈ ns)) u.length), I.laid (t' := tk) hk (Nat.le_refl _) (setO_new hR), rfl, q _ (I.hok.fresh (Nat.le_refl _))⟩
def rLenSet (w : World) : List V → Hp → VK → Prop := fun xs H Q => ∃ (a : Addr) (S : Int → Bool) (n : Nat), xs = [.ref a] ∧ H a = some (SetO w a S n) ∧ Q (.int (n : Int)) H
theorem c_lenSet : CallR X (.builtin "len") (rLenSet X.w) := by
  intro pins s σ H xs us Q I r h
  obtain ⟨a, S, n, rfl, ha, q⟩ := h
  rw [Vals.ref1 r]
  obtain ⟨o, es, ep, t, ho, hex, hd, _, _, _, hf, hfit, hn, _⟩ := setO_get I ha
  refine call_len_set ho hex hd hfit (by have := hf; unfold scanBound at this; omega) ?_
  rw [hn]
  exact ⟨.int (n : Int), H, I.tok _, ⟨_, rfl⟩, q⟩
end
section
variable {d : Addr} {n : Nat} {L : Led} {H : Hp} {Q : VK} {K : PySem.W.Frag} {w : World} {l : Addr} {ns u : List Int}
theorem kSetI (kn : Kn d n L H) (h : SqL K H l (ns.map V.int)) (nu : u.Nodup) (hu : ∀ k, k ∈ u ↔ k ∈ ns) (hb : u.length < 4000) (q : ∀ p H', Kn d n ((p, SetO w p (fun j => decide (j ∈ ns)) u.length) :: L) H' → Q (.ref p) H') : rSetI K w [.ref l] H Q :=
  ⟨l, ns, u, rfl, h, nu, hu, hb, fun p hp => q p _ (kn.new hp)⟩
theorem kLenSet {a : Addr} {S : Int → Bool} {m : Nat} (h : H a = some (SetO w a S m)) (q : Q (.int (m : Int)) H) : rLenSet w [.ref a] H Q := ⟨a, S, m, rfl, h, q⟩
theorem kSortSet {a : Addr} {S : Int → Bool} {m : Nat} (kn : Kn d n L H) (h : (a, SetO w a S m) ∈ L) (hm : m < 64) (q : ∀ (ys : List Int) r H', ys.Pairwise (· < ·) → (∀ k : Int, k ∈ ys ↔ S k = true) → ys.length = m → Kn d n ((r, .lst (ys.map V.int)) :: L) H' → Q (.ref r) H') : rSortedSet w [.ref a] H Q :=
  ⟨a, S, m, rfl, kn.mem h, hm, fun ys r h1 h2 h3 h4 => q ys r _ h1 h2 h3 (kn.new h4)⟩
end
/-- each once -/
def onceL : List Int → List Int
  | [] => []
  | a :: l => if a ∈ onceL l then onceL l else a :: onceL l
theorem mem_once : ∀ {l : List Int} {k : Int}, k ∈ onceL l ↔ k ∈ l
  | [], k => Iff.rfl
  | a :: l, k => by
    have ih := mem_once (l := l) (k := k)
    unfold onceL
    split
    · rename_i h
      rw [ih, List.mem_cons]
      exact ⟨.inr, fun z => z.elim (fun e => by rw [e]; exact mem_once.mp h) id⟩
    · rw [List.mem_cons, List.mem_cons, ih]
theorem once_nodup : ∀ l : List Int, (onceL l).Nodup
  | [] => List.nodup_nil
  | a :: l => by
    have ih := once_nodup l
    unfold onceL
    split
    · exact ih
    · rename_i h
      exact List.nodup_cons.mpr ⟨h, ih⟩
theorem once_le {l u : List Int} (h : ∀ k ∈ l, k ∈ u) : (onceL l).length ≤ u.length := len_in (once_nodup l) fun k hk => h k (mem_once.mp hk)
theorem once_of_nodup : ∀ {l : List Int}, l.Nodup → onceL l = l
  | [], _ => rfl
  | a :: l, nd => by
    have nd := List.nodup_cons.mp nd
    have ih := once_of_nodup nd.2
    unfold onceL
    rw [ih, if_neg nd.1]
/-- two rising rows of the same numbers are one -/
theorem rising_one : ∀ {l m : List Int}, l.Pairwise (· < ·) → m.Pairwise (· < ·) → (∀ k, k ∈ l ↔ k ∈ m) → l = m := fun {l m} h1 h2 h => by
  have nd : ∀ {l : List Int}, l.Pairwise (· < ·) → l.Nodup := fun h => h.imp fun z e => by omega
  refine List.Perm.eq_of_pairwise (le := (· ≤ ·)) (fun a b _ _ x y => by omega) (h1.imp fun z => by omega) (h2.imp fun z => by omega) ?_
  rw [List.perm_ext_iff_of_nodup (nd h1) (nd h2)]
  exact h
/-! ### [y for x in xs for y in x], the items tuples -/
theorem flat_len {row : Nat → List V} {c : Nat} (h : ∀ i, (row i).length ≤ c) : ∀ i, ((List.range i).flatMap row).length ≤ c * i
  | 0 => by simp
  | i + 1 => by
    have ih := flat_len h i
    have := h i
    rw [List.range_succ, List.flatMap_append, List.length_append, List.flatMap_cons, List.flatMap_nil, List.append_nil, Nat.mul_add, Nat.mul_one]
    omega
theorem kLc2P {d : Addr} {n : Nat} {L : Led} {H : Hp} {K : PySem.W.Frag} {σ : L2.St} {Q : VK} {p : Addr} {xs : List V} {te0 : TE} {j l : Nat} {vs vs1 : List Nat} (k : Kn d n L H) (hp : (p, .lst xs) ∈ L) (src : ∀ R : VK, R (.ref p) H → te0 σ H R) (row : Nat → List V)
    (hrow : ∀ i x, xs[i]? = some x → ∃ t, x = .ref t ∧ (t, .tup (row i)) ∈ L) (hz : xs.length ≤ 20000) (h4 : ∀ i, (row i).length ≤ 4) (hw : ∀ x, wipe ((wipe σ vs).set j (some x)) vs = wipe σ vs) (hj : ∀ x : V, ((wipe σ vs).set j (some x))[j]? = some (some x))
    (hw1 : ∀ x y, wipe ((wipe ((wipe σ vs).set j (some x)) vs1).set l (some y)) vs1 = wipe ((wipe σ vs).set j (some x)) vs1) (hl : ∀ x y : V, ((wipe ((wipe σ vs).set j (some x)) vs1).set l (some y))[l]? = some (some y))
    (q : ∀ D H', Kn d n ((D, .lst ((List.range xs.length).flatMap row)) :: L) H' → Q (.ref D) H') : tLc2 (iList K te0) (gName j) tYes (iTup K (tVar j)) (gName l) tYes (tVar l) vs vs1 σ H Q := by
  refine src _ ⟨p, rfl, ⟨xs, k.seqL hp⟩, fun D hD => ⟨fun i m H' => m = xs.length - i ∧ i ≤ xs.length ∧ Kn d n ((D, .lst ((List.range i).flatMap row)) :: L) H', ⟨xs.length, by simp, Nat.zero_le _, k.new hD⟩, ?_⟩⟩
  rintro i m H' ⟨rfl, hi, kn⟩
  have hs : SqL K H' p xs := kn.seqL (List.mem_cons_of_mem _ hp)
  by_cases hlt : i < xs.length
  · refine .inr ⟨⟨xs, xs[i], hs, by simp [hlt]⟩, fun H'' => Kn d n ((D, .lst ((List.range (i + 1)).flatMap row)) :: L) H'', fun H'' k' => ⟨xs.length - (i + 1), by omega, rfl, hlt, k'⟩, fun x H'' y => ?_⟩
    obtain ⟨rfl, y⟩ := y
    obtain ⟨t, rfl, ht⟩ := hrow i x (y xs hs)
    refine ⟨hw _, ?_⟩
    refine kYes (iteT ?_)
    have hfl := flat_len h4 i
    have h4i := h4 i
    refine ⟨.ref t, hj _, t, rfl, ⟨row i, kn.seqT (List.mem_cons_of_mem _ ht)⟩, fun u m2 H3 => m2 = (row i).length - u ∧ u ≤ (row i).length ∧ Kn d n ((D, .lst ((List.range i).flatMap row ++ (row i).take u)) :: L) H3, ⟨(row i).length, by simp, Nat.zero_le _, by simpa using kn⟩, ?_⟩
    rintro u m2 H3 ⟨rfl, hu, kn3⟩
    have hs3 : SqT K H3 t (row i) := kn3.seqT (List.mem_cons_of_mem _ ht)
    by_cases hul : u < (row i).length
    · refine .inr ⟨⟨row i, (row i)[u], hs3, by simp [hul]⟩, fun H4 => Kn d n ((D, .lst ((List.range i).flatMap row ++ (row i).take (u + 1))) :: L) H4, fun H4 k' => ⟨(row i).length - (u + 1), by omega, rfl, hul, k'⟩, fun x2 H4 y2 => ?_⟩
      obtain ⟨rfl, y2⟩ := y2
      have hx2 := y2 _ hs3
      refine ⟨hw1 _ _, ?_⟩
      refine kYes (iteT ?_)
      refine ⟨x2, hl _ _, _, kn3.at 0 rfl, szL' (by rw [List.length_append, List.length_take]; omega), ?_⟩
      have kn4 := kn3.put (u := .lst (((List.range i).flatMap row ++ (row i).take u) ++ [x2])) 0 rfl
      rw [List.take_add_one, hx2, ← List.append_assoc]
      exact kn4
    · have e : u = (row i).length := by omega
      subst e
      refine .inl ⟨⟨row i, hs3, Nat.le_refl _⟩, ?_⟩
      rw [List.take_length] at kn3
      rw [List.range_succ, List.flatMap_append, List.flatMap_cons, List.flatMap_nil, List.append_nil]
      exact kn3
  · have e : i = xs.length := by omega
    subst e
    exact .inl ⟨⟨xs, hs, Nat.le_refl _⟩, q D _ kn⟩
theorem anyQ {X : Cx} {K : PySem.W.Frag} (eK : X.K = K) (hc : X.calm = true) : CallR X (.builtin "any") (rAny K) := eK ▸ cr_any hc
end Rg

set_option Elab.async false
set_option linter.all false
set_option maxRecDepth 100000
set_option maxHeartbeats 4000000
/-! itertools.combinations(range(m), many), at the library's level -/
namespace CpComb
open PySem PySem.Spec PyProof.Rows
open Sem (wp)
theorem mro_comb : mroOf (.type "itertools.combinations") = pure [.type "itertools.combinations", .type "object"] := by rw [mroOf_type]; kernel_rfl
theorem lookup_comb_new : typeLookup (.type "itertools.combinations") "__new__" = pure (some (.builtin "itertools.combinations.__new__")) := by rw [typeLookup_type, builtinLookup_eq_fast]; kernel_rfl
theorem slot_comb_init : Slot "itertools.combinations" "__init__" "object.__init__" :=
  .of (owner := "object") (n := "__init__") (by rw [typeLookup_type, builtinLookup_eq_fast]; kernel_rfl) (by decide +kernel) (by decide +kernel) (by decide +kernel)
    (by first | exact .inl (by decide +kernel) | exact .inr (by decide +kernel)) (by rw [isSubtype_type]; kernel_rfl)
theorem sub_comb : isSubtype (.type "itertools.combinations") (.type "itertools.combinations") = pure true := by rw [isSubtype_type]; kernel_rfl
theorem called_comb : TypeCalled "itertools.combinations" "itertools.combinations.__new__" "object.__init__" :=
  ⟨by decide +kernel, by decide +kernel, ⟨_, _, mro_comb⟩, madeBy_type mro_comb lookup_comb_new (by decide +kernel), by decide +kernel, sub_comb, slot_comb_init⟩
theorem typeCall_comb_2 (a b : Value) : checkTypeCall "itertools.combinations" ⟨[a, b], []⟩ = pure () := by kernel_rfl
theorem newCall_comb_2 (a b : Value) : checkBuiltinCall "itertools.combinations.__new__" ⟨[.type "itertools.combinations", a, b], []⟩ = pure () := by kernel_rfl
theorem entry_comb_new : entryFor table "itertools.combinations.__new__" = some Builtin.«itertools.combinations.__new__» := entryFor_of_tree (by kernel_rfl)
theorem slot_comb_iter : Slot "itertools.combinations" "__iter__" "itertools.combinations.__iter__" :=
  .of (owner := "itertools.combinations") (n := "__iter__") (by rw [typeLookup_type, builtinLookup_eq_fast]; kernel_rfl) (by decide +kernel) (by decide +kernel) (by decide +kernel)
    (by first | exact .inl (by decide +kernel) | exact .inr (by decide +kernel)) sub_comb
theorem slot_comb_next : Slot "itertools.combinations" "__next__" "itertools.combinations.__next__" :=
  .of (owner := "itertools.combinations") (n := "__next__") (by rw [typeLookup_type, builtinLookup_eq_fast]; kernel_rfl) (by decide +kernel) (by decide +kernel) (by decide +kernel)
    (by first | exact .inl (by decide +kernel) | exact .inr (by decide +kernel)) sub_comb
theorem entry_comb_iter : entryFor table "itertools.combinations.__iter__" = some Builtin.«dict_keyiterator.__iter__» :=
  entryFor_alias (id' := "dict_keyiterator.__iter__") (by kernel_rfl) (by first | rfl | decide +kernel | (unfold String.splitOn; simp +decide [String.splitOnAux])) (by decide +kernel) (by kernel_rfl)
theorem entry_comb_next : entryFor table "itertools.combinations.__next__" = some Builtin.«itertools.combinations.__next__» := entryFor_of_tree (by kernel_rfl)
theorem noLen_comb : typeLookup (.type "itertools.combinations") "__len__" = pure none := by rw [typeLookup_type, builtinLookup_eq_fast]; kernel_rfl
theorem noHint_comb : typeLookup (.type "itertools.combinations") "__length_hint__" = pure none := by rw [typeLookup_type, builtinLookup_eq_fast]; kernel_rfl
theorem noDict_comb : typeHasDict (.type "itertools.combinations") = false := by decide +kernel
theorem owner_comb : Manifest.owners.lookup (String.ofList ['s', 'n', 'o', 'i', 't', 'a', 'n', 'i', 'b', 'm', 'o', 'c', '.', 's', 'l', 'o', 'o', 't', 'r', 'e', 't', 'i'].reverse) = some Manifest.sig_itertools_combinations := by kernel_rfl
theorem args_comb_iter (a : Value) : argsOk "itertools.combinations.__iter__" ⟨[a], []⟩ := by
  unfold argsOk; rw [signature?_of (id := "itertools.combinations.__iter__") (n := ['_', '_', 'r', 'e', 't', 'i', '_', '_']) (o := ['s', 'n', 'o', 'i', 't', 'a', 'n', 'i', 'b', 'm', 'o', 'c', '.', 's', 'l', 'o', 'o', 't', 'r', 'e', 't', 'i']) (by kernel_rfl) owner_comb]; kernel_rfl
theorem args_comb_next (a : Value) : argsOk "itertools.combinations.__next__" ⟨[a], []⟩ := by
  unfold argsOk; rw [signature?_of (id := "itertools.combinations.__next__") (n := ['_', '_', 't', 'x', 'e', 'n', '_', '_']) (o := ['s', 'n', 'o', 'i', 't', 'a', 'n', 'i', 'b', 'm', 'o', 'c', '.', 's', 'l', 'o', 'o', 't', 'r', 'e', 't', 'i']) (by kernel_rfl) owner_comb]; kernel_rfl
/-- a combinations object: where its pool stands, its state (0: not begun, 1: on its way, 2: ended), what it handed out last, its places -/
abbrev IsComb (h : Heap) (it pool : Addr) (st : Int) (res : Value) (idx : List Nat) : Prop := h.get? it = some { cls := .type "itertools.combinations", dict := none, data := .fields ([.ref pool, rawInt st, res] ++ idx.map fun (n : Nat) => rawInt n).toArray, slots := #[] }
section
variable {prog : Program} {w : World} {A : Around} {E : Value → Shared → Prop} {s : Shared}
theorem iter_comb {it pool : Addr} {st : Int} {res : Value} {idx : List Nat} {Q : Value → Shared → Prop} (hit : IsComb s.heap it pool st res idx) (h : Q (.ref it) s) : wpAny (model prog w) A (pyIter (.ref it)) Q E s := by
  have hT : s.TypeIs (.ref it) "itertools.combinations" := ⟨_, hit, rfl⟩
  refine wpAny_pyIter_slot hT slot_comb_iter (wpAny_call_entry slot_comb_iter hT entry_comb_iter ?_ (args_comb_iter _))
  show wpAny _ _ (ret (.ref it)) _ _ s
  exact wpAny_pure ⟨_, rfl, "itertools.combinations", _, hT, slot_comb_next.lookup, h⟩
theorem IsComb.setSt {h : Heap} {it pool : Addr} {st st' : Int} {res : Value} {idx : List Nat} (x : IsComb h it pool st res idx) : IsComb (h.update it (Obj.mapFields fun a => a.setIfInBounds 1 (rawInt st'))) it pool st' res idx := by
  have e := Heap.get?_update_self (Obj.mapFields fun a => a.setIfInBounds 1 (rawInt st')) x rfl
  unfold IsComb
  rw [e]
  simp [Obj.mapFields, List.setIfInBounds_toArray]
theorem IsComb.setRes {h : Heap} {it pool : Addr} {st : Int} {res res' : Value} {idx : List Nat} (x : IsComb h it pool st res idx) : IsComb (h.update it (Obj.mapFields fun a => a.setIfInBounds 2 res')) it pool st res' idx := by
  have e := Heap.get?_update_self (Obj.mapFields fun a => a.setIfInBounds 2 res') x rfl
  unfold IsComb
  rw [e]
  simp [Obj.mapFields, List.setIfInBounds_toArray]
theorem numbers_comb {it pool : Addr} {st : Int} {res : Value} {idx : List Nat} {Q : List Nat → Shared → Prop} (hit : IsComb s.heap it pool st res idx) (h : Q idx s) : wpAny (model prog w) A (Builtin.Itertools.itNumbersFrom (.ref it) 3) Q E s := by
  unfold Builtin.Itertools.itNumbersFrom
  show wpAny _ _ (load it >>= _) _ _ s
  refine wpAny_bind (wpAny_load hit ?_)
  have e : (List.map (fun x => match x with | Value.int n tok => n.toNat | x => 0) (List.drop 3 ([.ref pool, rawInt st, res] ++ idx.map fun (n : Nat) => rawInt n).toArray.toList)) = idx := by
    show List.map _ (idx.map fun (n : Nat) => rawInt n) = idx
    rw [List.map_map]
    refine Eq.trans (List.map_congr_left (g := id) fun n _ => ?_) (List.map_id _)
    show (n : Int).toNat = n
    rw [Int.toNat_natCast]
  show wpAny _ _ (pure (List.map (fun x => match x with | Value.int n tok => n.toNat | x => 0) (List.drop 3 ([.ref pool, rawInt st, res] ++ idx.map fun (n : Nat) => rawInt n).toArray.toList))) _ _ s
  rw [e]
  exact wpAny_pure h
theorem intField_comb {it pool : Addr} {st : Int} {res : Value} {idx : List Nat} {Q : Int → Shared → Prop} (hit : IsComb s.heap it pool st res idx) (h : Q st s) : wpAny (model prog w) A (Builtin.Itertools.itIntField (.ref it) 1) Q E s := by
  unfold Builtin.Itertools.itIntField
  refine wpAny_bind (wpAny_field hit rfl (x := rawInt st) rfl ?_)
  exact wpAny_pure h
theorem pool_comb {pool : Addr} {items : Array Value} {Q : Array Value → Shared → Prop} (hp : IsTup s.heap pool items) (h : Q items s) : wpAny (model prog w) A (Builtin.Itertools.itPoolItems (.ref pool)) Q E s := by
  obtain ⟨o, ho, hc, n, hd⟩ := hp
  unfold Builtin.Itertools.itPoolItems
  refine wpAny_bind (wpAny_seqItems ho hd ?_)
  exact wpAny_pure h
/-- the items at these places -/
def picked (items : Array Value) (idx : List Nat) : List Value := idx.map fun i => items.getD i .none
/-- the object behind a step that hands out -/
theorem comb_first {it pool : Addr} {items : Array Value} {idx : List Nat} {Q : Option Value → Shared → Prop} (hit : IsComb s.heap it pool 0 .none idx) (hp : IsTup s.heap pool items) (hne : it ≠ pool) (hz : idx.length ≤ 1000)
    (hQ : ∀ h', IsComb h' it pool 1 (.ref s.heap.objs.size) idx → h'.get? s.heap.objs.size = some { cls := .type "tuple", data := .seq (picked items idx).toArray } → (∀ b o, b ≠ it → s.heap.get? b = some o → h'.get? b = some o) → Q (some (.ref s.heap.objs.size)) { s with heap := h' }) : wpAny (model prog w) A (callSpecial? (.ref it) "__next__") Q E s := by
  have hT : s.TypeIs (.ref it) "itertools.combinations" := ⟨_, hit, rfl⟩
  refine wpAny_callSpecial?_slot (name := Str.ofString "__next__") hT slot_comb_next (wpAny_call_entry slot_comb_next hT entry_comb_next ?_ (args_comb_next _))
  show wpAny _ _ (field (.ref it) 0 >>= _) _ _ s
  refine wpAny_bind (wpAny_field hit rfl (x := .ref pool) rfl ?_)
  show wpAny _ _ (Builtin.Itertools.itNumbersFrom (.ref it) 3 >>= _) _ _ s
  refine wpAny_bind (numbers_comb hit ?_)
  show wpAny _ _ (Builtin.Itertools.itIntField (.ref it) 1 >>= _) _ _ s
  refine wpAny_bind (intField_comb hit ?_)
  show wpAny _ _ (setField (.ref it) 1 (rawInt 1) >>= _) _ _ s
  refine wpAny_bind (wpAny_setField hit rfl (by simp) ?_)
  have hit1 := hit.setSt (st' := 1)
  have oth : ∀ b o, b ≠ it → s.heap.get? b = some o → (s.heap.update it (Obj.mapFields fun a => a.setIfInBounds 1 (rawInt 1))).get? b = some o := fun b o hb e => (Heap.get?_update_other _ _ (Ne.symm hb)).trans e
  have hp1 : IsTup (s.heap.update it (Obj.mapFields fun a => a.setIfInBounds 1 (rawInt 1))) pool items := let ⟨o, ho, r⟩ := hp; ⟨o, oth _ o (Ne.symm hne) ho, r⟩
  have hsz : (s.heap.update it (Obj.mapFields fun a => a.setIfInBounds 1 (rawInt 1))).objs.size = s.heap.objs.size := Heap.size_update ..
  generalize s.heap.update it (Obj.mapFields fun a => a.setIfInBounds 1 (rawInt 1)) = h1 at *
  show wpAny _ _ ((Builtin.Itertools.itPoolItems (.ref pool) >>= fun items => newTuple (idx.map fun i => items.getD i .none)) >>= _) _ _ _
  refine wpAny_bind (wpAny_bind (pool_comb hp1 ?_))
  refine wpAny_newTuple ?_ (by rw [List.length_map]; exact Nat.le_trans hz (by decide))
  have hit2 : IsComb (h1.push { cls := .type "tuple", data := .seq (picked items idx).toArray }) it pool 1 .none idx := Heap.get?_push_of_some _ hit1
  show wpAny _ _ (field (.ref it) 2 >>= _) _ _ _
  refine wpAny_bind (wpAny_field hit2 rfl (x := .none) rfl ?_)
  show wpAny _ _ (setField (.ref it) 2 (.ref h1.objs.size) >>= _) _ _ _
  refine wpAny_bind (wpAny_setField hit2 rfl (by simp) ?_)
  show wpAny _ _ (letGo _ _ >>= _) _ _ _
  refine wpAny_bind (wpAny_letGo ?_)
  show wpAny _ _ (ret (.ref h1.objs.size)) _ _ _
  have hit3 := hit2.setRes (res' := .ref h1.objs.size)
  have hlt : it ≠ h1.objs.size := Nat.ne_of_lt (Heap.lt_size hit1)
  have hnew : (h1.push { cls := .type "tuple", data := .seq (picked items idx).toArray }).get? h1.objs.size = some { cls := .type "tuple", data := .seq (picked items idx).toArray } := Heap.get?_push_size _ rfl
  refine wpAny_pure ⟨_, rfl, ?_⟩
  rw [hsz] at *
  refine hQ _ hit3 ?_ fun b o hb e => ?_
  · exact (Heap.get?_update_other _ _ hlt).trans hnew
  · exact (Heap.get?_update_other _ _ (Ne.symm hb)).trans (Heap.get?_push_of_some _ (oth b o hb e))
theorem IsComb.setIdx {h : Heap} {it pool : Addr} {st : Int} {res : Value} {idx idx' : List Nat} (x : IsComb h it pool st res idx) : IsComb (h.update it (Obj.mapFields fun fs => fs.extract 0 3 ++ (idx'.map fun (n : Nat) => rawInt n).toArray)) it pool st res idx' := by
  have e := Heap.get?_update_self (Obj.mapFields fun fs => fs.extract 0 3 ++ (idx'.map fun (n : Nat) => rawInt n).toArray) x rfl
  unfold IsComb
  rw [e]
  simp [Obj.mapFields]
/-- can the i-th place still grow -/
def grows (n : Nat) (ps : List Nat) (i : Nat) : Bool := ps.getD i 0 != i + n - ps.length
/-- the i-th place grown by one, those behind it right after -/
def grown (ps : List Nat) (i : Nat) : List Nat := ps.take i ++ (List.range (ps.length - i)).map fun k => ps.getD i 0 + 1 + k
/-- the places behind these, if there are any: the last that can grow grows -/
def nextC (n : Nat) (ps : List Nat) : Option (List Nat) :=
  match (List.range ps.length).reverse.find? (grows n ps) with
  | none => none
  | some i => some (grown ps i)
theorem nextC_len {n : Nat} {idx idx' : List Nat} (h : nextC n idx = some idx') : idx'.length = idx.length := by
  unfold nextC at h
  cases e : (List.range idx.length).reverse.find? (grows n idx) with
  | none => rw [e] at h; cases h
  | some i =>
    rw [e] at h
    cases h
    have := List.mem_of_find?_eq_some e
    rw [List.mem_reverse, List.mem_range] at this
    unfold grown
    rw [List.length_append, List.length_take, List.length_map, List.length_range]
    omega
theorem comb_more {it pool : Addr} {items : Array Value} {idx idx' : List Nat} {res : Value} {Q : Option Value → Shared → Prop} (hit : IsComb s.heap it pool 1 res idx) (hp : IsTup s.heap pool items) (hne : it ≠ pool) (hz : idx.length ≤ 1000) (hn : nextC items.size idx = some idx')
    (hQ : ∀ h', IsComb h' it pool 1 (.ref s.heap.objs.size) idx' → h'.get? s.heap.objs.size = some { cls := .type "tuple", data := .seq (picked items idx').toArray } → (∀ b o, b ≠ it → s.heap.get? b = some o → h'.get? b = some o) → Q (some (.ref s.heap.objs.size)) { s with heap := h' }) : wpAny (model prog w) A (callSpecial? (.ref it) "__next__") Q E s := by
  have hT : s.TypeIs (.ref it) "itertools.combinations" := ⟨_, hit, rfl⟩
  have hl := nextC_len hn
  refine wpAny_callSpecial?_slot (name := Str.ofString "__next__") hT slot_comb_next (wpAny_call_entry slot_comb_next hT entry_comb_next ?_ (args_comb_next _))
  show wpAny _ _ (field (.ref it) 0 >>= _) _ _ s
  refine wpAny_bind (wpAny_field hit rfl (x := .ref pool) rfl ?_)
  show wpAny _ _ (Builtin.Itertools.itNumbersFrom (.ref it) 3 >>= _) _ _ s
  refine wpAny_bind (numbers_comb hit ?_)
  show wpAny _ _ (Builtin.Itertools.itIntField (.ref it) 1 >>= _) _ _ s
  refine wpAny_bind (intField_comb hit ?_)
  show wpAny _ _ (Builtin.Itertools.itPoolItems (.ref pool) >>= _) _ _ s
  refine wpAny_bind (pool_comb hp ?_)
  show wpAny _ _ (match nextC items.size idx with | some next => _ | none => _) _ _ s
  rw [hn]
  show wpAny _ _ (updateFields it (fun fs => fs.extract 0 3 ++ (idx'.map fun (n : Nat) => rawInt n).toArray) >>= _) _ _ s
  refine wpAny_bind (wpAny_updateFields hit rfl ?_ (by have hq : 1000 ≤ sizeLine := (by decide); simp; omega))
  have hit1 := hit.setIdx (idx' := idx')
  have oth : ∀ b o, b ≠ it → s.heap.get? b = some o → (s.heap.update it (Obj.mapFields fun fs => fs.extract 0 3 ++ (idx'.map fun (n : Nat) => rawInt n).toArray)).get? b = some o := fun b o hb e => (Heap.get?_update_other _ _ (Ne.symm hb)).trans e
  have hp1 : IsTup (s.heap.update it (Obj.mapFields fun fs => fs.extract 0 3 ++ (idx'.map fun (n : Nat) => rawInt n).toArray)) pool items := let ⟨o, ho, r⟩ := hp; ⟨o, oth _ o (Ne.symm hne) ho, r⟩
  have hsz : (s.heap.update it (Obj.mapFields fun fs => fs.extract 0 3 ++ (idx'.map fun (n : Nat) => rawInt n).toArray)).objs.size = s.heap.objs.size := Heap.size_update ..
  generalize s.heap.update it (Obj.mapFields fun fs => fs.extract 0 3 ++ (idx'.map fun (n : Nat) => rawInt n).toArray) = h1 at *
  show wpAny _ _ ((Builtin.Itertools.itPoolItems (.ref pool) >>= fun items => newTuple (idx'.map fun i => items.getD i .none)) >>= _) _ _ _
  refine wpAny_bind (wpAny_bind (pool_comb hp1 ?_))
  refine wpAny_newTuple ?_ (by rw [List.length_map, hl]; exact Nat.le_trans hz (by decide))
  have hit2 : IsComb (h1.push { cls := .type "tuple", data := .seq (picked items idx').toArray }) it pool 1 res idx' := Heap.get?_push_of_some _ hit1
  show wpAny _ _ (field (.ref it) 2 >>= _) _ _ _
  refine wpAny_bind (wpAny_field hit2 rfl (x := res) rfl ?_)
  show wpAny _ _ (setField (.ref it) 2 (.ref h1.objs.size) >>= _) _ _ _
  refine wpAny_bind (wpAny_setField hit2 rfl (by simp) ?_)
  show wpAny _ _ (letGo _ _ >>= _) _ _ _
  refine wpAny_bind (wpAny_letGo ?_)
  show wpAny _ _ (ret (.ref h1.objs.size)) _ _ _
  have hit3 := hit2.setRes (res' := .ref h1.objs.size)
  have hlt : it ≠ h1.objs.size := Nat.ne_of_lt (Heap.lt_size hit1)
  have hnew : (h1.push { cls := .type "tuple", data := .seq (picked items idx').toArray }).get? h1.objs.size = some { cls := .type "tuple", data := .seq (picked items idx').toArray } := Heap.get?_push_size _ rfl
  refine wpAny_pure ⟨_, rfl, ?_⟩
  rw [hsz] at *
  refine hQ _ hit3 ?_ fun b o hb e => ?_
  · exact (Heap.get?_update_other _ _ hlt).trans hnew
  · exact (Heap.get?_update_other _ _ (Ne.symm hb)).trans (Heap.get?_push_of_some _ (oth b o hb e))
theorem stop_ (hh : A.handled = none) {α : Type} {Q : α → Shared → Prop} (hQ : ∀ e h', CpRep.StopE e h' → (∀ b o, s.heap.get? b = some o → h'.get? b = some o) → E e { s with heap := h' }) : wpAny (model prog w) A (Builtin.Itertools.itStop (α := α)) Q E s := by
  unfold Builtin.Itertools.itStop
  refine wpAny_bind ?_
  show wpAny _ _ (newExc (.type "StopIteration") []) _ _ _
  simp only [newExc, newTuple]
  refine wpAny_bind (wpAny_newObj_type ?_ (by size_fits))
  refine wpAny_bind (m := firstArgMember _ _) (wpAny_of_eq (a := Value.none) (by first | rfl | (simp only [firstArgMember]; rfl)) ?_)
  refine wpAny_newObj_type ?_ (by size_fits)
  simp only [raiseNew]
  refine wpAny_bind (wpAny_handled ?_)
  first | rw [show A.handled = none from hh] | rw [hh]
  refine wpAny_bind (wpAny_pure (wpAny_throw ?_))
  exact hQ _ _ ⟨_, _, _, rfl, Heap.get?_push_size _ rfl, rfl, rfl, rfl⟩ fun b o e => Heap.get?_push_of_some _ (Heap.get?_push_of_some _ e)
theorem comb_end (hh : A.handled = none) {it pool : Addr} {items : Array Value} {idx : List Nat} {res : Value} {Q : Option Value → Shared → Prop} (hit : IsComb s.heap it pool 1 res idx) (hp : IsTup s.heap pool items) (hn : nextC items.size idx = none)
    (hQ : ∀ e h', CpRep.StopE e h' → (∀ b o, b ≠ it → s.heap.get? b = some o → h'.get? b = some o) → E e { s with heap := h' }) : wpAny (model prog w) A (callSpecial? (.ref it) "__next__") Q E s := by
  have hT : s.TypeIs (.ref it) "itertools.combinations" := ⟨_, hit, rfl⟩
  refine wpAny_callSpecial?_slot (name := Str.ofString "__next__") hT slot_comb_next (wpAny_call_entry slot_comb_next hT entry_comb_next ?_ (args_comb_next _))
  show wpAny _ _ (field (.ref it) 0 >>= _) _ _ s
  refine wpAny_bind (wpAny_field hit rfl (x := .ref pool) rfl ?_)
  show wpAny _ _ (Builtin.Itertools.itNumbersFrom (.ref it) 3 >>= _) _ _ s
  refine wpAny_bind (numbers_comb hit ?_)
  show wpAny _ _ (Builtin.Itertools.itIntField (.ref it) 1 >>= _) _ _ s
  refine wpAny_bind (intField_comb hit ?_)
  show wpAny _ _ (Builtin.Itertools.itPoolItems (.ref pool) >>= _) _ _ s
  refine wpAny_bind (pool_comb hp ?_)
  show wpAny _ _ (match nextC items.size idx with | some next => _ | none => _) _ _ s
  rw [hn]
  show wpAny _ _ (setField (.ref it) 1 (rawInt 2) >>= _) _ _ s
  refine wpAny_bind (wpAny_setField hit rfl (by simp) ?_)
  exact stop_ (A := A.in1) hh fun e h' hs hk => hQ e h' hs fun b o hb he => hk b o ((Heap.get?_update_other _ _ (Ne.symm hb)).trans he)
theorem comb_over (hh : A.handled = none) {it pool : Addr} {idx : List Nat} {res : Value} {Q : Option Value → Shared → Prop} (hit : IsComb s.heap it pool 2 res idx)
    (hQ : ∀ e h', CpRep.StopE e h' → (∀ b o, s.heap.get? b = some o → h'.get? b = some o) → E e { s with heap := h' }) : wpAny (model prog w) A (callSpecial? (.ref it) "__next__") Q E s := by
  have hT : s.TypeIs (.ref it) "itertools.combinations" := ⟨_, hit, rfl⟩
  refine wpAny_callSpecial?_slot (name := Str.ofString "__next__") hT slot_comb_next (wpAny_call_entry slot_comb_next hT entry_comb_next ?_ (args_comb_next _))
  show wpAny _ _ (field (.ref it) 0 >>= _) _ _ s
  refine wpAny_bind (wpAny_field hit rfl (x := .ref pool) rfl ?_)
  show wpAny _ _ (Builtin.Itertools.itNumbersFrom (.ref it) 3 >>= _) _ _ s
  refine wpAny_bind (numbers_comb hit ?_)
  show wpAny _ _ (Builtin.Itertools.itIntField (.ref it) 1 >>= _) _ _ s
  refine wpAny_bind (intField_comb hit ?_)
  show wpAny _ _ (rule _ >>= _) _ _ s
  refine wpAny_bind (wpAny_rule ?_)
  exact stop_ (A := A.in1) hh hQ
end
section
variable {prog : Program} {w : World} {A : Around} {E : Value → Shared → Prop} {s : Shared}
theorem size_1 (m : Nat) : Builtin.Range.rangeSize 0 (m : Int) 1 = m := by unfold Builtin.Range.rangeSize; simp; omega
theorem small_1 {m : Nat} (hm : m ≤ 1000) : Builtin.Range.small 0 (m : Int) 1 = true := by
  have f : ∀ z : Int, 0 ≤ z → z ≤ 2000 → Builtin.Range.rangeFitsLong z = true := fun z h0 h1 => by
    unfold Builtin.Range.rangeFitsLong
    simp
    omega
  unfold Builtin.Range.small
  rw [size_1, f 0 (by omega) (by omega), f m (by omega) (by omega), f 1 (by omega) (by omega), if_pos (by omega), f ((m : Int) + (1 - 1)) (by omega) (by omega)]
  simp
theorem code_comb {r : Addr} {m many : Nat} {t u v x : Tok} {Q₁ : Value → Shared → Prop} (hh : A.handled = none) (hr : IsRange s.heap r 0 (m : Int) 1 u v x) (hm : m ≤ 1000) (hmany : many ≤ 1000)
    (h : ∀ (h' : Heap) (tk : Nat) (it pool : Addr) (items : Array Value), it ≠ pool → s.heap.get? it = none → IsComb h' it pool (if many > m then 2 else 0) .none (List.range many) → IsTup h' pool items → ItemsOf (fun i v => ∃ t, v = .int (0 + i * 1) t) items m → (∀ b o, s.heap.get? b = some o → h'.get? b = some o) → Q₁ (.ref it) { s with heap := h', toks := tk }) :
    codeAny (model prog w) A (.call (.builtin "itertools.combinations.__new__") ⟨[.type "itertools.combinations", .ref r, .int many t], []⟩) (wants Q₁ E) s := by
  refine codeAny_of_tree ?_
  show wpAny _ A.in1 (do checkBuiltinCall "itertools.combinations.__new__" ⟨[.type "itertools.combinations", .ref r, .int many t], []⟩; again (.builtin "itertools.combinations.__new__" ⟨[.type "itertools.combinations", .ref r, .int many t], []⟩)) _ _ s
  refine wpAny_bind (wpAny_of_eq (newCall_comb_2 _ _) (wpAny_pure ⟨plainId_quiet (by decide +kernel) _, codeAny_builtin entry_comb_new ?_⟩))
  unfold Builtin.«itertools.combinations.__new__»
  rw [Around.under_plainId (by decide +kernel) _]
  show wpAny _ A.in1 ((Builtin.Itertools.itClassAndRest "combinations" ⟨[.type "itertools.combinations", .ref r, .int many t], []⟩ >>= _) >>= _) _ _ s
  refine wpAny_bind (wpAny_bind (wpAny_of_eq (a := (Value.type "itertools.combinations", [Value.ref r, Value.int (many : Int) t])) (by first | rfl | kernel_rfl) ?_))
  try dsimp only
  refine wpAny_bind (wpAny_of_eq (a := [some (Value.ref r), some (Value.int (many : Int) t)]) (by first | rfl | kernel_rfl) ?_)
  try dsimp only
  refine wpAny_bind ?_
  unfold Builtin.Itertools.itSsizeArg
  have hb : (decide ((many : Int) < -2 ^ 63) || decide ((many : Int) ≥ 2 ^ 63)) = false := by
    rw [decide_eq_false (by omega), decide_eq_false (by omega)]
    rfl
  refine wpAny_bind (wpAny_of_eq (a := (many : Int)) (by first | rfl | kernel_rfl) ?_)
  show wpAny _ A.in1 (if (decide ((many : Int) < -2 ^ 63) || decide ((many : Int) ≥ 2 ^ 63)) = true then _ else _) _ _ s
  rw [hb]
  refine wpAny_pure ?_
  refine wpAny_bind (L2.collect_range (n := m) hh hr (small_1 hm) (size_1 m) (by omega) fun h' tk acc hk hacc => ?_)
  show wpAny _ A.in1 (if (many : Int) < 0 then _ else _) _ _ _
  rw [if_neg (by omega)]
  show wpAny _ A.in1 (if Builtin.Itertools.itTooMany (many : Int) = true then _ else _) _ _ _
  rw [if_neg (by unfold Builtin.Itertools.itTooMany; simp; omega)]
  have hal : acc.toList.length = m := by rw [Array.length_toList]; exact hacc.1
  refine wpAny_bind (wpAny_newTuple ?_ (by rw [hal]; exact Nat.le_trans hm (by decide)))
  refine wpAny_pure ?_
  rw [hal, Int.toNat_natCast]
  show wpAny _ A.in1 (Builtin.Itertools.itNewRecord (.type "itertools.combinations") ([.ref h'.objs.size, rawInt (if many > m then 2 else 0), .none] ++ (List.range many).map fun (i : Nat) => rawInt i) >>= _) _ _ _
  unfold Builtin.Itertools.itNewRecord
  rw [noDict_comb]
  rw [if_pos (show (!false) = true from rfl)]
  refine wpAny_bind (wpAny_newObj_type ?ok ?sz)
  case sz =>
    show Array.size _ ≤ sizeLine + 2
    rw [List.size_toArray, List.length_append, List.length_map, List.length_range]
    exact Nat.le_trans (show 3 + many ≤ 2000 by omega) (by decide)
  case ok =>
    refine wpAny_pure ?_
    have hlt : (h'.push { cls := .type "tuple", data := .seq acc.toList.toArray }).objs.size ≠ h'.objs.size := by
      rw [Heap.size_push]
      omega
    have hfr : s.heap.get? (h'.push { cls := .type "tuple", data := .seq acc.toList.toArray }).objs.size = none := by
      cases e : s.heap.get? (h'.push { cls := .type "tuple", data := .seq acc.toList.toArray }).objs.size with
      | none => rfl
      | some o =>
        exact absurd (Nat.lt_of_lt_of_eq (Nat.lt_succ_self h'.objs.size) (Heap.size_push h' _).symm) (Nat.not_lt.mpr (Nat.le_of_lt (Heap.lt_size (hk _ o e))))
    refine h _ _ _ h'.objs.size acc hlt hfr (Heap.get?_push_size _ rfl) ⟨_, Heap.get?_push_of_some _ (Heap.get?_push_size _ rfl), rfl, _, by rw [Array.toArray_toList]⟩ hacc fun b o e => Heap.get?_push_of_some _ (Heap.get?_push_of_some _ (hk b o e))
theorem call_comb {r : Addr} {m many : Nat} {t u v x : Tok} {Q : Value → Shared → Prop} (hh : A.handled = none) (hr : IsRange s.heap r 0 (m : Int) 1 u v x) (hm : m ≤ 1000) (hmany : many ≤ 1000)
    (h : ∀ (h' : Heap) (tk : Nat) (it pool : Addr) (items : Array Value), it ≠ pool → s.heap.get? it = none → IsComb h' it pool (if many > m then 2 else 0) .none (List.range many) → IsTup h' pool items → ItemsOf (fun i v => ∃ t, v = .int (0 + i * 1) t) items m → (∀ b o, s.heap.get? b = some o → h'.get? b = some o) → Q (.ref it) { s with heap := h', toks := tk }) :
    wpAny (model prog w) A (call (.type "itertools.combinations") [.ref r, .int many t]) Q E s := by
  refine callType_codes (Q₁ := fun obj s₁ => s₁.TypeIs obj "itertools.combinations" ∧ Q obj s₁) called_comb (typeCall_comb_2 _ _) F.entry_object_init
    (code_comb (A := A.in1) hh hr hm hmany fun h' tk it pool items hne hfr hit hp hi hk => ⟨⟨_, hit, rfl⟩, h h' tk it pool items hne hfr hit hp hi hk⟩) fun obj s₁ h₁ => ?_
  exact ⟨h₁.1, F.args_object_init_3 obj _ _, object_init_meets called_comb.init.lookup called_comb.made (by decide) prog w A.in1 _ s₁ ⟨h₁.1, rfl, h₁.2⟩⟩
end
section
variable {prog : Program} {w : World} {A : Around} {E : Value → Shared → Prop} {s : Shared}
theorem pyNext_gives {it v : Value} {Q : Option Value → Shared → Prop} (h : ∀ (E : Value → Shared → Prop) (Q' : Option Value → Shared → Prop), (∀ s', Q (some v) s' → Q' (some v) s') → wpAny (model prog w) A (callSpecial? it "__next__") Q' E s) : wpAny (model prog w) A (pyNext it) Q E s := by
  unfold pyNext
  refine wpAny_bind (wpAny_attempt (h _ _ fun s' hq => ?_))
  exact wpAny_pure hq
theorem pyNext_ends {it : Value} {Q : Option Value → Shared → Prop} (h : ∀ (E : Value → Shared → Prop) (Q' : Option Value → Shared → Prop), (∀ e h', CpRep.StopE e h' → Q none { s with heap := h' } → E e { s with heap := h' }) → wpAny (model prog w) A (callSpecial? it "__next__") Q' E s) : wpAny (model prog w) A (pyNext it) Q E s := by
  unfold pyNext
  refine wpAny_bind (wpAny_attempt (h _ _ fun e h' hs hq => ?_))
  obtain ⟨a, o, vs, rfl, ho, hc, _⟩ := hs
  show wpAny _ _ (isInstance (.ref a) (.type "StopIteration") >>= _) _ _ _
  refine wpAny_bind (wpAny_isInstance (T := "StopIteration") (b := true) ⟨o, ho, hc⟩ isSubtype_stop ?_)
  exact wpAny_pure hq
/-- the rows of places behind these -/
inductive Rows (n : Nat) : List Nat → List (List Nat) → Prop where
  | done {idx} (h : nextC n idx = none) : Rows n idx []
  | more {idx idx' rows} (h : nextC n idx = some idx') (r : Rows n idx' rows) : Rows n idx (idx' :: rows)
/-- what the list holds: tuples of these items, made one after another behind the list itself -/
structure TupsAt (h : Heap) (it S : Addr) (acc : Array Value) (rows : List (List Value)) : Prop where
  len : acc.size = rows.length
  at_ : ∀ (i : Nat) v d, acc[i]? = some v → rows[i]? = some d → ∃ a, v = .ref a ∧ a ≠ it ∧ S < a ∧ h.get? a = some { cls := .type "tuple", data := .seq d.toArray }
  ord : ∀ (i j : Nat) a b, i < j → acc[i]? = some (.ref a) → acc[j]? = some (.ref b) → a < b
theorem TupsAt.keep {h h' : Heap} {it S : Addr} {acc : Array Value} {rows : List (List Value)} (x : TupsAt h it S acc rows) (k : ∀ b o, b ≠ it → b ≠ S → h.get? b = some o → h'.get? b = some o) : TupsAt h' it S acc rows :=
  ⟨x.len, fun i v d h1 h2 => by
    obtain ⟨a, e, n1, n2, g⟩ := x.at_ i v d h1 h2
    exact ⟨a, e, n1, n2, k a _ n1 (Nat.ne_of_gt n2) g⟩, x.ord⟩
theorem TupsAt.lt {h : Heap} {it S : Addr} {acc : Array Value} {rows : List (List Value)} (x : TupsAt h it S acc rows) (i : Nat) (b : Addr) (e : acc[i]? = some (.ref b)) : b < h.objs.size := by
  have hl := x.len
  have hi := (Array.getElem?_eq_some_iff.mp e).1
  obtain ⟨a, ea, _, _, g⟩ := x.at_ i _ _ e (List.getElem?_eq_getElem (by omega))
  cases ea
  exact Heap.lt_size g
theorem TupsAt.push {h : Heap} {it S a : Addr} {acc : Array Value} {rows : List (List Value)} {d : List Value} (x : TupsAt h it S acc rows) (n1 : a ≠ it) (n2 : S < a) (lt : ∀ (i : Nat) b, acc[i]? = some (.ref b) → b < a) (g : h.get? a = some { cls := .type "tuple", data := .seq d.toArray }) : TupsAt h it S (acc.push (.ref a)) (rows ++ [d]) := by
  have hl := x.len
  refine ⟨by rw [Array.size_push, List.length_append, x.len]; rfl, fun i v d' h1 h2 => ?_, fun i j b b' hij h1 h2 => ?_⟩
  · rw [Array.getElem?_push] at h1
    by_cases hi : i = acc.size
    · rw [if_pos hi] at h1
      cases h1
      rw [hi, hl, List.getElem?_append_right (Nat.le_refl _), Nat.sub_self] at h2
      cases h2
      exact ⟨a, rfl, n1, n2, g⟩
    · rw [if_neg hi] at h1
      have : i < rows.length := by
        have := (Array.getElem?_eq_some_iff.mp h1).1
        omega
      rw [List.getElem?_append_left this] at h2
      exact x.at_ i v d' h1 h2
  · rw [Array.getElem?_push] at h1 h2
    by_cases hj : j = acc.size
    · rw [if_neg (by omega)] at h1
      rw [if_pos hj] at h2
      cases h2
      exact lt i b h1
    · rw [if_neg hj] at h2
      have := (Array.getElem?_eq_some_iff.mp h2).1
      rw [if_neg (by omega)] at h1
      exact x.ord i j b b' hij h1 h2
theorem loop_comb (hh : A.handled = none) {it pool S : Addr} {items : Array Value} (hne : it ≠ pool) (hS1 : S ≠ it) (hS2 : S ≠ pool) {res : Value} {R : Result → Shared → Prop} : ∀ (rows : List (List Nat)) (idx : List Nat) (s : Shared) (acc : Array Value) (done : List (List Value)) (c : Nat) (last : Value),
    IsComb s.heap it pool 1 last idx → IsTup s.heap pool items → Rows items.size idx rows → idx.length ≤ 1000 → s.heap.get? S = some { cls := .type "list", dict := none, data := .seq acc c, slots := #[] } → TupsAt s.heap it S acc done → acc.size + rows.length ≤ sizeLine →
    (∀ h' acc' c', h'.get? S = some { cls := .type "list", dict := none, data := .seq acc' c', slots := #[] } → TupsAt h' it S acc' (done ++ rows.map (picked items)) → (∀ b o, b ≠ it → b ≠ S → s.heap.get? b = some o → h'.get? b = some o) → R (.ok (.ret res)) { s with heap := h' }) →
    codeAny (model prog w) A (.builtin "list.extend.loop" ⟨[.ref S, .ref it, res], []⟩) R s := by
  intro rows
  induction rows with
  | nil =>
    intro idx s acc done c last hit hp hr hz hS hT hn hR
    cases hr with
    | done hnx =>
    refine codeAny_builtin F.entry_extend_loop ?_
    rw [Around.under_plainId F.plain_extend_loop _]
    show wpAny _ A.in1 (pyNext (.ref it) >>= _) _ _ s
    refine wpAny_bind (pyNext_ends fun E' Q' hq => comb_end (A := A.in1) hh hit hp hnx fun e h' hs hk => hq e h' hs ?_)
    refine wpAny_pure (hR h' acc c (hk S _ hS1 hS) ?_ fun b o n1 n2 e => hk b o n1 e)
    rw [List.map_nil, List.append_nil]
    exact hT.keep fun b o n1 n2 e => hk b o n1 e
  | cons row rows ih =>
    intro idx s acc done c last hit hp hr hz hS hT hn hR
    cases hr with
    | more hnx hr2 =>
    refine codeAny_builtin F.entry_extend_loop ?_
    rw [Around.under_plainId F.plain_extend_loop _]
    show wpAny _ A.in1 (pyNext (.ref it) >>= _) _ _ s
    refine wpAny_bind (pyNext_gives (v := .ref s.heap.objs.size) fun E' Q' hq => comb_more hit hp hne hz hnx fun h' hit' hnew hk => hq _ ?_)
    have hS' := hk S _ hS1 hS
    show wpAny _ A.in1 (updateSeq S (·.push (.ref s.heap.objs.size)) >>= _) _ _ _
    refine wpAny_bind ?_
    have hlen := nextC_len hnx
    have gS : S < s.heap.objs.size := Heap.lt_size hS
    have nS : s.heap.objs.size ≠ S := Nat.ne_of_gt gS
    have nI : s.heap.objs.size ≠ it := Nat.ne_of_gt (Heap.lt_size hit)
    have hTl := hT.len
    rw [List.length_cons] at hn
    have oth : ∀ b o, b ≠ S → h'.get? b = some o → (h'.update S (Obj.mapSeq fun x => x.push (Value.ref s.heap.objs.size))).get? b = some o := fun b o hb e => (Heap.get?_update_other _ _ (Ne.symm hb)).trans e
    refine wpAny_updateSeq hS' rfl (wpAny_pure ⟨plainId_quiet F.plain_extend_loop _, ih row { s with heap := h'.update S (Obj.mapSeq fun x => x.push (Value.ref s.heap.objs.size)) } (acc.push (.ref s.heap.objs.size)) (done ++ [picked items row]) _ _ (oth _ _ (Ne.symm hS1) hit') ?_ hr2 (by omega) (Heap.get?_update_self _ hS' rfl) ?_ (by rw [Array.size_push]; omega) fun h'' acc' c' hS'' hT'' hk'' => ?_⟩)
      (by omega) (by show (acc.push _).size ≤ sizeLine + 1; rw [Array.size_push]; omega)
    · obtain ⟨o, ho, r⟩ := hp
      exact ⟨o, oth _ _ (Ne.symm hS2) (hk _ _ (Ne.symm hne) ho), r⟩
    · exact (hT.keep fun b o n1 n2 e => oth b o n2 (hk b o n1 e)).push nI gS (fun i b e => hT.lt i b e) (oth _ _ nS hnew)
    · refine hR h'' acc' c' hS'' ?_ fun b o n1 n2 e => hk'' b o n1 n2 (oth b o n2 (hk b o n1 e))
      rw [List.map_cons]
      rw [List.append_assoc] at hT''
      exact hT''
end
section
variable {prog : Program} {w : World} {A : Around} {E : Value → Shared → Prop} {s : Shared}
/-- all rows of many places out of m -/
def AllRows (m many : Nat) (all : List (List Nat)) : Prop := (many > m ∧ all = []) ∨ (¬ many > m ∧ ∃ rows, Rows m (List.range many) rows ∧ all = List.range many :: rows)
theorem loop0_comb (hh : A.handled = none) {it pool S : Addr} {items : Array Value} {m many : Nat} {all : List (List Nat)} {c : Nat} {res : Value} {R : Result → Shared → Prop} (hne : it ≠ pool) (hS1 : S ≠ it) (hS2 : S ≠ pool) (hm : items.size = m) (hmany : many ≤ 1000)
    (hit : IsComb s.heap it pool (if many > m then 2 else 0) .none (List.range many)) (hp : IsTup s.heap pool items) (ha : AllRows m many all) (hn : all.length ≤ sizeLine) (hS : s.heap.get? S = some { cls := .type "list", dict := none, data := .seq #[] c, slots := #[] })
    (hR : ∀ h' acc' c', h'.get? S = some { cls := .type "list", dict := none, data := .seq acc' c', slots := #[] } → TupsAt h' it S acc' (all.map (picked items)) → (∀ b o, b ≠ it → b ≠ S → s.heap.get? b = some o → h'.get? b = some o) → R (.ok (.ret res)) { s with heap := h' }) :
    codeAny (model prog w) A (.builtin "list.extend.loop" ⟨[.ref S, .ref it, res], []⟩) R s := by
  refine codeAny_builtin F.entry_extend_loop ?_
  rw [Around.under_plainId F.plain_extend_loop _]
  show wpAny _ A.in1 (pyNext (.ref it) >>= _) _ _ s
  rcases ha with ⟨h1, rfl⟩ | ⟨h1, rows, hr, rfl⟩
  · rw [if_pos h1] at hit
    refine wpAny_bind (pyNext_ends fun E' Q' hq => comb_over (A := A.in1) hh hit fun e h' hs hk => hq e h' hs ?_)
    exact wpAny_pure (hR h' #[] c (hk S _ hS) ⟨rfl, fun i v d h => by simp at h, fun i j a b _ h => by simp at h⟩ fun b o n1 n2 e => hk b o e)
  · rw [if_neg h1] at hit
    refine wpAny_bind (pyNext_gives (v := .ref s.heap.objs.size) fun E' Q' hq => comb_first hit hp hne (by rw [List.length_range]; exact hmany) fun h' hit' hnew hk => hq _ ?_)
    have hS' := hk S _ hS1 hS
    show wpAny _ A.in1 (updateSeq S (·.push (.ref s.heap.objs.size)) >>= _) _ _ _
    refine wpAny_bind ?_
    have gS : S < s.heap.objs.size := Heap.lt_size hS
    have nS : s.heap.objs.size ≠ S := Nat.ne_of_gt gS
    have nI : s.heap.objs.size ≠ it := Nat.ne_of_gt (Heap.lt_size hit)
    rw [List.length_cons] at hn
    have oth : ∀ b o, b ≠ S → h'.get? b = some o → (h'.update S (Obj.mapSeq fun x => x.push (Value.ref s.heap.objs.size))).get? b = some o := fun b o hb e => (Heap.get?_update_other _ _ (Ne.symm hb)).trans e
    have hT : TupsAt s.heap it S #[] [] := ⟨rfl, fun i v d h => by simp at h, fun i j a b _ h => by simp at h⟩
    refine wpAny_updateSeq hS' rfl (wpAny_pure ⟨plainId_quiet F.plain_extend_loop _, loop_comb hh hne hS1 hS2 rows (List.range many) { s with heap := h'.update S (Obj.mapSeq fun x => x.push (Value.ref s.heap.objs.size)) } (#[].push (.ref s.heap.objs.size)) ([] ++ [picked items (List.range many)]) _ _ (oth _ _ (Ne.symm hS1) hit') ?_ (by rw [hm]; exact hr) (by rw [List.length_range]; exact hmany) (Heap.get?_update_self _ hS' rfl) ?_ (by rw [Array.size_push]; simp; omega) fun h'' acc' c' hS'' hT'' hk'' => ?_⟩)
      (by simp) (by show (Array.push #[] _).size ≤ sizeLine + 1; rw [Array.size_push]; simp)
    · obtain ⟨o, ho, r⟩ := hp
      exact ⟨o, oth _ _ (Ne.symm hS2) (hk _ _ (Ne.symm hne) ho), r⟩
    · exact (hT.keep fun b o n1 n2 e => oth b o n2 (hk b o n1 e)).push nI gS (fun i b e => hT.lt i b e) (oth _ _ nS hnew)
    · refine hR h'' acc' c' hS'' ?_ fun b o n1 n2 e => hk'' b o n1 n2 (oth b o n2 (hk b o n1 e))
      rw [List.map_cons]
      exact hT''
theorem extend_comb (hh : A.handled = none) {it pool S : Addr} {items : Array Value} {m many : Nat} {all : List (List Nat)} {c₀ : Nat} {res : Value} {R : Result → Shared → Prop} (hne : it ≠ pool) (hS1 : S ≠ it) (hS2 : S ≠ pool) (hm : items.size = m) (hmany : many ≤ 1000)
    (hit : IsComb s.heap it pool (if many > m then 2 else 0) .none (List.range many)) (hp : IsTup s.heap pool items) (ha : AllRows m many all) (hn : all.length ≤ sizeLine) (hS : s.heap.get? S = some { cls := .type "list", data := .seq #[] c₀ })
    (hR : ∀ h' acc' c', h'.get? S = some { cls := .type "list", dict := none, data := .seq acc' c', slots := #[] } → TupsAt h' it S acc' (all.map (picked items)) → (∀ b o, b ≠ it → b ≠ S → s.heap.get? b = some o → h'.get? b = some o) → R (.ok (.ret res)) { s with heap := h' }) :
    wpAny (model prog w) A.in1 (Builtin.List.listExtendWith (.ref S) (.ref it) res)
      (fun fin s' => match fin with | .done f => R (.ok f) s' | .again c' => c'.quiet = true ∧ codeAny (model prog w) A c' R s') (fun e s' => R (.error e) s') s := by
  have hT : s.TypeIs (.ref it) "itertools.combinations" := ⟨_, hit, rfl⟩
  unfold Builtin.List.listExtendWith
  refine wpAny_bind (wpAny_typeOf hT ?_)
  have h1 : Builtin.List.listSameRef (.ref S) (.ref it) = false := by simp [Builtin.List.listSameRef, hS1]
  have h2 : (Value.type "itertools.combinations" == Value.type "list") = false := by decide
  have h3 : (Value.type "itertools.combinations" == Value.type "tuple") = false := by decide
  simp only [h1, h2, h3, Bool.or_false, Bool.false_eq_true, if_false]
  refine wpAny_bind (iter_comb hit ?_)
  refine wpAny_bind (wpAny_holding ?_)
  unfold Builtin.List.listLengthHint
  refine wpAny_bind (wpAny_specialOf hT noLen_comb ?_)
  show wpAny _ A.in1 (specialOf (Value.ref it) (Str.ofString "__length_hint__") >>= _) _ _ _
  refine wpAny_bind (wpAny_specialOf hT noHint_comb ?_)
  refine wpAny_pure ?_
  show wpAny _ A.in1 (rule "list.extend.makes-room" >>= fun _ => Builtin.List.listTouch (.ref S) >>= fun _ =>
    again (.builtin "list.extend.loop" ⟨[.ref S, .ref it, res], []⟩)) _ _ _
  refine wpAny_bind (wpAny_rule ?_)
  refine wpAny_bind ?_
  show wpAny _ A.in1 (updateSeq S (·.push .none) >>= fun _ => updateSeq S (·.pop)) _ _ _
  refine wpAny_bind (wpAny_updateSeq hS rfl ?_)
  have hS₂ := Heap.get?_update_self (Obj.mapSeq (·.push Value.none)) hS rfl
  refine wpAny_updateSeq (hz := by seq_fits) hS₂ rfl ?_
  have hS₃ := Heap.get?_update_self (Obj.mapSeq (·.pop)) hS₂ rfl
  have oth : ∀ b o, b ≠ S → s.heap.get? b = some o → ((s.heap.update S (Obj.mapSeq (·.push Value.none))).update S (Obj.mapSeq (·.pop))).get? b = some o :=
    fun b o hb e => (Heap.get?_update_other _ _ (Ne.symm hb)).trans ((Heap.get?_update_other _ _ (Ne.symm hb)).trans e)
  refine wpAny_pure ⟨plainId_quiet F.plain_extend_loop _, loop0_comb (s := { s with heap := (s.heap.update S (Obj.mapSeq (·.push Value.none))).update S (Obj.mapSeq (·.pop)) }) hh hne hS1 hS2 hm hmany (oth _ _ (Ne.symm hS1) hit) ?_ ha hn hS₃ fun h' acc' c' hS' hT' hk' => ?_⟩
  · obtain ⟨o, ho, r⟩ := hp
    exact ⟨o, oth _ _ (Ne.symm hS2) ho, r⟩
  · exact hR h' acc' c' hS' hT' fun b o n1 n2 e => hk' b o n1 n2 (oth b o n2 e)
end
section
variable {prog : Program} {w : World} {A : Around} {E : Value → Shared → Prop} {s : Shared}
theorem init_comb (hh : A.handled = none) {it pool S : Addr} {items : Array Value} {m many : Nat} {all : List (List Nat)} {R : Result → Shared → Prop} (hne : it ≠ pool) (hS1 : S ≠ it) (hS2 : S ≠ pool) (hm : items.size = m) (hmany : many ≤ 1000)
    (hit : IsComb s.heap it pool (if many > m then 2 else 0) .none (List.range many)) (hp : IsTup s.heap pool items) (ha : AllRows m many all) (hn : all.length ≤ sizeLine) (hS : s.heap.get? S = some { cls := .type "list", data := .seq #[] })
    (hR : ∀ h' acc' c', h'.get? S = some { cls := .type "list", dict := none, data := .seq acc' c', slots := #[] } → TupsAt h' it S acc' (all.map (picked items)) → (∀ b o, b ≠ it → b ≠ S → s.heap.get? b = some o → h'.get? b = some o) → R (.ok (.ret .none)) { s with heap := h' }) :
    wpAny (model prog w) A.in1 (Builtin.«list.__init__» ⟨[.ref S, .ref it], []⟩)
      (fun fin s' => match fin with | .done f => R (.ok f) s' | .again c' => c'.quiet = true ∧ codeAny (model prog w) A c' R s') (fun e s' => R (.error e) s') s := by
  show wpAny _ A.in1 (do let old ← Builtin.List.listItems (.ref S); Builtin.List.listUpdate (.ref S) (fun _ => #[]); letGo old.toList.reverse; Builtin.List.listExtendWith (.ref S) (.ref it) .none) _ _ s
  refine wpAny_bind ?_
  unfold Builtin.List.listItems
  refine wpAny_bind (wpAny_seqItems hS rfl (wpAny_pure ?_))
  show wpAny _ A.in1 (updateSeq S (fun _ => #[]) >>= fun _ => letGo (#[] : Array Value).toList.reverse >>= fun _ => Builtin.List.listExtendWith (.ref S) (.ref it) .none) _ _ s
  refine wpAny_bind (wpAny_updateSeq hS rfl ?_)
  have hS₂ := Heap.get?_update_self (Obj.mapSeq (fun _ => (#[] : Array Value))) hS rfl
  have oth : ∀ b o, b ≠ S → s.heap.get? b = some o → (s.heap.update S (Obj.mapSeq (fun _ => (#[] : Array Value)))).get? b = some o :=
    fun b o hb e => (Heap.get?_update_other _ _ (Ne.symm hb)).trans e
  refine wpAny_bind (wpAny_letGo ?_)
  refine extend_comb (s := { s with heap := s.heap.update S (Obj.mapSeq (fun _ => (#[] : Array Value))) }) hh hne hS1 hS2 hm hmany (oth _ _ (Ne.symm hS1) hit) ?_ ha hn hS₂ fun h' acc' c' hS' hT' hk' => hR h' acc' c' hS' hT' fun b o n1 n2 e => hk' b o n1 n2 (oth b o n2 e)
  obtain ⟨o, ho, r⟩ := hp
  exact ⟨o, oth _ _ (Ne.symm hS2) ho, r⟩
theorem call_list_comb (hh : A.handled = none) {it pool : Addr} {items : Array Value} {m many : Nat} {all : List (List Nat)} {Q : Value → Shared → Prop} (hne : it ≠ pool) (hm : items.size = m) (hmany : many ≤ 1000)
    (hit : IsComb s.heap it pool (if many > m then 2 else 0) .none (List.range many)) (hp : IsTup s.heap pool items) (ha : AllRows m many all) (hn : all.length ≤ sizeLine)
    (hQ : ∀ h' acc' c', h'.get? s.heap.objs.size = some { cls := .type "list", dict := none, data := .seq acc' c', slots := #[] } → TupsAt h' it s.heap.objs.size acc' (all.map (picked items)) → (∀ b o, b ≠ it → s.heap.get? b = some o → h'.get? b = some o) → Q (.ref s.heap.objs.size) { s with heap := h' }) :
    wpAny (model prog w) A (call (.type "list") [.ref it]) Q E s := by
  have hS1 : s.heap.objs.size ≠ it := Nat.ne_of_gt (Heap.lt_size hit)
  have hS2 : s.heap.objs.size ≠ pool := by
    obtain ⟨o, ho, _⟩ := hp
    exact Nat.ne_of_gt (Heap.lt_size ho)
  refine callType_codes (Q₁ := fun obj s₁ => obj = .ref s.heap.objs.size ∧ s₁ = { s with heap := s.heap.push { cls := .type "list", data := .seq #[] } }) F.called_list (F.typeCall_list_1 _) F.entry_list_init
    (code_list_new _ ⟨rfl, rfl⟩) fun obj s₁ h₁ => ?_
  obtain ⟨rfl, rfl⟩ := h₁
  have hS : (s.heap.push { cls := .type "list", data := .seq #[] }).get? s.heap.objs.size = some { cls := .type "list", data := .seq #[] } := Heap.get?_push_size _ rfl
  refine ⟨⟨_, hS, rfl⟩, F.args_list_init_2 _ _, init_comb (A := A.in1) (s := { s with heap := s.heap.push { cls := .type "list", data := .seq #[] } }) hh hne hS1 hS2 hm hmany (Heap.get?_push_of_some _ hit) (hp.keeps fun b o e => Heap.get?_push_of_some _ e) ha hn hS fun h' acc' c' hS' hT' hk' => ?_⟩
  exact ⟨rfl, hQ h' acc' c' hS' hT' fun b o n1 e => hk' b o n1 (Nat.ne_of_lt (Heap.lt_size e)) (Heap.get?_push_of_some _ e)⟩
end
end CpComb

set_option Elab.async false
set_option linter.all false
set_option maxRecDepth 100000
set_option maxHeartbeats 4000000
/-! rising rows of unlike numbers below n, in order: the mathematics of combinations -/
namespace CpComb
/-- the rising rows of k numbers from n - g on, below n -/
def C (n : Nat) : Nat → Nat → List (List Nat)
  | _, 0 => [[]]
  | 0, _ + 1 => []
  | g + 1, k + 1 => ((C n g k).map fun r => (n - (g + 1)) :: r) ++ C n g (k + 1)
theorem C_zero {n g : Nat} : C n g 0 = [[]] := by cases g <;> rfl
theorem C_none {n : Nat} : ∀ g k : Nat, g < k → C n g k = []
  | 0, k + 1, _ => rfl
  | g + 1, k + 1, h => by
    show (C n g k).map _ ++ C n g (k + 1) = []
    rw [C_none g k (by omega), C_none g (k + 1) (by omega)]
    rfl
theorem nextC_nil {n : Nat} : nextC n [] = none := rfl
theorem grows_cons {n x : Nat} {r : List Nat} (i : Nat) : grows n (x :: r) (i + 1) = grows n r i := by
  unfold grows
  have e : (x :: r).getD (i + 1) 0 = r.getD i 0 := rfl
  rw [e, List.length_cons]
  have : i + 1 + n - (r.length + 1) = i + n - r.length := by omega
  rw [this]
theorem find_map {α β : Type} {f : α → β} {p : β → Bool} : ∀ l : List α, (l.map f).find? p = (l.find? fun x => p (f x)).map f
  | [] => rfl
  | a :: l => by
    rw [List.map_cons, List.find?_cons, List.find?_cons]
    cases p (f a) with
    | true => rfl
    | false => exact find_map l
theorem nextC_cons {n x : Nat} {r : List Nat} : nextC n (x :: r) = match nextC n r with
    | some r' => some (x :: r')
    | none => if (x != n - (r.length + 1)) = true then some ((List.range (r.length + 1)).map fun k => x + 1 + k) else none := by
  unfold nextC
  rw [List.length_cons, List.range_succ_eq_map, List.reverse_cons, List.find?_append, ← List.map_reverse, find_map]
  have e : (fun i => grows n (x :: r) (Nat.succ i)) = grows n r := by
    funext i
    exact grows_cons i
  rw [e]
  cases h : (List.range r.length).reverse.find? (grows n r) with
  | some i =>
    show some (grown (x :: r) (i + 1)) = some (x :: grown r i)
    unfold grown
    rw [List.take_succ_cons, List.length_cons, Nat.add_sub_add_right]
    rfl
  | none =>
    have e0 : grows n (x :: r) 0 = (x != n - (r.length + 1)) := by
      unfold grows
      rw [List.length_cons, Nat.zero_add]
      rfl
    show (match ((none : Option Nat).map Nat.succ).or (List.find? (grows n (x :: r)) [0]) with | none => none | some i => some (grown (x :: r) i)) = _
    rw [List.find?_cons, e0]
    cases (x != n - (r.length + 1)) with
    | true =>
      show some (grown (x :: r) 0) = some _
      unfold grown
      rw [List.take_zero, List.length_cons, List.nil_append, Nat.sub_zero, List.range_succ_eq_map]
      rfl
    | false => rfl
/-- row by row from a to z -/
inductive Ch (n : Nat) : List Nat → List (List Nat) → List Nat → Prop where
  | one {a} : Ch n a [] a
  | more {a b rows z} (h : nextC n a = some b) (r : Ch n b rows z) : Ch n a (b :: rows) z
theorem Ch.cons {n x : Nat} {a z : List Nat} {rows : List (List Nat)} (h : Ch n a rows z) : Ch n (x :: a) (rows.map fun r => x :: r) (x :: z) := by
  induction h with
  | one => exact .one
  | more e _ ih => exact .more (by rw [nextC_cons, e]) ih
theorem Ch.append {n : Nat} {a b c z : List Nat} {r1 r2 : List (List Nat)} (h1 : Ch n a r1 b) (e : nextC n b = some c) (h2 : Ch n c r2 z) : Ch n a (r1 ++ c :: r2) z := by
  induction h1 with
  | one => exact .more e h2
  | more e1 _ ih => exact .more e1 (ih e)
theorem Ch.rows {n : Nat} {a z : List Nat} {r : List (List Nat)} (h : Ch n a r z) (e : nextC n z = none) : Rows n a r := by
  induction h with
  | one => exact .done e
  | more e1 _ ih => exact .more e1 (ih e)
theorem Ch.len {n : Nat} {a z : List Nat} {r : List (List Nat)} (h : Ch n a r z) : z.length = a.length := by
  induction h with
  | one => rfl
  | more e1 _ ih => rw [ih, nextC_len e1]
theorem C_chain {n : Nat} : ∀ g k : Nat, g ≤ n → k ≤ g → ∃ rest z, C n g k = ((List.range k).map fun i => n - g + i) :: rest ∧ Ch n ((List.range k).map fun i => n - g + i) rest z ∧ nextC n z = none
  | g, 0, _, _ => ⟨[], [], by rw [C_zero]; rfl, .one, rfl⟩
  | g + 1, k + 1, hn, hk => by
    obtain ⟨rest, z, e, c, nz⟩ := C_chain (n := n) g k (by omega) (by omega)
    have e0 : ((List.range (k + 1)).map fun i => n - (g + 1) + i) = (n - (g + 1)) :: ((List.range k).map fun i => n - g + i) := by
      rw [List.range_succ_eq_map, List.map_cons, List.map_map]
      refine congrArg (List.cons _) (List.map_congr_left fun i _ => ?_)
      show n - (g + 1) + (i + 1) = n - g + i
      omega
    have zl : z.length = k := by rw [c.len, List.length_map, List.length_range]
    by_cases hg : k + 1 ≤ g
    · obtain ⟨rest2, z2, e2, c2, nz2⟩ := C_chain (n := n) g (k + 1) (by omega) hg
      refine ⟨rest.map (fun r => (n - (g + 1)) :: r) ++ ((List.range (k + 1)).map fun i => n - g + i) :: rest2, z2, ?_, ?_, nz2⟩
      · show (C n g k).map _ ++ C n g (k + 1) = _
        rw [e, e2, e0]
        rfl
      · rw [e0]
        refine c.cons.append ?_ c2
        rw [nextC_cons, nz, zl]
        show (if (n - (g + 1) != n - (k + 1)) = true then some _ else none) = some _
        rw [if_pos (by simp; omega)]
        refine congrArg some (List.map_congr_left fun i _ => ?_)
        omega
    · refine ⟨rest.map (fun r => (n - (g + 1)) :: r), (n - (g + 1)) :: z, ?_, ?_, ?_⟩
      · show (C n g k).map _ ++ C n g (k + 1) = _
        rw [e, C_none g (k + 1) (by omega), e0, List.append_nil]
        rfl
      · rw [e0]
        exact c.cons
      · rw [nextC_cons, nz, zl]
        show (if (n - (g + 1) != n - (k + 1)) = true then some _ else none) = none
        rw [if_neg (by simp; omega)]
theorem allRows (m many : Nat) : AllRows m many (C m m many) := by
  by_cases h : many > m
  · exact .inl ⟨h, C_none m many h⟩
  · obtain ⟨rest, z, e, c, nz⟩ := C_chain (n := m) m many (Nat.le_refl _) (by omega)
    have e0 : ((List.range many).map fun i => m - m + i) = List.range many := by
      conv => rhs; rw [← List.map_id (List.range many)]
      exact List.map_congr_left fun i _ => by show m - m + i = i; omega
    rw [e0] at e c
    exact .inr ⟨h, rest, c.rows nz, e⟩
/-- what may follow a row: the numbers behind its last one (of the empty one: from n - g on) -/
def ext (n g : Nat) (r : List Nat) : List (List Nat) := ((List.range n).filter fun i => match r.getLast? with | none => decide (n - g ≤ i) | some l => decide (l < i)).map fun i => r ++ [i]
theorem ext_cons {n g : Nat} (hg : g + 1 ≤ n) (r : List Nat) : ext n (g + 1) ((n - (g + 1)) :: r) = (ext n g r).map fun r => (n - (g + 1)) :: r := by
  unfold ext
  rw [List.map_map]
  have e : ((List.range n).filter fun i => match ((n - (g + 1)) :: r).getLast? with | none => decide (n - (g + 1) ≤ i) | some l => decide (l < i)) = ((List.range n).filter fun i => match r.getLast? with | none => decide (n - g ≤ i) | some l => decide (l < i)) := by
    refine List.filter_congr fun i _ => ?_
    cases r with
    | nil =>
      show decide (n - (g + 1) < i) = decide (n - g ≤ i)
      exact decide_eq_decide.mpr (by omega)
    | cons a r => rw [List.getLast?_cons_cons]; cases h : (a :: r).getLast? with
      | none => simp at h
      | some l => rfl
  rw [e]
  rfl
theorem ext_same {n g g' : Nat} {r : List Nat} (h : r ≠ []) : ext n g r = ext n g' r := by
  unfold ext
  cases r with
  | nil => exact absurd rfl h
  | cons a r => cases h : (a :: r).getLast? with
    | none => simp at h
    | some l => rfl
theorem C_len {n : Nat} : ∀ g k r, r ∈ C n g k → r.length = k
  | g, 0, r, h => by rw [C_zero] at h; rw [List.mem_singleton.mp h]; rfl
  | 0, k + 1, r, h => nomatch h
  | g + 1, k + 1, r, h => by
    rcases List.mem_append.mp (show r ∈ (C n g k).map _ ++ C n g (k + 1) from h) with h | h
    · obtain ⟨r', hr, rfl⟩ := List.mem_map.mp h
      rw [List.length_cons, C_len g k r' hr]
    · exact C_len g (k + 1) r h
theorem C_one {n : Nat} : ∀ g, g ≤ n → C n g 1 = ext n g []
  | 0, _ => by
    show [] = _
    unfold ext
    rw [List.filter_eq_nil_iff.mpr]
    · rfl
    · intro i hi
      have := List.mem_range.mp hi
      show ¬ decide (n - 0 ≤ i) = true
      simp; omega
  | g + 1, hg => by
    show (C n g 0).map _ ++ C n g 1 = _
    rw [C_zero, C_one g (by omega)]
    unfold ext
    show [[n - (g + 1)]] ++ ((List.range n).filter fun i => decide (n - g ≤ i)).map (fun i => [i]) = ((List.range n).filter fun i => decide (n - (g + 1) ≤ i)).map fun i => [i]
    have key : (List.range n).filter (fun i => decide (n - (g + 1) ≤ i)) = (n - (g + 1)) :: (List.range n).filter (fun i => decide (n - g ≤ i)) := by
      have s : List.range n = List.range (n - (g + 1)) ++ (n - (g + 1)) :: (List.range g).map (fun i => n - g + i) := by
        have h1 : n = (n - (g + 1)) + (1 + g) := by omega
        conv => lhs; rw [h1]
        rw [List.range_add, List.range_add]
        show _ ++ (List.map _ (List.range 1 ++ _)) = _
        rw [List.map_append, List.map_map]
        show _ ++ ([n - (g + 1) + 0] ++ _) = _
        rw [Nat.add_zero]
        refine congrArg _ (congrArg (List.cons _) (List.map_congr_left fun i _ => ?_))
        show n - (g + 1) + (1 + i) = n - g + i
        omega
      rw [s, List.filter_append, List.filter_append, List.filter_cons, List.filter_cons]
      have f1 : (List.range (n - (g + 1))).filter (fun i => decide (n - (g + 1) ≤ i)) = [] := List.filter_eq_nil_iff.mpr fun i hi => by have := List.mem_range.mp hi; simp; omega
      have f2 : (List.range (n - (g + 1))).filter (fun i => decide (n - g ≤ i)) = [] := List.filter_eq_nil_iff.mpr fun i hi => by have := List.mem_range.mp hi; simp; omega
      have f3 : ((List.range g).map fun i => n - g + i).filter (fun i => decide (n - (g + 1) ≤ i)) = (List.range g).map fun i => n - g + i := List.filter_eq_self.mpr fun i hi => by
        obtain ⟨j, _, rfl⟩ := List.mem_map.mp hi
        simp; omega
      have f4 : ((List.range g).map fun i => n - g + i).filter (fun i => decide (n - g ≤ i)) = (List.range g).map fun i => n - g + i := List.filter_eq_self.mpr fun i hi => by
        obtain ⟨j, _, rfl⟩ := List.mem_map.mp hi
        simp
      rw [f1, f2, f3, f4, if_pos (by simp), if_neg (by simp; omega)]
      rfl
    rw [key]
    rfl
theorem C_ext {n : Nat} : ∀ k g, g ≤ n → C n g (k + 1) = (C n g k).flatMap (ext n g)
  | 0, g, h => by
    rw [C_zero, C_one g h]
    show _ = ext n g [] ++ []
    rw [List.append_nil]
  | k + 1, 0, h => rfl
  | k + 1, g + 1, h => by
    show (C n g (k + 1)).map _ ++ C n g (k + 2) = ((C n g k).map _ ++ C n g (k + 1)).flatMap (ext n (g + 1))
    rw [List.flatMap_append, List.flatMap_map, C_ext k g (by omega), C_ext (k + 1) g (by omega), List.map_flatMap]
    congr 1
    · refine congrArg (fun f => List.flatMap f (C n g k)) (funext fun r => (ext_cons h r).symm)
    · rw [← C_ext k g (by omega)]
      have e : ∀ r ∈ C n g (k + 1), ext n g r = ext n (g + 1) r := fun r hr => ext_same fun z => by
        have := C_len g (k + 1) r hr
        rw [z] at this
        cases this
      rw [List.flatMap_def, List.flatMap_def, List.map_congr_left e]
theorem C_lt {n : Nat} : ∀ g k r x, g ≤ n → r ∈ C n g k → x ∈ r → n - g ≤ x ∧ x < n
  | g, 0, r, x, _, h, hx => by rw [C_zero] at h; rw [List.mem_singleton.mp h] at hx; nomatch hx
  | 0, k + 1, r, x, _, h, _ => nomatch h
  | g + 1, k + 1, r, x, hg, h, hx => by
    rcases List.mem_append.mp (show r ∈ (C n g k).map _ ++ C n g (k + 1) from h) with h | h
    · obtain ⟨r', hr, rfl⟩ := List.mem_map.mp h
      rcases List.mem_cons.mp hx with rfl | hx
      · omega
      · have := C_lt g k r' x (by omega) hr hx
        omega
    · have := C_lt g (k + 1) r x (by omega) h hx
      omega
/-- rising rows -/
theorem mem_C {n : Nat} : ∀ g k r, g ≤ n → (r ∈ C n g k ↔ r.length = k ∧ List.Pairwise (· < ·) r ∧ ∀ x ∈ r, n - g ≤ x ∧ x < n)
  | g, 0, r, _ => by
    rw [C_zero, List.mem_singleton]
    constructor
    · rintro rfl; exact ⟨rfl, .nil, fun _ h => nomatch h⟩
    · rintro ⟨h, _, _⟩; exact List.length_eq_zero_iff.mp h
  | 0, k + 1, r, _ => by
    constructor
    · intro h; nomatch h
    · rintro ⟨h, _, h2⟩
      cases r with
      | nil => cases h
      | cons a r => have := h2 a List.mem_cons_self; omega
  | g + 1, k + 1, r, hg => by
    show r ∈ (C n g k).map _ ++ C n g (k + 1) ↔ _
    rw [List.mem_append, mem_C g (k + 1) r (by omega), List.mem_map]
    constructor
    · rintro (⟨r', hr, rfl⟩ | ⟨h1, h2, h3⟩)
      · obtain ⟨h1, h2, h3⟩ := (mem_C g k r' (by omega)).mp hr
        refine ⟨by rw [List.length_cons, h1], List.pairwise_cons.mpr ⟨fun x hx => ?_, h2⟩, fun x hx => ?_⟩
        · have := h3 x hx; omega
        · rcases List.mem_cons.mp hx with rfl | hx
          · omega
          · have := h3 x hx; omega
      · exact ⟨h1, h2, fun x hx => by have := h3 x hx; omega⟩
    · rintro ⟨h1, h2, h3⟩
      cases r with
      | nil => cases h1
      | cons a r =>
        have ha := h3 a List.mem_cons_self
        obtain ⟨p1, p2⟩ := List.pairwise_cons.mp h2
        by_cases e : a = n - (g + 1)
        · refine .inl ⟨r, (mem_C g k r (by omega)).mpr ⟨Nat.succ.inj h1, p2, fun x hx => ?_⟩, by rw [e]⟩
          have := p1 x hx
          have := h3 x (List.mem_cons_of_mem _ hx)
          omega
        · refine .inr ⟨h1, h2, fun x hx => ?_⟩
          rcases List.mem_cons.mp hx with rfl | hx
          · omega
          · have := p1 x hx
            have := h3 x (List.mem_cons_of_mem _ hx)
            omega
theorem C_nodup {n : Nat} : ∀ g k, g ≤ n → (C n g k).Nodup
  | g, 0, _ => by rw [C_zero]; simp
  | 0, k + 1, _ => .nil
  | g + 1, k + 1, hg => by
    show ((C n g k).map _ ++ C n g (k + 1)).Nodup
    rw [List.nodup_append]
    refine ⟨List.Pairwise.map _ (fun a b h e => h (List.cons.inj e).2) (C_nodup (n := n) g k (by omega)), C_nodup (n := n) g (k + 1) (by omega), fun a ha b hb e => ?_⟩
    subst e
    obtain ⟨r, hr, rfl⟩ := List.mem_map.mp ha
    have := (C_lt g (k + 1) _ (n - (g + 1)) (by omega) hb List.mem_cons_self)
    omega
/-- the rising rows of k numbers below n -/
abbrev Cs (n k : Nat) : List (List Nat) := C n n k
theorem mem_Cs {n k : Nat} {r : List Nat} : r ∈ Cs n k ↔ r.length = k ∧ List.Pairwise (· < ·) r ∧ ∀ x ∈ r, x < n := by
  rw [mem_C n k r (Nat.le_refl _)]
  constructor
  · rintro ⟨h1, h2, h3⟩; exact ⟨h1, h2, fun x hx => (h3 x hx).2⟩
  · rintro ⟨h1, h2, h3⟩; exact ⟨h1, h2, fun x hx => ⟨by omega, h3 x hx⟩⟩
theorem Cs_ext (n k : Nat) : Cs n (k + 1) = (Cs n k).flatMap (ext n n) := C_ext k n (Nat.le_refl _)
theorem Cs_nodup (n k : Nat) : (Cs n k).Nodup := C_nodup n k (Nat.le_refl _)
end CpComb

set_option Elab.async false
set_option linter.all false
set_option maxRecDepth 100000
set_option maxHeartbeats 4000000
namespace Rg
open PySem PySem.Spec PyProof.Rows L2 CpComb
/-! ### many new objects at once -/
def updAll (H : Hp) : List (Addr × HO) → Hp
  | [] => H
  | (a, o) :: r => upd (updAll H r) a o
theorem updAll_not {H : Hp} {a : Addr} : ∀ {r : List (Addr × HO)}, a ∉ r.map (·.1) → updAll H r a = H a
  | [], _ => rfl
  | (b, o) :: r, h => by
    have h1 : a ≠ b := fun e => h (by rw [e]; exact List.mem_cons_self)
    show upd (updAll H r) b o a = H a
    rw [upd_ne h1]
    exact updAll_not fun z => h (List.mem_cons_of_mem _ z)
theorem updAll_mem {H : Hp} {a : Addr} {u : HO} : ∀ {r : List (Addr × HO)}, (r.map (·.1)).Nodup → (a, u) ∈ r → updAll H r a = some u
  | (b, o) :: r, nd, h => by
    obtain ⟨n1, n2⟩ := List.nodup_cons.mp (show (b :: r.map (·.1)).Nodup from nd)
    show upd (updAll H r) b o a = some u
    rcases List.mem_cons.mp h with e | h
    · cases e
      exact upd_same
    · rw [upd_ne (fun e => n1 (by rw [← e]; exact List.mem_map.mpr ⟨_, h, rfl⟩))]
      exact updAll_mem n2 h
section
variable {X : Cx} {pins : List (Addr × Obj)} {σ : List (Option V)} {H H' : Hp} {s : Shared} {h' : Heap}
theorem Inv.laidMany {t' : Nat} (I : L2.Inv X pins σ H s) (k : ∀ b u, s.heap.get? b = some u → h'.get? b = some u) (ex : ∀ b o, H b = some o → H' b = some o) (nw : ∀ b u, s.heap.get? b = some u → H b = none → H' b = none)
    (new : ∀ b o, H b = none → H' b = some o → ObjOk X.prog X.w H' h' b o) : L2.Inv X pins σ H' { s with heap := h', toks := t' } := by
  refine I.un ⟨fun b o e _ _ _ => k b o e, fun b o e _ _ _ => ⟨o.slots, k b o e⟩, fun b o e n _ => nw b o e n, fun b o e _ => ⟨o, k b o e⟩, fun b xs e => ex _ _ e, fun b o u' e => ex _ _ e, fun b ps e => ⟨#[], by rw [ex _ _ e]; simp⟩⟩ fun b o e => ?_
  cases q : H b with
  | none => exact new b o q e
  | some u =>
    have z := ex _ _ q
    rw [e] at z
    cases z
    exact (I.hok b _ q).stay (fun c v _ r => k c v r) (fun c r => ex _ _ r) fun c xs r => ex _ _ r
end
/-! ### list(combinations(range(m), many)) -/
def Csi (m many : Nat) : List (List Int) := (Cs m many).map fun r => r.map fun (i : Nat) => (i : Int)
theorem Csi_length {m many : Nat} : (Csi m many).length = (Cs m many).length := List.length_map ..
abbrev tupO (r : List Int) : HO := .tup (r.map V.int)
theorem vals_of_pick {items : Array Value} {m : Nat} (hi : ItemsOf (fun i v => ∃ t, v = .int (0 + i * 1) t) items m) : ∀ (r : List Nat), (∀ x ∈ r, x < m) → Vals ((r.map fun (i : Nat) => (i : Int)).map V.int) (picked items r)
  | [], _ => .nil
  | x :: r, h => by
    have hx := h x List.mem_cons_self
    have hs : x < items.size := by rw [hi.1]; exact hx
    refine .cons ?_ (vals_of_pick hi r fun y hy => h y (List.mem_cons_of_mem _ hy))
    obtain ⟨t, ht⟩ := hi.2 x items[x] (by rw [Array.getElem?_eq_getElem hs])
    refine ⟨t, ?_⟩
    have e : items.getD x .none = items[x] := by rw [Array.getD, dif_pos hs]; rfl
    show items.getD x .none = _
    rw [e, ht, Int.mul_one, Int.zero_add]
theorem zip_fst {α β : Type} : ∀ {xs : List α} {ys : List β}, xs.length = ys.length → (xs.zip ys).map (·.1) = xs
  | [], [], _ => rfl
  | x :: xs, y :: ys, h => by
    rw [List.zip_cons_cons, List.map_cons, zip_fst (by simpa using h)]
def okComb (m many : Nat) (H2 : Hp) (Q : VK) : Prop := m ≤ 1000 ∧ many ≤ 1000 ∧ (Cs m many).length ≤ 100000 ∧
  ∀ (as : List Addr) (q : Addr), as.length = (Csi m many).length → as.Nodup → (∀ a ∈ as, H2 a = none) → H2 q = none → q ∉ as → Q (.ref q) (upd (updAll H2 (as.zip ((Csi m many).map tupO))) q (.lst (as.map V.ref)))
def tComb (ta tb : TE) : L2.St → Hp → (Nat → Nat → Hp → Prop) → Prop := fun σ H R => ta σ H fun x H1 => ∃ m : Nat, x = .int (m : Int) ∧ m ≤ 1000 ∧ tb σ H1 fun y H2 => ∃ many : Nat, y = .int (many : Int) ∧ many ≤ 1000 ∧ R m many H2
def tLstComb (ta tb : TE) : TE := fun σ H Q => tComb ta tb σ H fun m many H2 => okComb m many H2 Q
structure Comb (X : Cx) (s2 s' : Shared) (it pool : Addr) (items : Array Value) (m many : Nat) : Prop where
  ne : it ≠ pool
  fr : s2.heap.get? it = none
  hit : IsComb s'.heap it pool (if many > m then 2 else 0) .none (List.range many)
  hp : IsTup s'.heap pool items
  hi : ItemsOf (fun i v => ∃ t, v = .int (0 + i * 1) t) items m
  hk : ∀ b o, s2.heap.get? b = some o → s'.heap.get? b = some o
  hs : ∃ h1 tk, s' = { s2 with heap := h1, toks := tk }
section
variable {X : Cx} {a b : Expr} {ta tb : TE}
theorem ev_comb {p2 p3 p4 p5 : Pos} (hc : X.calm = true) (hg2 : Gl X "combinations") (hm2 : X.mg "combinations" = some (.type "itertools.combinations")) (hg3 : Gl X "range") (hm3 : X.mg "range" = none) (ha : PE X a ta) (hb : PE X b tb)
    (na : starEach [a] X.env = (false, eval a X.env) :: starEach [] X.env) (nb : starEach [b] X.env = (false, eval b X.env) :: starEach [] X.env) (n2 : starEach [.Call (.Name "range" p3) [a] [] p4, b] X.env = (false, eval (.Call (.Name "range" p3) [a] [] p4) X.env) :: starEach [b] X.env) (hp : (backTo p5 (starEach [b] X.env)).any (·.1) = false)
    {pins : List (Addr × Obj)} {s : Shared} {σ : L2.St} {H : Hp} {R : Nat → Nat → Hp → Prop} (I : L2.Inv X pins σ H s) (h : tComb ta tb σ H R) :
    wpAny (model X.prog X.w) X.A (eval (.Call (.Name "combinations" p2) [.Call (.Name "range" p3) [a] [] p4, b] [] p5) X.env) (fun v s' => ∃ (it pool : Addr) (items : Array Value) (m many : Nat) (H2 : Hp) (s2 : Shared), v = .ref it ∧ L2.Inv X pins σ H2 s2 ∧ m ≤ 1000 ∧ many ≤ 1000 ∧ Comb X s2 s' it pool items m many ∧ R m many H2) X.xe s := by
  refine Call_ (ld_glob I hg2 hm2 (PyProof.Rows.callWith_type1 (args_cons ?_ n2) n2 hp))
  refine Call_ (ld_blt I hg3 hm3 boot_range (PyProof.Rows.callWith_type1 (one_arg ha I h (fun v s2 x H2 I2 r q => ?_) na) na))
  obtain ⟨m, rfl, hm', q⟩ := q
  obtain ⟨t, rfl⟩ := r
  refine call_range_1 ?_
  have k2 : ∀ b o, s2.heap.get? b = some o → (s2.heap.push { cls := .type "range", data := .fields #[.int 0 s2.toks, .int (m : Int) t, .int 1 (s2.toks + 1)] }).get? b = some o := fun b o e => Heap.get?_push_of_some _ e
  have I3 : L2.Inv X pins σ H2 { s2 with heap := s2.heap.push { cls := .type "range", data := .fields #[.int 0 s2.toks, .int (m : Int) t, .int 1 (s2.toks + 1)] }, toks := s2.toks + 1 + 1 } := I2.kept k2
  have I4 : L2.Inv X ((s2.heap.objs.size, { cls := .type "range", data := .fields #[.int 0 s2.toks, .int (m : Int) t, .int 1 (s2.toks + 1)] }) :: pins) σ H2 { s2 with heap := s2.heap.push { cls := .type "range", data := .fields #[.int 0 s2.toks, .int (m : Int) t, .int 1 (s2.toks + 1)] }, toks := s2.toks + 1 + 1 } := I3.pins_of fun r hr => by
    rcases List.mem_cons.mp hr with e | e
    · subst e
      exact ⟨Heap.get?_push_size _ rfl, I2.hok.fresh (Nat.le_refl _), Nat.ne_of_gt I2.lt, I2.nofs (Nat.le_refl _), fun v z => nomatch z⟩
    · exact I3.pin r (List.mem_append_right _ e)
  refine args_cons (thn (hb.run _ _ σ H2 _ I4 q) fun v s5 ⟨y, H5, I5, r5, many, ey, hmany, hR⟩ => args_nil ?_) nb
  subst ey
  obtain ⟨t5, rfl⟩ := r5
  have I6 : L2.Inv X pins σ H5 s5 := I5.pins_of fun r hr => I5.pin r (List.mem_append_right _ (List.mem_cons_of_mem _ hr))
  have hr := (I5.pin (s2.heap.objs.size, { cls := .type "range", data := .fields #[.int 0 s2.toks, .int (m : Int) t, .int 1 (s2.toks + 1)] }) (List.mem_append_right _ List.mem_cons_self)).1
  exact call_comb (I6.ok.hd hc) hr hm' hmany fun h' tk it pool items hne hfr hit hpl hi hk => ⟨it, pool, items, m, many, H5, s5, rfl, I6, hm', hmany, ⟨hne, hfr, hit, hpl, hi, hk, ⟨_, _, rfl⟩⟩, hR⟩
theorem mem_zip_fst {α β : Type} : ∀ {xs : List α} {ys : List β} {i : Nat} {x : α} {y : β}, xs[i]? = some x → ys[i]? = some y → (x, y) ∈ xs.zip ys
  | x :: xs, y :: ys, 0, _, _, rfl, rfl => List.mem_cons_self
  | x :: xs, y :: ys, i + 1, _, _, h1, h2 => List.mem_cons_of_mem _ (mem_zip_fst (xs := xs) (ys := ys) (i := i) h1 h2)
theorem ref_list {acc : List Value} (h : ∀ v ∈ acc, ∃ a, v = .ref a) : ∃ as : List Addr, acc = as.map Value.ref := by
  induction acc with
  | nil => exact ⟨[], rfl⟩
  | cons v r ih =>
    obtain ⟨a, rfl⟩ := h v List.mem_cons_self
    obtain ⟨as, e⟩ := ih fun x hx => h x (List.mem_cons_of_mem _ hx)
    exact ⟨a :: as, by rw [e]; rfl⟩
theorem vals_refs : ∀ as : List Addr, Vals (as.map V.ref) (as.map Value.ref)
  | [] => .nil
  | a :: as => .cons rfl (vals_refs as)
theorem pe_listComb {p p2 p3 p4 p5 pos : Pos} (hc : X.calm = true) (hg : Gl X "list") (hm : X.mg "list" = none) (hg2 : Gl X "combinations") (hm2 : X.mg "combinations" = some (.type "itertools.combinations")) (hg3 : Gl X "range") (hm3 : X.mg "range" = none) (ha : PE X a ta) (hb : PE X b tb)
    (na : starEach [a] X.env = (false, eval a X.env) :: starEach [] X.env := by rfl) (nb : starEach [b] X.env = (false, eval b X.env) :: starEach [] X.env := by rfl) (hp : (backTo p5 (starEach [b] X.env)).any (·.1) = false := by rfl) :
    PE X (.Call (.Name "list" p) [.Call (.Name "combinations" p2) [.Call (.Name "range" p3) [a] [] p4, b] [] p5] [] pos) (tLstComb ta tb) := by
  refine ⟨fun pins s σ H Q I h => ?_⟩
  refine Call_ (ld_blt I hg hm boot_list (PyProof.Rows.callWith_type1 (args_cons (thn (ev_comb hc hg2 hm2 hg3 hm3 ha hb na nb rfl hp I h) fun v s' ⟨it, pool, items, m, many, H2, s2, ev, I2, hm', hmany, c, ok⟩ => args_nil ?_) rfl) rfl))
  subst ev
  obtain ⟨_, _, hlen, q⟩ := ok
  obtain ⟨h1, tk, es⟩ := c.hs
  have hd : X.A.handled = none := I2.ok.hd hc
  refine call_list_comb hd c.ne c.hi.1 hmany c.hit c.hp (allRows m many) (Nat.le_trans hlen (by decide)) fun h' acc c' hS hT hk => ?_
  have hpk : ∀ b o, s2.heap.get? b = some o → h'.get? b = some o := fun b o e => hk b o (fun z => by rw [z, c.fr] at e; cases e) (c.hk b o e)
  obtain ⟨as, eas⟩ := ref_list (acc := acc.toList) fun v hv => by
    obtain ⟨i, hi⟩ := List.getElem?_of_mem hv
    have hi' : acc[i]? = some v := by rw [← Array.getElem?_toList]; exact hi
    have hl := (Array.getElem?_eq_some_iff.mp hi').1
    have hl2 := hT.len
    obtain ⟨a, e, _⟩ := hT.at_ i v _ hi' (List.getElem?_eq_getElem (by omega))
    exact ⟨a, e⟩
  have hal : as.length = (Cs m many).length := by
    have := hT.len
    rw [← Array.length_toList, eas, List.length_map, List.length_map] at this
    exact this
  have acc_at : ∀ (i : Nat) a, as[i]? = some a → acc[i]? = some (.ref a) := fun i a e => by rw [← Array.getElem?_toList, eas, List.getElem?_map, e]; rfl
  have at_ : ∀ (i : Nat) a r, as[i]? = some a → (Cs m many)[i]? = some r → a ≠ it ∧ s'.heap.objs.size < a ∧ h'.get? a = some { cls := .type "tuple", data := .seq (picked items r).toArray } := fun i a r e1 e2 => by
    obtain ⟨b, eb, n1, n2, g⟩ := hT.at_ i _ (picked items r) (acc_at i a e1) (by rw [List.getElem?_map, e2]; rfl)
    cases eb
    exact ⟨n1, n2, g⟩
  have hnd : as.Nodup := by
    refine List.pairwise_iff_getElem.mpr fun i j hi hj hij e' => ?_
    have := hT.ord i j as[i] as[j] hij (acc_at i _ (List.getElem?_eq_getElem hi)) (acc_at j _ (List.getElem?_eq_getElem hj))
    rw [e'] at this
    exact absurd this (Nat.lt_irrefl _)
  have lt_ : ∀ a ∈ as, s'.heap.objs.size < a := fun a ha => by
    obtain ⟨i, hi⟩ := List.getElem?_of_mem ha
    have hl := (List.getElem?_eq_some_iff.mp hi).1
    exact (at_ i a _ hi (List.getElem?_eq_getElem (by omega))).2.1
  have Ik : L2.Inv X pins σ H2 s' := by
    rw [es]
    have hk' := c.hk
    rw [es] at hk'
    exact I2.kept hk'
  have fr : ∀ a, s'.heap.objs.size ≤ a → H2 a = none := fun a ha => Ik.hok.fresh ha
  have sfr : ∀ a, s'.heap.objs.size ≤ a → s2.heap.get? a = none := fun a ha => by
    cases e : s2.heap.get? a with
    | none => rfl
    | some o => exact absurd (Heap.lt_size (c.hk a o e)) (Nat.not_lt.mpr ha)
  have hkeys : (as.zip ((Csi m many).map tupO)).map (·.1) = as := zip_fst (by rw [hal, List.length_map, Csi_length])
  have hqn : s'.heap.objs.size ∉ as := fun hq => absurd (lt_ _ hq) (Nat.lt_irrefl _)
  refine ⟨.ref s'.heap.objs.size, _, ?_, rfl, q as s'.heap.objs.size (by rw [hal, Csi_length]) hnd (fun a ha => fr a (Nat.le_of_lt (lt_ a ha))) (fr _ (Nat.le_refl _)) hqn⟩
  have hs' : ({ s' with heap := h' } : Shared) = { s2 with heap := h', toks := s'.toks } := by rw [es]
  rw [hs']
  refine Rg.Inv.laidMany I2 hpk (fun b o e => ?_) (fun b u e n => ?_) fun b o n e => ?_
  · have hb : b < s'.heap.objs.size := Ik.hok.lt e
    rw [upd_ne (Nat.ne_of_lt hb), updAll_not (by rw [hkeys]; exact fun z => absurd (Nat.lt_trans (lt_ _ z) hb) (Nat.lt_irrefl _))]
    exact e
  · have hb : b < s'.heap.objs.size := Heap.lt_size (c.hk b u e)
    rw [upd_ne (Nat.ne_of_lt hb), updAll_not (by rw [hkeys]; exact fun z => absurd (Nat.lt_trans (lt_ _ z) hb) (Nat.lt_irrefl _))]
    exact n
  · by_cases hb : b = s'.heap.objs.size
    · subst hb
      rw [upd_same] at e
      cases e
      refine ⟨by rw [List.length_map, hal]; exact Nat.le_trans hlen (by decide), as.map Value.ref, c', vals_refs as, ?_⟩
      rw [← eas, Array.toArray_toList]
      exact hS
    · rw [upd_ne hb] at e
      by_cases hba : b ∈ as
      · obtain ⟨i, hi⟩ := List.getElem?_of_mem hba
        have hl := (List.getElem?_eq_some_iff.mp hi).1
        have hc2 : (Cs m many)[i]? = some ((Cs m many)[i]'(by omega)) := List.getElem?_eq_getElem (by omega)
        have hz : ((Csi m many).map tupO)[i]? = some (tupO (((Cs m many)[i]'(by omega)).map fun (i : Nat) => (i : Int))) := by
          unfold Csi
          rw [List.getElem?_map, List.getElem?_map, hc2]
          rfl
        have e2 := updAll_mem (H := H2) (by rw [hkeys]; exact hnd) (mem_zip_fst hi hz)
        rw [e] at e2
        cases e2
        have hmem : (Cs m many)[i]'(by omega) ∈ Cs m many := List.getElem_mem _
        have hlt := (mem_Cs.mp hmem)
        refine ⟨by rw [List.length_map, List.length_map, hlt.1]; exact Nat.le_trans hmany (by decide), picked items ((Cs m many)[i]'(by omega)), vals_of_pick c.hi _ hlt.2.2, _, (at_ i b _ hi hc2).2.2, rfl, _, rfl⟩
      · rw [updAll_not (by rw [hkeys]; exact hba)] at e
        rw [n] at e
        cases e
end
/-! ### with a ledger -/
theorem Lg.newAll {L : Led} {H : Hp} : ∀ (ps : List (Addr × HO)), Lg L H → (ps.map (·.1)).Nodup → (∀ a ∈ ps.map (·.1), H a = none) → Lg (ps ++ L) (updAll H ps)
  | [], k, _, _ => k
  | (a, o) :: ps, k, nd, fr => by
    obtain ⟨n1, n2⟩ := List.nodup_cons.mp (show (a :: ps.map (·.1)).Nodup from nd)
    exact (Lg.newAll ps k n2 fun b hb => fr b (List.mem_cons_of_mem _ hb)).new (by rw [updAll_not n1]; exact fr a List.mem_cons_self)
theorem Kn.newAll {d : Addr} {n : Nat} {L : Led} {H : Hp} (k : Kn d n L H) (ps : List (Addr × HO)) (nd : (ps.map (·.1)).Nodup) (fr : ∀ a ∈ ps.map (·.1), H a = none) : Kn d n (ps ++ L) (updAll H ps) := by
  obtain ⟨s, b, c, r, ns, l, e1, e2⟩ := k
  refine ⟨s, b, c, r, ns, (Lg.newAll ps l nd fr).perm ?_, e1, e2⟩
  exact (List.perm_append_comm_assoc ps [_, _] L)
end Rg

set_option Elab.async false
set_option linter.all false
set_option maxRecDepth 100000
set_option maxHeartbeats 4000000
namespace Rg
open PySem PySem.Spec PyProof.Rows L2
/-! ### dict(zip(xs, ys)) where xs holds unlike tuples -/
section
variable {κ : Type} [DecidableEq κ]
theorem atKey_none' {xs : List (κ × Addr × Value)} {k : κ} (h : k ∉ xs.map (·.1)) : atKey xs k = none := by
  unfold atKey
  have : xs.find? (fun x => decide (x.1 = k)) = none := List.find?_eq_none.mpr fun x hx e => h (List.mem_map.mpr ⟨x, hx, of_decide_eq_true e⟩)
  rw [this]
  rfl
theorem storedAll_new : ∀ (ps acc : List (κ × Addr × Value)), ((acc ++ ps).map (·.1)).Nodup → storedAllH acc ps = acc ++ ps
  | [], acc, _ => by rw [List.append_nil]; rfl
  | p :: ps, acc, h => by
    have hn : p.1 ∉ acc.map (·.1) := fun z => by
      rw [List.map_append, List.nodup_append] at h
      exact h.2.2 _ z _ List.mem_cons_self rfl
    show storedAllH (storedH acc p.1 p.2.1 p.2.2) ps = _
    rw [storedH_new (atKey_none' hn)]
    have e : acc ++ [(p.1, p.2.1, p.2.2)] = acc ++ [p] := rfl
    rw [e, storedAll_new ps (acc ++ [p]) (by rw [List.append_assoc]; exact h), List.append_assoc]
    rfl
end
def keyed (ks : List (List Key)) (ys : List V) : List (List Key × V) := ks.zip ys
def okDZ (K : PySem.W.Frag) (x y : V) (H : Hp) (Q : VK) : Prop := ∃ (p q : Addr) (as : List Addr) (ks : List (List Key)) (ys : List V), x = .ref p ∧ y = .ref q ∧ SqL K H p (as.map V.ref) ∧ SqL K H q ys ∧ as.length = ks.length ∧ ks.Nodup ∧
  (∀ (i : Nat) a k, as[i]? = some a → ks[i]? = some k → H a = some (.tup (k.map kV))) ∧ ∀ d, H d = none → Q (.ref d) (upd H d (.dT (ks.zip ys)))
def tDZ (K : PySem.W.Frag) (ta tb : TE) : TE := fun σ H Q => ta σ H fun x H1 => tb σ H1 fun y H2 => okDZ K x y H2 Q
theorem pairedZ {H : Hp} : ∀ (ks : List (List Key)) (as : List Addr) (ys : List V) (us : List Value), as.length = ks.length → Vals ys us → (∀ (i : Nat) a k, as[i]? = some a → ks[i]? = some k → H a = some (.tup (k.map kV))) → KT H (ks.zip ys) ((ks.zip (as.zip us)))
  | [], _, _, _, _, _, _ => .nil
  | k :: ks, [], _, _, h, _, _ => by simp at h
  | k :: ks, a :: as, [], [], _, _, _ => .nil
  | k :: ks, a :: as, y :: ys, u :: us, h, .cons r t, hk => .cons ⟨rfl, hk 0 a k rfl rfl, r⟩ (pairedZ ks as ys us (by simpa using h) t fun i b c e1 e2 => hk (i + 1) b c e1 e2)
theorem zip3_at : ∀ (ks : List (List Key)) (as : List Addr) (us : List Value) (i : Nat) (key v : Value), as.length = ks.length → (as.map Value.ref)[i]? = some key → us[i]? = some v → ∃ k b, (ks.zip (as.zip us))[i]? = some (k, b, v) ∧ key = .ref b
  | [], [], _, i, key, v, _, e1, _ => by simp at e1
  | k :: ks, a :: as, u :: us, 0, key, v, _, e1, e2 => by
    cases e1
    cases e2
    exact ⟨k, a, rfl, rfl⟩
  | k :: ks, a :: as, u :: us, i + 1, key, v, h, e1, e2 => zip3_at ks as us i key v (by simpa using h) e1 e2
theorem zip3_keys : ∀ (ks : List (List Key)) (as : List Addr) (us : List Value), ((ks.zip (as.zip us)).map (·.1)).Sublist ks
  | [], _, _ => List.Sublist.refl _
  | k :: ks, [], us => List.nil_sublist _
  | k :: ks, a :: as, [] => List.nil_sublist _
  | k :: ks, a :: as, u :: us => (zip3_keys ks as us).cons₂ k
theorem zip3_mem {H : Hp} : ∀ (ks : List (List Key)) (as : List Addr) (us : List Value) (x : List Key × Addr × Value), (∀ (i : Nat) a k, as[i]? = some a → ks[i]? = some k → H a = some (.tup (k.map kV))) → x ∈ ks.zip (as.zip us) → H x.2.1 = some (.tup (x.1.map kV))
  | k :: ks, a :: as, u :: us, x, hk, h => by
    rcases List.mem_cons.mp (show x ∈ (k, a, u) :: ks.zip (as.zip us) from h) with e | h
    · subst e
      exact hk 0 a k rfl rfl
    · exact zip3_mem ks as us x (fun i b c e1 e2 => hk (i + 1) b c e1 e2) h
theorem zipApart {N p q : Nat} (hp : p < N) (hq : q < N) : ZipApart (N + 4) (N + 2) (N + 3) N (N + 1) p q := by
  constructor <;> (intro e; have e' : (_ : Nat) = _ := e; omega)
theorem gt5 {N M b : Nat} (h : b < N) (e : M = N + 5) (z : b = M) : False := by omega
theorem le5 {N M : Nat} (e : M = N + 5) : N ≤ M := by omega
theorem big5 {N M b : Nat} (h : b < N) (e : M = N + 5) : (M == b) = false := by
  rw [beq_eq_false_iff_ne]
  omega
theorem old4 {N b : Nat} (h : b < N) (e : b = N + 4 ∨ b = N + 3 ∨ b = N ∨ b = N + 1) : False := by omega
section
variable {X : Cx} {a b : Expr} {ta tb : TE}
theorem pe_dictZip {p p2 p3 pos : Pos} (hc : X.calm = true) (hu : X.A.units + 64 < cLine) (hg : Gl X "dict") (hm : X.mg "dict" = none) (hg2 : Gl X "zip") (hm2 : X.mg "zip" = none) (ha : PE X a ta) (hb : PE X b tb)
    (na : starEach [a, b] X.env = (false, eval a X.env) :: starEach [b] X.env := by rfl) (nb : starEach [b] X.env = (false, eval b X.env) :: starEach [] X.env := by rfl) (hp : (backTo p3 (starEach [b] X.env)).any (·.1) = false := by rfl) :
    PE X (.Call (.Name "dict" p) [.Call (.Name "zip" p2) [a, b] [] p3] [] pos) (tDZ X.K ta tb) := by
  refine ⟨fun pins s σ H Q I h => ?_⟩
  refine Call_ (ld_blt I hg hm boot_dict (PyProof.Rows.callWith_type1 (args_cons ?_ rfl) rfl))
  refine Call_ (ld_blt (u := .type "zip") I hg2 hm2 (by decide +kernel) (PyProof.Rows.callWith_type1 (args_cons (thn (ha.run pins s σ H _ I h) fun v s1 ⟨x, H1, I1, r1, q1⟩ => ?_) na) na hp))
  refine args_cons (thn (hb.run pins s1 σ H1 _ I1 q1) fun u s2 ⟨y, H2, I2, r2, q2⟩ => args_nil ?_) nb
  obtain ⟨p0, q0, as, ks, ys, rfl, rfl, hxs, hys, hal, hnd, hk, q⟩ := q2
  obtain rfl : v = .ref p0 := r1
  obtain rfl : u = .ref q0 := r2
  obtain ⟨its, rv, pl, hz⟩ := I2.list hxs
  obtain ⟨us, rv2, pl2, hz2⟩ := I2.list hys
  have hits : its = as.map Value.ref := by
    clear pl hz hxs hal hk
    induction as generalizing its with
    | nil => cases rv; rfl
    | cons a as ih =>
      cases rv with
      | cons r t =>
        rw [ih _ t]
        cases r
        rfl
  subst hits
  refine call_zip_2 pl.isList pl2.isList fun h1 hz1 hz3 hz4 hi1 hi2 hsz hk1 => args_nil ?_
  obtain ⟨o1, ho1, _⟩ := pl.isList
  obtain ⟨o2, ho2, _⟩ := pl2.isList
  have D := zipApart (Heap.lt_size ho1) (Heap.lt_size ho2)
  have hun : (X.A.in1.in1).units < cLine := by
    show X.A.units + 1 + 1 < cLine
    omega
  have hks : ∀ x ∈ ks.zip (as.zip us), H2 x.2.1 = some (.tup (x.1.map kV)) := fun x hx => zip3_mem ks as us x hk hx
  have hlen : (ks.zip (as.zip us)).length = min (as.map Value.ref).toArray.size us.toArray.size := by
    rw [List.length_zip, List.length_zip, List.size_toArray, List.size_toArray, List.length_map, hal]
    omega
  have hkn : ((ks.zip (as.zip us)).map (·.1)).Nodup := hnd.sublist (zip3_keys ks as us)
  have hall : ∀ h' : Heap, (∀ b o, (s2.heap.get? b = some o) → h'.get? b = some o) → ∀ x ∈ ks.zip (as.zip us), (tupleKind (mixKind X.prog X.w)).is h' x.1 x.2.1 := fun h' hkk x hx => by
    obtain ⟨o, items, n, g1, g2, g3, g4⟩ := key_of I2.hok (hks x hx)
    exact ⟨o, items, n, hkk _ _ g1, g2, g3, g4⟩
  have old : ∀ b o, s2.heap.get? b = some o → b ∉ [s2.heap.objs.size + 4, s2.heap.objs.size + 3, s2.heap.objs.size, s2.heap.objs.size + 1] := fun b o e hb => by
    have := Heap.lt_size e
    simp only [List.mem_cons, List.not_mem_nil, or_false] at hb
    exact old4 this hb
  have hz' : (ks.zip (as.zip us)).length ≤ sizeLine := by
    rw [hlen, List.size_toArray, List.length_map]
    rw [List.length_map] at hz
    exact Nat.le_trans (Nat.min_le_left _ _) hz
  refine call_dict_pairsH (knd := tupleKind (mixKind X.prog X.w)) (ps := ks.zip (as.zip us)) (PairArg.zip _ _ _ _ _ p0 q0 D _ _) (I2.ok.hd hc) hun ⟨hz1, hz3, ⟨_, _, hz4⟩, hi1, hi2, pl.isList.at fun o e => hk1 _ _ e, pl2.isList.at fun o e => hk1 _ _ e⟩
    ⟨hlen, fun i key v e => zip3_at ks as us i key v hal (by simpa using e.1) (by simpa using e.2)⟩ (fun h' hkk x hx => ?_) (by rw [← hlen]; exact hz') fun h' tk hd' hk' => ?_
  · refine hall h' (fun b o e => hkk b o (fun z => ?_) (old b o e) (hk1 b o e)) x hx
    have hb := Heap.lt_size e
    exact gt5 hb hsz z
  · rw [storedAll_new _ [] (by simpa using hkn), List.nil_append] at hd'
    have hfr : s2.heap.objs.size ≤ h1.objs.size := le5 hsz
    obtain ⟨o, es, ep, g1, g2, g3, g4, g5, g6⟩ := hd'
    refine ⟨.ref h1.objs.size, _, I2.laid (t' := tk) (o := .dT (ks.zip ys)) (fun b o e => hk' b o (old b o e) (hk1 b o e)) hfr ⟨?_, ?_, ks.zip (as.zip us), ?_, o, es, ep, g1, g2, g3, g4, g6⟩, rfl, q _ (I2.hok.fresh hfr)⟩
    · rw [List.length_zip]
      rw [List.length_map, hal] at hz
      exact Nat.le_trans (Nat.min_le_left _ _) hz
    · exact big5 I2.big hsz
    · refine Paired.mapP (pairedZ ks as ys us hal rv2 hk) fun p q z => ⟨z.1, ?_, z.2.2⟩
      rw [upd_ne (fun e => ?_)]
      · exact z.2.1
      · have hb := I2.hok.lt z.2.1
        exact gt5 hb hsz e
end
end Rg
namespace Rg
open PySem PySem.Spec PyProof.Rows L2
theorem kTDZ {K : PySem.W.Frag} {σ : L2.St} {H : Hp} {Q : VK} {ta tb : TE} (h : ta σ H fun x H1 => tb σ H1 fun y H2 => okDZ K x y H2 Q) : tDZ K ta tb σ H Q := h
end Rg
namespace Rg
open PySem PySem.Spec PyProof.Rows L2
theorem slTA {X : Cx} {K : PySem.W.Frag} (e : X.K = K) : SlR X (rSlA K) := e ▸ sl_tupA
end Rg

set_option Elab.async false
set_option linter.all false
set_option maxRecDepth 100000
set_option maxHeartbeats 4000000
namespace Rg
open PySem PySem.Spec PyProof.Rows L2
/-! ### {k: v for .. in ..}, the keys tuples -/
section
variable {X : Cx} {pins : List (Addr × Obj)} {σ : L2.St} {H : Hp} {s : Shared}
theorem putT {E : Value → Shared → Prop} {D b : Addr} {kvs : List (List Key × V)} {k : List Key} {v : V} {r : Value} {Q : Unit → Shared → Prop} (hu : X.A.units + 1 < cLine) (I : L2.Inv X pins σ H s) (hD : H D = some (.dT kvs)) (hb : H b = some (.tup (k.map kV)))
    (hz : kvs.length < sizeLine) (rv : RelV v r) (h : ∀ s', L2.Inv X pins σ (upd H D (.dT (putK kvs k v))) s' → Q () s') : wpAny (model X.prog X.w) X.A (dictSet D (.ref b) r) Q E s := by
  obtain ⟨zl, hd, xs, rel, dd⟩ := dt_of I.hok hD
  have zx : xs.length ≤ sizeLine := Nat.le_trans (Nat.le_of_eq (Paired.length rel).symm) zl
  have zp := length_putK kvs k v
  refine wpAny_dictSet_heap (hsz := zx) (show X.A.units < cLine by omega) (key_of I.hok hb) dd fun hN dN same => ?_
  obtain ⟨oN, esN, epN, g1, g2, g3, g4, _, g6⟩ := dN
  refine h _ (d_write I (by rw [hD]; exact True.intro) same ⟨oN, g1⟩ ⟨by omega, hd, _, (rel.put k hb rv).keeps fun c ys ec => ?_, oN, esN, epN, g1, g2, g3, g4, g6⟩)
  have hc : c ≠ D := ne_of ec hD fun z => nomatch z
  rw [upd_ne hc, ec]
end
def tDcT (wi : TI) (g : TG) (tt : L2.TT) (tk tv : TE) (vs : List Nat) : TE := fun σ H Q => wi σ H fun J HA => ∀ D, HA D = none → ∃ W : Nat → Nat → Hp → Prop, (∃ m, W 0 m (upd HA D (.dT []))) ∧ ∀ i m HB, W i m HB →
  (J.stop i HB ∧ Q (.ref D) HB) ∨ (J.go i HB ∧ ∃ Nx : Hp → Prop, (∀ HC, Nx HC → ∃ m', m' < m ∧ W (i + 1) m' HC) ∧ ∀ x HC, J.yld i HB x HC → g x (wipe σ vs) HC fun σC HD => wipe σC vs = wipe σ vs ∧ tt σC HD fun b HE =>
    if b = true then tk σC HE fun y HF => tv σC HF fun z HG => ∃ kvs k q, y = .ref q ∧ HG D = some (.dT kvs) ∧ HG q = some (.tup (k.map kV)) ∧ kvs.length < sizeLine ∧ Nx (upd HG D (.dT (putK kvs k z))) else Nx HE)
section
variable {X : Cx}
theorem dcT_core {pins : List (Addr × Obj)} {s0 : Shared} {σ : L2.St} {H : Hp} {Q : VK} {pos' : Pos} {use : Option (Value → Sem Unit)} {Qf : Value → Shared → Prop} {kx vx tg iter : Expr} {ifs : List Expr} {scope : Scope} {own : List (Str × Nat)} {pos : Pos} {wi : TI} {g : TG} {tt : L2.TT} {tk tv : TE} (hu : X.A.units + 64 < cLine) (hc : X.calm = true) (hN : X.N.Nodup) (hi : PI X tg iter wi) (ok : BlkOk X.N X.env.scope scope own)
    (hg : ∀ (sB : Shared) (HB : Hp) (cB : Addr) (lB : List (Str × Addr)) (pB : List Addr), PG (X.blk sB HB scope (compEnvC scope lB cB X.env) pB) tg g)
    (ht : ∀ (sB : Shared) (HB : Hp) (cB : Addr) (lB : List (Str × Addr)) (pB : List Addr), PTs (X.blk sB HB scope (compEnvC scope lB cB X.env) pB) ifs tt)
    (hk : ∀ (sB : Shared) (HB : Hp) (cB : Addr) (lB : List (Str × Addr)) (pB : List Addr), PE (X.blk sB HB scope (compEnvC scope lB cB X.env) pB) kx tk)
    (he : ∀ (sB : Shared) (HB : Hp) (cB : Addr) (lB : List (Str × Addr)) (pB : List Addr), PE (X.blk sB HB scope (compEnvC scope lB cB X.env) pB) vx tv) (hs : ∀ x, foldedSetIterable iter X.env x = pure x)
    (I0 : L2.Inv X pins σ H s0) (h : tDcT wi g tt tk tv (own.map (·.2)) σ H Q)
    (last : ∀ D cZ sZ mZ HZ, L2.Inv X pins σ HZ sZ → Q (.ref D) HZ → sZ.heap.Ns cZ mZ → FpOk X pins HZ cZ → compPost (model X.prog X.w) X.A X.xe use Qf (.ref D) cZ (.ok .next) sZ) :
    wpAny (model X.prog X.w) X.A (comprehension (.DictComp kx vx [⟨tg, iter, ifs, 0⟩] scope pos) scope X.env pos' newDict false (eval iter X.env) use) Qf X.xe s0 := by
  have frees : ∀ y ∈ scope.names, y.2 = .free → ∃ c, X.env.cells.lookup y.1 = some c := fun y hy e => (ok.free y hy e).elim (fun z => I0.ok.has _ (.inl z)) fun z => I0.ok.has _ (.inr z)
  refine wpAny_comprehension_free (use := use) rfl hs (closure_ok frees) ok.kind (fun y hy e => by rw [ok.uniq y hy, e]) (thn (hi.run pins s0 σ H _ I0 h) fun xv sA hA => thn hA fun itv sB hB => ?_)
  obtain ⟨it, fp, tn, J, HB, eit, IB, T, stB, fB, q⟩ := hB
  subst eit
  refine wpAny_newObj_type (newEnv_comp ?_)
  generalize eD : sB.heap.objs.size = D
  obtain ⟨W, ⟨m0, w0⟩, step⟩ := q D (IB.hok.fresh (Nat.le_of_eq eD))
  generalize eC : ({ sB with heap := sB.heap.push { cls := .type "dict", data := .dict #[] } } : Shared) = sC
  have IC : L2.Inv X pins σ (upd HB D (.dT [])) sC := by
    subst eC eD
    exact IB.laid (t' := sB.toks) (fun b o e => Heap.get?_push_of_some _ e) (Nat.le_refl _) (dt_empty sB.heap IB.big)
  have hC : sC.heap = sB.heap.push { cls := .type "dict", data := .dict #[] } := by rw [← eC]
  have fC : ∀ b ∈ fp, FpOk X pins (upd HB D (.dT [])) b ∧ b < sC.heap.objs.size := fun b hb => by
    obtain ⟨o, eo, _⟩ := T.obj _ _ stB b hb
    have lt := Heap.lt_size eo
    have ne : b ≠ D := by rw [← eD]; exact Nat.ne_of_lt lt
    exact ⟨⟨by rw [upd_ne ne]; exact (fB b hb).1, (fB b hb).2⟩, by rw [hC, Heap.size_push]; exact Nat.lt_succ_of_lt lt⟩
  have stC : tn 0 sC.heap := T.keep _ _ _ stB fun b _ o e => by rw [hC]; exact Heap.get?_push_of_some _ e
  have IS := block_start IC ok hN fC
  generalize eCl : cellsFrom (sC.heap.objs.size + 1) scope.names (cloFrom X.env.cells scope.names []) = cl at IS ⊢
  have pg := hg sC (upd HB D (.dT [])) sC.heap.objs.size cl fp
  have pt := ht sC (upd HB D (.dT [])) sC.heap.objs.size cl fp
  have pk := hk sC (upd HB D (.dT [])) sC.heap.objs.size cl fp
  have pv := he sC (upd HB D (.dT [])) sC.heap.objs.size cl fp
  have nf : ∀ b ∈ fp, upd HB D (.dT []) b = none := fun b hb => (fC b hb).1.1
  show codeAny (model X.prog X.w) X.A (.compStart (.DictComp kx vx [⟨tg, iter, ifs, 0⟩] scope pos) 0 (.ref it) (.ref D) (compEnvC scope cl sC.heap.objs.size X.env))
    (compPost (model X.prog X.w) X.A X.xe use Qf (.ref D) sC.heap.objs.size) { sC with heap := pushCells (sC.heap.push { cls := .type "dict", data := .dict #[] }) scope.names }
  generalize eE : compEnvC scope cl sC.heap.objs.size X.env = env at IS pg pt pk pv ⊢
  have loc : env.locals = sC.heap.objs.size := by
    subst eE
    rfl
  generalize upd HB D (.dT []) = HC at IC IS pg pt pk pv w0 nf fC
  generalize eS : ({ sC with heap := pushCells (sC.heap.push { cls := .type "dict", data := .dict #[] }) scope.names } : Shared) = sS at IS ⊢
  have stS : tn 0 sS.heap := T.keep _ _ _ stC fun b _ o e => by
    rw [← eS]
    exact pushCells_keeps _ _ _ _ (Heap.get?_push_of_some _ e)
  have fpS : ∀ {σE : L2.St} {HE : Hp} {sE : Shared}, L2.Inv (X.blk sC HC scope env fp) [] σE HE sE → (∀ b ∈ fp, HE b = none) → ∀ b ∈ fp, FpOk (X.blk sC HC scope env fp) [] HE b := by
    intro σE HE sE IE nE b hb
    exact ⟨nE b hb, (IE.ok.exf b hb).1, IE.ok.exfs b hb, .inl hb, fun x c e => (IE.ok.exf b hb).2 x c e, fun p hp => nomatch hp⟩
  suffices loop : codeAny (model X.prog X.w) X.A (.compLoop (.DictComp kx vx [⟨tg, iter, ifs, 0⟩] scope pos) 0 (.ref it) (.ref D) env) (compPost (model X.prog X.w) X.A X.xe use Qf (.ref D) sC.heap.objs.size) sS from
    codeAny_compStart_dict loop (T.self X.A 0 _ _ _ stS loop)
  refine compLoop_anyD (fun n sE => ∃ i HE, L2.Inv (X.blk sC HC scope env fp) [] (wipe σ (own.map (·.2))) HE sE ∧ tn i sE.heap ∧ (∀ b ∈ fp, HE b = none) ∧ W i n HE) ?_ m0 ⟨0, HC, IS, stS, nf, w0⟩
  intro n sE hE
  obtain ⟨i, HE, IE, stE, nE, wE⟩ := hE
  rcases step i n HE wE with ⟨stop, qE⟩ | ⟨go, Nx, less, turn⟩
  · refine thnF (T.done (X.blk sC HC scope env fp) rfl rfl rfl hc i [] sE _ HE (fun _ _ => False) IE (fpS IE nE) stE stop) fun r sF hF => ?_
    obtain ⟨rfl, IF⟩ := hF
    have IG : L2.Inv X pins σ HE sF := IC.call' (ch := fp) IF.os IF.base IF.hok IF.bare fun b hb => by
      obtain ⟨⟨z0, z1, z2, z3, z4, z5⟩, _⟩ := fC b hb
      exact ⟨z3, z1, z4, z5⟩
    have free : HE env.locals = none := IF.free
    rw [loc] at free
    obtain ⟨m, hm, _⟩ := IF.loc
    have hm : sF.heap.Ns env.locals m := hm
    rw [loc] at hm
    exact last D _ sF m HE IG qE hm (IC.fpOk (Nat.le_refl _) free)
  · refine thnF (T.item (X.blk sC HC scope env fp) rfl rfl rfl hc i [] sE _ HE (fun _ _ => False) IE (fpS IE nE) stE go) fun r sF hF => ?_
    obtain ⟨u, rfl, hF⟩ := hF
    refine thnF hF fun _ sG hG => ?_
    obtain ⟨x, HG, IG, rx, yx, stG, nG⟩ := hG
    have IP := IG.pinned (fpS IG nG) (T.obj _ _ stG)
    refine thnF (pg.run _ sG _ HG x u _ IP rx (turn x HG yx)) fun _ sI hI => ?_
    obtain ⟨σI, HI, II, wI, tI⟩ := hI
    refine thnF (pt.run _ sI σI HI _ II tI) fun b sJ hJ => ?_
    obtain ⟨HJ, IJ, qJ⟩ := hJ
    have next : ∀ (sZ : Shared) (HZ : Hp), L2.Inv (X.blk sC HC scope env fp) ([] ++ pinsAt fp sG.heap) σI HZ sZ → Nx HZ → ∃ m, m < n ∧ ∃ i HY, L2.Inv (X.blk sC HC scope env fp) [] (wipe σ (own.map (·.2))) HY sZ ∧ tn i sZ.heap ∧ (∀ b ∈ fp, HY b = none) ∧ W i m HY := by
      intro sZ HZ IZ nx
      obtain ⟨m', hm, wZ⟩ := less HZ nx
      have held : ∀ b ∈ fp, ∀ o, sG.heap.get? b = some o → sZ.heap.get? b = some o ∧ HZ b = none := fun b hb o e => by
        have z := IZ.pin (b, o) (List.mem_append_right _ (List.mem_append_right _ (mem_pinsAt hb e)))
        exact ⟨z.1, z.2.1⟩
      refine ⟨m', hm, i + 1, HZ, (IZ.unpinned (pins := [])).weak (by rw [← wI, wipe_length]) (fun j v e => ?_), T.keep _ _ _ stG fun b hb o e => (held b hb o e).1, fun b hb => ?_, wZ⟩
      · rw [← wI] at e
        exact (wipe_some e).1
      · obtain ⟨o, e, _⟩ := T.obj _ _ stG b hb
        exact (held b hb o e).2
    cases b with
    | false => exact next _ _ IJ qJ
    | true =>
      refine thnF (pk.run _ sJ σI HJ _ IJ qJ) fun kk sK hK => ?_
      obtain ⟨yk, HK, IK, rk, qK⟩ := hK
      refine thnF (pv.run _ sK σI HK _ IK qK) fun vv sL hL => ?_
      obtain ⟨yv, HL, IL, rv, kvs, k, q', ek, hD, hq, hz, nx⟩ := hL
      subst ek
      obtain rfl : kk = .ref q' := rk
      exact putT (X := X.blk sC HC scope env fp) (show X.A.units + 1 < cLine by omega) IL hD hq hz rv fun sM IM => next _ _ IM nx
theorem pe_dcT {kx vx tg iter : Expr} {ifs : List Expr} {scope : Scope} {own : List (Str × Nat)} {pos : Pos} {wi : TI} {g : TG} {tt : L2.TT} {tk tv : TE} (hu : X.A.units + 64 < cLine) (hc : X.calm = true) (hN : X.N.Nodup) (hi : PI X tg iter wi) (ok : BlkOk X.N X.env.scope scope own)
    (hg : ∀ (sB : Shared) (HB : Hp) (cB : Addr) (lB : List (Str × Addr)) (pB : List Addr), PG (X.blk sB HB scope (compEnvC scope lB cB X.env) pB) tg g)
    (ht : ∀ (sB : Shared) (HB : Hp) (cB : Addr) (lB : List (Str × Addr)) (pB : List Addr), PTs (X.blk sB HB scope (compEnvC scope lB cB X.env) pB) ifs tt)
    (hk : ∀ (sB : Shared) (HB : Hp) (cB : Addr) (lB : List (Str × Addr)) (pB : List Addr), PE (X.blk sB HB scope (compEnvC scope lB cB X.env) pB) kx tk)
    (he : ∀ (sB : Shared) (HB : Hp) (cB : Addr) (lB : List (Str × Addr)) (pB : List Addr), PE (X.blk sB HB scope (compEnvC scope lB cB X.env) pB) vx tv) (hs : ∀ x, foldedSetIterable iter X.env x = pure x := by intro _; rfl) :
    PE X (.DictComp kx vx [⟨tg, iter, ifs, 0⟩] scope pos) (tDcT wi g tt tk tv (own.map (·.2))) := by
  refine ⟨fun pins s0 σ H Q I0 h => ?_⟩
  rw [arm_eval_DictComp]
  refine dcT_core hu hc hN hi ok hg ht hk he hs I0 h fun D cZ sZ mZ HZ IZ qZ nsZ fpZ => ?_
  obtain ⟨f0, f1, f2, f3, f4, f5⟩ := fpZ
  exact ⟨mZ, nsZ, fun hN same => ⟨.ref D, HZ, IZ.turned (t' := sZ.toks) (fun b o hb e => (same.2 b hb).trans e) f0 f1 f3 f4 f5, rfl, qZ⟩⟩
/-- the comprehension put into a local name -/
theorem ps_setDcT {i : Nat} {y : Str} {py spos : Pos} {kx vx tg iter : Expr} {ifs : List Expr} {scope : Scope} {own : List (Str × Nat)} {pos : Pos} {wi : TI} {g : TG} {tt : L2.TT} {tk tv : TE} (hu : X.A.units + 64 < cLine) (hc : X.calm = true) (hN : X.N.Nodup) (hy : X.N[i]? = some y) (hyl : X.env.scope.names.lookup y = some .local) (hsw : swapsWith (.DictComp kx vx [⟨tg, iter, ifs, 0⟩] scope pos) (some (.Name y py)) spos.line X.env = pure true) (hi : PI X tg iter wi) (ok : BlkOk X.N X.env.scope scope own)
    (hg : ∀ (sB : Shared) (HB : Hp) (cB : Addr) (lB : List (Str × Addr)) (pB : List Addr), PG (X.blk sB HB scope (compEnvC scope lB cB X.env) pB) tg g)
    (ht : ∀ (sB : Shared) (HB : Hp) (cB : Addr) (lB : List (Str × Addr)) (pB : List Addr), PTs (X.blk sB HB scope (compEnvC scope lB cB X.env) pB) ifs tt)
    (hk : ∀ (sB : Shared) (HB : Hp) (cB : Addr) (lB : List (Str × Addr)) (pB : List Addr), PE (X.blk sB HB scope (compEnvC scope lB cB X.env) pB) kx tk)
    (he : ∀ (sB : Shared) (HB : Hp) (cB : Addr) (lB : List (Str × Addr)) (pB : List Addr), PE (X.blk sB HB scope (compEnvC scope lB cB X.env) pB) vx tv) (hs : ∀ x, foldedSetIterable iter X.env x = pure x := by intro _; rfl) :
    PS X (.Assign [.Name y py] (.DictComp kx vx [⟨tg, iter, ifs, 0⟩] scope pos) spos) (tAsg (tDcT wi g tt tk tv (own.map (·.2))) (gName i)) := by
  refine ⟨fun pins s0 σ H D I0 h => ?_⟩
  rw [exec_Assign_Name_used _ _ _ _ hsw]
  refine wpAny_bind (wpAny_standAt (wpAny_bind ?_))
  have h2 : tDcT wi g tt tk tv (own.map (·.2)) σ H (fun x HB => gName i x σ HB D.nx) := h
  show wpAny _ X.A (do let _ ← comprehension (.DictComp kx vx [⟨tg, iter, ifs, 0⟩] scope pos) scope X.env (firstIterPos [⟨tg, iter, ifs, 0⟩] pos) newDict false (eval iter X.env) (some (assign (.Name y py) X.env))) _ _ s0
  refine wpAny_bind (thn (dcT_core (Qf := fun _ sZ => SP X pins D .next sZ) hu hc hN hi ok hg ht hk he hs I0 h2 fun B cZ sZ mZ HZ IZ qZ nsZ fpZ => ?_) fun _ sZ hZ => wpAny_pure (wpAny_pure hZ))
  obtain ⟨f0, f1, f2, f3, f4, f5⟩ := fpZ
  show wpAny _ _ (assign (.Name y py) X.env (.ref B)) _ _ _
  refine wpAny_assign_Name (store_ok2 (v := V.ref B) IZ hN hy (.inl hyl) rfl (fun sY IY hY => ?_) (.inr hyl))
  obtain ⟨a, same, ha⟩ := hY
  have apart : cZ ≠ a := fun e => ha.elim (fun z => f1 (e.trans z)) fun z => f4 y a z e.symm
  exact ⟨mZ, nsZ.sameBut same apart, fun hX sameX => ⟨_, HZ, IY.turned (t' := sY.toks) (fun b o hb e => (sameX.2 b hb).trans e) f0 f1 f3 f4 f5, qZ⟩⟩
end
/-! ### d.setdefault(k, x), the keys tuples -/
def tDSetdT (td ty tx : TE) : TE := fun σ H Q => td σ H fun x HA => ∃ a, x = .ref a ∧ IsD HA a ∧ ty σ HA fun y HB => tx σ HB fun z HC => ∃ kvs k b, HC a = some (.dT kvs) ∧ y = .ref b ∧ HC b = some (.tup (k.map kV)) ∧ kvs.length < sizeLine ∧
  (∀ v, valV kvs k = some v → Q v HC) ∧ (valV kvs k = none → Q z (upd HC a (.dT (putK kvs k z))))
section
variable {X : Cx} {td ty tx : TE} {o e f : Expr} {apos cpos : Pos}
theorem pe_dsetdT (hu : X.A.units + 64 < cLine) (ho : PE X o td) (he : PE X e ty) (hf : PE X f tx) (m : M2 X o "setdefault" apos e f cpos) : PE X (.Call (.Attribute o "setdefault" apos) [e, f] [] cpos) (tDSetdT td ty tx) := by
  refine ⟨fun pins s σ H Q I h => ?_⟩
  refine wpAny_Call_method m.base m.few m.line PySem.F.plainAttrs_dict PySem.F.slot_dict_setdefault PySem.F.type_dict_setdefault (thn (ho.run pins s σ H _ I h) fun ov sA hA => ?_)
  obtain ⟨x, HA, IA, rx, a, rfl, isd, qA⟩ := hA
  obtain rfl : ov = .ref a := rx
  obtain ⟨t1, t2, _⟩ := isD_at IA isd
  refine ⟨t1, t2, ?_⟩
  rw [m.trees]
  refine Calls.callWith_builtin rfl (Calls.evalArgs_plain (Calls.spliced_cons (thn (he.run pins sA σ HA _ IA qA) fun kv sB hB => ?_)))
  obtain ⟨y, HB, IB, ry, qB⟩ := hB
  refine Calls.spliced_cons (thn (hf.run pins sB σ HB _ IB qB) fun dv sC hC => Calls.spliced_nil ?_)
  obtain ⟨z, HC, IC, rz, kvs, k, b, ea, rfl, eb, hz, q1, q2⟩ := hC
  obtain rfl : kv = .ref b := ry
  obtain ⟨zl, hd, xs, rel, dd⟩ := dt_of IC.hok ea
  have zx : xs.length ≤ sizeLine := Nat.le_trans (Nat.le_of_eq (Paired.length rel).symm) zl
  have zp := length_putK kvs k z
  have hv := rel.val k
  refine call_setdefault_heap (knd := tupleKind (mixKind X.prog X.w)) (show X.A.units + 1 < cLine by omega) (key_of IC.hok eb) hd dd (fun p hp => ?_) (fun hp hN dN same => ?_) zx
  · rw [hp] at hv
    cases hq : valV kvs k with
    | none => rw [hq] at hv; exact hv.elim
    | some v =>
      rw [hq] at hv
      exact ⟨v, HC, IC.tok _, hv, q1 v hq⟩
  · rw [hp] at hv
    cases hq : valV kvs k with
    | some v => rw [hq] at hv; exact hv.elim
    | none =>
      obtain ⟨oN, esN, epN, g1, g2, g3, g4, _, g6⟩ := dN
      refine ⟨z, _, d_write (ob := .dT (putK kvs k z)) IC (by rw [ea]; exact True.intro) same ⟨oN, g1⟩ ⟨by omega, hd, _, (rel.put k eb rz).keeps fun c ys ec => ?_, oN, esN, epN, g1, g2, g3, g4, g6⟩, rz, q2 hq⟩
      rw [upd_ne (ne_of ec ea fun z => nomatch z), ec]
end
/-! ### for x in d.values(), the keys tuples -/
def ItdT (d : Addr) (o : Obj) (kvs : List (List Key × V)) : It where
  go := fun i H => H d = some (.frz o (.dT kvs)) ∧ i < kvs.length
  yld := fun i H x HN => HN = H ∧ ∃ k, kvs[i]? = some (k, x)
  stop := fun i H => H d = some (.frz o (.dT kvs)) ∧ kvs.length ≤ i
theorem frzV {X : Cx} {pins : List (Addr × Obj)} {σ : L2.St} {H : Hp} {s : Shared} {d : Addr} {o : Obj} {kvs : List (List Key × V)} (I : L2.Inv X pins σ H s) (h : H d = some (.frz o (.dT kvs))) :
    (d == sysModules) = false ∧ ∃ (es : Array DictEntry) (ep : Nat), s.heap.DictRaw d es ep ∧ o.data = .dict es ep ∧ es.size = kvs.length ∧ ∀ (i : Nat) (hi : i < es.size) (k : List Key) (v : V), kvs[i]? = some (k, v) → RelV v es[i].val := by
  obtain ⟨g, _, hs, xs, pr, oN, es, ep, ho, hx, hdt, he, _⟩ := I.hok d _ h
  rw [g] at ho
  cases ho
  have hl := size_of_entries he
  refine ⟨hs, es, ep, ⟨o, g, hx, hdt⟩, hdt, by rw [hl, Paired.length pr], fun i hi k v e => ?_⟩
  obtain ⟨b, hb, _, _, rv⟩ := paired_get pr e
  have q := entry_at he i
  rw [hb, Array.getElem?_eq_getElem hi] at q
  have q2 := Option.some.inj q
  rw [q2]
  exact rv
theorem turn_valsT {P : Program} {w : World} {K : PySem.W.Frag} {tg : Expr} {d : Addr} {o : Obj} {es : Array DictEntry} {ep : Nat} {kvs : List (List Key × V)} (it : Addr) (hod : o.data = .dict es ep) :
    Turn P w K tg (ItdT d o kvs) [it] it (fun i h => h.IsValIter it d i es.size ep) := by
  refine ⟨by simp, fun i h st b hb => ?_, fun i h hN st k => st.at fun ot e => k it (by simp) ot e, ?_, ?_, fun A i s Q E st h => wpAny_pyIter_valiter st h⟩
  · obtain rfl : b = it := by simpa using hb
    obtain ⟨ot, e, c, dd⟩ := st
    exact ⟨ot, e, fun v z => by rw [dd] at z; cases z⟩
  · intro X hP hw hK hc i pins s σ H E I hf st hg
    subst hP hw hK
    obtain ⟨hd, hi⟩ := hg
    obtain ⟨f0, f1, f2, f3, f4, f5⟩ := hf it (by simp)
    obtain ⟨_, es2, ep2, raw, hdt, hsz, rel⟩ := frzV I hd
    obtain ⟨rfl, rfl⟩ := dict_ep hod hdt
    have hi2 : i < es2.size := by rw [hsz]; exact hi
    obtain ⟨⟨k, v⟩, hkv⟩ : ∃ p, kvs[i]? = some p := ⟨kvs[i], List.getElem?_eq_getElem hi⟩
    refine wpAny_pyNext_values_item_raw st raw hi2 fun hN stN same => ?_
    obtain ⟨ot, e, c, dd⟩ := id stN
    have IN : L2.Inv X pins σ H { s with heap := hN } := I.turned (t' := s.toks) (fun b ob hb e => (same.2 b hb).trans e) f0 f1 f3 f4 f5
    exact ⟨_, rfl, go_of (s := { s with heap := hN }) e c dd (by decide) ⟨v, H, IN, rel i hi2 k v hkv, ⟨rfl, k, hkv⟩, stN, fun b hb => (hf b hb).1⟩⟩
  · intro X hP hw hK hc i pins s σ H E I hf st hg
    subst hP hw hK
    obtain ⟨hd, hi⟩ := hg
    obtain ⟨f0, f1, f2, f3, f4, f5⟩ := hf it (by simp)
    obtain ⟨_, es2, ep2, raw, hdt, hsz, rel⟩ := frzV I hd
    obtain ⟨rfl, rfl⟩ := dict_ep hod hdt
    exact wpAny_pyNext_values_end_raw (I.ok.hd hc) st raw (by rw [hsz]; exact hi) fun hN same => ⟨rfl, I.turned (t' := s.toks) (fun b ob hb e => same b ob hb e) f0 f1 f3 f4 f5⟩
def iValsT (td : TE) : TI := fun σ H R => td σ H fun x HA => ∃ d o kvs, x = .ref d ∧ HA d = some (.frz o (.dT kvs)) ∧ R (ItdT d o kvs) HA
theorem pi_valuesT {X : Cx} {tg e : Expr} {td : TE} {apos cpos : Pos} (he : PE X e td) (hbase : attributeBase e "values" X.env (eval e X.env) = eval e X.env := by rfl) (hline : (apos.endLine == cpos.line) = true := by rfl) :
    PI X tg (.Call (.Attribute e "values" apos) [] [] cpos) (iValsT td) := by
  refine ⟨fun pins s σ H R I h => ?_⟩
  refine wpAny_Call_method (T := "dict") (id := "dict.values") hbase rfl hline F.plainAttrs_dict F.slot_dict_values F.type_dict_values (thn (he.run pins s σ H _ I h) fun dv sA hA => ?_)
  obtain ⟨x, HA, IA, rx, d, o, kvs, rfl, hd, q⟩ := hA
  obtain rfl : dv = .ref d := rx
  obtain ⟨hs, es, ep, raw, hdt, hsz, _⟩ := frzV IA hd
  obtain ⟨oR, gR, cR, dR⟩ := id raw
  refine ⟨raw.typeIs, ?_, ?_⟩
  · intro a e
    cases e
    exact ⟨oR, gR, cR.2.1⟩
  have IB : L2.Inv X pins σ HA { sA with heap := sA.heap.push { cls := .type "dict_values", data := .fields #[.ref d] } } := IA.kept (t' := sA.toks) fun b ob q => Heap.get?_push_of_some _ q
  have fin : wpAny (model X.prog X.w) X.A (pyIter (.ref sA.heap.objs.size)) (PIE X pins σ tg R) X.xe { sA with heap := sA.heap.push { cls := .type "dict_values", data := .fields #[.ref d] } } :=
    wpAny_pyIter_values_raw (d := d) ⟨_, Heap.get?_push_size _ rfl, rfl, rfl⟩ (raw.at fun _ e => Heap.get?_push_of_some _ e) (pi_one (tk := sA.toks) IB _ (turn_valsT _ hdt) ⟨_, Heap.get?_push_size _ rfl, rfl, rfl⟩ q)
  show wpAny _ _ (callWith cpos (.builtin "dict.values") [.ref d] [] []) _ X.xe sA
  exact method_meetsIn F.slot_dict_values F.entry_dict_values rfl (PySem.evalArgs_none ⟨rfl, raw.typeIs, F.args_dict_values_1 _, _, meets_dict_values_raw d hs, ⟨es, ep, raw⟩, fin⟩)
end Rg
namespace Rg
open PySem PySem.Spec PyProof.Rows L2
theorem swD {kx vx : Expr} {gs : List Comprehension} {scope : Scope} {pos py : Pos} {y : Str} {l : Nat} {env : Env} (h1 : env.scope.kind = .function) (h2 : env.scope.names.lookup y = some .local) (h3 : (py.line == pos.line) = true)
    (h4 : (scope.names.any fun (n, k) => n == y && (k == .local || k == .cell)) = false) : swapsWith (.DictComp kx vx gs scope pos) (some (.Name y py)) l env = pure true := by
  have e1 : env.kindOf y = some .local := h2
  have e2 : env.blockKind = .function := by
    unfold Env.blockKind
    rw [h1]
    rfl
  unfold swapsWith
  simp only [e1, e2, h4, Expr.pos, h3]
  rfl
theorem tupleQ {X : Cx} {K : PySem.W.Frag} (e : X.K = K) : CallR X (.type "tuple") (rTuple2 K) := e ▸ c_tuple
end Rg
namespace Rg
open PySem PySem.Spec PyProof.Rows L2
theorem setIQ {X : Cx} {K : PySem.W.Frag} {w : World} (e : X.K = K) (e2 : X.w = w) (hc : X.calm = true) : CallR X (.type "set") (rSetI K w) := e ▸ e2 ▸ cr_setI hc
theorem sortedSetQ {X : Cx} {w : World} (e2 : X.w = w) (hc : X.calm = true) : CallR X (.builtin "sorted") (rSortedSet w) := e2 ▸ cr_sortedSet hc
end Rg
namespace Rg
open PySem PySem.Spec PyProof.Rows L2
theorem units65 {k : Nat} {A : Around} (r : Room k A) : A.units + 65 < cLine := by
  have := r.un
  omega
theorem kRng2 {σ : L2.St} {H : Hp} {tr : TA} {tb : TS} {j : Nat} {nx bk ct : L2.St → Hp → Prop} {rt : VK} {lo n : Int} (h0 : 0 ≤ lo ∧ lo ≤ 100000 ∧ 0 ≤ n ∧ n ≤ 100000) (Pv : Nat → L2.St → Hp → Prop) (hP : Pv 0 σ H)
    (hs : ∀ (i : Nat) σ' H', lo + (i : Int) < n → Pv i σ' H' → tb (Ends.mk (Pv (i + 1)) rt nx (Pv (i + 1))) (σ'.set j (some (.int (lo + (i : Int))))) H') (hd : ∀ σ' H', Pv (n - lo).toNat σ' H' → nx σ' H')
    (h : ∀ R : List V → Hp → Prop, R [.int lo, .int n] H → tr σ H R) : tFor (iRng2 tr) (gName j) tb (Ends.mk nx rt bk ct) σ H := by
  refine h _ ⟨lo, n, rfl, ⟨by omega, by omega, by omega, by omega⟩, for_range (lo := lo) (n := (n - lo).toNat) Pv hP (fun i σ' H' hi p => ?_) hd⟩
  exact hs i σ' H' (by omega) p
end Rg

set_option Elab.async false
set_option linter.all false
set_option maxRecDepth 100000
set_option maxHeartbeats 4000000
namespace Rg
open PySem PySem.Spec PyProof.Rows L2
def topS (i : Nat) : Stmt := PySem.Challenge.pw_ringhue_k53_whole_lowered_tables_are_rig.main.body.getD i (.Pass ⟨0, 0, 0, 0⟩)
local macro_rules | `(tactic| walk_at "mem") => `(tactic| first | assumption | exact List.mem_cons_self | (refine List.mem_cons_of_mem _ ?_; walk_at "mem"))
local macro_rules | `(tactic| walk_at "lg") => `(tactic| first
  | exact at_of 0 (by assumption) rfl | exact at_of 1 (by assumption) rfl | exact at_of 2 (by assumption) rfl | exact at_of 3 (by assumption) rfl | exact at_of 4 (by assumption) rfl | exact at_of 5 (by assumption) rfl
  | exact sqL_of 0 (by assumption) rfl | exact sqL_of 1 (by assumption) rfl | exact sqL_of 2 (by assumption) rfl | exact sqL_of 3 (by assumption) rfl | exact sqL_of 4 (by assumption) rfl | exact sqL_of 5 (by assumption) rfl
  | exact sqT_of 0 (by assumption) rfl | exact sqT_of 1 (by assumption) rfl | exact sqT_of 2 (by assumption) rfl | exact sqT_of 3 (by assumption) rfl | exact sqT_of 4 (by assumption) rfl | exact sqT_of 5 (by assumption) rfl
  | exact Kn.mem (by assumption) (by walk_at "mem") | exact Kn.seqL (by assumption) (by walk_at "mem") | exact Kn.seqT (by assumption) (by walk_at "mem")
  | exact lat_of 0 (by assumption) rfl | exact lat_of 1 (by assumption) rfl | exact lat_of 2 (by assumption) rfl | exact lat_of 3 (by assumption) rfl
  | exact lsqL_of 0 (by assumption) rfl | exact lsqL_of 1 (by assumption) rfl | exact lsqL_of 2 (by assumption) rfl | exact lsqL_of 3 (by assumption) rfl
  | exact lsqT_of 0 (by assumption) rfl | exact lsqT_of 1 (by assumption) rfl | exact lsqT_of 2 (by assumption) rfl | exact lsqT_of 3 (by assumption) rfl)
local macro_rules | `(tactic| walk_at "at") => `(tactic| first | exact at0 | exact at1 | exact at2 | exact at3)
local macro_rules | `(tactic| walk_at "len") => `(tactic| first
  | decide
  | (simp only [List.length_map, List.length_cons, List.length_nil, List.length_append]; omega))
local macro_rules | `(tactic| walk_at "slen") => `(tactic| first | assumption | omega | decide)
local macro_rules | `(tactic| walk_at "side") => `(tactic| first
  | assumption
  | (show (0 : Int) < _; omega)
  | (show CMul _ _; first | exact Or.inl (by constructor <;> omega) | exact Or.inr (by constructor <;> omega))
  | (show CPow _ _; exact ⟨by omega, by omega, by omega⟩)
  | (show CDivW _ _; exact ⟨by omega, by first | decide | assumption⟩))
local macro_rules | `(tactic| walk_at "s1") => `(tactic| first
  | ((with_reducible refine' kVar ?ka ?kb); (case ka => exact rfl))
  | (with_reducible refine kSeqA ?_)
  | (with_reducible refine kSeqD ?_)
  | (with_reducible refine kAsg ?_)
  | (with_reducible refine kAsgT ?_)
  | (with_reducible refine kC ?_)
  | (with_reducible refine kOp ?_)
  | (with_reducible refine kI0 ?_)
  | (with_reducible refine kCons ?_)
  | (with_reducible refine kNil ?_)
  | (with_reducible refine kCB ?_)
  | (with_reducible refine kCall ?_)
  | (with_reducible refine kIfS ?_)
  | (with_reducible refine kCallS ?_)
  | (with_reducible refine kTruth ?_)
  | (with_reducible refine kTest ?_)
  | (with_reducible refine kTB ?_)
  | ((with_reducible refine' kEq ?ka ?kb); (case ka => exact rfl))
  | ((with_reducible refine' kNe ?ka ?kb); (case ka => exact rfl))
  | (with_reducible refine kBl ?_)
  | (with_reducible refine kRet ?_)
  | (with_reducible refine kNext ?_)
  | (with_reducible refine kDrop ?_)
  | (with_reducible refine kAsgSub ?_)
  | (with_reducible refine kAnd ?_)
  | (with_reducible refine kOr ?_)
  | (with_reducible refine kNot ?_)
  | (with_reducible refine kAndV ?_)
  | (with_reducible refine kOrV ?_)
  | (with_reducible refine kNotV ?_)
  | (with_reducible refine kIf ?_)
  | (with_reducible refine kChain ?_)
  | (with_reducible refine kUn ?_)
  | (with_reducible refine kU ?_)
  | (with_reducible refine kTup ?_)
  | (with_reducible refine kLst ?_)
  | (with_reducible refine kBM ?_)
  | (with_reducible refine kBM0 ?_)
  | (with_reducible refine kSl ?_)
  | (with_reducible refine kNoPart ?_)
  | (with_reducible refine kPart ?_)
  | (with_reducible refine kInt ?_)
  | (with_reducible refine kMax ?_)
  | (with_reducible refine kMin ?_)
  | (with_reducible refine isiII ?_)
  | (with_reducible refine isiIB ?_)
  | (with_reducible refine isiBI ?_)
  | (with_reducible refine isiBB ?_)
  | ((with_reducible refine' isiLL ?ka ?kb); (case ka => walk_at "lg"))
  | ((with_reducible refine' isiTT ?ka ?kb); (case ka => walk_at "lg"))
  | (with_reducible refine kIntI ?_)
  | (with_reducible refine kIntB ?_)
  | ((with_reducible refine' kIxL ?ka ?kb ?kc); (case ka => walk_at "lg"); (case kb => walk_at "at"))
  | ((with_reducible refine' kLenL ?ka ?kb); (case ka => walk_at "lg"))
  | ((with_reducible refine' kLenT ?ka ?kb); (case ka => walk_at "lg"))
  | ((with_reducible refine' kI ?ka ?kb); (case ka => walk_at "side"))
  | ((with_reducible refine' kM0v ?ka ?kb); (case ka => exact rfl))
  | ((with_reducible refine' kM1v ?ka ?kb); (case ka => exact rfl))
  | (with_reducible refine kM1c ?_)
  | (with_reducible refine kR1 ?_)
  | (with_reducible refine kIsB ?_)
  | (with_reducible refine kNotB ?_)
  | ((with_reducible refine' kSplitK ?ka ?kb ?kc ?kd); (case ka => exact rfl); (case kb => walk_at "slen"); (case kc => assumption); intro _ _ _)
  | ((with_reducible refine' kLenS ?ka ?kb); (case ka => walk_at "slen"))
  | ((with_reducible refine' kAddS ?ka ?kb); (case ka => walk_at "slen"))
  | ((with_reducible refine' kSlS ?ka ?kb); (case ka => walk_at "slen"))
  | ((with_reducible refine' kNewL ?ka ?kb ?kc); (case kb => assumption); (case ka => walk_at "len"); intro _ _ _)
  | ((with_reducible refine' kNewT ?ka ?kb ?kc); (case kb => assumption); (case ka => walk_at "len"); intro _ _ _)
  | ((with_reducible refine' kTyL ?ka ?kb); (case ka => walk_at "lg"))
  | ((with_reducible refine' kAppK ?ka 0 ?kb ?kc ?kd); (case ka => assumption); (case kb => exact rfl); (case kc => walk_at "len"); intro _ _)
  | ((with_reducible refine' kAppK ?ka 1 ?kb ?kc ?kd); (case ka => assumption); (case kb => exact rfl); (case kc => walk_at "len"); intro _ _)
  | ((with_reducible refine' kAppK ?ka 2 ?kb ?kc ?kd); (case ka => assumption); (case kb => exact rfl); (case kc => walk_at "len"); intro _ _)
  | ((with_reducible refine' kSlLK ?ka ?kb ?kc); (case ka => walk_at "lg"); (case kb => assumption); intro _ _ _)
  | ((with_reducible refine' kListK ?ka ?kb ?kc); (case ka => walk_at "lg"); (case kb => assumption); intro _ _ _)
  | ((with_reducible refine' kTupleK ?ka ?kb ?kc); (case ka => walk_at "lg"); (case kb => assumption); intro _ _ _)
  | ((with_reducible refine' kD1 ?ka ?kb); (case ka => assumption); intro _ _)
  | ((with_reducible refine' kD2 ?ka ?kb); (case ka => assumption); intro _ _)
  | ((with_reducible refine' kD3 ?ka ?kb); (case ka => assumption); intro _ _))
local macro_rules | `(tactic| walk_at "go") => `(tactic| repeat walk_at "s1")

/-! ### a draw -/
abbrev s_law_draw : Stmt := topS 13
theorem sc_law_draw : FnScope ["tape", "upto", "spot", "cell", "some", "rest"] ["tape", "upto"] (defScope s_law_draw) := ⟨rfl, rfl, rfl, by decide +kernel, rfl, by decide +kernel, by decide +kernel⟩
def spDraw : Sp := fun vs H Q _ => ∃ (d : Addr) (n : Nat) (L : Led) (size : Int), vs = [.ref d, .int size] ∧ 0 < size ∧ size.natAbs.log2 < 9000 ∧ n ≤ 2 ^ 60 ∧ Kn d n L H ∧
  ∀ (r : Int) (H' : Hp), 0 ≤ r → r < size → Kn d (n + 1) L H' → Q (.int r) H'
section
variable {P : Program} {w : World} {K : PySem.W.Frag} {mg : Str → Option Value} {base : Heap}
theorem ok_law_draw {f : Addr} {fd : FuncData} {k : Nat} (D : Df K mg "_law_draw" s_law_draw ["tape", "upto"] f fd) (M : Bl mg) : FnOk P w K mg base CX0 (k + 1) f fd ["tape", "upto"] spDraw := by
  refine D.F.ok sc_law_draw (fun vs H Q E h => ?_) (fun cdv A outer s H vs Q E hr h => ?_)
  · obtain ⟨d, n, L, size, rfl, _⟩ := h
    rfl
  obtain ⟨d, n, L, size, rfl, h0, h9, hn, kn, q⟩ := h
  refine ⟨_, (pss_cons (ps_if (pt_cmpR op_eq (pe_ix ix_list (pv 0) pe_int (fun _ _ => rfl)) pe_int (nomark _)) (pss_cons (ps_set (i := 2) sc_law_draw.nd rfl (Or.inl rfl) (pe_ix ix_list (pv 0) pe_int (fun _ _ => rfl)))
    (pss_cons (ps_asg (pe_op op_add (pv 2) pe_int) (pg_sub (pv 0) pe_int set_list))
    (pss_cons (ps_set (i := 3) sc_law_draw.nd rfl (Or.inl rfl) pe_int)
    (pss_cons (ps_if (pt_cmpR op_gt (pe_callB c_len (by rfl) M.len PySem.boot_len (pa_cons (pe_ix ix_list (pv 0) pe_int (fun _ _ => rfl)) pa_nil)) pe_int (nomark _)) (pss_one (ps_set (i := 3) sc_law_draw.nd rfl (Or.inl rfl) (pe_ix ix_seq (pe_ix ix_list (pv 0) pe_int (fun _ _ => rfl)) (pe_op op_mod (pv 2) (pe_callB c_len (by rfl) M.len PySem.boot_len (pa_cons (pe_ix ix_list (pv 0) pe_int (fun _ _ => rfl)) pa_nil))) (fun _ _ => rfl)))) pss_nil)
    (pss_cons (ps_if (PW.pt (pw_or (pt_cmpR op_ge (pv 2) (pe_callB c_len (by rfl) M.len PySem.boot_len (pa_cons (pe_ix ix_list (pv 0) pe_int (fun _ _ => rfl)) pa_nil)) (nomark _)) (pw_or1 (pt_cmpR op_lt (pv 3) (pe_op op_pow pe_int pe_int) (nomark _))))) (pss_cons (ps_set (i := 4) sc_law_draw.nd rfl (Or.inl rfl) (pe_op op_add (pe_op op_add (pe_op op_mod (pe_op op_mul (pv 2) (pv 2)) pe_int) (pe_op op_mul pe_int (pv 2))) pe_int))
     (pss_cons (ps_set (i := 4) sc_law_draw.nd rfl (Or.inl rfl) (pe_op op_mod (pe_op op_mul (pe_op op_add (pe_op op_mod (pv 3) pe_int) pe_int) (pv 4)) pe_int))
     (pss_one (ps_ret (pe_op op_mod (pe_op op_mod (pe_op op_add (pe_op op_fdivW (pe_op op_mod (pe_op op_mul (pv 4) (pv 4)) pe_int) pe_int) (pe_op op_mul pe_int (pv 2))) pe_int) (pv 1)))))) pss_nil)
    (pss_cons (ps_asg (pe_op op_sub (pv 3) (pe_op op_pow pe_int pe_int)) (pg_sub (pv 0) pe_int set_list))
    (pss_one (ps_asg pe_int (pg_sub (pv 0) pe_int set_list))))))))) pss_nil)
   (pss_cons (ps_asg (pe_op op_sub (pe_ix ix_list (pv 0) pe_int (fun _ _ => rfl)) pe_int) (pg_sub (pv 0) pe_int set_list))
   (pss_cons (ps_set (i := 5) sc_law_draw.nd rfl (Or.inl rfl) (pe_ix ix_list (pv 0) pe_int (fun _ _ => rfl)))
   (pss_cons (ps_asg (pe_op op_fdivW (pv 5) (pv 1)) (pg_sub (pv 0) pe_int set_list))
   (pss_one (ps_ret (pe_op op_mod (pv 5) (pv 1)))))))), ?_⟩
  obtain ⟨sa, a, c, r, ns, lg, a0, an⟩ := kn
  have hmod : ∀ z : Int, 0 ≤ z % size ∧ z % size < size := fun z => ⟨Int.emod_nonneg z (by omega), Int.emod_lt_of_pos z h0⟩
  refine kJoin (fun σ' H' => ∃ (a' c' r' : Int) (x y z : Option V), σ' = [some (.ref d), some (.int size), x, y, z, none] ∧ Lg ((d, .lst [.ref sa, .int a', .int c', .int r']) :: (sa, .lst (ns.map V.int)) :: L) H' ∧ 0 ≤ a' ∧ a' ≤ n + 1) (fun σ' H' hW => ?_) fun N join => ?_
  · obtain ⟨a', c', r', x, y, z, rfl, lg', b0, bn⟩ := hW
    walk_at "go"
    exact q _ _ (hmod _).1 (hmod _).2 ⟨sa, a', _, _, ns, by assumption, b0, by omega⟩
  walk_at "go"
  refine iteI (fun hc => ?_) (fun hc => ?_)
  · walk_at "go"
    rename_i H1 lg1
    refine kJoin (fun σ' H' => ∃ (z : Int), σ' = [some (.ref d), some (.int size), some (.int a), some (.int z), none, none] ∧ Lg ((d, .lst [.ref sa, .int (a + 1), .int c, .int r]) :: (sa, .lst (ns.map V.int)) :: L) H') (fun σ' H' hW => ?_) fun N' join' => ?_
    · obtain ⟨z, rfl, lg'⟩ := hW
      refine kJoin (fun σ'' H'' => σ'' = [some (.ref d), some (.int size), some (.int a), some (.int z), none, none] ∧ H'' = H') (fun σ'' H'' hW => ?_) fun N'' join'' => ?_
      · obtain ⟨rfl, rfl⟩ := hW
        walk_at "go"
        refine join _ _ ⟨a + 1, _, _, _, _, _, rfl, by assumption, by omega, by omega⟩
      refine kIfS ?_
      walk_at "go"
      refine iteD (fun _ => iteT ?_) (fun _ => ?_)
      · walk_at "go"
        exact q _ _ (hmod _).1 (hmod _).2 ⟨sa, a + 1, c, r, ns, lg', by omega, by omega⟩
      · walk_at "go"
        refine iteD (fun _ => ?_) (fun _ => ?_)
        · walk_at "go"
          exact q _ _ (hmod _).1 (hmod _).2 ⟨sa, a + 1, c, r, ns, lg', by omega, by omega⟩
        · walk_at "go"
          exact join'' _ _ ⟨rfl, rfl⟩
    · refine kIfS ?_
      walk_at "go"
      refine iteD (fun hl => ?_) (fun hl => ?_)
      · have hne : ns ≠ [] := fun e => by
          rw [e] at hl
          exact absurd hl (by decide)
        obtain ⟨z, hz⟩ := atMod hne a
        have hpos := lenPos hne
        walk_at "go"
        refine kIxSeqL (by walk_at "lg") hz ?_
        walk_at "go"
        exact join' _ _ ⟨z, rfl, lg1⟩
      · walk_at "go"
        exact join' _ _ ⟨0, rfl, lg1⟩
  · walk_at "go"
    exact join _ _ ⟨a, c, r, none, none, none, rfl, lg, a0, by omega⟩
end
theorem kDraw {d : Addr} {n : Nat} {L : Led} {H : Hp} {size : Int} {Q : VK} {E : XK} (k : Kn d n L H) (h0 : 0 < size) (h1 : size < 2 ^ 62) (hn : n ≤ 2 ^ 60) (q : ∀ (r : Int) (H' : Hp), 0 ≤ r → r < size → Kn d (n + 1) L H' → Q (.int r) H') : spDraw [.ref d, .int size] H Q E :=
  ⟨d, n, L, size, rfl, h0, log_small h0 h1, hn, k, q⟩

/-! ### rows in the ledger -/
/-- the ledger has these rows at these addresses -/
structure RowsAt (L : Led) (as : List Addr) (rows : List (List Int)) : Prop where
  len : as.length = rows.length
  at_ : ∀ (i : Nat) (a : Addr) (r : List Int), as[i]? = some a → rows[i]? = some r → (a, HO.tup (r.map V.int)) ∈ L
theorem RowsAt.up {L L' : Led} {as : List Addr} {rows : List (List Int)} (h : RowsAt L as rows) (s : ∀ y, y ∈ L → y ∈ L') : RowsAt L' as rows := ⟨h.len, fun i a r h1 h2 => s _ (h.at_ i a r h1 h2)⟩
theorem RowsAt.app {L : Led} {as bs : List Addr} {r1 r2 : List (List Int)} (h : RowsAt L as r1) (h2 : RowsAt L bs r2) : RowsAt L (as ++ bs) (r1 ++ r2) := by
  have hl := h.len
  refine ⟨by rw [List.length_append, List.length_append, hl, h2.len], fun i a r e1 e2 => ?_⟩
  by_cases hi : i < as.length
  · rw [List.getElem?_append_left hi] at e1
    rw [List.getElem?_append_left (by omega)] at e2
    exact h.at_ i a r e1 e2
  · rw [List.getElem?_append_right (by omega)] at e1
    rw [List.getElem?_append_right (by omega), ← hl] at e2
    exact h2.at_ _ a r e1 e2
theorem RowsAt.two {L : Led} {a b : Addr} {r s : List Int} (ha : (a, HO.tup (r.map V.int)) ∈ L) (hb : (b, HO.tup (s.map V.int)) ∈ L) : RowsAt L [a, b] [r, s] := by
  refine ⟨rfl, fun i x y e1 e2 => ?_⟩
  match i, e1, e2 with
  | 0, e1, e2 =>
    cases e1
    cases e2
    exact ha
  | 1, e1, e2 =>
    cases e1
    cases e2
    exact hb

/-! ### rising, stands -/
theorem Cs_short {m k : Nat} (hm : m ≤ 16) (hk : k ≤ 4) : (CpComb.Cs m k).length ≤ 2000 := by
  have h : ∀ m < 17, ∀ k < 5, (CpComb.Cs m k).length ≤ 2000 := by decide +kernel
  exact h m (by omega) k (by omega)
def spRising : Sp := fun vs H Q _ => ∃ (d : Addr) (n : Nat) (L : Led) (m many : Nat), vs = [.int (m : Int), .int (many : Int)] ∧ m ≤ 16 ∧ many ≤ 4 ∧ Kn d n L H ∧
  ∀ (l : Addr) (as : List Addr) (L2 : Led) H', RowsAt L2 as (Csi m many) → L.Sublist L2 → Kn d n ((l, .lst (as.map V.ref)) :: L2) H' → Q (.ref l) H'
theorem kComb {d : Addr} {n : Nat} {L : Led} {H : Hp} {Q : VK} {m many : Nat} (k : Kn d n L H) (hm : m ≤ 16) (hk : many ≤ 4) (q : ∀ (l : Addr) (as : List Addr) (L2 : Led) H', RowsAt L2 as (Csi m many) → L.Sublist L2 → Kn d n ((l, .lst (as.map V.ref)) :: L2) H' → Q (.ref l) H') : okComb m many H Q := by
  have hs := Cs_short hm hk
  refine ⟨by omega, by omega, by omega, fun as a hl nd fr hq hqn => ?_⟩
  have hkeys : (as.zip ((Csi m many).map tupO)).map (·.1) = as := zip_fst (by rw [hl, List.length_map])
  refine q a as (as.zip ((Csi m many).map tupO) ++ L) _ ⟨hl, fun i b r h1 h2 => ?_⟩ (List.sublist_append_right _ _) ((k.newAll _ (by rw [hkeys]; exact nd) (by rw [hkeys]; exact fr)).new ?_)
  · exact List.mem_append_left _ (mem_zip_fst h1 (by rw [List.getElem?_map, h2]; rfl))
  · rw [updAll_not (by rw [hkeys]; exact hqn)]
    exact hq
theorem kLstComb {σ : L2.St} {H : Hp} {Q : VK} {ta tb : TE} (h : ta σ H fun x H1 => ∃ m : Nat, x = .int (m : Int) ∧ m ≤ 1000 ∧ tb σ H1 fun y H2 => ∃ many : Nat, y = .int (many : Int) ∧ many ≤ 1000 ∧ okComb m many H2 Q) : tLstComb ta tb σ H Q := h
abbrev s_rising : Stmt := topS 4
theorem sc_rising : FnScope ["m", "many"] ["m", "many"] (defScope s_rising) := ⟨rfl, rfl, rfl, by decide +kernel, rfl, by decide +kernel, by decide +kernel⟩
theorem ok_rising {P : Program} {w : World} {K : PySem.W.Frag} {mg : Str → Option Value} {base : Heap} {k : Nat} (MC : mg "combinations" = some (.type "itertools.combinations")) {f : Addr} {fd : FuncData} (D : Df K mg "rising" s_rising ["m", "many"] f fd)  (M : Bl mg) : FnOk P w K mg base CX0 (k + 1) f fd ["m", "many"] spRising := by
  refine D.F.ok sc_rising (fun vs H Q E h => ?_) (fun cdv A outer s H vs Q E hr h => ?_)
  · obtain ⟨d, n, L, m, many, rfl, _⟩ := h
    rfl
  obtain ⟨d, n, L, m, many, rfl, hm, hk, kn, g⟩ := h
  refine ⟨_, (pss_one (ps_ret (pe_listComb rfl (by rfl) M.list (by rfl) MC (by rfl) M.range (pv 0) (pv 1)))), ?_⟩
  refine kRet ?_
  exact kLstComb (kVar rfl ⟨m, rfl, by omega, kVar rfl ⟨many, rfl, by omega, kComb kn hm hk g⟩⟩)
def spStands : Sp := fun vs H Q _ => ∃ (d : Addr) (n : Nat) (L : Led) (m t : Nat), vs = [.int (m : Int), .int (t : Int)] ∧ m ≤ 16 ∧ t ≤ 3 ∧ Kn d n L H ∧
  ∀ (l : Addr) (as : List Addr) (L2 : Led) H', RowsAt L2 as (Csi m (t + 1)) → L.Sublist L2 → Kn d n ((l, .lst (as.map V.ref)) :: L2) H' → Q (.ref l) H'
abbrev s_stands : Stmt := topS 5
theorem sc_stands : FnScope ["m", "t"] ["m", "t"] (defScope s_stands) := ⟨rfl, rfl, rfl, by decide +kernel, rfl, by decide +kernel, by decide +kernel⟩
theorem ok_stands {P : Program} {w : World} {K : PySem.W.Frag} {mg : Str → Option Value} {base : Heap} {k : Nat} (MC : mg "combinations" = some (.type "itertools.combinations")) {f a_rising : Addr} {fd fd_rising : FuncData} (D : Df K mg "stands" s_stands ["m", "t"] f fd) (D_rising : Df K mg "rising" s_rising ["m", "many"] a_rising fd_rising) (M : Bl mg) : FnOk P w K mg base CX0 (k + 1 + 1) f fd ["m", "t"] spStands := by
  have G_rising := ok_rising (P := P) (w := w) (base := base) (k := k) MC D_rising M
  refine D.F.ok sc_stands (fun vs H Q E h => ?_) (fun cdv A outer s H vs Q E hr h => ?_)
  · obtain ⟨d, n, L, m, many, rfl, _⟩ := h
    rfl
  obtain ⟨d, n, L, m, t, rfl, hm, hk, kn, g⟩ := h
  refine ⟨_, (pss_one (ps_ret (pe_call G_rising (hr.mono (by omega)) (by rfl) D_rising.g D_rising.F.kp D_rising.b .nil pass0 (pa_cons (pv 0) (pa_cons (pe_op op_add (pv 1) pe_int) pa_nil))))), ?_⟩
  walk_at "go"
  exact ⟨d, n, L, m, t + 1, rfl, hm, by omega, kn, g⟩
/-! ### _law_stands -/
theorem kCatM {d : Addr} {n : Nat} {L : Led} {H : Hp} {Q : VK} {K : PySem.W.Frag} {a b : Addr} {xs ys : List V} (kn : Kn d n ((b, .tup ys) :: L) H) (ha : (a, .tup xs) ∈ L) (hy : ys ≠ []) (hz : xs.length + ys.length ≤ 100000) (q : ∀ r H', Kn d n ((r, .tup (xs ++ ys)) :: L) H' → Q (.ref r) H') : rCatA K (.ref a) (.ref b) H Q := by
  refine ⟨a, b, xs, ys, rfl, rfl, kn.seqT (List.mem_cons_of_mem _ ha), kn.seqT List.mem_cons_self, szL hz, fun e => ?_, fun _ e => absurd e hy, fun _ _ p hp => ?_⟩
  · subst e
    exact q b H kn
  · exact q p _ ((kn.new hp).sub ((List.sublist_cons_self _ _).cons₂ _))
/-- may this number follow the row -/
def mayF (m : Nat) (r : List Nat) (i : Nat) : Bool := match r.getLast? with | none => decide (m - m ≤ i) | some l => decide (l < i)
def extTo (m : Nat) (r : List Nat) (c : Nat) : List (List Nat) := ((List.range c).filter (mayF m r)).map fun i => r ++ [i]
theorem extTo_full (m : Nat) (r : List Nat) : extTo m r m = CpComb.ext m m r := rfl
theorem extTo_succ (m : Nat) (r : List Nat) (c : Nat) : extTo m r (c + 1) = extTo m r c ++ if mayF m r c = true then [r ++ [c]] else [] := by
  unfold extTo
  rw [List.range_succ, List.filter_append, List.map_append]
  cases h : mayF m r c with
  | true => rw [List.filter_cons_of_pos h]; rfl
  | false => rw [List.filter_cons_of_neg (by rw [h]; decide)]; rfl
def ri (rows : List (List Nat)) : List (List Int) := rows.map fun r => r.map fun (i : Nat) => (i : Int)
theorem ri_app (a b : List (List Nat)) : ri (a ++ b) = ri a ++ ri b := List.map_append
theorem RowsAt.one {L : Led} {as : List Addr} {rows : List (List Int)} {a : Addr} {r : List Int} (h : RowsAt L as rows) : RowsAt ((a, .tup (r.map V.int)) :: L) (as ++ [a]) (rows ++ [r]) :=
  (h.up fun _ hy => List.mem_cons_of_mem _ hy).app ⟨rfl, fun i x y e1 e2 => by
    match i, e1, e2 with
    | 0, e1, e2 =>
      cases e1
      cases e2
      exact List.mem_cons_self⟩
theorem take_getD {α β : Type} (f : α → List β) : ∀ (l : List α) (j : Nat) (r : α), l[j]? = some r → (l.take (j + 1)).flatMap f = (l.take j).flatMap f ++ f r := fun l j r h => by
  rw [List.take_succ, h, List.flatMap_append]
  show _ ++ (f r ++ []) = _
  rw [List.append_nil]
theorem ext_len {m : Nat} (r : List Nat) : (CpComb.ext m m r).length ≤ m := by
  unfold CpComb.ext
  rw [List.length_map]
  exact Nat.le_trans (List.length_filter_le _ _) (by rw [List.length_range]; exact Nat.le_refl _)
theorem extTo_len {m c : Nat} (r : List Nat) : (extTo m r c).length ≤ c := by
  unfold extTo
  rw [List.length_map]
  exact Nat.le_trans (List.length_filter_le _ _) (by rw [List.length_range]; exact Nat.le_refl _)
theorem flatE_len {m : Nat} : ∀ l : List (List Nat), (l.flatMap (CpComb.ext m m)).length ≤ l.length * m
  | [] => by simp
  | r :: l => by
    have := flatE_len (m := m) l
    have := ext_len (m := m) r
    rw [List.flatMap_cons, List.length_append, List.length_cons, Nat.succ_mul]
    omega
def spLawStands := spStands
abbrev s_law_stands : Stmt := topS 15
theorem sc_law_stands : FnScope ["m", "t", "found", "turn", "longer", "row", "number"] ["m", "t"] (defScope s_law_stands) := ⟨rfl, rfl, rfl, by decide +kernel, rfl, by decide +kernel, by decide +kernel⟩
theorem ok_law_stands {P : Program} {w : World} {K : PySem.W.Frag} {mg : Str → Option Value} {base : Heap} {k : Nat} {f : Addr} {fd : FuncData} (D : Df K mg "_law_stands" s_law_stands ["m", "t"] f fd)  (M : Bl mg) : FnOk P w K mg base CX0 (k + 1) f fd ["m", "t"] spStands := by
  refine D.F.ok sc_law_stands (fun vs H Q E h => ?_) (fun cdv A outer s H vs Q E hr h => ?_)
  · obtain ⟨d, n, L, m, many, rfl, _⟩ := h
    rfl
  obtain ⟨d, n, L, m, t, rfl, hm, hk, kn, g⟩ := h
  refine ⟨_, (pss_cons (ps_set (i := 2) sc_law_stands.nd rfl (Or.inl rfl) (pe_lst (pa_cons (pe_tup pa_nil) pa_nil)))
   (pss_cons (ps_for PassesOwn.never rfl (pi_range1 (by rfl) M.range (pa_cons (pe_op op_add (pv 1) pe_int) pa_nil)) (pg_name (i := 3) sc_law_stands.nd rfl (Or.inl rfl))
    (pss_cons (ps_set (i := 4) sc_law_stands.nd rfl (Or.inl rfl) (pe_lst pa_nil))
    (pss_cons (ps_for PassesOwn.never rfl (pi_list (pv 2)) (pg_name (i := 5) sc_law_stands.nd rfl (Or.inl rfl))
     (pss_one (ps_for PassesOwn.never rfl (pi_range1 (by rfl) M.range (pa_cons (pv 0) pa_nil)) (pg_name (i := 6) sc_law_stands.nd rfl (Or.inl rfl))
      (pss_one (ps_if (PW.pt (pw_or (pt_cmpR (op_eqD hr.units) (pv 5) (pe_tup pa_nil) (nomark _)) (pw_or1 (pt_cmpR op_gt (pv 6) (pe_ix ix_tup (pv 5) (pe_un un_neg pe_int) (fun _ _ => rfl)) (nomark _))))) (pss_one (ps_expr (pe_bm PySem.F.plainAttrs_list PySem.F.slot_list_append PySem.F.type_list_append mt_append (pv 4) (pa_cons (pe_op op_catA (pv 5) (pe_tup (pa_cons (pv 6) pa_nil))) pa_nil)))) pss_nil)))))
    (pss_one (ps_set (i := 2) sc_law_stands.nd rfl (Or.inl rfl) (pv 4))))))
   (pss_one (ps_ret (pv 2))))), ?_⟩
  walk_at "go"
  rename_i t0 H1 kn1 f0 H2 kn2
  refine kSeq (kRng1 (n := (t : Int) + 1) (by omega) (fun i σ' H' => ∃ (x3 x4 x5 x6 : Option V) (fo : Addr) (as : List Addr) (L3 : Led), σ' = [some (.int (m : Int)), some (.int (t : Int)), some (.ref fo), x3, x4, x5, x6] ∧ RowsAt L3 as (Csi m i) ∧ L.Sublist L3 ∧ Kn d n ((fo, .lst (as.map V.ref)) :: L3) H')
    ⟨_, _, _, _, f0, [t0], (t0, .tup []) :: L, rfl, ⟨by unfold Csi CpComb.Cs; rw [CpComb.C_zero]; rfl, fun i a r e1 e2 => by
      unfold Csi CpComb.Cs at e2
      rw [CpComb.C_zero] at e2
      match i, e1, e2 with
      | 0, e1, e2 =>
        cases e1
        cases e2
        exact List.mem_cons_self⟩, List.sublist_cons_self _ _, kn2⟩ (fun i σ' H' hi hW => ?_) (fun σ' H' hW => ?_) fun R hR => by walk_at "go"; exact hR)
  · obtain ⟨x3, x4, x5, x6, fo, as, L3, rfl, hrows, hs, kn3⟩ := hW
    walk_at "go"
    rename_i g0 H4 kn4
    have hlC : (CpComb.Cs m i).length ≤ 2000 := Cs_short hm (by omega)
    have hal : as.length = (CpComb.Cs m i).length := by rw [hrows.len, Csi_length]
    refine kSeq (kForL (K := K) (p := fo) (xs := as.map V.ref) (fun j σ' H' => ∃ (x5 x6 : Option V) (bs : List Addr) (L4 : Led), σ' = [some (.int (m : Int)), some (.int (t : Int)), some (.ref fo), some (.int (i : Int)), some (.ref g0), x5, x6] ∧ RowsAt L4 bs (ri (((CpComb.Cs m i).take j).flatMap (CpComb.ext m m))) ∧ ((fo, HO.lst (as.map V.ref)) :: L3).Sublist L4 ∧ Kn d n ((g0, .lst (bs.map V.ref)) :: L4) H')
      (kn4.seqL (List.mem_cons_of_mem _ List.mem_cons_self)) ⟨_, _, [], _, rfl, ⟨rfl, fun _ _ _ e => nomatch e⟩, List.Sublist.refl _, kn4⟩ (fun j σ' H' _ hW => by obtain ⟨_, _, _, L4, _, _, s4, k'⟩ := hW; exact k'.seqL (List.mem_cons_of_mem _ (s4.subset List.mem_cons_self))) (fun j x σ' H' hx hW => ?_) (fun σ' H' hW => ?_) fun R hR => by walk_at "go"; exact hR)
    · obtain ⟨x5, x6, bs, L4, rfl, hb, s4, kn5⟩ := hW
      obtain ⟨a, ha, rfl⟩ : ∃ a, as[j]? = some a ∧ x = V.ref a := by
        rw [List.getElem?_map] at hx
        cases e : as[j]? with
        | none => rw [e] at hx; cases hx
        | some a => rw [e] at hx; exact ⟨a, rfl, (Option.some.inj hx).symm⟩
      have hj : j < as.length := (List.getElem?_eq_some_iff.mp ha).1
      obtain ⟨r, hr⟩ : ∃ r, (CpComb.Cs m i)[j]? = some r := ⟨(CpComb.Cs m i)[j]'(by omega), List.getElem?_eq_getElem _⟩
      have hma : (a, HO.tup ((r.map fun (i : Nat) => (i : Int)).map V.int)) ∈ L4 := s4.subset (List.mem_cons_of_mem _ (hrows.at_ j a _ ha (by unfold Csi; rw [List.getElem?_map, hr]; rfl)))
      have hrl := (CpComb.mem_Cs.mp (List.mem_of_getElem? hr)).1
      refine kRng1 (n := (m : Int)) (by omega) (fun c σ' H' => ∃ (x6 : Option V) (cs : List Addr) (L5 : Led), σ' = [some (.int (m : Int)), some (.int (t : Int)), some (.ref fo), some (.int (i : Int)), some (.ref g0), some (.ref a), x6] ∧ RowsAt L5 cs (ri (((CpComb.Cs m i).take j).flatMap (CpComb.ext m m) ++ extTo m r c)) ∧ L4.Sublist L5 ∧ Kn d n ((g0, .lst (cs.map V.ref)) :: L5) H')
        ⟨_, bs, L4, rfl, by rw [show extTo m r 0 = [] from rfl, List.append_nil]; exact hb, List.Sublist.refl _, kn5⟩ (fun c σ' H' hc hW => ?_) (fun σ' H' hW => ?_) fun R hR => by walk_at "go"; exact hR
      · obtain ⟨x6, cs, L5, rfl, hcs, s5, kn6⟩ := hW
        have hlen : cs.length ≤ 50000 := by
          have h1 := hcs.len
          unfold ri at h1
          rw [List.length_map, List.length_append] at h1
          have h2 := flatE_len (m := m) ((CpComb.Cs m i).take j)
          have h3 := extTo_len (m := m) (c := c) r
          have h4 : ((CpComb.Cs m i).take j).length ≤ 2000 := by rw [List.length_take]; omega
          have h5 : ((CpComb.Cs m i).take j).length * m ≤ 2000 * 16 := Nat.mul_le_mul h4 hm
          omega
        have ma5 := s5.subset hma
        walk_at "go"
        rename_i e0 H7 kn7
        refine kEqT (xs := r.map fun (i : Nat) => (i : Int)) (ys := []) (kn7.seqT (List.mem_cons_of_mem _ (List.mem_cons_of_mem _ ma5))) (kn7.seqT List.mem_cons_self) ?_
        refine kBl ?_
        have kn8 := kn7.tail
        clear kn7
        have mc8 : (a, HO.tup ((r.map fun (i : Nat) => (i : Int)).map V.int)) ∈ (g0, HO.lst (cs.map V.ref)) :: L5 := List.mem_cons_of_mem _ ma5
        have yes : mayF m r c = true → ∀ e H9, Kn d n ((e, HO.tup ((r.map fun (i : Nat) => (i : Int)).map V.int ++ [V.int (c : Int)])) :: (g0, HO.lst (cs.map V.ref ++ [V.ref e])) :: L5) H9 → ∃ (x6 : Option V) (cs : List Addr) (L5 : Led), [some (V.int (m : Int)), some (.int (t : Int)), some (.ref fo), some (.int (i : Int)), some (.ref g0), some (.ref a), some (.int (c : Int))] = [some (V.int (m : Int)), some (.int (t : Int)), some (.ref fo), some (.int (i : Int)), some (.ref g0), some (.ref a), x6] ∧ RowsAt L5 cs (ri (((CpComb.Cs m i).take j).flatMap (CpComb.ext m m) ++ extTo m r (c + 1))) ∧ L4.Sublist L5 ∧ Kn d n ((g0, .lst (cs.map V.ref)) :: L5) H9 := fun hy e H9 k9 => by
          refine ⟨_, cs ++ [e], (e, .tup (((r ++ [c]).map fun (i : Nat) => (i : Int)).map V.int)) :: L5, rfl, ?_, s5.cons _, ?_⟩
          · rw [extTo_succ, if_pos hy, ← List.append_assoc, ri_app]
            exact hcs.one (r := (r ++ [c]).map fun (i : Nat) => (i : Int))
          · rw [List.map_append, List.map_append, List.map_append]
            exact k9.perm (List.Perm.swap _ _ _)
        by_cases hr0 : r = []
        · subst hr0
          rw [show decide (([] : List Nat).map (fun (i : Nat) => (i : Int)) = []) = true from rfl]
          refine iteT (iteT ?_)
          walk_at "go"
          rename_i e1 H9 kn9
          refine kCatM kn9 mc8 (by simp) (by simp) fun e2 H10 kn10 => ?_
          walk_at "go"
          rename_i H11 kn11
          exact yes (by unfold mayF; simp) e2 _ kn11
        · have hne : ¬ (r.map (fun (i : Nat) => (i : Int)) = []) := fun z => hr0 (List.map_eq_nil_iff.mp z)
          rw [decide_eq_false hne]
          refine iteF ?_
          obtain ⟨z, l, rfl⟩ : ∃ z l, r = z ++ [l] := ⟨r.dropLast, r.getLast hr0, (List.dropLast_concat_getLast hr0).symm⟩
          have hmy : mayF m (z ++ [l]) c = decide (l < c) := by unfold mayF; rw [List.getLast?_concat]
          walk_at "go"
          refine kIxT (v := .int (l : Int)) (kn8.seqT mc8) (by rw [List.map_append]; exact atLast _ _) ?_
          walk_at "go"
          refine iteD (fun hlt => ?_) fun hlt => ?_
          · walk_at "go"
            rename_i e1 H9 kn9
            refine kCatM kn9 mc8 (by simp) (by rw [List.length_map, List.length_map, hrl]; simp; omega) fun e2 H10 kn10 => ?_
            walk_at "go"
            rename_i H11 kn11
            exact yes (by rw [hmy]; exact decide_eq_true (by omega)) e2 _ kn11
          · walk_at "go"
            refine ⟨_, cs, L5, rfl, ?_, s5, kn8⟩
            rw [extTo_succ, hmy, decide_eq_false (by omega), if_neg (by decide), List.append_nil]
            exact hcs
      · obtain ⟨x6, cs, L5, rfl, hcs, s5, kn6⟩ := hW
        refine ⟨_, _, cs, L5, rfl, ?_, s4.trans s5, kn6⟩
        rw [take_getD _ _ _ _ hr, ← extTo_full]
        exact hcs
    · obtain ⟨x5, x6, bs, L4, rfl, hb, s4, kn5⟩ := hW
      walk_at "go"
      refine ⟨_, _, _, _, g0, bs, L4, rfl, ?_, hs.trans ((List.sublist_cons_self _ _).trans s4), kn5⟩
      rw [List.length_map, hal, List.take_length] at hb
      unfold Csi
      rw [CpComb.Cs_ext]
      exact hb
  · obtain ⟨x3, x4, x5, x6, fo, as, L3, rfl, hrows, hs, kn3⟩ := hW
    walk_at "go"
    exact g fo as L3 _ hrows hs kn3

/-! ### lists of rows compared -/
def rowD (r : List Int) : PyData := .tuple (r.map PyData.int)
theorem dpRows {K : PySem.W.Frag} {d : Addr} {n : Nat} {L : Led} {H : Hp} (k : Kn d n L H) : ∀ (as : List Addr) (rows : List (List Int)), RowsAt L as rows → DpAll K H (as.map V.ref) (rows.map rowD)
  | [], [], _ => .nil
  | [], r :: rs, h => by have := h.len; simp at this
  | a :: as, [], h => by have := h.len; simp at this
  | a :: as, r :: rs, h => .cons (.tup (k.seqT (h.at_ 0 a r rfl rfl)) (dpInts r)) (dpRows k as rs ⟨by have := h.len; simpa using this, fun i a' r' e1 e2 => h.at_ (i + 1) a' r' e1 e2⟩)
theorem layRows : ∀ rows : List (List Int), PyData.canLayAll0 (rows.map rowD) = true
  | [] => by simp [PyData.canLayAll0]
  | r :: rs => by simp [PyData.canLayAll0, PyData.canLay0, rowD, layInts, layRows rs]
theorem depRows : ∀ rows : List (List Int), PyData.depthAll (rows.map rowD) ≤ 1
  | [] => by simp [PyData.depthAll]
  | r :: rs => by
    have := depRows rs
    simp only [List.map_cons, PyData.depthAll, rowD, PyData.depth, depInts]
    omega
theorem shRows (rows : List (List Int)) : SeqAt.shaped (.list (rows.map rowD)) = true := by
  have := depRows rows
  have e : PyData.depth (.list (rows.map rowD)) ≤ 64 := by
    simp only [PyData.depth]
    omega
  unfold SeqAt.shaped
  rw [decide_eq_true e]
  simp [PyData.canLay0, layRows]
theorem eqvRows : ∀ rows : List (List Int), PyData.eqvAll (rows.map rowD) (rows.map rowD) = true
  | [] => by simp [PyData.eqvAll]
  | r :: rs => by
    simp only [List.map_cons, PyData.eqvAll, rowD, PyData.eqv, eqvInts, decide_true, Bool.true_and]
    exact eqvRows rs
theorem kNeRows {K : PySem.W.Frag} {d : Addr} {n : Nat} {L : Led} {H : Hp} {Q : VK} {p q : Addr} {as bs : List Addr} {rows : List (List Int)} (k : Kn d n L H) (h1 : SqL K H p (as.map V.ref)) (r1 : RowsAt L as rows) (h2 : SqL K H q (bs.map V.ref)) (r2 : RowsAt L bs rows) (g : Q (.bl false) H) : rNeD K (.ref p) (.ref q) H Q := by
  refine ⟨.list (rows.map rowD), .list (rows.map rowD), .lst h1 (dpRows k as rows r1), .lst h2 (dpRows k bs rows r2), shRows rows, shRows rows, ?_⟩
  rw [PyData.eqv, eqvRows]
  exact g

/-! ### what may stand in a thing that is looked at -/
inductive Dt (L : Led) : V → Prop where
  | non : Dt L .non
  | bl (b : Bool) : Dt L (.bl b)
  | int (i : Int) : Dt L (.int i)
  | str (x : Str) : Dt L (.str x)
  | lst {a : Addr} {xs : List V} (h : (a, .lst xs) ∈ L) : Dt L (.ref a)
  | tup {a : Addr} {xs : List V} (h : (a, .tup xs) ∈ L) : Dt L (.ref a)
theorem Dt.mono {L L' : Led} {v : V} (h : Dt L v) (s : ∀ q ∈ L, q ∈ L') : Dt L' v := by
  cases h with
  | non => exact .non
  | bl b => exact .bl b
  | int i => exact .int i
  | str x => exact .str x
  | lst h => exact .lst (s _ h)
  | tup h => exact .tup (s _ h)
def isI : V → Bool
  | .int _ => true
  | _ => false
theorem kitSI : kitB "str" "int" = some false := by decide +kernel
theorem kitNI : kitB "NoneType" "int" = some false := by decide +kernel
theorem kitLI : kitB "list" "int" = some false := by decide +kernel
theorem kitTI : kitB "tuple" "int" = some false := by decide +kernel
/-- isinstance(v, int) -/
theorem isiInt {d : Addr} {n : Nat} {L : Led} {H : Hp} {Q : VK} {K : PySem.W.Frag} {v : V} (k : Kn d n L H) (h : Dt L v) (q : ∀ b, b = (isI v || (match v with | .bl _ => true | _ => false)) → Q (.bl b) H) : rIsi K [v, .ty "int"] H Q := by
  cases h with
  | non => exact kIsi (.ty _) (.base .non) (kit_ty kitNI) (q _ rfl)
  | bl b => exact kIsi (.ty _) (.base (.bl b)) (kit_ty kitBI) (q _ rfl)
  | int i => exact kIsi (.ty _) (.base (.int i)) (kit_ty kitII) (q _ rfl)
  | str x => exact kIsi (.ty _) (.base (.str x)) (kit_ty kitSI) (q _ rfl)
  | lst h => exact kIsi (.ty _) (.base (.lst (k.mem h))) (kit_ty kitLI) (q _ rfl)
  | tup h => exact kIsi (.ty _) (.base (.tup (k.mem h))) (kit_ty kitTI) (q _ rfl)
/-! ### is_whole -/
def spIsWhole : Sp := fun vs H Q _ => ∃ (d : Addr) (n : Nat) (L : Led) (v : V), vs = [v] ∧ Kn d n L H ∧ Dt L v ∧ Q (.bl (isI v)) H
/-! ### a thing that may be a list of houses -/
/-- a thing, and its items where it is a list -/
inductive Lk (L : Led) : V → Option (List V) → Prop where
  | lst {a : Addr} {xs : List V} (h : (a, .lst xs) ∈ L) (ds : ∀ x ∈ xs, Dt L x) (z : xs.length ≤ 20000) : Lk L (.ref a) (some xs)
  | tup {a : Addr} {xs : List V} (h : (a, .tup xs) ∈ L) : Lk L (.ref a) none
  | non : Lk L .non none
  | bl (b : Bool) : Lk L (.bl b) none
  | int (i : Int) : Lk L (.int i) none
  | str (x : Str) : Lk L (.str x) none
theorem Lk.mono {L L' : Led} {v : V} {o : Option (List V)} (h : Lk L v o) (s : ∀ q ∈ L, q ∈ L') : Lk L' v o := by
  cases h with
  | lst h ds z => exact .lst (s _ h) (fun x hx => (ds x hx).mono s) z
  | tup h => exact .tup (s _ h)
  | non => exact .non
  | bl b => exact .bl b
  | int i => exact .int i
  | str x => exact .str x
theorem Lk.ints {L : Led} {a : Addr} {ns : List Int} (h : (a, .lst (ns.map V.int)) ∈ L) (z : ns.length ≤ 20000) : Lk L (.ref a) (some (ns.map V.int)) := .lst h (fun x hx => by
  obtain ⟨i, _, rfl⟩ := List.mem_map.mp hx
  exact .int i) (by rw [List.length_map]; exact z)
/-- isinstance(v, list) -/
theorem isiList {d : Addr} {n : Nat} {L : Led} {H : Hp} {Q : VK} {K : PySem.W.Frag} {v : V} {o : Option (List V)} (k : Kn d n L H) (h : Lk L v o) (q : Q (.bl o.isSome) H) : rIsi K [v, .ty "list"] H Q := by
  have no : ∀ {v' : V} {t : String} (e : kitB t "list" = some false) (ty : TyX K H v' (.type t)) {R : VK}, R (.bl false) H → rIsi K [v', .ty "list"] H R := fun e ty _ z => kIsi (.ty _) ty (kit_ty e) z
  cases h with
  | lst h ds z => exact isiLL (k.mem h) q
  | tup h => exact no (by decide +kernel) (.base (.tup (k.mem h))) q
  | non => exact no (by decide +kernel) (.base .non) q
  | bl b => exact no (by decide +kernel) (.base (.bl b)) q
  | int i => exact no (by decide +kernel) (.base (.int i)) q
  | str x => exact no (by decide +kernel) (.base (.str x)) q
theorem ints_inj {ns ms : List Int} (h : ns.map V.int = ms.map V.int) : ns = ms := List.map_inj_right (fun _ _ e => V.int.inj e) |>.mp h

/-! ### is_whole of the program -/
abbrev s_is_whole : Stmt := topS 2
theorem sc_is_whole : FnScope ["thing"] ["thing"] (defScope s_is_whole) := ⟨rfl, rfl, rfl, by decide +kernel, rfl, by decide +kernel, by decide +kernel⟩
section
variable {P : Program} {w : World} {K : PySem.W.Frag} {mg : Str → Option Value} {base : Heap}
theorem ok_is_whole {f : Addr} {fd : FuncData} {k : Nat} (D : Df K mg "is_whole" s_is_whole ["thing"] f fd) (M : Bl mg) : FnOk P w K mg base CX0 (k + 1) f fd ["thing"] spIsWhole := by
  refine D.F.ok sc_is_whole (fun vs H Q E h => ?_) (fun cdv A outer s H vs Q E hr h => ?_)
  · obtain ⟨d, n, L, v, rfl, _⟩ := h
    rfl
  obtain ⟨d, n, L, v, rfl, kn, hv, q⟩ := h
  refine ⟨_, (pss_one (ps_ret (pe_and (pe_callB call_isi (by rfl) M.isinstance (by decide +kernel) (pa_cons (pv 0) (pa_cons (pe_bltn (v := .ty "int") (u := .type "int") (by rfl) M.int (by decide +kernel) rfl) pa_nil))) (pe_one (pe_not (pe_callB call_isi (by rfl) M.isinstance (by decide +kernel) (pa_cons (pv 0) (pa_cons (pe_bltn (v := .ty "bool") (u := .type "bool") (by rfl) M.bool (by decide +kernel) rfl) pa_nil)))))))), ?_⟩
  walk_at "go"
  refine isiInt kn hv fun b e => ?_
  subst e
  refine kBl ?_
  cases v with
  | int i =>
    refine iteT ?_
    walk_at "go"
    exact q
  | bl c =>
    refine iteT ?_
    walk_at "go"
    exact q
  | _ => exact iteF q
end

/-! ### tables: a hue for each stand -/
def keyR (r : List Int) : List Key := r.map Sum.inl
theorem keyR_kV (r : List Int) : (keyR r).map kV = r.map V.int := by
  unfold keyR
  rw [List.map_map]
  rfl
theorem keyR_inj {r s : List Int} (h : keyR r = keyR s) : r = s := List.map_inj_right (fun _ _ e => Sum.inl.inj e) |>.mp h
def tabO (rows : List (List Int)) (vs : List V) : List (List Key × V) := (rows.map keyR).zip vs
/-- the hue of a row -/
def hueL (rows : List (List Int)) (hs : List Int) (r : List Int) : Option Int := ((rows.zip hs).find? fun p => decide (p.1 = r)).map (·.2)
theorem valV_tab : ∀ (rows : List (List Int)) (hs : List Int) (r : List Int), valV (tabO rows (hs.map V.int)) (keyR r) = (hueL rows hs r).map V.int
  | [], _, _ => rfl
  | x :: rows, [], r => rfl
  | x :: rows, h :: hs, r => by
    show valV ((keyR x, V.int h) :: tabO rows (hs.map V.int)) (keyR r) = _
    unfold hueL
    rw [List.zip_cons_cons, List.find?_cons]
    by_cases e : x = r
    · rw [valV_pos (by rw [e]), decide_eq_true e]
      rfl
    · rw [valV_neg (fun z => e (keyR_inj z)), decide_eq_false e]
      exact valV_tab rows hs r
theorem hueL_at {rows : List (List Int)} {hs : List Int} {r : List Int} {h : Int} (nd : rows.Nodup) : ∀ {i : Nat}, rows[i]? = some r → hs[i]? = some h → hueL rows hs r = some h := by
  induction rows generalizing hs with
  | nil => intro i e; simp at e
  | cons x rows ih =>
    obtain ⟨n1, n2⟩ := List.nodup_cons.mp nd
    intro i e1 e2
    cases hs with
    | nil => simp at e2
    | cons y hs =>
      unfold hueL
      rw [List.zip_cons_cons, List.find?_cons]
      cases i with
      | zero =>
        cases e1
        cases e2
        rw [decide_eq_true rfl]
        rfl
      | succ i =>
        have hne : ¬ x = r := fun z => n1 (by rw [z]; exact List.mem_of_getElem? (by simpa using e1))
        rw [decide_eq_false hne]
        exact ih n2 (i := i) (by simpa using e1) (by simpa using e2)
theorem hueL_some {rows : List (List Int)} {hs : List Int} {r : List Int} (nd : rows.Nodup) (hl : hs.length = rows.length) (h : r ∈ rows) : ∃ y, hueL rows hs r = some y ∧ y ∈ hs := by
  obtain ⟨i, hi⟩ := List.getElem?_of_mem h
  have hlt := (List.getElem?_eq_some_iff.mp hi).1
  have e2 : hs[i]? = some (hs[i]'(by omega)) := List.getElem?_eq_getElem (by omega)
  exact ⟨_, hueL_at nd hi e2, List.getElem_mem _⟩
theorem Csi_nodup (m k : Nat) : (Csi m k).Nodup := List.Pairwise.map _ (fun a b h e => h (List.map_inj_right (fun _ _ z => Int.ofNat.inj z) |>.mp e)) (CpComb.Cs_nodup m k)
theorem mem_Csi {m k : Nat} {r : List Int} : r ∈ Csi m k ↔ r.length = k ∧ r.Pairwise (· < ·) ∧ ∀ x ∈ r, 0 ≤ x ∧ x < m := by
  unfold Csi
  rw [List.mem_map]
  constructor
  · rintro ⟨s, hs, rfl⟩
    obtain ⟨h1, h2, h3⟩ := CpComb.mem_Cs.mp hs
    refine ⟨by rw [List.length_map, h1], List.Pairwise.map _ (fun a b h => by omega) h2, fun x hx => ?_⟩
    obtain ⟨y, hy, rfl⟩ := List.mem_map.mp hx
    have := h3 y hy
    omega
  · rintro ⟨h1, h2, h3⟩
    refine ⟨r.map Int.toNat, CpComb.mem_Cs.mpr ⟨by rw [List.length_map, h1], ?_, fun x hx => ?_⟩, ?_⟩
    · rw [List.pairwise_map]
      exact h2.imp_of_mem fun {a b} ha hb h => by
        have := h3 a ha
        have := h3 b hb
        omega
    · obtain ⟨y, hy, rfl⟩ := List.mem_map.mp hx
      have := h3 y hy
      omega
    · rw [List.map_map]
      conv => rhs; rw [← List.map_id r]
      exact List.map_congr_left fun x hx => by
        have := h3 x hx
        show ((x.toNat : Nat) : Int) = x
        omega
theorem init_Csi {m k : Nat} {r : List Int} (h : r ∈ Csi m (k + 1)) : r.dropLast ∈ Csi m k := by
  obtain ⟨h1, h2, h3⟩ := mem_Csi.mp h
  exact mem_Csi.mpr ⟨by rw [List.length_dropLast, h1]; rfl, h2.sublist (List.dropLast_sublist r), fun x hx => h3 x (List.dropLast_subset r hx)⟩
theorem tail_Csi {m k : Nat} {r : List Int} (h : r ∈ Csi m (k + 1)) : r.tail ∈ Csi m k := by
  obtain ⟨h1, h2, h3⟩ := mem_Csi.mp h
  exact mem_Csi.mpr ⟨by rw [List.length_tail, h1]; rfl, h2.sublist (List.tail_sublist r), fun x hx => h3 x (List.mem_of_mem_tail hx)⟩
def hAt (m t : Nat) (hs : List Int) (r : List Int) : Int := (hueL (Csi m (t + 1)) hs r).getD 0
theorem hAt_is {m t : Nat} {hs : List Int} {r : List Int} (hl : hs.length = (Csi m (t + 1)).length) (h : r ∈ Csi m (t + 1)) : hueL (Csi m (t + 1)) hs r = some (hAt m t hs r) := by
  obtain ⟨y, e, _⟩ := hueL_some (Csi_nodup m (t + 1)) hl h
  unfold hAt
  rw [e]
  rfl
/-- no two stands that overlap have like hues -/
def farT (m t : Nat) (hs : List Int) (r : List Int) : Bool := decide (hAt m t hs r.dropLast ≠ hAt m t hs r.tail)
structure IsTab (m t : Nat) (hs : List Int) : Prop where
  len : hs.length = (Csi m (t + 1)).length
  pos : ∀ h ∈ hs, 0 ≤ h
  far : ∀ r ∈ Csi m (t + 2), hAt m t hs r.dropLast ≠ hAt m t hs r.tail
theorem far_all {m t : Nat} {hs : List Int} : ((Csi m (t + 2)).map (farT m t hs)).all id = true ↔ ∀ r ∈ Csi m (t + 2), hAt m t hs r.dropLast ≠ hAt m t hs r.tail := by
  rw [List.all_eq_true]
  constructor
  · intro h r hr
    exact of_decide_eq_true (h _ (List.mem_map.mpr ⟨r, hr, rfl⟩))
  · intro h b hb
    obtain ⟨r, hr, rfl⟩ := List.mem_map.mp hb
    exact decide_eq_true (h r hr)
theorem cutInit (xs : List V) (h : 1 ≤ xs.length) : cutV xs none (some (-1)) = xs.dropLast := by
  unfold cutV
  rw [HT.sIx_none, List.drop_zero, List.dropLast_eq_take]
  congr 1
  unfold HT.sIx
  simp
  omega
theorem cutTail (xs : List V) (h : 1 ≤ xs.length) : cutV xs (some 1) none = xs.tail := by
  have := cutDrop xs 1 h
  rw [List.drop_one] at this
  exact this
def isHue : V → Bool
  | .int i => decide (0 ≤ i)
  | _ => false
theorem hue_ints : ∀ {xs : List V}, (∀ x ∈ xs, isHue x = true) → ∃ ns : List Int, xs = ns.map V.int ∧ ∀ z ∈ ns, 0 ≤ z
  | [], _ => ⟨[], rfl, fun z h => (List.not_mem_nil h).elim⟩
  | x :: xs, h => by
    obtain ⟨ns, e, hn⟩ := hue_ints fun y hy => h y (List.mem_cons_of_mem _ hy)
    have hx := h x List.mem_cons_self
    cases x with
    | int z =>
      refine ⟨z :: ns, by rw [e]; rfl, fun y hy => ?_⟩
      rcases List.mem_cons.mp hy with rfl | hy
      · simpa [isHue] using hx
      · exact hn y hy
    | _ => cases hx

/-! ### _law_whole, of any thing -/
abbrev s_law_whole : Stmt := topS 14
theorem sc_law_whole : FnScope ["thing"] ["thing"] (defScope s_law_whole) := ⟨rfl, rfl, rfl, by decide +kernel, rfl, by decide +kernel, by decide +kernel⟩
theorem ok_law_whole {P : Program} {w : World} {K : PySem.W.Frag} {mg : Str → Option Value} {base : Heap} {k : Nat} {f : Addr} {fd : FuncData} (D : Df K mg "_law_whole" s_law_whole ["thing"] f fd)  (M : Bl mg) : FnOk P w K mg base CX0 (k + 1) f fd ["thing"] spIsWhole := by
  refine D.F.ok sc_law_whole (fun vs H Q E h => ?_) (fun cdv A outer s H vs Q E hr h => ?_)
  · obtain ⟨d, n, L, v, rfl, _⟩ := h
    rfl
  obtain ⟨d, n, L, v, rfl, kn, hv, q⟩ := h
  refine ⟨_, (pss_one (ps_ret (pe_and (pe_callB call_isi (by rfl) M.isinstance (by decide +kernel) (pa_cons (pv 0) (pa_cons (pe_bltn (v := .ty "int") (u := .type "int") (by rfl) M.int (by decide +kernel) rfl) pa_nil))) (pe_one (pe_not (pe_callB call_isi (by rfl) M.isinstance (by decide +kernel) (pa_cons (pv 0) (pa_cons (pe_bltn (v := .ty "bool") (u := .type "bool") (by rfl) M.bool (by decide +kernel) rfl) pa_nil)))))))), ?_⟩
  walk_at "go"
  refine isiInt kn hv fun b e => ?_
  subst e
  refine kBl ?_
  cases v with
  | int i =>
    refine iteT ?_
    walk_at "go"
    exact q
  | bl c =>
    refine iteT ?_
    walk_at "go"
    exact q
  | _ => exact iteF q

/-! ### a comprehension over a list made on the way -/
theorem kLcMade {d : Addr} {n : Nat} {H : Hp} {K : PySem.W.Frag} {σ : L2.St} {Q : VK} {te0 te : TE} {tt : TT} {j : Nat} {vs : List Nat} (G : Addr → List V → Led → Hp → Prop) (src : ∀ R : VK, (∀ p xs L1 H1, G p xs L1 H1 → R (.ref p) H1) → te0 σ H R)
    (hw : ∀ x, wipe ((wipe σ vs).set j (some x)) vs = wipe σ vs)
    (body : ∀ p xs L1 H1, G p xs L1 H1 → Kn d n L1 H1 ∧ (p, .lst xs) ∈ L1 ∧ xs.length ≤ 100000 ∧ ∃ acc : Nat → List V, acc 0 = [] ∧ (∀ i, (acc i).length ≤ i) ∧
      (∀ i x H' D, xs[i]? = some x → Kn d n ((D, .lst (acc i)) :: L1) H' → ∀ (N1 : VK) (N2 : Hp → Prop), (∀ y H4, Kn d n ((D, .lst (acc i)) :: L1) H4 → acc (i + 1) = acc i ++ [y] → N1 y H4) → (∀ H3, Kn d n ((D, .lst (acc i)) :: L1) H3 → acc (i + 1) = acc i → N2 H3) →
        tt ((wipe σ vs).set j (some x)) H' fun b H3 => if b = true then te ((wipe σ vs).set j (some x)) H3 N1 else N2 H3) ∧
      (∀ D H', Kn d n ((D, .lst (acc xs.length)) :: L1) H' → Q (.ref D) H')) : tLc (iList K te0) (gName j) tt te vs σ H Q := by
  refine src _ fun p xs L1 H1 hG => ?_
  obtain ⟨k, hp, hz, acc, a0, al, turn, q⟩ := body p xs L1 H1 hG
  exact kLcL (te0 := fun _ H R => R (.ref p) H) k hp (fun R h => h) hz acc a0 al hw turn q
/-- a comprehension over a range, its rows known by what holds of them, with draws -/
theorem kLcRS {d : Addr} {n : Nat} {L : Led} {H : Hp} {σ : L2.St} {Q : VK} {lo : Int} {N : Nat} {wi : TI} {te : TE} {tt : TT} {j : Nat} {vs : List Nat} (k : Kn d n L H) (src : ∀ R : It → Hp → Prop, R (Itr lo N) H → wi σ H R)
    (hz : N ≤ 100000) (S : Nat → List V → Prop) (s0 : S 0 []) (sl : ∀ i l, S i l → l.length ≤ i) (hw : ∀ x, wipe ((wipe σ vs).set j (some x)) vs = wipe σ vs)
    (turn : ∀ (i : Nat) H' D ys, i < N → S i ys → Kn d (n + i) ((D, .lst ys) :: L) H' → ∀ (N1 : VK) (N2 : Hp → Prop), (∀ y H4, Kn d (n + i + 1) ((D, .lst ys) :: L) H4 → S (i + 1) (ys ++ [y]) → N1 y H4) → (∀ H3, Kn d (n + i + 1) ((D, .lst ys) :: L) H3 → S (i + 1) ys → N2 H3) →
      tt ((wipe σ vs).set j (some (.int (lo + (i : Int))))) H' fun b H3 => if b = true then te ((wipe σ vs).set j (some (.int (lo + (i : Int))))) H3 N1 else N2 H3)
    (q : ∀ D ys H', S N ys → Kn d (n + N) ((D, .lst ys) :: L) H' → Q (.ref D) H') : tLc wi (gName j) tt te vs σ H Q := by
  refine src _ fun D hD => lc_range (lo := lo) (n := N) (fun i H' => ∃ ys, S i ys ∧ Kn d (n + i) ((D, .lst ys) :: L) H') ⟨[], s0, k.new hD⟩ (fun i H' hi kn => ⟨hw _, ?_⟩) (fun H' kn => by
    obtain ⟨ys, h1, h2⟩ := kn
    exact q D ys H' h1 h2)
  obtain ⟨ys, hs, kn⟩ := kn
  exact turn i H' D ys hi hs kn _ _ (fun y H4 kn4 e => ⟨ys, kn4.at 0 rfl, szL' (by have := sl i ys hs; omega), ys ++ [y], e, kn4.put 0 rfl⟩) (fun H3 kn3 e => ⟨ys, e, kn3⟩)

theorem kForMade {σ : L2.St} {H : Hp} {K : PySem.W.Frag} {tb : TS} {j : Nat} {te : TE} {nx bk ct : L2.St → Hp → Prop} {rt : VK} (G : Addr → List V → Hp → Prop) (src : ∀ R : VK, (∀ p xs H', G p xs H' → R (.ref p) H') → te σ H R)
    (body : ∀ p xs H1, G p xs H1 → SqL K H1 p xs ∧ ∃ Pv : Nat → L2.St → Hp → Prop, Pv 0 σ H1 ∧ (∀ i σ' H', Pv i σ' H' → SqL K H' p xs) ∧ (∀ i x σ' H', xs[i]? = some x → Pv i σ' H' → tb (Ends.mk (Pv (i + 1)) rt nx (Pv (i + 1))) (σ'.set j (some x)) H') ∧ ∀ σ' H', Pv xs.length σ' H' → nx σ' H') :
    tFor (iList K te) (gName j) tb (Ends.mk nx rt bk ct) σ H := by
  refine src _ fun p xs H1 hG => ?_
  obtain ⟨hq, Pv, h0, hl, hs, hd⟩ := body p xs H1 hG
  exact ⟨p, rfl, ⟨xs, hq⟩, for_list (xs := xs) Pv h0 (fun i σ' H' _ p => hl i σ' H' p) (fun i x σ' H' hx p => hs i x σ' H' hx p) hd⟩
theorem atLastR {as : List Addr} {k : Nat} {a : Addr} (hl : as.length = k + 1) (ha : as[k]? = some a) : atI (as.map V.ref) (-1) = some (V.ref a) := by
  have e : as.map V.ref = (as.take k).map V.ref ++ [V.ref a] := by
    have e2 : as = as.take k ++ [a] := by
      have e3 : as.take (k + 1) = as.take k ++ [a] := by rw [List.take_add_one, ha]; rfl
      rw [List.take_of_length_le (by omega)] at e3
      exact e3
    conv => lhs; rw [e2, List.map_append]
    rfl
  rw [e]
  exact atI_last _ _

/-! ### for i, x in enumerate(list), the list made on the way -/
theorem kForEM {σ : L2.St} {H : Hp} {tb : TS} {j l : Nat} {te : TE} {K : PySem.W.Frag} {nx bk ct : L2.St → Hp → Prop} {rt : VK} (G : Addr → List V → Hp → Prop) (src : ∀ R : VK, (∀ p xs H1, SqL K H1 p xs → G p xs H1 → R (.ref p) H1) → te σ H R)
    (body : ∀ p xs H1, G p xs H1 → SqL K H1 p xs → ∃ Pv : Nat → L2.St → Hp → Prop, Pv 0 σ H1 ∧ (∀ i σ' H', i ≤ xs.length → Pv i σ' H' → SqL K H' p xs) ∧
      (∀ (i : Nat) x σ' H' T, xs[i]? = some x → Pv i σ' H' → H' T = none → tb (Ends.mk (Pv (i + 1)) rt nx (Pv (i + 1))) ((σ'.set j (some (.int (i : Int)))).set l (some x)) (upd H' T (.tup [.int (i : Int), x]))) ∧ ∀ σ' H', Pv xs.length σ' H' → nx σ' H') :
    tFor (iEnum K (tCons te tNil)) (gTup K 2 (gCons (gName j) (gCons (gName l) gNil))) tb (Ends.mk nx rt bk ct) σ H := by
  refine src _ fun p xs H1 hq hG => ?_
  obtain ⟨Pv, hP, hl, hs, hd⟩ := body p xs H1 hG hq
  refine ⟨p, xs, rfl, hq, for_it (walk_enum (xs := xs)) Pv hP hl (fun i v σ' H1 H' hi hp y => ?_) hd⟩
  obtain ⟨T, x1, x, rfl, hT, rfl, e1, hx⟩ := y
  have e1' := Option.some.inj e1
  subst e1'
  exact ⟨T, [.int (i : Int), x], rfl, .inl (.inl upd_same), rfl, _, _, rfl, _, _, rfl, rfl, hs i x σ' H1 T hx hp hT⟩

/-! ### dicts of rows read -/
theorem kDGetT {σ : L2.St} {H : Hp} {Q : VK} {td ty : TE} (h : td σ H fun x H1 => ty σ H1 fun y H2 => ∃ a v, x = .ref a ∧ DGet H2 a y (some v) ∧ Q v H2) : tDGet td ty σ H Q := h
theorem dgetTab {d : Addr} {n : Nat} {L : Led} {H : Hp} {dz b : Addr} {rows : List (List Int)} {hs r : List Int} {z : Int} (kn : Kn d n L H) (hd : (dz, .dT (tabO rows (hs.map V.int))) ∈ L) (hb : (b, .tup (r.map V.int)) ∈ L) (e : hueL rows hs r = some z) : DGet H dz (.ref b) (some (.int z)) := by
  have h := DGet.t (k := keyR r) (kn.mem hd) (by rw [keyR_kV]; exact kn.mem hb)
  rw [valV_tab, e] at h
  exact h
theorem kDZ {K : PySem.W.Frag} {d : Addr} {n : Nat} {L : Led} {H : Hp} {Q : VK} {p q : Addr} {as : List Addr} {rows : List (List Int)} {ys : List V} (kn : Kn d n L H) (hp : (p, .lst (as.map V.ref)) ∈ L) (hq : (q, .lst ys) ∈ L) (hr : RowsAt L as rows) (nd : rows.Nodup) (g : ∀ r H', Kn d n ((r, .dT (tabO rows ys)) :: L) H' → Q (.ref r) H') : okDZ K (.ref p) (.ref q) H Q := by
  refine ⟨p, q, as, rows.map keyR, ys, rfl, rfl, kn.seqL hp, kn.seqL hq, by rw [List.length_map, hr.len], List.Pairwise.map _ (fun a b h e => h (keyR_inj e)) nd, fun i a k e1 e2 => ?_, fun d hd => g d _ (kn.new hd)⟩
  rw [List.getElem?_map] at e2
  cases e : rows[i]? with
  | none => rw [e] at e2; cases e2
  | some r =>
    rw [e] at e2
    cases e2
    rw [keyR_kV]
    exact kn.mem (hr.at_ i a r e1 e)

/-! ### what is promised of is_table -/
def spIsTable : Sp := fun vs H Q _ => ∃ (d : Addr) (n : Nat) (L : Led) (m t : Nat) (v : V) (o : Option (List V)), vs = [.int (m : Int), .int (t : Int), v] ∧ m ≤ 16 ∧ t ≤ 2 ∧ Kn d n L H ∧ Lk L v o ∧
  ∀ b H', (b = true ↔ ∃ hs : List Int, o = some (hs.map V.int) ∧ IsTab m t hs) → Kn d n L H' → Q (.bl b) H'

/-! ### is_table of the program -/
abbrev s_is_hue : Stmt := topS 6
theorem sc_is_hue : FnScope ["thing"] ["thing"] (defScope s_is_hue) := ⟨rfl, rfl, rfl, by decide +kernel, rfl, by decide +kernel, by decide +kernel⟩
def spIsHue : Sp := fun vs H Q _ => ∃ (d : Addr) (n : Nat) (L : Led) (v : V), vs = [v] ∧ Kn d n L H ∧ Dt L v ∧ Q (.bl (isHue v)) H
theorem ok_is_hue {P : Program} {w : World} {K : PySem.W.Frag} {mg : Str → Option Value} {base : Heap} {k : Nat} {f a_is_whole : Addr} {fd fd_is_whole : FuncData} (D : Df K mg "is_hue" s_is_hue ["thing"] f fd) (D_is_whole : Df K mg "is_whole" s_is_whole ["thing"] a_is_whole fd_is_whole) (M : Bl mg) : FnOk P w K mg base CX0 (k + 1 + 1) f fd ["thing"] spIsHue := by
  have G_is_whole := ok_is_whole (P := P) (w := w) (base := base) (k := 0) D_is_whole M
  refine D.F.ok sc_is_hue (fun vs H Q E h => ?_) (fun cdv A outer s H vs Q E hr h => ?_)
  · obtain ⟨d, n, L, v, rfl, _⟩ := h
    rfl
  obtain ⟨d, n, L, v, rfl, kn, hv, q⟩ := h
  refine ⟨_, (pss_one (ps_ret (pe_and (pe_call G_is_whole (hr.mono (by omega)) (by rfl) D_is_whole.g D_is_whole.F.kp D_is_whole.b .nil pass0 (pa_cons (pv 0) pa_nil)) (pe_one (pe_cmpR op_ge (pv 0) pe_int (nomark _)))))), ?_⟩
  walk_at "go"
  refine ⟨d, n, L, v, rfl, kn, hv, ?_⟩
  refine kBl ?_
  cases v with
  | int i =>
    refine iteT ?_
    walk_at "go"
    exact q
  | _ => exact iteF q
abbrev s_is_table : Stmt := topS 7
theorem sc_is_table : FnScope ["m", "t", "thing", "places", "hue_at", "longer", "hue"] ["m", "t", "thing"] (defScope s_is_table) := ⟨rfl, rfl, rfl, by decide +kernel, rfl, by decide +kernel, by decide +kernel⟩
theorem ok_is_table {P : Program} {w : World} {K : PySem.W.Frag} {mg : Str → Option Value} {base : Heap} {k : Nat} (MC : mg "combinations" = some (.type "itertools.combinations")) {f a_is_whole a_is_hue a_rising a_stands : Addr} {fd fd_is_whole fd_is_hue fd_rising fd_stands : FuncData} (D : Df K mg "is_table" s_is_table ["m", "t", "thing"] f fd) (D_is_whole : Df K mg "is_whole" s_is_whole ["thing"] a_is_whole fd_is_whole) (D_is_hue : Df K mg "is_hue" s_is_hue ["thing"] a_is_hue fd_is_hue) (D_rising : Df K mg "rising" s_rising ["m", "many"] a_rising fd_rising) (D_stands : Df K mg "stands" s_stands ["m", "t"] a_stands fd_stands) (M : Bl mg) : FnOk P w K mg base CX0 (k + 1 + 1 + 1) f fd ["m", "t", "thing"] spIsTable := by
  have G_is_hue := ok_is_hue (P := P) (w := w) (base := base) (k := 0) D_is_hue D_is_whole M
  have G_rising := ok_rising (P := P) (w := w) (base := base) (k := 0) MC D_rising M
  have G_stands := ok_stands (P := P) (w := w) (base := base) (k := 0) MC D_stands D_rising M
  refine D.F.ok sc_is_table (fun vs H Q E h => ?_) (fun cdv A outer s H vs Q E hr h => ?_)
  · obtain ⟨d, n, L, m, t, v, o, rfl, _⟩ := h
    rfl
  obtain ⟨d, n, L, m, t, v, o, rfl, hm, ht, kn, hv, q⟩ := h
  refine ⟨_, (pss_cons (ps_set (i := 3) sc_is_table.nd rfl (Or.inl rfl) (pe_call G_stands (hr.mono (by omega)) (by rfl) D_stands.g D_stands.F.kp D_stands.b .nil pass0 (pa_cons (pv 0) (pa_cons (pv 1) pa_nil))))
   (pss_cons (ps_if (PW.pt (pw_or (pt_not (pt_val (pe_callB call_isi (by rfl) M.isinstance (by decide +kernel) (pa_cons (pv 2) (pa_cons (pe_bltn (v := .ty "list") (u := .type "list") (by rfl) M.list (by decide +kernel) rfl) pa_nil))))) (pw_or1 (pt_cmpR op_ne (pe_callB c_len (by rfl) M.len PySem.boot_len (pa_cons (pv 2) pa_nil)) (pe_callB c_len (by rfl) M.len PySem.boot_len (pa_cons (pv 3) pa_nil)) (nomark _))))) (pss_one (ps_ret pe_bl)) pss_nil)
   (pss_cons (ps_if (pt_not (pt_val (pe_callB (c_all rfl) (by rfl) M.all (by decide +kernel) (pa_cons (pe_lc (own := [("hue", 6)]) (g := gName 6) (by rfl) sc_is_table.nd (pi_list (pv 2)) (blkOk_by (own := [("hue", 6)]) (N := ["m", "t", "thing", "places", "hue_at", "longer", "hue"]) (sc := defScope s_is_table) (by decide +kernel)) (fun _ _ _ _ _ => (pg_name (i := 6) sc_is_table.nd rfl (Or.inl rfl))) (fun _ _ _ _ _ => pts_nil) (fun _ _ _ _ _ => (pe_call G_is_hue (hr.mono (by omega)) (by rfl) D_is_hue.g D_is_hue.F.kp D_is_hue.b .nil pass0 (pa_cons (pv 6) pa_nil)))) pa_nil)))) (pss_one (ps_ret pe_bl)) pss_nil)
   (pss_cons (ps_set (i := 4) sc_is_table.nd rfl (Or.inr rfl) (pe_dictZip rfl hr.units (by rfl) M.dict (by rfl) M.zip (pv 3) (pv 2)))
   (pss_one (ps_ret (pe_callB (c_all rfl) (by rfl) M.all (by decide +kernel) (pa_cons (pe_lc (own := [("longer", 5)]) (g := gName 5) (by rfl) sc_is_table.nd (pi_list (pe_call G_rising (hr.mono (by omega)) (by rfl) D_rising.g D_rising.F.kp D_rising.b .nil pass0 (pa_cons (pv 0) (pa_cons (pe_op op_add (pv 1) pe_int) pa_nil)))) (blkOk_by (own := [("longer", 5)]) (N := ["m", "t", "thing", "places", "hue_at", "longer", "hue"]) (sc := defScope s_is_table) (by decide +kernel)) (fun _ _ _ _ _ => (pg_name (i := 5) sc_is_table.nd rfl (Or.inl rfl))) (fun _ _ _ _ _ => pts_nil) (fun _ _ _ _ _ => (pe_cmpR op_ne (pe_dget (unit1 hr.units) (pv 4) (pe_slice (slTA (K := K) rfl) (pv 5) po_none (po_some (pe_un un_neg pe_int))) (fun _ _ => rfl)) (pe_dget (unit1 hr.units) (pv 4) (pe_slice (slTA (K := K) rfl) (pv 5) (po_some pe_int) po_none) (fun _ _ => rfl)) (nomark _)))) pa_nil)))))))), ?_⟩
  have qf : (∀ hs : List Int, o = some (hs.map V.int) → ¬ IsTab m t hs) → ∀ H', Kn d n L H' → Q (.bl false) H' := fun hn H' k' => q false H' ⟨fun z => (by cases z), fun ⟨ns, e, h1⟩ => (hn ns e h1).elim⟩ k'
  walk_at "go"
  refine ⟨d, n, L, m, t, rfl, hm, by omega, kn, fun l as L2 H2 hrows s2 kn2 => ?_⟩
  have hlC : as.length ≤ 2000 := by rw [hrows.len, Csi_length]; exact Cs_short hm (by omega)
  walk_at "go"
  refine kSeq (kIfS ?_)
  walk_at "go"
  have hv2 := hv.mono (L' := (l, HO.lst (as.map V.ref)) :: L2) fun q hq => List.mem_cons_of_mem _ (s2.subset hq)
  refine isiList kn2 hv2 ?_
  walk_at "go"
  have back : ∀ H', Kn d n ((l, HO.lst (as.map V.ref)) :: L2) H' → Kn d n L H' := fun H' k' => k'.sub (s2.trans (List.sublist_cons_self _ _))
  cases o with
  | none =>
    refine iteT ?_
    walk_at "go"
    exact qf (fun ns e => by cases e) _ (back _ kn2)
  | some xs =>
    refine iteF ?_
    cases hv2 with
    | @lst a _ h ds z =>
    walk_at "go"
    refine iteIN (fun hne => ?_) fun hlen => ?_
    · walk_at "go"
      refine qf (fun hs e ht => hne ?_) _ (back _ kn2)
      cases e
      rw [List.length_map, List.length_map, ht.len, hrows.len]
    have hlen : xs.length = as.length := by
      rw [List.length_map] at hlen
      omega
    walk_at "go"
    refine kSeq (kIfS ?_)
    refine kNot ?_
    walk_at "go"
    refine kLcL (p := a) (xs := xs) kn2 h (fun R hR => by walk_at "go"; exact hR) (by omega) (fun i => ((xs.take i).map isHue).map V.bl) rfl (fun i => by rw [List.length_map, List.length_map, List.length_take]; omega) (fun _ => rfl) (fun i x H' D hx kn1 N1 N2 h1 _ => ?_) fun D H' kn1 => ?_
    · refine kYes (iteT ?_)
      walk_at "go"
      refine ⟨d, n, _, x, rfl, kn1, (ds x (List.mem_of_getElem? hx)).mono fun q hq => List.mem_cons_of_mem _ hq, ?_⟩
      refine h1 _ _ kn1 ?_
      show ((xs.take (i + 1)).map _).map V.bl = _
      rw [List.take_add_one, hx, List.map_append, List.map_append]
      rfl
    rw [List.take_length] at kn1
    walk_at "go"
    refine kAll (bs := xs.map isHue) (kn1.seqL List.mem_cons_self) ?_
    walk_at "go"
    cases hall : (xs.map isHue).all id with
    | false =>
      refine iteT ?_
      walk_at "go"
      refine qf (fun hs e ht => ?_) _ (back _ kn1.tail)
      cases e
      rw [List.all_eq_false] at hall
      obtain ⟨b, hb, hn⟩ := hall
      obtain ⟨x, hx, rfl⟩ := List.mem_map.mp hb
      obtain ⟨y, hy, rfl⟩ := List.mem_map.mp hx
      exact hn (decide_eq_true (ht.pos y hy))
    | true =>
      refine iteF ?_
      obtain ⟨hs, rfl, hpos⟩ := hue_ints (xs := xs) fun x hx => (List.all_eq_true.mp hall) _ (List.mem_map.mpr ⟨x, hx, rfl⟩)
      rw [List.length_map] at hlen
      have hlen2 : hs.length = (Csi m (t + 1)).length := by rw [hlen, hrows.len]
      have kn3 := kn1.tail
      walk_at "go"
      refine kTDZ (kVar rfl (kVar rfl ?_))
      refine kDZ kn3 List.mem_cons_self h (hrows.up fun _ hy => List.mem_cons_of_mem _ hy) (Csi_nodup _ _) fun dz H4 kn4 => ?_
      walk_at "go"
      refine kLcMade (d := d) (n := n) (fun p ys L1 H1 => ∃ (as2 : List Addr) (L3 : Led), ys = as2.map V.ref ∧ RowsAt L3 as2 (Csi m (t + 2)) ∧ ((dz, HO.dT (tabO (Csi m (t + 1)) (hs.map V.int))) :: (l, HO.lst (as.map V.ref)) :: L2).Sublist L3 ∧ L1 = (p, .lst (as2.map V.ref)) :: L3 ∧ Kn d n L1 H1) (fun R hR => ?_) (fun _ => rfl) (fun p ys L1 H1 hG => ?_)
      · walk_at "go"
        exact ⟨d, n, _, m, t + 2, rfl, hm, by omega, kn4, fun l2 as2 L3 H' hr3 hs3 kn5 => hR _ _ _ _ ⟨as2, L3, rfl, hr3, hs3, rfl, kn5⟩⟩
      · obtain ⟨as2, L3, rfl, hr3, hs3, rfl, kn5⟩ := hG
        have hl2 : as2.length ≤ 2000 := by rw [hr3.len, Csi_length]; exact Cs_short hm (by omega)
        have mdz := hs3.subset List.mem_cons_self
        refine ⟨kn5, List.mem_cons_self, by rw [List.length_map]; omega, fun i => (((Csi m (t + 2)).take i).map (farT m t hs)).map V.bl, rfl, fun i => by rw [List.length_map, List.length_map, List.length_take]; omega, fun i x H' D hx kn6 N1 N2 g1 _ => ?_, fun D H' kn6 => ?_⟩
        · obtain ⟨a2, ha, rfl⟩ : ∃ a, as2[i]? = some a ∧ x = V.ref a := by
            rw [List.getElem?_map] at hx
            cases e : as2[i]? with
            | none => rw [e] at hx; cases hx
            | some a => rw [e] at hx; exact ⟨a, rfl, (Option.some.inj hx).symm⟩
          have hi : i < as2.length := (List.getElem?_eq_some_iff.mp ha).1
          have hlen5 := hr3.len
          obtain ⟨r, hr⟩ : ∃ r, (Csi m (t + 2))[i]? = some r := ⟨(Csi m (t + 2))[i]'(by omega), List.getElem?_eq_getElem _⟩
          have hrm := List.mem_of_getElem? hr
          have hrl := (mem_Csi.mp hrm).1
          have ma := List.mem_cons_of_mem (D, HO.lst ((((Csi m (t + 2)).take i).map (farT m t hs)).map V.bl)) (List.mem_cons_of_mem (p, HO.lst (as2.map V.ref)) (hr3.at_ i a2 r ha hr))
          refine kYes (iteT ?_)
          walk_at "go"
          refine kDGetT (kVar rfl ?_)
          walk_at "go"
          refine kSlN kn6 ma (by rw [cutInit _ (by rw [List.length_map]; omega), List.length_dropLast, List.length_map]; omega) fun b1 H7 kn7 => ?_
          rw [cutInit _ (by rw [List.length_map]; omega), ← List.map_dropLast] at kn7
          refine ⟨dz, _, rfl, dgetTab kn7 (List.mem_cons_of_mem _ (List.mem_cons_of_mem _ (List.mem_cons_of_mem _ mdz))) List.mem_cons_self (hAt_is hlen2 (init_Csi hrm)), ?_⟩
          walk_at "go"
          refine kDGetT (kVar rfl ?_)
          walk_at "go"
          refine kSlN kn7 (List.mem_cons_of_mem _ ma) (by rw [cutTail _ (by rw [List.length_map]; omega), List.length_tail, List.length_map]; omega) fun b2 H8 kn8 => ?_
          rw [cutTail _ (by rw [List.length_map]; omega), ← List.map_tail] at kn8
          refine ⟨dz, _, rfl, dgetTab kn8 (List.mem_cons_of_mem _ (List.mem_cons_of_mem _ (List.mem_cons_of_mem _ (List.mem_cons_of_mem _ mdz)))) List.mem_cons_self (hAt_is hlen2 (tail_Csi hrm)), ?_⟩
          walk_at "go"
          refine g1 _ _ kn8.tail.tail ?_
          show (((Csi m (t + 2)).take (i + 1)).map _).map V.bl = _
          rw [List.take_add_one, hr, List.map_append, List.map_append]
          refine congrArg _ ?_
          show [V.bl (farT m t hs r)] = _
          unfold farT
          have e : (decide (hAt m t hs r.dropLast ≠ hAt m t hs r.tail)) = !decide (V.int (hAt m t hs r.dropLast) = V.int (hAt m t hs r.tail)) := by
            by_cases hx : hAt m t hs r.dropLast = hAt m t hs r.tail <;> simp [hx]
          rw [e]
        · rw [List.length_map, hr3.len] at kn6
          dsimp only at kn6
          rw [List.take_length] at kn6
          walk_at "go"
          refine kAll (bs := (Csi m (t + 2)).map (farT m t hs)) (kn6.seqL List.mem_cons_self) ?_
          refine q _ _ ?_ (back _ ((kn6.tail.tail.sub hs3).tail))
          rw [far_all]
          constructor
          · intro hf
            exact ⟨hs, rfl, hlen2, hpos, hf⟩
          · rintro ⟨hs', e, ht⟩
            have e := ints_inj (Option.some.inj e)
            subst e
            exact ht.far

/-! ### _law_is_table -/
theorem kDPut {σ : L2.St} {H : Hp} {td ty tv : TE} {nx bk ct : L2.St → Hp → Prop} {rt : VK} (h : tv σ H fun v H1 => td σ H1 fun x H2 => ty σ H2 fun y H3 => ∃ a H4, x = .ref a ∧ DPut H3 a y v H4 ∧ nx σ H4) : sDPut td ty tv (Ends.mk nx rt bk ct) σ H := h
theorem tab_none : ∀ {rows : List (List Int)} {vs : List V} {r : List Int}, r ∉ rows → valV (tabO rows vs) (keyR r) = none
  | [], _, _, _ => rfl
  | x :: rows, [], _, _ => rfl
  | x :: rows, v :: vs, r, h => by
    show valV ((keyR x, v) :: tabO rows vs) (keyR r) = none
    rw [valV_neg (fun e => h (by rw [← keyR_inj e]; exact List.mem_cons_self))]
    exact tab_none fun z => h (List.mem_cons_of_mem _ z)
theorem tab_succ {rows : List (List Int)} {vs : List V} {i : Nat} {r : List Int} {v : V} (h1 : rows[i]? = some r) (h2 : vs[i]? = some v) : tabO (rows.take (i + 1)) (vs.take (i + 1)) = tabO (rows.take i) (vs.take i) ++ [(keyR r, v)] := by
  have l1 := (List.getElem?_eq_some_iff.mp h1).1
  have l2 := (List.getElem?_eq_some_iff.mp h2).1
  unfold tabO
  rw [List.take_add_one, List.take_add_one, h1, h2, List.map_append, List.zip_append (by rw [List.length_map, List.length_take, List.length_take]; omega)]
  rfl
theorem take_not {rows : List (List Int)} {i : Nat} {r : List Int} (nd : rows.Nodup) (h : rows[i]? = some r) : r ∉ rows.take i := fun z => by
  obtain ⟨j, hj⟩ := List.getElem?_of_mem z
  have hl := (List.getElem?_eq_some_iff.mp hj).1
  rw [List.length_take] at hl
  rw [List.getElem?_take_of_lt (by omega)] at hj
  have := (List.getElem?_inj (List.getElem?_eq_some_iff.mp h).1 nd).mp (h.trans hj.symm)
  omega
theorem kDPutT {d : Addr} {n : Nat} {L : Led} {H : Hp} {nx : Hp → Prop} {S b : Addr} {rows : List (List Int)} {vs : List V} {i : Nat} {r : List Int} {v : V} (kn : Kn d n ((S, .dT (tabO (rows.take i) (vs.take i))) :: L) H) (hb : (b, .tup (r.map V.int)) ∈ L) (nd : rows.Nodup) (h1 : rows[i]? = some r) (h2 : vs[i]? = some v) (hz : rows.length ≤ 100000) (q : ∀ H', Kn d n ((S, .dT (tabO (rows.take (i + 1)) (vs.take (i + 1)))) :: L) H' → nx H') : ∃ a H4, V.ref S = .ref a ∧ DPut H a (.ref b) v H4 ∧ nx H4 := by
  have hp := DPut.t (k := keyR r) (v := v) (kn.at 0 rfl) (by rw [keyR_kV]; exact kn.mem (List.mem_cons_of_mem _ hb)) (szL' (by
    unfold tabO
    rw [List.length_zip, List.length_map, List.length_take]
    have := (List.getElem?_eq_some_iff.mp h1).1
    omega))
  rw [putK_new _ (tab_none (take_not nd h1)), ← tab_succ h1 h2] at hp
  exact ⟨S, _, rfl, hp, q _ (kn.put 0 rfl)⟩
abbrev s_law_is_table : Stmt := topS 16
theorem sc_law_is_table : FnScope ["m", "t", "thing", "some", "known", "stand", "hue", "row"] ["m", "t", "thing"] (defScope s_law_is_table) := ⟨rfl, rfl, rfl, by decide +kernel, rfl, by decide +kernel, by decide +kernel⟩
theorem ok_law_is_table {P : Program} {w : World} {K : PySem.W.Frag} {mg : Str → Option Value} {base : Heap} {k : Nat} {f a_law_whole a_law_stands : Addr} {fd fd_law_whole fd_law_stands : FuncData} (D : Df K mg "_law_is_table" s_law_is_table ["m", "t", "thing"] f fd) (D_law_whole : Df K mg "_law_whole" s_law_whole ["thing"] a_law_whole fd_law_whole) (D_law_stands : Df K mg "_law_stands" s_law_stands ["m", "t"] a_law_stands fd_law_stands) (M : Bl mg) : FnOk P w K mg base CX0 (k + 1 + 1) f fd ["m", "t", "thing"] spIsTable := by
  have G_law_whole := ok_law_whole (P := P) (w := w) (base := base) (k := 0) D_law_whole M
  have G_law_stands := ok_law_stands (P := P) (w := w) (base := base) (k := 0) D_law_stands M
  refine D.F.ok sc_law_is_table (fun vs H Q E h => ?_) (fun cdv A outer s H vs Q E hr h => ?_)
  · obtain ⟨d, n, L, m, t, v, o, rfl, _⟩ := h
    rfl
  obtain ⟨d, n, L, m, t, v, o, rfl, hm, ht, kn, hv, q⟩ := h
  refine ⟨_, (pss_cons (ps_set (i := 3) sc_law_is_table.nd rfl (Or.inl rfl) (pe_call G_law_stands (hr.mono (by omega)) (by rfl) D_law_stands.g D_law_stands.F.kp D_law_stands.b .nil pass0 (pa_cons (pv 0) (pa_cons (pv 1) pa_nil))))
   (pss_cons (ps_if (PW.pt (pw_or (pt_not (pt_val (pe_callB call_isi (by rfl) M.isinstance (by decide +kernel) (pa_cons (pv 2) (pa_cons (pe_bltn (v := .ty "list") (u := .type "list") (by rfl) M.list (by decide +kernel) rfl) pa_nil))))) (pw_or1 (pt_cmpR op_ne (pe_callB c_len (by rfl) M.len PySem.boot_len (pa_cons (pv 2) pa_nil)) (pe_callB c_len (by rfl) M.len PySem.boot_len (pa_cons (pv 3) pa_nil)) (nomark _))))) (pss_one (ps_ret pe_bl)) pss_nil)
   (pss_cons (ps_set (i := 4) sc_law_is_table.nd rfl (Or.inl rfl) pe_dnewT)
   (pss_cons (ps_for PassesOwn.never rfl (pi_zip (by rfl) M.zip (pa_cons (pv 3) (pa_cons (pv 2) pa_nil))) (pg_tup rfl (pgs_cons (pg_name (i := 5) sc_law_is_table.nd rfl (Or.inl rfl)) (pgs_cons (pg_name (i := 6) sc_law_is_table.nd rfl (Or.inl rfl)) pgs_nil)))
    (pss_cons (ps_if (PW.pt (pw_or (pt_not (pt_val (pe_call G_law_whole (hr.mono (by omega)) (by rfl) D_law_whole.g D_law_whole.F.kp D_law_whole.b .nil pass0 (pa_cons (pv 6) pa_nil)))) (pw_or1 (pt_cmpR op_lt (pv 6) pe_int (nomark _))))) (pss_one (ps_ret pe_bl)) pss_nil)
    (pss_one (ps_dput (unit1 hr.units) (pv 4) (pv 5) (pv 6) rfl))))
   (pss_cons (ps_for PassesOwn.never rfl (pi_list (pe_call G_law_stands (hr.mono (by omega)) (by rfl) D_law_stands.g D_law_stands.F.kp D_law_stands.b .nil pass0 (pa_cons (pv 0) (pa_cons (pe_op op_add (pv 1) pe_int) pa_nil)))) (pg_name (i := 7) sc_law_is_table.nd rfl (Or.inl rfl))
    (pss_one (ps_if (pt_cmpR op_eq (pe_dget (unit1 hr.units) (pv 4) (pe_slice sl_tupA (pv 7) (po_some pe_int) po_none) (fun _ _ => rfl)) (pe_dget (unit1 hr.units) (pv 4) (pe_slice sl_tupA (pv 7) po_none (po_some (pe_un un_neg pe_int))) (fun _ _ => rfl)) (nomark _)) (pss_one (ps_ret pe_bl)) pss_nil)))
   (pss_one (ps_ret pe_bl))))))), ?_⟩
  have qf : (∀ hs : List Int, o = some (hs.map V.int) → ¬ IsTab m t hs) → ∀ H', Kn d n L H' → Q (.bl false) H' := fun hn H' k' => q false H' ⟨fun z => (by cases z), fun ⟨ns, e, h1⟩ => (hn ns e h1).elim⟩ k'
  walk_at "go"
  refine ⟨d, n, L, m, t, rfl, hm, by omega, kn, fun l as L2 H2 hrows s2 kn2 => ?_⟩
  have hlC : as.length ≤ 2000 := by rw [hrows.len, Csi_length]; exact Cs_short hm (by omega)
  have hlR := hrows.len
  walk_at "go"
  refine kSeq (kIfS ?_)
  walk_at "go"
  have hv2 := hv.mono (L' := (l, HO.lst (as.map V.ref)) :: L2) fun q hq => List.mem_cons_of_mem _ (s2.subset hq)
  refine isiList kn2 hv2 ?_
  walk_at "go"
  have back : ∀ H', Kn d n ((l, HO.lst (as.map V.ref)) :: L2) H' → Kn d n L H' := fun H' k' => k'.sub (s2.trans (List.sublist_cons_self _ _))
  cases o with
  | none =>
    refine iteT ?_
    walk_at "go"
    exact qf (fun ns e => by cases e) _ (back _ kn2)
  | some xs =>
    refine iteF ?_
    cases hv2 with
    | @lst a _ h ds z =>
    walk_at "go"
    refine iteIN (fun hne => ?_) fun hlen => ?_
    · walk_at "go"
      refine qf (fun hs e ht => hne ?_) _ (back _ kn2)
      cases e
      rw [List.length_map, List.length_map, ht.len, hrows.len]
    have hlen : xs.length = as.length := by
      rw [List.length_map] at hlen
      omega
    walk_at "go"
    refine fun kz hkz => ?_
    have kn3 := kn2.new (o := .dT []) hkz
    refine kSeq (kForZ (K := K) (fun a1 b1 ys zs H' => a1 = l ∧ b1 = a ∧ ys = as.map V.ref ∧ zs = xs ∧ Kn d n ((kz, HO.dT []) :: (l, HO.lst (as.map V.ref)) :: L2) H') (fun R hR => ?_) (fun a1 b1 ys zs H6 hG => ?_))
    · walk_at "go"
      exact hR _ _ _ _ _ ⟨rfl, rfl, rfl, rfl, kn3⟩
    obtain ⟨rfl, rfl, rfl, rfl, kn4⟩ := hG
    refine ⟨kn4.seqL (List.mem_cons_of_mem _ List.mem_cons_self), kn4.seqL (List.mem_cons_of_mem _ h), fun i σ' H' => ∃ (x5 x6 x7 : Option V), σ' = [some (.int (m : Int)), some (.int (t : Int)), some (.ref b1), some (.ref a1), some (.ref kz), x5, x6, x7] ∧ (∀ x ∈ zs.take i, isHue x = true) ∧ Kn d n ((kz, HO.dT (tabO ((Csi m (t + 1)).take i) (zs.take i))) :: (a1, HO.lst (as.map V.ref)) :: L2) H',
      ⟨_, _, _, rfl, fun x hx => by simp at hx, kn4⟩, fun i σ' H' hW => by
        obtain ⟨_, _, _, _, _, k'⟩ := hW
        exact ⟨k'.seqL (List.mem_cons_of_mem _ List.mem_cons_self), k'.seqL (List.mem_cons_of_mem _ h)⟩, fun i x y σ' H' T hx hy hW hT => ?_, fun σ' H' hW => ?_⟩
    · obtain ⟨x5, x6, x7, rfl, hall, kn5⟩ := hW
      have kn6 := (kn5.new (o := .tup [x, y]) hT).tail
      obtain ⟨a2, ha, rfl⟩ : ∃ a, as[i]? = some a ∧ x = V.ref a := by
        rw [List.getElem?_map] at hx
        cases e : as[i]? with
        | none => rw [e] at hx; cases hx
        | some a => rw [e] at hx; exact ⟨a, rfl, (Option.some.inj hx).symm⟩
      have hi : i < as.length := (List.getElem?_eq_some_iff.mp ha).1
      obtain ⟨r, hr⟩ : ∃ r, (Csi m (t + 1))[i]? = some r := ⟨(Csi m (t + 1))[i]'(by omega), List.getElem?_eq_getElem _⟩
      have ma := List.mem_cons_of_mem (a1, HO.lst (as.map V.ref)) (hrows.at_ i a2 r ha hr)
      have dy := ds y (List.mem_of_getElem? hy)
      refine kSeq (kIfS ?_)
      walk_at "go"
      refine ⟨d, n, _, y, rfl, kn6, dy.mono fun q hq => List.mem_cons_of_mem _ hq, ?_⟩
      walk_at "go"
      have no : isHue y = false → Q (.bl false) (upd H' T (.tup [V.ref a2, y])) := fun hn => qf (fun hs e ht => by
        cases e
        have hm := List.mem_of_getElem? hy
        obtain ⟨z, hz, rfl⟩ := List.mem_map.mp hm
        have := ht.pos z hz
        simp [isHue] at hn
        omega) _ (back _ kn6.tail)
      cases y with
      | int z0 =>
        refine iteF ?_
        walk_at "go"
        refine iteD (fun hlt => ?_) fun hlt => ?_
        · walk_at "go"
          exact no (by simp only [isHue]; exact decide_eq_false (by omega))
        · walk_at "go"
          refine kDPut ?_
          walk_at "go"
          refine kDPutT kn6 ma (Csi_nodup _ _) hr hy (by omega) fun H8 kn8 => ?_
          refine ⟨_, _, _, rfl, fun x hx => ?_, kn8⟩
          rw [List.take_add_one, hy] at hx
          rcases List.mem_append.mp hx with hx | hx
          · exact hall x hx
          · rw [List.mem_singleton.mp hx]
            exact decide_eq_true (by omega)
      | _ =>
        refine iteT (iteT ?_)
        walk_at "go"
        exact no rfl
    · obtain ⟨x5, x6, x7, rfl, hall, kn5⟩ := hW
      have emin : min (as.map V.ref).length zs.length = zs.length := by rw [List.length_map]; omega
      rw [emin, List.take_length] at hall
      rw [emin, List.take_length, List.take_of_length_le (by omega)] at kn5
      obtain ⟨hs, rfl, hpos⟩ := hue_ints hall
      have hlen2 : hs.length = (Csi m (t + 1)).length := by rw [List.length_map] at hlen; rw [hlen, hlR]
      refine kSeq (kForMade (K := K) (fun p ys H' => ∃ (as2 : List Addr) (L3 : Led), ys = as2.map V.ref ∧ RowsAt L3 as2 (Csi m (t + 2)) ∧ ((kz, HO.dT (tabO (Csi m (t + 1)) (hs.map V.int))) :: (a1, HO.lst (as.map V.ref)) :: L2).Sublist L3 ∧ Kn d n ((p, .lst (as2.map V.ref)) :: L3) H') (fun R hR => ?_) (fun p ys H6 hG => ?_))
      · walk_at "go"
        exact ⟨d, n, _, m, t + 1, rfl, hm, by omega, kn5, fun l2 as2 L3 H' hr3 hs3 kn6 => hR _ _ _ ⟨as2, L3, rfl, hr3, hs3, kn6⟩⟩
      obtain ⟨as2, L3, rfl, hr3, hs3, kn6⟩ := hG
      have hl3 := hr3.len
      have mkz := hs3.subset List.mem_cons_self
      have back2 : ∀ H', Kn d n ((p, HO.lst (as2.map V.ref)) :: L3) H' → Kn d n L H' := fun H' k' => back _ (k'.tail.sub ((List.sublist_cons_self _ _).trans hs3))
      refine ⟨kn6.seqL List.mem_cons_self, fun j σ' H' => ∃ (x5 x6 x7 : Option V), σ' = [some (.int (m : Int)), some (.int (t : Int)), some (.ref b1), some (.ref a1), some (.ref kz), x5, x6, x7] ∧ (∀ r ∈ (Csi m (t + 2)).take j, hAt m t hs r.dropLast ≠ hAt m t hs r.tail) ∧ Kn d n ((p, HO.lst (as2.map V.ref)) :: L3) H',
        ⟨_, _, _, rfl, fun r hr => by simp at hr, kn6⟩, fun j σ' H' hW => by
          obtain ⟨_, _, _, _, _, k'⟩ := hW
          exact k'.seqL List.mem_cons_self, fun j x σ' H' hx hW => ?_, fun σ' H' hW => ?_⟩
      · obtain ⟨x5, x6, x7, rfl, hfar, kn7⟩ := hW
        obtain ⟨a2, ha, rfl⟩ : ∃ a, as2[j]? = some a ∧ x = V.ref a := by
          rw [List.getElem?_map] at hx
          cases e : as2[j]? with
          | none => rw [e] at hx; cases hx
          | some a => rw [e] at hx; exact ⟨a, rfl, (Option.some.inj hx).symm⟩
        have hj : j < as2.length := (List.getElem?_eq_some_iff.mp ha).1
        obtain ⟨r, hr⟩ : ∃ r, (Csi m (t + 2))[j]? = some r := ⟨(Csi m (t + 2))[j]'(by omega), List.getElem?_eq_getElem _⟩
        have hrm := List.mem_of_getElem? hr
        have hrl := (mem_Csi.mp hrm).1
        have ma := List.mem_cons_of_mem (p, HO.lst (as2.map V.ref)) (hr3.at_ j a2 r ha hr)
        have mk := List.mem_cons_of_mem (p, HO.lst (as2.map V.ref)) mkz
        refine kIfS ?_
        walk_at "go"
        refine kDGetT (kVar rfl ?_)
        walk_at "go"
        refine kSlN kn7 ma (by rw [cutTail _ (by rw [List.length_map]; omega), List.length_tail, List.length_map]; omega) fun b1 H8 kn8 => ?_
        rw [cutTail _ (by rw [List.length_map]; omega), ← List.map_tail] at kn8
        refine ⟨kz, _, rfl, dgetTab kn8 (List.mem_cons_of_mem _ mk) List.mem_cons_self (hAt_is hlen2 (tail_Csi hrm)), ?_⟩
        walk_at "go"
        refine kDGetT (kVar rfl ?_)
        walk_at "go"
        refine kSlN kn8 (List.mem_cons_of_mem _ ma) (by rw [cutInit _ (by rw [List.length_map]; omega), List.length_dropLast, List.length_map]; omega) fun b2 H9 kn9 => ?_
        rw [cutInit _ (by rw [List.length_map]; omega), ← List.map_dropLast] at kn9
        refine ⟨kz, _, rfl, dgetTab kn9 (List.mem_cons_of_mem _ (List.mem_cons_of_mem _ mk)) List.mem_cons_self (hAt_is hlen2 (init_Csi hrm)), ?_⟩
        walk_at "go"
        refine iteI (fun he => ?_) fun he => ?_
        · walk_at "go"
          refine qf (fun hs' e ht => ?_) _ (back2 _ kn9.tail.tail)
          have e := ints_inj (Option.some.inj e)
          subst e
          exact ht.far r hrm he.symm
        · walk_at "go"
          refine ⟨_, _, _, rfl, fun r' hr' => ?_, kn9.tail.tail⟩
          rw [List.take_add_one, hr] at hr'
          rcases List.mem_append.mp hr' with hx | hx
          · exact hfar r' hx
          · rw [List.mem_singleton.mp hx]
            exact fun z => he z.symm
      · obtain ⟨x5, x6, x7, rfl, hfar, kn7⟩ := hW
        rw [List.length_map, hl3, List.take_length] at hfar
        walk_at "go"
        refine q true _ ⟨fun _ => ⟨hs, rfl, hlen2, hpos, hfar⟩, fun _ => rfl⟩ (back2 _ kn7)

/-! ### _law_scaled, _law_may, _law_table -/
def bigD : Int := 10 ^ 56
theorem bigD_pos : 1 ≤ bigD := by decide +kernel
def bigH : Int := 4000 * bigD
theorem kDrawP {d : Addr} {n : Nat} {L : Led} {H : Hp} {e : Nat} {Q : VK} {E : XK} (k : Kn d n L H) (he : e ≤ 56) (hn : n ≤ 2 ^ 60) (q : ∀ (r : Int) (H' : Hp), 0 ≤ r → r < bigD → Kn d (n + 1) L H' → Q (.int r) H') : spDraw [.ref d, .int ((10 : Int) ^ e)] H Q E := by
  have hp : (0 : Int) < 10 ^ e := Int.pow_pos (by decide)
  have hc : ((10 : Int) ^ e) = ((10 ^ e : Nat) : Int) := by norm_cast
  have hle : (10 : Nat) ^ e ≤ 10 ^ 56 := Nat.pow_le_pow_right (by decide) he
  refine ⟨d, n, L, _, rfl, hp, ?_, hn, k, fun r H' h0 h1 k' => q r H' h0 (Int.lt_of_lt_of_le h1 ?_) k'⟩
  · rw [hc, Int.natAbs_natCast]
    have h0 : (10 : Nat) ^ e ≠ 0 := Nat.ne_of_gt (Nat.pow_pos (by decide))
    refine (Nat.log2_lt h0).mpr (Nat.lt_of_le_of_lt hle ?_)
    exact Nat.lt_of_lt_of_le (show (10 : Nat) ^ 56 < 2 ^ 200 by decide +kernel) (Nat.pow_le_pow_right (by decide) (by decide))
  · rw [hc]
    unfold bigD
    exact_mod_cast hle
abbrev s_law_scaled : Stmt := topS 19
theorem sc_law_scaled : FnScope ["tape", "found", "many", "hue"] ["tape", "found"] (defScope s_law_scaled) := ⟨rfl, rfl, rfl, by decide +kernel, rfl, by decide +kernel, by decide +kernel⟩
def spScaled : Sp := fun vs H Q _ => ∃ (d : Addr) (n : Nat) (L : Led) (p : Addr) (hs : List Int), vs = [.ref d, .ref p] ∧ (p, .lst (hs.map V.int)) ∈ L ∧ hs.length ≤ 2000 ∧ (∀ h ∈ hs, 0 ≤ h ∧ h ≤ 2000) ∧ n ≤ 2 ^ 59 ∧ Kn d n L H ∧
  ∀ (l : Addr) (hs' : List Int) H', hs'.length = hs.length → (∀ h ∈ hs', 0 ≤ h ∧ h ≤ bigH) → Kn d (n + 2) ((l, .lst (hs'.map V.int)) :: L) H' → Q (.ref l) H'
theorem ok_law_scaled {P : Program} {w : World} {K : PySem.W.Frag} {mg : Str → Option Value} {base : Heap} {k : Nat} {f a_law_draw : Addr} {fd fd_law_draw : FuncData} (D : Df K mg "_law_scaled" s_law_scaled ["tape", "found"] f fd) (D_law_draw : Df K mg "_law_draw" s_law_draw ["tape", "upto"] a_law_draw fd_law_draw) (M : Bl mg) : FnOk P w K mg base CX0 (k + 1 + 1) f fd ["tape", "found"] spScaled := by
  have G_law_draw := ok_law_draw (P := P) (w := w) (base := base) (k := 0) D_law_draw M
  refine D.F.ok sc_law_scaled (fun vs H Q E h => ?_) (fun cdv A outer s H vs Q E hr h => ?_)
  · obtain ⟨d, n, L, p, hs, rfl, _⟩ := h
    rfl
  obtain ⟨d, n, L, p, hs, rfl, hp, hl, hb, hn, kn, g⟩ := h
  refine ⟨_, (pss_cons (ps_set (i := 2) sc_law_scaled.nd rfl (Or.inr rfl) pe_int)
   (pss_cons (ps_if (pt_cmpR op_eq (pe_call G_law_draw (hr.mono (by omega)) (by rfl) D_law_draw.g D_law_draw.F.kp D_law_draw.b .nil pass0 (pa_cons (pv 0) (pa_cons pe_int pa_nil))) pe_int (nomark _)) (pss_one (ps_set (i := 2) sc_law_scaled.nd rfl (Or.inr rfl) (pe_op op_add pe_int (pe_call G_law_draw (hr.mono (by omega)) (by rfl) D_law_draw.g D_law_draw.F.kp D_law_draw.b .nil pass0 (pa_cons (pv 0) (pa_cons (pe_op op_pow pe_int pe_int) pa_nil)))))) pss_nil)
   (pss_one (ps_ret (pe_lc (own := [("hue", 3)]) (g := gName 3) (by rfl) sc_law_scaled.nd (pi_list (pv 1)) (blkOk_by (own := [("hue", 3)]) (N := ["tape", "found", "many", "hue"]) (sc := defScope s_law_scaled) (by decide +kernel)) (fun _ _ _ _ _ => (pg_name (i := 3) sc_law_scaled.nd rfl (Or.inl rfl))) (fun _ _ _ _ _ => pts_nil) (fun _ _ _ _ _ => (pe_op op_mul (pv 3) (pv 2)))))))), ?_⟩
  walk_at "go"
  refine kJoin (fun σ' H' => ∃ (many : Int), σ' = [some (.ref d), some (.ref p), some (.int many), none] ∧ 1 ≤ many ∧ many ≤ bigD ∧ Kn d (n + 2) L H') (fun σ' H' hW => ?_) fun N join => ?_
  · obtain ⟨many, rfl, m1, m2, kn1⟩ := hW
    walk_at "go"
    refine kLcL (p := p) (xs := hs.map V.int) kn1 hp (fun R hR => by walk_at "go"; exact hR) (by rw [List.length_map]; omega) (fun i => ((hs.take i).map fun h => h * many).map V.int) rfl (fun i => by rw [List.length_map, List.length_map, List.length_take]; omega) (fun _ => rfl) (fun i x H' D hx kn2 N1 N2 h1 _ => ?_) fun D H' kn2 => ?_
    · obtain ⟨z, hz, rfl⟩ : ∃ z, hs[i]? = some z ∧ x = V.int z := by
        rw [List.getElem?_map] at hx
        cases e : hs[i]? with
        | none => rw [e] at hx; cases hx
        | some a => rw [e] at hx; exact ⟨a, rfl, (Option.some.inj hx).symm⟩
      have hzb := hb z (List.mem_of_getElem? hz)
      refine kYes (iteT ?_)
      walk_at "go"
      refine h1 _ _ kn2 ?_
      show (((hs.take (i + 1)).map _).map V.int) = _
      rw [List.take_add_one, hz, List.map_append, List.map_append]
      rfl
    · rw [List.length_map] at kn2
      rw [List.take_length] at kn2
      refine g D _ _ (List.length_map _) (fun h hh => ?_) kn2
      obtain ⟨z, hz, rfl⟩ := List.mem_map.mp hh
      have hzb := hb z hz
      refine ⟨Int.mul_nonneg hzb.1 (by omega), ?_⟩
      unfold bigH
      exact Int.mul_le_mul (by omega) m2 (by omega) (by decide)
  · refine kIfS ?_
    walk_at "go"
    refine kDraw kn (by omega) (by omega) (by omega) fun r H2 r0 r1 kn1 => ?_
    walk_at "go"
    refine iteI (fun he => ?_) fun he => ?_
    · walk_at "go"
      first
        | refine kDrawP (e := (56 : Int).toNat) kn1 (by decide) (by omega) fun r2 H3 r20 r21 kn2 => ?_
        | refine kDrawP (e := (30 : Int).toNat) kn1 (by decide) (by omega) fun r2 H3 r20 r21 kn2 => ?_
      walk_at "go"
      exact join _ _ ⟨1 + r2, rfl, by omega, by omega, kn2⟩
    · walk_at "go"
      exact join _ _ ⟨1, rfl, by omega, bigD_pos, kn1.more (by omega)⟩
theorem front_Csi {m k : Nat} {a c : Int} {r : List Int} (h : a :: r ∈ Csi m (k + 1)) (h0 : 0 ≤ c) (h1 : c < a) : [c] ++ (a :: r).dropLast ∈ Csi m (k + 1) := by
  obtain ⟨h2, h3, h4⟩ := mem_Csi.mp h
  obtain ⟨p1, p2⟩ := List.pairwise_cons.mp h3
  have hsub : ((a :: r).dropLast).Sublist (a :: r) := List.dropLast_sublist _
  have ha := h4 a List.mem_cons_self
  refine mem_Csi.mpr ⟨by rw [List.length_append, List.length_dropLast, h2, List.length_singleton]; omega, List.pairwise_cons.mpr ⟨fun x hx => ?_, h3.sublist hsub⟩, fun x hx => ?_⟩
  · rcases List.mem_cons.mp (hsub.subset hx) with e | hx
    · omega
    · have := p1 x hx
      omega
  · rcases List.mem_cons.mp hx with e | hx
    · omega
    · exact h4 x (hsub.subset hx)
theorem back_Csi {m k : Nat} {l c : Int} {z : List Int} (h : z ++ [l] ∈ Csi m (k + 1)) (h0 : l < c) (h1 : c < m) : (z ++ [l]).tail ++ [c] ∈ Csi m (k + 1) := by
  obtain ⟨h2, h3, h4⟩ := mem_Csi.mp h
  have hsub : ((z ++ [l]).tail).Sublist (z ++ [l]) := List.tail_sublist _
  have hl := h4 l (List.mem_append_right _ List.mem_cons_self)
  have hlast : ∀ x ∈ z ++ [l], x ≤ l := fun x hx => by
    rcases List.mem_append.mp hx with hx | hx
    · have := (List.pairwise_append.mp h3).2.2 x hx l List.mem_cons_self
      omega
    · rw [List.mem_singleton.mp hx]
      omega
  refine mem_Csi.mpr ⟨by rw [List.length_append, List.length_tail, h2, List.length_singleton]; omega, List.pairwise_append.mpr ⟨h3.sublist hsub, List.pairwise_singleton _ _, fun x hx y hy => ?_⟩, fun x hx => ?_⟩
  · rw [List.mem_singleton.mp hy]
    have := hlast x (hsub.subset hx)
    omega
  · rcases List.mem_append.mp hx with hx | hx
    · exact h4 x (hsub.subset hx)
    · rw [List.mem_singleton.mp hx]
      omega
/-- each row has a hue -/
def Hued (rows : List (List Int)) (kvs : List (List Key × V)) : Prop := ∀ r ∈ rows, ∃ z : Int, valV kvs (keyR r) = some (.int z)
theorem dgetRow {d : Addr} {n : Nat} {L : Led} {H : Hp} {dz b : Addr} {kvs : List (List Key × V)} {r : List Int} {z : V} (kn : Kn d n L H) (hd : (dz, .dT kvs) ∈ L) (hb : (b, .tup (r.map V.int)) ∈ L) (e : valV kvs (keyR r) = some z) : DGet H dz (.ref b) (some z) := by
  have h := DGet.t (k := keyR r) (kn.mem hd) (by rw [keyR_kV]; exact kn.mem hb)
  rw [e] at h
  exact h
abbrev s_law_may : Stmt := topS 20
theorem sc_law_may : FnScope ["m", "known", "stand", "hue", "number"] ["m", "known", "stand", "hue"] (defScope s_law_may) := ⟨rfl, rfl, rfl, by decide +kernel, rfl, by decide +kernel, by decide +kernel⟩
def spMay : Sp := fun vs H Q _ => ∃ (d : Addr) (n : Nat) (L : Led) (kz s : Addr) (m k : Nat) (hue : Int) (r : List Int) (kvs : List (List Key × V)), vs = [.int (m : Int), .ref kz, .ref s, .int hue] ∧ m ≤ 16 ∧ k ≤ 4 ∧ r ∈ Csi m (k + 2) ∧ Hued (Csi m (k + 2)) kvs ∧ (kz, .dT kvs) ∈ L ∧ (s, .tup (r.map V.int)) ∈ L ∧ Kn d n L H ∧ ∀ b H', Kn d n L H' → Q (.bl b) H'
theorem ok_law_may {P : Program} {w : World} {K : PySem.W.Frag} {mg : Str → Option Value} {base : Heap} {k : Nat} {f : Addr} {fd : FuncData} (D : Df K mg "_law_may" s_law_may ["m", "known", "stand", "hue"] f fd)  (M : Bl mg) : FnOk P w K mg base CX0 (k + 1) f fd ["m", "known", "stand", "hue"] spMay := by
  refine D.F.ok sc_law_may (fun vs H Q E h => ?_) (fun cdv A outer s H vs Q E hr h => ?_)
  · obtain ⟨d, n, L, kz, s, m, k, hue, r, kvs, rfl, _⟩ := h
    rfl
  obtain ⟨d, n, L, kz, s, m, k, hue, r, kvs, rfl, hm, hk, hr0, hhue, mk, ms, kn, g⟩ := h
  refine ⟨_, (pss_cons (ps_for PassesOwn.never rfl (pi_range1 (by rfl) M.range (pa_cons (pv 0) pa_nil)) (pg_name (i := 4) sc_law_may.nd rfl (Or.inl rfl))
    (pss_cons (ps_if (PW.pt (pw_and (pt_cmpR op_lt (pv 4) (pe_ix ix_tup (pv 2) pe_int (fun _ _ => rfl)) (nomark _)) (pw_and1 (pt_cmpR op_eq (pe_dget (unit1 hr.units) (pv 1) (pe_op op_catA (pe_tup (pa_cons (pv 4) pa_nil)) (pe_slice sl_tupA (pv 2) po_none (po_some (pe_un un_neg pe_int)))) (fun _ _ => rfl)) (pv 3) (nomark _))))) (pss_one (ps_ret pe_bl)) pss_nil)
    (pss_one (ps_if (PW.pt (pw_and (pt_cmpR op_gt (pv 4) (pe_ix ix_tup (pv 2) (pe_un un_neg pe_int) (fun _ _ => rfl)) (nomark _)) (pw_and1 (pt_cmpR op_eq (pe_dget (unit1 hr.units) (pv 1) (pe_op op_catA (pe_slice sl_tupA (pv 2) (po_some pe_int) po_none) (pe_tup (pa_cons (pv 4) pa_nil))) (fun _ _ => rfl)) (pv 3) (nomark _))))) (pss_one (ps_ret pe_bl)) pss_nil))))
   (pss_one (ps_ret pe_bl))), ?_⟩
  have hrl := (mem_Csi.mp hr0).1
  obtain ⟨a, r', ear⟩ : ∃ a r', r = a :: r' := by
    cases r with
    | nil => simp at hrl
    | cons a r' => exact ⟨a, r', rfl⟩
  obtain ⟨z, l, ezl⟩ : ∃ z l, r = z ++ [l] := ⟨r.dropLast, r.getLast (by rw [ear]; simp), (List.dropLast_concat_getLast _).symm⟩
  have el : atI (r.map V.int) (-1) = some (.int l) := by rw [ezl]; exact atLast _ _
  have ea : atI (r.map V.int) 0 = some (.int a) := by rw [ear]; exact at0
  refine kSeq (kRng1 (n := (m : Int)) (by omega) (fun i σ' H' => ∃ x4 : Option V, σ' = [some (.int (m : Int)), some (.ref kz), some (.ref s), some (.int hue), x4] ∧ Kn d n L H') ⟨_, rfl, kn⟩ (fun i σ' H' hi hW => ?_) (fun σ' H' hW => ?_) fun R hR => by walk_at "go"; exact hR)
  · obtain ⟨x4, rfl, kn1⟩ := hW
    refine kJoin (fun σ'' H'' => σ'' = [some (.int (m : Int)), some (.ref kz), some (.ref s), some (.int hue), some (.int (i : Int))] ∧ Kn d n L H'') (fun σ'' H'' hW => ?_) fun N join => ?_
    · obtain ⟨rfl, kn2⟩ := hW
      refine kIfS ?_
      walk_at "go"
      refine kIxT (kn2.seqT ms) el ?_
      walk_at "go"
      refine iteD (fun hlt => ?_) fun hlt => ?_
      · walk_at "go"
        refine kDGetT (kVar rfl ?_)
        walk_at "go"
        refine kSlN kn2 ms (by rw [cutTail _ (by rw [List.length_map]; omega), List.length_tail, List.length_map]; omega) fun b1 H7 kn7 => ?_
        rw [cutTail _ (by rw [List.length_map]; omega), ← List.map_tail] at kn7
        walk_at "go"
        rename_i b2 H8 kn8
        refine kCatN kn8 (by rw [List.length_map, List.length_tail, hrl]; simp; omega) fun b3 H9 kn9 => ?_
        have hb := back_Csi (m := m) (k := k + 1) (c := (i : Int)) (by rw [← ezl]; exact hr0) (by omega) (by omega)
        rw [← ezl] at hb
        obtain ⟨zz, hzz⟩ := hhue _ hb
        have kn10 : Kn d n ((b3, .tup ((r.tail ++ [(i : Int)]).map V.int)) :: L) H9 := by rw [List.map_append]; exact kn9
        refine ⟨kz, _, rfl, dgetRow kn10 (List.mem_cons_of_mem _ mk) List.mem_cons_self hzz, ?_⟩
        walk_at "go"
        refine iteI (fun _ => ?_) fun _ => ?_
        · walk_at "go"
          exact g _ _ kn10.tail
        · walk_at "go"
          exact ⟨_, rfl, kn10.tail⟩
      · refine iteF ?_
        walk_at "go"
        exact ⟨_, rfl, kn2⟩
    · refine kIfS ?_
      walk_at "go"
      refine kIxT (kn1.seqT ms) ea ?_
      walk_at "go"
      refine iteD (fun hlt => ?_) fun hlt => ?_
      · walk_at "go"
        refine kDGetT (kVar rfl ?_)
        walk_at "go"
        rename_i b1 H7 kn7
        refine kSlN kn7 (List.mem_cons_of_mem _ ms) (by rw [cutInit _ (by rw [List.length_map]; omega), List.length_dropLast, List.length_map]; omega) fun b2 H8 kn8 => ?_
        rw [cutInit _ (by rw [List.length_map]; omega), ← List.map_dropLast] at kn8
        refine kCatN kn8 (by rw [List.length_map, List.length_dropLast, hrl]; simp; omega) fun b3 H9 kn9 => ?_
        have hb := front_Csi (m := m) (k := k + 1) (c := (i : Int)) (by rw [← ear]; exact hr0) (by omega) hlt
        rw [← ear] at hb
        obtain ⟨zz, hzz⟩ := hhue _ hb
        have kn10 : Kn d n ((b3, .tup (([(i : Int)] ++ r.dropLast).map V.int)) :: L) H9 := by rw [List.map_append]; exact kn9
        refine ⟨kz, _, rfl, dgetRow kn10 (List.mem_cons_of_mem _ mk) List.mem_cons_self hzz, ?_⟩
        walk_at "go"
        refine iteI (fun _ => ?_) fun _ => ?_
        · walk_at "go"
          exact g _ _ kn10.tail
        · walk_at "go"
          exact join _ _ ⟨rfl, kn10.tail⟩
      · refine iteF ?_
        walk_at "go"
        exact join _ _ ⟨rfl, kn1⟩
  · obtain ⟨x4, rfl, kn1⟩ := hW
    walk_at "go"
    exact g _ _ kn1

theorem kDPutS {d : Addr} {n : Nat} {L : Led} {H : Hp} {nx : Hp → Prop} {S b : Addr} {rows : List (List Int)} {hs : List Int} {i : Nat} {r : List Int} {h : Int} (kn : Kn d n ((S, .dT (tabO (rows.take i) (hs.map V.int))) :: L) H) (hb : (b, .tup (r.map V.int)) ∈ L) (nd : rows.Nodup) (h1 : rows[i]? = some r) (h2 : hs.length = i) (hz : rows.length ≤ 100000) (q : ∀ H', Kn d n ((S, .dT (tabO (rows.take (i + 1)) ((hs ++ [h]).map V.int))) :: L) H' → nx H') : ∃ a H4, V.ref S = .ref a ∧ DPut H a (.ref b) (.int h) H4 ∧ nx H4 := by
  have e1 : (hs.map V.int) = ((hs ++ [h]).map V.int).take i := by rw [← List.map_take, ← h2, List.take_left']; rfl
  have e2 : ((hs ++ [h]).map V.int) = ((hs ++ [h]).map V.int).take (i + 1) := by rw [List.take_of_length_le]; rw [List.length_map, List.length_append, h2]; exact Nat.le_refl _
  rw [e1] at kn
  refine kDPutT (vs := (hs ++ [h]).map V.int) kn hb nd h1 (by rw [List.getElem?_map, List.getElem?_append_right (by omega), h2, Nat.sub_self]; rfl) hz fun H' k' => q H' ?_
  rw [← e2] at k'
  exact k'
theorem putK_has {kvs : List (List Key × V)} {k : List Key} {v w : V} (h : valV kvs k = some w) : (putK kvs k v).length = kvs.length := by
  unfold putK
  rw [valV_any, h]
  rw [if_pos (show (some w).isSome = true from rfl), List.length_map]
theorem kDPutE {d : Addr} {n : Nat} {L : Led} {H : Hp} {nx : Hp → Prop} {S b : Addr} {rows : List (List Int)} {kvs : List (List Key × V)} {r : List Int} {h : Int} (kn : Kn d n ((S, .dT kvs) :: L) H) (hb : (b, .tup (r.map V.int)) ∈ L) (hu : Hued rows kvs) (hr : r ∈ rows) (hz : kvs.length ≤ 100000) (q : ∀ kvs' H', kvs'.length = kvs.length → Hued rows kvs' → Kn d n ((S, .dT kvs') :: L) H' → nx H') : ∃ a H4, V.ref S = .ref a ∧ DPut H a (.ref b) (.int h) H4 ∧ nx H4 := by
  obtain ⟨z, hz2⟩ := hu r hr
  have hl := putK_has (v := V.int h) hz2
  have hp := DPut.t (k := keyR r) (v := .int h) (kn.at 0 rfl) (by rw [keyR_kV]; exact kn.mem (List.mem_cons_of_mem _ hb)) (Nat.lt_of_le_of_lt hz (by decide))
  refine ⟨S, _, rfl, hp, q _ _ hl (fun r' hr' => ?_) (kn.put 0 rfl)⟩
  rw [valV_put]
  by_cases e : keyR r' = keyR r
  · rw [if_pos e]
    exact ⟨h, rfl⟩
  · rw [if_neg e]
    exact hu r' hr'
theorem tab_hued {m t : Nat} {hs : List Int} (hl : hs.length = (Csi m (t + 1)).length) : Hued (Csi m (t + 1)) (tabO (Csi m (t + 1)) (hs.map V.int)) := fun r hr => by
  rw [valV_tab, hAt_is hl hr]
  exact ⟨_, rfl⟩
theorem atSet {p : Addr} {d : Addr} {n : Nat} {L : Led} {H : Hp} {hs : List Int} {i j : Nat} {h : Int} {R : Hp → Prop} (kn : Kn d n L H) (hj : L[j]? = some (p, .lst (hs.map V.int))) (hi : i < hs.length) (q : ∀ H', Kn d n (L.set j (p, .lst ((hs.set i h).map V.int))) H' → R H') : rSetL (.ref p) (.int (i : Int)) (.int h) H R := by
  refine kSetL (j := i) (kn.at j hj) ?_ ?_
  · rw [List.length_map]
    unfold ixN
    simp
    omega
  · rw [← List.map_set]
    exact q _ (kn.put j hj)
theorem Cs_short3 : ∀ m < 17, ∀ k < 4, (CpComb.Cs m k).length ≤ 600 := by decide +kernel
abbrev s_law_table : Stmt := topS 18
theorem sc_law_table : FnScope ["tape", "m", "t", "some", "way", "shift", "k", "found", "known", "stand", "hue"] ["tape", "m", "t"] (defScope s_law_table) := ⟨rfl, rfl, rfl, by decide +kernel, rfl, by decide +kernel, by decide +kernel⟩
def spLawTable : Sp := fun vs H Q _ => ∃ (d : Addr) (n : Nat) (L : Led) (m t : Nat), vs = [.ref d, .int (m : Int), .int (t : Int)] ∧ 2 ≤ m ∧ m ≤ 16 ∧ t ≤ 2 ∧ n ≤ 2 ^ 58 ∧ Kn d n L H ∧
  ∀ (l : Addr) (hs : List Int) H', hs.length = (Csi m (t + 1)).length → (∀ h ∈ hs, 0 ≤ h ∧ h ≤ bigH) → Kn d (n + 3000) ((l, .lst (hs.map V.int)) :: L) H' → Q (.ref l) H'
theorem ok_law_table {P : Program} {w : World} {K : PySem.W.Frag} {mg : Str → Option Value} {base : Heap} {k : Nat} {f a_law_draw a_law_stands a_law_may a_law_scaled : Addr} {fd fd_law_draw fd_law_stands fd_law_may fd_law_scaled : FuncData} (D : Df K mg "_law_table" s_law_table ["tape", "m", "t"] f fd) (D_law_draw : Df K mg "_law_draw" s_law_draw ["tape", "upto"] a_law_draw fd_law_draw) (D_law_stands : Df K mg "_law_stands" s_law_stands ["m", "t"] a_law_stands fd_law_stands) (D_law_may : Df K mg "_law_may" s_law_may ["m", "known", "stand", "hue"] a_law_may fd_law_may) (D_law_scaled : Df K mg "_law_scaled" s_law_scaled ["tape", "found"] a_law_scaled fd_law_scaled) (M : Bl mg) : FnOk P w K mg base CX0 (k + 1 + 1 + 1) f fd ["tape", "m", "t"] spLawTable := by
  have G_law_draw := ok_law_draw (P := P) (w := w) (base := base) (k := 0) D_law_draw M
  have G_law_stands := ok_law_stands (P := P) (w := w) (base := base) (k := 0) D_law_stands M
  have G_law_may := ok_law_may (P := P) (w := w) (base := base) (k := 0) D_law_may M
  have G_law_scaled := ok_law_scaled (P := P) (w := w) (base := base) (k := 0) D_law_scaled D_law_draw M
  refine D.F.ok sc_law_table (fun vs H Q E h => ?_) (fun cdv A outer s H vs Q E hr h => ?_)
  · obtain ⟨d, n, L, m, t, rfl, _⟩ := h
    rfl
  obtain ⟨d, n, L, m, t, rfl, hm2, hm, ht, hn, kn, g⟩ := h
  refine ⟨_, (pss_cons (ps_set (i := 3) sc_law_table.nd rfl (Or.inl rfl) (pe_call G_law_stands (hr.mono (by omega)) (by rfl) D_law_stands.g D_law_stands.F.kp D_law_stands.b .nil pass0 (pa_cons (pv 1) (pa_cons (pv 2) pa_nil))))
   (pss_cons (ps_set (i := 4) sc_law_table.nd rfl (Or.inl rfl) (pe_call G_law_draw (hr.mono (by omega)) (by rfl) D_law_draw.g D_law_draw.F.kp D_law_draw.b .nil pass0 (pa_cons (pv 0) (pa_cons pe_int pa_nil))))
   (pss_cons (ps_if (PW.pt (pw_or (pt_cmpR op_eq (pv 2) pe_int (nomark _)) (pw_or1 (pt_cmpR op_eq (pv 4) pe_int (nomark _))))) (pss_cons (ps_set (i := 5) sc_law_table.nd rfl (Or.inr rfl) (pe_call G_law_draw (hr.mono (by omega)) (by rfl) D_law_draw.g D_law_draw.F.kp D_law_draw.b .nil pass0 (pa_cons (pv 0) (pa_cons pe_int pa_nil))))
    (pss_one (ps_ret (pe_call G_law_scaled (hr.mono (by omega)) (by rfl) D_law_scaled.g D_law_scaled.F.kp D_law_scaled.b .nil pass0 (pa_cons (pv 0) (pa_cons (pe_lc (own := [("k", 6)]) (g := gName 6) (by rfl) sc_law_table.nd (pi_range1 (by rfl) M.range (pa_cons (pe_callB c_len (by rfl) M.len PySem.boot_len (pa_cons (pv 3) pa_nil)) pa_nil)) (blkOk_by (own := [("k", 6)]) (N := ["tape", "m", "t", "some", "way", "shift", "k", "found", "known", "stand", "hue"]) (sc := defScope s_law_table) (by decide +kernel)) (fun _ _ _ _ _ => (pg_name (i := 6) sc_law_table.nd rfl (Or.inl rfl))) (fun _ _ _ _ _ => pts_nil) (fun _ _ _ _ _ => (pe_op op_add (pv 6) (pv 5)))) pa_nil)))))) pss_nil)
   (pss_cons (ps_set (i := 7) sc_law_table.nd rfl (Or.inl rfl) (pe_lst pa_nil))
   (pss_cons (ps_set (i := 8) sc_law_table.nd rfl (Or.inl rfl) pe_dnewT)
   (pss_cons (ps_for PassesOwn.never rfl (pi_list (pv 3)) (pg_name (i := 9) sc_law_table.nd rfl (Or.inl rfl))
    (pss_cons (ps_set (i := 10) sc_law_table.nd rfl (Or.inl rfl) (pe_op op_add (pe_op op_mul pe_int (pe_ix ix_tup (pv 9) pe_int (fun _ _ => rfl))) (pe_op op_mod (pe_ix ix_tup (pv 9) (pe_un un_neg pe_int) (fun _ _ => rfl)) pe_int)))
    (pss_cons (ps_if (pt_cmpR op_eq (pv 4) pe_int (nomark _)) (pss_one (ps_set (i := 10) sc_law_table.nd rfl (Or.inl rfl) (pe_op op_sub (pe_op op_sub (pv 1) (pe_ix ix_tup (pv 9) pe_int (fun _ _ => rfl))) pe_int))) pss_nil)
    (pss_cons (ps_if (pt_cmpR op_eq (pv 4) pe_int (nomark _)) (pss_one (ps_set (i := 10) sc_law_table.nd rfl (Or.inl rfl) (pe_op op_add (pe_op op_mul (pe_op op_fdivW (pe_ix ix_tup (pv 9) pe_int (fun _ _ => rfl)) pe_int) pe_int) (pe_op op_mul (pe_op op_mod (pe_ix ix_tup (pv 9) pe_int (fun _ _ => rfl)) pe_int) pe_int)))) pss_nil)
    (pss_cons (ps_expr (pe_bm PySem.F.plainAttrs_list PySem.F.slot_list_append PySem.F.type_list_append mt_append (pv 7) (pa_cons (pv 10) pa_nil)))
    (pss_one (ps_dput (unit1 hr.units) (pv 8) (pv 9) (pv 10) rfl)))))))
   (pss_cons (ps_if (pt_cmpR op_eq (pv 4) pe_int (nomark _)) (pss_one (ps_for PassesOwn.never rfl (pi_enum (by rfl) M.enumerate (pa_cons (pv 3) pa_nil)) (pg_tup rfl (pgs_cons (pg_name (i := 6) sc_law_table.nd rfl (Or.inl rfl)) (pgs_cons (pg_name (i := 9) sc_law_table.nd rfl (Or.inl rfl)) pgs_nil)))
     (pss_cons (ps_set (i := 10) sc_law_table.nd rfl (Or.inl rfl) (pe_call G_law_draw (hr.mono (by omega)) (by rfl) D_law_draw.g D_law_draw.F.kp D_law_draw.b .nil pass0 (pa_cons (pv 0) (pa_cons pe_int pa_nil))))
     (pss_one (ps_if (pt_val (pe_call G_law_may (hr.mono (by omega)) (by rfl) D_law_may.g D_law_may.F.kp D_law_may.b .nil pass0 (pa_cons (pv 1) (pa_cons (pv 8) (pa_cons (pv 9) (pa_cons (pv 10) pa_nil)))))) (pss_cons (ps_asg (pv 10) (pg_sub (pv 7) (pv 6) set_list))
      (pss_one (ps_dput (unit1 hr.units) (pv 8) (pv 9) (pv 10) rfl))) pss_nil))))) pss_nil)
   (pss_one (ps_ret (pe_call G_law_scaled (hr.mono (by omega)) (by rfl) D_law_scaled.g D_law_scaled.F.kp D_law_scaled.b .nil pass0 (pa_cons (pv 0) (pa_cons (pv 7) pa_nil)))))))))))), ?_⟩
  walk_at "go"
  refine ⟨d, n, L, m, t, rfl, hm, by omega, kn, fun l as L2 H2 hrows s2 kn2 => ?_⟩
  have hlC : as.length ≤ 600 := by rw [hrows.len, Csi_length]; exact Cs_short3 m (by omega) (t + 1) (by omega)
  have hlR := hrows.len
  walk_at "go"
  refine kDraw kn2 (by omega) (by omega) (by omega) fun way H3 w0 w1 kn3 => ?_
  walk_at "go"
  refine kJoin (fun σ' H' => t ≠ 0 ∧ σ' = [some (.ref d), some (.int (m : Int)), some (.int (t : Int)), some (.ref l), some (.int way), none, none, none, none, none, none] ∧ Kn d (n + 1) ((l, HO.lst (as.map V.ref)) :: L2) H') (fun σ' H' hW => ?_) fun N join => ?_
  · obtain ⟨ht0, rfl, kn4⟩ := hW
    obtain ⟨t', rfl⟩ : ∃ t', t = t' + 1 := ⟨t - 1, by omega⟩
    have hlR : as.length = (Csi m (t' + 2)).length := hlR
    have hrows : RowsAt L2 as (Csi m (t' + 2)) := hrows
    walk_at "go"
    rename_i fo H5 kn5
    refine fun kz hkz => ?_
    have kn6 := kn5.new (o := .dT []) hkz
    clear kn5
    walk_at "go"
    refine kSeq (kForL (K := K) (p := l) (xs := as.map V.ref) (fun i σ' H' => ∃ (x9 x10 : Option V) (hs : List Int), σ' = [some (.ref d), some (.int (m : Int)), some (.int ((t' + 1 : Nat) : Int)), some (.ref l), some (.int way), none, none, some (.ref fo), some (.ref kz), x9, x10] ∧ hs.length = i ∧ (∀ h ∈ hs, 0 ≤ h ∧ h ≤ 2000) ∧ Kn d (n + 1) ((kz, .dT (tabO ((Csi m (t' + 2)).take i) (hs.map V.int))) :: (fo, .lst (hs.map V.int)) :: (l, HO.lst (as.map V.ref)) :: L2) H')
      (kn6.seqL (List.mem_cons_of_mem _ (List.mem_cons_of_mem _ List.mem_cons_self))) ⟨_, _, [], rfl, rfl, fun h hh => (by cases hh), kn6⟩ (fun i σ' H' _ hW => by
        obtain ⟨_, _, _, _, _, _, k'⟩ := hW
        exact k'.seqL (List.mem_cons_of_mem _ (List.mem_cons_of_mem _ List.mem_cons_self))) (fun i x σ' H' hx hW => ?_) (fun σ' H' hW => ?_) fun R hR => by walk_at "go"; exact hR)
    · obtain ⟨x9, x10, hs, rfl, hsl, hsb, kn7⟩ := hW
      obtain ⟨a2, ha, rfl⟩ : ∃ a, as[i]? = some a ∧ x = V.ref a := by
        rw [List.getElem?_map] at hx
        cases e : as[i]? with
        | none => rw [e] at hx; cases hx
        | some a => rw [e] at hx; exact ⟨a, rfl, (Option.some.inj hx).symm⟩
      have hi : i < as.length := (List.getElem?_eq_some_iff.mp ha).1
      obtain ⟨r, hr⟩ : ∃ r, (Csi m (t' + 2))[i]? = some r := ⟨(Csi m (t' + 2))[i]'(by omega), List.getElem?_eq_getElem _⟩
      have ma : (a2, HO.tup (r.map V.int)) ∈ (fo, HO.lst (hs.map V.int)) :: (l, HO.lst (as.map V.ref)) :: L2 := List.mem_cons_of_mem _ (List.mem_cons_of_mem _ (hrows.at_ i a2 r ha hr))
      have ma2 := List.mem_cons_of_mem (kz, HO.dT (tabO ((Csi m (t' + 2)).take i) (hs.map V.int))) ma
      obtain ⟨hrl, hrp, hrb⟩ := mem_Csi.mp (List.mem_of_getElem? hr)
      obtain ⟨a, r', ear⟩ : ∃ a r', r = a :: r' := by
        cases r with
        | nil => simp at hrl
        | cons a r' => exact ⟨a, r', rfl⟩
      obtain ⟨z, b, ezl⟩ : ∃ z l, r = z ++ [l] := ⟨r.dropLast, r.getLast (by rw [ear]; simp), (List.dropLast_concat_getLast _).symm⟩
      have el : atI (r.map V.int) (-1) = some (.int b) := by rw [ezl]; exact atLast _ _
      have ea : atI (r.map V.int) 0 = some (.int a) := by rw [ear]; exact at0
      have ab := hrb a (by rw [ear]; exact List.mem_cons_self)
      have bb := hrb b (by rw [ezl]; exact List.mem_append_right _ List.mem_cons_self)
      walk_at "go"
      refine kIxT (kn7.seqT ma2) ea ?_
      walk_at "go"
      refine kIxT (kn7.seqT ma2) el ?_
      walk_at "go"
      refine kJoin (fun σ1 H1 => ∃ h : Int, 0 ≤ h ∧ h ≤ 2000 ∧ σ1 = [some (.ref d), some (.int (m : Int)), some (.int ((t' + 1 : Nat) : Int)), some (.ref l), some (.int way), none, none, some (.ref fo), some (.ref kz), some (.ref a2), some (.int h)] ∧ Kn d (n + 1) ((kz, .dT (tabO ((Csi m (t' + 2)).take i) (hs.map V.int))) :: (fo, .lst (hs.map V.int)) :: (l, HO.lst (as.map V.ref)) :: L2) H1) (fun σ1 H1 hW => ?_) fun N1 join1 => ?_
      · obtain ⟨h, h0, h1, rfl, kn8⟩ := hW
        refine kJoin (fun σ1 H1 => ∃ h : Int, 0 ≤ h ∧ h ≤ 2000 ∧ σ1 = [some (.ref d), some (.int (m : Int)), some (.int ((t' + 1 : Nat) : Int)), some (.ref l), some (.int way), none, none, some (.ref fo), some (.ref kz), some (.ref a2), some (.int h)] ∧ Kn d (n + 1) ((kz, .dT (tabO ((Csi m (t' + 2)).take i) (hs.map V.int))) :: (fo, .lst (hs.map V.int)) :: (l, HO.lst (as.map V.ref)) :: L2) H1) (fun σ2 H2 hW => ?_) fun N2 join2 => ?_
        · obtain ⟨h, h0, h1, rfl, kn9⟩ := hW
          walk_at "go"
          rename_i H10 kn10
          refine kDPut ?_
          walk_at "go"
          refine kDPutS kn10 (List.mem_cons_of_mem _ (List.mem_cons_of_mem _ (hrows.at_ i a2 r ha hr))) (Csi_nodup _ _) hr hsl (by omega) fun H11 kn11 => ?_
          refine ⟨_, _, hs ++ [h], rfl, by rw [List.length_append, hsl]; rfl, fun y hy => ?_, ?_⟩
          · rcases List.mem_append.mp hy with hy | hy
            · exact hsb y hy
            · rw [List.mem_singleton.mp hy]
              exact ⟨h0, h1⟩
          · have e : (hs.map V.int ++ [V.int h]) = (hs ++ [h]).map V.int := by rw [List.map_append]; rfl
            rw [e] at kn11
            exact kn11
        · refine kIfS ?_
          walk_at "go"
          refine iteI (fun _ => ?_) fun _ => ?_
          · walk_at "go"
            refine kIxT (kn8.seqT ma2) ea ?_
            walk_at "go"
            refine kIxT (kn8.seqT ma2) ea ?_
            walk_at "go"
            exact join2 _ _ ⟨_, by omega, by omega, rfl, kn8⟩
          · walk_at "go"
            exact join2 _ _ ⟨_, h0, h1, rfl, kn8⟩
      · refine kIfS ?_
        walk_at "go"
        refine iteI (fun _ => ?_) fun _ => ?_
        · walk_at "go"
          refine kIxT (kn7.seqT ma2) ea ?_
          walk_at "go"
          exact join1 _ _ ⟨_, by omega, by omega, rfl, kn7⟩
        · walk_at "go"
          exact join1 _ _ ⟨_, by omega, by omega, rfl, kn7⟩
    · obtain ⟨x9, x10, hs, rfl, hsl, hsb, kn7⟩ := hW
      rw [List.length_map] at hsl kn7
      rw [List.take_of_length_le (by omega)] at kn7
      have hhue := tab_hued (m := m) (t := t' + 1) (hs := hs) (by rw [hsl, hlR])
      have hkl : (tabO (Csi m (t' + 2)) (hs.map V.int)).length ≤ 2000 := by
        unfold tabO
        rw [List.length_zip, List.length_map]
        omega
      generalize tabO (Csi m (t' + 2)) (hs.map V.int) = kvs at *
      refine kJoin (fun σ1 H1 => ∃ (x6 x9 x10 : Option V) (hs : List Int) (kvs : List (List Key × V)), hs.length = as.length ∧ (∀ h ∈ hs, 0 ≤ h ∧ h ≤ 2000) ∧ σ1 = [some (.ref d), some (.int (m : Int)), some (.int ((t' + 1 : Nat) : Int)), some (.ref l), some (.int way), none, x6, some (.ref fo), some (.ref kz), x9, x10] ∧ Kn d (n + 1 + 2000) ((kz, .dT kvs) :: (fo, .lst (hs.map V.int)) :: (l, HO.lst (as.map V.ref)) :: L2) H1) (fun σ1 H1 hW => ?_) fun N1 join1 => ?_
      · obtain ⟨x6, x9, x10, hs, kvs, hsl, hsb, rfl, kn8⟩ := hW
        walk_at "go"
        refine ⟨d, _, _, fo, hs, rfl, List.mem_cons_of_mem _ List.mem_cons_self, by omega, hsb, by omega, kn8, fun l2 hs' H' hl2 hb2 k' => ?_⟩
        refine g l2 hs' H' (by rw [hl2, hsl, hlR]) hb2 ((k'.sub (((s2.cons _).cons _).cons _ |>.cons₂ _)).more (by omega))
      · refine kIfS ?_
        walk_at "go"
        refine iteI (fun _ => ?_) fun _ => ?_
        · refine kForEM (K := K) (fun p xs H' => p = l ∧ xs = as.map V.ref ∧ Kn d (n + 1) ((kz, .dT kvs) :: (fo, .lst (hs.map V.int)) :: (l, HO.lst (as.map V.ref)) :: L2) H') (fun R hR => by walk_at "go"; exact hR _ _ _ (kn7.seqL (List.mem_cons_of_mem _ (List.mem_cons_of_mem _ List.mem_cons_self))) ⟨rfl, rfl, kn7⟩) (fun p xs H6 hG hq => ?_)
          obtain ⟨rfl, rfl, kn8⟩ := hG
          refine ⟨fun i σ' H' => ∃ (x6 x9 x10 : Option V) (hs : List Int) (kvs : List (List Key × V)), σ' = [some (.ref d), some (.int (m : Int)), some (.int ((t' + 1 : Nat) : Int)), some (.ref p), some (.int way), none, x6, some (.ref fo), some (.ref kz), x9, x10] ∧ hs.length = as.length ∧ (∀ h ∈ hs, 0 ≤ h ∧ h ≤ 2000) ∧ kvs.length ≤ 2000 ∧ Hued (Csi m (t' + 2)) kvs ∧ Kn d (n + 1 + i) ((kz, .dT kvs) :: (fo, .lst (hs.map V.int)) :: (p, HO.lst (as.map V.ref)) :: L2) H',
            ⟨_, _, _, hs, kvs, rfl, hsl, hsb, hkl, hhue, kn8⟩, fun i σ' H' _ hW => ?_, fun i x σ' H' T hx hW hT => ?_, fun σ' H' hW => ?_⟩
          · obtain ⟨_, _, _, _, _, _, _, _, _, _, k'⟩ := hW
            exact k'.seqL (List.mem_cons_of_mem _ (List.mem_cons_of_mem _ List.mem_cons_self))
          · obtain ⟨x6, x9, x10, hs, kvs, rfl, hsl, hsb, hkl, hhue, kn9⟩ := hW
            obtain ⟨a2, ha, rfl⟩ : ∃ a, as[i]? = some a ∧ x = V.ref a := by
              rw [List.getElem?_map] at hx
              cases e : as[i]? with
              | none => rw [e] at hx; cases hx
              | some a => rw [e] at hx; exact ⟨a, rfl, (Option.some.inj hx).symm⟩
            have hi : i < as.length := (List.getElem?_eq_some_iff.mp ha).1
            obtain ⟨r, hr⟩ : ∃ r, (Csi m (t' + 2))[i]? = some r := ⟨(Csi m (t' + 2))[i]'(by omega), List.getElem?_eq_getElem _⟩
            have hrm := List.mem_of_getElem? hr
            have kn10 := (kn9.new (o := .tup [.int (i : Int), .ref a2]) hT).tail
            have ma := hrows.at_ i a2 r ha hr
            walk_at "go"
            refine kDraw kn10 (by omega) (by omega) (by omega) fun h H11 h0 h1 kn11 => ?_
            walk_at "go"
            refine ⟨d, _, _, kz, a2, m, t', h, r, kvs, rfl, hm, by omega, hrm, hhue, List.mem_cons_self, List.mem_cons_of_mem _ (List.mem_cons_of_mem _ (List.mem_cons_of_mem _ ma)), kn11, fun b H12 kn12 => ?_⟩
            cases b with
            | false =>
              refine kBl (iteF ?_)
              walk_at "go"
              exact ⟨_, _, _, hs, kvs, rfl, hsl, hsb, hkl, hhue, kn12⟩
            | true =>
              refine kBl (iteT ?_)
              walk_at "go"
              refine atSet kn12 (j := 1) rfl (by omega) fun H13 kn13 => ?_
              refine kDPut ?_
              walk_at "go"
              refine kDPutE (rows := Csi m (t' + 2)) kn13 (List.mem_cons_of_mem _ (List.mem_cons_of_mem _ ma)) hhue hrm (by omega) fun kvs' H14 hl14 hu14 kn14 => ?_
              refine ⟨_, _, _, hs.set i h, kvs', rfl, by rw [List.length_set, hsl], fun y hy => ?_, by omega, hu14, kn14⟩
              rcases List.mem_or_eq_of_mem_set hy with hy | hy
              · exact hsb y hy
              · omega
          · obtain ⟨x6, x9, x10, hs, kvs, rfl, hsl, hsb, hkl, hhue, kn9⟩ := hW
            rw [List.length_map] at kn9
            exact join1 _ _ ⟨_, _, _, hs, kvs, hsl, hsb, rfl, kn9.more (by omega)⟩
        · walk_at "go"
          exact join1 _ _ ⟨_, _, _, hs, kvs, hsl, hsb, rfl, kn7.more (by omega)⟩
  · refine kIfS ?_
    walk_at "go"
    refine iteI (fun hc => ?_) fun hc => ?_
    rotate_left
    walk_at "go"
    refine iteI (fun hc2 => ?_) fun hc2 => ?_
    rotate_left
    · walk_at "go"
      exact join _ _ ⟨by omega, rfl, kn3⟩
    all_goals
      try refine iteT ?_
      walk_at "go"
      refine kDraw kn3 (by omega) (by omega) (by omega) fun sh H4 h0 h1 kn4 => ?_
      walk_at "go"
      refine kLcR kn4 (srcR1 (n := ((as.map V.ref).length : Int)) (fun R hR => by walk_at "go"; exact hR) (by omega) (by rw [List.length_map]; omega)) (by rw [List.length_map, Int.toNat_natCast]; omega) (fun i => ((List.range i).map fun (k : Nat) => (k : Int) + sh).map V.int) rfl (fun i => by rw [List.length_map, List.length_map, List.length_range]; exact Nat.le_refl _) (fun _ => rfl) (fun i H' D hi kn5 N1 N2 g1 _ => ?_) (fun D H' kn5 => ?_)
      · refine kYes (iteT ?_)
        walk_at "go"
        refine g1 _ _ kn5 ?_
        rw [List.range_succ, List.map_append, List.map_append, Int.zero_add]
        rfl
      · rw [List.length_map, Int.toNat_natCast] at kn5
        walk_at "go"
        refine ⟨d, _, _, D, (List.range as.length).map (fun (k : Nat) => (k : Int) + sh), rfl, List.mem_cons_self, by rw [List.length_map, List.length_range]; omega, fun h hh => ?_, by omega, kn5, fun l2 hs' H' hl2 hb2 k' => ?_⟩
        · obtain ⟨k, hk, rfl⟩ := List.mem_map.mp hh
          have := List.mem_range.mp hk
          omega
        · refine g l2 hs' H' (by rw [hl2, List.length_map, List.length_range, hlR]) hb2 ((k'.sub ((s2.cons _).cons _ |>.cons₂ _)).more (by omega))

/-! ### what is behind a stand -/
def insU (x : Int) : List Int → List Int
  | [] => [x]
  | y :: ys => if x < y then x :: y :: ys else if x = y then y :: ys else y :: insU x ys
def sortU : List Int → List Int
  | [] => []
  | x :: xs => insU x (sortU xs)
theorem mem_insU {x k : Int} : ∀ {l : List Int}, k ∈ insU x l ↔ k = x ∨ k ∈ l
  | [] => by simp [insU]
  | y :: ys => by
    unfold insU
    by_cases h1 : x < y
    · rw [if_pos h1]; simp
    · rw [if_neg h1]
      by_cases h2 : x = y
      · rw [if_pos h2]
        subst h2
        simp
      · rw [if_neg h2, List.mem_cons, mem_insU, List.mem_cons]
        constructor
        · rintro (h | h | h)
          · exact .inr (.inl h)
          · exact .inl h
          · exact .inr (.inr h)
        · rintro (h | h | h)
          · exact .inr (.inl h)
          · exact .inl h
          · exact .inr (.inr h)
theorem insU_pair {x : Int} : ∀ {l : List Int}, l.Pairwise (· < ·) → (insU x l).Pairwise (· < ·)
  | [], _ => by simp [insU]
  | y :: ys, h => by
    obtain ⟨p1, p2⟩ := List.pairwise_cons.mp h
    unfold insU
    by_cases h1 : x < y
    · rw [if_pos h1]
      refine List.pairwise_cons.mpr ⟨fun z hz => ?_, h⟩
      rcases List.mem_cons.mp hz with rfl | hz
      · exact h1
      · have := p1 z hz
        omega
    · rw [if_neg h1]
      by_cases h2 : x = y
      · rw [if_pos h2]
        exact h
      · rw [if_neg h2]
        refine List.pairwise_cons.mpr ⟨fun z hz => ?_, insU_pair p2⟩
        rcases mem_insU.mp hz with rfl | hz
        · omega
        · exact p1 z hz
theorem mem_sortU {k : Int} : ∀ {l : List Int}, k ∈ sortU l ↔ k ∈ l
  | [] => by simp [sortU]
  | x :: xs => by rw [sortU, mem_insU, mem_sortU, List.mem_cons]
theorem sortU_pair : ∀ l : List Int, (sortU l).Pairwise (· < ·)
  | [] => .nil
  | x :: xs => insU_pair (sortU_pair xs)
theorem insU_len {x : Int} : ∀ {l : List Int}, (insU x l).length ≤ l.length + 1
  | [] => by simp [insU]
  | y :: ys => by
    have := insU_len (x := x) (l := ys)
    unfold insU
    split
    · simp
    · split
      · simp
      · simp only [List.length_cons]
        omega
theorem sortU_len : ∀ l : List Int, (sortU l).length ≤ l.length
  | [] => Nat.le_refl _
  | x :: xs => by
    have := sortU_len xs
    have := insU_len (x := x) (l := sortU xs)
    rw [sortU, List.length_cons]
    omega
theorem one_sorted : ∀ {a b : List Int}, a.Pairwise (· < ·) → b.Pairwise (· < ·) → (∀ k, k ∈ a ↔ k ∈ b) → a = b
  | [], [], _, _, _ => rfl
  | [], y :: b, _, _, h => by have := (h y).mpr List.mem_cons_self; nomatch this
  | x :: a, [], _, _, h => by have := (h x).mp List.mem_cons_self; nomatch this
  | x :: a, y :: b, ha, hb, h => by
    obtain ⟨a1, a2⟩ := List.pairwise_cons.mp ha
    obtain ⟨b1, b2⟩ := List.pairwise_cons.mp hb
    have exy : x = y := by
      rcases List.mem_cons.mp ((h x).mp List.mem_cons_self) with e | e
      · exact e
      · rcases List.mem_cons.mp ((h y).mpr List.mem_cons_self) with e2 | e2
        · exact e2.symm
        · have := a1 y e2
          have := b1 x e
          omega
    subst exy
    rw [one_sorted a2 b2 fun k => ?_]
    constructor
    · intro hk
      have := a1 k hk
      rcases List.mem_cons.mp ((h k).mp (List.mem_cons_of_mem _ hk)) with e | e
      · omega
      · exact e
    · intro hk
      have := b1 k hk
      rcases List.mem_cons.mp ((h k).mpr (List.mem_cons_of_mem _ hk)) with e | e
      · omega
      · exact e
theorem sortU_nodup (l : List Int) : (sortU l).Nodup := (sortU_pair l).imp fun h e => by omega
def behindL (rows : List (List Int)) (hs : List Int) (s : List Int) : List Int := ((rows.zip hs).filter fun p => decide (p.1.dropLast = s)).map (·.2)
theorem behind_succ {rows : List (List Int)} {hs : List Int} {i : Nat} {r s : List Int} {h : Int} (h1 : rows[i]? = some r) (h2 : hs[i]? = some h) : behindL (rows.take (i + 1)) (hs.take (i + 1)) s = behindL (rows.take i) (hs.take i) s ++ if r.dropLast = s then [h] else [] := by
  have l1 := (List.getElem?_eq_some_iff.mp h1).1
  have l2 := (List.getElem?_eq_some_iff.mp h2).1
  unfold behindL
  rw [List.take_add_one, List.take_add_one, h1, h2, List.zip_append (by rw [List.length_take, List.length_take]; omega), List.filter_append, List.map_append]
  congr 1
  show ((List.filter (fun p => decide (p.1.dropLast = s)) [(r, h)]).map (·.2)) = _
  by_cases e : r.dropLast = s
  · rw [if_pos e, List.filter_cons_of_pos (by simpa using e)]
    rfl
  · rw [if_neg e, List.filter_cons_of_neg (by simpa using e)]
    rfl
theorem zip_fst_sub {α β : Type} : ∀ (xs : List α) (ys : List β), ((xs.zip ys).map (·.1)).Sublist xs
  | [], _ => List.Sublist.refl _
  | x :: xs, [] => List.nil_sublist _
  | x :: xs, y :: ys => (zip_fst_sub xs ys).cons₂ x
theorem behind_few {m k : Nat} {hs : List Int} {s : List Int} : (behindL (Csi m (k + 1)) hs s).length ≤ m := by
  unfold behindL
  rw [List.length_map]
  have hsub : ((((Csi m (k + 1)).zip hs).filter fun p => decide (p.1.dropLast = s)).map (·.1)).Sublist (Csi m (k + 1)) := (List.Sublist.map (fun x : List Int × Int => x.1) List.filter_sublist).trans (zip_fst_sub _ _)
  have hd : ∀ r ∈ (((Csi m (k + 1)).zip hs).filter fun p => decide (p.1.dropLast = s)).map (·.1), r.dropLast = s := fun r hr => by
    obtain ⟨p, hp, rfl⟩ := List.mem_map.mp hr
    exact of_decide_eq_true (List.mem_filter.mp hp).2
  generalize hF : (((Csi m (k + 1)).zip hs).filter fun p => decide (p.1.dropLast = s)) = F at *
  have hlen : F.length = ((F.map (·.1)).map fun r => (r.getLastD 0).toNat).length := by rw [List.length_map, List.length_map]
  rw [hlen]
  have hval : ∀ r ∈ F.map (·.1), ∃ z : Nat, r = s ++ [(z : Int)] ∧ z < m := fun r hr => by
    obtain ⟨h1, h2, h3⟩ := mem_Csi.mp (hsub.subset hr)
    have hne : r ≠ [] := fun e => by rw [e] at h1; cases h1
    have hb := h3 (r.getLast hne) (List.getLast_mem hne)
    refine ⟨(r.getLast hne).toNat, ?_, by omega⟩
    rw [Int.toNat_of_nonneg hb.1, ← hd r hr, List.dropLast_concat_getLast]
  refine php m _ (List.pairwise_map.mpr ((Csi_nodup m (k + 1)).sublist hsub |>.imp_of_mem fun {a b} ha hb hab e => ?_)) fun x hx => ?_
  · obtain ⟨za, ea, _⟩ := hval a ha
    obtain ⟨zb, eb, _⟩ := hval b hb
    apply hab
    rw [ea, eb] at e ⊢
    simp at e
    rw [e]
  · obtain ⟨r, hr, rfl⟩ := List.mem_map.mp hx
    obtain ⟨z, e, hz⟩ := hval r hr
    rw [e]
    simpa using hz
theorem mem_behind {m t : Nat} {hs : List Int} {s : List Int} {k : Int} (hl : hs.length = (Csi m (t + 1)).length) : k ∈ behindL (Csi m (t + 1)) hs s ↔ ∃ r ∈ Csi m (t + 1), r.dropLast = s ∧ hAt m t hs r = k := by
  unfold behindL
  rw [List.mem_map]
  constructor
  · rintro ⟨⟨r, h⟩, hp, rfl⟩
    obtain ⟨hp, hd⟩ := List.mem_filter.mp hp
    obtain ⟨i, hi⟩ := List.getElem?_of_mem hp
    obtain ⟨h1, h2⟩ := List.getElem?_zip_eq_some.mp hi
    refine ⟨r, List.mem_of_getElem? h1, of_decide_eq_true hd, ?_⟩
    unfold hAt
    rw [hueL_at (Csi_nodup m (t + 1)) h1 h2]
    rfl
  · rintro ⟨r, hr, hd, rfl⟩
    obtain ⟨i, hi⟩ := List.getElem?_of_mem hr
    have hlt := (List.getElem?_eq_some_iff.mp hi).1
    have h2 : hs[i]? = some (hs[i]'(by omega)) := List.getElem?_eq_getElem (by omega)
    refine ⟨(r, hs[i]'(by omega)), List.mem_filter.mpr ⟨mem_zip_fst hi h2, decide_eq_true hd⟩, ?_⟩
    unfold hAt
    rw [hueL_at (Csi_nodup m (t + 1)) hi h2]
    rfl
/-- the set behind a stand -/
def setB (m t : Nat) (hs : List Int) (s : List Int) : List Int := sortU (behindL (Csi m (t + 2)) hs s)
def LS (m t : Nat) (hs : List Int) : List (List Int) := (Csi m (t + 1)).map (setB m t hs)
theorem LS_length {m t : Nat} {hs : List Int} : (LS m t hs).length = (Csi m (t + 1)).length := List.length_map _
/-! ### rows once each, in the order in which they come -/
def putU (u : List (List Int)) (x : List Int) : List (List Int) := if x ∈ u then u else u ++ [x]
def uq (l : List (List Int)) : List (List Int) := l.foldl putU []
theorem uq_snoc (l : List (List Int)) (x : List Int) : uq (l ++ [x]) = putU (uq l) x := by
  unfold uq
  rw [List.foldl_append]
  rfl
theorem foldU_pre : ∀ (l u : List (List Int)), ∃ v, l.foldl putU u = u ++ v
  | [], u => ⟨[], by simp⟩
  | x :: l, u => by
    obtain ⟨v, hv⟩ := foldU_pre l (putU u x)
    rw [List.foldl_cons, hv]
    unfold putU
    split
    · exact ⟨v, rfl⟩
    · exact ⟨[x] ++ v, by rw [List.append_assoc]⟩
theorem uq_take (l : List (List Int)) (i : Nat) : ∃ v, uq l = uq (l.take i) ++ v := by
  have e : l = l.take i ++ l.drop i := (List.take_append_drop i l).symm
  have e2 : uq l = (l.drop i).foldl putU (uq (l.take i)) := by
    conv => lhs; rw [e]
    unfold uq
    rw [List.foldl_append]
  rw [e2]
  exact foldU_pre _ _
theorem mem_foldU {x : List Int} : ∀ (l u : List (List Int)), x ∈ l.foldl putU u ↔ x ∈ u ∨ x ∈ l
  | [], u => by simp
  | y :: l, u => by
    rw [List.foldl_cons, mem_foldU l, List.mem_cons]
    unfold putU
    by_cases h : y ∈ u
    · rw [if_pos h]
      constructor
      · rintro (h1 | h1)
        · exact .inl h1
        · exact .inr (.inr h1)
      · rintro (h1 | rfl | h1)
        · exact .inl h1
        · exact .inl h
        · exact .inr h1
    · rw [if_neg h, List.mem_append, List.mem_singleton]
      constructor
      · rintro ((h1 | h1) | h1)
        · exact .inl h1
        · exact .inr (.inl h1)
        · exact .inr (.inr h1)
      · rintro (h1 | h1 | h1)
        · exact .inl (.inl h1)
        · exact .inl (.inr h1)
        · exact .inr h1
theorem mem_uq {l : List (List Int)} {x : List Int} : x ∈ uq l ↔ x ∈ l := by
  unfold uq
  rw [mem_foldU]
  simp
theorem foldU_nodup : ∀ (l u : List (List Int)), u.Nodup → (l.foldl putU u).Nodup
  | [], u, h => h
  | x :: l, u, h => by
    rw [List.foldl_cons]
    refine foldU_nodup l _ ?_
    unfold putU
    split
    · exact h
    · rename_i hx
      exact List.nodup_append.mpr ⟨h, by simp, fun a ha b hb e => hx (by rw [List.mem_singleton] at hb; rw [← hb, ← e]; exact ha)⟩
theorem uq_nodup (l : List (List Int)) : (uq l).Nodup := foldU_nodup l [] .nil
theorem foldU_len : ∀ (l u : List (List Int)), (l.foldl putU u).length ≤ u.length + l.length
  | [], u => by simp
  | x :: l, u => by
    rw [List.foldl_cons]
    have := foldU_len l (putU u x)
    have h2 : (putU u x).length ≤ u.length + 1 := by
      unfold putU
      split
      · omega
      · simp
    rw [List.length_cons]
    omega
theorem uq_len (l : List (List Int)) : (uq l).length ≤ l.length := by
  have := foldU_len l []
  simpa [uq] using this
def ixR (x : List Int) : List (List Int) → Nat
  | [] => 0
  | y :: ys => if y = x then 0 else ixR x ys + 1
theorem ixR_app {x : List Int} : ∀ {u v : List (List Int)}, x ∈ u → ixR x (u ++ v) = ixR x u
  | y :: u, v, h => by
    rw [List.cons_append]
    unfold ixR
    by_cases e : y = x
    · rw [if_pos e, if_pos e]
    · rw [if_neg e, if_neg e, ixR_app ((List.mem_cons.mp h).resolve_left fun z => e z.symm)]
theorem ixR_new {x : List Int} : ∀ {u : List (List Int)}, x ∉ u → ixR x (u ++ [x]) = u.length
  | [], _ => by simp [ixR]
  | y :: u, h => by
    rw [List.cons_append, ixR, if_neg (fun e => h (by rw [e]; exact List.mem_cons_self)), ixR_new fun z => h (List.mem_cons_of_mem _ z)]
    rfl
theorem ixR_get {x : List Int} : ∀ {u : List (List Int)}, x ∈ u → u[ixR x u]? = some x
  | y :: u, h => by
    unfold ixR
    by_cases e : y = x
    · rw [if_pos e, e]
      rfl
    · rw [if_neg e, List.getElem?_cons_succ]
      exact ixR_get ((List.mem_cons.mp h).resolve_left fun z => e z.symm)
theorem ixR_lt {x : List Int} {u : List (List Int)} (h : x ∈ u) : ixR x u < u.length := (List.getElem?_eq_some_iff.mp (ixR_get h)).1
def numV (n : Nat) : List V := (List.range n).map fun (i : Nat) => V.int (i : Int)
theorem tabV_at {rows : List (List Int)} {vs : List V} {r : List Int} {v : V} (nd : rows.Nodup) : ∀ {i : Nat}, rows[i]? = some r → vs[i]? = some v → valV (tabO rows vs) (keyR r) = some v := by
  induction rows generalizing vs with
  | nil => intro i e; simp at e
  | cons x rows ih =>
    obtain ⟨n1, n2⟩ := List.nodup_cons.mp nd
    intro i e1 e2
    cases vs with
    | nil => simp at e2
    | cons y vs =>
      show valV ((keyR x, y) :: tabO rows vs) (keyR r) = some v
      cases i with
      | zero =>
        cases e1
        cases e2
        exact valV_pos rfl
      | succ i =>
        rw [valV_neg (fun z => n1 (by rw [keyR_inj z]; exact List.mem_of_getElem? (by simpa using e1)))]
        exact ih n2 (i := i) (by simpa using e1) (by simpa using e2)
theorem num_some {u : List (List Int)} {x : List Int} (nd : u.Nodup) (h : x ∈ u) : valV (tabO u (numV u.length)) (keyR x) = some (.int (ixR x u : Int)) := by
  refine tabV_at nd (ixR_get h) ?_
  unfold numV
  rw [List.getElem?_map, List.getElem?_range (ixR_lt h)]
  rfl
theorem num_snoc (u : List (List Int)) (x : List Int) : tabO (u ++ [x]) (numV (u ++ [x]).length) = tabO u (numV u.length) ++ [(keyR x, .int (u.length : Int))] := by
  unfold tabO numV
  rw [List.length_append, List.length_singleton, List.range_succ, List.map_append, List.map_append, List.zip_append (by rw [List.length_map, List.length_map, List.length_range])]
  rfl
theorem num_len (u : List (List Int)) : (tabO u (numV u.length)).length = u.length := by
  unfold tabO numV
  rw [List.length_zip, List.length_map, List.length_map, List.length_range, Nat.min_self]
/-- the hues of the lowered table -/
def lowT (m t : Nat) (hs : List Int) : List Int := (LS m t hs).map fun x => (ixR x (uq (LS m t hs)) : Int)

/-! ### lists beside one another in the ledger -/
def zipLed (as : List Addr) (rows : List (List Int)) : Led := (as.zip rows).map (fun q => (q.1, HO.lst (q.2.map V.int)))
theorem zipLed_app : ∀ (as : List Addr) (rows : List (List Int)) (a : Addr) (r : List Int), as.length = rows.length → zipLed (as ++ [a]) (rows ++ [r]) = zipLed as rows ++ [(a, HO.lst (r.map V.int))] := by
  intro as rows a r h
  unfold zipLed
  rw [List.zip_append h, List.map_append]
  rfl
theorem zipLed_get {as : List Addr} {rows : List (List Int)} {i : Nat} {a : Addr} {r : List Int} (ha : as[i]? = some a) (hr : rows[i]? = some r) : (zipLed as rows)[i]? = some (a, HO.lst (r.map V.int)) := by
  unfold zipLed
  rw [List.getElem?_map]
  have : (as.zip rows)[i]? = some (a, r) := by rw [List.getElem?_zip_eq_some]; exact ⟨ha, hr⟩
  rw [this]
  rfl
theorem zipLed_set {as : List Addr} {rows : List (List Int)} {i : Nat} {a : Addr} {r : List Int} (ha : as[i]? = some a) (hl : as.length = rows.length) : (zipLed as rows).set i (a, HO.lst (r.map V.int)) = zipLed as (rows.set i r) := by
  apply List.ext_getElem?
  intro j
  have hi := (List.getElem?_eq_some_iff.mp ha).1
  have hzl : ∀ rows' : List (List Int), rows'.length = rows.length → (zipLed as rows').length = as.length := fun rows' h => by
    unfold zipLed
    rw [List.length_map, List.length_zip, h]
    omega
  by_cases hj : j < as.length
  · have haj : as[j]? = some as[j] := List.getElem?_eq_getElem hj
    rw [List.getElem?_set]
    by_cases e : i = j
    · subst e
      rw [if_pos rfl, if_pos (by rw [hzl rows rfl]; exact hi), zipLed_get (r := r) ha (by rw [List.getElem?_set, if_pos rfl, if_pos (by omega)])]
    · have hrj : rows[j]? = some (rows[j]'(by omega)) := List.getElem?_eq_getElem (by omega)
      rw [if_neg e, zipLed_get haj hrj, zipLed_get haj (r := rows[j]'(by omega)) (by rw [List.getElem?_set, if_neg e, hrj])]
  · rw [List.getElem?_eq_none (by rw [List.length_set, hzl rows rfl]; omega), List.getElem?_eq_none (by rw [hzl _ (List.length_set ..)]; omega)]

/-! ### sets_behind -/
def spStandsP : Sp := fun vs H Q _ => ∃ (d : Addr) (n : Nat) (L : Led) (m t : Nat), vs = [.int (m : Int), .int (t : Int)] ∧ m ≤ 16 ∧ t ≤ 3 ∧ Kn d n L H ∧
  ∀ (l : Addr) (as : List Addr) (pre : Led) H', RowsAt pre as (Csi m (t + 1)) → Kn d n ((l, .lst (as.map V.ref)) :: (pre ++ L)) H' → Q (.ref l) H'
def spRisingP : Sp := fun vs H Q _ => ∃ (d : Addr) (n : Nat) (L : Led) (m many : Nat), vs = [.int (m : Int), .int (many : Int)] ∧ m ≤ 16 ∧ many ≤ 4 ∧ Kn d n L H ∧
  ∀ (l : Addr) (as : List Addr) (pre : Led) H', RowsAt pre as (Csi m many) → Kn d n ((l, .lst (as.map V.ref)) :: (pre ++ L)) H' → Q (.ref l) H'
theorem kCombP {d : Addr} {n : Nat} {L : Led} {H : Hp} {Q : VK} {m many : Nat} (k : Kn d n L H) (hm : m ≤ 16) (hk : many ≤ 4) (q : ∀ (l : Addr) (as : List Addr) (pre : Led) H', RowsAt pre as (Csi m many) → Kn d n ((l, .lst (as.map V.ref)) :: (pre ++ L)) H' → Q (.ref l) H') : okComb m many H Q := by
  have hs := Cs_short hm hk
  refine ⟨by omega, by omega, by omega, fun as a hl nd fr hq hqn => ?_⟩
  have hkeys : (as.zip ((Csi m many).map tupO)).map (·.1) = as := zip_fst (by rw [hl, List.length_map])
  refine q a as (as.zip ((Csi m many).map tupO)) _ ⟨hl, fun i b r h1 h2 => ?_⟩ ((k.newAll _ (by rw [hkeys]; exact nd) (by rw [hkeys]; exact fr)).new ?_)
  · exact mem_zip_fst h1 (by rw [List.getElem?_map, h2]; rfl)
  · rw [updAll_not (by rw [hkeys]; exact hqn)]
    exact hq
theorem ok_risingP {P : Program} {w : World} {K : PySem.W.Frag} {mg : Str → Option Value} {base : Heap} {k : Nat} (MC : mg "combinations" = some (.type "itertools.combinations")) {f : Addr} {fd : FuncData} (D : Df K mg "rising" s_rising ["m", "many"] f fd)  (M : Bl mg) : FnOk P w K mg base CX0 (k + 1) f fd ["m", "many"] spRisingP := by
  refine D.F.ok sc_rising (fun vs H Q E h => ?_) (fun cdv A outer s H vs Q E hr h => ?_)
  · obtain ⟨d, n, L, m, many, rfl, _⟩ := h
    rfl
  obtain ⟨d, n, L, m, many, rfl, hm, hk, kn, g⟩ := h
  refine ⟨_, (pss_one (ps_ret (pe_listComb rfl (by rfl) M.list (by rfl) MC (by rfl) M.range (pv 0) (pv 1)))), ?_⟩
  refine kRet ?_
  exact kLstComb (kVar rfl ⟨m, rfl, by omega, kVar rfl ⟨many, rfl, by omega, kCombP kn hm hk g⟩⟩)
theorem ok_standsP {P : Program} {w : World} {K : PySem.W.Frag} {mg : Str → Option Value} {base : Heap} {k : Nat} (MC : mg "combinations" = some (.type "itertools.combinations")) {f a_rising : Addr} {fd fd_rising : FuncData} (D : Df K mg "stands" s_stands ["m", "t"] f fd) (D_rising : Df K mg "rising" s_rising ["m", "many"] a_rising fd_rising) (M : Bl mg) : FnOk P w K mg base CX0 (k + 1 + 1) f fd ["m", "t"] spStandsP := by
  have G_rising := ok_risingP (P := P) (w := w) (base := base) (k := k) MC D_rising M
  refine D.F.ok sc_stands (fun vs H Q E h => ?_) (fun cdv A outer s H vs Q E hr h => ?_)
  · obtain ⟨d, n, L, m, many, rfl, _⟩ := h
    rfl
  obtain ⟨d, n, L, m, t, rfl, hm, hk, kn, g⟩ := h
  refine ⟨_, (pss_one (ps_ret (pe_call G_rising (hr.mono (by omega)) (by rfl) D_rising.g D_rising.F.kp D_rising.b .nil pass0 (pa_cons (pv 0) (pa_cons (pe_op op_add (pv 1) pe_int) pa_nil))))), ?_⟩
  walk_at "go"
  exact ⟨d, n, L, m, t + 1, rfl, hm, by omega, kn, g⟩
theorem dcT_list {K : PySem.W.Frag} {a : Addr} {xs : List V} {g : TG} {tt : L2.TT} {tk tv : TE} {vs : List Nat} {σ : L2.St} {HA : Hp} {D : Addr} {Qd : Hp → Prop} (Pv : Nat → Hp → Prop) (h0 : Pv 0 (upd HA D (.dT []))) (hl : ∀ i HB, i ≤ xs.length → Pv i HB → SqL K HB a xs)
    (hs : ∀ i x HB, xs[i]? = some x → Pv i HB → g x (wipe σ vs) HB fun σC HD => wipe σC vs = wipe σ vs ∧ tt σC HD fun b HE => if b = true then tk σC HE fun y HF => tv σC HF fun z HG => ∃ kvs k q, y = .ref q ∧ HG D = some (.dT kvs) ∧ HG q = some (.tup (k.map kV)) ∧ kvs.length < sizeLine ∧ Pv (i + 1) (upd HG D (.dT (putK kvs k z))) else Pv (i + 1) HE)
    (hd : ∀ HB, Pv xs.length HB → Qd HB) : ∃ W : Nat → Nat → Hp → Prop, (∃ m, W 0 m (upd HA D (.dT []))) ∧ ∀ i m HB, W i m HB →
  ((Itl K a).stop i HB ∧ Qd HB) ∨ ((Itl K a).go i HB ∧ ∃ Nx : Hp → Prop, (∀ HC, Nx HC → ∃ m', m' < m ∧ W (i + 1) m' HC) ∧ ∀ x HC, (Itl K a).yld i HB x HC → g x (wipe σ vs) HC fun σC HD => wipe σC vs = wipe σ vs ∧ tt σC HD fun b HE =>
    if b = true then tk σC HE fun y HF => tv σC HF fun z HG => ∃ kvs k q, y = .ref q ∧ HG D = some (.dT kvs) ∧ HG q = some (.tup (k.map kV)) ∧ kvs.length < sizeLine ∧ Nx (upd HG D (.dT (putK kvs k z))) else Nx HE) := by
  refine ⟨fun i m HB => m + i = xs.length ∧ Pv i HB, ⟨xs.length, rfl, h0⟩, fun i m HB hW => ?_⟩
  obtain ⟨hm, hp⟩ := hW
  have hq := hl i HB (by omega) hp
  by_cases hlt : i < xs.length
  · refine .inr ⟨⟨xs, xs[i], hq, List.getElem?_eq_getElem hlt⟩, Pv (i + 1), fun HC hC => ⟨m - 1, by omega, by omega, hC⟩, fun x HC y => ?_⟩
    obtain ⟨rfl, hx⟩ := y
    exact hs i x _ (hx xs hq) hp
  · have : i = xs.length := by omega
    subst this
    exact .inl ⟨⟨xs, hq, Nat.le_refl _⟩, hd HB hp⟩
theorem tabO_snoc {rows : List (List Int)} {vs : List V} {r : List Int} {v : V} (h : rows.length = vs.length) : tabO (rows ++ [r]) (vs ++ [v]) = tabO rows vs ++ [(keyR r, v)] := by
  unfold tabO
  rw [List.map_append, List.zip_append (by rw [List.length_map]; exact h)]
  rfl
theorem kDcE {d : Addr} {n : Nat} {m k : Nat} {H : Hp} {K : PySem.W.Frag} {σ : L2.St} {Q : VK} {te0 : TE} {j : Nat} {vs : List Nat} {L : Led} (src : ∀ R : VK, (∀ p as pre H1, RowsAt pre as (Csi m k) → Kn d n ((p, .lst (as.map V.ref)) :: (pre ++ L)) H1 → R (.ref p) H1) → te0 σ H R)
    (hz : (Csi m k).length ≤ 3000) (hj : ∀ x : V, ((wipe σ vs).set j (some x))[j]? = some (some x)) (hw : ∀ x, wipe ((wipe σ vs).set j (some x)) vs = wipe σ vs)
    (q : ∀ D bs pre H', bs.length = (Csi m k).length → Kn d n ((D, .dT (tabO (Csi m k) (bs.map V.ref))) :: (zipLed bs ((Csi m k).map fun _ => []) ++ (pre ++ L))) H' → Q (.ref D) H') :
    tDcT (iList K te0) (gName j) tYes (tVar j) (tLst tNil) vs σ H Q := by
  refine src _ fun p as pre H1 hr kn => ?_
  have hrl := hr.len
  refine ⟨p, rfl, ⟨as.map V.ref, kn.seqL List.mem_cons_self⟩, fun D hD => dcT_list (xs := as.map V.ref) (fun i HB => ∃ bs : List Addr, bs.length = i ∧ Kn d n ((D, .dT (tabO ((Csi m k).take i) (bs.map V.ref))) :: (zipLed bs (List.replicate i []) ++ ((p, .lst (as.map V.ref)) :: (pre ++ L)))) HB) ⟨[], rfl, kn.new hD⟩ (fun i HB _ hP => ?_) (fun i x HB hx hP => ?_) fun HB hP => ?_⟩
  · obtain ⟨bs, _, k'⟩ := hP
    exact k'.seqL (List.mem_cons_of_mem _ (List.mem_append_right _ List.mem_cons_self))
  · obtain ⟨bs, hbl, k'⟩ := hP
    obtain ⟨a, ha, rfl⟩ : ∃ a, as[i]? = some a ∧ x = V.ref a := by
      rw [List.getElem?_map] at hx
      cases e : as[i]? with
      | none => rw [e] at hx; cases hx
      | some a => rw [e] at hx; exact ⟨a, rfl, (Option.some.inj hx).symm⟩
    have hi : i < as.length := (List.getElem?_eq_some_iff.mp ha).1
    obtain ⟨r, hr2⟩ : ∃ r, (Csi m k)[i]? = some r := ⟨(Csi m k)[i]'(by omega), List.getElem?_eq_getElem _⟩
    have ma := hr.at_ i a r ha hr2
    refine ⟨hw _, kYes (iteT ?_)⟩
    refine kVar (hj _) (kLst (kNil (kNewL (by decide) k' fun b HC kc => ?_)))
    have ht := tab_none (vs := bs.map V.ref) (take_not (Csi_nodup m k) hr2)
    have hl2 : ((Csi m k).take i).length = (bs.map V.ref).length := by rw [List.length_take, List.length_map]; omega
    refine ⟨_, keyR r, a, rfl, kc.at 1 rfl, by rw [keyR_kV]; exact kc.mem (List.mem_cons_of_mem _ (List.mem_cons_of_mem _ (List.mem_append_right _ (List.mem_cons_of_mem _ (List.mem_append_left _ ma))))), szL' ?_, bs ++ [b], by rw [List.length_append, hbl]; rfl, ?_⟩
    · unfold tabO
      rw [List.length_zip, List.length_map, List.length_take]
      omega
    · rw [putK_new _ ht, ← tabO_snoc hl2, List.replicate_succ', zipLed_app _ _ _ _ (by rw [List.length_replicate]; exact hbl)]
      have e1 : (Csi m k).take (i + 1) = (Csi m k).take i ++ [r] := by rw [List.take_add_one, hr2]; rfl
      have e2 : (bs ++ [b]).map V.ref = bs.map V.ref ++ [V.ref b] := by rw [List.map_append]; rfl
      rw [e1, e2, List.append_assoc]
      refine (kc.put 1 rfl).perm ?_
      show List.Perm ((b, HO.lst []) :: (D, _) :: (zipLed bs (List.replicate i []) ++ _)) ((D, _) :: (zipLed bs (List.replicate i []) ++ ((b, HO.lst []) :: _)))
      exact (List.Perm.swap _ _ _).trans (List.Perm.cons _ List.perm_middle.symm)
  · obtain ⟨bs, hbl, k'⟩ := hP
    rw [List.length_map] at hbl
    rw [List.length_map, hrl, List.take_length] at k'
    have e : List.replicate (Csi m k).length ([] : List Int) = (Csi m k).map fun _ => [] := by
      rw [List.map_const']
    rw [e] at k'
    exact q D bs ((p, .lst (as.map V.ref)) :: pre) HB (by omega) k'

/-! ### an entry taken out of the ledger -/
theorem sub_after {q : Addr × HO} : ∀ {s t l : Led}, q ∉ s → (q :: l).Sublist (s ++ q :: t) → l.Sublist t
  | [], t, l, _, h => List.cons_sublist_cons.mp h
  | y :: s, t, l, hn, h => by
    rw [List.cons_append] at h
    cases h with
    | cons _ h => exact sub_after (fun z => hn (List.mem_cons_of_mem _ z)) h
    | cons_cons _ h => exact absurd List.mem_cons_self hn
theorem Kn.keys {d : Addr} {n : Nat} {L : Led} {H : Hp} (k : Kn d n L H) : (L.map (·.1)).Nodup := by
  obtain ⟨s, a, c, r, ns, l, e1, e2⟩ := k
  exact (List.nodup_cons.mp (List.nodup_cons.mp l.nd).2).2
theorem Kn.pullS {d : Addr} {n : Nat} {A L l : Led} {H : Hp} {q : Addr × HO} (k : Kn d n (A ++ L) H) (h : (q :: l).Sublist L) : ∃ L', Kn d n (A ++ q :: L') H ∧ l.Sublist L' ∧ ∀ y ∈ L, y = q ∨ y ∈ L' := by
  obtain ⟨s, t, rfl⟩ := List.append_of_mem (h.subset List.mem_cons_self)
  have nd : (((s ++ q :: t)).map (·.1)).Nodup := k.keys.sublist ((List.sublist_append_right A _).map _)
  have hn : q ∉ s := fun z => by
    rw [List.map_append, List.map_cons, List.nodup_append] at nd
    exact nd.2.2 _ (List.mem_map.mpr ⟨q, z, rfl⟩) _ List.mem_cons_self rfl
  refine ⟨s ++ t, k.perm (List.Perm.append_left A List.perm_middle), (sub_after hn h).trans (List.sublist_append_right _ _), fun y hy => ?_⟩
  rcases List.mem_append.mp hy with hy | hy
  · exact .inr (List.mem_append_left _ hy)
  · rcases List.mem_cons.mp hy with hy | hy
    · exact .inl hy
    · exact .inr (List.mem_append_right _ hy)

theorem walk_valsT {d : Addr} {o : Obj} {kvs : List (List Key × V)} : Walk (ItdT d o kvs) kvs.length (fun H => H d = some (.frz o (.dT kvs))) (fun i H x HN => HN = H ∧ ∃ k, kvs[i]? = some (k, x)) :=
  ⟨fun _ _ hi q => ⟨q, hi⟩, fun _ q => ⟨q, Nat.le_refl _⟩, fun _ _ _ _ _ _ y => y⟩
/-- a comprehension over a dict's values, the dict locked meanwhile -/
theorem kLcV {d : Addr} {n : Nat} {L : Led} {H : Hp} {σ : L2.St} {Q : VK} {dz : Addr} {kvs : List (List Key × V)} {te : TE} {tt : L2.TT} {i0 j : Nat} {vs : List Nat} (k : Kn d n ((dz, .dT kvs) :: L) H) (h0 : σ[i0]? = some (some (.ref dz))) (hz : kvs.length ≤ 100000) (S : Nat → List V → Led → Prop) (s0 : S 0 [] L) (sl : ∀ i l L2, S i l L2 → l.length ≤ i)
    (hw : ∀ x, wipe ((wipe σ vs).set j (some x)) vs = wipe σ vs)
    (turn : ∀ i x H' D acc L2 kk, kvs[i]? = some (kk, x) → S i acc L2 → ∀ u, Kn d n ((D, .lst acc) :: (dz, u) :: L2) H' → ∀ (N1 : VK) (N2 : Hp → Prop), (∀ y H4 L3, S (i + 1) (acc ++ [y]) L3 → Kn d n ((D, .lst acc) :: (dz, u) :: L3) H4 → N1 y H4) → (∀ H3 L3, S (i + 1) acc L3 → Kn d n ((D, .lst acc) :: (dz, u) :: L3) H3 → N2 H3) →
      tt ((wipe σ vs).set j (some x)) H' fun b H3 => if b = true then te ((wipe σ vs).set j (some x)) H3 N1 else N2 H3)
    (q : ∀ D acc L2 H', S kvs.length acc L2 → Kn d n ((D, .lst acc) :: (dz, .dT kvs) :: L2) H' → Q (.ref D) H') : tLockE (tLc (iValsT (tVar i0)) (gName j) tt te vs) σ H Q := by
  refine ⟨dz, .dT kvs, k.at 0 rfl, trivial, fun od => ?_⟩
  have k1 : Kn d n ((dz, .frz od (.dT kvs)) :: L) (upd H dz (.frz od (.dT kvs))) := k.put 0 rfl
  refine ⟨.ref dz, h0, dz, od, kvs, rfl, k1.at 0 rfl, fun D hD => lc_it walk_valsT (fun i HB => ∃ acc L2, S i acc L2 ∧ Kn d n ((D, .lst acc) :: (dz, .frz od (.dT kvs)) :: L2) HB) ⟨[], L, s0, k1.new hD⟩ (fun i HB _ hP => ?_) (fun i x HB HC hi hP y => ?_) fun HB hP => ?_⟩
  · obtain ⟨acc, L2, _, k'⟩ := hP
    exact k'.at 1 rfl
  · obtain ⟨acc, L2, hS, k'⟩ := hP
    obtain ⟨rfl, kk, hkk⟩ := y
    have hl := sl _ _ _ hS
    exact ⟨hw x, turn i x _ D acc L2 kk hkk hS _ k' (fun y H4 => ∃ acc0, H4 D = some (.lst acc0) ∧ acc0.length < sizeLine ∧ ∃ acc L2, S (i + 1) acc L2 ∧ Kn d n ((D, .lst acc) :: (dz, .frz od (.dT kvs)) :: L2) (upd H4 D (.lst (acc0 ++ [y])))) (fun H3 => ∃ acc L2, S (i + 1) acc L2 ∧ Kn d n ((D, .lst acc) :: (dz, .frz od (.dT kvs)) :: L2) H3)
      (fun y H4 L3 hS3 k4 => ⟨acc, k4.at 0 rfl, szL' (by omega), _, L3, hS3, k4.put 0 rfl⟩) (fun H3 L3 hS3 k3 => ⟨_, L3, hS3, k3⟩)⟩
  · obtain ⟨acc, L2, hS, k'⟩ := hP
    exact ⟨k'.at 1 rfl, q D acc L2 _ hS (k'.put 1 rfl)⟩
theorem map_set {rows : List (List Int)} {f f' : List Int → List Int} {j : Nat} {s : List Int} (nd : rows.Nodup) (hj : rows[j]? = some s) (hf : ∀ x ∈ rows, x ≠ s → f' x = f x) : (rows.map f).set j (f' s) = rows.map f' := by
  apply List.ext_getElem?
  intro i
  rw [List.getElem?_set, List.length_map, List.getElem?_map, List.getElem?_map]
  by_cases e : j = i
  · subst e
    rw [if_pos rfl, if_pos (List.getElem?_eq_some_iff.mp hj).1, hj]
    rfl
  · rw [if_neg e]
    cases h : rows[i]? with
    | none => rfl
    | some x =>
      have hne : x ≠ s := fun z => e ((List.getElem?_inj (List.getElem?_eq_some_iff.mp hj).1 nd).mp (hj.trans (by rw [h, z])))
      show some (f x) = some (f' x)
      rw [hf x (List.mem_of_getElem? h) hne]
abbrev s_sets_behind : Stmt := topS 9
theorem sc_sets_behind : FnScope ["m", "t", "table", "found", "longer", "hue", "stand", "behind"] ["m", "t", "table"] (defScope s_sets_behind) := ⟨rfl, rfl, rfl, by decide +kernel, rfl, by decide +kernel, by decide +kernel⟩
def spSetsBehind : Sp := fun vs H Q _ => ∃ (d : Addr) (n : Nat) (L : Led) (m t : Nat) (p : Addr) (hs : List Int), vs = [.int (m : Int), .int ((t + 1 : Nat) : Int), .ref p] ∧ m ≤ 16 ∧ t ≤ 1 ∧ (p, .lst (hs.map V.int)) ∈ L ∧ hs.length = (Csi m (t + 2)).length ∧ Kn d n L H ∧
  ∀ (l : Addr) (as : List Addr) (L2 : Led) H', RowsAt L2 as (LS m t hs) → L.Sublist L2 → Kn d n ((l, .lst (as.map V.ref)) :: L2) H' → Q (.ref l) H'
theorem ok_sets_behind {P : Program} {w : World} {K : PySem.W.Frag} {mg : Str → Option Value} {base : Heap} {k : Nat} (MC : mg "combinations" = some (.type "itertools.combinations")) {f a_rising a_stands : Addr} {fd fd_rising fd_stands : FuncData} (D : Df K mg "sets_behind" s_sets_behind ["m", "t", "table"] f fd) (D_rising : Df K mg "rising" s_rising ["m", "many"] a_rising fd_rising) (D_stands : Df K mg "stands" s_stands ["m", "t"] a_stands fd_stands) (M : Bl mg) : FnOk P w K mg base CX0 (k + 1 + 1 + 1) f fd ["m", "t", "table"] spSetsBehind := by
  have G_stands := ok_standsP (P := P) (w := w) (base := base) (k := 0) MC D_stands D_rising M
  refine D.F.ok sc_sets_behind (fun vs H Q E h => ?_) (fun cdv A outer s H vs Q E hr h => ?_)
  · obtain ⟨d, n, L, m, t, p, hs, rfl, _⟩ := h
    rfl
  obtain ⟨d, n, L, m, t, p, hs, rfl, hm, ht, hp, hhl, kn, g⟩ := h
  refine ⟨_, (pss_cons (ps_setDcT (i := 3) (own := [("stand", 6)]) (g := gName 6) hr.units rfl sc_sets_behind.nd rfl rfl (swD rfl rfl rfl (by decide +kernel)) (pi_list (pe_call G_stands (hr.mono (by omega)) (by rfl) D_stands.g D_stands.F.kp D_stands.b .nil pass0 (pa_cons (pv 0) (pa_cons (pe_op op_sub (pv 1) pe_int) pa_nil)))) (blkOk_by (own := [("stand", 6)]) (N := ["m", "t", "table", "found", "longer", "hue", "stand", "behind"]) (sc := defScope s_sets_behind) (by decide +kernel)) (fun _ _ _ _ _ => (pg_name (i := 6) sc_sets_behind.nd rfl (Or.inl rfl))) (fun _ _ _ _ _ => pts_nil) (fun _ _ _ _ _ => (pv 6)) (fun _ _ _ _ _ => (pe_lst pa_nil)))
   (pss_cons (ps_for PassesOwn.never rfl (pi_zip (by rfl) M.zip (pa_cons (pe_call G_stands (hr.mono (by omega)) (by rfl) D_stands.g D_stands.F.kp D_stands.b .nil pass0 (pa_cons (pv 0) (pa_cons (pv 1) pa_nil))) (pa_cons (pv 2) pa_nil))) (pg_tup rfl (pgs_cons (pg_name (i := 4) sc_sets_behind.nd rfl (Or.inl rfl)) (pgs_cons (pg_name (i := 5) sc_sets_behind.nd rfl (Or.inl rfl)) pgs_nil)))
    (pss_one (ps_expr (pe_bm PySem.F.plainAttrs_list PySem.F.slot_list_append PySem.F.type_list_append mt_append (pe_dget (unit1 hr.units) (pv 3) (pe_slice sl_tupA (pv 4) po_none (po_some (pe_un un_neg pe_int))) (fun _ _ => rfl)) (pa_cons (pv 5) pa_nil)))))
   (pss_one (ps_ret (pe_lock (pe_lc (own := [("behind", 7)]) (g := gName 7) (by rfl) sc_sets_behind.nd (pi_valuesT (pv 3)) (blkOk_by (own := [("behind", 7)]) (N := ["m", "t", "table", "found", "longer", "hue", "stand", "behind"]) (sc := defScope s_sets_behind) (by decide +kernel)) (fun _ _ _ _ _ => (pg_name (i := 7) sc_sets_behind.nd rfl (Or.inl rfl))) (fun _ _ _ _ _ => pts_nil) (fun _ _ _ _ _ => (pe_callTy (tupleQ (K := K) rfl) (by rfl) M.tuple (by decide +kernel) (pa_cons (pe_callB (sortedSetQ (w := w) rfl rfl) (by rfl) M.sorted (by decide +kernel) (pa_cons (pe_callTy (setIQ (K := K) (w := w) rfl rfl rfl) (by rfl) M.set (by decide +kernel) (pa_cons (pv 7) pa_nil)) pa_nil)) pa_nil))))))))), ?_⟩
  have hz1 : (Csi m (t + 1)).length ≤ 600 := by rw [Csi_length]; exact Cs_short3 m (by omega) (t + 1) (by omega)
  have hz2 : (Csi m (t + 2)).length ≤ 600 := by rw [Csi_length]; exact Cs_short3 m (by omega) (t + 2) (by omega)
  refine kSeqA (kAsg ?_)
  refine kDcE (d := d) (n := n) (m := m) (k := t + 1) (L := L) (fun R hR => ?_) (by omega) (fun _ => rfl) (fun _ => rfl) fun D bs pre H1 hbl kn1 => ?_
  · walk_at "go"
    have e : ((t + 1 : Nat) : Int) - 1 = (t : Int) := by omega
    rw [e]
    exact ⟨d, n, L, m, t, rfl, hm, by omega, kn, fun l as pre H' hr2 k' => hR l as pre H' hr2 k'⟩
  walk_at "go"
  refine kSeq (kForZ (K := K) (fun a1 b1 ys zs H' => b1 = p ∧ zs = hs.map V.int ∧ ∃ (as2 : List Addr) (pre2 : Led), ys = as2.map V.ref ∧ RowsAt pre2 as2 (Csi m (t + 2)) ∧ Kn d n ((D, .dT (tabO (Csi m (t + 1)) (bs.map V.ref))) :: (zipLed bs ((Csi m (t + 1)).map fun _ => []) ++ ((a1, .lst (as2.map V.ref)) :: (pre2 ++ (pre ++ L))))) H') (fun R hR => ?_) (fun a1 b1 ys zs H6 hG => ?_))
  · walk_at "go"
    refine ⟨d, n, _, m, t + 1, rfl, hm, by omega, kn1, fun l as2 pre2 H' hr2 k' => ?_⟩
    walk_at "go"
    refine hR _ _ _ _ _ ⟨rfl, rfl, as2, pre2, rfl, hr2, k'.perm ?_⟩
    have e := List.perm_append_comm_assoc ((l, HO.lst (as2.map V.ref)) :: pre2) ((D, HO.dT (tabO (Csi m (t + 1)) (bs.map V.ref))) :: zipLed bs ((Csi m (t + 1)).map fun _ => [])) (pre ++ L)
    simpa only [List.cons_append, List.append_assoc] using e
  obtain ⟨rfl, rfl, as2, pre2, rfl, hr2, kn2⟩ := hG
  have hl2 := hr2.len
  have hpT : (b1, HO.lst (hs.map V.int)) ∈ (a1, HO.lst (as2.map V.ref)) :: (pre2 ++ (pre ++ L)) := List.mem_cons_of_mem _ (List.mem_append_right _ (List.mem_append_right _ hp))
  have hin : ∀ {c : List (List Int)} {x}, x ∈ (a1, HO.lst (as2.map V.ref)) :: (pre2 ++ (pre ++ L)) → x ∈ (D, HO.dT (tabO (Csi m (t + 1)) (bs.map V.ref))) :: (zipLed bs c ++ ((a1, HO.lst (as2.map V.ref)) :: (pre2 ++ (pre ++ L)))) := fun h => List.mem_cons_of_mem _ (List.mem_append_right _ h)
  have emin : min (as2.map V.ref).length (hs.map V.int).length = (Csi m (t + 2)).length := by rw [List.length_map, List.length_map, hl2, hhl, Nat.min_self]
  refine ⟨kn2.seqL (hin List.mem_cons_self), kn2.seqL (hin hpT), fun i σ' H' => ∃ (x4 x5 x6 x7 : Option V), σ' = [some (.int (m : Int)), some (.int ((t + 1 : Nat) : Int)), some (.ref b1), some (.ref D), x4, x5, x6, x7] ∧ Kn d n ((D, .dT (tabO (Csi m (t + 1)) (bs.map V.ref))) :: (zipLed bs ((Csi m (t + 1)).map (behindL ((Csi m (t + 2)).take i) (hs.take i))) ++ ((a1, .lst (as2.map V.ref)) :: (pre2 ++ (pre ++ L))))) H',
    ⟨_, _, _, _, rfl, kn2⟩, fun i σ' H' hW => ?_, fun i x y σ' H' T hx hy hW hT => ?_, fun σ' H' hW => ?_⟩
  · obtain ⟨_, _, _, _, _, k'⟩ := hW
    exact ⟨k'.seqL (hin List.mem_cons_self), k'.seqL (hin hpT)⟩
  · obtain ⟨x4, x5, x6, x7, rfl, kn3⟩ := hW
    have kn4 := (kn3.new (o := .tup [x, y]) hT).tail
    obtain ⟨a2, ha, rfl⟩ : ∃ a, as2[i]? = some a ∧ x = V.ref a := by
      rw [List.getElem?_map] at hx
      cases e : as2[i]? with
      | none => rw [e] at hx; cases hx
      | some a => rw [e] at hx; exact ⟨a, rfl, (Option.some.inj hx).symm⟩
    obtain ⟨h, hh, rfl⟩ : ∃ z, hs[i]? = some z ∧ y = V.int z := by
      rw [List.getElem?_map] at hy
      cases e : hs[i]? with
      | none => rw [e] at hy; cases hy
      | some a => rw [e] at hy; exact ⟨a, rfl, (Option.some.inj hy).symm⟩
    have hi : i < as2.length := (List.getElem?_eq_some_iff.mp ha).1
    obtain ⟨r, hr⟩ : ∃ r, (Csi m (t + 2))[i]? = some r := ⟨(Csi m (t + 2))[i]'(by omega), List.getElem?_eq_getElem _⟩
    have hrm := List.mem_of_getElem? hr
    have hrl := (mem_Csi.mp hrm).1
    have ma := hr2.at_ i a2 r ha hr
    obtain ⟨j, hj⟩ := List.getElem?_of_mem (init_Csi hrm)
    have hjl := (List.getElem?_eq_some_iff.mp hj).1
    have hb : bs[j]? = some (bs[j]'(by omega)) := List.getElem?_eq_getElem (by omega)
    generalize bs[j]'(by omega) = bj at hb
    have hv : valV (tabO (Csi m (t + 1)) (bs.map V.ref)) (keyR r.dropLast) = some (.ref bj) := tabV_at (Csi_nodup m (t + 1)) hj (by rw [List.getElem?_map, hb]; rfl)
    have hrow : ((Csi m (t + 1)).map (behindL ((Csi m (t + 2)).take i) (hs.take i)))[j]? = some (behindL ((Csi m (t + 2)).take i) (hs.take i) r.dropLast) := by rw [List.getElem?_map, hj]; rfl
    have hcl : (behindL ((Csi m (t + 2)).take i) (hs.take i) r.dropLast).length ≤ 600 := by
      unfold behindL
      rw [List.length_map]
      refine Nat.le_trans (List.length_filter_le _ _) ?_
      rw [List.length_zip, List.length_take]
      omega
    walk_at "go"
    refine kDGetT (kVar rfl ?_)
    walk_at "go"
    refine kSlN kn4 (hin (List.mem_cons_of_mem _ (List.mem_append_left _ ma))) (by rw [cutInit _ (by rw [List.length_map]; omega), List.length_dropLast, List.length_map]; omega) fun b2 H8 kn8 => ?_
    rw [cutInit _ (by rw [List.length_map]; omega), ← List.map_dropLast] at kn8
    refine ⟨D, _, rfl, dgetRow kn8 (List.mem_cons_of_mem _ List.mem_cons_self) List.mem_cons_self hv, ?_⟩
    have hix : ((b2, HO.tup (r.dropLast.map V.int)) :: (D, HO.dT (tabO (Csi m (t + 1)) (bs.map V.ref))) :: (zipLed bs ((Csi m (t + 1)).map (behindL ((Csi m (t + 2)).take i) (hs.take i))) ++ ((a1, HO.lst (as2.map V.ref)) :: (pre2 ++ (pre ++ L)))))[j + 2]? = some (bj, HO.lst ((behindL ((Csi m (t + 2)).take i) (hs.take i) r.dropLast).map V.int)) := by
      rw [List.getElem?_cons_succ, List.getElem?_cons_succ]
      have hz := zipLed_get hb hrow
      rw [List.getElem?_append_left (List.getElem?_eq_some_iff.mp hz).1]
      exact hz
    refine kTyL (kn8.at _ hix) ?_
    walk_at "go"
    refine kAppK kn8 _ hix (by rw [List.length_map]; omega) fun H9 kn9 => ⟨_, _, _, _, rfl, ?_⟩
    have e1 : behindL ((Csi m (t + 2)).take (i + 1)) (hs.take (i + 1)) r.dropLast = behindL ((Csi m (t + 2)).take i) (hs.take i) r.dropLast ++ [h] := by rw [behind_succ hr hh, if_pos rfl]
    have e2 : (behindL ((Csi m (t + 2)).take i) (hs.take i) r.dropLast).map V.int ++ [V.int h] = (behindL ((Csi m (t + 2)).take (i + 1)) (hs.take (i + 1)) r.dropLast).map V.int := by rw [e1, List.map_append]; rfl
    have e3 := map_set (f := behindL ((Csi m (t + 2)).take i) (hs.take i)) (f' := behindL ((Csi m (t + 2)).take (i + 1)) (hs.take (i + 1))) (Csi_nodup m (t + 1)) hj fun x _ hne => by rw [behind_succ hr hh, if_neg (fun e => hne e.symm), List.append_nil]
    rw [e2, List.set_cons_succ, List.set_cons_succ, List.set_append_left _ _ (List.getElem?_eq_some_iff.mp (zipLed_get hb hrow)).1, zipLed_set hb (by rw [List.length_map]; exact hbl), e3] at kn9
    exact kn9.tail
  · obtain ⟨x4, x5, x6, x7, rfl, kn3⟩ := hW
    rw [emin, List.take_length, List.take_of_length_le (by omega)] at kn3
    walk_at "go"
    generalize hB : (zipLed bs ((Csi m (t + 1)).map (behindL (Csi m (t + 2)) hs)) ++ ((a1, HO.lst (as2.map V.ref)) :: (pre2 ++ (pre ++ L)))) = B at kn3
    have hLB : L.Sublist B := by
      rw [← hB]
      exact (((List.sublist_append_right pre L).trans (List.sublist_append_right pre2 _)).trans (List.sublist_cons_self _ _)).trans (List.sublist_append_right _ _)
    have hkl : (tabO (Csi m (t + 1)) (bs.map V.ref)).length = (Csi m (t + 1)).length := by
      unfold tabO
      rw [List.length_zip, List.length_map, List.length_map]
      omega
    refine kLcV kn3 rfl (by omega) (fun i acc L2 => ∃ as3 : List Addr, acc = as3.map V.ref ∧ RowsAt L2 as3 ((LS m t hs).take i) ∧ B.Sublist L2) ⟨[], rfl, ⟨rfl, fun _ _ _ e => nomatch e⟩, List.Sublist.refl _⟩ (fun i l L2 h => ?_) (fun _ => rfl) (fun i x H7 D2 acc L2 kk hx hS u kn4 N1 N2 g1 _ => ?_) fun D2 acc L2 H7 hS kn4 => ?_
    · obtain ⟨as3, rfl, hr3, _⟩ := h
      rw [List.length_map, hr3.len, List.length_take]
      omega
    · obtain ⟨as3, rfl, hr3, hs3⟩ := hS
      obtain ⟨hx1, hx2⟩ := List.getElem?_zip_eq_some.mp hx
      obtain ⟨bi, hbi, rfl⟩ : ∃ a, bs[i]? = some a ∧ x = V.ref a := by
        rw [List.getElem?_map] at hx2
        cases e : bs[i]? with
        | none => rw [e] at hx2; cases hx2
        | some a => rw [e] at hx2; exact ⟨a, rfl, (Option.some.inj hx2).symm⟩
      have hi : i < bs.length := (List.getElem?_eq_some_iff.mp hbi).1
      obtain ⟨s, hs1⟩ : ∃ r, (Csi m (t + 1))[i]? = some r := ⟨(Csi m (t + 1))[i]'(by omega), List.getElem?_eq_getElem _⟩
      have hmem : (bi, HO.lst ((behindL (Csi m (t + 2)) hs s).map V.int)) ∈ L2 := hs3.subset (by
        rw [← hB]
        exact List.mem_append_left _ (List.mem_of_getElem? (zipLed_get hbi (by rw [List.getElem?_map, hs1]; rfl))))
      have hfew : (behindL (Csi m (t + 2)) hs s).length ≤ m := behind_few (k := t + 1)
      have hsl := sortU_len (behindL (Csi m (t + 2)) hs s)
      refine kYes (iteT ?_)
      walk_at "go"
      refine kSetI (u := sortU (behindL (Csi m (t + 2)) hs s)) kn4 (kn4.seqL (List.mem_cons_of_mem _ (List.mem_cons_of_mem _ hmem))) (sortU_nodup _) (fun k => mem_sortU) (by omega) fun S H8 kn5 => ?_
      walk_at "go"
      refine kSortSet kn5 List.mem_cons_self (by omega) fun ys r H9 hy1 hy2 _ kn6 => ?_
      have eys : ys = setB m t hs s := one_sorted hy1 (sortU_pair _) fun k => by
        rw [hy2, decide_eq_true_eq]
        exact mem_sortU.symm
      subst eys
      walk_at "go"
      rename_i c H10 kn7
      refine g1 (.ref c) H10 ((c, .tup ((setB m t hs s).map V.int)) :: L2) ⟨as3 ++ [c], by rw [List.map_append]; rfl, ?_, hs3.cons _⟩ ?_
      · have e : (LS m t hs).take (i + 1) = (LS m t hs).take i ++ [setB m t hs s] := by
          rw [List.take_add_one]
          unfold LS
          rw [List.getElem?_map, hs1]
          rfl
        rw [e]
        exact hr3.one
      · have k8 := kn7.sub (L' := (c, HO.tup ((setB m t hs s).map V.int)) :: (D2, HO.lst (as3.map V.ref)) :: (D, u) :: L2) ((((List.Sublist.refl _).cons _).cons _).cons₂ _)
        exact k8.perm ((List.Perm.swap _ _ _).trans (List.Perm.cons _ (List.Perm.swap _ _ _)))
    · obtain ⟨as3, rfl, hr3, hs3⟩ := hS
      rw [hkl, ← LS_length (hs := hs), List.take_length] at hr3
      exact g D2 as3 L2 _ hr3 (hLB.trans hs3) (kn4.sub ((List.sublist_cons_self _ _).cons₂ _))
/-! ### lowered -/
theorem Kn.know {d : Addr} {n : Nat} {L : Led} {H : Hp} {b : Addr} {xs : List V} (k : Kn d n L H) (h : H b = some (.tup xs)) : ∃ L', L.Sublist L' ∧ (b, .tup xs) ∈ L' ∧ Kn d n L' H := by
  obtain ⟨s, a, c, r, ns, l, e1, e2⟩ := k
  by_cases hb : b ∈ L.map (·.1)
  · obtain ⟨⟨b', o⟩, hq, rfl⟩ := List.mem_map.mp hb
    have := l.led _ (List.mem_cons_of_mem _ (List.mem_cons_of_mem _ hq))
    rw [h] at this
    cases this
    exact ⟨L, List.Sublist.refl _, hq, s, a, c, r, ns, l, e1, e2⟩
  · have h1 : b ≠ d := fun e => by
      have := l.led _ List.mem_cons_self
      rw [← e, h] at this
      cases this
    have h2 : b ≠ s := fun e => by
      have := l.led _ (List.mem_cons_of_mem _ List.mem_cons_self)
      rw [← e, h] at this
      cases this
    refine ⟨(b, .tup xs) :: L, List.sublist_cons_self _ _, List.mem_cons_self, s, a, c, r, ns, ⟨fun q hq => ?_, ?_⟩, e1, e2⟩
    · rcases List.mem_cons.mp hq with rfl | hq
      · exact l.led _ List.mem_cons_self
      · rcases List.mem_cons.mp hq with rfl | hq
        · exact l.led _ (List.mem_cons_of_mem _ List.mem_cons_self)
        · rcases List.mem_cons.mp hq with rfl | hq
          · exact h
          · exact l.led _ (List.mem_cons_of_mem _ (List.mem_cons_of_mem _ hq))
    · obtain ⟨n1, n2⟩ := List.nodup_cons.mp l.nd
      obtain ⟨n3, n4⟩ := List.nodup_cons.mp n2
      refine List.nodup_cons.mpr ⟨fun z => ?_, List.nodup_cons.mpr ⟨fun z => ?_, List.nodup_cons.mpr ⟨hb, n4⟩⟩⟩
      · rcases List.mem_cons.mp z with e | z
        · exact n1 (by rw [e]; exact List.mem_cons_self)
        · rcases List.mem_cons.mp z with e | z
          · exact h1 e.symm
          · exact n1 (List.mem_cons_of_mem _ z)
      · rcases List.mem_cons.mp z with e | z
        · exact h2 e.symm
        · exact n3 z
theorem Kn.knowAll {d : Addr} {n : Nat} {H : Hp} : ∀ (bs : List Addr) (rows : List (List Int)) (L : Led), Kn d n L H → bs.length = rows.length → (∀ (i : Nat) b r, bs[i]? = some b → rows[i]? = some r → H b = some (.tup (r.map V.int))) → ∃ L', L.Sublist L' ∧ RowsAt L' bs rows ∧ Kn d n L' H
  | [], [], L, k, _, _ => ⟨L, List.Sublist.refl _, ⟨rfl, fun i a r e => by simp at e⟩, k⟩
  | b :: bs, r :: rows, L, k, hl, h => by
    obtain ⟨L1, s1, m1, k1⟩ := k.know (h 0 b r rfl rfl)
    obtain ⟨L2, s2, r2, k2⟩ := Kn.knowAll bs rows L1 k1 (by simpa using hl) fun i b' r' e1 e2 => h (i + 1) b' r' e1 e2
    refine ⟨L2, s1.trans s2, ⟨hl, fun i a x e1 e2 => ?_⟩, k2⟩
    cases i with
    | zero => cases e1; cases e2; exact s2.subset m1
    | succ i => exact r2.at_ i a x (by simpa using e1) (by simpa using e2)
theorem kDSetd {σ : L2.St} {H : Hp} {Q : VK} {td ty tx : TE} (h : td σ H fun x HA => ∃ a, x = .ref a ∧ IsD HA a ∧ ty σ HA fun y HB => tx σ HB fun z HC => ∃ kvs k b, HC a = some (.dT kvs) ∧ y = .ref b ∧ HC b = some (.tup (k.map kV)) ∧ kvs.length < sizeLine ∧
  (∀ v, valV kvs k = some v → Q v HC) ∧ (valV kvs k = none → Q z (upd HC a (.dT (putK kvs k z))))) : tDSetdT td ty tx σ H Q := h
abbrev s_lowered : Stmt := topS 10
theorem sc_lowered : FnScope ["m", "t", "table", "told", "numbers", "behind"] ["m", "t", "table"] (defScope s_lowered) := ⟨rfl, rfl, rfl, by decide +kernel, rfl, by decide +kernel, by decide +kernel⟩
def spLowered : Sp := fun vs H Q _ => ∃ (d : Addr) (n : Nat) (L : Led) (m t : Nat) (p : Addr) (hs : List Int), vs = [.int (m : Int), .int ((t + 1 : Nat) : Int), .ref p] ∧ m ≤ 16 ∧ t ≤ 1 ∧ (p, .lst (hs.map V.int)) ∈ L ∧ hs.length = (Csi m (t + 2)).length ∧ Kn d n L H ∧
  ∀ (r tl sl : Addr) (as : List Addr) (L2 : Led) H', RowsAt L2 as (uq (LS m t hs)) → L.Sublist L2 → Kn d n ((r, .tup [.ref tl, .ref sl]) :: (tl, .lst ((lowT m t hs).map V.int)) :: (sl, .lst (as.map V.ref)) :: L2) H' → Q (.ref r) H'
theorem ok_lowered {P : Program} {w : World} {K : PySem.W.Frag} {mg : Str → Option Value} {base : Heap} {k : Nat} (MC : mg "combinations" = some (.type "itertools.combinations")) {f a_rising a_stands a_sets_behind : Addr} {fd fd_rising fd_stands fd_sets_behind : FuncData} (D : Df K mg "lowered" s_lowered ["m", "t", "table"] f fd) (D_rising : Df K mg "rising" s_rising ["m", "many"] a_rising fd_rising) (D_stands : Df K mg "stands" s_stands ["m", "t"] a_stands fd_stands) (D_sets_behind : Df K mg "sets_behind" s_sets_behind ["m", "t", "table"] a_sets_behind fd_sets_behind) (M : Bl mg) : FnOk P w K mg base CX0 (k + 1 + 1 + 1 + 1) f fd ["m", "t", "table"] spLowered := by
  have G_sets_behind := ok_sets_behind (P := P) (w := w) (base := base) (k := 0) MC D_sets_behind D_rising D_stands M
  refine D.F.ok sc_lowered (fun vs H Q E h => ?_) (fun cdv A outer s H vs Q E hr h => ?_)
  · obtain ⟨d, n, L, m, t, p, hs, rfl, _⟩ := h
    rfl
  obtain ⟨d, n, L, m, t, p, hs, rfl, hm, ht, hp, hhl, kn, g⟩ := h
  refine ⟨_, (pss_cons (ps_set (i := 3) sc_lowered.nd rfl (Or.inl rfl) (pe_lst pa_nil))
   (pss_cons (ps_set (i := 4) sc_lowered.nd rfl (Or.inl rfl) pe_dnewT)
   (pss_cons (ps_for PassesOwn.never rfl (pi_list (pe_call G_sets_behind (hr.mono (by omega)) (by rfl) D_sets_behind.g D_sets_behind.F.kp D_sets_behind.b .nil pass0 (pa_cons (pv 0) (pa_cons (pv 1) (pa_cons (pv 2) pa_nil))))) (pg_name (i := 5) sc_lowered.nd rfl (Or.inl rfl))
    (pss_one (ps_expr (pe_bm PySem.F.plainAttrs_list PySem.F.slot_list_append PySem.F.type_list_append mt_append (pv 3) (pa_cons (pe_dsetdT hr.units (pv 4) (pv 5) (pe_callB call_len_dT (by rfl) M.len PySem.boot_len (pa_cons (pv 4) pa_nil)) ⟨rfl, rfl, rfl, rfl⟩) pa_nil)))))
   (pss_one (ps_ret (pe_tup (pa_cons (pv 3) (pa_cons (pe_callTy (call_list_dT rfl) (by rfl) M.list (by decide +kernel) (pa_cons (pv 4) pa_nil)) pa_nil)))))))), ?_⟩
  have hz1 : (LS m t hs).length ≤ 600 := by rw [LS_length, Csi_length]; exact Cs_short3 m (by omega) (t + 1) (by omega)
  walk_at "go"
  rename_i tl H1 kn1
  refine fun dz hdz => ?_
  have kn2 := kn1.new (o := .dT []) hdz
  clear kn1
  walk_at "go"
  have hsub0 : L.Sublist ((dz, HO.dT []) :: (tl, HO.lst []) :: L) := ((List.Sublist.refl L).cons _).cons _
  refine kSeq (kForMade (K := K) (fun q ys H' => ∃ (as : List Addr) (L2 : Led), ys = as.map V.ref ∧ RowsAt L2 as (LS m t hs) ∧ ((dz, HO.dT []) :: (tl, HO.lst []) :: L).Sublist L2 ∧ Kn d n ((q, .lst (as.map V.ref)) :: L2) H') (fun R hR => ?_) (fun q ys H6 hG => ?_))
  · walk_at "go"
    exact ⟨d, n, _, m, t, p, hs, rfl, hm, ht, hsub0.subset hp, hhl, kn2, fun l as L2 H' h1 h2 h3 => hR _ _ _ ⟨as, L2, rfl, h1, h2, h3⟩⟩
  obtain ⟨as, L2, rfl, hr2, hs2, kn3⟩ := hG
  obtain ⟨L4, kn4, hs4, hL4⟩ := Kn.pullS (A := []) kn3 (hs2.cons (q, HO.lst (as.map V.ref)))
  obtain ⟨L5, kn5, hs5, hL5⟩ := Kn.pullS (A := [(dz, HO.dT [])]) kn4 hs4
  have hmove : ∀ y ∈ (q, HO.lst (as.map V.ref)) :: L2, y ≠ (dz, HO.dT []) → y ≠ (tl, HO.lst []) → y ∈ L5 := fun y hy h1 h2 => (hL5 y ((hL4 y hy).resolve_left h1)).resolve_left h2
  have hr5 : RowsAt L5 as (LS m t hs) := ⟨hr2.len, fun i a r e1 e2 => hmove _ (List.mem_cons_of_mem _ (hr2.at_ i a r e1 e2)) (fun e => by cases e) fun e => by cases e⟩
  have mq5 : (q, HO.lst (as.map V.ref)) ∈ L5 := hmove _ List.mem_cons_self (fun e => by cases e) fun e => by
    have hkeys := kn3.keys
    have : tl ∈ L2.map (·.1) := List.mem_map.mpr ⟨_, hs2.subset (List.mem_cons_of_mem _ List.mem_cons_self), rfl⟩
    exact (List.nodup_cons.mp hkeys).1 (by rw [show q = tl from congrArg Prod.fst e]; exact this)
  have hlen := hr5.len
  have hnum0 : tabO (uq ((LS m t hs).take 0)) (numV (uq ((LS m t hs).take 0)).length) = [] := rfl
  refine ⟨kn3.seqL List.mem_cons_self, fun i σ' H' => ∃ x5 : Option V, σ' = [some (.int (m : Int)), some (.int ((t + 1 : Nat) : Int)), some (.ref p), some (.ref tl), some (.ref dz), x5] ∧ Kn d n ((dz, .dT (tabO (uq ((LS m t hs).take i)) (numV (uq ((LS m t hs).take i)).length))) :: (tl, .lst ((((LS m t hs).take i).map fun x => (ixR x (uq (LS m t hs)) : Int)).map V.int)) :: L5) H',
    ⟨_, rfl, kn5⟩, fun i σ' H' hW => ?_, fun i x σ' H' hx hW => ?_, fun σ' H' hW => ?_⟩
  · obtain ⟨_, _, k'⟩ := hW
    exact k'.seqL (List.mem_cons_of_mem _ (List.mem_cons_of_mem _ mq5))
  · obtain ⟨x5, rfl, kn6⟩ := hW
    obtain ⟨a, ha, rfl⟩ : ∃ a, as[i]? = some a ∧ x = V.ref a := by
      rw [List.getElem?_map] at hx
      cases e : as[i]? with
      | none => rw [e] at hx; cases hx
      | some a => rw [e] at hx; exact ⟨a, rfl, (Option.some.inj hx).symm⟩
    have hi : i < as.length := (List.getElem?_eq_some_iff.mp ha).1
    obtain ⟨r, hr⟩ : ∃ r, (LS m t hs)[i]? = some r := ⟨(LS m t hs)[i]'(by omega), List.getElem?_eq_getElem _⟩
    have ma := hr5.at_ i a r ha hr
    have etake : (LS m t hs).take (i + 1) = (LS m t hs).take i ++ [r] := by rw [List.take_add_one, hr]; rfl
    have hul := uq_len ((LS m t hs).take i)
    have htl : ((LS m t hs).take i).length ≤ 600 := by rw [List.length_take]; omega
    have euq : uq ((LS m t hs).take (i + 1)) = putU (uq ((LS m t hs).take i)) r := by rw [etake, uq_snoc]
    obtain ⟨v, hv⟩ := uq_take (LS m t hs) (i + 1)
    have etold : ((((LS m t hs).take (i + 1)).map fun x => (ixR x (uq (LS m t hs)) : Int)).map V.int) = ((((LS m t hs).take i).map fun x => (ixR x (uq (LS m t hs)) : Int)).map V.int) ++ [V.int (ixR r (uq (LS m t hs)) : Int)] := by
      rw [etake, List.map_append, List.map_append]
      rfl
    walk_at "go"
    refine kDSetd (kVar rfl ⟨dz, rfl, .inr ⟨_, .inl (kn6.at 0 rfl)⟩, kVar rfl ?_⟩)
    walk_at "go"
    refine ⟨dz, _, rfl, kn6.at 0 rfl, ?_⟩
    refine ⟨_, keyR r, a, kn6.at 0 rfl, rfl, by rw [keyR_kV]; exact kn6.mem (List.mem_cons_of_mem _ (List.mem_cons_of_mem _ ma)), szL' (by rw [num_len]; omega), fun v' hv' => ?_, fun hn => ?_⟩
    · by_cases hin : r ∈ uq ((LS m t hs).take i)
      · rw [num_some (uq_nodup _) hin] at hv'
        cases hv'
        have eu : uq ((LS m t hs).take (i + 1)) = uq ((LS m t hs).take i) := by rw [euq, putU, if_pos hin]
        have eix : ixR r (uq (LS m t hs)) = ixR r (uq ((LS m t hs).take i)) := by rw [hv, eu, ixR_app hin]
        walk_at "go"
        rename_i H8 kn8
        refine ⟨_, rfl, ?_⟩
        rw [eu, etold, eix]
        exact kn8
      · rw [tab_none hin] at hv'
        cases hv'
    · by_cases hin : r ∈ uq ((LS m t hs).take i)
      · rw [num_some (uq_nodup _) hin] at hn
        cases hn
      · have eu : uq ((LS m t hs).take (i + 1)) = uq ((LS m t hs).take i) ++ [r] := by rw [euq, putU, if_neg hin]
        have eix : ixR r (uq (LS m t hs)) = (uq ((LS m t hs).take i)).length := by rw [hv, eu, ixR_app (List.mem_append_right _ List.mem_cons_self), ixR_new hin]
        rw [putK_new _ hn, num_len]
        rw [← num_snoc, ← eu]
        have kn7 := kn6.put (u := HO.dT (tabO (uq ((LS m t hs).take (i + 1))) (numV (uq ((LS m t hs).take (i + 1))).length))) 0 rfl
        walk_at "go"
        rename_i H8 kn8
        refine ⟨_, rfl, ?_⟩
        rw [etold, eix]
        exact kn8
  · obtain ⟨x5, rfl, kn6⟩ := hW
    rw [List.length_map, hlen, List.take_length] at kn6
    walk_at "go"
    refine ⟨dz, _, rfl, .inl (kn6.at 0 rfl), fun sl bs hsl hk => ?_⟩
    have hkl : bs.length = (uq (LS m t hs)).length := by
      have := Paired.length hk
      rw [num_len] at this
      exact this.symm
    obtain ⟨L6, hs6, hr6, kn7⟩ := Kn.knowAll bs (uq (LS m t hs)) _ kn6 hkl fun i b r e1 e2 => by
      have hkv : (tabO (uq (LS m t hs)) (numV (uq (LS m t hs)).length))[i]? = some (keyR r, V.int (i : Int)) := by
        unfold tabO numV
        rw [List.getElem?_zip_eq_some, List.getElem?_map, e2, List.getElem?_map, List.getElem?_range (List.getElem?_eq_some_iff.mp e2).1]
        exact ⟨rfl, rfl⟩
      obtain ⟨b', hb', hb''⟩ := paired_get hk hkv
      rw [e1] at hb'
      cases hb'
      rw [keyR_kV] at hb''
      exact hb''
    obtain ⟨L7, kn8, hs7, hL7⟩ := Kn.pullS (A := []) kn7 ((List.sublist_cons_self _ _).trans hs6)
    have hr7 : RowsAt L7 bs (uq (LS m t hs)) := ⟨hr6.len, fun i a r e1 e2 => (hL7 _ (hr6.at_ i a r e1 e2)).resolve_left fun e => by cases e⟩
    have kn9 := kn8.new (o := .lst (bs.map V.ref)) hsl
    walk_at "go"
    rename_i r H10 kn10
    refine g r tl sl bs L7 _ hr7 (hs5.trans hs7) ?_
    exact kn10.perm (List.Perm.cons _ (List.Perm.swap _ _ _))

/-! ### most_names -/
def mostN (c : Nat) : Nat → Nat
  | 0 => c
  | t + 1 => 2 ^ mostN c t
theorem mostN_small : ∀ c < 6, ∀ t < 2, mostN c t < 60 := by decide +kernel
abbrev s_most_names : Stmt := topS 11
theorem sc_most_names : FnScope ["c", "t", "told", "_"] ["c", "t"] (defScope s_most_names) := ⟨rfl, rfl, rfl, by decide +kernel, rfl, by decide +kernel, by decide +kernel⟩
def spMost : Sp := fun vs H Q _ => ∃ c t : Nat, vs = [.int (c : Int), .int (t : Int)] ∧ c ≤ 5 ∧ t ≤ 2 ∧ Q (.int (mostN c t : Int)) H
theorem ok_most_names {P : Program} {w : World} {K : PySem.W.Frag} {mg : Str → Option Value} {base : Heap} {k : Nat} {f : Addr} {fd : FuncData} (D : Df K mg "most_names" s_most_names ["c", "t"] f fd)  (M : Bl mg) : FnOk P w K mg base CX0 (k + 1) f fd ["c", "t"] spMost := by
  refine D.F.ok sc_most_names (fun vs H Q E h => ?_) (fun cdv A outer s H vs Q E hr h => ?_)
  · obtain ⟨c, t, rfl, _⟩ := h
    rfl
  obtain ⟨c, t, rfl, hc, ht, q⟩ := h
  refine ⟨_, (pss_cons (ps_set (i := 2) sc_most_names.nd rfl (Or.inl rfl) (pv 0))
   (pss_cons (ps_for PassesOwn.never rfl (pi_range1 (by rfl) M.range (pa_cons (pv 1) pa_nil)) (pg_name (i := 3) sc_most_names.nd rfl (Or.inl rfl))
    (pss_one (ps_set (i := 2) sc_most_names.nd rfl (Or.inl rfl) (pe_op op_shl pe_int (pv 2)))))
   (pss_one (ps_ret (pv 2))))), ?_⟩
  walk_at "go"
  refine kSeq (kRng1 (n := (t : Int)) (by omega) (fun i σ' H' => ∃ x3 : Option V, σ' = [some (.int (c : Int)), some (.int (t : Int)), some (.int (mostN c i : Int)), x3] ∧ H' = H) ⟨_, rfl, rfl⟩ (fun i σ' H' hi hW => ?_) (fun σ' H' hW => ?_) fun R hR => by walk_at "go"; exact hR)
  · obtain ⟨x3, rfl, rfl⟩ := hW
    have hs := mostN_small c (by omega) i (by omega)
    walk_at "go"
    have e : ((1 : Int) * 2 ^ (((mostN c i : Nat) : Int)).toNat) = ((mostN c (i + 1) : Nat) : Int) := by
      rw [Int.toNat_natCast, Int.one_mul]
      show _ = ((2 ^ mostN c i : Nat) : Int)
      norm_cast
    rw [e]
    exact ⟨_, rfl, rfl⟩
  · obtain ⟨x3, rfl, rfl⟩ := hW
    walk_at "go"
    exact q

/-! ### why the lowered table is right -/
theorem nodup_len : ∀ {l l' : List (List Int)}, l.Nodup → (∀ x ∈ l, x ∈ l') → l.length ≤ l'.length
  | [], _, _, _ => Nat.zero_le _
  | x :: l, l', hd, h => by
    obtain ⟨h1, h2⟩ := List.nodup_cons.mp hd
    have h3 := nodup_len (l' := l'.erase x) h2 fun y hy => (List.mem_erase_of_ne (fun e => h1 (by rw [← e]; exact hy))).mpr (h y (List.mem_cons_of_mem _ hy))
    have hx := h x List.mem_cons_self
    rw [List.length_erase_of_mem hx] at h3
    have := List.length_pos_of_mem hx
    rw [List.length_cons]
    omega
theorem nodup_lenI : ∀ {l l' : List Int}, l.Nodup → (∀ x ∈ l, x ∈ l') → l.length ≤ l'.length
  | [], _, _, _ => Nat.zero_le _
  | x :: l, l', hd, h => by
    obtain ⟨h1, h2⟩ := List.nodup_cons.mp hd
    have h3 := nodup_lenI (l' := l'.erase x) h2 fun y hy => (List.mem_erase_of_ne (fun e => h1 (by rw [← e]; exact hy))).mpr (h y (List.mem_cons_of_mem _ hy))
    have hx := h x List.mem_cons_self
    rw [List.length_erase_of_mem hx] at h3
    have := List.length_pos_of_mem hx
    rw [List.length_cons]
    omega
def subsL : List Int → List (List Int)
  | [] => [[]]
  | x :: xs => subsL xs ++ (subsL xs).map (x :: ·)
theorem subs_len : ∀ l, (subsL l).length = 2 ^ l.length
  | [] => rfl
  | x :: xs => by
    rw [subsL, List.length_append, List.length_map, subs_len xs, List.length_cons, Nat.pow_succ]
    omega
theorem mem_subs : ∀ {u x : List Int}, u.Pairwise (· < ·) → x.Pairwise (· < ·) → (∀ k ∈ x, k ∈ u) → x ∈ subsL u
  | [], [], _, _, _ => List.mem_cons_self
  | [], y :: x, _, _, h => by have := h y List.mem_cons_self; cases this
  | z :: u, [], hu, hx, _ => List.mem_append_left _ (mem_subs (List.pairwise_cons.mp hu).2 hx fun k hk => by cases hk)
  | z :: u, y :: x, hu, hx, h => by
    obtain ⟨u1, u2⟩ := List.pairwise_cons.mp hu
    obtain ⟨x1, x2⟩ := List.pairwise_cons.mp hx
    rcases List.mem_cons.mp (h y List.mem_cons_self) with e | hy
    · subst e
      refine List.mem_append_right _ (List.mem_map.mpr ⟨x, mem_subs u2 x2 fun k hk => ?_, rfl⟩)
      have := x1 k hk
      rcases List.mem_cons.mp (h k (List.mem_cons_of_mem _ hk)) with e | h2
      · omega
      · exact h2
    · have hz := u1 y hy
      refine List.mem_append_left _ (mem_subs u2 hx fun k hk => ?_)
      rcases List.mem_cons.mp hk with rfl | hk2
      · exact hy
      · have := x1 k hk2
        rcases List.mem_cons.mp (h k hk) with e | h2
        · omega
        · exact h2
theorem hAt_mapL {m t : Nat} {f : List Int → Int} {r : List Int} (h : r ∈ Csi m (t + 1)) : hAt m t ((Csi m (t + 1)).map f) r = f r := by
  obtain ⟨i, hi⟩ := List.getElem?_of_mem h
  unfold hAt
  rw [hueL_at (h := f r) (Csi_nodup m (t + 1)) hi (by rw [List.getElem?_map, hi]; rfl)]
  rfl
theorem mem_setB {m t : Nat} {hs s : List Int} {k : Int} (hl : hs.length = (Csi m (t + 2)).length) : k ∈ setB m t hs s ↔ ∃ r ∈ Csi m (t + 2), r.dropLast = s ∧ hAt m (t + 1) hs r = k := by
  unfold setB
  rw [mem_sortU, mem_behind (t := t + 1) hl]
theorem lowT_at {m t : Nat} {hs s : List Int} (h : s ∈ Csi m (t + 1)) : hAt m t (lowT m t hs) s = (ixR (setB m t hs s) (uq (LS m t hs)) : Int) := by
  have e : lowT m t hs = (Csi m (t + 1)).map fun s => (ixR (setB m t hs s) (uq (LS m t hs)) : Int) := by
    unfold lowT
    conv => lhs; arg 2; rw [LS]
    rw [List.map_map]
    rfl
  rw [e, hAt_mapL h]
theorem ixR_inj {u : List (List Int)} {x y : List Int} (hx : x ∈ u) (hy : y ∈ u) (e : ixR x u = ixR y u) : x = y := by
  have h1 := ixR_get hx
  have h2 := ixR_get hy
  rw [e, h2] at h1
  exact (Option.some.inj h1).symm
theorem setB_mem {m t : Nat} {hs s : List Int} (h : s ∈ Csi m (t + 1)) : setB m t hs s ∈ uq (LS m t hs) := mem_uq.mpr (List.mem_map.mpr ⟨s, h, rfl⟩)
theorem lowT_tab {m t : Nat} {hs : List Int} (H : IsTab m (t + 1) hs) : IsTab m t (lowT m t hs) := by
  refine ⟨by unfold lowT; rw [List.length_map, LS_length], fun x hx => ?_, fun r hr e => ?_⟩
  · obtain ⟨y, _, rfl⟩ := List.mem_map.mp hx
    omega
  · rw [lowT_at (init_Csi hr), lowT_at (tail_Csi hr)] at e
    have es := ixR_inj (setB_mem (hs := hs) (init_Csi hr)) (setB_mem (hs := hs) (tail_Csi hr)) (by omega)
    have hin : hAt m (t + 1) hs r ∈ setB m t hs r.dropLast := (mem_setB H.len).mpr ⟨r, hr, rfl, rfl⟩
    rw [es] at hin
    obtain ⟨r', hr', hd, hh⟩ := (mem_setB H.len).mp hin
    obtain ⟨l1, p1, b1⟩ := mem_Csi.mp hr
    obtain ⟨l2, p2, b2⟩ := mem_Csi.mp hr'
    cases r with
    | nil => cases l1
    | cons a r2 =>
      rw [List.tail_cons] at hd
      have hne : r' ≠ [] := fun e => by rw [e] at l2; cases l2
      have er : r2 ++ [r'.getLast hne] = r' := by rw [← hd]; exact List.dropLast_concat_getLast hne
      obtain ⟨q1, q2⟩ := List.pairwise_cons.mp p1
      have hlast : a < r'.getLast hne := by
        cases r2 with
        | nil => simp at l1
        | cons z r3 =>
          have h1 := q1 z List.mem_cons_self
          rw [← er] at p2
          have h2 := (List.pairwise_append.mp p2).2.2 z List.mem_cons_self _ List.mem_cons_self
          omega
      have hR : a :: r' ∈ Csi m (t + 3) := mem_Csi.mpr ⟨by rw [List.length_cons, l2], List.pairwise_cons.mpr ⟨fun y hy => by
        rw [← er] at hy
        rcases List.mem_append.mp hy with hy | hy
        · exact q1 y hy
        · rw [List.mem_singleton.mp hy]
          exact hlast, p2⟩, fun y hy => by
        rcases List.mem_cons.mp hy with rfl | hy
        · exact b1 _ List.mem_cons_self
        · exact b2 y hy⟩
      refine H.far _ hR ?_
      have ed : (a :: r').dropLast = a :: r2 := by
        rw [List.dropLast_cons_of_ne_nil hne, hd]
      rw [ed, List.tail_cons]
      exact hh.symm
theorem Csi_one : ∀ m < 17, Csi m 1 = (List.range m).map fun (i : Nat) => [(i : Int)] := by decide +kernel
theorem tab0_nodup {m : Nat} {hs : List Int} (hm : m ≤ 16) (H : IsTab m 0 hs) : hs.length = m ∧ hs.Nodup := by
  have e1 := Csi_one m (by omega)
  have hl : hs.length = m := by
    rw [H.len, e1, List.length_map, List.length_range]
  have at_ : ∀ (i : Nat) (hi : i < hs.length), hAt m 0 hs [(i : Int)] = hs[i] := fun i hi => by
    unfold hAt
    rw [hueL_at (h := hs[i]) (i := i) (Csi_nodup m 1) (by rw [e1, List.getElem?_map, List.getElem?_range (by omega)]; rfl) (List.getElem?_eq_getElem hi)]
    rfl
  refine ⟨hl, List.pairwise_iff_getElem.mpr fun i j hi hj hij e => ?_⟩
  refine H.far [(i : Int), (j : Int)] (mem_Csi.mpr ⟨rfl, ?_, ?_⟩) ?_
  · refine List.pairwise_cons.mpr ⟨fun y hy => ?_, List.pairwise_singleton _ _⟩
    rw [List.mem_singleton.mp hy]
    omega
  · intro y hy
    rcases List.mem_cons.mp hy with rfl | hy
    · omega
    · rw [List.mem_singleton.mp hy]
      omega
  · show hAt m 0 hs [(i : Int)] = hAt m 0 hs [(j : Int)]
    rw [at_ i hi, at_ j hj, e]
theorem sortU_len_eq {l : List Int} (h : l.Nodup) : (sortU l).length = l.length := Nat.le_antisymm (sortU_len l) (nodup_lenI h fun x hx => mem_sortU.mpr hx)
theorem dist_low {m t : Nat} {hs : List Int} : (sortU (lowT m t hs)).length = (uq (LS m t hs)).length := by
  have e : sortU (lowT m t hs) = (List.range (uq (LS m t hs)).length).map fun (i : Nat) => (i : Int) := by
    refine one_sorted (sortU_pair _) ?_ fun k => ?_
    · exact List.pairwise_map.mpr (List.pairwise_lt_range.imp fun h => by omega)
    · rw [mem_sortU]
      constructor
      · intro hk
        obtain ⟨x, hx, rfl⟩ := List.mem_map.mp hk
        exact List.mem_map.mpr ⟨_, List.mem_range.mpr (ixR_lt (mem_uq.mpr hx)), rfl⟩
      · intro hk
        obtain ⟨i, hi, rfl⟩ := List.mem_map.mp hk
        have hi := List.mem_range.mp hi
        have hx : (uq (LS m t hs))[i] ∈ uq (LS m t hs) := List.getElem_mem hi
        refine List.mem_map.mpr ⟨_, mem_uq.mp hx, ?_⟩
        have := (List.getElem?_inj hi (uq_nodup _)).mp ((List.getElem?_eq_getElem hi).trans (ixR_get hx).symm)
        omega
  rw [e, List.length_map, List.length_range]
theorem uq_few {m t : Nat} {hs : List Int} : (uq (LS m t hs)).length ≤ 2 ^ (sortU hs).length := by
  rw [← subs_len]
  refine nodup_len (uq_nodup _) fun x hx => ?_
  obtain ⟨s, _, rfl⟩ := List.mem_map.mp (mem_uq.mp hx)
  refine mem_subs (sortU_pair _) (sortU_pair _) fun k hk => ?_
  unfold setB at hk
  rw [mem_sortU] at hk ⊢
  unfold behindL at hk
  obtain ⟨⟨r, h⟩, hp, rfl⟩ := List.mem_map.mp hk
  exact (List.of_mem_zip (List.mem_filter.mp hp).1).2
theorem mostN_up : ∀ (t : Nat) {a b : Nat}, a ≤ b → mostN a t ≤ mostN b t
  | 0, _, _, h => h
  | t + 1, _, _, h => Nat.pow_le_pow_right (by omega) (mostN_up t h)
theorem mostN_pow (c : Nat) : ∀ t : Nat, mostN (2 ^ c) t = mostN c (t + 1)
  | 0 => rfl
  | t + 1 => by
    show 2 ^ mostN (2 ^ c) t = 2 ^ mostN c (t + 1)
    rw [mostN_pow c t]
theorem few_names {m : Nat} (hm : m ≤ 16) : ∀ (t : Nat) (hs : List Int), IsTab m t hs → m ≤ mostN (sortU hs).length t
  | 0, hs, H => by
    obtain ⟨h1, h2⟩ := tab0_nodup hm H
    show m ≤ (sortU hs).length
    rw [sortU_len_eq h2, h1]
    omega
  | t + 1, hs, H => by
    have h1 := few_names hm t (lowT m t hs) (lowT_tab H)
    rw [dist_low] at h1
    have h2 := mostN_up t (uq_few (m := m) (t := t) (hs := hs))
    rw [mostN_pow] at h2
    omega
/-! ### _law_power -/
abbrev s_law_power : Stmt := topS 21
theorem sc_law_power : FnScope ["number", "found", "k"] ["number"] (defScope s_law_power) := ⟨rfl, rfl, rfl, by decide +kernel, rfl, by decide +kernel, by decide +kernel⟩
def spPower : Sp := fun vs H Q _ => ∃ n : Nat, vs = [.int (n : Int)] ∧ n ≤ 600 ∧ Q (.int ((2 ^ n : Nat) : Int)) H
theorem ok_law_power {P : Program} {w : World} {K : PySem.W.Frag} {mg : Str → Option Value} {base : Heap} {k : Nat} {f : Addr} {fd : FuncData} (D : Df K mg "_law_power" s_law_power ["number"] f fd)  (M : Bl mg) : FnOk P w K mg base CX0 (k + 1) f fd ["number"] spPower := by
  refine D.F.ok sc_law_power (fun vs H Q E h => ?_) (fun cdv A outer s H vs Q E hr h => ?_)
  · obtain ⟨n, rfl, _⟩ := h
    rfl
  obtain ⟨n, rfl, hn, q⟩ := h
  refine ⟨_, (pss_cons (ps_set (i := 1) sc_law_power.nd rfl (Or.inl rfl) pe_int)
   (pss_cons (ps_for PassesOwn.never rfl (pi_range1 (by rfl) M.range (pa_cons (pv 0) pa_nil)) (pg_name (i := 2) sc_law_power.nd rfl (Or.inl rfl))
    (pss_one (ps_set (i := 1) sc_law_power.nd rfl (Or.inl rfl) (pe_op op_mul pe_int (pv 1)))))
   (pss_one (ps_ret (pv 1))))), ?_⟩
  walk_at "go"
  refine kSeq (kRng1 (n := (n : Int)) (by omega) (fun i σ' H' => ∃ x2 : Option V, σ' = [some (.int (n : Int)), some (.int ((2 ^ i : Nat) : Int)), x2] ∧ H' = H) ⟨_, rfl, rfl⟩ (fun i σ' H' hi hW => ?_) (fun σ' H' hW => ?_) fun R hR => by walk_at "go"; exact hR)
  · obtain ⟨x2, rfl, rfl⟩ := hW
    walk_at "go"
    have e : (2 : Int) * ((2 ^ i : Nat) : Int) = ((2 ^ (i + 1) : Nat) : Int) := by
      rw [Nat.pow_succ]
      omega
    rw [e]
    exact ⟨_, rfl, rfl⟩
  · obtain ⟨x2, rfl, rfl⟩ := hW
    walk_at "go"
    exact q

/-! ### _law_most_right, the law -/
theorem mostN_fit : ∀ c < 6, ∀ t < 2, mostN c t ≤ 600 := by decide +kernel
abbrev s_law_most_right : Stmt := topS 22
theorem sc_law_most_right : FnScope ["c", "due", "t"] ["c"] (defScope s_law_most_right) := ⟨rfl, rfl, rfl, by decide +kernel, rfl, by decide +kernel, by decide +kernel⟩
def spMostR : Sp := fun vs H Q _ => ∃ (d : Addr) (n : Nat) (L : Led) (c : Nat), vs = [.int (c : Int)] ∧ c ≤ 5 ∧ Kn d n L H ∧ ∀ H', Kn d n L H' → Q (.bl true) H'
theorem ok_law_most_right {P : Program} {w : World} {K : PySem.W.Frag} {mg : Str → Option Value} {base : Heap} {k : Nat} {f a_most_names a_law_whole a_law_power : Addr} {fd fd_most_names fd_law_whole fd_law_power : FuncData} (D : Df K mg "_law_most_right" s_law_most_right ["c"] f fd) (D_most_names : Df K mg "most_names" s_most_names ["c", "t"] a_most_names fd_most_names) (D_law_whole : Df K mg "_law_whole" s_law_whole ["thing"] a_law_whole fd_law_whole) (D_law_power : Df K mg "_law_power" s_law_power ["number"] a_law_power fd_law_power) (M : Bl mg) : FnOk P w K mg base CX0 (k + 1 + 1) f fd ["c"] spMostR := by
  have G_most_names := ok_most_names (P := P) (w := w) (base := base) (k := 0) D_most_names M
  have G_law_whole := ok_law_whole (P := P) (w := w) (base := base) (k := 0) D_law_whole M
  have G_law_power := ok_law_power (P := P) (w := w) (base := base) (k := 0) D_law_power M
  refine D.F.ok sc_law_most_right (fun vs H Q E h => ?_) (fun cdv A outer s H vs Q E hr h => ?_)
  · obtain ⟨d, n, L, c, rfl, _⟩ := h
    rfl
  obtain ⟨d, n, L, c, rfl, hc, kn, q⟩ := h
  refine ⟨_, (pss_cons (ps_set (i := 1) sc_law_most_right.nd rfl (Or.inl rfl) (pv 0))
   (pss_cons (ps_for PassesOwn.never rfl (pi_range1 (by rfl) M.range (pa_cons pe_int pa_nil)) (pg_name (i := 2) sc_law_most_right.nd rfl (Or.inl rfl))
    (pss_cons (ps_if (PW.pt (pw_or (pt_not (pt_val (pe_call G_law_whole (hr.mono (by omega)) (by rfl) D_law_whole.g D_law_whole.F.kp D_law_whole.b .nil pass0 (pa_cons (pe_call G_most_names (hr.mono (by omega)) (by rfl) D_most_names.g D_most_names.F.kp D_most_names.b .nil pass0 (pa_cons (pv 0) (pa_cons (pv 2) pa_nil))) pa_nil)))) (pw_or1 (pt_cmpR op_ne (pe_call G_most_names (hr.mono (by omega)) (by rfl) D_most_names.g D_most_names.F.kp D_most_names.b .nil pass0 (pa_cons (pv 0) (pa_cons (pv 2) pa_nil))) (pv 1) (nomark _))))) (pss_one (ps_ret pe_bl)) pss_nil)
    (pss_one (ps_if (pt_cmpR op_lt (pv 2) pe_int (nomark _)) (pss_one (ps_set (i := 1) sc_law_most_right.nd rfl (Or.inl rfl) (pe_call G_law_power (hr.mono (by omega)) (by rfl) D_law_power.g D_law_power.F.kp D_law_power.b .nil pass0 (pa_cons (pv 1) pa_nil)))) pss_nil))))
   (pss_one (ps_ret pe_bl)))), ?_⟩
  walk_at "go"
  refine kSeq (kRng1 (n := 3) (by omega) (fun i σ' H' => ∃ x2 : Option V, σ' = [some (.int (c : Int)), some (.int (mostN c (min i 2) : Int)), x2] ∧ Kn d n L H') ⟨_, rfl, kn⟩ (fun i σ' H' hi hW => ?_) (fun σ' H' hW => ?_) fun R hR => by walk_at "go"; exact hR)
  · obtain ⟨x2, rfl, kn1⟩ := hW
    have e2 : min i 2 = i := by omega
    rw [e2]
    refine kSeq (kIfS ?_)
    walk_at "go"
    refine ⟨c, i, rfl, hc, by omega, ?_⟩
    walk_at "go"
    refine ⟨d, n, L, _, rfl, kn1, .int _, ?_⟩
    refine kBl (iteF ?_)
    walk_at "go"
    refine ⟨c, i, rfl, hc, by omega, ?_⟩
    walk_at "go"
    rw [decide_eq_true rfl]
    refine iteF ?_
    walk_at "go"
    refine iteD (fun h2 => ?_) fun h2 => ?_
    · walk_at "go"
      refine ⟨mostN c i, rfl, mostN_fit c (by omega) i (by omega), ?_⟩
      walk_at "go"
      have e3 : min (i + 1) 2 = i + 1 := by omega
      rw [e3]
      exact ⟨_, rfl, kn1⟩
    · walk_at "go"
      have e3 : min (i + 1) 2 = i := by omega
      rw [e3]
      exact ⟨_, rfl, kn1⟩
  · obtain ⟨x2, rfl, kn1⟩ := hW
    walk_at "go"
    exact q _ kn1
theorem kRngDn {σ : L2.St} {H : Hp} {tr : TA} {tb : TS} {j : Nat} {nx bk ct : L2.St → Hp → Prop} {rt : VK} {lo : Int} (h0 : 0 ≤ lo ∧ lo ≤ 100000) (Pv : Nat → L2.St → Hp → Prop) (hP : Pv 0 σ H)
    (hs : ∀ (i : Nat) σ' H', (i : Int) < lo → Pv i σ' H' → tb (Ends.mk (Pv (i + 1)) rt nx (Pv (i + 1))) (σ'.set j (some (.int (lo - (i : Int))))) H') (hd : ∀ σ' H', Pv lo.toNat σ' H' → nx σ' H')
    (h : ∀ R : List V → Hp → Prop, R [.int lo, .int 0, .int (-1)] H → tr σ H R) : tFor (iRng3 tr) (gName j) tb (Ends.mk nx rt bk ct) σ H := by
  have hg : RgC lo 0 (-1) lo.toNat := by
    have := RgC.neg (i := lo) (j := 0) (by omega) (by omega) (by omega) (by omega)
    rwa [Int.sub_zero] at this
  refine h _ ⟨lo, 0, -1, lo.toNat, rfl, hg, for_rangeC Pv hP (fun i σ' H' hi p => ?_) hd⟩
  have e : lo + (i : Int) * (-1) = lo - (i : Int) := by omega
  show tb _ (σ'.set j (some (.int (lo + (i : Int) * (-1))))) H'
  rw [e]
  exact hs i σ' H' (by omega) p
def spLaw (K : PySem.W.Frag) : Sp := fun vs H Q _ => ∃ (a : Addr) (ns : List Int), vs = [.ref a] ∧ SqL K H a (ns.map V.int) ∧ ns.length ≤ 63 ∧ ∀ H', Q (.bl true) H'
abbrev s_law : Stmt := topS 23
theorem sc_law : FnScope ["script", "tape", "c", "t", "m", "table", "left", "many", "told"] ["script"] (defScope s_law) := ⟨rfl, rfl, rfl, by decide +kernel, rfl, by decide +kernel, by decide +kernel⟩
theorem ok_law {P : Program} {w : World} {K : PySem.W.Frag} {mg : Str → Option Value} {base : Heap} (MC : mg "combinations" = some (.type "itertools.combinations")) {f a_is_whole a_rising a_stands a_is_hue a_is_table a_sets_behind a_lowered a_most_names a_law_draw a_law_whole a_law_stands a_law_is_table a_law_table a_law_scaled a_law_may a_law_power a_law_most_right : Addr} {fd fd_is_whole fd_rising fd_stands fd_is_hue fd_is_table fd_sets_behind fd_lowered fd_most_names fd_law_draw fd_law_whole fd_law_stands fd_law_is_table fd_law_table fd_law_scaled fd_law_may fd_law_power fd_law_most_right : FuncData} (D_is_whole : Df K mg "is_whole" s_is_whole ["thing"] a_is_whole fd_is_whole) (D_rising : Df K mg "rising" s_rising ["m", "many"] a_rising fd_rising) (D_stands : Df K mg "stands" s_stands ["m", "t"] a_stands fd_stands) (D_is_hue : Df K mg "is_hue" s_is_hue ["thing"] a_is_hue fd_is_hue) (D_is_table : Df K mg "is_table" s_is_table ["m", "t", "thing"] a_is_table fd_is_table) (D_sets_behind : Df K mg "sets_behind" s_sets_behind ["m", "t", "table"] a_sets_behind fd_sets_behind) (D_lowered : Df K mg "lowered" s_lowered ["m", "t", "table"] a_lowered fd_lowered) (D_most_names : Df K mg "most_names" s_most_names ["c", "t"] a_most_names fd_most_names) (D_law_draw : Df K mg "_law_draw" s_law_draw ["tape", "upto"] a_law_draw fd_law_draw) (D_law_whole : Df K mg "_law_whole" s_law_whole ["thing"] a_law_whole fd_law_whole) (D_law_stands : Df K mg "_law_stands" s_law_stands ["m", "t"] a_law_stands fd_law_stands) (D_law_is_table : Df K mg "_law_is_table" s_law_is_table ["m", "t", "thing"] a_law_is_table fd_law_is_table) (D_law_table : Df K mg "_law_table" s_law_table ["tape", "m", "t"] a_law_table fd_law_table) (D_law_scaled : Df K mg "_law_scaled" s_law_scaled ["tape", "found"] a_law_scaled fd_law_scaled) (D_law_may : Df K mg "_law_may" s_law_may ["m", "known", "stand", "hue"] a_law_may fd_law_may) (D_law_power : Df K mg "_law_power" s_law_power ["number"] a_law_power fd_law_power) (D_law_most_right : Df K mg "_law_most_right" s_law_most_right ["c"] a_law_most_right fd_law_most_right) (D : Df K mg "law" s_law ["script"] f fd) (M : Bl mg) : FnOk P w K mg base CX0 5 f fd ["script"] (spLaw K) := by
  have G_law_draw := ok_law_draw (P := P) (w := w) (base := base) (k := 0) D_law_draw M
  have G_law_table := ok_law_table (P := P) (w := w) (base := base) (k := 0) D_law_table D_law_draw D_law_stands D_law_may D_law_scaled M
  have G_law_is_table := ok_law_is_table (P := P) (w := w) (base := base) (k := 0) D_law_is_table D_law_whole D_law_stands M
  have G_is_table := ok_is_table (P := P) (w := w) (base := base) (k := 0) MC D_is_table D_is_whole D_is_hue D_rising D_stands M
  have G_law_power := ok_law_power (P := P) (w := w) (base := base) (k := 0) D_law_power M
  have G_most_names := ok_most_names (P := P) (w := w) (base := base) (k := 0) D_most_names M
  have G_law_most_right := ok_law_most_right (P := P) (w := w) (base := base) (k := 0) D_law_most_right D_most_names D_law_whole D_law_power M
  have G_lowered := ok_lowered (P := P) (w := w) (base := base) (k := 0) MC D_lowered D_rising D_stands D_sets_behind M
  refine D.F.ok sc_law (fun vs H Q E h => ?_) (fun cdv A outer s H vs Q E hr h => ?_)
  · obtain ⟨a, ns, rfl, _⟩ := h
    rfl
  obtain ⟨a0, ns, rfl, hS, hns, q⟩ := h
  refine ⟨_, (pss_cons (ps_set (i := 1) sc_law.nd rfl (Or.inl rfl) (pe_lst (pa_cons (pe_callTy c_list (by rfl) M.list (by decide +kernel) (pa_cons (pe_slice sl_list (pv 0) po_none (po_some pe_int)) pa_nil)) (pa_cons pe_int (pa_cons pe_int (pa_cons pe_int pa_nil))))))
   (pss_cons (ps_for PassesOwn.never rfl (pi_range2 (by rfl) M.range (pa_cons pe_int (pa_cons pe_int pa_nil))) (pg_name (i := 2) sc_law.nd rfl (Or.inl rfl))
    (pss_one (ps_if (pt_not (pt_val (pe_call G_law_most_right (hr.mono (by omega)) (by rfl) D_law_most_right.g D_law_most_right.F.kp D_law_most_right.b .nil pass0 (pa_cons (pv 2) pa_nil)))) (pss_one (ps_ret pe_bl)) pss_nil)))
   (pss_cons (ps_set (i := 3) sc_law.nd rfl (Or.inl rfl) (pe_op op_add pe_int (pe_call G_law_draw (hr.mono (by omega)) (by rfl) D_law_draw.g D_law_draw.F.kp D_law_draw.b .nil pass0 (pa_cons (pv 1) (pa_cons pe_int pa_nil)))))
   (pss_cons (ps_set (i := 4) sc_law.nd rfl (Or.inl rfl) (pe_op op_add pe_int (pe_call G_law_draw (hr.mono (by omega)) (by rfl) D_law_draw.g D_law_draw.F.kp D_law_draw.b .nil pass0 (pa_cons (pv 1) (pa_cons (pe_ix ix_list (pe_lst (pa_cons pe_int (pa_cons (pe_ix ix_list (pe_lst (pa_cons pe_int (pa_cons pe_int (pa_cons pe_int (pa_cons pe_int pa_nil))))) (pe_call G_law_draw (hr.mono (by omega)) (by rfl) D_law_draw.g D_law_draw.F.kp D_law_draw.b .nil pass0 (pa_cons (pv 1) (pa_cons pe_int pa_nil))) (fun _ _ => rfl)) pa_nil))) (pe_op op_sub (pv 3) pe_int) (fun _ _ => rfl)) pa_nil)))))
   (pss_cons (ps_set (i := 5) sc_law.nd rfl (Or.inl rfl) (pe_call G_law_table (hr.mono (by omega)) (by rfl) D_law_table.g D_law_table.F.kp D_law_table.b .nil pass0 (pa_cons (pv 1) (pa_cons (pv 4) (pa_cons (pv 3) pa_nil)))))
   (pss_cons (ps_if (pt_not (pt_val (pe_call G_law_is_table (hr.mono (by omega)) (by rfl) D_law_is_table.g D_law_is_table.F.kp D_law_is_table.b .nil pass0 (pa_cons (pv 4) (pa_cons (pv 3) (pa_cons (pv 5) pa_nil)))))) (pss_one (ps_ret pe_bl)) pss_nil)
   (pss_cons (ps_for PassesOwn.never rfl (pi_range3 (by rfl) M.range (pa_cons (pv 3) (pa_cons pe_int (pa_cons (pe_un un_neg pe_int) pa_nil)))) (pg_name (i := 6) sc_law.nd rfl (Or.inl rfl))
    (pss_cons (ps_set (i := 7) sc_law.nd rfl (Or.inl rfl) (pe_callB c_lenSet (by rfl) M.len PySem.boot_len (pa_cons (pe_callTy (cr_setI rfl) (by rfl) M.set (by decide +kernel) (pa_cons (pv 5) pa_nil)) pa_nil)))
    (pss_cons (ps_set (i := 8) sc_law.nd rfl (Or.inl rfl) (pe_call G_lowered (hr.mono (by omega)) (by rfl) D_lowered.g D_lowered.F.kp D_lowered.b .nil pass0 (pa_cons (pv 4) (pa_cons (pv 6) (pa_cons (pv 5) pa_nil)))))
    (pss_cons (ps_if (pt_not (pt_val (pe_call G_law_is_table (hr.mono (by omega)) (by rfl) D_law_is_table.g D_law_is_table.F.kp D_law_is_table.b .nil pass0 (pa_cons (pv 4) (pa_cons (pe_op op_sub (pv 6) pe_int) (pa_cons (pe_ix ix_tup (pv 8) pe_int (fun _ _ => rfl)) pa_nil)))))) (pss_one (ps_ret pe_bl)) pss_nil)
    (pss_cons (ps_if (pt_cmpR op_notBl (pe_call G_is_table (hr.mono (by omega)) (by rfl) D_is_table.g D_is_table.F.kp D_is_table.b .nil pass0 (pa_cons (pv 4) (pa_cons (pe_op op_sub (pv 6) pe_int) (pa_cons (pe_ix ix_tup (pv 8) pe_int (fun _ _ => rfl)) pa_nil)))) pe_bl (nomark _)) (pss_one (ps_ret pe_bl)) pss_nil)
    (pss_cons (ps_if (PW.pt (pw_or (pt_cmpR op_ne (pe_callB c_lenSet (by rfl) M.len PySem.boot_len (pa_cons (pe_callTy (cr_setI rfl) (by rfl) M.set (by decide +kernel) (pa_cons (pe_ix ix_tup (pv 8) pe_int (fun _ _ => rfl)) pa_nil)) pa_nil)) (pe_callB c_len (by rfl) M.len PySem.boot_len (pa_cons (pe_ix ix_tup (pv 8) pe_int (fun _ _ => rfl)) pa_nil)) (nomark _)) (pw_or1 (pt_cmpR op_gt (pe_callB c_len (by rfl) M.len PySem.boot_len (pa_cons (pe_ix ix_tup (pv 8) pe_int (fun _ _ => rfl)) pa_nil)) (pe_call G_law_power (hr.mono (by omega)) (by rfl) D_law_power.g D_law_power.F.kp D_law_power.b .nil pass0 (pa_cons (pv 7) pa_nil)) (nomark _))))) (pss_one (ps_ret pe_bl)) pss_nil)
    (pss_cons (ps_if (PW.pt (pw_and (pt_chain op_lt op_lt pe_int (pv 7) pe_int) (pw_and1 (pt_cmpR op_gt (pv 4) (pe_call G_most_names (hr.mono (by omega)) (by rfl) D_most_names.g D_most_names.F.kp D_most_names.b .nil pass0 (pa_cons (pv 7) (pa_cons (pv 6) pa_nil))) (nomark _))))) (pss_one (ps_ret pe_bl)) pss_nil)
    (pss_one (ps_set (i := 5) sc_law.nd rfl (Or.inl rfl) (pe_ix ix_tup (pv 8) pe_int (fun _ _ => rfl)))))))))))
   (pss_one (ps_ret (pe_cmpR op_eq (pe_callB c_lenSet (by rfl) M.len PySem.boot_len (pa_cons (pe_callTy (cr_setI rfl) (by rfl) M.set (by decide +kernel) (pa_cons (pv 5) pa_nil)) pa_nil)) (pv 4) (nomark _))))))))))), ?_⟩
  refine kStart hS rfl fun d H1 kn => ?_
  refine kSeq (kRng2 (lo := 1) (n := 6) (by omega) (fun i σ' H' => ∃ (x2 x3 x4 x5 x6 x7 x8 : Option V), σ' = [some (.ref a0), some (.ref d), x2, x3, x4, x5, x6, x7, x8] ∧ Kn d 0 [] H') ⟨_, _, _, _, _, _, _, rfl, kn⟩ (fun i σ' H' hi hW => ?_) (fun σ' H' hW => ?_) fun R hR => by walk_at "go"; exact hR)
  · obtain ⟨x2, x3, x4, x5, x6, x7, x8, rfl, kn1⟩ := hW
    obtain ⟨c, hc⟩ : ∃ c : Nat, 1 + (i : Int) = (c : Int) := ⟨1 + i, by omega⟩
    refine kIfS ?_
    walk_at "go"
    rw [hc]
    refine ⟨d, 0, [], c, rfl, by omega, kn1, fun H2 kn2 => ?_⟩
    refine kBl (iteF ?_)
    walk_at "go"
    exact ⟨_, _, _, _, _, _, _, rfl, kn2⟩
  obtain ⟨x2, x3, x4, x5, x6, x7, x8, rfl, kn0⟩ := hW
  clear kn
  walk_at "go"
  refine kDraw kn0 (by omega) (by omega) (by omega) fun t0 H2 h0 h1 kn1 => ?_
  obtain ⟨t, rfl⟩ : ∃ t : Nat, t0 = (t : Int) := ⟨t0.toNat, by omega⟩
  walk_at "go"
  rename_i l4 H3 kn2
  refine kDraw kn2 (by omega) (by omega) (by omega) fun r H3 r0 r1 kn3 => ?_
  obtain ⟨z, hz, z0, z1⟩ : ∃ z : Int, atI [V.int 8, V.int 8, V.int 8, V.int 15] r = some (.int z) ∧ 8 ≤ z ∧ z ≤ 15 := by
    have : r = 0 ∨ r = 1 ∨ r = 2 ∨ r = 3 := by omega
    rcases this with rfl | rfl | rfl | rfl
    · exact ⟨8, at0, by decide, by decide⟩
    · exact ⟨8, at1, by decide, by decide⟩
    · exact ⟨8, at2, by decide, by decide⟩
    · exact ⟨15, at3, by decide, by decide⟩
  refine kIxL (kn3.seqL List.mem_cons_self) hz ?_
  walk_at "go"
  rename_i l5 H4 kn4
  obtain ⟨u, hu, u0, u1⟩ : ∃ u : Int, atI [V.int 15, V.int z] (1 + (t : Int) - 1) = some (.int u) ∧ 8 ≤ u ∧ u ≤ 15 := by
    have : t = 0 ∨ t = 1 := by omega
    rcases this with rfl | rfl
    · exact ⟨15, at0, by decide, by decide⟩
    · exact ⟨z, at1, z0, z1⟩
  refine kIxL (kn4.seqL List.mem_cons_self) hu ?_
  walk_at "go"
  refine kDraw kn4 (by omega) (by omega) (by omega) fun q1 H5 q0 q2 kn5 => ?_
  obtain ⟨m, hm⟩ : ∃ m : Nat, 2 + q1 = (m : Int) := ⟨(2 + q1).toNat, by omega⟩
  have e1 : 1 + (t : Int) = ((t + 1 : Nat) : Int) := by omega
  walk_at "go"
  rw [hm, e1]
  refine ⟨d, _, _, m, t + 1, rfl, by omega, by omega, by omega, by omega, kn5, fun l hs H6 hhl hhb kn6 => ?_⟩
  have hl600 : hs.length ≤ 600 := by rw [hhl, Csi_length]; exact Cs_short3 m (by omega) (t + 1 + 1) (by omega)
  have kB := kn6.sub (List.Sublist.cons₂ _ (List.nil_sublist _))
  walk_at "go"
  refine kSeq (kIfS ?_)
  walk_at "go"
  refine ⟨d, _, _, m, t + 1, .ref l, some (hs.map V.int), rfl, by omega, by omega, kB, .lst List.mem_cons_self (fun v hv => by
    obtain ⟨z, _, rfl⟩ := List.mem_map.mp hv
    exact .int _) (by rw [List.length_map]; omega), fun b H7 hb kn7 => ?_⟩
  cases b with
  | false =>
    refine kBl (iteT ?_)
    walk_at "go"
    exact q _
  | true =>
    refine kBl (iteF ?_)
    obtain ⟨hs', e, hT⟩ := hb.mp rfl
    have e := ints_inj (Option.some.inj e)
    subst e
    walk_at "go"
    refine kSeq (kRngDn (lo := ((t + 1 : Nat) : Int)) (by omega) (fun i σ' H' => ∃ (x6 x7 x8 : Option V) (L : Led) (l : Addr) (hs : List Int), σ' = [some (.ref a0), some (.ref d), x2, some (.int ((t + 1 : Nat) : Int)), some (.int (m : Int)), some (.ref l), x6, x7, x8] ∧ (l, HO.lst (hs.map V.int)) ∈ L ∧ IsTab m (t + 1 - i) hs ∧ Kn d (0 + 1 + 1 + 1 + 3000) L H') ⟨_, _, _, _, l, hs, rfl, List.mem_cons_self, hT, kn7⟩ (fun i σ' H' hi hW => ?_) (fun σ' H' hW => ?_) fun R hR => by walk_at "go"; exact hR)
    · clear hT hb kn7 kB kn6 kn5 kn4 kn3 kn2 kn1 hhb hhl hl600 e
      obtain ⟨x6, x7, x8, L, l, hs, rfl, hl, hT, kn1⟩ := hW
      obtain ⟨t', ht'⟩ : ∃ t' : Nat, t + 1 - i = t' + 1 := ⟨t - i, by omega⟩
      rw [ht'] at hT
      have eleft : ((t + 1 : Nat) : Int) - (i : Int) = ((t' + 1 : Nat) : Int) := by omega
      rw [eleft]
      have hl600 : hs.length ≤ 600 := by rw [hT.len, Csi_length]; exact Cs_short3 m (by omega) (t' + 1 + 1) (by omega)
      have hsl := sortU_len hs
      have hz2 : (uq (LS m t' hs)).length ≤ 600 := by
        have := uq_len (LS m t' hs)
        have : (LS m t' hs).length ≤ 600 := by rw [LS_length, Csi_length]; exact Cs_short3 m (by omega) (t' + 1) (by omega)
        omega
      have hz1 : (lowT m t' hs).length ≤ 600 := by
        unfold lowT
        rw [List.length_map, LS_length, Csi_length]
        exact Cs_short3 m (by omega) (t' + 1) (by omega)
      have hT2 := lowT_tab hT
      walk_at "go"
      refine kSetI (u := sortU hs) kn1 (kn1.seqL hl) (sortU_nodup _) (fun k => mem_sortU) (by omega) fun S H8 kn2 => ?_
      walk_at "go"
      refine kLenSet (kn2.at 0 rfl) ?_
      have kn3 := kn2.tail
      clear kn2
      walk_at "go"
      refine ⟨d, _, _, m, t', l, hs, rfl, by omega, by omega, hl, hT.len, kn3, fun r tl sl as L2 H9 hr2 hs2 kn4 => ?_⟩
      have hl2 := hr2.len
      walk_at "go"
      refine kSeq (kIfS ?_)
      walk_at "go"
      refine kIxT (kn4.seqT List.mem_cons_self) at0 ?_
      have eless : ((t' + 1 : Nat) : Int) - 1 = (t' : Int) := by omega
      walk_at "go"
      rw [eless]
      have hLk : ∀ {L : Led}, (tl, HO.lst ((lowT m t' hs).map V.int)) ∈ L → Lk L (.ref tl) (some ((lowT m t' hs).map V.int)) := fun h => .lst h (fun v hv => by
        obtain ⟨z, _, rfl⟩ := List.mem_map.mp hv
        exact .int _) (by rw [List.length_map]; omega)
      refine ⟨d, _, _, m, t', .ref tl, _, rfl, by omega, by omega, kn4, hLk (List.mem_cons_of_mem _ List.mem_cons_self), fun b H10 hb kn5 => ?_⟩
      obtain rfl : b = true := hb.mpr ⟨_, rfl, hT2⟩
      refine kBl (iteF ?_)
      walk_at "go"
      refine kSeq (kIfS ?_)
      walk_at "go"
      refine kIxT (kn5.seqT List.mem_cons_self) at0 ?_
      walk_at "go"
      rw [eless]
      refine ⟨d, _, _, m, t', .ref tl, _, rfl, by omega, by omega, kn5, hLk (List.mem_cons_of_mem _ List.mem_cons_self), fun b H11 hb kn6 => ?_⟩
      obtain rfl : b = true := hb.mpr ⟨_, rfl, hT2⟩
      walk_at "go"
      rw [decide_eq_true rfl]
      refine iteF ?_
      walk_at "go"
      refine kSeq (kIfS ?_)
      walk_at "go"
      refine kIxT (kn6.seqT List.mem_cons_self) at0 ?_
      walk_at "go"
      have hsl2 := sortU_len (lowT m t' hs)
      refine kSetI (u := sortU (lowT m t' hs)) kn6 (kn6.seqL (List.mem_cons_of_mem _ List.mem_cons_self)) (sortU_nodup _) (fun k => mem_sortU) (by omega) fun S2 H12 kn7 => ?_
      walk_at "go"
      refine kLenSet (kn7.at 0 rfl) ?_
      rw [dist_low]
      have kn8 := kn7.tail
      clear kn7
      walk_at "go"
      refine kIxT (kn8.seqT List.mem_cons_self) at1 ?_
      walk_at "go"
      rw [decide_eq_true (by rw [List.length_map, hl2])]
      refine iteF ?_
      walk_at "go"
      refine kIxT (kn8.seqT List.mem_cons_self) at1 ?_
      walk_at "go"
      refine ⟨(sortU hs).length, rfl, by omega, ?_⟩
      walk_at "go"
      have hfew := uq_few (m := m) (t := t') (hs := hs)
      rw [decide_eq_false (by rw [List.length_map, hl2]; exact Int.not_lt.mpr (by exact_mod_cast hfew))]
      refine iteF ?_
      walk_at "go"
      have hgo : ∀ R : VK, R (.ref tl) H12 → rIxT K (.ref r) (.int 0) H12 R := fun R hR => kIxT (kn8.seqT List.mem_cons_self) at0 hR
      have fin : IsTab m (t + 1 - (i + 1)) (lowT m t' hs) := by
        have e : t + 1 - (i + 1) = t' := by omega
        rw [e]
        exact hT2
      refine kJoin (fun σ' H' => σ' = [some (.ref a0), some (.ref d), x2, some (.int ((t + 1 : Nat) : Int)), some (.int (m : Int)), some (.ref l), some (.int ((t' + 1 : Nat) : Int)), some (.int ((sortU hs).length : Int)), some (.ref r)] ∧ H' = H12) (fun σ' H' hW => ?_) fun N join => ?_
      · obtain ⟨rfl, rfl⟩ := hW
        walk_at "go"
        refine kIxT (kn8.seqT List.mem_cons_self) at0 ?_
        exact ⟨_, _, _, _, tl, _, rfl, List.mem_cons_of_mem _ List.mem_cons_self, fin, kn8⟩
      · refine kIfS ?_
        walk_at "go"
        have no : N [some (.ref a0), some (.ref d), x2, some (.int ((t + 1 : Nat) : Int)), some (.int (m : Int)), some (.ref l), some (.int ((t' + 1 : Nat) : Int)), some (.int ((sortU hs).length : Int)), some (.ref r)] H12 := join _ _ ⟨rfl, rfl⟩
        refine iteD (fun h2 => ?_) fun h2 => ?_
        · walk_at "go"
          refine iteD (fun h3 => ?_) fun h3 => ?_
          · walk_at "go"
            refine ⟨(sortU hs).length, t' + 1, rfl, by omega, by omega, ?_⟩
            walk_at "go"
            have hm16 : m ≤ 16 := by omega
            have hge := few_names hm16 (t' + 1) hs hT
            rw [decide_eq_false (by omega)]
            refine iteF ?_
            walk_at "go"
            exact no
          · refine iteF ?_
            walk_at "go"
            exact no
        · refine kBl (iteF ?_)
          walk_at "go"
          exact no
    · obtain ⟨x6, x7, x8, L, l, hs, rfl, hl, hT, kn1⟩ := hW
      walk_at "go"
      have e0 : t + 1 - (((t + 1 : Nat) : Int)).toNat = 0 := by omega
      rw [e0] at hT
      obtain ⟨h1, h2⟩ := tab0_nodup (by omega) hT
      have h3 := sortU_len_eq h2
      refine kSetI (u := sortU hs) kn1 (kn1.seqL hl) (sortU_nodup _) (fun k => mem_sortU) (by omega) fun S H8 kn2 => ?_
      walk_at "go"
      refine kLenSet (kn2.at 0 rfl) ?_
      rw [h3, h1]
      walk_at "go"
      rw [decide_eq_true rfl]
      exact q _
theorem all_mk {l : PySem.W.OpenLaw} {w : World} {K : PySem.W.Frag} {h : Heap} {mg : Str → Option Value} {fa f0 f1 f2 f3 f4 f5 f6 f7 f8 f9 f10 f11 f12 f13 f14 f15 f16 f17 : Addr} (X : K.In h) (G : h.Ns mainGlobals mg) (hfa : mg "law" = some (.ref fa)) {od0 an0 od1 an1 od2 an2 od3 an3 od4 an4 od5 an5 od6 an6 od7 an7 od8 an8 od9 an9 od10 an10 od11 an11 od12 an12 od13 an13 od14 an14 od15 an15 od16 an16 od17 an17 : Option Addr} {sl0 sl1 sl2 sl3 sl4 sl5 sl6 sl7 sl8 sl9 sl10 sl11 sl12 sl13 sl14 sl15 sl16 sl17 : Array (Option Value)} {oc0 kV0 dc0 pm0 cd0 ct0 oc1 kV1 dc1 pm1 cd1 ct1 oc2 kV2 dc2 pm2 cd2 ct2 oc3 kV3 dc3 pm3 cd3 ct3 oc4 kV4 dc4 pm4 cd4 ct4 oc5 kV5 dc5 pm5 cd5 ct5 oc6 kV6 dc6 pm6 cd6 ct6 oc7 kV7 dc7 pm7 cd7 ct7 oc8 kV8 dc8 pm8 cd8 ct8 oc9 kV9 dc9 pm9 cd9 ct9 oc10 kV10 dc10 pm10 cd10 ct10 oc11 kV11 dc11 pm11 cd11 ct11 oc12 kV12 dc12 pm12 cd12 ct12 oc13 kV13 dc13 pm13 cd13 ct13 oc14 kV14 dc14 pm14 cd14 ct14 oc15 kV15 dc15 pm15 cd15 ct15 oc16 kV16 dc16 pm16 cd16 ct16 oc17 kV17 dc17 pm17 cd17 ct17 : Value}
    (a0 : PySem.W.nsIn K mainGlobals "is_whole" = some (some (.ref f0))) (l0 : K.lookup f0 = some ⟨oc0, od0, .func (PySem.W.fnOf "is_whole" "is_whole" (defArgs s_is_whole) (defBody s_is_whole) (defScope s_is_whole) .none kV0 dc0 pm0 an0 cd0 ct0), sl0⟩) (c0 : PySem.W.codeIn K cd0 "is_whole" = true) (k0 : PySem.W.keepIn K (.ref f0) = true)
    (a1 : PySem.W.nsIn K mainGlobals "rising" = some (some (.ref f1))) (l1 : K.lookup f1 = some ⟨oc1, od1, .func (PySem.W.fnOf "rising" "rising" (defArgs s_rising) (defBody s_rising) (defScope s_rising) .none kV1 dc1 pm1 an1 cd1 ct1), sl1⟩) (c1 : PySem.W.codeIn K cd1 "rising" = true) (k1 : PySem.W.keepIn K (.ref f1) = true)
    (a2 : PySem.W.nsIn K mainGlobals "stands" = some (some (.ref f2))) (l2 : K.lookup f2 = some ⟨oc2, od2, .func (PySem.W.fnOf "stands" "stands" (defArgs s_stands) (defBody s_stands) (defScope s_stands) .none kV2 dc2 pm2 an2 cd2 ct2), sl2⟩) (c2 : PySem.W.codeIn K cd2 "stands" = true) (k2 : PySem.W.keepIn K (.ref f2) = true)
    (a3 : PySem.W.nsIn K mainGlobals "is_hue" = some (some (.ref f3))) (l3 : K.lookup f3 = some ⟨oc3, od3, .func (PySem.W.fnOf "is_hue" "is_hue" (defArgs s_is_hue) (defBody s_is_hue) (defScope s_is_hue) .none kV3 dc3 pm3 an3 cd3 ct3), sl3⟩) (c3 : PySem.W.codeIn K cd3 "is_hue" = true) (k3 : PySem.W.keepIn K (.ref f3) = true)
    (a4 : PySem.W.nsIn K mainGlobals "is_table" = some (some (.ref f4))) (l4 : K.lookup f4 = some ⟨oc4, od4, .func (PySem.W.fnOf "is_table" "is_table" (defArgs s_is_table) (defBody s_is_table) (defScope s_is_table) .none kV4 dc4 pm4 an4 cd4 ct4), sl4⟩) (c4 : PySem.W.codeIn K cd4 "is_table" = true) (k4 : PySem.W.keepIn K (.ref f4) = true)
    (a5 : PySem.W.nsIn K mainGlobals "sets_behind" = some (some (.ref f5))) (l5 : K.lookup f5 = some ⟨oc5, od5, .func (PySem.W.fnOf "sets_behind" "sets_behind" (defArgs s_sets_behind) (defBody s_sets_behind) (defScope s_sets_behind) .none kV5 dc5 pm5 an5 cd5 ct5), sl5⟩) (c5 : PySem.W.codeIn K cd5 "sets_behind" = true) (k5 : PySem.W.keepIn K (.ref f5) = true)
    (a6 : PySem.W.nsIn K mainGlobals "lowered" = some (some (.ref f6))) (l6 : K.lookup f6 = some ⟨oc6, od6, .func (PySem.W.fnOf "lowered" "lowered" (defArgs s_lowered) (defBody s_lowered) (defScope s_lowered) .none kV6 dc6 pm6 an6 cd6 ct6), sl6⟩) (c6 : PySem.W.codeIn K cd6 "lowered" = true) (k6 : PySem.W.keepIn K (.ref f6) = true)
    (a7 : PySem.W.nsIn K mainGlobals "most_names" = some (some (.ref f7))) (l7 : K.lookup f7 = some ⟨oc7, od7, .func (PySem.W.fnOf "most_names" "most_names" (defArgs s_most_names) (defBody s_most_names) (defScope s_most_names) .none kV7 dc7 pm7 an7 cd7 ct7), sl7⟩) (c7 : PySem.W.codeIn K cd7 "most_names" = true) (k7 : PySem.W.keepIn K (.ref f7) = true)
    (a8 : PySem.W.nsIn K mainGlobals "_law_draw" = some (some (.ref f8))) (l8 : K.lookup f8 = some ⟨oc8, od8, .func (PySem.W.fnOf "_law_draw" "_law_draw" (defArgs s_law_draw) (defBody s_law_draw) (defScope s_law_draw) .none kV8 dc8 pm8 an8 cd8 ct8), sl8⟩) (c8 : PySem.W.codeIn K cd8 "_law_draw" = true) (k8 : PySem.W.keepIn K (.ref f8) = true)
    (a9 : PySem.W.nsIn K mainGlobals "_law_whole" = some (some (.ref f9))) (l9 : K.lookup f9 = some ⟨oc9, od9, .func (PySem.W.fnOf "_law_whole" "_law_whole" (defArgs s_law_whole) (defBody s_law_whole) (defScope s_law_whole) .none kV9 dc9 pm9 an9 cd9 ct9), sl9⟩) (c9 : PySem.W.codeIn K cd9 "_law_whole" = true) (k9 : PySem.W.keepIn K (.ref f9) = true)
    (a10 : PySem.W.nsIn K mainGlobals "_law_stands" = some (some (.ref f10))) (l10 : K.lookup f10 = some ⟨oc10, od10, .func (PySem.W.fnOf "_law_stands" "_law_stands" (defArgs s_law_stands) (defBody s_law_stands) (defScope s_law_stands) .none kV10 dc10 pm10 an10 cd10 ct10), sl10⟩) (c10 : PySem.W.codeIn K cd10 "_law_stands" = true) (k10 : PySem.W.keepIn K (.ref f10) = true)
    (a11 : PySem.W.nsIn K mainGlobals "_law_is_table" = some (some (.ref f11))) (l11 : K.lookup f11 = some ⟨oc11, od11, .func (PySem.W.fnOf "_law_is_table" "_law_is_table" (defArgs s_law_is_table) (defBody s_law_is_table) (defScope s_law_is_table) .none kV11 dc11 pm11 an11 cd11 ct11), sl11⟩) (c11 : PySem.W.codeIn K cd11 "_law_is_table" = true) (k11 : PySem.W.keepIn K (.ref f11) = true)
    (a12 : PySem.W.nsIn K mainGlobals "_law_table" = some (some (.ref f12))) (l12 : K.lookup f12 = some ⟨oc12, od12, .func (PySem.W.fnOf "_law_table" "_law_table" (defArgs s_law_table) (defBody s_law_table) (defScope s_law_table) .none kV12 dc12 pm12 an12 cd12 ct12), sl12⟩) (c12 : PySem.W.codeIn K cd12 "_law_table" = true) (k12 : PySem.W.keepIn K (.ref f12) = true)
    (a13 : PySem.W.nsIn K mainGlobals "_law_scaled" = some (some (.ref f13))) (l13 : K.lookup f13 = some ⟨oc13, od13, .func (PySem.W.fnOf "_law_scaled" "_law_scaled" (defArgs s_law_scaled) (defBody s_law_scaled) (defScope s_law_scaled) .none kV13 dc13 pm13 an13 cd13 ct13), sl13⟩) (c13 : PySem.W.codeIn K cd13 "_law_scaled" = true) (k13 : PySem.W.keepIn K (.ref f13) = true)
    (a14 : PySem.W.nsIn K mainGlobals "_law_may" = some (some (.ref f14))) (l14 : K.lookup f14 = some ⟨oc14, od14, .func (PySem.W.fnOf "_law_may" "_law_may" (defArgs s_law_may) (defBody s_law_may) (defScope s_law_may) .none kV14 dc14 pm14 an14 cd14 ct14), sl14⟩) (c14 : PySem.W.codeIn K cd14 "_law_may" = true) (k14 : PySem.W.keepIn K (.ref f14) = true)
    (a15 : PySem.W.nsIn K mainGlobals "_law_power" = some (some (.ref f15))) (l15 : K.lookup f15 = some ⟨oc15, od15, .func (PySem.W.fnOf "_law_power" "_law_power" (defArgs s_law_power) (defBody s_law_power) (defScope s_law_power) .none kV15 dc15 pm15 an15 cd15 ct15), sl15⟩) (c15 : PySem.W.codeIn K cd15 "_law_power" = true) (k15 : PySem.W.keepIn K (.ref f15) = true)
    (a16 : PySem.W.nsIn K mainGlobals "_law_most_right" = some (some (.ref f16))) (l16 : K.lookup f16 = some ⟨oc16, od16, .func (PySem.W.fnOf "_law_most_right" "_law_most_right" (defArgs s_law_most_right) (defBody s_law_most_right) (defScope s_law_most_right) .none kV16 dc16 pm16 an16 cd16 ct16), sl16⟩) (c16 : PySem.W.codeIn K cd16 "_law_most_right" = true) (k16 : PySem.W.keepIn K (.ref f16) = true)
    (a17 : PySem.W.nsIn K mainGlobals "law" = some (some (.ref f17))) (l17 : K.lookup f17 = some ⟨oc17, od17, .func (PySem.W.fnOf "law" "law" (defArgs s_law) (defBody s_law) (defScope s_law) .none kV17 dc17 pm17 an17 cd17 ct17), sl17⟩) (c17 : PySem.W.codeIn K cd17 "law" = true) (k17 : PySem.W.keepIn K (.ref f17) = true)
    (y0c : PySem.W.nsIn K mainGlobals "combinations" = some (some (.type "itertools.combinations")))
    (z0 : PySem.W.nsIn K mainGlobals "len" = some none)
    (z1 : PySem.W.nsIn K mainGlobals "range" = some none)
    (z2 : PySem.W.nsIn K mainGlobals "max" = some none)
    (z3 : PySem.W.nsIn K mainGlobals "min" = some none)
    (z4 : PySem.W.nsIn K mainGlobals "int" = some none)
    (z5 : PySem.W.nsIn K mainGlobals "bool" = some none)
    (z6 : PySem.W.nsIn K mainGlobals "str" = some none)
    (z7 : PySem.W.nsIn K mainGlobals "list" = some none)
    (z8 : PySem.W.nsIn K mainGlobals "tuple" = some none)
    (z9 : PySem.W.nsIn K mainGlobals "isinstance" = some none)
    (z10 : PySem.W.nsIn K mainGlobals "repr" = some none)
    (z11 : PySem.W.nsIn K mainGlobals "all" = some none)
    (z12 : PySem.W.nsIn K mainGlobals "any" = some none)
    (z13 : PySem.W.nsIn K mainGlobals "enumerate" = some none)
    (z14 : PySem.W.nsIn K mainGlobals "sorted" = some none)
    (z15 : PySem.W.nsIn K mainGlobals "ValueError" = some none)
    (z16 : PySem.W.nsIn K mainGlobals "zip" = some none)
    (z17 : PySem.W.nsIn K mainGlobals "sum" = some none)
    (z18 : PySem.W.nsIn K mainGlobals "set" = some none)
    (z19 : PySem.W.nsIn K mainGlobals "reversed" = some none)
    (z20 : PySem.W.nsIn K mainGlobals "divmod" = some none)
    (z21 : PySem.W.nsIn K mainGlobals "dict" = some none) :
    ∃ fd : FuncData, (∀ (s : Shared) (v : Value), BindsTo s fd ⟨[v], []⟩ [("script", v)]) ∧ ∀ base : Heap, K.In base → base.Ns mainGlobals mg → FnOk l.prog w K mg base CX0 5 fa fd ["script"] (spLaw K) := by
  have e := hfa.symm.trans (PySem.W.mg_of X G a17)
  cases e
  have M : Bl mg := ⟨PySem.W.mg_none_of X G z0, PySem.W.mg_none_of X G z1, PySem.W.mg_none_of X G z2, PySem.W.mg_none_of X G z3, PySem.W.mg_none_of X G z4, PySem.W.mg_none_of X G z5, PySem.W.mg_none_of X G z6, PySem.W.mg_none_of X G z7, PySem.W.mg_none_of X G z8, PySem.W.mg_none_of X G z9, PySem.W.mg_none_of X G z10, PySem.W.mg_none_of X G z11, PySem.W.mg_none_of X G z12, PySem.W.mg_none_of X G z13, PySem.W.mg_none_of X G z14, PySem.W.mg_none_of X G z15, PySem.W.mg_none_of X G z16, PySem.W.mg_none_of X G z17, PySem.W.mg_none_of X G z18, PySem.W.mg_none_of X G z19, PySem.W.mg_none_of X G z20, PySem.W.mg_none_of X G z21⟩
  have F0 := fun_mk (st := s_is_whole) l0 c0 k0
  have D0 : Df K mg "is_whole" s_is_whole ["thing"] _ _ := ⟨F0, PySem.W.mg_of X G a0, F0.binds (ps := ["thing"]) fun _ _ _ _ _ _ us hl => match us, hl with | [_], _ => rfl⟩
  have F1 := fun_mk (st := s_rising) l1 c1 k1
  have D1 : Df K mg "rising" s_rising ["m", "many"] _ _ := ⟨F1, PySem.W.mg_of X G a1, F1.binds (ps := ["m", "many"]) fun _ _ _ _ _ _ us hl => match us, hl with | [_, _], _ => rfl⟩
  have F2 := fun_mk (st := s_stands) l2 c2 k2
  have D2 : Df K mg "stands" s_stands ["m", "t"] _ _ := ⟨F2, PySem.W.mg_of X G a2, F2.binds (ps := ["m", "t"]) fun _ _ _ _ _ _ us hl => match us, hl with | [_, _], _ => rfl⟩
  have F3 := fun_mk (st := s_is_hue) l3 c3 k3
  have D3 : Df K mg "is_hue" s_is_hue ["thing"] _ _ := ⟨F3, PySem.W.mg_of X G a3, F3.binds (ps := ["thing"]) fun _ _ _ _ _ _ us hl => match us, hl with | [_], _ => rfl⟩
  have F4 := fun_mk (st := s_is_table) l4 c4 k4
  have D4 : Df K mg "is_table" s_is_table ["m", "t", "thing"] _ _ := ⟨F4, PySem.W.mg_of X G a4, F4.binds (ps := ["m", "t", "thing"]) fun _ _ _ _ _ _ us hl => match us, hl with | [_, _, _], _ => rfl⟩
  have F5 := fun_mk (st := s_sets_behind) l5 c5 k5
  have D5 : Df K mg "sets_behind" s_sets_behind ["m", "t", "table"] _ _ := ⟨F5, PySem.W.mg_of X G a5, F5.binds (ps := ["m", "t", "table"]) fun _ _ _ _ _ _ us hl => match us, hl with | [_, _, _], _ => rfl⟩
  have F6 := fun_mk (st := s_lowered) l6 c6 k6
  have D6 : Df K mg "lowered" s_lowered ["m", "t", "table"] _ _ := ⟨F6, PySem.W.mg_of X G a6, F6.binds (ps := ["m", "t", "table"]) fun _ _ _ _ _ _ us hl => match us, hl with | [_, _, _], _ => rfl⟩
  have F7 := fun_mk (st := s_most_names) l7 c7 k7
  have D7 : Df K mg "most_names" s_most_names ["c", "t"] _ _ := ⟨F7, PySem.W.mg_of X G a7, F7.binds (ps := ["c", "t"]) fun _ _ _ _ _ _ us hl => match us, hl with | [_, _], _ => rfl⟩
  have F8 := fun_mk (st := s_law_draw) l8 c8 k8
  have D8 : Df K mg "_law_draw" s_law_draw ["tape", "upto"] _ _ := ⟨F8, PySem.W.mg_of X G a8, F8.binds (ps := ["tape", "upto"]) fun _ _ _ _ _ _ us hl => match us, hl with | [_, _], _ => rfl⟩
  have F9 := fun_mk (st := s_law_whole) l9 c9 k9
  have D9 : Df K mg "_law_whole" s_law_whole ["thing"] _ _ := ⟨F9, PySem.W.mg_of X G a9, F9.binds (ps := ["thing"]) fun _ _ _ _ _ _ us hl => match us, hl with | [_], _ => rfl⟩
  have F10 := fun_mk (st := s_law_stands) l10 c10 k10
  have D10 : Df K mg "_law_stands" s_law_stands ["m", "t"] _ _ := ⟨F10, PySem.W.mg_of X G a10, F10.binds (ps := ["m", "t"]) fun _ _ _ _ _ _ us hl => match us, hl with | [_, _], _ => rfl⟩
  have F11 := fun_mk (st := s_law_is_table) l11 c11 k11
  have D11 : Df K mg "_law_is_table" s_law_is_table ["m", "t", "thing"] _ _ := ⟨F11, PySem.W.mg_of X G a11, F11.binds (ps := ["m", "t", "thing"]) fun _ _ _ _ _ _ us hl => match us, hl with | [_, _, _], _ => rfl⟩
  have F12 := fun_mk (st := s_law_table) l12 c12 k12
  have D12 : Df K mg "_law_table" s_law_table ["tape", "m", "t"] _ _ := ⟨F12, PySem.W.mg_of X G a12, F12.binds (ps := ["tape", "m", "t"]) fun _ _ _ _ _ _ us hl => match us, hl with | [_, _, _], _ => rfl⟩
  have F13 := fun_mk (st := s_law_scaled) l13 c13 k13
  have D13 : Df K mg "_law_scaled" s_law_scaled ["tape", "found"] _ _ := ⟨F13, PySem.W.mg_of X G a13, F13.binds (ps := ["tape", "found"]) fun _ _ _ _ _ _ us hl => match us, hl with | [_, _], _ => rfl⟩
  have F14 := fun_mk (st := s_law_may) l14 c14 k14
  have D14 : Df K mg "_law_may" s_law_may ["m", "known", "stand", "hue"] _ _ := ⟨F14, PySem.W.mg_of X G a14, F14.binds (ps := ["m", "known", "stand", "hue"]) fun _ _ _ _ _ _ us hl => match us, hl with | [_, _, _, _], _ => rfl⟩
  have F15 := fun_mk (st := s_law_power) l15 c15 k15
  have D15 : Df K mg "_law_power" s_law_power ["number"] _ _ := ⟨F15, PySem.W.mg_of X G a15, F15.binds (ps := ["number"]) fun _ _ _ _ _ _ us hl => match us, hl with | [_], _ => rfl⟩
  have F16 := fun_mk (st := s_law_most_right) l16 c16 k16
  have D16 : Df K mg "_law_most_right" s_law_most_right ["c"] _ _ := ⟨F16, PySem.W.mg_of X G a16, F16.binds (ps := ["c"]) fun _ _ _ _ _ _ us hl => match us, hl with | [_], _ => rfl⟩
  have F17 := fun_mk (st := s_law) l17 c17 k17
  have D17 : Df K mg "law" s_law ["script"] _ _ := ⟨F17, PySem.W.mg_of X G a17, F17.binds (ps := ["script"]) fun _ _ _ _ _ _ us hl => match us, hl with | [_], _ => rfl⟩
  exact ⟨PySem.W.fnOf "law" "law" (defArgs s_law) (defBody s_law) (defScope s_law) .none kV17 dc17 pm17 an17 cd17 ct17, fun s v => .of_eq rfl, fun base _ _ => ok_law (PySem.W.mg_of X G y0c) D0 D1 D2 D3 D4 D5 D6 D7 D8 D9 D10 D11 D12 D13 D14 D15 D16 D17 M⟩
end Rg
open PySem PySem.W PyProof.Rows
set_option maxRecDepth 100000 in
set_option maxHeartbeats 0 in
theorem PySem.Challenge.cw_ringhue_k53_whole_lowered_tables_are_rig_holds : PySem.Challenge.rw_ringhue_k53_whole_lowered_tables_are_rig.Holds := by
  w_on; o_law; k_head; (case hw => w_witness2)
  k_fill
  refine L2.walk_of (l := PySem.Challenge.rw_ringhue_k53_whole_lowered_tables_are_rig) (n := 63) (k := 5) (x := "script") (CX := fun _ => L2.CX0) (sp := fun w => Rg.spLaw _) rfl (by decide) rfl ⟨rfl, by decide, by decide⟩ (fun w h Y => PySem.W.kIn_of Y) ?F (fun _ _ a ns hl _ hS => ⟨a, ns, rfl, hS, hl, fun _ => rfl⟩) (fun _ _ _ _ _ h => h)
  case F =>
    intro w mg fa h KX G hmg
    refine' Rg.all_mk KX G hmg ?a0 ?l0 ?c0 ?k0 ?a1 ?l1 ?c1 ?k1 ?a2 ?l2 ?c2 ?k2 ?a3 ?l3 ?c3 ?k3 ?a4 ?l4 ?c4 ?k4 ?a5 ?l5 ?c5 ?k5 ?a6 ?l6 ?c6 ?k6 ?a7 ?l7 ?c7 ?k7 ?a8 ?l8 ?c8 ?k8 ?a9 ?l9 ?c9 ?k9 ?a10 ?l10 ?c10 ?k10 ?a11 ?l11 ?c11 ?k11 ?a12 ?l12 ?c12 ?k12 ?a13 ?l13 ?c13 ?k13 ?a14 ?l14 ?c14 ?k14 ?a15 ?l15 ?c15 ?k15 ?a16 ?l16 ?c16 ?k16 ?a17 ?l17 ?c17 ?k17 ?y0c ?z0 ?z1 ?z2 ?z3 ?z4 ?z5 ?z6 ?z7 ?z8 ?z9 ?z10 ?z11 ?z12 ?z13 ?z14 ?z15 ?z16 ?z17 ?z18 ?z19 ?z20 ?z21
    (case a0 => k_is)
    (case l0 => k_is)
    (case c0 => k_is)
    (case k0 => k_is)
    (case a1 => k_is)
    (case l1 => k_is)
    (case c1 => k_is)
    (case k1 => k_is)
    (case a2 => k_is)
    (case l2 => k_is)
    (case c2 => k_is)
    (case k2 => k_is)
    (case a3 => k_is)
    (case l3 => k_is)
    (case c3 => k_is)
    (case k3 => k_is)
    (case a4 => k_is)
    (case l4 => k_is)
    (case c4 => k_is)
    (case k4 => k_is)
    (case a5 => k_is)
    (case l5 => k_is)
    (case c5 => k_is)
    (case k5 => k_is)
    (case a6 => k_is)
    (case l6 => k_is)
    (case c6 => k_is)
    (case k6 => k_is)
    (case a7 => k_is)
    (case l7 => k_is)
    (case c7 => k_is)
    (case k7 => k_is)
    (case a8 => k_is)
    (case l8 => k_is)
    (case c8 => k_is)
    (case k8 => k_is)
    (case a9 => k_is)
    (case l9 => k_is)
    (case c9 => k_is)
    (case k9 => k_is)
    (case a10 => k_is)
    (case l10 => k_is)
    (case c10 => k_is)
    (case k10 => k_is)
    (case a11 => k_is)
    (case l11 => k_is)
    (case c11 => k_is)
    (case k11 => k_is)
    (case a12 => k_is)
    (case l12 => k_is)
    (case c12 => k_is)
    (case k12 => k_is)
    (case a13 => k_is)
    (case l13 => k_is)
    (case c13 => k_is)
    (case k13 => k_is)
    (case a14 => k_is)
    (case l14 => k_is)
    (case c14 => k_is)
    (case k14 => k_is)
    (case a15 => k_is)
    (case l15 => k_is)
    (case c15 => k_is)
    (case k15 => k_is)
    (case a16 => k_is)
    (case l16 => k_is)
    (case c16 => k_is)
    (case k16 => k_is)
    (case a17 => k_is)
    (case l17 => k_is)
    (case c17 => k_is)
    (case k17 => k_is)
    (case y0c => k_is)
    (case z0 => k_is)
    (case z1 => k_is)
    (case z2 => k_is)
    (case z3 => k_is)
    (case z4 => k_is)
    (case z5 => k_is)
    (case z6 => k_is)
    (case z7 => k_is)
    (case z8 => k_is)
    (case z9 => k_is)
    (case z10 => k_is)
    (case z11 => k_is)
    (case z12 => k_is)
    (case z13 => k_is)
    (case z14 => k_is)
    (case z15 => k_is)
    (case z16 => k_is)
    (case z17 => k_is)
    (case z18 => k_is)
    (case z19 => k_is)
    (case z20 => k_is)
    (case z21 => k_is)


